import PyProof.Rows.All
import Wide.All
import OpenK.AllK
import Wide.FinOn
import HandS.ForMost
import HandS.Rev
import KE.KDictList
import HandS.Style
import HandS.More
import HandS.IsInst
import HandS.StrMore
import HandS.Wide
import HandS.Codes
import HandS.Walk
import HandS.NoneIn
import HandS.WordsExc
import PyProof.AutoSeq1
import HandS.TupAny
import HandS.Conv
import HandS.SetFor
import HandS.ListEq
import HandS.Deep
import HandS.Strs
import HandS.TupLe
import HandS.WordsDict
import KE.GoesMore
import KE.GoesEnum
import KE.SortData
import HandS.RevRange
import PySem.Challenge.RW_takeleave_k39_places_and_words
set_option Elab.async false
set_option linter.all false
set_option maxRecDepth 100000
set_option maxHeartbeats 4000000
namespace Cm
open PySem PySem.Spec PyProof.Rows L2 RT
section
variable {prog : Program} {w : World} {A : Around} {E : Value → Shared → Prop} {s : Shared}
/-- list.extend over a reversed list, into the empty list at T -/
theorem revExt {J l T : Addr} {vs : Array Value} {res : Value} {c : Nat} {R : Result → Shared → Prop} (hh : A.handled = none) (hJ : s.heap.IsRevIter J l ((vs.size : Int) - 1)) (hl : s.heap.IsList l vs) (nJ : l ≠ J) (hn : vs.size ≤ sizeLine)
    (nTJ : T ≠ J) (nTl : T ≠ l) (hT : s.heap.get? T = some { cls := .type "list", data := .seq #[] c })
    (hR : ∀ h' tk acc' c', (∀ b o, b ≠ T → b ≠ J → s.heap.get? b = some o → h'.get? b = some o) → h'.get? T = some { cls := .type "list", dict := none, data := .seq acc' c', slots := #[] } → ItemsOf (fun i v => vs[vs.size - 1 - i]? = some v) acc' vs.size → R (.ok (.ret res)) { s with heap := h', toks := tk }) :
    wpAny (model prog w) A.in1 (Builtin.List.listExtendWith (.ref T) (.ref J) res)
      (fun fin s' => match fin with | .done f => R (.ok f) s' | .again c' => c'.quiet = true ∧ codeAny (model prog w) A c' R s') (fun e s' => R (.error e) s') s := by
  have WS := (Walks.listRev (prog := prog) (w := w) (A := A.in1) hh J l nJ vs).toS
  have tyJ : s.TypeIs (.ref J) "list_reverseiterator" := Heap.IsRevIter.typeIs hJ
  have nf : T ∉ [J, l] := by simp only [List.mem_cons, List.not_mem_nil, or_false, not_or]; exact And.intro nTJ nTl
  have ns : Builtin.List.listSameRef (.ref T) (.ref J) = false := by simp [Builtin.List.listSameRef, nTJ]
  unfold Builtin.List.listExtendWith
  refine wpAny_bind (wpAny_typeOf tyJ ?_)
  rw [if_neg (by rw [ns]; decide)]
  refine wpAny_bind (wpAny_pyIter_revIter hJ (wpAny_bind (wpAny_holding ?_)))
  unfold Builtin.List.listLengthHint
  refine wpAny_bind (wpAny_specialOf tyJ nolen_lri ?_)
  show wpAny _ A.in1 (specialOf (Value.ref J) (Str.ofString "__length_hint__") >>= _) _ _ _
  refine wpAny_bind (wpAny_specialOf tyJ hint_lri ?_)
  generalize eid : ("list_reverseiterator.__length_hint__" : String) = idz
  wp_delta
  rw [show splitId idz = some ("list_reverseiterator", "__length_hint__") from by subst eid; decide +kernel]
  subst eid
  refine wpAny_bind (wpAny_isInstance (b := true) tyJ (by rw [isSubtype_type]; kernel_rfl) (wpAny_pure ?_))
  rw [if_neg (by decide)]
  have z0 : ((vs.size : Nat) : Int) - 1 - ((0 : Nat) : Int) = (vs.size : Int) - 1 := by omega
  refine wpAny_pure ⟨plainId_quiet F.plain_extend_loop _, codeAny_extend_loopS WS hn _ nf _ vs.size 0 _ _ _ rfl (Nat.zero_le _) ⟨Nat.zero_le _, by rw [z0]; exact hJ, hl⟩ hT (ItemsOf.nil _) fun s' acc' c' hm hS' hacc => ?_⟩
  rw [Moved.eq_with hm]
  refine hR s'.heap s'.toks acc' c' (fun b o n1 n2 e => hm.heap b o (fun q => ?_) e) hS' hacc
  rcases List.mem_cons.mp q with z | z
  · exact n1 z
  · exact n2 (List.mem_singleton.mp z)
theorem revInit {J l T : Addr} {vs : Array Value} {R : Result → Shared → Prop} (hh : A.handled = none) (hJ : s.heap.IsRevIter J l ((vs.size : Int) - 1)) (hl : s.heap.IsList l vs) (nJ : l ≠ J) (hn : vs.size ≤ sizeLine)
    (nTJ : T ≠ J) (nTl : T ≠ l) (hT : s.heap.get? T = some { cls := .type "list", data := .seq #[] })
    (hR : ∀ h' tk acc' c', (∀ b o, b ≠ T → b ≠ J → s.heap.get? b = some o → h'.get? b = some o) → h'.get? T = some { cls := .type "list", dict := none, data := .seq acc' c', slots := #[] } → ItemsOf (fun i v => vs[vs.size - 1 - i]? = some v) acc' vs.size → R (.ok (.ret .none)) { s with heap := h', toks := tk }) :
    wpAny (model prog w) A.in1 (Builtin.«list.__init__» ⟨[.ref T, .ref J], []⟩)
      (fun fin s' => match fin with | .done f => R (.ok f) s' | .again c' => c'.quiet = true ∧ codeAny (model prog w) A c' R s') (fun e s' => R (.error e) s') s := by
  show wpAny _ _ (do let old ← Builtin.List.listItems (.ref T); Builtin.List.listUpdate (.ref T) (fun _ => #[]); letGo old.toList.reverse; Builtin.List.listExtendWith (.ref T) (.ref J) .none) _ _ s
  refine wpAny_bind ?_; unfold Builtin.List.listItems
  refine wpAny_bind (wpAny_seqItems hT rfl (wpAny_pure ?_))
  show wpAny _ _ (updateSeq T (fun _ => #[]) >>= fun _ => letGo (#[] : Array Value).toList.reverse >>= fun _ => Builtin.List.listExtendWith (.ref T) (.ref J) .none) _ _ s
  refine wpAny_bind (wpAny_updateSeq hT rfl ?_)
  have hT2 := Heap.get?_update_self (Obj.mapSeq (fun _ => (#[] : Array Value))) hT rfl
  have other : ∀ b o, b ≠ T → s.heap.get? b = some o → (s.heap.update T (Obj.mapSeq (fun _ => (#[] : Array Value)))).get? b = some o :=
    fun b o hb e => (Heap.get?_update_other _ _ (Ne.symm hb)).trans e
  refine wpAny_bind (wpAny_letGo (revExt hh (hJ.at fun o e => other _ o nTJ.symm e) (hl.at fun o e => other _ o nTl.symm e) nJ hn nTJ nTl hT2 fun h' tk acc' c' hk hS' hacc => ?_))
  exact hR h' tk acc' c' (fun b o n1 n2 e => hk b o n1 n2 (other b o n1 e)) hS' hacc
theorem call_list_rev {J l : Addr} {vs : Array Value} {Q : Value → Shared → Prop} (hh : A.handled = none) (hJ : s.heap.IsRevIter J l ((vs.size : Int) - 1)) (hl : s.heap.IsList l vs) (nJ : l ≠ J) (hn : vs.size ≤ sizeLine)
    (hQ : ∀ h' tk acc' c', (∀ b o, b ≠ J → s.heap.get? b = some o → h'.get? b = some o) → h'.get? s.heap.objs.size = some { cls := .type "list", dict := none, data := .seq acc' c', slots := #[] } → ItemsOf (fun i v => vs[vs.size - 1 - i]? = some v) acc' vs.size → Q (.ref s.heap.objs.size) { s with heap := h', toks := tk }) :
    wpAny (model prog w) A (call (.type "list") [.ref J]) Q E s := by
  refine callType_codes (Q₁ := fun obj s₁ => obj = .ref s.heap.objs.size ∧ s₁ = { s with heap := s.heap.push { cls := .type "list", data := .seq #[] } }) PySem.F.called_list (PySem.F.typeCall_list_1 _) PySem.F.entry_list_init
    (code_list_new _ ⟨rfl, rfl⟩) fun obj s₁ z => ?_
  obtain ⟨rfl, rfl⟩ := z
  have hT : (s.heap.push { cls := .type "list", data := .seq #[] }).get? s.heap.objs.size = some { cls := .type "list", data := .seq #[] } := Heap.get?_push_size _ rfl
  obtain ⟨oi, hoi, _⟩ := id hJ
  obtain ⟨ol, hol, _⟩ := id hl
  refine ⟨⟨_, hT, rfl⟩, PySem.F.args_list_init_2 _ _, revInit (A := A.in1) hh (hJ.at fun o e => Heap.get?_push_of_some _ e) (hl.push _) nJ hn (Nat.ne_of_gt (Heap.lt_size hoi)) (Nat.ne_of_gt (Heap.lt_size hol)) hT (fun h' tk acc' c' hk hS' hacc => ?_)⟩
  exact ⟨rfl, hQ h' tk acc' c' (fun b o n e => hk b o (Nat.ne_of_lt (Heap.lt_size e)) n (Heap.get?_push_of_some _ e)) hS' hacc⟩
end
/-- list(reversed(x)), x a list: a new list -/
def tLstRev (K : PySem.W.Frag) (te : TE) : TE := fun σ H Q => te σ H fun v H1 => ∃ (a : Addr) (xs : List V), v = .ref a ∧ SqL K H1 a xs ∧ ∀ q, H1 q = none → Q (.ref q) (upd H1 q (.lst xs.reverse))
section
variable {X : Cx}
theorem pe_lstRev {e : Expr} {te : TE} {p p2 pos pos2 : Pos} (hc : X.calm = true) (hg : Gl X "list") (hm : X.mg "list" = none) (hg2 : Gl X "reversed") (hm2 : X.mg "reversed" = none) (he : PE X e te)
    (hs : starEach [e] X.env = (false, eval e X.env) :: starEach [] X.env := by rfl)
    (hs2 : starEach [.Call (.Name "reversed" p2) [e] [] pos2] X.env = (false, eval (.Call (.Name "reversed" p2) [e] [] pos2) X.env) :: starEach [] X.env := by rfl) :
    PE X (.Call (.Name "list" p) [.Call (.Name "reversed" p2) [e] [] pos2] [] pos) (tLstRev X.K te) := by
  refine ⟨fun pins s σ H Q I h => ?_⟩
  refine Call_ (ld_blt I hg hm (show bootBuiltins "list" = some (.type "list") by decide +kernel) (PyProof.Rows.callWith_type1 (args_cons (Call_ (ld_blt I hg2 hm2 PyProof.Rows.boot_reversed (PyProof.Rows.callWith_type1 (args_cons (thn (he.run pins s σ H _ I h) fun u s1 ⟨v, H1, I1, r1, q1⟩ => args_nil ?_) hs) hs rfl))) hs2) hs2 rfl))
  obtain ⟨a, xs, ev, hq, q⟩ := q1
  subst ev; obtain rfl : u = Value.ref a := r1
  obtain ⟨its, rv, p', hz⟩ := I1.list hq
  refine call_reversed_list p'.isList (args_nil ?_)
  have k0 : ∀ b o, s1.heap.get? b = some o → (s1.heap.push (revObj a ((its.toArray.size : Int) - 1))).get? b = some o := fun b o e' => Heap.get?_push_of_some _ e'
  have I2 : Inv X pins σ H1 { s1 with heap := s1.heap.push (revObj a ((its.toArray.size : Int) - 1)) } := I1.kept (t' := s1.toks) k0
  obtain ⟨f0, f1, f2, f3, f4, f5⟩ := I1.fpOk (H' := H1) (b := s1.heap.objs.size) (Nat.le_refl _) (I1.hok.fresh (Nat.le_refl _))
  have isl := p'.isList
  obtain ⟨ol, hol, _⟩ := id isl
  have hne : a ≠ s1.heap.objs.size := Nat.ne_of_lt (Heap.lt_size hol)
  have hn : its.toArray.size ≤ sizeLine := by rw [List.size_toArray, ← rv.length]; exact hz
  refine call_list_rev (s := { s1 with heap := s1.heap.push (revObj a ((its.toArray.size : Int) - 1)) }) (I1.ok.hd hc) ⟨_, Heap.get?_push_size _ rfl, rfl, rfl⟩ (isl.push _) hne hn fun h' tk acc c' hk hT hi => ?_
  have hk' : ∀ b o, s1.heap.get? b = some o → h'.get? b = some o := fun b o e' => hk b o (Nat.ne_of_lt (Heap.lt_size e')) (k0 b o e')
  have sz : s1.heap.objs.size ≤ (s1.heap.push (revObj a ((its.toArray.size : Int) - 1))).objs.size := by
    rw [Heap.size_push]; exact Nat.le_succ _
  refine ⟨.ref _, upd H1 _ (.lst xs.reverse), I1.laid (t' := tk) hk' sz (show ObjOk X.prog X.w _ _ _ (.lst xs.reverse) from ⟨by rw [List.length_reverse]; exact hz, acc.toList, c', vals_rev rv hi, ?_⟩), rfl, q _ (I1.hok.fresh sz)⟩
  rw [Array.toArray_toList]
  exact hT
end
end Cm
namespace Cm
open PySem PySem.W L2 SX
theorem same_new {H : Hp} {p : Addr} (h : H p = none) (o : HO) : Same H (upd H p o) := fun b u q => by rw [upd_ne (ne_of_none q h)]; exact q
theorem own_new {H H' : Hp} {p : Addr} {o : HO} (s : Same H H') (h : H p = none) : Same H (upd H' p o) := fun b u q => by rw [upd_ne (ne_of_none q h)]; exact s _ _ q
theorem cut_map {α : Type} (f : α → V) (xs : List α) (lo hi : Option Int) : ∃ ys : List α, cutV (xs.map f) lo hi = ys.map f ∧ ys.length ≤ xs.length := by
  unfold cutV
  refine ⟨(xs.drop (HT.sIx (xs.map f).length 0 lo)).take (HT.sIx (xs.map f).length (xs.map f).length hi - HT.sIx (xs.map f).length 0 lo), ?_, ?_⟩
  · rw [List.map_take, List.map_drop]
  · rw [List.length_take, List.length_drop]; omega
theorem dp_ints {K : PySem.W.Frag} {H : Hp} : ∀ ns : List Int, DpAll K H (ns.map V.int) (ns.map PyData.int)
  | [] => .nil
  | n :: r => .cons (.int n) (dp_ints r)
theorem lay_ints : ∀ ns : List Int, PyData.canLayAll0 (ns.map PyData.int) = true
  | [] => rfl
  | n :: r => by
    show (PyData.canLay0 (PyData.int n) && PyData.canLayAll0 (r.map PyData.int)) = true
    rw [lay_ints r]; rfl
theorem deep_ints : ∀ ns : List Int, PyData.depthAll (ns.map PyData.int) = 0
  | [] => rfl
  | n :: r => by
    show max (PyData.depth (PyData.int n)) (PyData.depthAll (r.map PyData.int)) = 0
    rw [deep_ints r]; rfl
theorem shaped_ints (ns : List Int) : SeqAt.shaped (.list (ns.map PyData.int)) = true := by
  show (PyData.canLayAll0 (ns.map PyData.int) && decide (PyData.depthAll (ns.map PyData.int) + 1 ≤ 64)) = true
  rw [lay_ints, deep_ints]; rfl
theorem kn {H : Hp} {a t : Addr} {o o' : HO} (h : H a = some o) (n : H t = none) : upd H t o' a = some o := by rw [upd_ne (ne_of_none h n)]; exact h
/-- all but what stands at the places L is kept -/
def Kp (L : List Addr) (H H' : Hp) : Prop := ∀ b o, b ∉ L → H b = some o → H' b = some o
theorem Kp.refl (L : List Addr) (H : Hp) : Kp L H H := fun _ _ _ h => h
theorem Kp.trans {L : List Addr} {H H1 H2 : Hp} (a : Kp L H H1) (b : Kp L H1 H2) : Kp L H H2 := fun c o n h => b c o n (a c o n h)
theorem Kp.of {L : List Addr} {H H' : Hp} (s : Same H H') : Kp L H H' := fun b o _ h => s b o h
theorem Kp.new {L : List Addr} {p : Addr} {H H' : Hp} {o : HO} (a : Kp L H H') (h : H' p = none) : Kp L H (upd H' p o) := a.trans (.of (same_new h o))
theorem Kp.own {L : List Addr} {d : Addr} {H H' : Hp} {o : HO} (a : Kp L H H') (m : d ∈ L) : Kp L H (upd H' d o) := fun b u n h => by rw [upd_ne (show b ≠ d from fun z => n (by rw [z]; exact m))]; exact a b u n h
theorem Kp.mono {L M : List Addr} {H H' : Hp} (a : Kp L H H') (h : ∀ b ∈ L, b ∈ M) : Kp M H H' := fun b o n e => a b o (fun z => n (h b z)) e
theorem Kp.free {L : List Addr} {p : Addr} {H H' : Hp} (k : Kp L H H') (n : H' p = none) (m : p ∉ L) : H p = none := by
  cases e : H p with
  | none => rfl
  | some o => rw [k p o m e] at n; cases n
theorem Kp.put {L : List Addr} {p : Addr} {H H' : Hp} {o : HO} (k : Kp L H H') (n : H p = none) : Kp L H (upd H' p o) := fun b u m e => by rw [upd_ne (ne_of_none e n)]; exact k b u m e
theorem Kp.same {L : List Addr} {H0 H H' : Hp} (a : Kp L H H') (s : Same H0 H) (h : ∀ b ∈ L, H0 b = none) : Same H0 H' := fun b o e => a b o (fun z => by rw [h b z] at e; cases e) (s b o e)
theorem cutS_to {a : List Nat} {i : Int} (h : 0 ≤ i) : cutS (S a) none (some i) = S (a.take i.toNat) := by
  obtain ⟨n, rfl⟩ := Int.eq_ofNat_of_zero_le h
  unfold cutS
  rw [HT.sIx_none, HT.sIx_nat, S_len]
  show S (List.take (min n a.length - 0) (List.drop 0 a)) = S (a.take n)
  rw [List.drop_zero, Nat.sub_zero]
  by_cases h : n ≤ a.length
  · rw [Nat.min_eq_left h]
  · rw [Nat.min_eq_right (by omega), List.take_of_length_le (Nat.le_refl a.length), List.take_of_length_le (show a.length ≤ n by omega)]
/-- a comprehension over a text's signs, whose element is a plain value -/
theorem lc_txt {z : List Nat} (f : Nat → V) {g : TG} {te : TE} {vs : List Nat} {σ : St} {H1 : Hp} {D : Addr} {Qd : Hp → Prop} (hl : z.length ≤ 1000)
    (hs : ∀ c H (R : V → Hp → Prop), c ∈ z → R (f c) H → g (.str ⟨#[c]⟩) (wipe σ vs) H fun σ2 H2 => wipe σ2 vs = wipe σ vs ∧ te σ2 H2 R) (hd : Qd (upd H1 D (.lst (z.map f)))) :
    ∃ W : Nat → Nat → Hp → Prop, (∃ m, W 0 m (upd H1 D (.lst []))) ∧ ∀ i m H, W i m H →
      ((Its (S z)).stop i H ∧ Qd H) ∨ ((Its (S z)).go i H ∧ ∃ Nx : Hp → Prop, (∀ H', Nx H' → ∃ m', m' < m ∧ W (i + 1) m' H') ∧ ∀ x H', (Its (S z)).yld i H x H' → g x (wipe σ vs) H' fun σ2 H2 => wipe σ2 vs = wipe σ vs ∧ tYes σ2 H2 fun b H3 =>
        if b = true then te σ2 H3 fun y H4 => ∃ acc, H4 D = some (.lst acc) ∧ acc.length < sizeLine ∧ Nx (upd H4 D (.lst (acc ++ [y]))) else Nx H3) := by
  refine lc_it (walk_str (z := S z)) (fun i H => H = upd H1 D (.lst ((z.take i).map f))) rfl (fun _ _ _ _ => trivial) ?_ ?_
  · rintro i x H H' hi rfl ⟨rfl, c, hc, rfl⟩
    have hc' : z[i]? = some c := by
      rw [← hc]; show z[i]? = (z.toArray)[i]?; rw [List.getElem?_toArray]
    refine hs c _ (fun y H4 => ∃ acc, H4 D = some (.lst acc) ∧ acc.length < sizeLine ∧ upd H4 D (.lst (acc ++ [y])) = upd H1 D (.lst ((z.take (i + 1)).map f))) (List.mem_of_getElem? hc') ⟨_, upd_same, ?_, ?_⟩
    · rw [List.length_map, List.length_take]; exact small1000 (by omega)
    · rw [upd_upd, List.take_add_one, hc', List.map_append]; rfl
  · rintro H rfl
    have e : (S z).cps.size = z.length := by show z.toArray.size = _; rw [List.size_toArray]
    rw [e, List.take_length]
    exact hd
theorem starts_S (x y : List Nat) : Txt.startswith (S x) (S y) = decide (x.take y.length = y) := by
  unfold Txt.startswith PySem.Builtin.Str.subAt
  rw [S_len, S_len]
  show (decide (0 + y.length ≤ x.length) && ((x.toArray.extract 0 (0 + (S y).length)) == y.toArray)) = _
  rw [S_len, Nat.zero_add, List.extract_toArray]
  have e : (List.extract x 0 y.length) = x.take y.length := by unfold List.extract; rw [List.drop_zero, Nat.sub_zero]
  rw [e]
  by_cases h : x.take y.length = y
  · have hl : y.length ≤ x.length := by
      have := congrArg List.length h
      rw [List.length_take] at this; omega
    rw [decide_eq_true h, decide_eq_true hl, h, beq_self_eq_true]; rfl
  · rw [decide_eq_false h]
    have : ((x.take y.length).toArray == y.toArray) = false := by
      rw [beq_eq_false_iff_ne]; intro z; exact h (by have := congrArg Array.toList z; exact this)
    rw [this, Bool.and_false]
theorem par_len : ∀ (x acc t l : List Nat), TL.par [45] acc x = some (t, l) → l.length ≤ x.length
  | [], _, _, _, h => by cases h
  | c :: r, acc, t, l, h => by
    have h' : (if TL.pre [45] (c :: r) = true then some (acc, (c :: r).drop 1) else TL.par [45] (acc ++ [c]) r) = some (t, l) := h
    by_cases hp : TL.pre [45] (c :: r) = true
    · rw [if_pos hp] at h'
      cases h'
      show r.length ≤ r.length + 1
      omega
    · rw [if_neg hp] at h'
      have := par_len r _ _ _ h'
      show l.length ≤ r.length + 1
      omega
/-- the letters a to h -/
def abc8 : List Nat := [97, 98, 99, 100, 101, 102, 103, 104]
/-- whether signs are a shuffle's -/
def shufB (x : List Nat) : Bool := match TL.par [45] [] x with
  | none => false
  | some (t, l) => decide (abc8.take t.length = t) && (decide (l.length ≤ 12) && (l.map fun c => decide (c ∈ t)).all id)
def kStr : Value → Option Str
  | .str x _ => some x
  | _ => none
def absAll : List Value → Option (List V)
  | [] => some []
  | u :: r => match absV u, absAll r with
    | some x, some t => some (x :: t)
    | _, _ => none
def kTup (K : Frag) (t : Addr) : Option (List V) := match K.lookup t with
  | some ⟨.type c, _, .seq its _, _⟩ => if c = "tuple" ∧ its.size ≤ 1000 then absAll its.toList else none
  | _ => none
def kEnt (K : Frag) (e : DictEntry) : Option (Str × List V) := match e.val, kStr e.key with
  | .ref t, some k => (kTup K t).map fun xs => (k, xs)
  | _, _ => none
/-- the entries es: keys, each with what its tuple holds -/
def kTab (K : Frag) : List DictEntry → Option (List (Str × List V))
  | [] => some []
  | e :: r => match kEnt K e, kTab K r with
    | some x, some t => some (x :: t)
    | _, _ => none
theorem abs_rel {u : Value} {x : V} (h : absV u = some x) : RelV x u := by
  cases u <;> simp only [absV] at h <;> first | (cases h; done) | (cases h; first | exact rfl | exact ⟨_, rfl⟩) | cases h
theorem abs_all : ∀ {us : List Value} {xs : List V}, absAll us = some xs → Vals xs us
  | [], xs, h => by cases h; exact .nil
  | u :: r, xs, h => by
    unfold absAll at h
    cases e1 : absV u with
    | none => rw [e1] at h; cases h
    | some x =>
      cases e2 : absAll r with
      | none => rw [e1, e2] at h; cases h
      | some t =>
        rw [e1, e2] at h
        cases h
        exact .cons (abs_rel e1) (abs_all e2)
theorem kTup_ok {K : Frag} {t : Addr} {xs : List V} (h : kTup K t = some xs) (H : Hp) : SqT K H t xs := by
  unfold kTup at h
  cases e : K.lookup t with
  | none => rw [e] at h; cases h
  | some o =>
    rw [e] at h
    obtain ⟨oc, od, dt, sl⟩ := o
    cases oc with
    | type c =>
      cases dt with
      | seq its n =>
        have h' : (if c = "tuple" ∧ its.size ≤ 1000 then absAll its.toList else none) = some xs := h
        by_cases hc : c = "tuple" ∧ its.size ≤ 1000
        · rw [if_pos hc] at h'
          obtain ⟨rfl, hz⟩ := hc
          exact .inr ⟨_, its, n, e, rfl, rfl, Nat.le_of_lt (small1000 hz), abs_all h'⟩
        · rw [if_neg hc] at h'; cases h'
      | _ => cases h
    | _ => cases h
/-- what the table tells of a text -/
theorem tab_look {K : Frag} (z : Str) : ∀ {es : List DictEntry} {T : List (Str × List V)}, kTab K es = some T →
    (∀ xs, T.lookup z = some xs → ∃ e t, es.find? (·.key.isStr z) = some e ∧ e.val = .ref t ∧ kTup K t = some xs) ∧ (T.lookup z = none → es.find? (·.key.isStr z) = none) ∧ es.any (·.refKey) = false
  | [], T, h => by cases h; exact ⟨(fun xs q => by cases q), (fun _ => rfl), rfl⟩
  | e :: r, T, h => by
    unfold kTab at h
    cases e1 : kEnt K e with
    | none => rw [e1] at h; cases h
    | some x =>
      cases e2 : kTab K r with
      | none => rw [e1, e2] at h; cases h
      | some t =>
        rw [e1, e2] at h
        cases h
        obtain ⟨ih1, ih2, ih3⟩ := tab_look z e2
        obtain ⟨k, ys⟩ := x
        obtain ⟨a, hv, hk, ht⟩ : ∃ a, e.val = .ref a ∧ kStr e.key = some k ∧ kTup K a = some ys := by
          unfold kEnt at e1
          cases hv : e.val with
          | ref a =>
            cases hk : kStr e.key with
            | none => rw [hv, hk] at e1; cases e1
            | some k' =>
              rw [hv, hk] at e1
              have e1' : (kTup K a).map (fun xs => (k', xs)) = some (k, ys) := e1
              cases ht : kTup K a with
              | none => rw [ht] at e1'; cases e1'
              | some zs => rw [ht] at e1'; cases e1'; exact ⟨a, rfl, rfl, ht⟩
          | _ => rw [hv] at e1; cases e1
        obtain ⟨tk, hkey⟩ : ∃ tk, e.key = .str k tk := by
          unfold kStr at hk
          cases q : e.key with
          | str x' t' => rw [q] at hk; cases hk; exact ⟨_, rfl⟩
          | _ => rw [q] at hk; cases hk
        have hst : e.key.isStr z = (k == z) := by rw [hkey]; rfl
        have hrf : e.refKey = false := by unfold DictEntry.refKey; rw [hkey]
        refine ⟨fun xs q => ?_, fun q => ?_, ?_⟩
        · rw [List.lookup_cons] at q
          by_cases hz : z = k
          · subst hz
            rw [beq_self_eq_true] at q
            cases q
            exact ⟨e, a, by rw [List.find?_cons_of_pos (by rw [hst]; exact beq_self_eq_true z)], hv, ht⟩
          · rw [show (z == k) = false from beq_eq_false_iff_ne.mpr hz] at q
            obtain ⟨e', t', h1, h2, h3⟩ := ih1 xs q
            exact ⟨e', t', by rw [List.find?_cons_of_neg (by rw [hst]; intro y; exact hz (beq_iff_eq.mp y).symm)]; exact h1, h2, h3⟩
        · rw [List.lookup_cons] at q
          by_cases hz : z = k
          · subst hz
            rw [beq_self_eq_true] at q
            cases q
          · rw [show (z == k) = false from beq_eq_false_iff_ne.mpr hz] at q
            rw [List.find?_cons_of_neg (by rw [hst]; intro y; exact hz (beq_iff_eq.mp y).symm)]
            exact ih2 q
        · rw [List.any_cons, hrf, ih3]; rfl
def nn : List V := [V.str "number", V.str "number"]
def table : List (Str × List V) := [((("plus" : Str)), nn), ("minus", nn), ("times", nn), ("less", nn), ("same", nn), ("do", [V.str "row"]), ("dip", [V.str "any", V.str "row"]), ("if", [V.str "number", V.str "row", V.str "row"]), ("while", [V.str "row", V.str "row"]), ("repeat", [V.str "number", V.str "row"]), ("join", [V.str "row", V.str "row"]), ("wrap", [V.str "any"]), ("put", [V.str "list", V.str "any"]), ("part", [V.str "list", V.str "row", V.str "row"]), ("each", [V.str "list", V.str "row"])]
/-- the basic words' table stands at d -/
structure Tab (K : Frag) (w : World) (mg : Str → Option Value) (d : Addr) (es : Array DictEntry) (n : Nat) : Prop where
  kd : KDict K w d es n
  tab : kTab K es.toList = some table
  mg_ : mg "SORTS_TAKEN" = some (.ref d)
theorem Tab.ns {w : World} {K : PySem.W.Frag} {mg : Str → Option Value} {d : Addr} {es : Array DictEntry} {n : Nat} (T : Tab K w mg d es n) (z : Str) : (table.lookup z = none → nsIn K d z = some none) ∧ ∀ xs, table.lookup z = some xs → ∃ t, nsIn K d z = some (some (.ref t)) ∧ kTup K t = some xs := by
  obtain ⟨h1, h2, h3⟩ := tab_look z T.tab
  constructor
  · intro q
    unfold nsIn
    rw [T.kd.at_]
    show (match es.toList.find? (·.key.isStr z) with | some e => some (some e.val) | none => if es.toList.any (·.refKey) then none else some none) = some none
    rw [h2 q]
    show (if es.toList.any (·.refKey) = true then none else some none) = some none
    rw [h3]; rfl
  · intro xs q
    obtain ⟨e, t, e1, e2, e3⟩ := h1 xs q
    refine ⟨t, ?_, e3⟩
    unfold nsIn
    rw [T.kd.at_]
    show (match es.toList.find? (·.key.isStr z) with | some e => some (some e.val) | none => if es.toList.any (·.refKey) then none else some none) = some (some (.ref t))
    rw [e1]
    show some (some e.val) = _
    rw [e2]
theorem lookup_mem {z : Str} {xs : List V} : ∀ {T : List (Str × List V)}, T.lookup z = some xs → (z, xs) ∈ T
  | (k, ys) :: r, h => by
    rw [List.lookup_cons] at h
    by_cases hz : z = k
    · subst hz; rw [beq_self_eq_true] at h; cases h; exact List.mem_cons_self ..
    · rw [show (z == k) = false from beq_eq_false_iff_ne.mpr hz] at h
      exact List.mem_cons_of_mem _ (lookup_mem h)
end Cm
namespace Cm
open PySem PySem.W L2 SX
/-- a comprehension over a text's signs with a test -/
theorem lc_txtIf {z : List Nat} (p : Nat → Bool) (f : Nat → V) {g : TG} {tt : TT} {te : TE} {vs : List Nat} {σ : St} {H1 : Hp} {D : Addr} {Qd : Hp → Prop} (hl : z.length ≤ 1000)
    (hs : ∀ c H (R : V → Hp → Prop) (R0 : Hp → Prop), c ∈ z → (p c = true → R (f c) H) → (p c = false → R0 H) → g (.str ⟨#[c]⟩) (wipe σ vs) H fun σ2 H2 => wipe σ2 vs = wipe σ vs ∧ tt σ2 H2 fun b H3 => if b = true then te σ2 H3 R else R0 H3) (hd : Qd (upd H1 D (.lst ((z.filter p).map f)))) :
    ∃ W : Nat → Nat → Hp → Prop, (∃ m, W 0 m (upd H1 D (.lst []))) ∧ ∀ i m H, W i m H →
      ((Its (S z)).stop i H ∧ Qd H) ∨ ((Its (S z)).go i H ∧ ∃ Nx : Hp → Prop, (∀ H', Nx H' → ∃ m', m' < m ∧ W (i + 1) m' H') ∧ ∀ x H', (Its (S z)).yld i H x H' → g x (wipe σ vs) H' fun σ2 H2 => wipe σ2 vs = wipe σ vs ∧ tt σ2 H2 fun b H3 =>
        if b = true then te σ2 H3 fun y H4 => ∃ acc, H4 D = some (.lst acc) ∧ acc.length < sizeLine ∧ Nx (upd H4 D (.lst (acc ++ [y]))) else Nx H3) := by
  refine lc_it (walk_str (z := S z)) (fun i H => H = upd H1 D (.lst (((z.take i).filter p).map f))) rfl (fun _ _ _ _ => trivial) ?_ ?_
  · rintro i x H H' hi rfl ⟨rfl, c, hc, rfl⟩
    have hc' : z[i]? = some c := by
      rw [← hc]; show z[i]? = (z.toArray)[i]?; rw [List.getElem?_toArray]
    refine hs c _ (fun y H4 => ∃ acc, H4 D = some (.lst acc) ∧ acc.length < sizeLine ∧ upd H4 D (.lst (acc ++ [y])) = upd H1 D (.lst (((z.take (i + 1)).filter p).map f))) (fun H4 => H4 = upd H1 D (.lst (((z.take (i + 1)).filter p).map f))) (List.mem_of_getElem? hc') (fun hp => ⟨_, upd_same, ?_, ?_⟩) (fun hp => ?_)
    · have h1 := List.length_filter_le p (z.take i)
      rw [List.length_take] at h1
      rw [List.length_map]; exact small1000 (by omega)
    · rw [upd_upd, List.take_add_one, hc', List.filter_append, List.map_append]
      show _ = upd H1 D (HO.lst (List.map f (List.filter p (List.take i z)) ++ List.map f (List.filter p [c])))
      rw [List.filter_cons_of_pos hp]; rfl
    · show _ = _
      rw [List.take_add_one, hc', List.filter_append]
      show _ = upd H1 D (HO.lst (List.map f (List.filter p (List.take i z) ++ List.filter p [c])))
      rw [List.filter_cons_of_neg (by rw [hp]; decide), List.filter_nil, List.append_nil]
  · rintro H rfl
    have e : (S z).cps.size = z.length := by show z.toArray.size = _; rw [List.size_toArray]
    rw [e, List.take_length]
    exact hd
/-- a text, or something else that the law hands in -/
def Vl (H : Hp) (v : V) : Option (List Nat) → Prop
  | some x => v = .str (S x) ∧ x.length ≤ 1000
  | none => (v = .non ∨ (∃ b, v = .bl b) ∨ (∃ i, v = .int i) ∨ (∃ a xs, v = .ref a ∧ H a = some (.lst xs)) ∨ (∃ a kvs, v = .ref a ∧ H a = some (.dK kvs))) ∨ (∃ a xs, v = .ref a ∧ H a = some (.tup xs) ∧ (xs = [] ∨ ∃ z, xs = [.str z]))
theorem Vl.same {H H' : Hp} {v : V} {o : Option (List Nat)} (h : Vl H v o) (s : Same H H') : Vl H' v o := by
  cases o with
  | some x => exact h
  | none =>
    rcases h with (h | h | h | ⟨a, xs, e, h⟩ | ⟨a, xs, e, h⟩) | ⟨a, xs, e, h, g⟩
    · exact .inl (.inl h)
    · exact .inl (.inr (.inl h))
    · exact .inl (.inr (.inr (.inl h)))
    · exact .inl (.inr (.inr (.inr (.inl ⟨a, xs, e, s _ _ h⟩))))
    · exact .inl (.inr (.inr (.inr (.inr ⟨a, xs, e, s _ _ h⟩))))
    · exact .inr ⟨a, xs, e, s _ _ h, g⟩
theorem Vl.isStr {K : Frag} {H : Hp} {v : V} {o : Option (List Nat)} (h : Vl H v o) : ∃ t, TyX K H v t ∧ kitOne K t (.type "str") = some o.isSome := by
  cases o with
  | some x => exact ⟨_, by rw [h.1]; exact .base (.str _), kit_ty (r := true) (by decide +kernel)⟩
  | none =>
    rcases h with (h | ⟨b, h⟩ | ⟨i, h⟩ | ⟨a, xs, e, h⟩ | ⟨a, xs, e, h⟩) | ⟨a, xs, e, h, g⟩
    · exact ⟨_, by rw [h]; exact .base .non, kit_ty (r := false) (by decide +kernel)⟩
    · exact ⟨_, by rw [h]; exact .base (.bl _), kit_ty (r := false) (by decide +kernel)⟩
    · exact ⟨_, by rw [h]; exact .base (.int _), kit_ty (r := false) (by decide +kernel)⟩
    · exact ⟨_, by rw [e]; exact .base (.lst h), kit_ty (r := false) (by decide +kernel)⟩
    · exact ⟨_, by rw [e]; exact .base (.dK h), kit_ty (r := false) (by decide +kernel)⟩
    · exact ⟨_, by rw [e]; exact .base (.tup h), kit_ty (r := false) (by decide +kernel)⟩
/-- no tuple, or one without, or with one part -/
theorem Vl.isTup {K : Frag} {H : Hp} {v : V} (h : Vl H v none) : (∃ t, TyX K H v t ∧ kitOne K t (.type "tuple") = some false) ∨ (∃ a xs t, v = .ref a ∧ H a = some (.tup xs) ∧ (xs = [] ∨ ∃ z, xs = [.str z]) ∧ TyX K H v t ∧ kitOne K t (.type "tuple") = some true) := by
  rcases h with (h | ⟨b, h⟩ | ⟨i, h⟩ | ⟨a, xs, e, h⟩ | ⟨a, xs, e, h⟩) | ⟨a, xs, e, h, g⟩
  · exact .inl ⟨_, by rw [h]; exact .base .non, kit_ty (r := false) (by decide +kernel)⟩
  · exact .inl ⟨_, by rw [h]; exact .base (.bl _), kit_ty (r := false) (by decide +kernel)⟩
  · exact .inl ⟨_, by rw [h]; exact .base (.int _), kit_ty (r := false) (by decide +kernel)⟩
  · exact .inl ⟨_, by rw [e]; exact .base (.lst h), kit_ty (r := false) (by decide +kernel)⟩
  · exact .inl ⟨_, by rw [e]; exact .base (.dK h), kit_ty (r := false) (by decide +kernel)⟩
  · exact .inr ⟨a, xs, _, e, h, g, by rw [e]; exact .base (.tup h), kit_ty (r := true) (by decide +kernel)⟩
/-- the small letters -/
def az : List Nat := [97, 98, 99, 100, 101, 102, 103, 104, 105, 106, 107, 108, 109, 110, 111, 112, 113, 114, 115, 116, 117, 118, 119, 120, 121, 122]
/-- whether signs are a told word's name -/
def nameB (x : List Nat) : Bool := (decide (1 ≤ x.length) && decide (x.length ≤ 8)) && ((x.map fun c => decide (c ∈ az)).all id && !(table.lookup (S x)).isSome)
/-- whether signs are a word -/
def wordB (x : List Nat) : Bool := (table.lookup (S x)).isSome || (shufB x || nameB x)
def onT (f : List Nat → Bool) : Option (List Nat) → Bool
  | some x => f x
  | none => false
theorem par_spec : ∀ (x acc t l : List Nat), TL.par [45] acc x = some (t, l) → ∃ p, t = acc ++ p ∧ x = p ++ 45 :: l ∧ 45 ∉ p
  | [], _, _, _, h => by cases h
  | c :: r, acc, t, l, h => by
    have h' : (if TL.pre [45] (c :: r) = true then some (acc, (c :: r).drop 1) else TL.par [45] (acc ++ [c]) r) = some (t, l) := h
    by_cases hp : TL.pre [45] (c :: r) = true
    · rw [if_pos hp] at h'
      cases h'
      have hc : c = 45 := by
        have := eq_of_beq hp
        exact List.head_eq_of_cons_eq this
      exact ⟨[], by simp, by rw [hc]; rfl, by simp⟩
    · rw [if_neg hp] at h'
      obtain ⟨p, e1, e2, e3⟩ := par_spec r _ _ _ h'
      refine ⟨c :: p, by rw [e1]; simp, by rw [e2]; rfl, ?_⟩
      intro z
      rcases List.mem_cons.mp z with z | z
      · exact hp (by rw [← z]; rfl)
      · exact e3 z
theorem par_no : ∀ (x acc : List Nat), TL.par [45] acc x = none → 45 ∉ x
  | [], _, _ => by simp
  | c :: r, acc, h => by
    have h' : (if TL.pre [45] (c :: r) = true then some (acc, (c :: r).drop 1) else TL.par [45] (acc ++ [c]) r) = none := h
    by_cases hp : TL.pre [45] (c :: r) = true
    · rw [if_pos hp] at h'; cases h'
    · rw [if_neg hp] at h'
      intro z
      rcases List.mem_cons.mp z with z | z
      · exact hp (by rw [← z]; rfl)
      · exact par_no r _ h' z
theorem cnt_len (x : List Nat) : PyProof.Rows.cnt 45 x = (x.count 45 : Nat) := by
  induction x with
  | nil => rfl
  | cons n r ih =>
    rw [PyProof.Rows.cnt_cons, ih, List.count_cons]
    by_cases h : n = 45
    · rw [if_pos h, h]; simp; omega
    · rw [if_neg h]; simp [h]
/-- the first stroke -/
theorem index_dash {x p q : List Nat} (hx : x = p ++ 45 :: q) (hp : 45 ∉ p) (hq : 45 ∉ q) : Txt.index0 (S x) (S [45]) = some p.length := by
  obtain ⟨f, hc⟩ := PySem.StrLaws.occ_chain (S x) (S [45]) 1
  have hm : (!(Builtin.Str.occurrences (S x) (S [45]) 0 (S x).length 1).isEmpty) = decide (45 ∈ x) := in_one x 45
  have hx' : (45 : Nat) ∈ x := by rw [hx]; exact List.mem_append.mpr (.inr (List.mem_cons_self ..))
  rw [decide_eq_true hx'] at hm
  unfold Txt.index0
  cases ho : Builtin.Str.occurrences (S x) (S [45]) 0 (S x).length 1 with
  | nil => rw [ho] at hm; cases hm
  | cons i r =>
    rw [ho] at hc
    have h2 := (TL.at_iff (x := S x) (y := S [45]) (List.cons_ne_nil _ _) i).mp hc.2.1
    have h3 : (x.drop i).take 1 = [45] := eq_of_beq h2
    show some i = some p.length
    congr 1
    have h4 : x[i]? = some 45 := by
      have := congrArg (fun l => l[0]?) h3
      simp only [List.getElem?_take, List.getElem?_drop] at this
      simpa using this
    rw [hx] at h4
    by_cases h5 : i < p.length
    · rw [List.getElem?_append_left h5] at h4
      exact absurd (List.mem_of_getElem? h4) hp
    · rw [List.getElem?_append_right (by omega)] at h4
      by_cases h6 : i - p.length = 0
      · omega
      · obtain ⟨j, hj⟩ : ∃ j, i - p.length = j + 1 := ⟨i - p.length - 1, by omega⟩
        rw [hj, List.getElem?_cons_succ] at h4
        exact absurd (List.mem_of_getElem? h4) hq
end Cm
namespace Cm
open PySem PySem.W L2 SX
/-- a text of at most n signs that a text may have -/
structure Tx (z : Str) (n : Nat) : Prop where
  len : z.length ≤ n
  ch : ∀ c ∈ z.cps.toList, c < 1114112
theorem Tx.add {a b : Str} {m n : Nat} (h : Tx a m) (g : Tx b n) : Tx (a ++ b) (m + n) := by
  refine ⟨?_, fun c hc => ?_⟩
  · have e : (a ++ b).length = a.length + b.length := by
      rw [TL.len_tl, TL.tl_append, List.length_append, ← TL.len_tl, ← TL.len_tl]
    have := h.len; have := g.len; omega
  · have e : c ∈ TL.tl a ++ TL.tl b := by rw [← TL.tl_append]; exact hc
    rcases List.mem_append.mp e with e | e
    · exact h.ch c e
    · exact g.ch c e
theorem Tx.mono {a : Str} {m n : Nat} (h : Tx a m) (l : m ≤ n) : Tx a n := ⟨Nat.le_trans h.len l, h.ch⟩
theorem Tx.cut {z : Str} {n : Nat} (h : Tx z n) (lo hi : Option Int) : Tx (cutS z lo hi) n := by
  refine ⟨Nat.le_trans (cutS_length z lo hi) h.len, fun c hc => h.ch c ?_⟩
  have e : c ∈ (z.cps.toList.drop (HT.sIx z.length 0 lo)).take (HT.sIx z.length z.length hi - HT.sIx z.length 0 lo) := hc
  exact List.mem_of_mem_drop (List.mem_of_mem_take e)
theorem Tx.at_ {z : Str} {n : Nat} (h : Tx z n) {i : Int} {c : Nat} (e : atI z.cps.toList i = some c) : Tx ⟨#[c]⟩ 1 := by
  refine ⟨Nat.le_refl 1, fun d hd => ?_⟩
  have hd' : d ∈ [c] := hd
  rw [List.mem_singleton.mp hd']
  refine h.ch c ?_
  unfold atI at e
  cases q : ixN z.cps.toList.length i with
  | none => rw [q] at e; cases e
  | some j => rw [q] at e; exact List.mem_of_getElem? e
theorem Tx.sz {z : Str} {n : Nat} (h : Tx z n) (l : n ≤ 1000 := by decide) : z.length ≤ sizeLine := Nat.le_of_lt (small1000 (Nat.le_trans h.len l))
theorem Tx.sz2 {y z : Str} {m n : Nat} (h : Tx y m) (g : Tx z n) (l : m + n ≤ 1000 := by decide) : y.length + z.length ≤ sizeLine := by
  have := h.len; have := g.len
  exact Nat.le_of_lt (small1000 (by omega))
/-- a written text -/
def litB (z : Str) (n : Nat) : Bool := decide (z.length ≤ n) && z.cps.toList.all fun c => decide (c < 1114112)
theorem Tx.lit {z : Str} {n : Nat} (h : litB z n = true) : Tx z n := by
  unfold litB at h
  rw [Bool.and_eq_true] at h
  exact ⟨of_decide_eq_true h.1, fun c hc => of_decide_eq_true (List.all_eq_true.mp h.2 c hc)⟩
theorem joinL_nil : ∀ l : List (List Nat), TL.joinL [] l = l.flatten
  | [] => rfl
  | [x] => by show x = [x].flatten; simp
  | x :: y :: r => by
    have ih := joinL_nil (y :: r)
    show x ++ ([] ++ TL.joinL [] (y :: r)) = (x :: y :: r).flatten
    rw [ih]; simp
theorem Tx.join {ys : List Str} (h : ∀ y ∈ ys, Tx y 1) : Tx (Txt.join ("" : Str) ys) ys.length := by
  have e0 : ("" : Str) = S [] := by decide +kernel
  have e1 : ys = (ys.map TL.tl).map S := by
    rw [List.map_map]
    conv => lhs; rw [← List.map_id ys]
    exact List.map_congr_left fun y _ => (S_tl y).symm
  have e2 : Txt.join ("" : Str) ys = S ((ys.map TL.tl).flatten) := by
    rw [e0]; conv => lhs; rw [e1]
    rw [join_S, joinL_nil]
  rw [e2]
  refine ⟨?_, fun c hc => ?_⟩
  · rw [S_len, List.length_flatten]
    have : ∀ l : List Str, (∀ y ∈ l, Tx y 1) → ((l.map TL.tl).map List.length).sum ≤ l.length := by
      intro l
      induction l with
      | nil => intro _; exact Nat.le_refl 0
      | cons y r ih =>
        intro hh
        have h1 := (hh y (List.mem_cons_self ..)).len
        rw [TL.len_tl] at h1
        have h2 := ih fun z hz => hh z (List.mem_cons_of_mem _ hz)
        rw [List.map_cons, List.map_cons, List.sum_cons, List.length_cons]
        omega
    exact this ys h
  · have hc' : c ∈ (ys.map TL.tl).flatten := hc
    obtain ⟨l, hl, hcl⟩ := List.mem_flatten.mp hc'
    obtain ⟨y, hy, rfl⟩ := List.mem_map.mp hl
    exact (h y hy).ch c hcl
theorem sum_one {ys : List Str} (h : ∀ y ∈ ys, Tx y 1) (l : ys.length ≤ 1000) : (ys.map (·.length)).sum + ys.length * ("" : Str).length ≤ 16777216 := by
  have e0 : ("" : Str).length = 0 := by decide +kernel
  rw [e0, Nat.mul_zero, Nat.add_zero]
  have : ∀ l : List Str, (∀ y ∈ l, Tx y 1) → (l.map (·.length)).sum ≤ l.length := by
    intro l
    induction l with
    | nil => intro _; exact Nat.le_refl 0
    | cons y r ih =>
      intro hh
      have h1 := (hh y (List.mem_cons_self ..)).len
      have h2 := ih fun z hz => hh z (List.mem_cons_of_mem _ hz)
      rw [List.map_cons, List.sum_cons, List.length_cons]
      omega
  have := this ys h
  omega
end Cm
namespace Cm
open PySem PySem.Spec PyProof.Rows L2
theorem ext_tup (l : Addr) (its : Array Value) (n : Nat) (b : Addr) (js : Array Value) (m : Nat) (dd : Option Addr) (sl : Array (Option Value)) (h0 : ¬(!its.isEmpty && Builtin.List.listTooLong (its.size + js.size)) = true) (h1 : its.size ≤ sizeLine) (h2 : its.size + js.size ≤ sizeLine + 1) :
    Meets (Builtin.«list.extend» ⟨[.ref l, .ref b], []⟩) (fun _ R s => s.heap.get? l = some { cls := .type "list", dict := none, data := .seq its n, slots := #[] } ∧ s.heap.get? b = some { cls := .type "tuple", dict := dd, data := .seq js m, slots := sl } ∧ R (.ok (.ret Value.none)) { s with heap := s.heap.update l (Obj.mapSeq fun x => x ++ js), toks := s.toks }) :=
  .of_wp fun prog w A R s h => by
    obtain ⟨hp, g, d, tk, os⟩ := s
    obtain ⟨hl, hb, h⟩ := h
    have f2 := sub_tuple_tuple; have f3 := sub_list_list; have f4 := sub_tuple_list; have f5 := sub_list_tuple; have f1 := AutoSeq1.idx_int
    have hz : (its ++ js).size ≤ sizeLine + 1 := by rw [Array.size_append]; exact h2
    wp_walk using (wpAny_updateSeq hl rfl (hz := h1) (_hz' := hz)), wpAny_loadPart' hl, wpAny_loadPart' hb
    exact ⟨_, rfl, h⟩
def rExtT (K : PySem.W.Frag) : V → List V → Hp → VK → Prop := fun x vs H Q => ∃ l b xs zs, x = .ref l ∧ vs = [.ref b] ∧ H l = some (.lst xs) ∧ SqT K H b zs ∧ xs.length + zs.length ≤ sizeLine ∧ Q .non (upd H l (.lst (xs ++ zs)))
/-- xs.extend(t), t a tuple -/
theorem mt_extT {X : Cx} : MtM X "list.extend" (rExtT X.K) := by
  intro pins s σ H x vs v us Q I rx rv h
  obtain ⟨l, b, xs, zs, rfl, rfl, hH, hB, hz, q⟩ := h
  cases rx
  obtain ⟨u, rfl, ru⟩ := rv.one
  cases ru
  obtain ⟨z, its, n, r, hl, e⟩ := I.lstM hH
  obtain ⟨js, r2, ⟨ob, e2, c2, m, d2⟩, z2⟩ := I.tuple hB
  obtain ⟨oc, od, dt, sl⟩ := ob
  cases (show oc = .type "tuple" from c2)
  cases (show dt = .seq js.toArray m from d2)
  have l2 := r2.length
  have hsz : its.toArray.size + js.toArray.size ≤ sizeLine := by rw [List.size_toArray, List.size_toArray]; omega
  have hlong : ¬ (!its.toArray.isEmpty && Builtin.List.listTooLong (its.toArray.size + js.toArray.size)) = true := by
    rw [notLongL hsz, Bool.and_false]; exact Bool.false_ne_true
  refine call_meets F.slot_list_extend ⟨_, e, rfl⟩ F.entry_list_extend (F.args_list_extend_2 _ _)
    (ext_tup l its.toArray n b js.toArray m od sl hlong (by rw [List.size_toArray]; omega) (by omega)) ⟨e, e2, ?_⟩
  refine ⟨.non, _, I.lset (its' := its ++ js) hH e (by simp) (r.append r2) ?_, rfl, q⟩
  rw [List.length_append]; omega
end Cm
namespace Cm
open PySem PySem.W L2 SX
/-! ### data of tuples, texts and numbers as it lies in the heap -/
mutual
inductive Tr (K : Frag) (H : Hp) : V → PyData → Prop
  | int (i : Int) : Tr K H (.int i) (.int i)
  | str (x : Str) : Tr K H (.str x) (.str x)
  | tup {a : Addr} {xs : List V} {ds : List PyData} : SqT K H a xs → TrAll K H xs ds → Tr K H (.ref a) (.tuple ds)
inductive TrAll (K : Frag) (H : Hp) : List V → List PyData → Prop
  | nil : TrAll K H [] []
  | cons {v : V} {vs : List V} {d : PyData} {ds : List PyData} : Tr K H v d → TrAll K H vs ds → TrAll K H (v :: vs) (d :: ds)
end
/-- tuples are kept -/
def TKs (K : Frag) (H H' : Hp) : Prop := ∀ a xs, SqT K H a xs → SqT K H' a xs
theorem TKs.refl {K : Frag} (H : Hp) : TKs K H H := fun _ _ h => h
theorem TKs.trans {K : Frag} {H H1 H2 : Hp} (a : TKs K H H1) (b : TKs K H1 H2) : TKs K H H2 := fun c x h => b c x (a c x h)
theorem TKs.of {K : Frag} {H H' : Hp} (s : Same H H') : TKs K H H' := fun a xs h => by
  rcases h with (h | ⟨o, h⟩) | h
  · exact .inl (.inl (s _ _ h))
  · exact .inl (.inr ⟨o, s _ _ h⟩)
  · exact .inr h
theorem TKs.kp {K : Frag} {L : List Addr} {H H' : Hp} (k : Kp L H H') (hl : ∀ b ∈ L, ∃ xs, H b = some (.lst xs)) : TKs K H H' := fun a xs h => by
  have nm : ∀ o, H a = some o → (∀ ys, o ≠ .lst ys) → a ∉ L := fun o e n z => by
    obtain ⟨ys, ey⟩ := hl a z
    rw [ey] at e
    exact n ys (Option.some.inj e).symm
  rcases h with (h | ⟨o, h⟩) | h
  · exact .inl (.inl (k _ _ (nm _ h (fun _ z => by cases z)) h))
  · exact .inl (.inr ⟨o, k _ _ (nm _ h (fun _ z => by cases z)) h⟩)
  · exact .inr h
theorem TKs.lst {K : Frag} {H : Hp} {d : Addr} {xs ys : List V} (h : H d = some (.lst xs)) : TKs K H (upd H d (.lst ys)) :=
  TKs.kp (L := [d]) (fun b o m e => by rw [upd_ne (fun z => m (List.mem_singleton.mpr z))]; exact e) (fun b hb => by rw [List.mem_singleton.mp hb]; exact ⟨xs, h⟩)
mutual
theorem Tr.mono {K : Frag} {H H' : Hp} (k : TKs K H H') : ∀ {v : V} {d : PyData}, Tr K H v d → Tr K H' v d
  | _, _, .int i => .int i
  | _, _, .str x => .str x
  | _, _, .tup h t => .tup (k _ _ h) (TrAll.mono k t)
theorem TrAll.mono {K : Frag} {H H' : Hp} (k : TKs K H H') : ∀ {v : List V} {d : List PyData}, TrAll K H v d → TrAll K H' v d
  | _, _, .nil => .nil
  | _, _, .cons h t => .cons (Tr.mono k h) (TrAll.mono k t)
end
mutual
theorem Tr.dp {K : Frag} {H : Hp} : ∀ {v : V} {d : PyData}, Tr K H v d → Dp K H v d
  | _, _, .int i => .int i
  | _, _, .str x => .str x
  | _, _, .tup h t => .tup h (TrAll.dp t)
theorem TrAll.dp {K : Frag} {H : Hp} : ∀ {v : List V} {d : List PyData}, TrAll K H v d → DpAll K H v d
  | _, _, .nil => .nil
  | _, _, .cons h t => .cons (Tr.dp h) (TrAll.dp t)
end
theorem TrAll.len {K : Frag} {H : Hp} : ∀ {v : List V} {d : List PyData}, TrAll K H v d → v.length = d.length
  | _, _, .nil => rfl
  | _, _, .cons _ t => congrArg (· + 1) (TrAll.len t)
theorem TrAll.append {K : Frag} {H : Hp} : ∀ {v v' : List V} {d d' : List PyData}, TrAll K H v d → TrAll K H v' d' → TrAll K H (v ++ v') (d ++ d')
  | _, _, _, _, .nil, h => h
  | _, _, _, _, .cons h t, h' => .cons h (TrAll.append t h')
theorem TrAll.get {K : Frag} {H : Hp} : ∀ {v : List V} {d : List PyData} {i : Nat} {x : V}, TrAll K H v d → v[i]? = some x → ∃ y, d[i]? = some y ∧ Tr K H x y
  | _, _, i, x, .nil, h => by simp at h
  | _, _, 0, x, .cons h t, e => ⟨_, rfl, by cases e; exact h⟩
  | _, _, i + 1, x, .cons h t, e => by
    rw [List.getElem?_cons_succ] at e ⊢
    exact TrAll.get t e
theorem TrAll.snoc {K : Frag} {H : Hp} {v : List V} {d : List PyData} {x : V} (h : TrAll K H (v ++ [x]) d) : ∃ d' y, d = d' ++ [y] ∧ TrAll K H v d' ∧ Tr K H x y := by
  induction v generalizing d with
  | nil =>
    cases h with
    | cons a b => cases b; exact ⟨[], _, rfl, .nil, a⟩
  | cons u r ih =>
    cases h with
    | cons a b =>
      obtain ⟨d', y, rfl, h1, h2⟩ := ih b
      exact ⟨_ :: d', y, rfl, .cons a h1, h2⟩
/-! ### things, rows, stacks: depth, words in all, size -/
mutual
inductive Thg : Nat → Nat → Nat → PyData → Prop
  | num {k : Nat} (n : Int) (h0 : 0 ≤ n) (h1 : n < 10 ^ 12) : Thg k 0 1 (.tuple [.str "number", .int n])
  | row {k k' w m : Nat} {ws : List PyData} : Rw k w m ws → k < k' → Thg k' w (m + 1) (.tuple [.str "row", .tuple ws])
  | lst {k k' w m : Nat} {ts : List PyData} : Stk k w m ts → k < k' → Thg k' w (m + 1) (.tuple [.str "list", .tuple ts])
inductive Rw : Nat → Nat → Nat → List PyData → Prop
  | nil {k : Nat} : Rw k 0 0 []
  | txt {k w m : Nat} {z : Str} {ws : List PyData} : Tx z 100 → Rw k w m ws → Rw k (w + 1) (m + 1) (.str z :: ws)
  | push {k w m w' m' : Nat} {t : PyData} {ws : List PyData} : Thg k w m t → Rw k w' m' ws → Rw k (w + w' + 1) (m + m' + 1) (.tuple [.str "push", t] :: ws)
inductive Stk : Nat → Nat → Nat → List PyData → Prop
  | nil {k : Nat} : Stk k 0 0 []
  | cons {k w m w' m' : Nat} {t : PyData} {ts : List PyData} : Thg k w m t → Stk k w' m' ts → Stk k (w + w') (m + m') (t :: ts)
end
theorem Thg.up {k k' w m : Nat} {t : PyData} (h : Thg k w m t) (l : k ≤ k') : Thg k' w m t := by
  cases h with
  | num n h0 h1 => exact .num n h0 h1
  | row h q => exact .row h (Nat.lt_of_lt_of_le q l)
  | lst h q => exact .lst h (Nat.lt_of_lt_of_le q l)
theorem Rw.up {k k' : Nat} (l : k ≤ k') : ∀ {ws : List PyData} {w m : Nat}, Rw k w m ws → Rw k' w m ws
  | _, _, _, .nil => .nil
  | _, _, _, .txt h t => .txt h (Rw.up l t)
  | _, _, _, .push h t => .push (h.up l) (Rw.up l t)
theorem Stk.up {k k' : Nat} (l : k ≤ k') : ∀ {ws : List PyData} {w m : Nat}, Stk k w m ws → Stk k' w m ws
  | _, _, _, .nil => .nil
  | _, _, _, .cons h t => .cons (h.up l) (Stk.up l t)
theorem Rw.append {k : Nat} : ∀ {a b : List PyData} {w m w' m' : Nat}, Rw k w m a → Rw k w' m' b → Rw k (w + w') (m + m') (a ++ b)
  | _, _, _, _, _, _, .nil, h => by rw [Nat.zero_add, Nat.zero_add]; exact h
  | _, _, _, _, w', m', .txt (w := w) (m := m) h t, h' => by
    have := Rw.txt h (Rw.append t h')
    rw [show w + 1 + w' = w + w' + 1 by omega, show m + 1 + m' = m + m' + 1 by omega]
    exact this
  | _, _, _, _, w', m', .push (w := w) (m := m) (w' := x) (m' := y) h t, h' => by
    have := Rw.push h (Rw.append t h')
    rw [show w + x + 1 + w' = w + (x + w') + 1 by omega, show m + y + 1 + m' = m + (y + m') + 1 by omega]
    exact this
theorem Stk.append {k : Nat} : ∀ {a b : List PyData} {w m w' m' : Nat}, Stk k w m a → Stk k w' m' b → Stk k (w + w') (m + m') (a ++ b)
  | _, _, _, _, _, _, .nil, h => by rw [Nat.zero_add, Nat.zero_add]; exact h
  | _, _, _, _, _, _, .cons h t, h' => by
    rw [Nat.add_assoc, Nat.add_assoc]; exact .cons h (Stk.append t h')
theorem Stk.snoc {k : Nat} : ∀ {a : List PyData} {t : PyData} {w m : Nat}, Stk k w m (a ++ [t]) → ∃ w1 m1 w2 m2, Stk k w1 m1 a ∧ Thg k w2 m2 t ∧ w = w1 + w2 ∧ m = m1 + m2
  | [], t, w, m, h => by
    have h' : Stk k w m [t] := h
    cases h' with
    | cons a b => cases b; exact ⟨0, 0, _, _, .nil, a, by omega, by omega⟩
  | x :: r, t, w, m, h => by
    have h' : Stk k w m (x :: (r ++ [t])) := h
    cases h' with
    | cons a q =>
      obtain ⟨w1, m1, w2, m2, a', b, rfl, rfl⟩ := Stk.snoc q
      exact ⟨_, _, w2, m2, .cons a a', b, by omega, by omega⟩
theorem Thg.pos {k w m : Nat} {t : PyData} (h : Thg k w m t) : 1 ≤ m := by
  cases h <;> omega
theorem Stk.len {k : Nat} : ∀ {a : List PyData} {w m : Nat}, Stk k w m a → a.length ≤ m
  | _, _, _, .nil => Nat.le_refl 0
  | _, _, _, .cons h t => by
    have h1 := Stk.len t
    have h2 := h.pos
    rw [List.length_cons]; omega
theorem Rw.len {k : Nat} : ∀ {a : List PyData} {w m : Nat}, Rw k w m a → a.length ≤ m
  | _, _, _, .nil => Nat.le_refl 0
  | _, _, _, .txt h t => by have := Rw.len t; rw [List.length_cons]; omega
  | _, _, _, .push h t => by have := Rw.len t; rw [List.length_cons]; omega
/-- what a word pushes -/
def psh : PyData → Option PyData
  | .tuple [_, t] => some t
  | _ => none
theorem Rw.psh {k : Nat} : ∀ {ws : List PyData} {w m : Nat}, Rw k w m ws → ∃ w' m', Stk k w' m' (ws.filterMap psh) ∧ w = ws.length + w' ∧ m' ≤ m
  | _, _, _, .nil => ⟨0, 0, .nil, rfl, Nat.le_refl 0⟩
  | _, _, _, .txt h t => by
    obtain ⟨w', m', a, b, c⟩ := Rw.psh t
    exact ⟨w', m', a, by rw [List.length_cons]; omega, by omega⟩
  | _, _, _, .push h t => by
    obtain ⟨w', m', a, b, c⟩ := Rw.psh t
    exact ⟨_, _, .cons h a, by rw [List.length_cons]; omega, by omega⟩
theorem Rw.at_ {k : Nat} : ∀ {ws : List PyData} {w m i : Nat} {d : PyData}, Rw k w m ws → ws[i]? = some d → (∃ z, d = .str z) ∨ (∃ t, d = .tuple [.str "push", t])
  | _, _, _, i, d, .nil, h => by simp at h
  | _, _, _, 0, d, .txt (z := z) h t, e => .inl ⟨z, by cases e; rfl⟩
  | _, _, _, 0, d, .push (t := t) h _, e => .inr ⟨t, by cases e; rfl⟩
  | _, _, _, i + 1, d, .txt h t, e => Rw.at_ t e
  | _, _, _, i + 1, d, .push h t, e => Rw.at_ t e
theorem mid {n : Nat} (h : n ≤ 1000000) : n ≤ sizeLine := Nat.le_trans h (by decide)
theorem midlt {n : Nat} (h : n < 1000000) : n < sizeLine := Nat.lt_of_lt_of_le h (by decide)
theorem tyTup {K : Frag} {H : Hp} {a : Addr} {xs : List V} (h : SqT K H a xs) : TyX K H (.ref a) (.type "tuple") := by
  rcases h with (h | ⟨o, h⟩) | ⟨o, _, _, e, c, _⟩
  · exact .base (.tup h)
  · exact .fTuple h
  · exact .kTuple e c
mutual
theorem Thg.lay : ∀ {k w m : Nat} {t : PyData}, Thg k w m t → PyData.canLay0 t = true ∧ PyData.depth t ≤ 3 * k + 1
  | k, _, _, _, .num n h0 h1 => ⟨by show (PyData.canLay0 (.str "number") && (true && true)) = true; decide +kernel, Nat.le_add_left 1 _⟩
  | k', _, _, _, .row (k := k) (ws := ws) h l => by
    obtain ⟨a, b⟩ := Rw.lay h
    refine ⟨?_, ?_⟩
    · show (PyData.canLay0 (.str "row") && (PyData.canLayAll0 ws && true)) = true
      rw [a]; decide +kernel
    · show max 0 (max (PyData.depthAll ws + 1) 0) + 1 ≤ _
      omega
  | k', _, _, _, .lst (k := k) (ts := ts) h l => by
    obtain ⟨a, b⟩ := Stk.lay h
    refine ⟨?_, ?_⟩
    · show (PyData.canLay0 (.str "list") && (PyData.canLayAll0 ts && true)) = true
      rw [a]; decide +kernel
    · show max 0 (max (PyData.depthAll ts + 1) 0) + 1 ≤ _
      omega
theorem Rw.lay : ∀ {k w m : Nat} {ws : List PyData}, Rw k w m ws → PyData.canLayAll0 ws = true ∧ PyData.depthAll ws ≤ 3 * k + 2
  | k, _, _, _, .nil => ⟨rfl, Nat.zero_le _⟩
  | k, _, _, _, .txt (z := z) (ws := ws) h t => by
    obtain ⟨a, b⟩ := Rw.lay t
    refine ⟨?_, ?_⟩
    · show (z.cps.all (· < 0x110000) && PyData.canLayAll0 ws) = true
      rw [a, Bool.and_true, ← Array.all_toList, List.all_eq_true]
      intro c hc
      exact decide_eq_true (h.ch c hc)
    · show max 0 (PyData.depthAll ws) ≤ _
      omega
  | k, _, _, _, .push (t := t) (ws := ws) h r => by
    obtain ⟨a, b⟩ := Rw.lay r
    obtain ⟨a', b'⟩ := Thg.lay h
    refine ⟨?_, ?_⟩
    · show ((PyData.canLay0 (.str "push") && (PyData.canLay0 t && true)) && PyData.canLayAll0 ws) = true
      rw [a, a']; decide +kernel
    · show max (max 0 (max (PyData.depth t) 0) + 1) (PyData.depthAll ws) ≤ _
      omega
theorem Stk.lay : ∀ {k w m : Nat} {ts : List PyData}, Stk k w m ts → PyData.canLayAll0 ts = true ∧ PyData.depthAll ts ≤ 3 * k + 1
  | k, _, _, _, .nil => ⟨rfl, Nat.zero_le _⟩
  | k, _, _, _, .cons (t := t) (ts := ts) h r => by
    obtain ⟨a, b⟩ := Stk.lay r
    obtain ⟨a', b'⟩ := Thg.lay h
    refine ⟨?_, ?_⟩
    · show (PyData.canLay0 t && PyData.canLayAll0 ts) = true
      rw [a, a']; rfl
    · show max (PyData.depth t) (PyData.depthAll ts) ≤ _
      omega
end
theorem Stk.shaped {k w m : Nat} {ts : List PyData} (h : Stk k w m ts) (l : k ≤ 20) : SeqAt.shaped (.list ts) = true := by
  obtain ⟨a, b⟩ := h.lay
  show (PyData.canLayAll0 ts && decide (PyData.depthAll ts + 1 ≤ 64)) = true
  rw [a, Bool.true_and]; exact decide_eq_true (by omega)
end Cm
namespace Cm
open PySem PySem.W L2 SX
theorem Tr.tupD {K : Frag} {H : Hp} {v : V} {ds : List PyData} (h : Tr K H v (.tuple ds)) : ∃ a xs, v = .ref a ∧ SqT K H a xs ∧ TrAll K H xs ds := by
  cases h with
  | tup h t => exact ⟨_, _, rfl, h, t⟩
/-- two tuples' sum, as trees -/
theorem catTr {K : Frag} {H : Hp} {u v : V} {ps qs : List PyData} {Q : VK} (hu : Tr K H u (.tuple ps)) (hv : Tr K H v (.tuple qs)) (hl : ps.length + qs.length ≤ 1000000)
    (q : ∀ (r : V) (H' : Hp), Same H H' → Tr K H' r (.tuple (ps ++ qs)) → Q r H') : rCatA K u v H Q := by
  obtain ⟨a, xs, rfl, ha, hx⟩ := hu.tupD
  obtain ⟨b, ys, rfl, hb, hy⟩ := hv.tupD
  have lx := hx.len
  have ly := hy.len
  refine ⟨a, b, xs, ys, rfl, rfl, ha, hb, mid (by omega), fun e => ?_, fun _ e => ?_, fun _ _ p np => ?_⟩
  · subst e
    cases hx
    exact q _ H (fun _ _ h => h) (.tup hb hy)
  · subst e
    cases hy
    rw [List.append_nil] at q
    exact q _ H (fun _ _ h => h) (.tup ha hx)
  · exact q _ _ (same_new np _) (.tup (SqT.of upd_same) ((hx.append hy).mono (.of (same_new np _))))
/-- all but the first of a tuple, as trees -/
theorem restTr {K : Frag} {H : Hp} {u : V} {d : PyData} {ds : List PyData} {Q : VK} (hu : Tr K H u (.tuple (d :: ds)))
    (q : ∀ (r : V) (H' : Hp), Same H H' → Tr K H' r (.tuple ds) → Q r H') : rSlA K u (some 1) none H Q := by
  obtain ⟨a, xs, rfl, ha, hx⟩ := hu.tupD
  cases hx with
  | cons hd ht =>
    rename_i x xr
    refine ⟨a, _, rfl, ha, fun c => ?_, fun _ p np => ?_⟩
    · have c1 := c.1
      rw [show (1 : Int) = ((1 : Nat) : Int) from rfl, HT.sIx_nat, List.length_cons] at c1
      omega
    · have e : cutV (x :: xr) (some 1) none = xr := by
        unfold cutV
        rw [show (1 : Int) = ((1 : Nat) : Int) from rfl, HT.sIx_nat, HT.sIx_none, List.length_cons, Nat.min_eq_left (by omega)]
        show List.take (xr.length + 1 - 1) xr = xr
        rw [Nat.add_sub_cancel, List.take_length]
      rw [e]
      exact q _ _ (same_new np _) (.tup (SqT.of upd_same) (ht.mono (.of (same_new np _))))
/-- a made tuple, as a tree -/
theorem tupTr {K : Frag} {H : Hp} {xs : List V} {ds : List PyData} (h : TrAll K H xs ds) {p : Addr} (np : H p = none) : Tr K (upd H p (.tup xs)) (.ref p) (.tuple ds) := .tup (SqT.of upd_same) (h.mono (.of (same_new np _)))
end Cm
namespace Cm
open PySem PySem.W L2 SX
/-! ### maps: what stays lowest -/
/-- the thing c stays where it is and stands nowhere behind -/
def Stays (ps : List Int) (c : Nat) : Prop := ps[c]? = some (c : Int) ∧ (c : Int) ∉ ps.drop (c + 1)
/-- as many as c may be cut -/
def IsCut (ps : List Int) (c : Nat) : Prop := (∀ j, j < c → Stays ps j) ∧ ¬ Stays ps c
def cutM (c : Nat) (ps : List Int) : List Int := (ps.drop c).map fun p => p - (c : Int)
theorem IsCut.uniq {ps : List Int} {c d : Nat} (a : IsCut ps c) (b : IsCut ps d) : c = d := by
  rcases Nat.lt_trichotomy c d with h | h | h
  · exact absurd (b.1 c h) a.2
  · exact h
  · exact absurd (a.1 d h) b.2
theorem Stays.lt {ps : List Int} {c : Nat} (h : Stays ps c) : c < ps.length := by
  have := h.1
  exact (List.getElem?_eq_some_iff.mp this).1
theorem cutM_zero (ps : List Int) : cutM 0 ps = ps := by
  unfold cutM
  rw [List.drop_zero]
  have : (fun p : Int => p - ((0 : Nat) : Int)) = id := by funext p; show p - 0 = p; omega
  rw [this, List.map_id]
theorem cutM_length (c : Nat) (ps : List Int) : (cutM c ps).length ≤ ps.length := by
  unfold cutM
  rw [List.length_map, List.length_drop]; omega
theorem mem_cutM {c : Nat} {ps : List Int} {x : Int} : x ∈ cutM c ps ↔ x + c ∈ ps.drop c := by
  unfold cutM
  rw [List.mem_map]
  constructor
  · rintro ⟨y, hy, rfl⟩
    rw [show y - (c : Int) + (c : Int) = y by omega]; exact hy
  · intro h
    exact ⟨_, h, by omega⟩
theorem IsCut.least {ps : List Int} {c : Nat} (h : IsCut ps c) : IsCut (cutM c ps) 0 := by
  refine ⟨fun j hj => absurd hj (Nat.not_lt_zero j), fun s => h.2 ?_⟩
  obtain ⟨s1, s2⟩ := s
  have e1 : (cutM c ps)[0]? = (ps[c]?).map fun p => p - (c : Int) := by
    unfold cutM
    rw [List.getElem?_map, List.getElem?_drop, Nat.add_zero]
  rw [e1] at s1
  constructor
  · cases e : ps[c]? with
    | none => rw [e] at s1; cases s1
    | some p =>
      rw [e] at s1
      have s1' : p - (c : Int) = ((0 : Nat) : Int) := Option.some.inj s1
      congr 1
      omega
  · intro m
    refine s2 ?_
    have e2 : (cutM c ps).drop (0 + 1) = (ps.drop (c + 1)).map fun p => p - (c : Int) := by
      unfold cutM
      rw [← List.map_drop, List.drop_drop]
    rw [e2, List.mem_map]
    exact ⟨_, m, by omega⟩
/-- the numbers from 0 on -/
def nums (m : Nat) : List Int := (List.range m).map fun i => ((i : Nat) : Int)
theorem nums_length (m : Nat) : (nums m).length = m := by unfold nums; rw [List.length_map, List.length_range]
theorem nums_get {m i : Nat} (h : i < m) : (nums m)[i]? = some (i : Int) := by
  unfold nums
  rw [List.getElem?_map, List.getElem?_range h]; rfl
theorem mem_nums {m : Nat} {x : Int} : x ∈ nums m ↔ 0 ≤ x ∧ x < m := by
  unfold nums
  rw [List.mem_map]
  constructor
  · rintro ⟨i, hi, rfl⟩
    have := List.mem_range.mp hi
    omega
  · rintro ⟨h1, h2⟩
    exact ⟨x.toNat, List.mem_range.mpr (by omega), by omega⟩
theorem mem_drop_nums {m c : Nat} {x : Int} (h : x ∈ (nums m).drop c) : (c : Int) ≤ x := by
  obtain ⟨i, hi⟩ := List.mem_iff_getElem?.mp h
  rw [List.getElem?_drop] at hi
  have hl := (List.getElem?_eq_some_iff.mp hi).1
  rw [nums_length] at hl
  rw [nums_get hl] at hi
  have := Option.some.inj hi
  omega
def moreM (m : Nat) (ps : List Int) : List Int := nums m ++ ps.map fun p => p + (m : Int)
theorem stays_more {m c : Nat} {ps : List Int} : Stays (moreM m ps) (m + c) ↔ Stays ps c := by
  unfold Stays moreM
  have e1 : (nums m ++ ps.map fun p => p + (m : Int))[m + c]? = (ps[c]?).map fun p => p + (m : Int) := by
    rw [List.getElem?_append_right (by rw [nums_length]; omega), nums_length, Nat.add_sub_cancel_left, List.getElem?_map]
  have e2 : (nums m ++ ps.map fun p => p + (m : Int)).drop (m + c + 1) = (ps.drop (c + 1)).map fun p => p + (m : Int) := by
    rw [List.drop_append, nums_length, List.drop_of_length_le (by rw [nums_length]; omega), List.nil_append, List.map_drop]
    congr 1; omega
  rw [e1, e2]
  constructor
  · rintro ⟨h1, h2⟩
    constructor
    · cases e : ps[c]? with
      | none => rw [e] at h1; cases h1
      | some p =>
        rw [e] at h1
        have h1' : p + (m : Int) = ((m + c : Nat) : Int) := Option.some.inj h1
        congr 1; omega
    · intro z
      exact h2 (List.mem_map.mpr ⟨_, z, by omega⟩)
  · rintro ⟨h1, h2⟩
    constructor
    · rw [h1]
      show some ((c : Int) + (m : Int)) = _
      congr 1; omega
    · intro z
      obtain ⟨y, hy, e⟩ := List.mem_map.mp z
      exact h2 (by rw [show (c : Int) = y by omega]; exact hy)
theorem IsCut.more {m c : Nat} {ps : List Int} (h : IsCut ps c) (h0 : ∀ p ∈ ps, (0 : Int) ≤ p) : IsCut (moreM m ps) (m + c) := by
  refine ⟨fun j hj => ?_, fun s => h.2 (stays_more.mp s)⟩
  by_cases hm : j < m
  · constructor
    · unfold moreM
      rw [List.getElem?_append_left (by rw [nums_length]; exact hm), nums_get hm]
    · unfold moreM
      rw [List.drop_append]
      intro z
      rcases List.mem_append.mp z with z | z
      · have := mem_drop_nums z; omega
      · obtain ⟨y, hy, e⟩ := List.mem_map.mp (List.mem_of_mem_drop z)
        have := h0 y hy
        omega
  · have : j = m + (j - m) := by omega
    rw [this]
    exact stays_more.mpr (h.1 _ (by omega))
theorem cutM_more (m c : Nat) (ps : List Int) : cutM (m + c) (moreM m ps) = cutM c ps := by
  unfold cutM moreM
  rw [List.drop_append, nums_length, List.drop_of_length_le (by rw [nums_length]; omega), List.nil_append, ← List.map_drop, List.map_map, Nat.add_sub_cancel_left]
  congr 1
  funext p
  show p + (m : Int) - ((m + c : Nat) : Int) = p - (c : Int)
  omega
theorem count_stays {ps : List Int} {c : Nat} (h : ∀ j, j < c → Stays ps j) (hc : ps[c]? = some (c : Int)) : ps.count (c : Int) = 1 ↔ (c : Int) ∉ ps.drop (c + 1) := by
  have e : ps = ps.take c ++ ((c : Int) :: ps.drop (c + 1)) := by
    obtain ⟨h1, h2⟩ := List.getElem?_eq_some_iff.mp hc
    rw [← h2, List.getElem_cons_drop, List.take_append_drop]
  have e0 : (ps.take c).count (c : Int) = 0 := by
    rw [List.count_eq_zero]
    intro z
    obtain ⟨i, hi⟩ := List.mem_iff_getElem?.mp z
    rw [List.getElem?_take] at hi
    by_cases hl : i < c
    · rw [if_pos hl, (h i hl).1] at hi
      have := Option.some.inj hi
      omega
    · rw [if_neg hl] at hi; cases hi
  have : ps.count (c : Int) = (ps.drop (c + 1)).count (c : Int) + 1 := by
    conv => lhs; rw [e]
    rw [List.count_append, e0, List.count_cons_self]; omega
  rw [this]
  constructor
  · intro q
    exact List.count_eq_zero.mp (by omega)
  · intro q
    rw [List.count_eq_zero.mpr q]
theorem in_ints (c : Int) : ∀ ns : List Int, inV (.int c) (ns.map V.int) = decide (c ∈ ns)
  | [] => rfl
  | n :: r => by
    have ih : ((r.map V.int).any fun y => eqV y (.int c)) = decide (c ∈ r) := in_ints c r
    show ((n == c) || (r.map V.int).any fun y => eqV y (.int c)) = _
    rw [ih]
    by_cases h : n = c
    · subst h
      rw [beq_self_eq_true, Bool.true_or, decide_eq_true (List.mem_cons_self ..)]
    · rw [show (n == c) = false from beq_eq_false_iff_ne.mpr h, Bool.false_or]
      congr 1
      refine propext ⟨fun m => List.mem_cons_of_mem _ m, fun m => ?_⟩
      rcases List.mem_cons.mp m with z | z
      · exact absurd z.symm h
      · exact z
theorem flat_ints : ∀ ns : List Int, (ns.map V.int).all flatV = true
  | [] => rfl
  | n :: r => by
    show (true && (r.map V.int).all flatV) = true
    rw [flat_ints r]; rfl
/-- a map as data: a number and a tuple of numbers -/
def mapD (n : Int) (ps : List Int) : PyData := .tuple [.int n, .tuple (ps.map PyData.int)]
theorem mapD_lay (n : Int) (ps : List Int) : PyData.canLay0 (mapD n ps) = true := by
  show (PyData.canLay0 (PyData.int n) && (PyData.canLayAll0 (ps.map PyData.int) && true)) = true
  rw [lay_ints]; rfl
theorem mapD_shaped (n : Int) (ps : List Int) : SeqAt.shaped (mapD n ps) = true := by
  show (PyData.canLay0 (mapD n ps) && decide (PyData.depth (mapD n ps) ≤ 64)) = true
  rw [mapD_lay]
  have : PyData.depth (mapD n ps) = 2 := by
    show max 0 (max (PyData.depthAll (ps.map PyData.int) + 1) 0) + 1 = 2
    rw [deep_ints]; rfl
  rw [this]; rfl
/-- a map stands at p -/
def MapAt (K : Frag) (H : Hp) (p : Addr) (n : Int) (ps : List Int) : Prop := ∃ t, SqT K H p [.int n, .ref t] ∧ SqT K H t (ps.map V.int)
/-! ### rules -/
theorem Same.seqT {K : PySem.W.Frag} {H H' : Hp} {a : Addr} {xs : List V} (e : Same H H') (h : SqT K H a xs) : SqT K H' a xs := by
  rcases h with (h | ⟨o, h⟩) | h
  · exact .inl (.inl (e _ _ h))
  · exact .inl (.inr ⟨o, e _ _ h⟩)
  · exact .inr h
theorem MapAt.same {K : Frag} {H H' : Hp} {p : Addr} {n : Int} {ps : List Int} (h : MapAt K H p n ps) (s : Same H H') : MapAt K H' p n ps := by
  obtain ⟨t, h1, h2⟩ := h
  exact ⟨t, Same.seqT s h1, Same.seqT s h2⟩
theorem MapAt.dp {K : Frag} {H : Hp} {p : Addr} {n : Int} {ps : List Int} (h : MapAt K H p n ps) : Dp K H (.ref p) (mapD n ps) := by
  obtain ⟨t, h1, h2⟩ := h
  exact .tup h1 (.cons (.int _) (.cons (.tup h2 (dp_ints ps)) .nil))
section
variable {X : Cx}
def rCntT (K : PySem.W.Frag) : V → List V → Hp → VK → Prop := fun x xs H Q => ∃ (p : Addr) (ns : List Int) (k : Int), x = .ref p ∧ xs = [.int k] ∧ SqT K H p (ns.map V.int) ∧ Q (.int (ns.count k : Nat)) H
theorem mt_tcount : MtR X "tuple.count" (rCntT X.K) := by
  intro pins s σ H x xs v us Q I rx rxs h
  obtain ⟨p, ns, k, rfl, rfl, hs, q⟩ := h
  cases rx
  obtain ⟨u, rfl, ru⟩ := rxs.one
  obtain ⟨t, rfl⟩ := ru
  obtain ⟨its, rv, ⟨⟨cls, dd, data, sl⟩, ho, hc, n, hd⟩, hlen⟩ := I.tuple hs
  simp only at hc hd
  subst hc hd
  have hi := ints_of_vals rv
  refine call_meets PySem.F.slot_tuple_count ⟨_, ho, rfl⟩ PySem.F.entry_tuple_count (PySem.F.args_tuple_count_2 _ _)
    (SeqAt.tuple_countAt p its.toArray n dd sl (.int k t) (eqk k)) ⟨ho, fun y hy => (eqk_gives hi y (by simpa using hy)).at _ _, ?_⟩
  have ec : its.toArray.toList.countP (eqk k) = ns.count k := eqk_count hi
  refine ⟨.int (ns.count k : Nat), H, I.tok _, ⟨s.toks, ?_⟩, q⟩
  show Value.int ((its.toArray.toList.countP (eqk k) : Nat) : Int) s.toks = Value.int ((ns.count k : Nat) : Int) s.toks
  rw [ec]
end
/-! ### a tuple's method: the tuple is kept as the object that was made, which has no dict -/
/-- a tuple of xs stands at p, as an object without a dict -/
def TupO (H : Hp) (p : Addr) (xs : List V) : Prop := ∃ o : Obj, o.dict = none ∧ H p = some (.frz o (.tup xs))
theorem TupO.sq {K : Frag} {H : Hp} {p : Addr} {xs : List V} (h : TupO H p xs) : SqT K H p xs := by
  obtain ⟨o, _, h⟩ := h
  exact .inl (.inr ⟨o, h⟩)
theorem TupO.same {H H' : Hp} {p : Addr} {xs : List V} (h : TupO H p xs) (s : Same H H') : TupO H' p xs := by
  obtain ⟨o, d, h⟩ := h
  exact ⟨o, d, s _ _ h⟩
theorem TupO.kp {H H' : Hp} {d p : Addr} {xs ys : List V} (h : TupO H p xs) (hd : H d = some (.lst ys)) (s : Kp [d] H H') : TupO H' p xs := by
  obtain ⟨o, e, h⟩ := h
  exact ⟨o, e, s p _ (fun z => by rw [List.mem_singleton.mp z, hd] at h; cases h) h⟩
section
open PySem.Spec PyProof.Rows
variable {X : Cx}
theorem call_tuple_ofD : CallR X (.type "tuple") (fun xs H Q => ∃ p ys, xs = [.ref p] ∧ SqL X.K H p ys ∧ ∀ (l : Addr) (o : Obj), H l = none → o.dict = none → Q (.ref l) (upd H l (.frz o (.tup ys)))) := by
  intro pins s σ H xs us Q I r h
  obtain ⟨p, ys, rfl, hq, q⟩ := h
  obtain ⟨u, rfl, rx⟩ := r.one
  cases rx
  obtain ⟨its, r', pl, hz⟩ := I.list hq
  have hlen := r'.length
  refine call_tuple_list pl.isList (fun h' kp => ?_) (by simp only [List.size_toArray] <;> omega)
  have I1 : Inv X pins σ H { s with heap := h' } := I.kept (t' := s.toks) kp
  have I2 : Inv X pins σ (upd H h'.objs.size (.frz { cls := .type "tuple", data := .seq its.toArray } (.tup ys))) { s with heap := h'.push { cls := .type "tuple", data := .seq its.toArray } } :=
    I1.laid (t' := s.toks) (fun b o e => Heap.get?_push_of_some _ e) (Nat.le_refl _) (show ObjOk X.prog X.w _ _ _ (.frz { cls := .type "tuple", data := .seq its.toArray } (.tup ys)) from ⟨Heap.get?_push_size _ rfl, hz, its, r', IsTup.new _ _⟩)
  exact ⟨.ref h'.objs.size, _, I2, rfl, q _ _ (I1.hok.fresh (Nat.le_refl _)) rfl⟩
def tBMT (r : V → List V → Hp → VK → Prop) (to : TE) (t : TA) : TE := fun σ H Q => to σ H fun x H1 => (∃ p ys, x = .ref p ∧ TupO H1 p ys) ∧ t σ H1 fun xs H2 => r x xs H2 Q
variable {o e : Expr} {es : List Expr} {to : TE} {t : TA} {name : Str} {apos cpos : Pos} {id : String} {r : V → List V → Hp → VK → Prop}
theorem pe_bmT (slot : Slot "tuple" name id) (hty : typeOf (.builtin id) = pure (.type "method_descriptor")) (hm : MtR X id r) (ho : PE X o to) (ha : PA X (e :: es) t)
    (hbase : attributeBase o name X.env (eval o X.env) = eval o X.env := by rfl)
    (hfew : ((backTo cpos (starEach (e :: es) X.env)).all (fun x => !x.1) && (backToKw cpos (keywordEach [] X.env)).all (fun x => x.1.isSome)
      && decide ((e :: es).length + ([] : List Keyword).length + (if ([] : List Keyword).isEmpty then 0 else 1) < 30)) = true := by rfl)
    (hline : (apos.endLine == cpos.line) = true := by rfl) (hs : starEach (e :: es) X.env = (false, eval e X.env) :: starEach es X.env := by rfl) (hplain : (backTo cpos (starEach es X.env)).any (·.1) = false := by rfl) :
    PE X (.Call (.Attribute o name apos) (e :: es) [] cpos) (tBMT r to t) := by
  refine ⟨fun pins s σ H Q I h => ?_⟩
  refine wpAny_Call_method_late hbase hfew hline rfl (thn (ho.run pins s σ H _ I h) fun v s1 ⟨x, H1, I1, r1, ty, q1⟩ => ?_)
  obtain ⟨p, ys, ex, ob, hd, hp⟩ := ty
  subst ex
  obtain rfl : v = Value.ref p := r1
  obtain ⟨hg, ho2⟩ := I1.hok p _ hp
  obtain ⟨_, its, rv, ob', hg', hc, _⟩ := ho2
  have e1 : ob = ob' := Option.some.inj (hg.symm.trans hg')
  subst e1
  refine ⟨"tuple", id, PySem.F.plainAttrs_tuple, slot, hty, ⟨ob, hg, hc⟩, fun a e => ?_, ?_⟩
  · cases e
    exact ⟨ob, hg, hd⟩
  have hA := ha.run cpos pins s1 σ H1 _ I1 q1
  rw [hs] at hA ⊢
  refine Calls.callWith_builtin (by show (false || (backTo cpos (starEach es X.env)).any (·.1)) = false; rw [hplain] <;> rfl) (Calls.evalArgs_plain ?_)
  exact thn hA fun us s2 ⟨vs, H2, I2, r2, q2⟩ => hm pins s2 σ H2 (.ref p) vs (.ref p) us Q I2 rfl r2 q2
end
/-- a comprehension over a tuple, each element a plain value, none left out -/
theorem lc_mapT {K : Frag} {a : Addr} {xs : List V} (f : V → V) {g : TG} {te : TE} {vs : List Nat} {σ : St} {H1 : Hp} {D : Addr} {Qd : Hp → Prop} (ha : SqT K H1 a xs) (hD : H1 D = none) (hl : xs.length ≤ 1000000)
    (hs : ∀ x H (R : V → Hp → Prop), x ∈ xs → Same H1 H → R (f x) H → g x (wipe σ vs) H fun σ2 H2 => wipe σ2 vs = wipe σ vs ∧ te σ2 H2 R) (hd : Qd (upd H1 D (.lst (xs.map f)))) :
    ∃ W : Nat → Nat → Hp → Prop, (∃ m, W 0 m (upd H1 D (.lst []))) ∧ ∀ i m H, W i m H →
      ((Itt K a).stop i H ∧ Qd H) ∨ ((Itt K a).go i H ∧ ∃ Nx : Hp → Prop, (∀ H', Nx H' → ∃ m', m' < m ∧ W (i + 1) m' H') ∧ ∀ x H', (Itt K a).yld i H x H' → g x (wipe σ vs) H' fun σ2 H2 => wipe σ2 vs = wipe σ vs ∧ tYes σ2 H2 fun b H3 =>
        if b = true then te σ2 H3 fun y H4 => ∃ acc, H4 D = some (.lst acc) ∧ acc.length < sizeLine ∧ Nx (upd H4 D (.lst (acc ++ [y]))) else Nx H3) := by
  refine lc_tup (K := K) (a := a) (xs := xs) (fun i H => H = upd H1 D (.lst ((xs.take i).map f))) rfl (fun i H _ e => ?_) ?_ ?_
  · rw [e]; exact Same.seqT (same_new hD _) ha
  · rintro i x H hx rfl
    refine hs x _ (fun y H4 => ∃ acc, H4 D = some (.lst acc) ∧ acc.length < sizeLine ∧ upd H4 D (.lst (acc ++ [y])) = upd H1 D (.lst ((xs.take (i + 1)).map f))) (List.mem_of_getElem? hx) (same_new hD _) ⟨_, upd_same, ?_, ?_⟩
    · rw [List.length_map, List.length_take]; rw [sizeLine_eq]; omega
    · rw [upd_upd, List.take_add_one, hx, List.map_append]; rfl
  · rintro H rfl
    rw [List.take_length]
    exact hd
/-- and over a list -/
theorem lc_mapL {K : Frag} {a : Addr} {xs : List V} (f : V → V) {g : TG} {te : TE} {vs : List Nat} {σ : St} {H1 : Hp} {D : Addr} {Qd : Hp → Prop} (ha : SqL K H1 a xs) (hD : H1 D = none) (hl : xs.length ≤ 1000000)
    (hs : ∀ x H (R : V → Hp → Prop), x ∈ xs → Same H1 H → R (f x) H → g x (wipe σ vs) H fun σ2 H2 => wipe σ2 vs = wipe σ vs ∧ te σ2 H2 R) (hd : Qd (upd H1 D (.lst (xs.map f)))) :
    ∃ W : Nat → Nat → Hp → Prop, (∃ m, W 0 m (upd H1 D (.lst []))) ∧ ∀ i m H, W i m H →
      ((Itl K a).stop i H ∧ Qd H) ∨ ((Itl K a).go i H ∧ ∃ Nx : Hp → Prop, (∀ H', Nx H' → ∃ m', m' < m ∧ W (i + 1) m' H') ∧ ∀ x H', (Itl K a).yld i H x H' → g x (wipe σ vs) H' fun σ2 H2 => wipe σ2 vs = wipe σ vs ∧ tYes σ2 H2 fun b H3 =>
        if b = true then te σ2 H3 fun y H4 => ∃ acc, H4 D = some (.lst acc) ∧ acc.length < sizeLine ∧ Nx (upd H4 D (.lst (acc ++ [y]))) else Nx H3) := by
  refine lc_list (K := K) (a := a) (xs := xs) (fun i H => H = upd H1 D (.lst ((xs.take i).map f))) rfl (fun i H _ e => ?_) ?_ ?_
  · rw [e]; exact Same.seq (same_new hD _) ha
  · rintro i x H hx rfl
    refine hs x _ (fun y H4 => ∃ acc, H4 D = some (.lst acc) ∧ acc.length < sizeLine ∧ upd H4 D (.lst (acc ++ [y])) = upd H1 D (.lst ((xs.take (i + 1)).map f))) (List.mem_of_getElem? hx) (same_new hD _) ⟨_, upd_same, ?_, ?_⟩
    · rw [List.length_map, List.length_take]; rw [sizeLine_eq]; omega
    · rw [upd_upd, List.take_add_one, hx, List.map_append]; rfl
  · rintro H rfl
    rw [List.take_length]
    exact hd
theorem cut_from {α : Type} (f : α → V) (xs : List α) (i : Nat) : cutV (xs.map f) (some (i : Int)) none = (xs.drop i).map f := by
  unfold cutV
  rw [HT.sIx_nat, HT.sIx_none, List.length_map, ← List.map_drop, ← List.map_take]
  congr 1
  by_cases h : i ≤ xs.length
  · rw [Nat.min_eq_left h, List.take_of_length_le (by rw [List.length_drop]; omega)]
  · rw [Nat.min_eq_right (by omega), List.drop_of_length_le (Nat.le_refl _), List.drop_of_length_le (by omega), List.take_nil]
theorem cut_upto {α : Type} (f : α → V) (xs : List α) (i : Nat) : cutV (xs.map f) none (some (i : Int)) = (xs.take i).map f := by
  unfold cutV
  rw [HT.sIx_nat, HT.sIx_none, List.length_map, ← List.map_drop, ← List.map_take, List.drop_zero, Nat.sub_zero]
  congr 1
  by_cases h : i ≤ xs.length
  · rw [Nat.min_eq_left h]
  · rw [Nat.min_eq_right (by omega), List.take_of_length_le (Nat.le_refl _), List.take_of_length_le (by omega)]
/-- a tuple's slice t[i:], as what it holds -/
theorem slT_from {K : Frag} {H : Hp} {a : Addr} {α : Type} {f : α → V} {xs : List α} {i : Nat} {Q : VK} (ha : SqT K H a (xs.map f)) (q : ∀ p H', Same H H' → SqT K H' p ((xs.drop i).map f) → Q (.ref p) H') : rSlA K (.ref a) (some (i : Int)) none H Q := by
  refine ⟨a, _, rfl, ha, fun c => ?_, fun _ p np => ?_⟩
  · have c1 := c.1
    rw [HT.sIx_nat, List.length_map] at c1
    have : xs.drop i = xs := by
      rcases Nat.eq_zero_or_pos i with h | h
      · rw [h, List.drop_zero]
      · have : xs.length = 0 := by omega
        rw [List.length_eq_zero_iff.mp this, List.drop_nil]
    refine q a H (Same.refl H) ?_
    rw [this]; exact ha
  · rw [cut_from]
    exact q p _ (same_new np _) (SqT.of upd_same)
theorem slT_fromP {K : Frag} {H : Hp} {a : Addr} {α : Type} {f : α → V} {xs : List α} {i : Nat} {Q : VK} {σ : St} (ha : SqT K H a (xs.map f)) (q : ∀ p H', Same H H' → SqT K H' p ((xs.drop i).map f) → Q (.ref p) H') : tNoPart σ H fun u H3 => rSlA K (.ref a) (some (i : Int)) u H3 Q := slT_from ha q
theorem slT_upto {K : Frag} {H : Hp} {a : Addr} {α : Type} {f : α → V} {xs : List α} {i : Nat} {Q : VK} (ha : SqT K H a (xs.map f)) (q : ∀ p H', Same H H' → SqT K H' p ((xs.take i).map f) → Q (.ref p) H') : rSlA K (.ref a) none (some (i : Int)) H Q := by
  refine ⟨a, _, rfl, ha, fun c => ?_, fun _ p np => ?_⟩
  · have c1 := c.2
    rw [HT.sIx_nat, List.length_map] at c1
    refine q a H (Same.refl H) ?_
    rw [List.take_of_length_le (by omega)]; exact ha
  · rw [cut_upto]
    exact q p _ (same_new np _) (SqT.of upd_same)
/-- two tuples' sum, by what they hold -/
theorem catT_map {K : Frag} {H : Hp} {a b : Addr} {xs ys : List V} {Q : VK} (ha : SqT K H a xs) (hb : SqT K H b ys) (hl : xs.length + ys.length ≤ 1000000)
    (q : ∀ p H', Same H H' → SqT K H' p (xs ++ ys) → Q (.ref p) H') : rCatA K (.ref a) (.ref b) H Q := by
  refine ⟨a, b, xs, ys, rfl, rfl, ha, hb, by rw [sizeLine_eq]; omega, fun e => ?_, fun _ e => ?_, fun _ _ p np => ?_⟩
  · subst e; exact q b H (Same.refl H) hb
  · subst e; exact q a H (Same.refl H) (by rw [List.append_nil]; exact ha)
  · exact q p _ (same_new np _) (SqT.of upd_same)
end Cm
/-! xs == [] of any list, and t[::-1] of a tuple -/
namespace PySem.SeqAt
open AutoSeq1 (wpAny_loadPart')
open MeetsSeq MeetsSeq2 MeetsSeq3 SeqRoads2
section
variable {prog : Program} {w : World}
theorem cm_list_neIn (l b : Addr) (items items2 : Array Value) (n n2 : Nat) (dd dd2 : Option Addr) (sl sl2 : Array (Option Value)) (hsz : items.size ≠ items2.size) :
    MeetsIn prog w (Builtin.«list.__eq__» ⟨[.ref l, .ref b], []⟩)
      (fun A R s => s.heap.get? l = some { cls := .type "list", dict := dd, data := .seq items n, slots := sl } ∧ s.heap.get? b = some { cls := .type "list", dict := dd2, data := .seq items2 n2, slots := sl2 } ∧
        R (.ok (.ret (.bool false))) s) := by
  intro A R s h
  obtain ⟨hp, g, d, tk, os⟩ := s; obtain ⟨hl, hb, h⟩ := h
  have f3 := AutoSeq1.sub_list_list
  have hne : (items.size != items2.size) = true := by simp [hsz]
  wp_walk using wpAny_loadPart' hl, wpAny_loadPart' hb
  exact h
theorem cm_rcP_ne {A : Around} {s : Shared} {l b : Addr} {items items2 : Array Value} (hl : s.heap.IsList l items) (hb : s.heap.IsList b items2) (hsz : items.size ≠ items2.size) (hu : A.units < cLine)
    (E Q : Value → Shared → Prop) (h : Q (.bool false) s) : wpAny (model prog w) A (richCompare .Eq (.ref l) (.ref b)) Q E s := by
  obtain ⟨⟨cls, dd, data, sl⟩, ho, hc, n, hd⟩ := id hl
  obtain ⟨⟨cls2, dd2, data2, sl2⟩, ho2, hc2, n2, hd2⟩ := id hb
  simp only at hc hd hc2 hd2
  subst hc hd hc2 hd2
  have ta : s.TypeIs (.ref l) "list" := ⟨_, ho, rfl⟩
  have tb : s.TypeIs (.ref b) "list" := ⟨_, ho2, rfl⟩
  exact wpAny_richCompare_same_room (op := .Eq) ta tb F.slot_list_eq (call_meetsIn F.slot_list_eq ta F.entry_list_eq (F.args_list_eq_2 _ _) (cm_list_neIn l b items items2 n n2 dd dd2 sl sl2 hsz)
    ⟨ho, ho2, show Value.bool false ≠ Value.notImplemented ∧ Q (.bool false) s from ⟨(fun x => nomatch x), h⟩⟩) hu
end
end PySem.SeqAt
namespace Cm
open PySem PySem.Spec PyProof.Rows PySem.W L2 SX
section
variable {X : Cx}
/-- xs == [] -/
def rEqNil (K : Frag) : R2 := fun x y H Q => ∃ a b xs, x = .ref a ∧ y = .ref b ∧ SqL K H a xs ∧ SqL K H b [] ∧ Q (.bl xs.isEmpty) H
theorem op_eqNil (hu : X.A.units + 64 < cLine) : OpR X (compareOp .Eq) (rEqNil X.K) := by
  intro pins s σ H x y v u Q I rx ry h
  obtain ⟨a, b, xs, rfl, rfl, ha, hb, q⟩ := h
  cases rx
  cases ry
  obtain ⟨us, r1, p1, _⟩ := I.list ha
  obtain ⟨ws, r2, p2, _⟩ := I.list hb
  cases r2
  cases r1 with
  | nil =>
    refine SeqAt.rcP_lists (e := fun _ => true) p1.isList p2.isList rfl (by omega) (fun j h1 h2 => ?_) _ _ ⟨.bl true, H, I, rfl, q⟩
    exact absurd h1 (Nat.not_lt_zero j)
  | cons h t =>
    refine SeqAt.cm_rcP_ne p1.isList p2.isList (by simp) (by omega) _ _ ⟨.bl false, H, I, rfl, q⟩
end
end Cm
namespace HT
open PySem PyProof.Rows
section
variable {prog : Program} {w : World} {A : Around} {E : Value → Shared → Prop} {s : Shared}
theorem cm_adjust (n : Nat) : Builtin.Slice.sliceAdjust none none (-1) (n : Int) = ((n : Int) - 1, -1) := rfl
theorem cm_places (n : Nat) : Builtin.Slice.slicePlaces ((n : Int) - 1) (-1) (-1) = n := by
  unfold Builtin.Slice.slicePlaces
  rw [if_neg (show ¬ ((-1 : Int) > 0) by omega)]
  cases n with
  | zero => rfl
  | succ n =>
    rw [if_pos (show ((n + 1 : Nat) : Int) - 1 > -1 by omega)]
    show ((((n + 1 : Nat) : Int) - 1 - -1 - 1) / 1 + 1).toNat = n + 1
    rw [Int.ediv_one]; omega
theorem cm_applied {sl : Addr} {vl vu vs : Value} {n : Nat} {Q : Int × Int × Nat → Shared → Prop} (hs : s.heap.IsSliceOf sl vl vu vs) (pl : IsPart vl none) (pu : IsPart vu none) (ps : IsPart vs (some (-1)))
    (h : Q ((n : Int) - 1, -1, n) s) : wpAny (model prog w) A (Builtin.Slice.sliceApplied (.ref sl) (pure (n : Int))) Q E s := by
  obtain ⟨os, hos, hcs, hds⟩ := id hs
  unfold Builtin.Slice.sliceApplied Builtin.Slice.sliceFields
  refine wpAny_bind (wpAny_bind (wpAny_field hos hds (x := vl) rfl (wpAny_bind (wpAny_field hos hds (x := vu) rfl (wpAny_bind (wpAny_field hos hds (x := vs) rfl (wpAny_pure ?_)))))))
  refine wpAny_bind (slicePart_ ps ?_)
  show wpAny _ _ (if ((-1 : Int) == 0) = true then _ else _) _ _ s
  rw [if_neg (by decide)]
  refine wpAny_bind (slicePart_ pl (wpAny_bind (slicePart_ pu (wpAny_bind (wpAny_pure ?_)))))
  show wpAny _ _ (match Builtin.Slice.sliceAdjust none none (-1) (n : Int) with | (lo, hi) => pure (lo, (-1 : Int), Builtin.Slice.slicePlaces lo hi (-1))) _ _ s
  rw [cm_adjust n]
  show wpAny _ _ (pure ((n : Int) - 1, (-1 : Int), Builtin.Slice.slicePlaces ((n : Int) - 1) (-1) (-1))) _ _ s
  rw [cm_places]
  exact wpAny_pure h
theorem cm_pick (xs : List Value) : ((List.range xs.length).filterMap fun (m : Nat) => xs.toArray[((xs.length : Int) - 1 + (m : Int) * -1).toNat]?).toArray = xs.reverse.toArray := by
  congr 1
  have e : ∀ m ∈ List.range xs.length, xs.toArray[((xs.length : Int) - 1 + (m : Int) * -1).toNat]? = xs.reverse[m]? := by
    intro m hm
    have hm := List.mem_range.mp hm
    rw [List.getElem?_reverse hm, show ((xs.length : Int) - 1 + (m : Int) * -1).toNat = xs.length - 1 - m by omega]
    simp
  have e2 : ∀ (l : List Nat), (∀ m ∈ l, m ∈ List.range xs.length) → (l.filterMap fun (m : Nat) => xs.toArray[((xs.length : Int) - 1 + (m : Int) * -1).toNat]?) = l.filterMap fun m => xs.reverse[m]? := by
    intro l
    induction l with
    | nil => intro _; rfl
    | cons a r ih =>
      intro h
      rw [List.filterMap_cons, List.filterMap_cons, e a (h a (List.mem_cons_self ..)), ih (fun m hm => h m (List.mem_cons_of_mem _ hm))]
  rw [e2 _ (fun _ h => h), ← List.length_reverse (as := xs)]
  generalize xs.reverse = ys
  induction ys with
  | nil => rfl
  | cons y r ih =>
    rw [List.length_cons, List.range_succ_eq_map, List.filterMap_cons]
    show y :: List.filterMap _ _ = _
    rw [List.filterMap_map]
    exact congrArg (y :: ·) ih
theorem cm_tuple_rev {t sl : Addr} {items : List Value} {vl vu vs : Value} {Q : Value → Shared → Prop} (ht : IsTup s.heap t items.toArray) (hs : s.heap.IsSliceOf sl vl vu vs) (pl : IsPart vl none) (pu : IsPart vu none) (ps : IsPart vs (some (-1)))
    (h : Q (.ref s.heap.objs.size) { s with heap := s.heap.push { cls := .type "tuple", data := .seq items.reverse.toArray } })
    (hsz : items.length ≤ sizeLine) : wpAny (model prog w) A (getItem (.ref t) (.ref sl)) Q E s := by
  have htake : sizeOk (.seq items.reverse.toArray) := by
    show items.reverse.toArray.size ≤ sizeLine
    rw [List.size_toArray, List.length_reverse]; exact hsz
  obtain ⟨os, hos, hcs, hds⟩ := id hs
  have hTs : s.TypeIs (.ref sl) "slice" := ⟨os, hos, hcs⟩
  unfold getItem
  try with_reducible refine wpAny_holding ?_
  first | refine wpAny_bind (wpAny_pure ?_) | skip
  refine wpAny_bind (wpAny_sequenceKey ht.typeIs (by decide) ?_)
  refine wpAny_bind (wpAny_callSpecial?_slot (name := Str.ofString "__getitem__") ht.typeIs PyProof.Rows.slot_tuple_getitem
    (wpAny_call_entry PyProof.Rows.slot_tuple_getitem ht.typeIs entry_tuple_getitem ?_ (args_tuple_getitem _ _)))
  show wpAny _ _ (Builtin.Tuple.tupleItemsOf (.ref t) >>= _) _ _ s
  refine wpAny_bind (tupleItemsOf_ ht ?_)
  refine wpAny_bind (wpAny_typeOf hTs ?_)
  rw [if_pos (by decide)]
  refine wpAny_bind (cm_applied (n := items.length) hs pl pu ps ?_)
  have hno : ¬ ((((items.length : Int) - 1) == 0 && (-1 : Int) == 1 && items.length == items.toArray.size) = true) := by
    intro q
    rw [Bool.and_eq_true, Bool.and_eq_true] at q
    exact absurd q.1.2 (by decide)
  show wpAny _ _ (if (((items.length : Int) - 1) == 0 && (-1 : Int) == 1 && items.length == items.toArray.size) = true then _ else _) _ _ s
  rw [if_neg hno, cm_pick]
  first
    | exact wpAny_bind (m := Builtin.Tuple.tupleExact _) (wpAny_newObj_type (wpAny_pure ⟨_, rfl, wpAny_pure h⟩) htake)
    | exact wpAny_bind (m := Builtin.Tuple.tupleExact _) (wpAny_newObj_type (wpAny_bind (wpAny_pure (wpAny_pure ⟨_, rfl, wpAny_pure h⟩))) htake)
    | exact wpAny_bind (wpAny_bind (m := Builtin.Tuple.tupleExact _) (wpAny_newObj_type (wpAny_pure (wpAny_pure ⟨_, rfl, wpAny_pure h⟩)) htake))
    | exact wpAny_bind (wpAny_bind (m := Builtin.Tuple.tupleExact _) (wpAny_newObj_type (wpAny_pure ⟨_, rfl, wpAny_pure h⟩) htake))
end
end HT
namespace Cm
open PySem PySem.Spec PyProof.Rows PySem.W L2 SX
section
variable {X : Cx}
/-- t[::-1] -/
def tRevT (K : Frag) (te : TE) : TE := fun σ H Q => te σ H fun x H1 => ∃ a xs, x = .ref a ∧ SqT K H1 a xs ∧ ∀ p, H1 p = none → Q (.ref p) (upd H1 p (.tup xs.reverse))
theorem pe_revT {e : Expr} {te : TE} {k : Nat} {p1 p2 p3 pos : Pos} (he : PE X e te) : PE X (.Subscript e (.Slice none none (some (.UnaryOp .USub (.Constant (.int 1) k p1) p2)) p3) pos) (tRevT X.K te) := by
  refine ⟨fun pins s σ H Q I h => ?_⟩
  refine Subscript_ (thn (he.run pins s σ H _ I h) fun v s1 ⟨x, H1, I1, r1, q1⟩ => ?_)
  obtain ⟨a, xs, ex, hx, q⟩ := q1
  subst ex
  cases r1
  have hst : PO X (some (.UnaryOp .USub (.Constant (.int 1) k p1) p2)) (tPart (tUn (rU fun i => .int (-i)) (tC (.int 1)))) := po_some (pe_un un_neg pe_int)
  refine wpAny_Slice (thn (po_none.run pins s1 σ H1 (fun o H2 => o = none ∧ H2 = H1) I1 ⟨rfl, rfl⟩) fun vl s2 ⟨l, H2, I2, pl, el, e2⟩ => ?_)
  subst el e2
  refine thn (po_none.run pins s2 σ H2 (fun o H3 => o = none ∧ H3 = H2) I2 ⟨rfl, rfl⟩) fun vu s3 ⟨u, H3, I3, pu, eu, e3⟩ => ?_
  subst eu e3
  refine thn (hst.run pins s3 σ H3 (fun o H4 => o = some (-1) ∧ H4 = H3) I3 ⟨1, rfl, -1, rfl, rfl, rfl⟩) fun vs s4 ⟨o, H4, I4, ps, eo, e4⟩ => ?_
  subst eo e4
  have I5 : Inv X pins σ H4 { s4 with heap := s4.heap.push { cls := .type "slice", data := .fields #[vl, vu, vs] } } := I4.kept (t' := s4.toks) fun b ob q => Heap.get?_push_of_some _ q
  obtain ⟨its, r, ht, hz⟩ := I5.tuple hx
  have hlen := r.length
  show wpAny (model X.prog X.w) X.A (subscriptTail e (.Slice none none (some (.UnaryOp .USub (.Constant (.int 1) k p1) p2)) p3) (.ref a) (.ref s4.heap.objs.size)) (EP X pins σ Q) X.xe { s4 with heap := s4.heap.push { cls := .type "slice", data := .fields #[vl, vu, vs] } }
  refine tail_any (ops := [.ref a, .ref s4.heap.objs.size]) ht.typeIs (PyProof.Rows.slot_tuple_getitem.lookup) ?_ (by with_unfolding_all rfl)
  refine HT.cm_tuple_rev ht (Heap.IsSliceOf.new _ vl vu vs) pl pu ps ?_ (by omega)
  refine ⟨.ref _, _, I5.laid (t' := s4.toks) (o := .tup xs.reverse) (fun b ob q => Heap.get?_push_of_some _ q) (Nat.le_refl _) ?_, rfl, q _ (I5.hok.fresh (Nat.le_refl _))⟩
  exact ⟨by rw [List.length_reverse]; exact hz, _, r.reverse, IsTup.new _ _⟩
end
end Cm
namespace Cm
open PySem PySem.Spec PyProof.Rows PySem.W L2 SX
section
variable {X : Cx}
/-- t == () -/
def rEqNilT (K : Frag) : R2 := fun x y H Q => ∃ a b xs, x = .ref a ∧ y = .ref b ∧ SqT K H a xs ∧ SqT K H b [] ∧ Q (.bl xs.isEmpty) H
theorem op_eqNilT (hu : X.A.units + 64 < cLine) : OpR X (compareOp .Eq) (rEqNilT X.K) := by
  intro pins s σ H x y v u Q I rx ry h
  obtain ⟨a, b, xs, rfl, rfl, ha, hb, q⟩ := h
  cases rx
  cases ry
  obtain ⟨us, r1, p1, _⟩ := I.tuple ha
  obtain ⟨ws, r2, p2, _⟩ := I.tuple hb
  cases r2
  have e : xs.isEmpty = ((List.range (min us.toArray.size (#[] : Array Value).size)).all (fun _ => true) && us.toArray.size == (#[] : Array Value).size) := by
    cases r1 with
    | nil => rfl
    | cons h t => rw [List.size_toArray]; rfl
  rw [e] at q
  obtain ⟨⟨cls, dd, data, sl⟩, ho, hc, n, hd⟩ := id p1
  obtain ⟨⟨cls2, dd2, data2, sl2⟩, ho2, hc2, n2, hd2⟩ := id p2
  simp only at hc hd hc2 hd2
  subst hc hd hc2 hd2
  refine richCompare_meets_room (op := .Eq) ⟨_, ho, rfl⟩ ⟨_, ho2, rfl⟩ F.slot_tuple_eq F.entry_tuple_eq (F.args_tuple_eq_2 _ _) (SeqAt.tuple_eqAt a b us.toArray #[] n n2 dd dd2 sl sl2 (fun _ => true)) ?_ (by omega)
  exact ⟨ho, ho2, (fun j h1 h2 => absurd h2 (Nat.not_lt_zero j)), (fun z => nomatch z), ⟨.bl _, H, I, rfl, q⟩⟩
end
end Cm
namespace Cm
open PySem PySem.W L2 SX
/-! ### any value: None, truths, numbers, texts, tuples of such; lists and dicts are not looked into -/
mutual
inductive Bt (K : Frag) (L : List Addr) (H : Hp) : V → PyData → Prop
  | non : Bt K L H .non .none
  | bl (b : Bool) : Bt K L H (.bl b) (.bool b)
  | int (i : Int) : Bt K L H (.int i) (.int i)
  | str {x : Str} (h : Tx x 100) : Bt K L H (.str x) (.str x)
  | lst {a : Addr} {xs : List V} : a ∉ L → H a = some (.lst xs) → Bt K L H (.ref a) (.list [])
  | dct {a : Addr} {kvs : List (Key × V)} : a ∉ L → H a = some (.dK kvs) → Bt K L H (.ref a) (.dict [])
  | tup {a : Addr} {xs : List V} {ds : List PyData} : SqT K H a xs → BtAll K L H xs ds → Bt K L H (.ref a) (.tuple ds)
inductive BtAll (K : Frag) (L : List Addr) (H : Hp) : List V → List PyData → Prop
  | nil : BtAll K L H [] []
  | cons {v : V} {vs : List V} {d : PyData} {ds : List PyData} : Bt K L H v d → BtAll K L H vs ds → BtAll K L H (v :: vs) (d :: ds)
end
/-- what such a value needs to stay -/
structure BKs (K : Frag) (L : List Addr) (H H' : Hp) : Prop where
  tk : TKs K H H'
  kp : Kp L H H'
theorem BKs.of {K : Frag} {L : List Addr} {H H' : Hp} (s : Same H H') : BKs K L H H' := ⟨TKs.of s, fun a o _ e => s a o e⟩
theorem BKs.trans {K : Frag} {L : List Addr} {H H1 H2 : Hp} (a : BKs K L H H1) (b : BKs K L H1 H2) : BKs K L H H2 := ⟨a.tk.trans b.tk, a.kp.trans b.kp⟩
mutual
theorem Bt.mono {K : Frag} {L : List Addr} {H H' : Hp} (k : BKs K L H H') : ∀ {v : V} {d : PyData}, Bt K L H v d → Bt K L H' v d
  | _, _, .non => .non
  | _, _, .bl b => .bl b
  | _, _, .int i => .int i
  | _, _, .str h => .str h
  | _, _, .lst n h => .lst n (k.kp _ _ n h)
  | _, _, .dct n h => .dct n (k.kp _ _ n h)
  | _, _, .tup h t => .tup (k.tk _ _ h) (BtAll.mono k t)
theorem BtAll.mono {K : Frag} {L : List Addr} {H H' : Hp} (k : BKs K L H H') : ∀ {v : List V} {d : List PyData}, BtAll K L H v d → BtAll K L H' v d
  | _, _, .nil => .nil
  | _, _, .cons h t => .cons (Bt.mono k h) (BtAll.mono k t)
end
theorem BtAll.len {K : Frag} {L : List Addr} {H : Hp} : ∀ {v : List V} {d : List PyData}, BtAll K L H v d → v.length = d.length
  | _, _, .nil => rfl
  | _, _, .cons _ t => congrArg (· + 1) (BtAll.len t)
theorem BtAll.append {K : Frag} {L : List Addr} {H : Hp} : ∀ {v v' : List V} {d d' : List PyData}, BtAll K L H v d → BtAll K L H v' d' → BtAll K L H (v ++ v') (d ++ d')
  | _, _, _, _, .nil, h => h
  | _, _, _, _, .cons h t, h' => .cons h (BtAll.append t h')
theorem BtAll.get {K : Frag} {L : List Addr} {H : Hp} : ∀ {v : List V} {d : List PyData} {i : Nat} {x : V}, BtAll K L H v d → v[i]? = some x → ∃ y, d[i]? = some y ∧ Bt K L H x y
  | _, _, i, x, .nil, h => by simp at h
  | _, _, 0, x, .cons h t, e => ⟨_, rfl, by cases e; exact h⟩
  | _, _, i + 1, x, .cons h t, e => by
    rw [List.getElem?_cons_succ] at e ⊢
    exact BtAll.get t e
theorem Bt.tupD {K : Frag} {L : List Addr} {H : Hp} {v : V} {ds : List PyData} (h : Bt K L H v (.tuple ds)) : ∃ a xs, v = .ref a ∧ SqT K H a xs ∧ BtAll K L H xs ds := by
  cases h with
  | tup h t => exact ⟨_, _, rfl, h, t⟩
def kTupB : PyData → Bool
  | .tuple _ => true
  | _ => false
def kStrB : PyData → Bool
  | .str _ => true
  | _ => false
def kIntB : PyData → Bool
  | .int _ => true
  | .bool _ => true
  | _ => false
def kBoolB : PyData → Bool
  | .bool _ => true
  | _ => false
theorem kTupB_of {d : PyData} (h : kTupB d = true) : ∃ ds, d = .tuple ds := by
  cases d with
  | tuple ds => exact ⟨ds, rfl⟩
  | _ => cases h
theorem kStrB_of {d : PyData} (h : kStrB d = true) : ∃ z, d = .str z := by
  cases d with
  | str z => exact ⟨z, rfl⟩
  | _ => cases h
/-- isinstance of such a value -/
theorem Bt.ty {K : Frag} {L : List Addr} {H : Hp} {v : V} {d : PyData} (h : Bt K L H v d) : ∃ t, TyX K H v t ∧ kitOne K t (.type "tuple") = some (kTupB d) ∧ kitOne K t (.type "str") = some (kStrB d) ∧ kitOne K t (.type "int") = some (kIntB d) ∧ kitOne K t (.type "bool") = some (kBoolB d) := by
  cases h with
  | non => exact ⟨_, .base .non, kit_ty (r := false) (by decide +kernel), kit_ty (r := false) (by decide +kernel), kit_ty (r := false) (by decide +kernel), kit_ty (r := false) (by decide +kernel)⟩
  | bl b => exact ⟨_, .base (.bl _), kit_ty (r := false) (by decide +kernel), kit_ty (r := false) (by decide +kernel), kit_ty (r := true) (by decide +kernel), kit_ty (r := true) (by decide +kernel)⟩
  | int i => exact ⟨_, .base (.int _), kit_ty (r := false) (by decide +kernel), kit_ty (r := false) (by decide +kernel), kit_ty (r := true) (by decide +kernel), kit_ty (r := false) (by decide +kernel)⟩
  | str h => exact ⟨_, .base (.str _), kit_ty (r := false) (by decide +kernel), kit_ty (r := true) (by decide +kernel), kit_ty (r := false) (by decide +kernel), kit_ty (r := false) (by decide +kernel)⟩
  | lst n h => exact ⟨_, .base (.lst h), kit_ty (r := false) (by decide +kernel), kit_ty (r := false) (by decide +kernel), kit_ty (r := false) (by decide +kernel), kit_ty (r := false) (by decide +kernel)⟩
  | dct n h => exact ⟨_, .base (.dK h), kit_ty (r := false) (by decide +kernel), kit_ty (r := false) (by decide +kernel), kit_ty (r := false) (by decide +kernel), kit_ty (r := false) (by decide +kernel)⟩
  | tup h t => exact ⟨_, tyTup h, kit_ty (r := true) (by decide +kernel), kit_ty (r := false) (by decide +kernel), kit_ty (r := false) (by decide +kernel), kit_ty (r := false) (by decide +kernel)⟩
/-! ### size and depth -/
mutual
def sz : PyData → Nat
  | .tuple ds => 1 + szs ds
  | _ => 1
def szs : List PyData → Nat
  | [] => 0
  | d :: r => sz d + szs r
end
mutual
def dep : PyData → Nat
  | .tuple ds => 1 + deps ds
  | _ => 0
def deps : List PyData → Nat
  | [] => 0
  | d :: r => max (dep d) (deps r)
end
theorem sz_pos (d : PyData) : 1 ≤ sz d := by
  cases d <;> first | (unfold sz; omega) | exact Nat.le_refl 1
theorem szs_mem {d : PyData} : ∀ {ds : List PyData}, d ∈ ds → sz d ≤ szs ds
  | a :: r, h => by
    unfold szs
    rcases List.mem_cons.mp h with rfl | h
    · omega
    · have := szs_mem h; omega
theorem szs_len : ∀ (ds : List PyData), ds.length ≤ szs ds
  | [] => Nat.le_refl 0
  | a :: r => by
    have h1 := szs_len r
    have h2 := sz_pos a
    unfold szs
    rw [List.length_cons]; omega
theorem deps_mem {d : PyData} : ∀ {ds : List PyData}, d ∈ ds → dep d ≤ deps ds
  | a :: r, h => by
    unfold deps
    rcases List.mem_cons.mp h with rfl | h
    · omega
    · have := deps_mem h; omega
theorem szs_append : ∀ (a b : List PyData), szs (a ++ b) = szs a + szs b
  | [], b => by show szs b = 0 + szs b; omega
  | x :: r, b => by
    show sz x + szs (r ++ b) = (sz x + szs r) + szs b
    rw [szs_append r b]; omega
theorem deps_append : ∀ (a b : List PyData), deps (a ++ b) = max (deps a) (deps b)
  | [], b => by show deps b = max 0 (deps b); omega
  | x :: r, b => by
    show max (dep x) (deps (r ++ b)) = max (max (dep x) (deps r)) (deps b)
    rw [deps_append r b]; omega
theorem sz_tuple (ds : List PyData) : sz (.tuple ds) = 1 + szs ds := by unfold sz; rfl
theorem dep_tuple (ds : List PyData) : dep (.tuple ds) = 1 + deps ds := by unfold dep; rfl
end Cm
namespace Cm
open PySem PySem.W L2 SX PySem.Spec PyProof.Rows
section
variable {X : Cx}
/-- x in t, t a tuple of data of any depth -/
def rInTD (K : PySem.W.Frag) : R2 := fun x y H Q => ∃ d ds, Dp K H x d ∧ Dp K H y (.tuple ds) ∧ SeqAt.shaped d = true ∧ SeqAt.shaped (.tuple ds) = true ∧ Q (.bl (ds.any fun z => PyData.eqv z d)) H
def rNotInTD (K : PySem.W.Frag) : R2 := fun x y H Q => ∃ d ds, Dp K H x d ∧ Dp K H y (.tuple ds) ∧ SeqAt.shaped d = true ∧ SeqAt.shaped (.tuple ds) = true ∧ Q (.bl (!ds.any fun z => PyData.eqv z d)) H
theorem op_inTD (hu : X.A.units + 65 < cLine) : OpR X (compareOp .In) (rInTD X.K) := by
  intro pins s σ H x y v u Q I rx ry h
  obtain ⟨d, ds, hd, he, sd, se, q⟩ := h
  obtain ⟨as, r1⟩ := Dp.reads I d x v hd rx
  obtain ⟨bs, r2⟩ := Dp.reads I (.tuple ds) y u he ry
  exact SeqAt.in_tuple_reads r2 r1 (SeqAt.canLay_of_shaped se) (SeqAt.canLay_of_shaped sd) (room_in_shaped sd hu) ⟨.bl _, H, I, rfl, q⟩
theorem op_notInTD (hu : X.A.units + 65 < cLine) : OpR X (compareOp .NotIn) (rNotInTD X.K) := by
  intro pins s σ H x y v u Q I rx ry h
  obtain ⟨d, ds, hd, he, sd, se, q⟩ := h
  obtain ⟨as, r1⟩ := Dp.reads I d x v hd rx
  obtain ⟨bs, r2⟩ := Dp.reads I (.tuple ds) y u he ry
  exact SeqAt.notIn_tuple_reads r2 r1 (SeqAt.canLay_of_shaped se) (SeqAt.canLay_of_shaped sd) (room_in_shaped sd hu) ⟨.bl _, H, I, rfl, q⟩
/-- t.index(x) of a tuple of data -/
def rIndexTD (K : PySem.W.Frag) : V → List V → Hp → VK → Prop := fun x xs H Q => ∃ (a : Addr) (y : V) (d : PyData) (ds : List PyData) (j : Nat) (z : PyData), x = V.ref a ∧ xs = [y] ∧ Dp K H (V.ref a) (.tuple ds) ∧ Dp K H y d ∧
  SeqAt.shaped (.tuple ds) = true ∧ SeqAt.shaped d = true ∧ ds[j]? = some z ∧ PyData.eqv z d = true ∧ (∀ (m : Nat) (z' : PyData), m < j → ds[m]? = some z' → PyData.eqv z' d = false) ∧ Q (.int (j : Nat)) H
theorem mt_tindexD (hu : X.A.units + 65 < cLine) : MtR X "tuple.index" (rIndexTD X.K) := by
  intro pins s σ H x xs v us Q I rx rxs h
  obtain ⟨a, y, d, ds, j, z, rfl, rfl, hl, hy, sl, sd, hz, hzj, hno, q⟩ := h
  cases rx
  cases rxs with
  | cons ry rt =>
    rename_i uy ut
    cases rt
    obtain ⟨bs, r1⟩ := Dp.reads I d y uy hy ry
    have hxs : PyData.canLayAll0 ds = true := SeqAt.canLay_of_shaped sl
    have hroom : X.A.units + 1 + min (PyData.depthAll ds) d.depth < cLine := room_in_shaped sd hu
    cases hl with
    | tup hs ha =>
      obtain ⟨its, rv, pl, hlen⟩ := I.tuple hs
      obtain ⟨⟨cls, dd, dt, sls⟩, ho, hc, n, hd⟩ := pl
      simp only at hc hd
      subst hc
      subst hd
      obtain ⟨as, h4⟩ := Dp.readsAll I ds _ its ha rv
      have hn : its.length = ds.length := SeqAt.ReadsAll.length ds its as h4
      have hmap : its.map (SeqAt.readOf s.heap) = ds := SeqAt.readsAll_map ds its as hxs h4
      obtain ⟨hjd, _⟩ := List.getElem?_eq_some_iff.mp hz
      have hjl : j < its.length := by omega
      have hj : j < its.toArray.size := by simpa using hjl
      have at_ : ∀ (m : Nat) (hm : m < its.toArray.size) (z' : PyData), ds[m]? = some z' → SeqAt.readOf s.heap its.toArray[m] = z' := by
        intro m hm z' hz'
        have hml : m < its.length := by simpa using hm
        rw [← hmap, List.getElem?_map, List.getElem?_eq_getElem hml] at hz'
        have e1 : SeqAt.readOf s.heap its[m] = z' := Option.some.inj (show some (SeqAt.readOf s.heap its[m]) = some z' from hz')
        simpa using e1
      refine call_meets PySem.F.slot_tuple_index ⟨_, ho, rfl⟩ PySem.F.entry_tuple_index (PySem.F.args_tuple_index_2 _ _)
        (TI.tuple_indexAt a its.toArray n dd sls uy (fun u => PyData.eqv (SeqAt.readOf s.heap u) d) j hj ?_ ?_) ⟨ho, SeqAt.items_eqAt (vs := its.toArray) (show ReadsAll s.heap its.toArray.toList ds as from h4) r1 hxs (SeqAt.canLay_of_shaped sd) hroom, ?_⟩
      · show PyData.eqv (SeqAt.readOf s.heap its.toArray[j]) d = true
        rw [at_ j hj z hz]
        exact hzj
      · intro m hm hmj
        have hmd : m < ds.length := by omega
        have hz' : ds[m]? = some ds[m] := List.getElem?_eq_getElem hmd
        show PyData.eqv (SeqAt.readOf s.heap its.toArray[m]) d = false
        rw [at_ m hm _ hz']
        exact hno m _ hmj hz'
      · exact ⟨.int (j : Nat), H, I.tok _, ⟨_, rfl⟩, q⟩
end
end Cm
/-! The layer of data: tuples are values, what can change stands in a store of its own. -/
namespace DD
open PySem PySem.W L2 SX Cm
inductive DV where
  | non | bl (b : Bool) | int (i : Int) | str (z : Str) | ty (n : String) | tup (xs : List DV) | ref (a : Addr)
noncomputable instance : DecidableEq DV := fun a b => Classical.propDecidable (a = b)
mutual
inductive RV (K : Frag) (H : Hp) : V → DV → Prop
  | non : RV K H .non .non
  | bl (b : Bool) : RV K H (.bl b) (.bl b)
  | int (i : Int) : RV K H (.int i) (.int i)
  | str (z : Str) : RV K H (.str z) (.str z)
  | ty (n : String) : RV K H (.ty n) (.ty n)
  | ref (a : Addr) : RV K H (.ref a) (.ref a)
  | tup {a : Addr} {xs : List V} {ds : List DV} : SqT K H a xs → RVs K H xs ds → RV K H (.ref a) (.tup ds)
inductive RVs (K : Frag) (H : Hp) : List V → List DV → Prop
  | nil : RVs K H [] []
  | cons {v : V} {vs : List V} {d : DV} {ds : List DV} : RV K H v d → RVs K H vs ds → RVs K H (v :: vs) (d :: ds)
end
mutual
theorem RV.mono {K : Frag} {H H' : Hp} (k : TKs K H H') : ∀ {v : V} {d : DV}, RV K H v d → RV K H' v d
  | _, _, .non => .non
  | _, _, .bl b => .bl b
  | _, _, .int i => .int i
  | _, _, .str z => .str z
  | _, _, .ty n => .ty n
  | _, _, .ref a => .ref a
  | _, _, .tup h t => .tup (k _ _ h) (RVs.mono k t)
theorem RVs.mono {K : Frag} {H H' : Hp} (k : TKs K H H') : ∀ {v : List V} {d : List DV}, RVs K H v d → RVs K H' v d
  | _, _, .nil => .nil
  | _, _, .cons h t => .cons (RV.mono k h) (RVs.mono k t)
end
section
variable {K : Frag} {H H' : Hp}
theorem RVs.len : ∀ {v : List V} {d : List DV}, RVs K H v d → v.length = d.length
  | _, _, .nil => rfl
  | _, _, .cons _ t => congrArg (· + 1) (RVs.len t)
theorem RVs.append : ∀ {v v' : List V} {d d' : List DV}, RVs K H v d → RVs K H v' d' → RVs K H (v ++ v') (d ++ d')
  | _, _, _, _, .nil, h => h
  | _, _, _, _, .cons h t, h' => .cons h (RVs.append t h')
theorem RVs.get : ∀ {v : List V} {d : List DV} {i : Nat} {y : DV}, RVs K H v d → d[i]? = some y → ∃ x, v[i]? = some x ∧ RV K H x y
  | _, _, _, _, .nil, e => by simp at e
  | _, _, 0, _, .cons h t, e => by cases e; exact ⟨_, rfl, h⟩
  | _, _, i + 1, _, .cons h t, e => RVs.get (i := i) t (by simpa using e)
theorem RVs.getV : ∀ {v : List V} {d : List DV} {i : Nat} {x : V}, RVs K H v d → v[i]? = some x → ∃ y, d[i]? = some y ∧ RV K H x y
  | _, _, _, _, .nil, e => by simp at e
  | _, _, 0, _, .cons h t, e => by cases e; exact ⟨_, rfl, h⟩
  | _, _, i + 1, _, .cons h t, e => RVs.getV (i := i) t (by simpa using e)
theorem RVs.drop : ∀ (n : Nat) {v : List V} {d : List DV}, RVs K H v d → RVs K H (v.drop n) (d.drop n)
  | 0, _, _, h => h
  | _ + 1, _, _, .nil => .nil
  | n + 1, _, _, .cons _ t => RVs.drop n t
theorem RVs.take : ∀ (n : Nat) {v : List V} {d : List DV}, RVs K H v d → RVs K H (v.take n) (d.take n)
  | 0, _, _, _ => .nil
  | _ + 1, _, _, .nil => .nil
  | n + 1, _, _, .cons h t => .cons h (RVs.take n t)
theorem RVs.reverse : ∀ {v : List V} {d : List DV}, RVs K H v d → RVs K H v.reverse d.reverse
  | _, _, .nil => .nil
  | _, _, .cons h t => by rw [List.reverse_cons, List.reverse_cons]; exact (RVs.reverse t).append (.cons h .nil)
theorem RVs.set {x : V} {y : DV} (r : RV K H x y) : ∀ {v : List V} {d : List DV} (i : Nat), RVs K H v d → RVs K H (v.set i x) (d.set i y)
  | _, _, _, .nil => .nil
  | _, _, 0, .cons _ t => .cons r t
  | _, _, i + 1, .cons h t => .cons h (RVs.set r i t)
theorem RVs.eraseIdx : ∀ {v : List V} {d : List DV} (i : Nat), RVs K H v d → RVs K H (v.eraseIdx i) (d.eraseIdx i)
  | _, _, _, .nil => .nil
  | _, _, 0, .cons _ t => t
  | _, _, i + 1, .cons h t => .cons h (RVs.eraseIdx i t)
theorem RVs.dropLast : ∀ {v : List V} {d : List DV}, RVs K H v d → RVs K H v.dropLast d.dropLast
  | _, _, .nil => .nil
  | _, _, .cons h .nil => .nil
  | _, _, .cons h (.cons h' t) => .cons h (RVs.dropLast (.cons h' t))
theorem RVs.isEmpty {v : List V} {d : List DV} (h : RVs K H v d) : v.isEmpty = d.isEmpty := by cases h <;> rfl
theorem RVs.ints : ∀ (ns : List Int), RVs K H (ns.map V.int) (ns.map DV.int)
  | [] => .nil
  | n :: r => .cons (.int n) (RVs.ints r)
theorem RVs.strs' : ∀ (ns : List Str), RVs K H (ns.map V.str) (ns.map DV.str)
  | [] => .nil
  | n :: r => .cons (.str n) (RVs.strs' r)
theorem RV.tupD {v : V} {ds : List DV} (h : RV K H v (.tup ds)) : ∃ a xs, v = .ref a ∧ SqT K H a xs ∧ RVs K H xs ds := by
  cases h with
  | tup a b => exact ⟨_, _, rfl, a, b⟩
end
/-! ### the store -/
inductive DO where
  | lst (xs : List DV)
  /-- a list that is only read -/
  | ro (xs : List DV)
  | dct (kvs : List (Key × DV))
  /-- a list of one number, whatever it is -/
  | cnt
  /-- what is true of the objects at L, the first of which it is -/
  | abs (L : List Addr) (φ : Hp → Prop)
abbrev DG := Addr → Option DO
def dupd (G : DG) (a : Addr) (o : DO) : DG := fun b => if b = a then some o else G b
theorem dupd_same {G : DG} {a : Addr} {o : DO} : dupd G a o a = some o := if_pos rfl
theorem dupd_ne {G : DG} {a b : Addr} {o : DO} (h : b ≠ a) : dupd G a o b = G b := if_neg h
theorem dupd_dupd {G : DG} {a : Addr} {o o' : DO} : dupd (dupd G a o) a o' = dupd G a o' := by
  funext b; unfold dupd; split <;> rfl
inductive KRV (K : Frag) (H : Hp) : List (Key × V) → List (Key × DV) → Prop
  | nil : KRV K H [] []
  | cons {k : Key} {v : V} {d : DV} {vs : List (Key × V)} {ds : List (Key × DV)} : RV K H v d → KRV K H vs ds → KRV K H ((k, v) :: vs) ((k, d) :: ds)
theorem KRV.mono {K : Frag} {H H' : Hp} (k : TKs K H H') {vs : List (Key × V)} {ds : List (Key × DV)} (h : KRV K H vs ds) : KRV K H' vs ds := by
  induction h with
  | nil => exact .nil
  | cons h _ ih => exact .cons (h.mono k) ih
def OR (K : Frag) (H : Hp) (O : Addr → Option Addr) (a : Addr) : DO → Prop
  | .lst ds => ∃ xs, H a = some (.lst xs) ∧ RVs K H xs ds
  | .ro ds => ∃ xs, Rd H a (.lst xs) ∧ RVs K H xs ds
  | .dct kvs => ∃ ks, H a = some (.dK ks) ∧ KRV K H ks kvs
  | .cnt => ∃ n : Int, H a = some (.lst [.int n])
  | .abs L φ => a ∈ L ∧ (∃ xs, H a = some (.lst xs)) ∧ φ H ∧ (∀ H1 H2, (∀ b ∈ L, H1 b = H2 b) → φ H1 → φ H2) ∧ ∀ b ∈ L, b ≠ a → O b = some a
/-- the store stands in the heap; O: who owns what does not stand in the store -/
structure WdO (K : Frag) (H : Hp) (O : Addr → Option Addr) (G : DG) : Prop where
  own : ∀ b a, O b = some a → G b = none ∧ ∃ xs, H b = some (.lst xs)
  ob : ∀ a o, G a = some o → OR K H O a o
def Wd (K : Frag) (H : Hp) (G : DG) : Prop := ∃ O, WdO K H O G
section
variable {K : Frag} {H H' : Hp} {G G' : DG} {O : Addr → Option Addr} {a p : Addr} {o : DO}
theorem OR.some (h : OR K H O a o) : ∃ u, H a = some u := by
  cases o with
  | lst ds => obtain ⟨xs, e, _⟩ := h; exact ⟨_, e⟩
  | ro ds =>
    obtain ⟨xs, e | ⟨o, e⟩, _⟩ := h
    · exact ⟨_, e⟩
    · exact ⟨_, e⟩
  | dct kvs => obtain ⟨xs, e, _⟩ := h; exact ⟨_, e⟩
  | cnt => obtain ⟨xs, e⟩ := h; exact ⟨_, e⟩
  | abs L φ => obtain ⟨xs, e⟩ := h.2.1; exact ⟨_, e⟩
theorem WdO.free (w : WdO K H O G) (n : H p = none) : G p = none ∧ O p = none := by
  refine ⟨?_, ?_⟩
  · cases e : G p with
    | none => rfl
    | some o => obtain ⟨u, h⟩ := (w.ob p o e).some; rw [n] at h; cases h
  · cases e : O p with
    | none => rfl
    | some o => obtain ⟨_, xs, h⟩ := w.own p o e; rw [n] at h; cases h
theorem Wd.free (w : Wd K H G) (n : H p = none) : G p = none := by
  obtain ⟨O, w⟩ := w
  exact (w.free n).1
/-- what stays of an object where its addresses stay -/
theorem OR.keep (w : WdO K H O G) (t : TKs K H H') (e : G a = Option.some o) (h : ∀ b, (b = a ∨ O b = Option.some a) → H' b = H b) : OR K H' O a o := by
  have x := w.ob a o e
  have ha : H' a = H a := h a (.inl rfl)
  cases o with
  | lst ds => obtain ⟨xs, e, r⟩ := x; exact ⟨xs, by rw [ha]; exact e, r.mono t⟩
  | ro ds =>
    obtain ⟨xs, e | ⟨o, e⟩, r⟩ := x
    · exact ⟨xs, .inl (by rw [ha]; exact e), r.mono t⟩
    · exact ⟨xs, .inr ⟨o, by rw [ha]; exact e⟩, r.mono t⟩
  | dct kvs => obtain ⟨ks, e, r⟩ := x; exact ⟨ks, by rw [ha]; exact e, r.mono t⟩
  | cnt => obtain ⟨n, e⟩ := x; exact ⟨n, by rw [ha]; exact e⟩
  | abs L φ =>
    obtain ⟨m, ⟨u, hu⟩, hφ, loc, ow⟩ := x
    refine ⟨m, ⟨u, by rw [ha]; exact hu⟩, loc H H' (fun b hb => ?_) hφ, loc, ow⟩
    by_cases hba : b = a
    · rw [hba]; exact ha.symm
    · exact (h b (.inr (ow b hb hba))).symm
theorem Wd.same (w : Wd K H G) (s : Same H H') : Wd K H' G := by
  obtain ⟨O, w⟩ := w
  refine ⟨O, ⟨fun b a e => ?_, fun a o e => OR.keep w (TKs.of s) e fun b hb => ?_⟩⟩
  · obtain ⟨h1, xs, h2⟩ := w.own b a e
    exact ⟨h1, xs, s _ _ h2⟩
  · obtain ⟨u, hu⟩ : ∃ u, H b = Option.some u := by
      rcases hb with rfl | hb
      · exact (w.ob _ o e).some
      · obtain ⟨_, xs, h⟩ := w.own b a hb; exact ⟨_, h⟩
    rw [hu, s _ _ hu]
/-- less is known -/
def Sub (G G' : DG) : Prop := ∀ a o, G a = Option.some o → G' a = Option.some o
theorem Sub.refl (G : DG) : Sub G G := fun _ _ h => h
theorem Sub.trans {A B C : DG} (h : Sub A B) (g : Sub B C) : Sub A C := fun a o e => g a o (h a o e)
theorem Sub.new (h : Sub G G') (n : G p = none) : Sub G (dupd G' p o) := fun a u e => by
  rw [dupd_ne (fun z => by rw [z, n] at e; cases e)]; exact h a u e
theorem Sub.set (h : Sub G G') : Sub (dupd G p o) (dupd G' p o) := fun a u e => by
  by_cases z : a = p
  · subst z; rw [dupd_same] at e ⊢; exact e
  · rw [dupd_ne z] at e ⊢; exact h a u e
theorem Wd.sub (w : Wd K H G') (s : Sub G G') : Wd K H G := by
  obtain ⟨O, w⟩ := w
  refine ⟨O, ⟨fun b a e => ⟨?_, (w.own b a e).2⟩, fun a o e => w.ob a o (s a o e)⟩⟩
  cases h : G b with
  | none => rfl
  | some u => have := s b u h; rw [(w.own b a e).1] at this; cases this
/-- the store's object at p is changed, in the heap too -/
theorem Wd.put {o' : DO} {u' : HO} (w : Wd K H G) (hp : ∃ o, G p = Option.some o ∧ ∀ L φ, o ≠ .abs L φ) (t : TKs K H (upd H p u')) (h' : ∀ O, OR K (upd H p u') O p o') : Wd K (upd H p u') (dupd G p o') := by
  obtain ⟨O, w⟩ := w
  obtain ⟨o, ep, na⟩ := hp
  have op : O p = none := by
    cases e : O p with
    | none => rfl
    | some c => have := (w.own p c e).1; rw [ep] at this; cases this
  refine ⟨O, ⟨fun b a e => ?_, fun a o1 e => ?_⟩⟩
  · obtain ⟨h1, xs, h2⟩ := w.own b a e
    have bp : b ≠ p := fun z => by rw [z, op] at e; cases e
    exact ⟨by rw [dupd_ne bp]; exact h1, xs, by rw [upd_ne bp]; exact h2⟩
  · by_cases hap : a = p
    · subst hap
      rw [dupd_same] at e
      cases e
      exact h' O
    · rw [dupd_ne hap] at e
      exact OR.keep w t e fun b hb => upd_ne (fun z => by
        rcases hb with hb | hb
        · exact hap (hb.symm.trans z)
        · rw [z, op] at hb; cases hb)
/-- a new object -/
theorem Wd.new {u : HO} (w : Wd K H G) (n : H p = none) (h : ∀ O, OR K (upd H p u) O p o) : Wd K (upd H p u) (dupd G p o) := by
  have w' := w.same (same_new n u)
  obtain ⟨O, w⟩ := w
  have fr := w.free n
  refine ⟨O, ⟨fun b a e => ?_, fun a o1 e => ?_⟩⟩
  · obtain ⟨h1, xs, h2⟩ := w.own b a e
    have bp : b ≠ p := fun z => by rw [z, fr.2] at e; cases e
    exact ⟨by rw [dupd_ne bp]; exact h1, xs, by rw [upd_ne bp]; exact h2⟩
  · by_cases hap : a = p
    · subst hap
      rw [dupd_same] at e
      cases e
      exact h O
    · rw [dupd_ne hap] at e
      exact OR.keep w (TKs.of (same_new n u)) e fun b hb => upd_ne (fun z => by
        rcases hb with hb | hb
        · exact hap (hb.symm.trans z)
        · rw [z, fr.2] at hb; cases hb)
end
end DD
namespace DD
open PySem PySem.W L2 SX Cm
abbrev DSt := List (Option DV)
abbrev DK := DV → DG → Prop
abbrev TD := DSt → DG → DK → Prop
abbrev TDT := DSt → DG → (Bool → DG → Prop) → Prop
abbrev TDA := DSt → DG → (List DV → DG → Prop) → Prop
structure DEnds where
  nx : DSt → DG → Prop
  rt : DK
  bk : DSt → DG → Prop := fun _ _ => False
  ct : DSt → DG → Prop := fun _ _ => False
abbrev TDS := DEnds → DSt → DG → Prop
/-! ### slots -/
inductive Sl (K : Frag) (H : Hp) : St → DSt → Prop
  | nil : Sl K H [] []
  | non {σ : St} {δ : DSt} : Sl K H σ δ → Sl K H (none :: σ) (none :: δ)
  | cons {v : V} {d : DV} {σ : St} {δ : DSt} : RV K H v d → Sl K H σ δ → Sl K H (some v :: σ) (some d :: δ)
section
variable {K : Frag} {H H' : Hp}
theorem Sl.mono (k : TKs K H H') {σ : St} {δ : DSt} (h : Sl K H σ δ) : Sl K H' σ δ := by
  induction h with
  | nil => exact .nil
  | non _ ih => exact .non ih
  | cons r _ ih => exact .cons (r.mono k) ih
theorem Sl.get : ∀ {σ : St} {δ : DSt} {i : Nat} {d : DV}, Sl K H σ δ → δ[i]? = some (some d) → ∃ v, σ[i]? = some (some v) ∧ RV K H v d
  | _, _, _, _, .nil, e => by simp at e
  | _, _, 0, _, .non _, e => by simp at e
  | _, _, 0, _, .cons r _, e => by simp at e; subst e; exact ⟨_, rfl, r⟩
  | _, _, i + 1, _, .non t, e => Sl.get (i := i) t (by simpa using e)
  | _, _, i + 1, _, .cons _ t, e => Sl.get (i := i) t (by simpa using e)
theorem Sl.set {v : V} {d : DV} (r : RV K H v d) : ∀ {σ : St} {δ : DSt} (i : Nat), Sl K H σ δ → Sl K H (σ.set i (some v)) (δ.set i (some d))
  | _, _, _, .nil => .nil
  | _, _, 0, .non t => .cons r t
  | _, _, 0, .cons _ t => .cons r t
  | _, _, i + 1, .non t => .non (Sl.set r i t)
  | _, _, i + 1, .cons h t => .cons h (Sl.set r i t)
theorem Sl.unset : ∀ {σ : St} {δ : DSt} (i : Nat), Sl K H σ δ → Sl K H (σ.set i none) (δ.set i none)
  | _, _, _, .nil => .nil
  | _, _, 0, .non t => .non t
  | _, _, 0, .cons _ t => .non t
  | _, _, i + 1, .non t => .non (Sl.unset i t)
  | _, _, i + 1, .cons h t => .cons h (Sl.unset i t)
theorem RVs.atI {v : List V} {d : List DV} {i : Int} {y : DV} (h : RVs K H v d) (e : L2.atI d i = some y) : ∃ x, L2.atI v i = some x ∧ RV K H x y := by
  unfold L2.atI at *
  rw [h.len]
  cases hj : ixN d.length i with
  | none => rw [hj] at e; cases e
  | some j =>
    rw [hj] at e
    obtain ⟨x, h1, h2⟩ := h.get e
    exact ⟨x, h1, h2⟩
/-- a slice -/
def cutD {α : Type} (xs : List α) (lo hi : Option Int) : List α := (xs.drop (HT.sIx xs.length 0 lo)).take (HT.sIx xs.length xs.length hi - HT.sIx xs.length 0 lo)
theorem RVs.cut {v : List V} {d : List DV} (h : RVs K H v d) (lo hi : Option Int) : RVs K H (cutV v lo hi) (cutD d lo hi) := by
  unfold cutV cutD
  rw [h.len]
  exact (h.drop _).take _
theorem cutD_all {α : Type} {xs : List α} {lo hi : Option Int} (h : HT.sIx xs.length 0 lo = 0 ∧ HT.sIx xs.length xs.length hi = xs.length) : cutD xs lo hi = xs := by
  unfold cutD
  rw [h.1, h.2, List.drop_zero, Nat.sub_zero, List.take_length]
end
/-! ### what a reading of data says of the heap -/
def Fin (K : Frag) (H : Hp) (R : DK) (Q : VK) : Prop := ∀ d G v H', R d G → TKs K H H' → Wd K H' G → RV K H' v d → Q v H'
def up (K : Frag) (t : TD) : TE := fun σ H Q => ∃ δ G R, Sl K H σ δ ∧ Wd K H G ∧ t δ G R ∧ Fin K H R Q
def upT (K : Frag) (t : TDT) : TT := fun σ H Q => ∃ δ G R, Sl K H σ δ ∧ Wd K H G ∧ t δ G R ∧ ∀ b G' H', R b G' → TKs K H H' → Wd K H' G' → Q b H'
def upA (K : Frag) (t : TDA) : TA := fun σ H Q => ∃ δ G R, Sl K H σ δ ∧ Wd K H G ∧ t δ G R ∧ ∀ ds G' vs H', R ds G' → TKs K H H' → Wd K H' G' → RVs K H' vs ds → Q vs H'
/-- the ends of data and the ends of the heap -/
structure Links (K : Frag) (H : Hp) (D' : DEnds) (D : Ends) : Prop where
  nx : ∀ σ δ G H', D'.nx δ G → TKs K H H' → Wd K H' G → Sl K H' σ δ → D.nx σ H'
  rt : ∀ d G v H', D'.rt d G → TKs K H H' → Wd K H' G → RV K H' v d → D.rt v H'
  bk : ∀ σ δ G H', D'.bk δ G → TKs K H H' → Wd K H' G → Sl K H' σ δ → D.bk σ H'
  ct : ∀ σ δ G H', D'.ct δ G → TKs K H H' → Wd K H' G → Sl K H' σ δ → D.ct σ H'
def upS (K : Frag) (t : TDS) : TS := fun D σ H => ∃ D' δ G, Sl K H σ δ ∧ Wd K H G ∧ Links K H D' D ∧ t D' δ G
section
variable {K : Frag} {H H1 : Hp}
theorem Fin.step {R : DK} {Q : VK} (f : Fin K H R Q) (t : TKs K H H1) : Fin K H1 R Q := fun d G v H' r t' w rv => f d G v H' r (t.trans t') w rv
theorem Links.step {D' : DEnds} {D : Ends} (l : Links K H D' D) (t : TKs K H H1) : Links K H1 D' D :=
  ⟨fun σ δ G H' r t' => l.nx σ δ G H' r (t.trans t'), fun d G v H' r t' => l.rt d G v H' r (t.trans t'), fun σ δ G H' r t' => l.bk σ δ G H' r (t.trans t'), fun σ δ G H' r t' => l.ct σ δ G H' r (t.trans t')⟩
end
section
variable {X : Cx}
theorem PE_mono {e : Expr} {t t' : TE} (h : PE X e t) (i : ∀ σ H Q, t' σ H Q → t σ H Q) : PE X e t' := ⟨fun pins s σ H Q I q => h.run pins s σ H Q I (i σ H Q q)⟩
theorem PT_mono {e : Expr} {t t' : TT} (h : PT X e t) (i : ∀ σ H Q, t' σ H Q → t σ H Q) : PT X e t' := ⟨fun pins s σ H Q I q => h.run pins s σ H Q I (i σ H Q q)⟩
theorem PW_mono {e : Expr} {t t' : TT} (h : PW X e t) (i : ∀ σ H Q, t' σ H Q → t σ H Q) : PW X e t' := ⟨fun wh pins s σ H Q I q => h.run wh pins s σ H Q I (i σ H Q q)⟩
theorem PA_mono {e : List Expr} {t t' : TA} (h : PA X e t) (i : ∀ σ H Q, t' σ H Q → t σ H Q) : PA X e t' := ⟨fun pos pins s σ H Q I q => h.run pos pins s σ H Q I (i σ H Q q)⟩
theorem PS_mono {e : Stmt} {t t' : TS} (h : PS X e t) (i : ∀ D σ H, t' D σ H → t D σ H) : PS X e t' := ⟨fun pins s σ H D I q => h.run pins s σ H D I (i D σ H q)⟩
theorem PSs_mono {e : List Stmt} {t t' : TS} (h : PSs X e t) (i : ∀ D σ H, t' D σ H → t D σ H) : PSs X e t' := ⟨fun pins s σ H D I q => h.run pins s σ H D I (i D σ H q)⟩
abbrev DE (X : Cx) (e : Expr) (t : TD) : Prop := PE X e (up X.K t)
abbrev DT (X : Cx) (e : Expr) (t : TDT) : Prop := PT X e (upT X.K t)
abbrev DW (X : Cx) (e : Expr) (t : TDT) : Prop := PW X e (upT X.K t)
abbrev DA (X : Cx) (e : List Expr) (t : TDA) : Prop := PA X e (upA X.K t)
abbrev DS (X : Cx) (e : Stmt) (t : TDS) : Prop := PS X e (upS X.K t)
abbrev DSs (X : Cx) (e : List Stmt) (t : TDS) : Prop := PSs X e (upS X.K t)
/-! ### names, constants -/
def dVar (i : Nat) : TD := fun δ G Q => ∃ d, δ[i]? = some (some d) ∧ Q d G
def dC (d : DV) : TD := fun _ G Q => Q d G
theorem de_var {i : Nat} {x : Str} {pos : Pos} (hN : X.N[i]? = some x) (hv : Vis X.env.scope x) (hd : (x == ("__debug__" : Str)) = false := by decide) (hcd : (x == ("__classdict__" : Str)) = false := by decide) : DE X (.Name x pos) (dVar i) :=
  PE_mono (pe_var hN hv hd hcd) fun σ H Q ⟨δ, G, R, sl, w, ⟨d, e, r⟩, f⟩ => by
    obtain ⟨v, e', rv⟩ := sl.get e
    exact ⟨v, e', f d G v H r (TKs.refl H) w rv⟩
theorem de_c {e : Expr} {v : V} {d : DV} (h : PE X e (tC v)) (r : ∀ H, RV X.K H v d) : DE X e (dC d) :=
  PE_mono h fun σ H Q ⟨δ, G, R, sl, w, q, f⟩ => f d G v H q (TKs.refl H) w (r H)
theorem de_int {i : Int} {j pos} : DE X (.Constant (.int i) j pos) (dC (.int i)) := de_c pe_int fun _ => .int i
theorem de_bl {b : Bool} {j pos} : DE X (.Constant (.bool b) j pos) (dC (.bl b)) := de_c pe_bl fun _ => .bl b
theorem de_non {j pos} : DE X (.Constant .none j pos) (dC .non) := de_c pe_non fun _ => .non
theorem de_str {x : Str} {j pos} : DE X (.Constant (.str x) j pos) (dC (.str x)) := de_c pe_str fun _ => .str x
theorem de_gstr {x : Str} {z : Str} {pos : Pos} (hm : ∃ t, X.mg x = some (.str z t)) (hg : Gl X x) (hd : (x == ("__debug__" : Str)) = false := by decide) : DE X (.Name x pos) (dC (.str z)) := by
  obtain ⟨t, hm⟩ := hm
  exact de_c (pe_glob (v := .str z) hg hm ⟨t, rfl⟩ hd) fun _ => .str z
theorem de_gint {x : Str} {z : Int} {pos : Pos} (hm : ∃ t, X.mg x = some (.int z t)) (hg : Gl X x) (hd : (x == ("__debug__" : Str)) = false := by decide) : DE X (.Name x pos) (dC (.int z)) := by
  obtain ⟨t, hm⟩ := hm
  exact de_c (pe_glob (v := .int z) hg hm ⟨t, rfl⟩ hd) fun _ => .int z
theorem de_gref {x : Str} {a : Addr} {pos : Pos} (hm : X.mg x = some (.ref a)) (hg : Gl X x) (hd : (x == ("__debug__" : Str)) = false := by decide) : DE X (.Name x pos) (dC (.ref a)) := de_c (pe_glob (v := .ref a) hg hm rfl hd) fun _ => .ref a
theorem de_ty {x : Str} {n : String} {pos : Pos} (hm : X.mg x = none) (hg : Gl X x) (hv : bootBuiltins x = some (.type n)) (hn : x ≠ "__name__" := by decide) (hd : (x == ("__debug__" : Str)) = false := by decide) : DE X (.Name x pos) (dC (.ty n)) := de_c (pe_bltn (v := .ty n) hg hm hv rfl hn hd) fun _ => .ty n
/-! ### operators -/
abbrev D2 := DV → DV → DG → DK → Prop
def dOp (b : D2) (ta tb : TD) : TD := fun δ G Q => ta δ G fun x G1 => tb δ G1 fun y G2 => b x y G2 Q
def Ok2 (K : Frag) (r : R2) (b : D2) : Prop := ∀ x y vx vy H G R Q, RV K H vx x → RV K H vy y → Wd K H G → b x y G R → Fin K H R Q → r vx vy H Q
def OpD (X : Cx) (f : Value → Value → Sem Value) (b : D2) : Prop := ∃ r, OpR X f r ∧ Ok2 X.K r b
theorem bin_up {r : R2} {b : D2} {K : Frag} (ok : Ok2 K r b) {ta tb : TD} {σ : St} {H : Hp} {Q : VK} (h : up K (dOp b ta tb) σ H Q) : tOp r (up K ta) (up K tb) σ H Q := by
  obtain ⟨δ, G, R, sl, w, q, f⟩ := h
  exact ⟨δ, G, _, sl, w, q, fun x G1 vx H1 q1 t1 w1 r1 => ⟨δ, G1, _, sl.mono t1, w1, q1, fun y G2 vy H2 q2 t2 w2 r2 => ok x y vx vy H2 G2 R Q (r1.mono t2) r2 w2 q2 (f.step (t1.trans t2))⟩⟩
theorem de_op {op : Operator} {b : D2} {e1 e2 : Expr} {ta tb : TD} {pos : Pos} (ho : OpD X (binaryOp op) b) (ha : DE X e1 ta) (hb : DE X e2 tb) : DE X (.BinOp e1 op e2 pos) (dOp b ta tb) := by
  obtain ⟨r, hr, ok⟩ := ho
  exact PE_mono (pe_op hr ha hb) fun σ H Q h => bin_up ok h
theorem de_cmp {op : CmpOp} {b : D2} {e1 e2 : Expr} {ta tb : TD} {pos : Pos} (ho : OpD X (compareOp op) b) (ha : DE X e1 ta) (hb : DE X e2 tb) (hm : behindInMarks op e2 = false) : DE X (.Compare e1 [op] [e2] pos) (dOp b ta tb) := by
  obtain ⟨r, hr, ok⟩ := ho
  exact PE_mono (pe_cmpR hr ha hb hm) fun σ H Q h => bin_up ok h
def dTest (t : TD) : TDT := fun δ G Q => t δ G fun d G' => ∃ k, d = .bl k ∧ Q k G'
theorem test_up {K : Frag} {t : TD} {σ : St} {H : Hp} {Q : Bool → Hp → Prop} (h : upT K (dTest t) σ H Q) : up K t σ H fun x H' => ∃ k, x = .bl k ∧ Q k H' := by
  obtain ⟨δ, G, R, sl, w, q, f⟩ := h
  refine ⟨δ, G, _, sl, w, q, fun d G' v H' ⟨k, e, r⟩ t' w' rv => ?_⟩
  subst e
  cases rv
  exact ⟨k, rfl, f k G' H' r t' w'⟩
theorem dt_cmp {op : CmpOp} {b : D2} {e1 e2 : Expr} {ta tb : TD} {pos : Pos} (ho : OpD X (compareOp op) b) (ha : DE X e1 ta) (hb : DE X e2 tb) (hm : behindInMarks op e2 = false) : DT X (.Compare e1 [op] [e2] pos) (dTest (dOp b ta tb)) := by
  obtain ⟨r, hr, ok⟩ := ho
  refine PT_mono (pt_cmpR hr ha hb hm) fun σ H Q h => ?_
  have := test_up h
  exact bin_up ok this
theorem Ok2.or {K : Frag} {r r' : R2} {b : D2} (h : ∀ x y vx vy H G R Q, RV K H vx x → RV K H vy y → Wd K H G → b x y G R → Fin K H R Q → r vx vy H Q ∨ r' vx vy H Q) : Ok2 K (fun x y H Q => r x y H Q ∨ r' x y H Q) b := h
/-- sums: numbers, texts, tuples, lists -/
def bAdd : D2
  | .int i, .int j, G, Q => Q (.int (i + j)) G
  | .str a, .str b, G, Q => a.length + b.length ≤ sizeLine ∧ Q (.str (a ++ b)) G
  | .tup a, .tup b, G, Q => a.length + b.length ≤ sizeLine ∧ Q (.tup (a ++ b)) G
  | .ref p, .ref q, G, Q => ∃ xs ys, G p = some (.lst xs) ∧ G q = some (.lst ys) ∧ xs.length + ys.length ≤ sizeLine ∧ ∀ r, G r = none → Q (.ref r) (dupd G r (.lst (xs ++ ys)))
  | _, _, _, _ => False
theorem od_add : OpD X (binaryOp .Add) bAdd := by
  refine ⟨_, op_add.or (op_add_str.or (op_catA.or op_cat)), fun x y vx vy H G R Q rx ry w h f => ?_⟩
  cases rx with
  | int i =>
    cases ry with
    | int j => exact .inl ⟨i, j, rfl, rfl, f _ G _ H h (TKs.refl H) w (.int _)⟩
    | _ => exact h.elim
  | str a =>
    cases ry with
    | str b => exact .inr (.inl ⟨a, b, rfl, rfl, h.1, f _ G _ H h.2 (TKs.refl H) w (.str _)⟩)
    | _ => exact h.elim
  | tup sa ra =>
    rename_i p xs ds
    cases ry with
    | tup sb rb =>
      rename_i q ys es
      obtain ⟨hl, hq⟩ := h
      refine .inr (.inr (.inl ⟨p, q, xs, ys, rfl, rfl, sa, sb, by rw [ra.len, rb.len]; exact hl, fun e => ?_, fun _ e => ?_, fun _ _ r nr => ?_⟩))
      · subst e
        cases ra
        exact f _ G _ H hq (TKs.refl H) w (.tup sb rb)
      · subst e
        cases rb
        rw [List.append_nil] at hq
        exact f _ G _ H hq (TKs.refl H) w (.tup sa ra)
      · have s := same_new nr (.tup (xs ++ ys))
        exact f _ G _ _ hq (TKs.of s) (w.same s) (.tup (SqT.of upd_same) ((ra.append rb).mono (.of s)))
    | _ => exact h.elim
  | ref p =>
    cases ry with
    | ref q =>
      obtain ⟨xs, ys, e1, e2, hl, hq⟩ := h
      obtain ⟨O, w'⟩ := id w
      obtain ⟨us, h1, r1⟩ := w'.ob p _ e1
      obtain ⟨vs, h2, r2⟩ := w'.ob q _ e2
      refine .inr (.inr (.inr ⟨p, q, us, vs, rfl, rfl, h1, h2, by rw [r1.len, r2.len]; exact hl, fun r nr => ?_⟩))
      have s := same_new nr (.lst (us ++ vs))
      exact f _ _ _ _ (hq r (w.free nr)) (TKs.of s) (w.new nr fun O => ⟨_, upd_same, (r1.append r2).mono (.of s)⟩) (.ref r)
    | _ => exact h.elim
  | _ => exact h.elim
/-- two numbers -/
def bInt (C : Int → Int → Prop) (g : Int → Int → DV) : D2
  | .int i, .int j, G, Q => C i j ∧ Q (g i j) G
  | _, _, _, _ => False
theorem od_int {op : Operator} {C : Int → Int → Prop} {g : Int → Int → Int} (h : OpR X (binaryOp op) (rI C fun i j => .int (g i j))) : OpD X (binaryOp op) (bInt C fun i j => .int (g i j)) := by
  refine ⟨_, h, fun x y vx vy H G R Q rx ry w h f => ?_⟩
  cases rx with
  | int i =>
    cases ry with
    | int j => exact ⟨i, j, rfl, rfl, h.1, f _ G _ H h.2 (TKs.refl H) w (.int _)⟩
    | _ => exact h.elim
  | _ => exact h.elim
def bSub : D2
  | .int i, .int j, G, Q => Q (.int (i - j)) G
  | _, _, _, _ => False
theorem od_sub : OpD X (binaryOp .Sub) bSub := by
  refine ⟨_, op_sub, fun x y vx vy H G R Q rx ry w h f => ?_⟩
  cases rx with
  | int i =>
    cases ry with
    | int j => exact ⟨i, j, rfl, rfl, f _ G _ H h (TKs.refl H) w (.int _)⟩
    | _ => exact h.elim
  | _ => exact h.elim
theorem od_mul : OpD X (binaryOp .Mult) (bInt CMul fun i j => .int (i * j)) := od_int op_mul
theorem od_mod : OpD X (binaryOp .Mod) (bInt (fun _ j => 0 < j) fun i j => .int (i % j)) := od_int op_mod
theorem od_fdiv : OpD X (binaryOp .FloorDiv) (bInt CDivW fun i j => .int (i / j)) := od_int op_fdivW
theorem od_pow : OpD X (binaryOp .Pow) (bInt CPow fun i j => .int (i ^ j.toNat)) := od_int op_pow
/-- comparisons of numbers and texts -/
def bCmp (g : Int → Int → Bool) (s : List Nat → List Nat → Bool) : D2
  | .int i, .int j, G, Q => Q (.bl (g i j)) G
  | .str a, .str b, G, Q => Q (.bl (s a.cps.toList b.cps.toList)) G
  | _, _, _, _ => False
theorem od_cmp {op : CmpOp} {g : Int → Int → Bool} {s : List Nat → List Nat → Bool} (h : OpR X (compareOp op) (rI0 fun i j => .bl (g i j))) (h' : OpR X (compareOp op) (fun x y H Q => ∃ i j, x = .str i ∧ y = .str j ∧ Q (.bl (s i.cps.toList j.cps.toList)) H)) : OpD X (compareOp op) (bCmp g s) := by
  refine ⟨_, h.or h', fun x y vx vy H G R Q rx ry w h f => ?_⟩
  cases rx with
  | int i =>
    cases ry with
    | int j => exact .inl ⟨i, j, rfl, rfl, f _ G _ H h (TKs.refl H) w (.bl _)⟩
    | _ => exact h.elim
  | str i =>
    cases ry with
    | str j => exact .inr ⟨i, j, rfl, rfl, f _ G _ H h (TKs.refl H) w (.bl _)⟩
    | _ => exact h.elim
  | _ => exact h.elim
theorem od_lt : OpD X (compareOp .Lt) (bCmp (fun i j => decide (i < j)) fun a b => decide (a < b)) := od_cmp op_lt op_lt_str
theorem od_le : OpD X (compareOp .LtE) (bCmp (fun i j => decide (i ≤ j)) fun a b => !decide (b < a)) := od_cmp op_le op_le_str
theorem od_gt : OpD X (compareOp .Gt) (bCmp (fun i j => decide (j < i)) fun a b => decide (b < a)) := od_cmp op_gt op_gt_str
theorem od_ge : OpD X (compareOp .GtE) (bCmp (fun i j => decide (j ≤ i)) fun a b => !decide (a < b)) := od_cmp op_ge op_ge_str
/-- is None, is True .. -/
def bIs (neg : Bool) : D2
  | x, .non, G, Q => Q (.bl (if neg then !decide (x = .non) else decide (x = .non))) G
  | .bl a, .bl b, G, Q => Q (.bl (if neg then !decide (a = b) else decide (a = b))) G
  | _, _, _, _ => False
theorem non_iff {K : Frag} {H : Hp} {v : V} {d : DV} (r : RV K H v d) : decide (v = .non) = decide (d = .non) := by
  cases r with
  | non => rw [decide_eq_true rfl, decide_eq_true rfl]
  | _ => rw [decide_eq_false (by intro z; cases z), decide_eq_false (by intro z; cases z)]
theorem od_is : OpD X (compareOp .Is) (bIs false) := by
  refine ⟨_, op_isN.or op_is_bl, fun x y vx vy H G R Q rx ry w h f => ?_⟩
  cases ry with
  | non =>
    refine .inl ⟨rfl, ?_⟩
    rw [non_iff rx]
    cases rx <;> exact f _ G _ H h (TKs.refl H) w (.bl _)
  | bl b =>
    cases rx with
    | bl a => exact .inr ⟨a, b, rfl, rfl, f _ G _ H h (TKs.refl H) w (.bl _)⟩
    | _ => exact h.elim
  | _ => cases rx <;> exact h.elim
theorem od_isnot : OpD X (compareOp .IsNot) (bIs true) := by
  refine ⟨_, op_notN.or op_isnot_bl, fun x y vx vy H G R Q rx ry w h f => ?_⟩
  cases ry with
  | non =>
    refine .inl ⟨rfl, ?_⟩
    rw [non_iff rx]
    cases rx <;> exact f _ G _ H h (TKs.refl H) w (.bl _)
  | bl b =>
    cases rx with
    | bl a => exact .inr ⟨a, b, rfl, rfl, f _ G _ H h (TKs.refl H) w (.bl _)⟩
    | _ => exact h.elim
  | _ => cases rx <;> exact h.elim
end
end DD
namespace DD
open PySem PySem.W L2 SX Cm
/-! ### data as the comparisons see it -/
mutual
def dat : DV → PyData
  | .non => .none
  | .bl b => .bool b
  | .int i => .int i
  | .str z => .str z
  | .tup ds => .tuple (dats ds)
  | .ref _ => .none
  | .ty _ => .none
def dats : List DV → List PyData
  | [] => []
  | d :: r => dat d :: dats r
end
mutual
/-- no reference and no type within -/
def pure_ : DV → Bool
  | .ref _ => false
  | .ty _ => false
  | .tup ds => pures ds
  | _ => true
def pures : List DV → Bool
  | [] => true
  | d :: r => pure_ d && pures r
end
mutual
/-- nor a truth -/
def plain : DV → Bool
  | .ref _ => false
  | .ty _ => false
  | .bl _ => false
  | .tup ds => plains ds
  | _ => true
def plains : List DV → Bool
  | [] => true
  | d :: r => plain d && plains r
end
mutual
theorem plain_pure : ∀ d : DV, plain d = true → pure_ d = true
  | .non, _ => rfl
  | .int _, _ => rfl
  | .str _, _ => rfl
  | .tup ds, h => plains_pure ds h
  | .bl _, h => rfl
  | .ref _, h => h
  | .ty _, h => h
theorem plains_pure : ∀ ds : List DV, plains ds = true → pures ds = true
  | [], _ => rfl
  | d :: r, h => by
    have h' : (plain d && plains r) = true := h
    rw [Bool.and_eq_true] at h'
    show (pure_ d && pures r) = true
    rw [plain_pure d h'.1, plains_pure r h'.2]; rfl
end
mutual
theorem eqv_plain : ∀ x y : DV, plain x = true → plain y = true → PyData.eqv (dat x) (dat y) = decide (x = y)
  | .non, .non, _, _ => (decide_eq_true rfl).symm
  | .int i, .int j, _, _ => by
    show (i == j) = _
    by_cases h : i = j
    · rw [h, decide_eq_true rfl, beq_self_eq_true]
    · rw [decide_eq_false (fun z => h (DV.int.inj z)), beq_eq_false_iff_ne.mpr h]
  | .str i, .str j, _, _ => by
    show (i == j) = _
    by_cases h : i = j
    · rw [h, decide_eq_true rfl, beq_self_eq_true]
    · rw [decide_eq_false (fun z => h (DV.str.inj z)), beq_eq_false_iff_ne.mpr h]
  | .tup a, .tup b, h, g => by
    show PyData.eqvAll (dats a) (dats b) = _
    rw [eqvs_plain a b h g]
    by_cases e : a = b
    · rw [e, decide_eq_true rfl, decide_eq_true rfl]
    · rw [decide_eq_false e, decide_eq_false (fun z => e (DV.tup.inj z))]
  | .non, .int _, _, _ => (decide_eq_false (by intro z; cases z)).symm
  | .non, .str _, _, _ => (decide_eq_false (by intro z; cases z)).symm
  | .non, .tup _, _, _ => (decide_eq_false (by intro z; cases z)).symm
  | .int _, .non, _, _ => (decide_eq_false (by intro z; cases z)).symm
  | .int _, .str _, _, _ => (decide_eq_false (by intro z; cases z)).symm
  | .int _, .tup _, _, _ => (decide_eq_false (by intro z; cases z)).symm
  | .str _, .non, _, _ => (decide_eq_false (by intro z; cases z)).symm
  | .str _, .int _, _, _ => (decide_eq_false (by intro z; cases z)).symm
  | .str _, .tup _, _, _ => (decide_eq_false (by intro z; cases z)).symm
  | .tup _, .non, _, _ => (decide_eq_false (by intro z; cases z)).symm
  | .tup _, .int _, _, _ => (decide_eq_false (by intro z; cases z)).symm
  | .tup _, .str _, _, _ => (decide_eq_false (by intro z; cases z)).symm
theorem eqvs_plain : ∀ x y : List DV, plains x = true → plains y = true → PyData.eqvAll (dats x) (dats y) = decide (x = y)
  | [], [], _, _ => (decide_eq_true rfl).symm
  | [], _ :: _, _, _ => (decide_eq_false (by intro z; cases z)).symm
  | _ :: _, [], _, _ => (decide_eq_false (by intro z; cases z)).symm
  | a :: r, b :: s, h, g => by
    have h' : (plain a && plains r) = true := h
    have g' : (plain b && plains s) = true := g
    rw [Bool.and_eq_true] at h' g'
    show (PyData.eqv (dat a) (dat b) && PyData.eqvAll (dats r) (dats s)) = _
    rw [eqv_plain a b h'.1 g'.1, eqvs_plain r s h'.2 g'.2]
    by_cases e : a = b
    · by_cases e' : r = s
      · rw [decide_eq_true e, decide_eq_true e', decide_eq_true (by rw [e, e'])]; rfl
      · rw [decide_eq_false e', Bool.and_false, decide_eq_false (fun z => e' (List.cons.inj z).2)]
    · rw [decide_eq_false e, Bool.false_and, decide_eq_false (fun z => e (List.cons.inj z).1)]
end
mutual
theorem RV.dp {K : Frag} {H : Hp} : ∀ {v : V} {d : DV}, RV K H v d → pure_ d = true → Dp K H v (dat d)
  | _, _, .non, _ => .non
  | _, _, .bl b, _ => .bl b
  | _, _, .int i, _ => .int i
  | _, _, .str z, _ => .str z
  | _, _, .ty n, h => by cases h
  | _, _, .ref a, h => by cases h
  | _, _, .tup s t, h => .tup s (RVs.dp t h)
theorem RVs.dp {K : Frag} {H : Hp} : ∀ {v : List V} {d : List DV}, RVs K H v d → pures d = true → DpAll K H v (dats d)
  | _, _, .nil, _ => .nil
  | _, _, .cons (d := d) (ds := ds) h t, g => by
    have g' : (pure_ d && pures ds) = true := g
    rw [Bool.and_eq_true] at g'
    exact .cons (RV.dp h g'.1) (RVs.dp t g'.2)
end
mutual
/-- how deep -/
def dpt : DV → Nat
  | .tup ds => 1 + dpts ds
  | _ => 0
def dpts : List DV → Nat
  | [] => 0
  | d :: r => max (dpt d) (dpts r)
end
mutual
/-- its texts are texts -/
def txB : DV → Bool
  | .str z => PyData.strOk z
  | .tup ds => txBs ds
  | _ => true
def txBs : List DV → Bool
  | [] => true
  | d :: r => txB d && txBs r
end
mutual
theorem lay_dat : ∀ d : DV, txB d = true → PyData.canLay0 (dat d) = true ∧ PyData.depth (dat d) ≤ dpt d
  | .non, _ => ⟨by simp only [dat, PyData.canLay0], by simp only [dat, PyData.depth]; exact Nat.zero_le _⟩
  | .bl _, _ => ⟨by simp only [dat, PyData.canLay0], by simp only [dat, PyData.depth]; exact Nat.zero_le _⟩
  | .int _, _ => ⟨by simp only [dat, PyData.canLay0], by simp only [dat, PyData.depth]; exact Nat.zero_le _⟩
  | .ref _, _ => ⟨by simp only [dat, PyData.canLay0], by simp only [dat, PyData.depth]; exact Nat.zero_le _⟩
  | .ty _, _ => ⟨by simp only [dat, PyData.canLay0], by simp only [dat, PyData.depth]; exact Nat.zero_le _⟩
  | .str z, h => ⟨by simp only [dat, PyData.canLay0]; exact h, by simp only [dat, PyData.depth]; exact Nat.zero_le _⟩
  | .tup ds, h => by
    obtain ⟨a, b⟩ := lays_dat ds h
    refine ⟨by simp only [dat, PyData.canLay0]; exact a, ?_⟩
    simp only [dat, PyData.depth, dpt]
    omega
theorem lays_dat : ∀ ds : List DV, txBs ds = true → PyData.canLayAll0 (dats ds) = true ∧ PyData.depthAll (dats ds) ≤ dpts ds
  | [], _ => ⟨by simp only [dats, PyData.canLayAll0], by simp only [dats, PyData.depthAll]; exact Nat.zero_le _⟩
  | d :: r, h => by
    have h' : (txB d && txBs r) = true := h
    rw [Bool.and_eq_true] at h'
    obtain ⟨a, b⟩ := lay_dat d h'.1
    obtain ⟨a', b'⟩ := lays_dat r h'.2
    refine ⟨by simp only [dats, PyData.canLayAll0, a, a']; rfl, ?_⟩
    simp only [dats, PyData.depthAll, dpts]
    omega
end
theorem shp {d : DV} (h : txB d = true) (l : dpt d ≤ 60) : SeqAt.shaped (dat d) = true := by
  obtain ⟨a, b⟩ := lay_dat d h
  unfold SeqAt.shaped
  rw [a, decide_eq_true (show (dat d).depth ≤ 64 by omega)]; rfl
theorem shpL {ds : List DV} (h : txBs ds = true) (l : dpts ds ≤ 60) : SeqAt.shaped (.list (dats ds)) = true := by
  obtain ⟨a, b⟩ := lays_dat ds h
  have e : (PyData.list (dats ds)).depth ≤ 64 := by simp only [PyData.depth]; omega
  unfold SeqAt.shaped
  rw [decide_eq_true e, Bool.and_true]
  simp only [PyData.canLay0]; exact a
/-- what can be compared -/
structure Cmp (d : DV) : Prop where
  pu : pure_ d = true
  tx : txB d = true
  dp : dpt d ≤ 60
structure Cmps (ds : List DV) : Prop where
  pu : pures ds = true
  tx : txBs ds = true
  dp : dpts ds ≤ 60
theorem shpT {ds : List DV} (c : Cmps ds) : SeqAt.shaped (.tuple (dats ds)) = true := by
  obtain ⟨a, b⟩ := lays_dat ds c.tx
  have l := c.dp
  have e : (PyData.tuple (dats ds)).depth ≤ 64 := by simp only [PyData.depth]; omega
  unfold SeqAt.shaped
  rw [decide_eq_true e, Bool.and_true]
  simp only [PyData.canLay0]; exact a
section
variable {X : Cx}
theorem wd_list {K : Frag} {H : Hp} {G : DG} {p : Addr} {ds : List DV} (w : Wd K H G) (e : G p = some (.lst ds)) : ∃ xs, H p = some (.lst xs) ∧ RVs K H xs ds := by
  obtain ⟨O, w⟩ := w
  exact w.ob p _ e
/-- a list that can be read -/
def Ls (G : DG) (p : Addr) (ds : List DV) : Prop := G p = some (.lst ds) ∨ G p = some (.ro ds)
theorem wd_seq {K : Frag} {H : Hp} {G : DG} {p : Addr} {ds : List DV} (w : Wd K H G) (e : Ls G p ds) : ∃ xs, SqL K H p xs ∧ RVs K H xs ds := by
  obtain ⟨O, w⟩ := w
  rcases e with e | e
  · obtain ⟨xs, h, r⟩ := w.ob p _ e
    exact ⟨xs, SqL.of h, r⟩
  · obtain ⟨xs, h, r⟩ := w.ob p _ e
    exact ⟨xs, .inl h, r⟩
/-- not, where n -/
def ng : Bool → Bool → Bool
  | true, b => !b
  | false, b => b
/-- == and != (n: !=) -/
def bEq (n : Bool) : D2
  | .str a, .str b, G, Q => Q (.bl (ng n (decide (a = b)))) G
  | .int a, .int b, G, Q => Q (.bl (ng n (decide (a = b)))) G
  | .bl a, .bl b, G, Q => Q (.bl (ng n (decide (a = b)))) G
  | .str a, .non, G, Q => Q (.bl n) G
  | .int a, .non, G, Q => Q (.bl n) G
  | .str a, .int b, G, Q => Q (.bl n) G
  | .int a, .str b, G, Q => Q (.bl n) G
  | .bl a, .str b, G, Q => Q (.bl n) G
  | .non, .str b, G, Q => Q (.bl n) G
  | .ref p, .ref q, G, Q => ∃ xs ys, Ls G p xs ∧ Ls G q ys ∧ ((n = false ∧ ys = [] ∧ Q (.bl xs.isEmpty) G) ∨ (Cmps xs ∧ Cmps ys ∧ Q (.bl (ng n (PyData.eqvAll (dats xs) (dats ys)))) G))
  | .tup a, .tup b, G, Q => (n = false ∧ b = [] ∧ Q (.bl a.isEmpty) G) ∨ (Cmps a ∧ Cmps b ∧ Q (.bl (ng n (PyData.eqvAll (dats a) (dats b)))) G)
  | x, y, G, Q => Cmp x ∧ Cmp y ∧ Q (.bl (ng n (PyData.eqv (dat x) (dat y)))) G
theorem dV_str (a b : Str) : decide (V.str a = V.str b) = decide (a = b) := by
  by_cases e : a = b
  · rw [decide_eq_true e, decide_eq_true (by rw [e])]
  · rw [decide_eq_false e, decide_eq_false (fun z => e (V.str.inj z))]
theorem dV_int (a b : Int) : decide (V.int a = V.int b) = decide (a = b) := by
  by_cases e : a = b
  · rw [decide_eq_true e, decide_eq_true (by rw [e])]
  · rw [decide_eq_false e, decide_eq_false (fun z => e (V.int.inj z))]
theorem dV_bl (a b : Bool) : decide (V.bl a = V.bl b) = decide (a = b) := by
  by_cases e : a = b
  · rw [decide_eq_true e, decide_eq_true (by rw [e])]
  · rw [decide_eq_false e, decide_eq_false (fun z => e (V.bl.inj z))]
theorem flat_up {K : Frag} {H : Hp} {G : DG} {R : DK} {Q : VK} {b : Bool} (w : Wd K H G) (f : Fin K H R Q) (h : R (.bl b) G) : Q (.bl b) H := f _ G _ H h (TKs.refl H) w (.bl b)
theorem od_eq (hu : X.A.units + 64 < cLine) : OpD X (compareOp .Eq) (bEq false) := by
  refine ⟨_, op_eq.or ((op_eqNil hu).or ((op_eqNilT hu).or (op_eqD hu))), fun x y vx vy H G R Q rx ry w h f => ?_⟩
  have gen : (Cmp x ∧ Cmp y ∧ R (.bl (ng false (PyData.eqv (dat x) (dat y)))) G) → (rEq vx vy H Q ∨ rEqNil X.K vx vy H Q ∨ rEqNilT X.K vx vy H Q ∨ rEqD X.K vx vy H Q) := fun ⟨c1, c2, q⟩ =>
    .inr (.inr (.inr ⟨_, _, rx.dp c1.pu, ry.dp c2.pu, shp c1.tx c1.dp, shp c2.tx c2.dp, flat_up w f q⟩))
  have no : decide (vx = vy) = false → scal vx vy = true → R (.bl false) G → (rEq vx vy H Q ∨ rEqNil X.K vx vy H Q ∨ rEqNilT X.K vx vy H Q ∨ rEqD X.K vx vy H Q) := fun e s q => .inl ⟨s, by rw [e]; exact flat_up w f q⟩
  cases rx with
  | str a =>
    cases ry with
    | str b => exact .inl ⟨rfl, by rw [dV_str]; exact flat_up w f h⟩
    | non => exact no (decide_eq_false (by intro z; cases z)) rfl h
    | int b => exact no (decide_eq_false (by intro z; cases z)) rfl h
    | _ => exact gen h
  | int a =>
    cases ry with
    | int b => exact .inl ⟨rfl, by rw [dV_int]; exact flat_up w f h⟩
    | non => exact no (decide_eq_false (by intro z; cases z)) rfl h
    | str b => exact no (decide_eq_false (by intro z; cases z)) rfl h
    | _ => exact gen h
  | bl a =>
    cases ry with
    | bl b => exact .inl ⟨rfl, by rw [dV_bl]; exact flat_up w f h⟩
    | str b => exact no (decide_eq_false (by intro z; cases z)) rfl h
    | _ => exact gen h
  | non =>
    cases ry with
    | str b => exact no (decide_eq_false (by intro z; cases z)) rfl h
    | _ => exact gen h
  | ty n => cases ry <;> exact gen h
  | tup s r =>
    cases ry with
    | tup s' r' =>
      rcases h with ⟨_, e, q⟩ | ⟨c1, c2, q⟩
      · subst e
        cases r'
        exact .inr (.inr (.inl ⟨_, _, _, rfl, rfl, s, s', by rw [r.isEmpty]; exact flat_up w f q⟩))
      · exact .inr (.inr (.inr ⟨_, _, .tup s (r.dp c1.pu), .tup s' (r'.dp c2.pu), shpT c1, shpT c2, flat_up w f q⟩))
    | _ => exact gen h
  | ref p =>
    cases ry with
    | ref q =>
      obtain ⟨xs, ys, l1, l2, ⟨_, e, q⟩ | ⟨c1, c2, q⟩⟩ := h
      · obtain ⟨us, h1, r1⟩ := wd_seq w l1
        obtain ⟨vs, h2, r2⟩ := wd_seq w l2
        subst e
        cases r2
        exact .inr (.inl ⟨_, _, _, rfl, rfl, h1, h2, by rw [r1.isEmpty]; exact flat_up w f q⟩)
      · obtain ⟨us, h1, r1⟩ := wd_seq w l1
        obtain ⟨vs, h2, r2⟩ := wd_seq w l2
        exact .inr (.inr (.inr ⟨_, _, .lst h1 (r1.dp c1.pu), .lst h2 (r2.dp c2.pu), shpL c1.tx c1.dp, shpL c2.tx c2.dp, flat_up w f q⟩))
    | _ => exact gen h
theorem od_ne (hu : X.A.units + 64 < cLine) : OpD X (compareOp .NotEq) (bEq true) := by
  refine ⟨_, op_ne.or (op_neD hu), fun x y vx vy H G R Q rx ry w h f => ?_⟩
  have gen : (Cmp x ∧ Cmp y ∧ R (.bl (ng true (PyData.eqv (dat x) (dat y)))) G) → (rNe vx vy H Q ∨ rNeD X.K vx vy H Q) := fun ⟨c1, c2, q⟩ =>
    .inr ⟨_, _, rx.dp c1.pu, ry.dp c2.pu, shp c1.tx c1.dp, shp c2.tx c2.dp, flat_up w f q⟩
  have no : decide (vx = vy) = false → scal vx vy = true → R (.bl true) G → (rNe vx vy H Q ∨ rNeD X.K vx vy H Q) := fun e s q => .inl ⟨s, by rw [e]; exact flat_up w f q⟩
  cases rx with
  | str a =>
    cases ry with
    | str b => exact .inl ⟨rfl, by rw [dV_str]; exact flat_up w f h⟩
    | non => exact no (decide_eq_false (by intro z; cases z)) rfl h
    | int b => exact no (decide_eq_false (by intro z; cases z)) rfl h
    | _ => exact gen h
  | int a =>
    cases ry with
    | int b => exact .inl ⟨rfl, by rw [dV_int]; exact flat_up w f h⟩
    | non => exact no (decide_eq_false (by intro z; cases z)) rfl h
    | str b => exact no (decide_eq_false (by intro z; cases z)) rfl h
    | _ => exact gen h
  | bl a =>
    cases ry with
    | bl b => exact .inl ⟨rfl, by rw [dV_bl]; exact flat_up w f h⟩
    | str b => exact no (decide_eq_false (by intro z; cases z)) rfl h
    | _ => exact gen h
  | non =>
    cases ry with
    | str b => exact no (decide_eq_false (by intro z; cases z)) rfl h
    | _ => exact gen h
  | ty n => cases ry <;> exact gen h
  | tup s r =>
    cases ry with
    | tup s' r' =>
      rcases h with ⟨e, _⟩ | ⟨c1, c2, q⟩
      · cases e
      · exact .inr ⟨_, _, .tup s (r.dp c1.pu), .tup s' (r'.dp c2.pu), shpT c1, shpT c2, flat_up w f q⟩
    | _ => exact gen h
  | ref p =>
    cases ry with
    | ref q =>
      obtain ⟨xs, ys, l1, l2, ⟨e, _⟩ | ⟨c1, c2, q⟩⟩ := h
      · cases e
      · obtain ⟨us, h1, r1⟩ := wd_seq w l1
        obtain ⟨vs, h2, r2⟩ := wd_seq w l2
        exact .inr ⟨_, _, .lst h1 (r1.dp c1.pu), .lst h2 (r2.dp c2.pu), shpL c1.tx c1.dp, shpL c2.tx c2.dp, flat_up w f q⟩
    | _ => exact gen h
/-! ### in -/
def toV : DV → V
  | .non => .non
  | .bl b => .bl b
  | .int i => .int i
  | .str z => .str z
  | _ => .ref 0
def flatD : DV → Bool
  | .non => true
  | .bl _ => true
  | .int _ => true
  | .str _ => true
  | _ => false
def inD (x : DV) (ds : List DV) : Bool := inV (toV x) (ds.map toV)
theorem toV_eq {K : Frag} {H : Hp} {v : V} {d : DV} (r : RV K H v d) (h : flatD d = true) : v = toV d ∧ flatV v = true := by
  cases r <;> first | exact ⟨rfl, rfl⟩ | cases h
theorem toVs_eq {K : Frag} {H : Hp} : ∀ {v : List V} {d : List DV}, RVs K H v d → d.all flatD = true → v = d.map toV ∧ v.all flatV = true
  | _, _, .nil, _ => ⟨rfl, rfl⟩
  | _, _, .cons r t, h => by
    rw [List.all_cons, Bool.and_eq_true] at h
    obtain ⟨a, b⟩ := toV_eq r h.1
    obtain ⟨c, e⟩ := toVs_eq t h.2
    refine ⟨by rw [a, c]; rfl, by rw [List.all_cons, b, e]; rfl⟩
def bIn (n : Bool) : D2
  | .str a, .str b, G, Q => ∃ c, a = ⟨#[c]⟩ ∧ Q (.bl (ng n (decide (c ∈ b.cps.toList)))) G
  | x, .tup ds, G, Q => flatD x = true ∧ ds.all flatD = true ∧ Q (.bl (ng n (inD x ds))) G
  | x, .ref p, G, Q => ∃ ds, Ls G p ds ∧ flatD x = true ∧ ds.all flatD = true ∧ Q (.bl (ng n (inD x ds))) G
  | _, _, _, _ => False
theorem od_in : OpD X (compareOp .In) (bIn false) := by
  refine ⟨_, op_in_sign.or op_in_seq, fun x y vx vy H G R Q rx ry w h f => ?_⟩
  cases ry with
  | str b =>
    cases rx with
    | str a => obtain ⟨c, rfl, q⟩ := h; exact .inl ⟨c, b, rfl, rfl, flat_up w f q⟩
    | _ => exact h.elim
  | tup s r =>
    rename_i qa qx qd
    have h' : flatD x = true ∧ qd.all flatD = true ∧ R (.bl (ng false (inD x qd))) G := by cases rx <;> exact h
    obtain ⟨h1, h2, q⟩ := h'
    obtain ⟨e1, e2⟩ := toV_eq rx h1
    obtain ⟨e3, e4⟩ := toVs_eq r h2
    exact .inr ⟨_, _, rfl, .inr s, e2, e4, by show Q (.bl (inV vx _)) H; rw [e1, e3]; exact flat_up w f q⟩
  | ref p =>
    have h' : ∃ ds, Ls G p ds ∧ flatD x = true ∧ ds.all flatD = true ∧ R (.bl (ng false (inD x ds))) G := by cases rx <;> exact h
    obtain ⟨ds, l, h1, h2, q⟩ := h'
    obtain ⟨us, hs, r⟩ := wd_seq w l
    obtain ⟨e1, e2⟩ := toV_eq rx h1
    obtain ⟨e3, e4⟩ := toVs_eq r h2
    exact .inr ⟨_, _, rfl, .inl hs, e2, e4, by show Q (.bl (inV vx _)) H; rw [e1, e3]; exact flat_up w f q⟩
  | _ => cases rx <;> exact h.elim
theorem od_notin : OpD X (compareOp .NotIn) (bIn true) := by
  refine ⟨_, op_notIn_sign.or op_notIn_seq, fun x y vx vy H G R Q rx ry w h f => ?_⟩
  cases ry with
  | str b =>
    cases rx with
    | str a => obtain ⟨c, rfl, q⟩ := h; exact .inl ⟨c, b, rfl, rfl, flat_up w f q⟩
    | _ => exact h.elim
  | tup s r =>
    rename_i qa qx qd
    have h' : flatD x = true ∧ qd.all flatD = true ∧ R (.bl (ng true (inD x qd))) G := by cases rx <;> exact h
    obtain ⟨h1, h2, q⟩ := h'
    obtain ⟨e1, e2⟩ := toV_eq rx h1
    obtain ⟨e3, e4⟩ := toVs_eq r h2
    exact .inr ⟨_, _, rfl, .inr s, e2, e4, by show Q (.bl (!inV vx _)) H; rw [e1, e3]; exact flat_up w f q⟩
  | ref p =>
    have h' : ∃ ds, Ls G p ds ∧ flatD x = true ∧ ds.all flatD = true ∧ R (.bl (ng true (inD x ds))) G := by cases rx <;> exact h
    obtain ⟨ds, l, h1, h2, q⟩ := h'
    obtain ⟨us, hs, r⟩ := wd_seq w l
    obtain ⟨e1, e2⟩ := toV_eq rx h1
    obtain ⟨e3, e4⟩ := toVs_eq r h2
    exact .inr ⟨_, _, rfl, .inl hs, e2, e4, by show Q (.bl (!inV vx _)) H; rw [e1, e3]; exact flat_up w f q⟩
  | _ => cases rx <;> exact h.elim
end
end DD
namespace DD
open PySem PySem.W L2 SX Cm
section
variable {X : Cx}
/-! ### x[i] -/
def bIx : D2
  | .tup ds, .int i, G, Q => ∃ d, atI ds i = some d ∧ Q d G
  | .str z, .int i, G, Q => z.length ≤ sizeLine ∧ ∃ c, atI z.cps.toList i = some c ∧ Q (.str ⟨#[c]⟩) G
  | .ref p, .int i, G, Q => (∃ ds d, Ls G p ds ∧ atI ds i = some d ∧ Q d G) ∨ (G p = some .cnt ∧ i = 0 ∧ ∀ n, Q (.int n) G)
  | _, _, _, _ => False
theorem de_ix {e1 e2 : Expr} {ta tb : TD} {pos : Pos} (ha : DE X e1 ta) (hb : DE X e2 tb) (hs : PlainIx e2 := by exact fun _ _ => rfl) : DE X (.Subscript e1 e2 pos) (dOp bIx ta tb) := by
  refine PE_mono (pe_ix (ix_seq (X := X)) ha hb hs) fun σ H Q h => bin_up (r := rIx X.K) (fun x y vx vy H G R Q rx ry w h f => ?_) h
  cases ry with
  | int i =>
    cases rx with
    | tup s r =>
      obtain ⟨d, e, q⟩ := h
      obtain ⟨v, e', rv⟩ := r.atI e
      exact .inr (.inl ⟨_, _, i, v, rfl, rfl, s, e', f _ G _ H q (TKs.refl H) w rv⟩)
    | str z =>
      obtain ⟨hl, c, e, q⟩ := h
      exact .inr (.inr ⟨z, i, c, rfl, rfl, hl, e, f _ G _ H q (TKs.refl H) w (.str _)⟩)
    | ref p =>
      rcases h with ⟨ds, d, l, e, q⟩ | ⟨l, rfl, q⟩
      · obtain ⟨us, hs, r⟩ := wd_seq w l
        obtain ⟨v, e', rv⟩ := r.atI e
        exact .inl ⟨p, us, i, v, rfl, rfl, hs, e', f _ G _ H q (TKs.refl H) w rv⟩
      · obtain ⟨O, w'⟩ := id w
        obtain ⟨n, hn⟩ := w'.ob p _ l
        exact .inl ⟨p, _, 0, .int n, rfl, rfl, SqL.of hn, atI_nat (j := 0) rfl, f _ G _ H (q n) (TKs.refl H) w (.int n)⟩
    | _ => exact h.elim
  | _ => cases rx <;> exact h.elim
/-! ### slices -/
abbrev TDO := DSt → DG → (Option Int → DG → Prop) → Prop
def upO (K : Frag) (t : TDO) : TO := fun σ H Q => ∃ δ G R, Sl K H σ δ ∧ Wd K H G ∧ t δ G R ∧ ∀ o G' H', R o G' → TKs K H H' → Wd K H' G' → Q o H'
abbrev DO_ (X : Cx) (e : Option Expr) (t : TDO) : Prop := PO X e (upO X.K t)
theorem PO_mono {e : Option Expr} {t t' : TO} (h : PO X e t) (i : ∀ σ H Q, t' σ H Q → t σ H Q) : PO X e t' := ⟨fun pins s σ H Q I q => h.run pins s σ H Q I (i σ H Q q)⟩
def dNone : TDO := fun _ G Q => Q none G
def dSome (t : TD) : TDO := fun δ G Q => t δ G fun d G' => ∃ i, d = .int i ∧ Q (some i) G'
theorem do_none : DO_ X none dNone := PO_mono po_none fun σ H Q ⟨δ, G, R, sl, w, q, f⟩ => f _ G H q (TKs.refl H) w
theorem do_some {e : Expr} {t : TD} (h : DE X e t) : DO_ X (some e) (dSome t) := PO_mono (po_some h) fun σ H Q ⟨δ, G, R, sl, w, q, f⟩ =>
  ⟨δ, G, _, sl, w, q, fun d G' v H' ⟨i, e, q⟩ t' w' rv => by subst e; cases rv; exact ⟨i, rfl, f _ G' H' q t' w'⟩⟩
def bSl : DV → Option Int → Option Int → DG → DK → Prop
  | .tup ds, lo, hi, G, Q => Q (.tup (cutD ds lo hi)) G
  | .str z, lo, hi, G, Q => z.length ≤ sizeLine ∧ Q (.str (cutS z lo hi)) G
  | .ref p, lo, hi, G, Q => ∃ ds, Ls G p ds ∧ ∀ r, G r = none → Q (.ref r) (dupd G r (.lst (cutD ds lo hi)))
  | _, _, _, _, _ => False
def dSl (te : TD) (tl th : TDO) : TD := fun δ G Q => te δ G fun x G1 => tl δ G1 fun l G2 => th δ G2 fun u G3 => bSl x l u G3 Q
theorem de_slice {e : Expr} {lo hi : Option Expr} {te : TD} {tl th : TDO} {p2 pos : Pos} (he : DE X e te) (hl : DO_ X lo tl) (hu : DO_ X hi th) : DE X (.Subscript e (.Slice lo hi none p2) pos) (dSl te tl th) := by
  refine PE_mono (pe_slice (sl_tupA.or (sl_str.or sl_list)) he hl hu) fun σ H Q ⟨δ, G, R, sl, w, q, f⟩ => ?_
  refine ⟨δ, G, _, sl, w, q, fun x G1 vx H1 q1 t1 w1 r1 => ⟨δ, G1, _, sl.mono t1, w1, q1, fun l G2 H2 q2 t2 w2 => ⟨δ, G2, _, sl.mono (t1.trans t2), w2, q2, fun u G3 H3 h t3 w => ?_⟩⟩⟩
  have f := f.step ((t1.trans t2).trans t3)
  have rx := r1.mono (t2.trans t3)
  cases rx with
  | tup s r =>
    rename_i a xs ds
    refine .inl ⟨_, _, rfl, s, fun e => ?_, fun _ p np => ?_⟩
    · rw [r.len] at e
      have h : R (.tup (cutD ds l u)) G3 := h
      rw [cutD_all e] at h
      exact f _ _ _ _ h (TKs.refl _) w (.tup s r)
    · have s' := same_new np (.tup (cutV xs l u))
      exact f _ _ _ _ h (TKs.of s') (w.same s') (.tup (SqT.of upd_same) ((r.cut l u).mono (.of s')))
  | str z => exact .inr (.inl ⟨z, rfl, h.1, f _ _ _ _ h.2 (TKs.refl _) w (.str _)⟩)
  | ref p =>
    obtain ⟨ds, ls, q⟩ := h
    obtain ⟨us, hs, r⟩ := wd_seq w ls
    refine .inr (.inr ⟨p, us, rfl, hs, fun r' nr => ?_⟩)
    have s' := same_new nr (.lst (cutV us l u))
    exact f _ _ _ _ (q r' (w.free nr)) (TKs.of s') (w.new nr fun O => ⟨_, upd_same, (r.cut l u).mono (.of s')⟩) (.ref r')
  | _ => exact h.elim
/-- t[::-1] -/
def dRev (te : TD) : TD := fun δ G Q => te δ G fun x G1 => ∃ ds, x = .tup ds ∧ Q (.tup ds.reverse) G1
theorem de_revT {e : Expr} {te : TD} {k : Nat} {p1 p2 p3 pos : Pos} (he : DE X e te) : DE X (.Subscript e (.Slice none none (some (.UnaryOp .USub (.Constant (.int 1) k p1) p2)) p3) pos) (dRev te) := by
  refine PE_mono (pe_revT he) fun σ H Q ⟨δ, G, R, sl, w, q, f⟩ => ⟨δ, G, _, sl, w, q, fun x G1 vx H1 q1 t1 w1 r1 => ?_⟩
  obtain ⟨ds, rfl, q⟩ := q1
  obtain ⟨a, xs, rfl, s, r⟩ := r1.tupD
  refine ⟨a, xs, rfl, s, fun p np => ?_⟩
  have s' := same_new np (.tup xs.reverse)
  exact f _ _ _ _ q (t1.trans (TKs.of s')) (w1.same s') (.tup (SqT.of upd_same) (r.reverse.mono (.of s')))
/-! ### tests -/
def bTru : DV → DG → (Bool → DG → Prop) → Prop
  | .non, G, Q => Q false G
  | .bl b, G, Q => Q b G
  | .int i, G, Q => Q (i != 0) G
  | .str z, G, Q => z.length ≤ sizeLine ∧ Q ((z.length : Int) != 0) G
  | .tup ds, G, Q => Q (!ds.isEmpty) G
  | .ref p, G, Q => (∃ ds, Ls G p ds ∧ Q (!ds.isEmpty) G) ∨ (∃ kvs, G p = some (.dct kvs) ∧ Q (!kvs.isEmpty) G)
  | .ty _, _, _ => False
theorem tru {b : Bool} {G : DG} {Q : Bool → DG → Prop} (h : Q b G) : bTru (.bl b) G Q := h
def dTru (t : TD) : TDT := fun δ G Q => t δ G fun d G' => bTru d G' Q
theorem KRV.isEmpty {K : Frag} {H : Hp} {v : List (Key × V)} {d : List (Key × DV)} (h : KRV K H v d) : v.isEmpty = d.isEmpty := by cases h <;> rfl
theorem dt_e {e : Expr} {t : TD} (he : DE X e t) (hp : ∀ whole, isTrue e X.env whole = (do let v ← whole; standAt e.pos; holding [v] (truthy v)) := by intro _; rfl) : DT X e (dTru t) := by
  refine PT_mono (pt_truth he hp) fun σ H Q ⟨δ, G, R, sl, w, q, f⟩ => ⟨δ, G, _, sl, w, q, fun d G' v H' h t' w' rv => ?_⟩
  cases rv with
  | non => exact ⟨_, rfl, f _ _ _ h t' w'⟩
  | bl b => exact ⟨_, rfl, f _ _ _ h t' w'⟩
  | int i => exact ⟨_, rfl, f _ _ _ h t' w'⟩
  | str z => exact ⟨_, ⟨h.1, rfl⟩, f _ _ _ h.2 t' w'⟩
  | ty n => exact h.elim
  | tup s r => exact ⟨_, .inr (.inl ⟨_, s, by rw [r.isEmpty]⟩), f _ _ _ h t' w'⟩
  | ref p =>
    rcases h with ⟨ds, l, q⟩ | ⟨kvs, l, q⟩
    · obtain ⟨us, hs, r⟩ := wd_seq w' l
      exact ⟨_, .inl ⟨_, hs, by rw [r.isEmpty]⟩, f _ _ _ q t' w'⟩
    · obtain ⟨O, wo⟩ := id w'
      obtain ⟨ks, hk, r⟩ := wo.ob p _ l
      exact ⟨_, .inr (.inr ⟨_, hk, by rw [r.isEmpty]⟩), f _ _ _ q t' w'⟩
def dAnd (t u : TDT) : TDT := fun δ G Q => t δ G fun c G1 => if c = true then u δ G1 Q else Q false G1
def dOr (t u : TDT) : TDT := fun δ G Q => t δ G fun c G1 => if c = true then Q true G1 else u δ G1 Q
def dNot (t : TDT) : TDT := fun δ G Q => t δ G fun c G1 => Q (!c) G1
variable {a b c : Expr} {rest : List Expr} {ta tb : TDT} {pos : Pos}
theorem dw_and1 (ha : DT X a ta) : DW X (.BoolOp .And [a] pos) ta := pw_and1 ha
theorem dw_or1 (ha : DT X a ta) : DW X (.BoolOp .Or [a] pos) ta := pw_or1 ha
theorem dw_and (ha : DT X a ta) (hb : DW X (.BoolOp .And (b :: rest) pos) tb) : DW X (.BoolOp .And (a :: b :: rest) pos) (dAnd ta tb) :=
  PW_mono (pw_and ha hb) fun σ H Q ⟨δ, G, R, sl, w, q, f⟩ => ⟨δ, G, _, sl, w, q, fun k G' H' h t' w' => by
    cases k with
    | true => exact iteT ⟨δ, G', R, sl.mono t', w', h, fun k2 G2 H2 q2 t2 w2 => f k2 G2 H2 q2 (t'.trans t2) w2⟩
    | false => exact iteF (f _ _ _ h t' w')⟩
theorem dw_or (ha : DT X a ta) (hb : DW X (.BoolOp .Or (b :: rest) pos) tb) : DW X (.BoolOp .Or (a :: b :: rest) pos) (dOr ta tb) :=
  PW_mono (pw_or ha hb) fun σ H Q ⟨δ, G, R, sl, w, q, f⟩ => ⟨δ, G, _, sl, w, q, fun k G' H' h t' w' => by
    cases k with
    | false => exact iteF ⟨δ, G', R, sl.mono t', w', h, fun k2 G2 H2 q2 t2 w2 => f k2 G2 H2 q2 (t'.trans t2) w2⟩
    | true => exact iteT (f _ _ _ h t' w')⟩
theorem dt_w (h : DW X a ta) : DT X a ta := PW.pt h
theorem dt_not (ha : DT X a ta) : DT X (.UnaryOp .Not a pos) (dNot ta) :=
  PT_mono (pt_not ha) fun σ H Q ⟨δ, G, R, sl, w, q, f⟩ => ⟨δ, G, _, sl, w, q, fun k G' H' h t' w' => f _ _ _ h t' w'⟩
/-! and, or, not as values: truths -/
variable {ua ub : TD}
def dAndV (t u : TD) : TD := fun δ G Q => t δ G fun x G1 => ∃ c, x = .bl c ∧ if c = true then u δ G1 Q else Q (.bl false) G1
def dOrV (t u : TD) : TD := fun δ G Q => t δ G fun x G1 => ∃ c, x = .bl c ∧ if c = true then Q (.bl true) G1 else u δ G1 Q
def dNotV (t : TD) : TD := fun δ G Q => t δ G fun x G1 => ∃ c, x = .bl c ∧ Q (.bl (!c)) G1
theorem de_one {op} (h : DE X a ua) : DE X (.BoolOp op [a] pos) ua := pe_one h
theorem de_and (ha : DE X a ua) (hb : DE X (.BoolOp .And (b :: rest) pos) ub) : DE X (.BoolOp .And (a :: b :: rest) pos) (dAndV ua ub) :=
  PE_mono (pe_and ha hb) fun σ H Q ⟨δ, G, R, sl, w, q, f⟩ => ⟨δ, G, _, sl, w, q, fun d G' v H' ⟨c, e, h⟩ t' w' rv => by
    subst e
    cases rv
    refine ⟨c, rfl, ?_⟩
    cases c with
    | true => exact iteT ⟨δ, G', R, sl.mono t', w', h, f.step t'⟩
    | false => exact iteF (f _ _ _ _ h t' w' (.bl _))⟩
theorem de_or (ha : DE X a ua) (hb : DE X (.BoolOp .Or (b :: rest) pos) ub) : DE X (.BoolOp .Or (a :: b :: rest) pos) (dOrV ua ub) :=
  PE_mono (pe_or ha hb) fun σ H Q ⟨δ, G, R, sl, w, q, f⟩ => ⟨δ, G, _, sl, w, q, fun d G' v H' ⟨c, e, h⟩ t' w' rv => by
    subst e
    cases rv
    refine ⟨c, rfl, ?_⟩
    cases c with
    | false => exact iteF ⟨δ, G', R, sl.mono t', w', h, f.step t'⟩
    | true => exact iteT (f _ _ _ _ h t' w' (.bl _))⟩
theorem de_not (ha : DE X a ua) : DE X (.UnaryOp .Not a pos) (dNotV ua) :=
  PE_mono (pe_not ha) fun σ H Q ⟨δ, G, R, sl, w, q, f⟩ => ⟨δ, G, _, sl, w, q, fun d G' v H' ⟨c, e, h⟩ t' w' rv => by
    subst e
    cases rv
    exact ⟨c, rfl, f _ _ _ _ h t' w' (.bl _)⟩⟩
def dNeg (t : TD) : TD := fun δ G Q => t δ G fun x G1 => ∃ i, x = .int i ∧ Q (.int (-i)) G1
theorem de_neg (ha : DE X a ua) : DE X (.UnaryOp .USub a pos) (dNeg ua) :=
  PE_mono (pe_un un_neg ha) fun σ H Q ⟨δ, G, R, sl, w, q, f⟩ => ⟨δ, G, _, sl, w, q, fun d G' v H' ⟨c, e, h⟩ t' w' rv => by
    subst e
    cases rv
    exact ⟨c, rfl, f _ _ _ _ h t' w' (.int _)⟩⟩
def dIf (t : TDT) (u v : TD) : TD := fun δ G Q => t δ G fun c G1 => if c = true then u δ G1 Q else v δ G1 Q
theorem de_if (hc : DT X c ta) (ha : DE X a ua) (hb : DE X b ub) : DE X (.IfExp c a b pos) (dIf ta ua ub) :=
  PE_mono (pe_ifExp hc ha hb) fun σ H Q ⟨δ, G, R, sl, w, q, f⟩ => ⟨δ, G, _, sl, w, q, fun k G' H' h t' w' => by
    cases k with
    | true => exact iteT ⟨δ, G', R, sl.mono t', w', h, f.step t'⟩
    | false => exact iteF ⟨δ, G', R, sl.mono t', w', h, f.step t'⟩⟩
/-! ### arguments, displays -/
def dNil : TDA := fun _ G Q => Q [] G
def dCons (t : TD) (u : TDA) : TDA := fun δ G Q => t δ G fun x G1 => u δ G1 fun xs G2 => Q (x :: xs) G2
variable {e : Expr} {es : List Expr} {te : TD} {ts : TDA}
theorem da_nil : DA X [] dNil := PA_mono pa_nil fun σ H Q ⟨δ, G, R, sl, w, q, f⟩ => f _ _ _ _ q (TKs.refl _) w .nil
theorem da_cons (ha : DE X e te) (hr : DA X es ts) (hs : starEach (e :: es) X.env = (false, eval e X.env) :: starEach es X.env := by rfl) : DA X (e :: es) (dCons te ts) :=
  PA_mono (pa_cons ha hr hs) fun σ H Q ⟨δ, G, R, sl, w, q, f⟩ => ⟨δ, G, _, sl, w, q, fun d G1 v H1 h1 t1 w1 r1 => ⟨δ, G1, _, sl.mono t1, w1, h1, fun ds G2 vs H2 h2 t2 w2 r2 => f _ _ _ _ h2 (t1.trans t2) w2 (.cons (r1.mono t2) r2)⟩⟩
def dTup (t : TDA) : TD := fun δ G Q => t δ G fun ds G1 => ds.length ≤ sizeLine ∧ Q (.tup ds) G1
def dLst (t : TDA) : TD := fun δ G Q => t δ G fun ds G1 => ds.length ≤ sizeLine ∧ ∀ p, G1 p = none → Q (.ref p) (dupd G1 p (.lst ds))
theorem de_tup {x1} (h : DA X es ts) : DE X (.Tuple es x1 pos) (dTup ts) :=
  PE_mono (pe_tup h) fun σ H Q ⟨δ, G, R, sl, w, q, f⟩ => ⟨δ, G, _, sl, w, q, fun ds G1 vs H1 h1 t1 w1 r1 => ⟨by rw [r1.len]; exact h1.1, fun p np => by
    have s' := same_new np (.tup vs)
    exact f _ _ _ _ h1.2 (t1.trans (TKs.of s')) (w1.same s') (.tup (SqT.of upd_same) (r1.mono (.of s')))⟩⟩
theorem de_lst (h : DA X es ts) : DE X (.List es pos) (dLst ts) :=
  PE_mono (pe_lst h) fun σ H Q ⟨δ, G, R, sl, w, q, f⟩ => ⟨δ, G, _, sl, w, q, fun ds G1 vs H1 h1 t1 w1 r1 => ⟨by rw [r1.len]; exact h1.1, fun p np => by
    have s' := same_new np (.lst vs)
    exact f _ _ _ _ (h1.2 p (w1.free np)) (t1.trans (TKs.of s')) (w1.new np fun O => ⟨_, upd_same, r1.mono (.of s')⟩) (.ref p)⟩⟩
/-! ### calls of builtins -/
abbrev DC := List DV → DG → DK → Prop
def CallD (X : Cx) (f : Value) (b : DC) : Prop := ∃ r, CallR X f r ∧ ∀ ds vs H G R Q, RVs X.K H vs ds → Wd X.K H G → b ds G R → Fin X.K H R Q → r vs H Q
def dCB (b : DC) (t : TDA) : TD := fun δ G Q => t δ G fun ds G1 => b ds G1 Q
theorem de_callB {x : Str} {id : String} {b : DC} {p pos : Pos} (hc : CallD X (.builtin id) b) (hm : X.mg x = none) (hg : Gl X x) (hv : bootBuiltins x = some (.builtin id)) (ha : DA X (e :: es) ts) (hn : x ≠ "__name__" := by decide) (hdb : (x == ("__debug__" : Str)) = false := by decide)
    (he : starEach (e :: es) X.env = (false, eval e X.env) :: starEach es X.env := by rfl) (hpl : (backTo pos (starEach es X.env)).any (·.1) = false := by rfl) : DE X (.Call (.Name x p) (e :: es) [] pos) (dCB b ts) := by
  obtain ⟨r, hr, ok⟩ := hc
  exact PE_mono (pe_callB hr hg hm hv ha hn hdb he hpl) fun σ H Q ⟨δ, G, R, sl, w, q, f⟩ => ⟨δ, G, _, sl, w, q, fun ds G1 vs H1 h1 t1 w1 r1 => ok ds vs H1 G1 R Q r1 w1 h1 (f.step t1)⟩
theorem de_callTy {x : Str} {T : String} {b : DC} {p pos : Pos} (hc : CallD X (.type T) b) (hm : X.mg x = none) (hg : Gl X x) (hv : bootBuiltins x = some (.type T)) (ha : DA X (e :: es) ts) (hn : x ≠ "__name__" := by decide) (hdb : (x == ("__debug__" : Str)) = false := by decide)
    (he : starEach (e :: es) X.env = (false, eval e X.env) :: starEach es X.env := by rfl) (hpl : (backTo pos (starEach es X.env)).any (·.1) = false := by rfl) : DE X (.Call (.Name x p) (e :: es) [] pos) (dCB b ts) := by
  obtain ⟨r, hr, ok⟩ := hc
  exact PE_mono (pe_callTy hr hg hm hv ha hn hdb he hpl) fun σ H Q ⟨δ, G, R, sl, w, q, f⟩ => ⟨δ, G, _, sl, w, q, fun ds G1 vs H1 h1 t1 w1 r1 => ok ds vs H1 G1 R Q r1 w1 h1 (f.step t1)⟩
end
end DD
namespace DD
open PySem PySem.W L2 SX Cm
section
variable {X : Cx}
/-! ### builtins -/
def bLen : DC
  | [.tup ds], G, Q => Q (.int ds.length) G
  | [.str z], G, Q => z.length ≤ sizeLine ∧ Q (.int z.length) G
  | [.ref p], G, Q => (∃ ds, Ls G p ds ∧ Q (.int ds.length) G) ∨ (∃ kvs, G p = some (.dct kvs) ∧ Q (.int kvs.length) G)
  | _, _, _ => False
theorem KRV.len {K : Frag} {H : Hp} {v : List (Key × V)} {d : List (Key × DV)} (h : KRV K H v d) : v.length = d.length := by
  induction h with
  | nil => rfl
  | cons _ _ ih => exact congrArg (· + 1) ih
theorem cd_len : CallD X (.builtin "len") bLen := by
  refine ⟨_, call_len_seq.or (call_len_str.or call_lenD), fun ds vs H G R Q r w h f => ?_⟩
  cases r with
  | nil => exact h.elim
  | cons rv rt =>
    cases rt with
    | cons _ _ => cases rv <;> exact h.elim
    | nil =>
      cases rv with
      | tup s r => exact .inl ⟨_, _, rfl, .inr s, by rw [r.len]; exact f _ _ _ _ h (TKs.refl H) w (.int _)⟩
      | str z => exact .inr (.inl ⟨z, rfl, h.1, f _ _ _ _ h.2 (TKs.refl H) w (.int _)⟩)
      | ref p =>
        rcases h with ⟨ds, l, q⟩ | ⟨kvs, l, q⟩
        · obtain ⟨us, hs, r⟩ := wd_seq w l
          exact .inl ⟨p, us, rfl, .inl hs, by rw [r.len]; exact f _ _ _ _ q (TKs.refl H) w (.int _)⟩
        · obtain ⟨O, wo⟩ := id w
          obtain ⟨ks, hk, r⟩ := wo.ob p _ l
          exact .inr (.inr ⟨p, ks, rfl, hk, by rw [r.len]; exact f _ _ _ _ q (TKs.refl H) w (.int _)⟩)
      | _ => exact h.elim
/-- the type of a value, where it is known -/
def tyN : DV → String
  | .non => "NoneType"
  | .bl _ => "bool"
  | .int _ => "int"
  | .str _ => "str"
  | .tup _ => "tuple"
  | .ty _ => "type"
  | .ref _ => "object"
/-- isinstance of built-in types -/
def tyB (a t : String) : Bool := a == t || (a == "bool" && t == "int")
def tysK : List String := ["tuple", "str", "int", "bool", "list", "dict"]
theorem kit_tab : ∀ a ∈ ["NoneType", "bool", "int", "str", "tuple", "list", "dict"], ∀ t ∈ tysK, kitB a t = some (tyB a t) := by decide +kernel
def TyAt (G : DG) : DV → String → Prop
  | .ref p, a => (a = "list" ∧ (G p = some .cnt ∨ (∃ ds, Ls G p ds))) ∨ (a = "dict" ∧ ∃ kvs, G p = some (.dct kvs))
  | .ty _, _ => False
  | d, a => a = tyN d
def bIsi : DC
  | [x, .ty t], G, Q => t ∈ tysK ∧ ∃ a b, TyAt G x a ∧ tyB a t = b ∧ Q (.bl b) G
  | _, _, _ => False
theorem ty_of {K : Frag} {H : Hp} {G : DG} {v : V} {d : DV} {a : String} (w : Wd K H G) (r : RV K H v d) (h : TyAt G d a) : TyX K H v (.type a) ∧ a ∈ ["NoneType", "bool", "int", "str", "tuple", "list", "dict"] := by
  cases r with
  | non => cases h; exact ⟨.base .non, by decide⟩
  | bl b => cases h; exact ⟨.base (.bl b), by show "bool" ∈ _; decide⟩
  | int i => cases h; exact ⟨.base (.int i), by show "int" ∈ _; decide⟩
  | str z => cases h; exact ⟨.base (.str z), by show "str" ∈ _; decide⟩
  | tup s r => cases h; exact ⟨tyTup s, by show "tuple" ∈ _; decide⟩
  | ty n => exact h.elim
  | ref p =>
    rcases h with ⟨rfl, h⟩ | ⟨rfl, kvs, h⟩
    · refine ⟨?_, by decide⟩
      obtain ⟨O, w⟩ := w
      rcases h with h | ⟨ds, h | h⟩
      · obtain ⟨n, e⟩ := w.ob p _ h; exact .base (.lst e)
      · obtain ⟨n, e, _⟩ := w.ob p _ h; exact .base (.lst e)
      · obtain ⟨n, e | ⟨o, e⟩, _⟩ := w.ob p _ h
        · exact .base (.lst e)
        · exact .base (.frz e)
    · obtain ⟨O, w⟩ := w
      obtain ⟨n, e, _⟩ := w.ob p _ h
      exact ⟨.base (.dK e), by decide⟩
theorem cd_isi : CallD X (.builtin "isinstance") bIsi := by
  refine ⟨_, call_isi, fun ds vs H G R Q r w h f => ?_⟩
  cases r with
  | nil => exact h.elim
  | cons rv rt =>
    cases rt with
    | nil => exact h.elim
    | cons rv2 rt =>
      cases rt with
      | cons _ _ => cases rv2 <;> exact h.elim
      | nil =>
        cases rv2 with
        | ty t =>
          obtain ⟨ht, a, b, ha, rfl, q⟩ := h
          obtain ⟨h1, h2⟩ := ty_of w rv ha
          exact ⟨_, _, _, _, _, rfl, .ty t, h1, kit_ty (kit_tab a h2 t ht), flat_up w f q⟩
        | _ => exact h.elim
def bInt1 : DC
  | [.int i], G, Q => Q (.int i) G
  | [.bl k], G, Q => Q (.int (if k = true then 1 else 0)) G
  | _, _, _ => False
theorem cd_int : CallD X (.type "int") bInt1 := by
  refine ⟨_, call_int1, fun ds vs H G R Q r w h f => ?_⟩
  cases r with
  | nil => exact h.elim
  | cons rv rt =>
    cases rt with
    | cons _ _ => cases rv <;> exact h.elim
    | nil =>
      cases rv with
      | int i => exact .inl ⟨i, rfl, f _ _ _ _ h (TKs.refl H) w (.int _)⟩
      | bl k => exact .inr ⟨k, rfl, f _ _ _ _ h (TKs.refl H) w (.int _)⟩
      | _ => exact h.elim
def bStr1 : DC
  | [.int i], G, Q => i.natAbs.log2 < 1920 ∧ Q (.str (toString i)) G
  | _, _, _ => False
theorem cd_str : CallD X (.type "str") bStr1 := by
  refine ⟨_, call_str_int, fun ds vs H G R Q r w h f => ?_⟩
  cases r with
  | nil => exact h.elim
  | cons rv rt =>
    cases rt with
    | cons _ _ => cases rv <;> exact h.elim
    | nil =>
      cases rv with
      | int i => exact ⟨i, rfl, h.1, f _ _ _ _ h.2 (TKs.refl H) w (.str _)⟩
      | _ => exact h.elim
def bTuple : DC
  | [.tup ds], G, Q => Q (.tup ds) G
  | [.ref p], G, Q => ∃ ds, Ls G p ds ∧ Q (.tup ds) G
  | _, _, _ => False
theorem cd_tuple : CallD X (.type "tuple") bTuple := by
  refine ⟨_, call_tuple_of, fun ds vs H G R Q r w h f => ?_⟩
  cases r with
  | nil => exact h.elim
  | cons rv rt =>
    cases rt with
    | cons _ _ => cases rv <;> exact h.elim
    | nil =>
      cases rv with
      | tup s r => exact ⟨_, _, rfl, .inr ⟨s, f _ _ _ _ h (TKs.refl H) w (.tup s r)⟩⟩
      | ref p =>
        obtain ⟨ds, l, q⟩ := h
        obtain ⟨us, hs, r⟩ := wd_seq w l
        refine ⟨p, us, rfl, .inl ⟨hs, fun l nl => ?_⟩⟩
        have s' := same_new nl (.tup us)
        exact f _ _ _ _ q (TKs.of s') (w.same s') (.tup (SqT.of upd_same) (r.mono (.of s')))
      | _ => exact h.elim
def bList : DC
  | [.tup ds], G, Q => ∀ r, G r = none → Q (.ref r) (dupd G r (.lst ds))
  | [.ref p], G, Q => ∃ ds, Ls G p ds ∧ ∀ r, G r = none → Q (.ref r) (dupd G r (.lst ds))
  | _, _, _ => False
theorem cd_list : CallD X (.type "list") bList := by
  refine ⟨_, call_list_of, fun ds vs H G R Q r w h f => ?_⟩
  cases r with
  | nil => exact h.elim
  | cons rv rt =>
    cases rt with
    | cons _ _ => cases rv <;> exact h.elim
    | nil =>
      cases rv with
      | tup s r =>
        rename_i a xs ds
        refine ⟨_, _, rfl, .inr s, fun l nl => ?_⟩
        have s' := same_new nl (.lst xs)
        exact f _ _ _ _ (h l (w.free nl)) (TKs.of s') (w.new nl fun O => ⟨_, upd_same, r.mono (.of s')⟩) (.ref l)
      | ref p =>
        obtain ⟨ds, l, q⟩ := h
        obtain ⟨us, hs, r⟩ := wd_seq w l
        refine ⟨p, us, rfl, .inl hs, fun l nl => ?_⟩
        have s' := same_new nl (.lst us)
        exact f _ _ _ _ (q l (w.free nl)) (TKs.of s') (w.new nl fun O => ⟨_, upd_same, r.mono (.of s')⟩) (.ref l)
      | _ => exact h.elim
theorem RVs.bls {K : Frag} {H : Hp} : ∀ {v : List V} {bs : List Bool}, RVs K H v (bs.map DV.bl) → v = bs.map V.bl
  | _, [], .nil => rfl
  | _, b :: r, .cons h t => by cases h; rw [RVs.bls t]; rfl
def bAll : DC
  | [.ref p], G, Q => ∃ bs : List Bool, Ls G p (bs.map DV.bl) ∧ Q (.bl (bs.all id)) G
  | _, _, _ => False
def bAny : DC
  | [.ref p], G, Q => ∃ bs : List Bool, Ls G p (bs.map DV.bl) ∧ Q (.bl (bs.any id)) G
  | _, _, _ => False
theorem cd_all (hc : X.calm = true) : CallD X (.builtin "all") bAll := by
  refine ⟨_, cr_all hc, fun ds vs H G R Q r w h f => ?_⟩
  cases r with
  | nil => exact h.elim
  | cons rv rt =>
    cases rt with
    | cons _ _ => cases rv <;> exact h.elim
    | nil =>
      cases rv with
      | ref p =>
        obtain ⟨bs, l, q⟩ := h
        obtain ⟨us, hs, r⟩ := wd_seq w l
        rw [r.bls] at hs
        exact ⟨p, bs, rfl, hs, flat_up w f q⟩
      | _ => exact h.elim
theorem cd_any (hc : X.calm = true) : CallD X (.builtin "any") bAny := by
  refine ⟨_, cr_any hc, fun ds vs H G R Q r w h f => ?_⟩
  cases r with
  | nil => exact h.elim
  | cons rv rt =>
    cases rt with
    | cons _ _ => cases rv <;> exact h.elim
    | nil =>
      cases rv with
      | ref p =>
        obtain ⟨bs, l, q⟩ := h
        obtain ⟨us, hs, r⟩ := wd_seq w l
        rw [r.bls] at hs
        exact ⟨p, bs, rfl, hs, flat_up w f q⟩
      | _ => exact h.elim
/-! ### methods -/
abbrev DM := DV → List DV → DG → DK → Prop
def rcv (T : String) (x : DV) (G : DG) : Prop := match x with
  | .str _ => T = "str"
  | .ref p => (T = "list" ∧ ∃ ds, Ls G p ds) ∨ (T = "dict" ∧ ∃ kvs, G p = some (.dct kvs))
  | _ => False
theorem rcv_ok {K : Frag} {H : Hp} {G : DG} {T : String} {x : DV} {v : V} (w : Wd K H G) (r : RV K H v x) (h : rcv T x G) : tyV K T v H := by
  cases r with
  | str z => exact h
  | ref p =>
    rcases h with ⟨rfl, ds, l⟩ | ⟨rfl, kvs, l⟩
    · obtain ⟨us, hs, _⟩ := wd_seq w l
      exact .inl ⟨rfl, us, hs⟩
    · obtain ⟨O, w⟩ := w
      obtain ⟨ks, e, _⟩ := w.ob p _ l
      exact .inr (.inr (.inl ⟨rfl, .inl ⟨ks, e⟩⟩))
  | _ => exact h.elim
def MtD (X : Cx) (id : String) (b : DM) : Prop := ∃ r, MtR X id r ∧ ∀ x ds vx vs H G R Q, RV X.K H vx x → RVs X.K H vs ds → Wd X.K H G → b x ds G R → Fin X.K H R Q → r vx vs H Q
def dBM (T : String) (b : DM) (to : TD) (t : TDA) : TD := fun δ G Q => to δ G fun x G1 => rcv T x G1 ∧ t δ G1 fun ds G2 => b x ds G2 Q
def dBM0 (T : String) (b : DM) (to : TD) : TD := fun δ G Q => to δ G fun x G1 => rcv T x G1 ∧ b x [] G1 Q
variable {o e : Expr} {es : List Expr} {to : TD} {t : TDA} {name : Str} {apos cpos : Pos} {T id : String} {b : DM}
theorem de_bm (pa : PlainAttrs T) (slot : Slot T name id) (hty : typeOf (.builtin id) = pure (.type "method_descriptor")) (hm : MtD X id b) (ho : DE X o to) (ha : DA X (e :: es) t)
    (hbase : attributeBase o name X.env (eval o X.env) = eval o X.env := by rfl)
    (hfew : ((backTo cpos (starEach (e :: es) X.env)).all (fun x => !x.1) && (backToKw cpos (keywordEach [] X.env)).all (fun x => x.1.isSome)
      && decide ((e :: es).length + ([] : List Keyword).length + (if ([] : List Keyword).isEmpty then 0 else 1) < 30)) = true := by rfl)
    (hline : (apos.endLine == cpos.line) = true := by rfl) (hs : starEach (e :: es) X.env = (false, eval e X.env) :: starEach es X.env := by rfl) (hplain : (backTo cpos (starEach es X.env)).any (·.1) = false := by rfl) :
    DE X (.Call (.Attribute o name apos) (e :: es) [] cpos) (dBM T b to t) := by
  obtain ⟨r, hr, ok⟩ := hm
  refine PE_mono (pe_bm pa slot hty hr ho ha hbase hfew hline hs hplain) fun σ H Q ⟨δ, G, R, sl, w, q, f⟩ => ⟨δ, G, _, sl, w, q, fun x G1 vx H1 h1 t1 w1 r1 => ⟨rcv_ok w1 r1 h1.1, δ, G1, _, sl.mono t1, w1, h1.2, fun ds G2 vs H2 h2 t2 w2 r2 => ?_⟩⟩
  exact ok x ds vx vs H2 G2 R Q (r1.mono t2) r2 w2 h2 (f.step (t1.trans t2))
theorem de_bm0 (pa : PlainAttrs T) (slot : Slot T name id) (hty : typeOf (.builtin id) = pure (.type "method_descriptor")) (hm : MtD X id b) (ho : DE X o to)
    (hbase : attributeBase o name X.env (eval o X.env) = eval o X.env := by rfl) (hline : (apos.endLine == cpos.line) = true := by rfl) : DE X (.Call (.Attribute o name apos) [] [] cpos) (dBM0 T b to) := by
  obtain ⟨r, hr, ok⟩ := hm
  exact PE_mono (pe_bm0 pa slot hty hr ho hbase hline) fun σ H Q ⟨δ, G, R, sl, w, q, f⟩ => ⟨δ, G, _, sl, w, q, fun x G1 vx H1 h1 t1 w1 r1 => ⟨rcv_ok w1 r1 h1.1, ok x [] vx [] H1 G1 R Q r1 .nil w1 h1.2 (f.step t1)⟩⟩
/-- a change of one of the store's lists -/
theorem put_lst {K : Frag} {H : Hp} {G : DG} {p : Addr} {ds es : List DV} {xs ys : List V} (w : Wd K H G) (e : G p = some (.lst ds)) (h : H p = some (.lst xs)) (r : RVs K H ys es) : TKs K H (upd H p (.lst ys)) ∧ Wd K (upd H p (.lst ys)) (dupd G p (.lst es)) := by
  have t : TKs K H (upd H p (.lst ys)) := TKs.lst h
  exact ⟨t, w.put ⟨_, e, fun L φ z => by cases z⟩ t fun O => ⟨ys, upd_same, r.mono t⟩⟩
def bAppend : DM := fun x ds G Q => ∃ p xs y, x = .ref p ∧ ds = [y] ∧ G p = some (.lst xs) ∧ xs.length < sizeLine ∧ Q .non (dupd G p (.lst (xs ++ [y])))
theorem md_append : MtD X "list.append" bAppend := by
  refine ⟨_, mt_append, fun x ds vx vs H G R Q rx rs w h f => ?_⟩
  obtain ⟨p, xs, y, rfl, rfl, e, hl, q⟩ := h
  cases rx
  cases rs with
  | cons ry rt =>
    cases rt
    obtain ⟨us, hu, r⟩ := wd_list w e
    obtain ⟨t, w'⟩ := put_lst (es := xs ++ [y]) w e hu (r.append (.cons ry .nil))
    exact ⟨p, us, _, rfl, rfl, hu, by rw [r.len]; exact hl, f _ _ _ _ q t w' .non⟩
def bPop : DM := fun x ds G Q => ∃ p xs y, x = .ref p ∧ ds = [] ∧ G p = some (.lst (xs ++ [y])) ∧ Q y (dupd G p (.lst xs))
theorem md_pop : MtD X "list.pop" bPop := by
  refine ⟨_, mt_pop, fun x ds vx vs H G R Q rx rs w h f => ?_⟩
  obtain ⟨p, xs, y, rfl, rfl, e, q⟩ := h
  cases rx
  cases rs
  obtain ⟨us, hu, r⟩ := wd_list w e
  have l := r.len
  rw [List.length_append, List.length_singleton] at l
  obtain ⟨v, hv, rv⟩ := r.get (i := us.length - 1) (y := y) (by rw [l, Nat.add_sub_cancel, List.getElem?_append_right (Nat.le_refl _), Nat.sub_self]; rfl)
  have rd := r.dropLast
  rw [List.dropLast_concat] at rd
  obtain ⟨t, w'⟩ := put_lst w e hu rd
  exact ⟨p, us, v, rfl, rfl, hu, hv, f _ _ _ _ q t w' (rv.mono t)⟩
def bExt : DM := fun x ds G Q => ∃ p xs zs, x = .ref p ∧ G p = some (.lst xs) ∧ (ds = [.tup zs] ∨ ∃ q, ds = [.ref q] ∧ G q = some (.lst zs)) ∧ xs.length + zs.length ≤ sizeLine ∧ Q .non (dupd G p (.lst (xs ++ zs)))
theorem md_extend : MtD X "list.extend" bExt := by
  refine ⟨_, MtR.or mt_extend mt_extT, fun x ds vx vs H G R Q rx rs w h f => ?_⟩
  obtain ⟨p, xs, zs, rfl, e, hd, hl, q⟩ := h
  cases rx
  obtain ⟨us, hu, r⟩ := wd_list w e
  rcases hd with rfl | ⟨q', rfl, e'⟩
  · cases rs with
    | cons ry rt =>
      cases rt
      obtain ⟨a, ys, rfl, s, r'⟩ := ry.tupD
      obtain ⟨t, w'⟩ := put_lst w e hu (r.append r')
      exact .inr ⟨p, a, us, ys, rfl, rfl, hu, s, by rw [r.len, r'.len]; exact hl, f _ _ _ _ q t w' .non⟩
  · cases rs with
    | cons ry rt =>
      cases rt
      cases ry
      obtain ⟨ys, hy, r'⟩ := wd_list w e'
      obtain ⟨t, w'⟩ := put_lst w e hu (r.append r')
      exact .inl ⟨p, q', us, ys, rfl, rfl, hu, hy, by rw [r.len, r'.len]; exact hl, f _ _ _ _ q t w' .non⟩
end
end DD
namespace DD
open PySem PySem.W L2 SX Cm
section
variable {X : Cx}
/-! ### blocks -/
def dNext : TDS := fun D δ G => D.nx δ G
def dSeq (t u : TDS) : TDS := fun D δ G => t { D with nx := u D } δ G
variable {st : Stmt} {rest : List Stmt} {t u : TDS}
theorem dss_nil : DSs X [] dNext := PSs_mono pss_nil fun D σ H ⟨D', δ, G, sl, w, l, h⟩ => l.nx σ δ G H h (TKs.refl H) w sl
theorem seq_up {K : Frag} {D : Ends} {σ : St} {H : Hp} (h : upS K (dSeq t u) D σ H) : tSeq (upS K t) (upS K u) D σ H := by
  obtain ⟨D', δ, G, sl, w, l, h⟩ := h
  exact ⟨{ D' with nx := u D' }, δ, G, sl, w, ⟨fun σ1 δ1 G1 H1 q t1 w1 s1 => ⟨D', δ1, G1, s1, w1, l.step t1, q⟩, l.rt, l.bk, l.ct⟩, h⟩
theorem dss_cons (h1 : DS X st t) (h2 : DSs X rest u) : DSs X (st :: rest) (dSeq t u) := PSs_mono (pss_cons h1 h2) fun D σ H h => seq_up h
theorem dss_one (h1 : DS X st t) : DSs X [st] t := pss_one h1
/-- a middle assertion behind the first statement -/
def dCut (t u : TDS) : TDS := fun D δ G => ∃ Mid : DSt → DG → Prop, t { D with nx := Mid } δ G ∧ ∀ δ' G', Mid δ' G' → u D δ' G'
theorem dss_cut (h1 : DS X st t) (h2 : DSs X rest u) : DSs X (st :: rest) (dCut t u) := PSs_mono (pss_cons h1 h2) fun D σ H ⟨D', δ, G, sl, w, l, Mid, h, g⟩ =>
  ⟨{ D' with nx := Mid }, δ, G, sl, w, ⟨fun σ1 δ1 G1 H1 q t1 w1 s1 => ⟨D', δ1, G1, s1, w1, l.step t1, g _ _ q⟩, l.rt, l.bk, l.ct⟩, h⟩
def dNever : TDS := fun _ _ _ => False
theorem dss_never {sts : List Stmt} : DSs X sts dNever := PSs_mono pss_never fun D σ H ⟨_, _, _, _, _, _, h⟩ => h
theorem ds_pass {pos : Pos} : DS X (.Pass pos) dNext := PS_mono ps_pass fun D σ H ⟨D', δ, G, sl, w, l, h⟩ => l.nx σ δ G H h (TKs.refl H) w sl
def dBreak : TDS := fun D δ G => D.bk δ G
def dCont : TDS := fun D δ G => D.ct δ G
theorem ds_break {pos : Pos} : DS X (.Break pos) dBreak := PS_mono ps_break fun D σ H ⟨D', δ, G, sl, w, l, h⟩ => l.bk σ δ G H h (TKs.refl H) w sl
theorem ds_continue {pos : Pos} : DS X (.Continue pos) dCont := PS_mono ps_continue fun D σ H ⟨D', δ, G, sl, w, l, h⟩ => l.ct σ δ G H h (TKs.refl H) w sl
def dDrop (te : TD) : TDS := fun D δ G => te δ G fun _ G1 => D.nx δ G1
theorem ds_expr {e : Expr} {te : TD} {pos : Pos} (he : DE X e te) (hs : swapsWith e none pos.line X.env = pure false := by rfl) : DS X (.Expr e pos) (dDrop te) :=
  PS_mono (ps_expr he hs) fun D σ H ⟨D', δ, G, sl, w, l, h⟩ => ⟨δ, G, _, sl, w, h, fun d G1 v H1 q t1 w1 _ => l.nx σ δ G1 H1 q t1 w1 (sl.mono t1)⟩
def dRet (te : TD) : TDS := fun D δ G => te δ G D.rt
theorem ds_ret {e : Expr} {te : TD} {pos : Pos} (he : DE X e te) : DS X (.Return (some e) pos) (dRet te) :=
  PS_mono (ps_ret he) fun D σ H ⟨D', δ, G, sl, w, l, h⟩ => ⟨δ, G, _, sl, w, h, fun d G1 v H1 q t1 w1 r1 => l.rt d G1 v H1 q t1 w1 r1⟩
def dRetN : TDS := fun D _ G => D.rt .non G
theorem ds_retN {pos : Pos} : DS X (.Return none pos) dRetN := PS_mono ps_retN fun D σ H ⟨D', δ, G, sl, w, l, h⟩ => l.rt _ G _ H h (TKs.refl H) w .non
def dIfS (c : TDT) (t u : TDS) : TDS := fun D δ G => c δ G fun b G1 => if b = true then t D δ G1 else u D δ G1
theorem ds_if {c : Expr} {a b : List Stmt} {tc : TDT} {pos : Pos} (hc : DT X c tc) (ha : DSs X a t) (hb : DSs X b u) : DS X (.If c a b pos) (dIfS tc t u) :=
  PS_mono (ps_if hc ha hb) fun D σ H ⟨D', δ, G, sl, w, l, h⟩ => ⟨δ, G, _, sl, w, h, fun k G1 H1 q t1 w1 => by
    cases k with
    | true => exact iteT ⟨D', δ, G1, sl.mono t1, w1, l.step t1, q⟩
    | false => exact iteF ⟨D', δ, G1, sl.mono t1, w1, l.step t1, q⟩⟩
/-! ### targets -/
abbrev TDG := DV → DSt → DG → (DSt → DG → Prop) → Prop
abbrev TDGs := List DV → DSt → DG → (DSt → DG → Prop) → Prop
def FinG (K : Frag) (H : Hp) (R : DSt → DG → Prop) (Q : St → Hp → Prop) : Prop := ∀ δ G σ H', R δ G → TKs K H H' → Wd K H' G → Sl K H' σ δ → Q σ H'
theorem FinG.step {K : Frag} {H H1 : Hp} {R : DSt → DG → Prop} {Q : St → Hp → Prop} (f : FinG K H R Q) (t : TKs K H H1) : FinG K H1 R Q := fun δ G σ H' r t' => f δ G σ H' r (t.trans t')
def upG (K : Frag) (g : TDG) : TG := fun v σ H Q => ∃ d δ G R, RV K H v d ∧ Sl K H σ δ ∧ Wd K H G ∧ g d δ G R ∧ FinG K H R Q
def upGs (K : Frag) (g : TDGs) : TGs := fun vs σ H Q => ∃ ds δ G R, RVs K H vs ds ∧ Sl K H σ δ ∧ Wd K H G ∧ g ds δ G R ∧ FinG K H R Q
abbrev DGt (X : Cx) (e : Expr) (g : TDG) : Prop := PG X e (upG X.K g)
abbrev DGs (X : Cx) (e : List Expr) (g : TDGs) : Prop := PGs X e (upGs X.K g)
theorem PG_mono {e : Expr} {t t' : TG} (h : PG X e t) (i : ∀ v σ H Q, t' v σ H Q → t v σ H Q) : PG X e t' := ⟨fun pins s σ H v u Q I r q => h.run pins s σ H v u Q I r (i v σ H Q q)⟩
theorem PGs_mono {e : List Expr} {t t' : TGs} (h : PGs X e t) (i : ∀ v σ H Q, t' v σ H Q → t v σ H Q) : PGs X e t' := ⟨fun pins s σ H v u Q I r q => h.run pins s σ H v u Q I r (i v σ H Q q)⟩
def gN (i : Nat) : TDG := fun d δ G Q => Q (δ.set i (some d)) G
theorem dg_name {i : Nat} {x : Str} {pos : Pos} (hN : X.N.Nodup) (hi : X.N[i]? = some x) (hx : Loc X.env.scope x) (hf : X.fn x = true ∨ X.env.scope.names.lookup x = some .local := by first | exact .inl rfl | exact .inr rfl | assumption) : DGt X (.Name x pos) (gN i) :=
  PG_mono (pg_name hN hi hx hf) fun v σ H Q ⟨d, δ, G, R, r, sl, w, h, f⟩ => f _ _ _ _ h (TKs.refl H) w (sl.set r i)
def gN0 : TDGs := fun ds δ G Q => ds = [] ∧ Q δ G
def gNC (t : TDG) (u : TDGs) : TDGs := fun ds δ G Q => ∃ d r, ds = d :: r ∧ t d δ G fun δ' G' => u r δ' G' Q
theorem dgs_nil : DGs X [] gN0 := PGs_mono pgs_nil fun vs σ H Q ⟨ds, δ, G, R, r, sl, w, ⟨e, h⟩, f⟩ => by
  subst e
  cases r
  exact ⟨rfl, f _ _ _ _ h (TKs.refl H) w sl⟩
theorem dgs_cons {e : Expr} {es : List Expr} {t : TDG} {u : TDGs} (h1 : DGt X e t) (h2 : DGs X es u)
    (hs : (assignEach (e :: es) X.env).map (·.2) = assign e X.env :: (assignEach es X.env).map (·.2) := by rfl) : DGs X (e :: es) (gNC t u) := PGs_mono (pgs_cons h1 h2 hs) fun vs σ H Q ⟨ds, δ, G, R, r, sl, w, ⟨d, rs, e, h⟩, f⟩ => by
  subst e
  cases r with
  | cons rv rt => exact ⟨_, _, rfl, d, δ, G, _, rv, sl, w, h, fun δ1 G1 σ1 H1 q t1 w1 s1 => ⟨rs, δ1, G1, R, rt.mono t1, s1, w1, q, f.step t1⟩⟩
def gT (n : Nat) (t : TDGs) : TDG := fun d δ G Q => ∃ ds, d = .tup ds ∧ ds.length = n ∧ t ds δ G Q
theorem dg_tup {es : List Expr} {k : Nat} {t : TDGs} {n : Nat} {pos : Pos} (hc : X.calm = true) (h : DGs X es t)
    (hn : (assignEach es X.env).length = n := by rfl) (hst : (assignEach es X.env).findIdx? (·.1) = none := by rfl) : DGt X (.Tuple es k pos) (gT n t) := PG_mono (pg_tup hc h hn hst) fun v σ H Q ⟨d, δ, G, R, r, sl, w, ⟨ds, e, l, h⟩, f⟩ => by
  subst e
  obtain ⟨a, xs, rfl, s, r⟩ := r.tupD
  exact ⟨a, xs, rfl, s, by rw [r.len]; exact l, ds, δ, G, R, r, sl, w, h, f⟩
/-- xs[i] = v -/
def bSet : DV → DV → DV → DG → (DG → Prop) → Prop
  | .ref p, .int i, v, G, Q => (∃ ds j, G p = some (.lst ds) ∧ ixN ds.length i = some j ∧ Q (dupd G p (.lst (ds.set j v)))) ∨ (G p = some .cnt ∧ i = 0 ∧ (∃ n, v = .int n) ∧ Q G)
  | _, _, _, _, _ => False
def gSb (to ti : TD) : TDG := fun v δ G Q => to δ G fun o G1 => ti δ G1 fun i G2 => bSet o i v G2 fun G3 => Q δ G3
theorem dupd_self {G : DG} {p : Addr} {o : DO} (h : G p = some o) : dupd G p o = G := by
  funext b
  by_cases e : b = p
  · rw [e, dupd_same, h]
  · rw [dupd_ne e]
theorem dg_sub {o i : Expr} {to ti : TD} {pos : Pos} (ho : DE X o to) (hi : DE X i ti)
    (ha : ∀ v, assign (.Subscript o i pos) X.env v = (do
      let ov ← holding [v] (eval o X.env)
      let iv ← holding [v, ov] (eval i X.env)
      standAt pos
      holding [v, ov, iv] (setItem ov iv v)
      release [v, ov, iv] []) := by intro _; rfl) : DGt X (.Subscript o i pos) (gSb to ti) := PG_mono (pg_sub ho hi set_list ha) fun v σ H Q ⟨d, δ, G, R, r, sl, w, h, f⟩ => by
  refine ⟨δ, G, _, sl, w, h, fun o G1 vo H1 h1 t1 w1 r1 => ⟨δ, G1, _, sl.mono t1, w1, h1, fun i G2 vi H2 h2 t2 w2 r2 => ?_⟩⟩
  have t12 := t1.trans t2
  cases r2 with
  | int i =>
    have ro := r1.mono t2
    cases ro with
    | ref p =>
      rcases h2 with ⟨ds, j, e, hj, q⟩ | ⟨e, rfl, ⟨n, rfl⟩, q⟩
      · obtain ⟨us, hu, r'⟩ := wd_list w2 e
        obtain ⟨t3, w3⟩ := put_lst w2 e hu (r'.set (r.mono t12) j)
        exact ⟨p, us, i, j, rfl, rfl, hu, by rw [r'.len]; exact hj, f _ _ _ _ q (t12.trans t3) w3 (sl.mono (t12.trans t3))⟩
      · obtain ⟨O, w'⟩ := id w2
        obtain ⟨m, hm⟩ := w'.ob p _ e
        cases r
        have t3 : TKs X.K H2 (upd H2 p (.lst [.int n])) := TKs.lst hm
        have w3 := w2.put (o' := .cnt) (u' := .lst [.int n]) ⟨_, e, fun L φ z => by cases z⟩ t3 fun O => ⟨n, upd_same⟩
        rw [dupd_self e] at w3
        exact ⟨p, _, 0, 0, rfl, rfl, hm, rfl, f _ _ _ _ q (t12.trans t3) w3 (sl.mono (t12.trans t3))⟩
    | _ => exact h2.elim
  | _ => cases (r1.mono t2) <;> exact h2.elim
def dAsg (te : TD) (g : TDG) : TDS := fun D δ G => te δ G fun d G1 => g d δ G1 D.nx
theorem asg_up {K : Frag} {te : TD} {g : TDG} {D : Ends} {σ : St} {H : Hp} (h : upS K (dAsg te g) D σ H) : tAsg (up K te) (upG K g) D σ H := by
  obtain ⟨D', δ, G, sl, w, l, h⟩ := h
  exact ⟨δ, G, _, sl, w, h, fun d G1 v H1 q t1 w1 r1 => ⟨d, δ, G1, _, r1, sl.mono t1, w1, q, fun δ2 G2 σ2 H2 q2 t2 w2 s2 => l.nx σ2 δ2 G2 H2 q2 (t1.trans t2) w2 s2⟩⟩
theorem ds_asg {tg e : Expr} {te : TD} {g : TDG} {pos : Pos} (he : DE X e te) (hg : DGt X tg g) (hs : swapsWithSole [tg] e pos.line X.env = pure false := by rfl) (hw : swappedStores [tg] e X.env = pure none := by rfl) (h1 : (assignEach [tg] X.env).map (·.2) = [assign tg X.env] := by rfl) : DS X (.Assign [tg] e pos) (dAsg te g) := PS_mono (ps_asg he hg hs hw h1) fun D σ H h => asg_up h
theorem ds_set {i : Nat} {x : Str} {e : Expr} {te : TD} {pos' pos : Pos} (hN : X.N.Nodup) (hi : X.N[i]? = some x) (hx : Loc X.env.scope x) (he : DE X e te) (hs : swapsWith e (some (.Name x pos')) pos.line X.env = pure false := by rfl) (hf : X.fn x = true ∨ X.env.scope.names.lookup x = some .local := by first | exact .inl rfl | exact .inr rfl | assumption) : DS X (.Assign [.Name x pos'] e pos) (dAsg te (gN i)) :=
  PS_mono (ps_set hN hi hx he hs hf) fun D σ H ⟨D', δ, G, sl, w, l, h⟩ => ⟨δ, G, _, sl, w, h, fun d G1 v H1 q t1 w1 r1 => l.nx _ _ G1 H1 q t1 w1 ((sl.mono t1).set r1 i)⟩
def dPar (i j : Nat) (t : TDA) : TDS := fun D δ G => t δ G fun ds G1 => ∃ a b, ds = [a, b] ∧ D.nx ((δ.set i (some a)).set j (some b)) G1
theorem ds_par {i j : Nat} {x y : Str} {a b : Expr} {ta : TDA} {px py pt pos : Pos} {kt k2 pt2} (hc : X.calm = true) (hN : X.N.Nodup) (hi : X.N[i]? = some x) (hj : X.N[j]? = some y) (hij : i ≠ j)
    (hx : X.env.scope.names.lookup x = some .local) (hy : X.env.scope.names.lookup y = some .local) (ha : DA X [a, b] ta)
    (hw : swappedStores [.Tuple [.Name x px, .Name y py] kt pt] (.Tuple [a, b] k2 pt2) X.env = pure (some [x, y]))
    (hs : swapsWithSole [.Tuple [.Name x px, .Name y py] kt pt] (.Tuple [a, b] k2 pt2) pos.line X.env = pure false := by rfl) :
    DS X (.Assign [.Tuple [.Name x px, .Name y py] kt pt] (.Tuple [a, b] k2 pt2) pos) (dPar i j ta) :=
  PS_mono (ps_par hc hN hi hj hij hx hy ha hw hs) fun D σ H ⟨D', δ, G, sl, w, l, h⟩ => ⟨δ, G, _, sl, w, h, fun ds G1 vs H1 q t1 w1 r1 => by
    obtain ⟨a, b, rfl, q⟩ := q
    cases r1 with
    | cons ra rb =>
      cases rb with
      | cons rb rn =>
        cases rn
        exact ⟨_, _, rfl, l.nx _ _ G1 H1 q t1 w1 (((sl.mono t1).set ra i).set rb j)⟩⟩
end
end DD
namespace DD
open PySem PySem.W L2 SX Cm
/-! ### what is walked: its items, and what must stay so -/
abbrev TDI := DSt → DG → (List DV → (DG → Prop) → DG → Prop) → Prop
structure JRel (K : Frag) (H0 : Hp) (J : It) (ds : List DV) (st : DG → Prop) : Prop where
  go : ∀ i H G, TKs K H0 H → Wd K H G → st G → i < ds.length → J.go i H
  yld : ∀ i H G x H', TKs K H0 H → Wd K H G → st G → i < ds.length → J.yld i H x H' → Same H H' ∧ ∃ d, ds[i]? = some d ∧ RV K H' x d
  stop : ∀ i H G, TKs K H0 H → Wd K H G → st G → i = ds.length → J.stop i H
def upI (K : Frag) (ti : TDI) : TI := fun σ H R' => ∃ δ G R, Sl K H σ δ ∧ Wd K H G ∧ ti δ G R ∧ ∀ ds st G1 H1 J, R ds st G1 → TKs K H H1 → Wd K H1 G1 → JRel K H1 J ds st → R' J H1
section
variable {X : Cx} {tg : Expr}
abbrev DI (X : Cx) (tg iter : Expr) (ti : TDI) : Prop := PI X tg iter (upI X.K ti)
theorem PI_mono {e : Expr} {t t' : TI} (h : PI X tg e t) (i : ∀ σ H R, t' σ H R → t σ H R) : PI X tg e t' := ⟨fun pins s σ H Q I q => h.run pins s σ H Q I (i σ H Q q)⟩
theorem PI_or {e : Expr} {t t' : TI} (h : PI X tg e t) (h' : PI X tg e t') : PI X tg e (fun σ H R => t σ H R ∨ t' σ H R) := ⟨fun pins s σ H Q I q => by
  rcases q with q | q
  · exact h.run pins s σ H Q I q
  · exact h'.run pins s σ H Q I q⟩
/-- over a tuple -/
def dITup (t : TD) : TDI := fun δ G R => t δ G fun d G1 => ∃ ds, d = .tup ds ∧ R ds (fun _ => True) G1
theorem di_tup {e : Expr} {t : TD} (h : DE X e t) : DI X tg e (dITup t) := PI_mono (pi_tup h) fun σ H R' ⟨δ, G, R, sl, w, q, f⟩ => ⟨δ, G, _, sl, w, q, fun d G1 v H1 ⟨ds, e, q1⟩ t1 w1 r1 => by
  subst e
  obtain ⟨a, xs, rfl, s, r⟩ := r1.tupD
  refine ⟨a, rfl, ⟨xs, s⟩, f _ _ _ _ _ q1 t1 w1 ⟨fun i H2 G2 t2 w2 _ hi => ?_, fun i H2 G2 x H3 t2 w2 _ _ y => ?_, fun i H2 G2 t2 w2 _ hi => ?_⟩⟩
  · obtain ⟨x, hx, _⟩ := r.get (List.getElem?_eq_getElem hi)
    exact ⟨xs, x, t2 _ _ s, hx⟩
  · obtain ⟨rfl, y⟩ := y
    obtain ⟨d, hd, rd⟩ := (r.mono t2).getV (y xs (t2 _ _ s))
    exact ⟨Same.refl _, d, hd, rd⟩
  · exact ⟨xs, t2 _ _ s, by rw [r.len]; exact Nat.le_of_eq hi.symm⟩⟩
/-- over a list, which stays as it is -/
def dIList (t : TD) : TDI := fun δ G R => t δ G fun d G1 => ∃ p ds, d = .ref p ∧ Ls G1 p ds ∧ R ds (fun G => Ls G p ds) G1
theorem di_list {e : Expr} {t : TD} (h : DE X e t) : DI X tg e (dIList t) := PI_mono (pi_list h) fun σ H R' ⟨δ, G, R, sl, w, q, f⟩ => ⟨δ, G, _, sl, w, q, fun d G1 v H1 ⟨p, ds, e, ls, q1⟩ t1 w1 r1 => by
  subst e
  cases r1
  obtain ⟨xs, s, r⟩ := wd_seq w1 ls
  refine ⟨p, rfl, ⟨xs, s⟩, f _ _ _ _ _ q1 t1 w1 ⟨fun i H2 G2 t2 w2 l2 hi => ?_, fun i H2 G2 x H3 t2 w2 l2 _ y => ?_, fun i H2 G2 t2 w2 l2 hi => ?_⟩⟩
  · obtain ⟨ys, s2, r2⟩ := wd_seq w2 l2
    obtain ⟨x, hx, _⟩ := r2.get (List.getElem?_eq_getElem hi)
    exact ⟨ys, x, s2, hx⟩
  · obtain ⟨rfl, y⟩ := y
    obtain ⟨ys, s2, r2⟩ := wd_seq w2 l2
    obtain ⟨d, hd, rd⟩ := r2.getV (y ys s2)
    exact ⟨Same.refl _, d, hd, rd⟩
  · obtain ⟨ys, s2, r2⟩ := wd_seq w2 l2
    exact ⟨ys, s2, by rw [r2.len]; exact Nat.le_of_eq hi.symm⟩⟩
def signs (z : Str) : List DV := z.cps.toList.map fun c => .str ⟨#[c]⟩
def dIStr (t : TD) : TDI := fun δ G R => t δ G fun d G1 => ∃ z, d = .str z ∧ R (signs z) (fun _ => True) G1
theorem di_str {e : Expr} {t : TD} (h : DE X e t) : DI X tg e (dIStr t) := PI_mono (pi_str h) fun σ H R' ⟨δ, G, R, sl, w, q, f⟩ => ⟨δ, G, _, sl, w, q, fun d G1 v H1 ⟨z, e, q1⟩ t1 w1 r1 => by
  subst e
  cases r1
  have hl : (signs z).length = z.cps.size := by unfold signs; rw [List.length_map, Array.length_toList]
  refine ⟨z, rfl, f _ _ _ _ _ q1 t1 w1 ⟨fun i H2 G2 t2 w2 l2 hi => by rw [hl] at hi; exact hi, fun i H2 G2 x H3 t2 w2 l2 _ y => ?_, fun i H2 G2 t2 w2 l2 hi => by rw [hl] at hi; exact Nat.le_of_eq hi.symm⟩⟩
  obtain ⟨rfl, c, hc, rfl⟩ := y
  refine ⟨Same.refl _, .str ⟨#[c]⟩, ?_, .str _⟩
  unfold signs
  rw [List.getElem?_map, Array.getElem?_toList, hc]; rfl⟩
/-- range(n), range(a, b) -/
def rng (lo : Int) (n : Nat) : List DV := (List.range n).map fun i => .int (lo + (i : Nat))
theorem rng_len (lo : Int) (n : Nat) : (rng lo n).length = n := by unfold rng; rw [List.length_map, List.length_range]
theorem rng_get {lo : Int} {n i : Nat} (h : i < n) : (rng lo n)[i]? = some (.int (lo + (i : Nat))) := by
  unfold rng
  rw [List.getElem?_map, List.getElem?_range h]; rfl
theorem rng_rel {K : Frag} {H : Hp} {lo : Int} {n : Nat} : JRel K H (Itr lo n) (rng lo n) (fun _ => True) :=
  ⟨fun i H2 G2 t2 w2 l2 hi => by rw [rng_len] at hi; exact hi, fun i H2 G2 x H3 t2 w2 l2 hi y => by
    obtain ⟨rfl, rfl⟩ := y
    rw [rng_len] at hi
    exact ⟨Same.refl _, .int (lo + i), rng_get hi, .int _⟩, fun i H2 G2 t2 w2 l2 hi => by rw [rng_len] at hi; exact Nat.le_of_eq hi.symm⟩
def dIRng (t : TDA) : TDI := fun δ G R => t δ G fun ds G1 => ∃ j : Int, ds = [.int j] ∧ -(2 ^ 62) ≤ j ∧ j < 2 ^ 62 ∧ R (rng 0 j.toNat) (fun _ => True) G1
theorem di_range {a : Expr} {t : TDA} {p pos : Pos} (hm : X.mg "range" = none) (hg : Gl X "range") (ha : DA X [a] t) (hs : starEach [a] X.env = [(false, eval a X.env)] := by rfl) : DI X tg (.Call (.Name "range" p) [a] [] pos) (dIRng t) :=
  PI_mono (pi_range1 hg hm ha hs) fun σ H R' ⟨δ, G, R, sl, w, q, f⟩ => ⟨δ, G, _, sl, w, q, fun ds G1 vs H1 ⟨j, e, h1, h2, q1⟩ t1 w1 r1 => by
    subst e
    cases r1 with
    | cons ra rb =>
      cases rb
      cases ra
      exact ⟨j, rfl, h1, h2, f _ _ _ _ _ q1 t1 w1 rng_rel⟩⟩
def dIRng2 (t : TDA) : TDI := fun δ G R => t δ G fun ds G1 => ∃ i j : Int, ds = [.int i, .int j] ∧ (-(2 ^ 62) ≤ i ∧ i < 2 ^ 62 ∧ -(2 ^ 62) ≤ j ∧ j < 2 ^ 62) ∧ R (rng i (j - i).toNat) (fun _ => True) G1
theorem di_range2 {a b : Expr} {t : TDA} {p pos : Pos} (hm : X.mg "range" = none) (hg : Gl X "range") (ha : DA X [a, b] t) (hs : starEach [a, b] X.env = [(false, eval a X.env), (false, eval b X.env)] := by rfl) (hs2 : starEach [b] X.env = [(false, eval b X.env)] := by rfl) : DI X tg (.Call (.Name "range" p) [a, b] [] pos) (dIRng2 t) :=
  PI_mono (pi_range2 hg hm ha hs hs2) fun σ H R' ⟨δ, G, R, sl, w, q, f⟩ => ⟨δ, G, _, sl, w, q, fun ds G1 vs H1 ⟨i, j, e, h1, q1⟩ t1 w1 r1 => by
    subst e
    cases r1 with
    | cons ra rb =>
      cases rb with
      | cons rb rn =>
        cases rn
        cases ra
        cases rb
        exact ⟨i, j, rfl, h1, f _ _ _ _ _ q1 t1 w1 rng_rel⟩⟩
/-- enumerate of a list -/
def nmbd (ds : List DV) : List DV := ds.zipIdx.map fun p => .tup [.int (p.2 : Nat), p.1]
theorem nmbd_len (ds : List DV) : (nmbd ds).length = ds.length := by unfold nmbd; rw [List.length_map, List.length_zipIdx]
theorem nmbd_get {ds : List DV} {i : Nat} {d : DV} (h : ds[i]? = some d) : (nmbd ds)[i]? = some (.tup [.int (i : Nat), d]) := by
  unfold nmbd
  rw [List.getElem?_map, List.getElem?_zipIdx, h]
  show some _ = some _
  rw [Nat.zero_add]
variable {elts : List Expr} {kk : Nat} {tpos : Pos}
def dIEnum (t : TDA) : TDI := fun δ G R => t δ G fun xs G1 => ∃ p ds, xs = [.ref p] ∧ Ls G1 p ds ∧ R (nmbd ds) (fun G => Ls G p ds) G1
theorem di_enum {a : Expr} {t : TDA} {p pos : Pos} (hm : X.mg "enumerate" = none) (hg : Gl X "enumerate") (ha : DA X [a] t) (hs : starEach [a] X.env = [(false, eval a X.env)] := by rfl) : DI X (.Tuple elts kk tpos) (.Call (.Name "enumerate" p) [a] [] pos) (dIEnum t) :=
  PI_mono (pi_enum hg hm ha hs) fun σ H R' ⟨δ, G, R, sl, w, q, f⟩ => ⟨δ, G, _, sl, w, q, fun ds G1 vs H1 ⟨p, xs, e, ls, q1⟩ t1 w1 r1 => by
    subst e
    cases r1 with
    | cons ra rb =>
      cases rb
      cases ra
      obtain ⟨us, s, r⟩ := wd_seq w1 ls
      refine ⟨p, us, rfl, s, f _ _ _ _ _ q1 t1 w1 ⟨fun i H2 G2 t2 w2 l2 hi => ?_, fun i H2 G2 x H3 t2 w2 l2 hi y => ?_, fun i H2 G2 t2 w2 l2 hi => ?_⟩⟩
      · rw [nmbd_len] at hi
        obtain ⟨ys, s2, r2⟩ := wd_seq w2 l2
        obtain ⟨x, hx, _⟩ := r2.get (List.getElem?_eq_getElem hi)
        exact ⟨ys, x, s2, hx⟩
      · obtain ⟨T, x, rfl, nT, rfl, y⟩ := y
        obtain ⟨ys, s2, r2⟩ := wd_seq w2 l2
        obtain ⟨d, hd, rd⟩ := r2.getV (y ys s2)
        have s' := same_new nT (.tup [.int (i : Nat), x])
        exact ⟨s', _, nmbd_get hd, .tup (SqT.of upd_same) (.cons (.int _) (.cons (rd.mono (.of s')) .nil))⟩
      · rw [nmbd_len] at hi
        obtain ⟨ys, s2, r2⟩ := wd_seq w2 l2
        exact ⟨ys, s2, by rw [r2.len]; exact Nat.le_of_eq hi.symm⟩⟩
/-- reversed of a list -/
def dIRev (t : TDA) : TDI := fun δ G R => t δ G fun xs G1 => ∃ p ds, xs = [.ref p] ∧ Ls G1 p ds ∧ R ds.reverse (fun G => Ls G p ds) G1
theorem rev_get {α : Type} {xs : List α} {i : Nat} (h : i < xs.length) : xs.reverse[i]? = xs[xs.length - 1 - i]? := List.getElem?_reverse h
theorem di_rev {a : Expr} {t : TDA} {p pos : Pos} (hm : X.mg "reversed" = none) (hg : Gl X "reversed") (ha : DA X [a] t) (hs : starEach [a] X.env = [(false, eval a X.env)] := by rfl) : DI X tg (.Call (.Name "reversed" p) [a] [] pos) (dIRev t) :=
  PI_mono (pi_reversed hg hm ha hs) fun σ H R' ⟨δ, G, R, sl, w, q, f⟩ => ⟨δ, G, _, sl, w, q, fun ds G1 vs H1 ⟨p, xs, e, ls, q1⟩ t1 w1 r1 => by
    subst e
    cases r1 with
    | cons ra rb =>
      cases rb
      cases ra
      obtain ⟨us, s, r⟩ := wd_seq w1 ls
      have lr := r.len
      refine ⟨p, us, rfl, s, f _ _ _ _ _ q1 t1 w1 ⟨fun i H2 G2 t2 w2 l2 hi => ?_, fun i H2 G2 x H3 t2 w2 l2 hi y => ?_, fun i H2 G2 t2 w2 l2 hi => ?_⟩⟩
      · rw [List.length_reverse] at hi
        obtain ⟨ys, s2, r2⟩ := wd_seq w2 l2
        obtain ⟨x, hx, _⟩ := r2.get (i := us.length - 1 - i) (List.getElem?_eq_getElem (by omega))
        exact ⟨by omega, ys, x, s2, hx⟩
      · obtain ⟨rfl, y⟩ := y
        rw [List.length_reverse] at hi
        obtain ⟨ys, s2, r2⟩ := wd_seq w2 l2
        obtain ⟨d, hd, rd⟩ := r2.getV (y ys s2)
        exact ⟨Same.refl _, d, by rw [rev_get hi, ← lr]; exact hd, rd⟩
      · rw [List.length_reverse] at hi
        show us.length ≤ i
        omega⟩
/-! ### for -/
def dFor (ti : TDI) (g : TDG) (tb : TDS) : TDS := fun D δ G => ti δ G fun ds st G1 => ∃ Pv : Nat → DSt → DG → Prop, Pv 0 δ G1 ∧ (∀ i δ G, Pv i δ G → st G) ∧
  (∀ i d δ G, ds[i]? = some d → Pv i δ G → g d δ G fun δ2 G2 => tb { D with nx := Pv (i + 1), ct := Pv (i + 1), bk := D.nx } δ2 G2) ∧ (∀ δ G, Pv ds.length δ G → D.nx δ G)
theorem ds_for {iter : Expr} {body : List Stmt} {ti : TDI} {g : TDG} {tb : TDS} {pos : Pos} (hp : PassesOwn (model X.prog X.w) X.A X.env X.xe) (hc : X.calm = true) (hi : DI X tg iter ti) (hg : DGt X tg g) (hb : DSs X body tb)
    (hs : ∀ x, foldedSetIterable iter X.env x = pure x := by intro _; rfl) : DS X (.For tg iter body [] pos) (dFor ti g tb) := by
  refine PS_mono (ps_for hp hc hi hg hb hs) fun D σ H ⟨D', δ, G, sl, w, l, h⟩ => ⟨δ, G, _, sl, w, h, fun ds st G1 H1 J ⟨Pv, p0, pst, ps, pd⟩ t1 w1 j => ?_⟩
  refine ⟨fun i m σ H2 => ∃ δ G, Pv i δ G ∧ TKs X.K H1 H2 ∧ Wd X.K H2 G ∧ Sl X.K H2 σ δ ∧ i ≤ ds.length ∧ m = ds.length - i, ⟨_, δ, G1, p0, TKs.refl _, w1, sl.mono t1, Nat.zero_le _, rfl⟩, ?_⟩
  rintro i m σ2 H2 ⟨δ2, G2, p2, t2, w2, sl2, hi2, rfl⟩
  by_cases hlt : i < ds.length
  · refine .inr ⟨j.go i H2 G2 t2 w2 (pst _ _ _ p2) hlt, fun σ3 H3 => ∃ δ G, Pv (i + 1) δ G ∧ TKs X.K H1 H3 ∧ Wd X.K H3 G ∧ Sl X.K H3 σ3 δ, fun σ3 H3 ⟨δ3, G3, p3, t3, w3, sl3⟩ => ⟨_, by omega, δ3, G3, p3, t3, w3, sl3, hlt, rfl⟩, fun x H3 y => ?_⟩
    obtain ⟨s3, d, hd, rd⟩ := j.yld i H2 G2 x H3 t2 w2 (pst _ _ _ p2) hlt y
    have t3 := TKs.of (K := X.K) s3
    refine ⟨d, δ2, G2, _, rd, sl2.mono t3, w2.same s3, ps i d δ2 G2 hd p2, fun δ4 G4 σ4 H4 q4 t4 w4 sl4 => ⟨{ D' with nx := Pv (i + 1), ct := Pv (i + 1), bk := D'.nx }, δ4, G4, sl4, w4, ?_, q4⟩⟩
    have t14 := t2.trans (t3.trans t4)
    have t04 := t1.trans t14
    exact ⟨fun σ5 δ5 G5 H5 q5 t5 w5 sl5 => ⟨δ5, G5, q5, t14.trans t5, w5, sl5⟩, fun d5 G5 v5 H5 q5 t5 w5 r5 => l.rt _ _ _ _ q5 (t04.trans t5) w5 r5,
      fun σ5 δ5 G5 H5 q5 t5 w5 sl5 => l.nx _ _ _ _ q5 (t04.trans t5) w5 sl5, fun σ5 δ5 G5 H5 q5 t5 w5 sl5 => ⟨δ5, G5, q5, t14.trans t5, w5, sl5⟩⟩
  · have e : i = ds.length := by omega
    subst e
    exact .inl ⟨j.stop _ H2 G2 t2 w2 (pst _ _ _ p2) rfl, l.nx _ _ _ _ (pd _ _ p2) (t1.trans t2) w2 sl2⟩
/-! ### while -/
def dWhile (c : TDT) (tb : TDS) : TDS := fun D δ G => ∃ Pv : Nat → DSt → DG → Prop, (∃ m, Pv m δ G) ∧ ∀ m δ G, Pv m δ G →
  c δ G fun b G1 => if b = true then tb { D with nx := fun δ' G' => ∃ m', m' < m ∧ Pv m' δ' G', ct := fun δ' G' => ∃ m', m' < m ∧ Pv m' δ' G', bk := D.nx } δ G1 else D.nx δ G1
theorem ds_while {c : Expr} {body : List Stmt} {tc : TDT} {tb : TDS} {pos : Pos} (hp : PassesOwn (model X.prog X.w) X.A X.env X.xe) (hc : DT X c tc) (hb : DSs X body tb) : DS X (.While c body [] pos) (dWhile tc tb) := by
  refine PS_mono (ps_while hp hc hb) fun D σ H ⟨D', δ, G, sl, w, l, Pv, ⟨m0, p0⟩, step⟩ => ?_
  refine ⟨fun m σ H2 => ∃ δ G, Pv m δ G ∧ TKs X.K H H2 ∧ Wd X.K H2 G ∧ Sl X.K H2 σ δ, ⟨m0, δ, G, p0, TKs.refl _, w, sl⟩, ?_⟩
  rintro m σ2 H2 ⟨δ2, G2, p2, t2, w2, sl2⟩
  refine ⟨δ2, G2, _, sl2, w2, step m δ2 G2 p2, fun b G3 H3 q t3 w3 => ?_⟩
  have t23 := t2.trans t3
  cases b with
  | false => exact iteF (l.nx _ _ _ _ q t23 w3 (sl2.mono t3))
  | true =>
    refine iteT ⟨fun σ4 H4 => ∃ m', m' < m ∧ ∃ δ G, Pv m' δ G ∧ TKs X.K H H4 ∧ Wd X.K H4 G ∧ Sl X.K H4 σ4 δ, fun σ' H' ⟨m', lt, x⟩ => ⟨m', lt, x⟩, _, δ2, G3, sl2.mono t3, w3, ?_, q⟩
    exact ⟨fun σ5 δ5 G5 H5 ⟨m', lt, q5⟩ t5 w5 sl5 => ⟨m', lt, δ5, G5, q5, t23.trans t5, w5, sl5⟩, fun d5 G5 v5 H5 q5 t5 w5 r5 => l.rt _ _ _ _ q5 (t23.trans t5) w5 r5,
      fun σ5 δ5 G5 H5 q5 t5 w5 sl5 => l.nx _ _ _ _ q5 (t23.trans t5) w5 sl5, fun σ5 δ5 G5 H5 ⟨m', lt, q5⟩ t5 w5 sl5 => ⟨m', lt, δ5, G5, q5, t23.trans t5, w5, sl5⟩⟩
end
end DD
namespace DD
open PySem PySem.W L2 SX Cm
/-! ### comprehensions -/
def wipeD (δ : DSt) : List Nat → DSt
  | [] => δ
  | v :: vs => (wipeD δ vs).set v none
theorem Sl.wipe {K : Frag} {H : Hp} {σ : St} {δ : DSt} (h : Sl K H σ δ) : ∀ vs : List Nat, Sl K H (L2.wipe σ vs) (wipeD δ vs)
  | [] => h
  | v :: vs => (Sl.wipe h vs).unset v
theorem set_comm' {α : Type} : ∀ (σ : List α) (i j : Nat) (x y : α), i ≠ j → (σ.set i x).set j y = (σ.set j y).set i x
  | [], _, _, _, _, _ => rfl
  | a :: r, 0, 0, _, _, h => absurd rfl h
  | a :: r, 0, j + 1, _, _, _ => rfl
  | a :: r, i + 1, 0, _, _, _ => rfl
  | a :: r, i + 1, j + 1, x, y, h => by
    show a :: _ = a :: _
    rw [set_comm' r i j x y (fun z => h (by rw [z]))]
theorem set_set' {α : Type} : ∀ (σ : List α) (i : Nat) (x y : α), (σ.set i x).set i y = σ.set i y
  | [], _, _, _ => rfl
  | a :: r, 0, _, _ => rfl
  | a :: r, i + 1, x, y => by
    show a :: _ = a :: _
    rw [set_set' r i x y]
theorem wipe_out (i : Nat) (x : Option V) : ∀ (vs : List Nat) (σ : St), i ∉ vs → wipe (σ.set i x) vs = (wipe σ vs).set i x
  | [], _, _ => rfl
  | v :: vs, σ, h => by
    have h1 : i ≠ v := fun z => h (by rw [z]; exact List.mem_cons_self ..)
    have h2 : i ∉ vs := fun z => h (List.mem_cons_of_mem _ z)
    show (wipe (σ.set i x) vs).set v none = ((wipe σ vs).set v none).set i x
    rw [wipe_out i x vs σ h2, set_comm' _ _ _ _ _ h1]
theorem wipe_in (i : Nat) (x : Option V) : ∀ (vs : List Nat) (σ : St), i ∈ vs → wipe (σ.set i x) vs = wipe σ vs
  | [], _, h => nomatch h
  | v :: vs, σ, h => by
    show (wipe (σ.set i x) vs).set v none = (wipe σ vs).set v none
    by_cases hi : i ∈ vs
    · rw [wipe_in i x vs σ hi]
    · rw [wipe_out i x vs σ hi]
      have e : i = v := by
        rcases List.mem_cons.mp h with e | e
        · exact e
        · exact absurd e hi
      rw [e, set_set']
theorem wipe_wipe (σ : St) : ∀ vs : List Nat, wipe (wipe σ vs) vs = wipe σ vs := fun vs => by
  have go : ∀ (ws vs : List Nat), (∀ v ∈ ws, v ∈ vs) → wipe (wipe σ ws) vs = wipe σ vs := by
    intro ws
    induction ws with
    | nil => intro vs _; rfl
    | cons w ws ih =>
      intro vs h
      show wipe ((wipe σ ws).set w none) vs = _
      rw [wipe_in w none vs _ (h w (List.mem_cons_self ..)), ih vs fun v hv => h v (List.mem_cons_of_mem _ hv)]
  exact go vs vs fun v hv => hv
/-- a target of a comprehension: slots alone -/
abbrev TL := DV → DSt → (DSt → Prop) → Prop
def LT (K : Frag) (vs : List Nat) (g : TG) (ld : TL) : Prop := ∀ v d σ δ H R Q, RV K H v d → Sl K H σ δ → ld d δ R → (∀ σ2 δ2, Sl K H σ2 δ2 → wipe σ2 vs = wipe σ vs → R δ2 → Q σ2 H) → g v σ H Q
def l1 (i : Nat) : TL := fun d δ R => R (δ.set i (some d))
def l2 (i j : Nat) : TL := fun d δ R => ∃ a b, d = .tup [a, b] ∧ R ((δ.set i (some a)).set j (some b))
def l3 (i j k : Nat) : TL := fun d δ R => ∃ a b c, d = .tup [a, b, c] ∧ R (((δ.set i (some a)).set j (some b)).set k (some c))
theorem lt1 {K : Frag} {vs : List Nat} {i : Nat} (h : i ∈ vs) : LT K vs (gName i) (l1 i) := fun v d σ δ H R Q r sl q f => f _ _ (sl.set r i) (wipe_in i _ vs σ h) q
theorem lt2 {K : Frag} {vs : List Nat} {i j : Nat} (h : i ∈ vs) (h' : j ∈ vs) : LT K vs (gTup K 2 (gCons (gName i) (gCons (gName j) gNil))) (l2 i j) := fun v d σ δ H R Q r sl ⟨a, b, e, q⟩ f => by
  subst e
  obtain ⟨p, xs, rfl, s, r⟩ := r.tupD
  cases r with
  | cons ra r =>
    cases r with
    | cons rb r =>
      cases r
      exact ⟨p, _, rfl, s, rfl, _, _, rfl, _, _, rfl, rfl, f _ _ ((sl.set ra i).set rb j) (by rw [wipe_in j _ vs _ h', wipe_in i _ vs _ h]) q⟩
theorem lt3 {K : Frag} {vs : List Nat} {i j k : Nat} (h : i ∈ vs) (h' : j ∈ vs) (h'' : k ∈ vs) : LT K vs (gTup K 3 (gCons (gName i) (gCons (gName j) (gCons (gName k) gNil)))) (l3 i j k) := fun v d σ δ H R Q r sl ⟨a, b, c, e, q⟩ f => by
  subst e
  obtain ⟨p, xs, rfl, s, r⟩ := r.tupD
  cases r with
  | cons ra r =>
    cases r with
    | cons rb r =>
      cases r with
      | cons rc r =>
        cases r
        exact ⟨p, _, rfl, s, rfl, _, _, rfl, _, _, rfl, _, _, rfl, rfl, f _ _ (((sl.set ra i).set rb j).set rc k) (by rw [wipe_in k _ vs _ h'', wipe_in j _ vs _ h', wipe_in i _ vs _ h]) q⟩
def dYes : TDT := fun _ G Q => Q true G
/-- a comprehension: the list that is made stands at p; Pv by the turn, what is made so far, the store -/
def dLc (ti : TDI) (ld : TL) (tt : TDT) (te : TD) (vs : List Nat) : TD := fun δ G Q => ti δ G fun ds st G1 => ∀ p, G1 p = none → ∃ Pv : Nat → List DV → DG → Prop, Pv 0 [] (dupd G1 p (.lst [])) ∧ (∀ i acc G, Pv i acc G → st G) ∧
  (∀ i d acc G, ds[i]? = some d → Pv i acc G → ld d (wipeD δ vs) fun δ2 => tt δ2 G fun b G3 => if b = true then te δ2 G3 fun y G4 => G4 p = some (.lst acc) ∧ acc.length < sizeLine ∧ Pv (i + 1) (acc ++ [y]) (dupd G4 p (.lst (acc ++ [y]))) else Pv (i + 1) acc G3) ∧
  (∀ acc G, Pv ds.length acc G → Q (.ref p) G)
theorem lc_up {K : Frag} {ti : TDI} {g : TG} {ld : TL} {tt : TDT} {te : TD} {vs : List Nat} (lt : LT K vs g ld) {σ : St} {H : Hp} {Q : VK} (h : up K (dLc ti ld tt te vs) σ H Q) : tLc (upI K ti) g (upT K tt) (up K te) vs σ H Q := by
  obtain ⟨δ, G, R, sl, w, h, f⟩ := h
  refine ⟨δ, G, _, sl, w, h, fun ds st G1 H1 J q t1 w1 j p np => ?_⟩
  obtain ⟨Pv, p0, pst, ps, pd⟩ := q p (w1.free np)
  have s0 : Same H1 (upd H1 p (.lst [])) := same_new np _
  refine ⟨fun i m H2 => ∃ acc G, Pv i acc G ∧ TKs K H1 H2 ∧ Wd K H2 G ∧ i ≤ ds.length ∧ m = ds.length - i, ⟨_, [], _, p0, TKs.of s0, w1.new np fun O => ⟨[], upd_same, .nil⟩, Nat.zero_le _, rfl⟩, ?_⟩
  rintro i m H2 ⟨acc, G2, p2, t2, w2, hi, rfl⟩
  by_cases hlt : i < ds.length
  · refine .inr ⟨j.go i H2 G2 t2 w2 (pst _ _ _ p2) hlt, fun H3 => ∃ acc G, Pv (i + 1) acc G ∧ TKs K H1 H3 ∧ Wd K H3 G, fun H3 ⟨acc3, G3, p3, t3, w3⟩ => ⟨_, by omega, acc3, G3, p3, t3, w3, hlt, rfl⟩, fun x H3 y => ?_⟩
    obtain ⟨s3, d, hd, rd⟩ := j.yld i H2 G2 x H3 t2 w2 (pst _ _ _ p2) hlt y
    have t3 := TKs.of (K := K) s3
    have t13 := t2.trans t3
    have w3 := w2.same s3
    refine lt x d _ (wipeD δ vs) H3 _ _ rd (((sl.mono t1).mono t13).wipe vs) (ps i d acc G2 hd p2) fun σ4 δ4 sl4 e4 q4 => ⟨by rw [e4]; exact wipe_wipe σ vs, δ4, G2, _, sl4, w3, q4, fun b G5 H5 q5 t5 w5 => ?_⟩
    have t15 := t13.trans t5
    cases b with
    | false => exact iteF ⟨acc, G5, q5, t15, w5⟩
    | true =>
      refine iteT ⟨δ4, G5, _, sl4.mono t5, w5, q5, fun y G6 vy H6 ⟨e6, l6, q6⟩ t6 w6 r6 => ?_⟩
      obtain ⟨us, hu, ru⟩ := wd_list w6 e6
      obtain ⟨t7, w7⟩ := put_lst w6 e6 hu (ru.append (.cons r6 .nil))
      exact ⟨us, hu, by rw [ru.len]; exact l6, _, _, q6, (t15.trans t6).trans t7, w7⟩
  · have e : i = ds.length := by omega
    subst e
    exact .inl ⟨j.stop _ H2 G2 t2 w2 (pst _ _ _ p2) rfl, f _ _ _ _ (pd _ _ p2) (t1.trans t2) w2 (.ref p)⟩
section
variable {X : Cx}
theorem de_lc {elt tg iter : Expr} {ifs : List Expr} {scope : Scope} {own : List (Str × Nat)} {pos : Pos} {ti : TDI} {g : TG} {ld : TL} {tt : TDT} {te : TD} (lt : LT X.K (own.map (·.2)) g ld) (hc : X.calm = true) (hN : X.N.Nodup) (hi : DI X tg iter ti) (ok : BlkOk X.N X.env.scope scope own)
    (hg : ∀ (s : Shared) (H : Hp) (C : Addr) (cl : List (Str × Addr)) (fp : List Addr), PG (X.blk s H scope (compEnvC scope cl C X.env) fp) tg g) (ht : ∀ (s : Shared) (H : Hp) (C : Addr) (cl : List (Str × Addr)) (fp : List Addr), PTs (X.blk s H scope (compEnvC scope cl C X.env) fp) ifs (upT X.K tt))
    (he : ∀ (s : Shared) (H : Hp) (C : Addr) (cl : List (Str × Addr)) (fp : List Addr), PE (X.blk s H scope (compEnvC scope cl C X.env) fp) elt (up X.K te)) (hs : ∀ x, foldedSetIterable iter X.env x = pure x := by intro _; rfl) :
    DE X (.ListComp elt [⟨tg, iter, ifs, 0⟩] scope pos) (dLc ti ld tt te (own.map (·.2))) := PE_mono (pe_lc hc hN hi ok hg ht he hs) fun σ H Q h => lc_up lt h
theorem ds_setLc {i : Nat} {y : Str} {py : Pos} {elt tg iter : Expr} {ifs : List Expr} {scope : Scope} {own : List (Str × Nat)} {pos spos : Pos} {ti : TDI} {g : TG} {ld : TL} {tt : TDT} {te : TD} (lt : LT X.K (own.map (·.2)) g ld) (hc : X.calm = true) (hN : X.N.Nodup) (hy : X.N[i]? = some y) (hyl : X.env.scope.names.lookup y = some .local)
    (hsw : swapsWith (.ListComp elt [⟨tg, iter, ifs, 0⟩] scope pos) (some (.Name y py)) spos.line X.env = pure true) (hi : DI X tg iter ti) (ok : BlkOk X.N X.env.scope scope own)
    (hg : ∀ (s : Shared) (H : Hp) (C : Addr) (cl : List (Str × Addr)) (fp : List Addr), PG (X.blk s H scope (compEnvC scope cl C X.env) fp) tg g) (ht : ∀ (s : Shared) (H : Hp) (C : Addr) (cl : List (Str × Addr)) (fp : List Addr), PTs (X.blk s H scope (compEnvC scope cl C X.env) fp) ifs (upT X.K tt))
    (he : ∀ (s : Shared) (H : Hp) (C : Addr) (cl : List (Str × Addr)) (fp : List Addr), PE (X.blk s H scope (compEnvC scope cl C X.env) fp) elt (up X.K te)) (hs : ∀ x, foldedSetIterable iter X.env x = pure x := by intro _; rfl) :
    DS X (.Assign [.Name y py] (.ListComp elt [⟨tg, iter, ifs, 0⟩] scope pos) spos) (dAsg (dLc ti ld tt te (own.map (·.2))) (gN i)) := PS_mono (ps_setLc hc hN hy hyl hsw hi ok hg ht he hs) fun D σ H ⟨D', δ, G, sl, w, l, h⟩ => by
  refine lc_up lt (Q := fun v H1 => gName i v σ H1 D.nx) ⟨δ, G, _, sl, w, h, fun d G1 v H1 q t1 w1 r1 => ?_⟩
  exact l.nx _ _ _ _ q t1 w1 ((sl.mono t1).set r1 i)
theorem dts_nil : PTs X [] (upT X.K dYes) := ⟨fun pins s σ H Q I ⟨δ, G, R, sl, w, h, f⟩ => pts_nil.run pins s σ H Q I (f _ _ _ h (TKs.refl H) w)⟩
theorem dts_one {c : Expr} {t : TDT} (h : DT X c t) : PTs X [c] (upT X.K t) := pts_one h
end
/-- elements that leave the store as it is -/
theorem lc_pure {ds : List DV} {st : DG → Prop} {ld : TL} {tt : TDT} {te : TD} {vs : List Nat} {δ : DSt} {G1 : DG} {Q : DK} (f : DV → Option DV) (hsc : ∀ p o, G1 p = none → st (dupd G1 p o)) (hl : ds.length ≤ 1000000)
    (h : ∀ d ∈ ds, ∀ (G : DG) (k1 : DK) (k0 : DG → Prop), (∃ p acc, G1 p = none ∧ G = dupd G1 p (.lst acc)) → (∀ y, f d = some y → k1 y G) → (f d = none → k0 G) →
      ld d (wipeD δ vs) fun δ2 => tt δ2 G fun b G3 => if b = true then te δ2 G3 k1 else k0 G3)
    (q : ∀ p, G1 p = none → Q (.ref p) (dupd G1 p (.lst (ds.filterMap f)))) :
    ∀ p, G1 p = none → ∃ Pv : Nat → List DV → DG → Prop, Pv 0 [] (dupd G1 p (.lst [])) ∧ (∀ i acc G, Pv i acc G → st G) ∧
      (∀ i d acc G, ds[i]? = some d → Pv i acc G → ld d (wipeD δ vs) fun δ2 => tt δ2 G fun b G3 => if b = true then te δ2 G3 fun y G4 => G4 p = some (.lst acc) ∧ acc.length < sizeLine ∧ Pv (i + 1) (acc ++ [y]) (dupd G4 p (.lst (acc ++ [y]))) else Pv (i + 1) acc G3) ∧
      (∀ acc G, Pv ds.length acc G → Q (.ref p) G) := by
  intro p np
  refine ⟨fun i acc G => acc = (ds.take i).filterMap f ∧ i ≤ ds.length ∧ G = dupd G1 p (.lst acc), ⟨rfl, Nat.zero_le _, rfl⟩, fun i acc G ⟨_, _, e⟩ => by rw [e]; exact hsc p _ np, ?_, ?_⟩
  · rintro i d acc G hd ⟨ea, hi, rfl⟩
    have hlt : i < ds.length := (List.getElem?_eq_some_iff.mp hd).1
    have et : ds.take (i + 1) = ds.take i ++ [d] := by rw [List.take_add_one, hd]; rfl
    have la : acc.length ≤ i := by rw [ea]; exact Nat.le_trans (List.length_filterMap_le _ _) (by rw [List.length_take]; omega)
    refine h d (List.mem_of_getElem? hd) _ _ _ ⟨p, acc, np, rfl⟩ (fun y hf => ?_) (fun hf => ?_)
    · refine ⟨dupd_same, midlt (by omega), ?_, hlt, dupd_dupd⟩
      rw [et, List.filterMap_append, ← ea]
      show acc ++ [y] = acc ++ List.filterMap f [d]
      rw [List.filterMap_cons_some hf]; rfl
    · refine ⟨?_, hlt, rfl⟩
      rw [et, List.filterMap_append, ← ea, List.filterMap_cons_none hf, List.filterMap_nil, List.append_nil]
  · rintro acc G ⟨ea, _, rfl⟩
    rw [ea, List.take_length]
    exact q p np
end DD
namespace DD
open PySem PySem.W L2 SX Cm
/-! ### defs -/
abbrev DSp := List DV → DG → DK → Prop
def toSp (K : Frag) (n : Nat) (dsp : DSp) : Sp := fun vs H Q _ => ∃ ds G R, RVs K H vs ds ∧ Wd K H G ∧ ds.length = n ∧ dsp ds G R ∧ Fin K H R Q
theorem _root_.PySem.W.L2.Fun.look {K : Frag} {x qual : Str} {st : Stmt} {f : Addr} {fd : FuncData} (F : Fun K x qual st f fd) : ∃ oc od osl, K.lookup f = some ⟨oc, od, .func fd, osl⟩ := by
  obtain ⟨oc, od, kV, doc, pm, an, cdv, ct, osl, rfl, lk, _⟩ := F.ex
  exact ⟨oc, od, osl, lk⟩
/-- the def nm keeps a promise about data, by level k -/
def Has (P : Program) (w : World) (K : Frag) (mg : Str → Option Value) (base : Heap) (k : Nat) (nm : Str) (ps : List Str) (dsp : DSp) : Prop :=
  ∃ f fd, FnOk P w K mg base CX0 k f fd ps (toSp K ps.length dsp) ∧ L2.Binds K fd ps [] ∧ keepIn K (.ref f) = true ∧ mg nm = some (.ref f) ∧ ∃ oc od osl, K.lookup f = some ⟨oc, od, .func fd, osl⟩
section
variable {P : Program} {w : World} {K : Frag} {mg : Str → Option Value} {base : Heap} {k : Nat} {nm : Str} {ps : List Str} {dsp : DSp}
theorem Has.mono {j : Nat} (h : Has P w K mg base k nm ps dsp) (l : k ≤ j) : Has P w K mg base j nm ps dsp := by
  obtain ⟨f, fd, a, b⟩ := h
  exact ⟨f, fd, a.mono l, b⟩
/-- many promises of one def -/
theorem Has.any {ι : Type} [ne : Nonempty ι] {d : ι → DSp} (h : ∀ i, Has P w K mg base k nm ps (d i)) : Has P w K mg base k nm ps (fun ds G R => ∃ i, d i ds G R) := by
  obtain ⟨i0⟩ := ne
  obtain ⟨f, fd, a, b, kp, m, oc, od, osl, lk⟩ := h i0
  have all : ∀ i, FnOk P w K mg base CX0 k f fd ps (toSp K ps.length (d i)) := fun i => by
    obtain ⟨f', fd', a', b', kp', m', oc', od', osl', lk'⟩ := h i
    rw [m] at m'
    cases m'
    rw [lk] at lk'
    cases lk'
    exact a'
  refine ⟨f, fd, ⟨fun vs H Q E ⟨ds, G, R, r, w, l, ⟨i, h⟩, f⟩ => (all i).len vs H Q E ⟨ds, G, R, r, w, l, h, f⟩, fun A outer s H args us vs Q E hr he hb hv ⟨ds, G, R, r, w, l, ⟨i, h⟩, f⟩ => (all i).run A outer s H args us vs Q E hr he hb hv ⟨ds, G, R, r, w, l, h, f⟩⟩, b, kp, m, oc, od, osl, lk⟩
theorem Has.imp {dsp' : DSp} (h : Has P w K mg base k nm ps dsp) (i : ∀ ds G R, dsp' ds G R → dsp ds G R) : Has P w K mg base k nm ps dsp' := by
  obtain ⟨f, fd, a, b⟩ := h
  exact ⟨f, fd, a.imp fun vs H Q E ⟨ds, G, R, r, w, l, h, f⟩ => ⟨ds, G, R, r, w, l, i ds G R h, f⟩, b⟩
end
section
variable {X : Cx} {k : Nat} {nm : Str} {ps : List Str} {dsp : DSp} {e : Expr} {es : List Expr} {ts : TDA} {p pos : Pos}
def dCall (n : Nat) (dsp : DSp) (t : TDA) : TD := fun δ G Q => t δ G fun ds G1 => ds.length = n ∧ dsp ds G1 Q
theorem de_call (h : Has X.prog X.w X.K X.mg X.base k nm ps dsp) (hr : Room k X.A) (hg : Gl X nm) (ha : DA X (e :: es) ts) (hdb : (nm == ("__debug__" : Str)) = false := by decide) (he : starEach (e :: es) X.env = (false, eval e X.env) :: starEach es X.env := by rfl) (hpl : (backTo pos (starEach es X.env)).any (·.1) = false := by rfl) :
    DE X (.Call (.Name nm p) (e :: es) [] pos) (dCall ps.length dsp ts) := by
  obtain ⟨f, fd, F, b, kp, m, _⟩ := h
  refine PE_mono (pe_call F hr hg m kp b .nil (pass0 (X := X)) ha hdb he hpl) fun σ H Q ⟨δ, G, R, sl, w, h, f⟩ => ⟨δ, G, _, sl, w, h, fun ds G1 vs H1 h1 t1 w1 r1 => ?_⟩
  show toSp X.K ps.length dsp (vs ++ []) H1 Q E0
  rw [List.append_nil]
  exact ⟨ds, G1, R, r1, w1, h1.1, h1.2, f.step t1⟩
end
def dstart (N : List Str) (ds : List DV) : DSt := ds.map some ++ List.replicate (N.length - ds.length) none
theorem Sl.nones {K : Frag} {H : Hp} : ∀ n : Nat, Sl K H (List.replicate n none) (List.replicate n none)
  | 0 => .nil
  | n + 1 => .non (Sl.nones n)
theorem Sl.somes {K : Frag} {H : Hp} {σ : St} {δ : DSt} (h : Sl K H σ δ) : ∀ {vs : List V} {ds : List DV}, RVs K H vs ds → Sl K H (vs.map some ++ σ) (ds.map some ++ δ)
  | _, _, .nil => h
  | _, _, .cons r t => .cons r (Sl.somes h t)
theorem sl_start {K : Frag} {H : Hp} {N : List Str} {vs : List V} {ds : List DV} (r : RVs K H vs ds) : Sl K H (L2.start N vs) (dstart N ds) := by
  unfold L2.start dstart
  rw [r.len]
  exact Sl.somes (Sl.nones _) r
/-- what is told of the store behind a def: less than is known -/
def Less (R : DK) : DK := fun d G => ∃ G', Sub G' G ∧ R d G'
theorem Less.of {R : DK} {d : DV} {G : DG} (h : R d G) : Less R d G := ⟨G, Sub.refl G, h⟩
section
variable {P : Program} {w : World} {K : Frag} {mg : Str → Option Value} {base : Heap}
theorem links_def {H : Hp} {R : DK} {Q : VK} (f : Fin K H R Q) : Links K H { nx := fun _ G => Less R .non G, rt := Less R } { nx := fun _ H' => Q .non H', rt := Q } :=
  ⟨fun σ δ G H' ⟨G', s, r⟩ t w sl => f _ G' _ H' r t (w.sub s) .non, fun d G v H' ⟨G', s, r⟩ t w rv => f _ G' _ H' r t (w.sub s) rv, fun _ _ _ _ h => h.elim, fun _ _ _ _ h => h.elim⟩
/-- a def by its body, over data -/
theorem has_mk {nm : Str} {st : Stmt} {f : Addr} {fd : FuncData} {N ps : List Str} {k : Nat} {dsp : DSp} (F : Fun K nm nm st f fd) (b : L2.Binds K fd ps []) (m : mg nm = some (.ref f)) (S : FnScope N ps (defScope st))
    (body : ∀ (cdv : Value) (A : Around) (outer : List Env) (s : Shared) (H : Hp) (E : XK), Room k (A.deeper (PyProof.Rows.envOfC nm (defScope st) s.heap.objs.size f cdv)) → ∀ ds G R, ds.length = ps.length → dsp ds G R →
      ∃ t, DSs (cxOf CX0 P w K mg base N nm (defScope st) f cdv A outer s H E).nox (defBody st) t ∧ t { nx := fun _ G => Less R .non G, rt := Less R } (dstart N ds) G) : Has P w K mg base (k + 1) nm ps dsp := by
  refine ⟨f, fd, F.ok S (fun vs H Q E h => ?_) (fun cdv A outer s H vs Q E hr h => ?_), b, F.kp, m, F.look⟩
  · obtain ⟨ds, G, R, r, w, l, _⟩ := h
    rw [r.len]; exact l
  · obtain ⟨ds, G, R, r, wd, l, h, fin⟩ := h
    obtain ⟨t, h1, h2⟩ := body cdv A outer s H E hr ds G R l h
    exact ⟨_, h1, _, _, G, sl_start r, wd, links_def fin, h2⟩
end
/-! ### things of which only something is known -/
theorem Wd.abs_keep {K : Frag} {H H' : Hp} {G : DG} {d : Addr} {L : List Addr} {φ : Hp → Prop} (w : Wd K H G) (e : G d = some (.abs L φ)) (kp : Kp L H H') (t : TKs K H H') (hφ : φ H') (hl : ∀ b ∈ L, ∃ xs, H' b = some (.lst xs)) : Wd K H' G := by
  obtain ⟨O, w⟩ := w
  obtain ⟨md, _, _, loc, ow⟩ := w.ob d _ e
  have nL : ∀ a o, G a = some o → a ≠ d → a ∉ L := fun a o ea ne m => by
    have := ow a m ne
    have := (w.own a d this).1
    rw [ea] at this; cases this
  have nO : ∀ b a, O b = some a → a ≠ d → b ∉ L := fun b a eb ne m => by
    by_cases hbd : b = d
    · have := (w.own b a eb).1
      rw [hbd, e] at this; cases this
    · have := ow b m hbd
      rw [eb] at this
      exact ne (Option.some.inj this)
  refine ⟨O, ⟨fun b a eb => ?_, fun a o ea => ?_⟩⟩
  · obtain ⟨h1, xs, h2⟩ := w.own b a eb
    by_cases had : a = d
    · by_cases hm : b ∈ L
      · exact ⟨h1, hl b hm⟩
      · exact ⟨h1, xs, kp b _ hm h2⟩
    · exact ⟨h1, xs, kp b _ (nO b a eb had) h2⟩
  · by_cases had : a = d
    · subst had
      rw [e] at ea
      cases ea
      exact ⟨md, hl a md, hφ, loc, ow⟩
    · refine OR.keep w t ea fun b hb => ?_
      obtain ⟨u, hu, nb⟩ : ∃ u, H b = some u ∧ b ∉ L := by
        rcases hb with rfl | hb
        · obtain ⟨u, hu⟩ := (w.ob _ o ea).some
          exact ⟨u, hu, nL _ o ea had⟩
        · obtain ⟨_, xs, h⟩ := w.own b a hb
          exact ⟨_, h, nO b a hb had⟩
      rw [hu, kp b u nb hu]
/-- nothing but one thing is known -/
theorem wd_one {K : Frag} {H : Hp} {d : Addr} {L : List Addr} {φ : Hp → Prop} (md : d ∈ L) (hφ : φ H) (hl : ∀ b ∈ L, ∃ xs, H b = some (.lst xs)) (loc : ∀ H1 H2, (∀ b ∈ L, H1 b = H2 b) → φ H1 → φ H2) : Wd K H (dupd (fun _ => none) d (.abs L φ)) := by
  refine ⟨fun b => if b ∈ L ∧ b ≠ d then some d else none, ⟨fun b a e => ?_, fun a o e => ?_⟩⟩
  · by_cases h : b ∈ L ∧ b ≠ d
    · exact ⟨dupd_ne h.2, hl b h.1⟩
    · rw [if_neg h] at e; cases e
  · by_cases had : a = d
    · subst had
      rw [dupd_same] at e
      cases e
      exact ⟨md, hl a md, hφ, loc, fun b hb hbd => if_pos ⟨hb, hbd⟩⟩
    · rw [dupd_ne had] at e; cases e
end DD
namespace PySem
open Sem (wp)
open AutoSeq1 (wpAny_loadPart')
/-- enumerate(v), v told by its iterator -/
theorem cm_meets_enum {v : Value} {o : Obj} {H : Heap → Prop} (B : Begins v o H) :
    Meets (Builtin.«enumerate.__new__» ⟨[.type "enumerate", v], []⟩) (fun _ R s => H s.heap ∧
      R (.ok (.ret (.ref (s.heap.push o).objs.size))) { s with heap := (s.heap.push o).push { cls := .type "enumerate", data := .fields #[.none, .bool false, .ref s.heap.objs.size, rawInt 0, .none, .none] } }) :=
  .of_wp fun prog w A R s h => by
    obtain ⟨hp, g, d, tk, os⟩ := s; obtain ⟨h1, h⟩ := h
    have hsub := sub_enumerate
    have q1 : ∀ {A' : Around} {E : Value → Shared → Prop} {Q : Value → Shared → Prop}, Q (.ref hp.objs.size) ⟨hp.push o, g, d, tk, os⟩ → wpAny (model prog w) A' (pyIter v) Q E ⟨hp, g, d, tk, os⟩ :=
      fun q => B.iter prog w _ _ ⟨hp, g, d, tk, os⟩ _ h1 q
    wp_walk using q1
    refine wpAny_stack_any fun st => wpAny_pure ?_
    split
    · rename_i c _ _ _ _ _
      cases (c == Value.type "enumerate")
      · wp_walk using q1
        exact ⟨_, rfl, h⟩
      · wp_walk using q1
        exact ⟨_, rfl, h⟩
    · wp_walk using q1
      exact ⟨_, rfl, h⟩
theorem cm_call_enum {prog : Program} {w : World} {A : Around} {E : Value → Shared → Prop} {s : Shared} {v : Value} {o : Obj} {H : Heap → Prop} {Q : Value → Shared → Prop} (B : Begins v o H) (h1 : H s.heap)
    (h : ∀ h', IsEnum h' (s.heap.objs.size + 1) s.heap.objs.size 0 .none → h'.get? s.heap.objs.size = some o → h'.objs.size = s.heap.objs.size + 2 →
      (∀ b o, s.heap.get? b = some o → h'.get? b = some o) → Q (.ref (s.heap.objs.size + 1)) { s with heap := h' }) :
    wpAny (model prog w) A (call (.type "enumerate") [v]) Q E s := by
  refine callType_new F.called_enumerate (by decide) (F.typeCall_enumerate_1 _) (F.newCall_enumerate_1 _) (fun obj => F.args_object_init_2 obj _) F.entry_enumerate_new
    (cm_meets_enum B) ⟨h1, ?_⟩
  have hz : (s.heap.push o).objs.size = s.heap.objs.size + 1 := Heap.size_push ..
  show _ ∧ _
  rw [hz]
  have he : IsEnum ((s.heap.push o).push { cls := .type "enumerate", data := .fields #[.none, .bool false, .ref s.heap.objs.size, rawInt 0, .none, .none] }) (s.heap.objs.size + 1) s.heap.objs.size 0 .none := by
    have := Heap.get?_push_size (s.heap.push o) (o := { cls := .type "enumerate", data := .fields #[.none, .bool false, .ref s.heap.objs.size, rawInt 0, .none, .none] }) rfl
    rw [hz] at this; exact this
  refine ⟨⟨_, he, rfl⟩, h _ he (Heap.get?_push_of_some _ (Heap.get?_push_size _ B.free)) (by rw [Heap.size_push, hz]) fun b o x => Heap.get?_push_of_some _ (Heap.get?_push_of_some _ x)⟩
end PySem
namespace DD
open PySem PySem.W L2 SX Cm PyProof.Rows
def IteT (K : PySem.W.Frag) (a : Addr) : It :=
  ⟨fun i H => ∃ (xs : List V) (x : V), SqT K H a xs ∧ xs[i]? = some x, fun i H v H' => ∃ T x, v = .ref T ∧ H T = none ∧ H' = upd H T (.tup [.int (i : Nat), x]) ∧ ∀ xs, SqT K H a xs → xs[i]? = some x, fun i H => ∃ xs : List V, SqT K H a xs ∧ xs.length = i⟩
theorem turn_enumT {P : Program} {w : World} {K : PySem.W.Frag} {elts : List Expr} {kk : Nat} {tpos : Pos} (a e it : Addr) :
    Turn P w K (.Tuple elts kk tpos) (IteT K a) [e, it] e (fun i h => (∃ old, IsEnum h e it ((i : Nat) : Int) old) ∧ h.IsTupleIter it a i ∧ e ≠ it) where
  mem := by simp
  obj := fun i h st b hb => by
    obtain ⟨⟨old, he⟩, ⟨o, ho, hc, hd⟩, _⟩ := st
    have e' : b = e ∨ b = it := by simpa using hb
    rcases e' with z | z
    · rw [z]; exact ⟨_, he, fun v q => nomatch q⟩
    · rw [z]; exact ⟨o, ho, fun v q => by rw [hd] at q; cases q⟩
  keep := fun i h h' st k => let ⟨⟨old, he⟩, hi, hne⟩ := st; ⟨⟨old, k e (by simp) _ he⟩, hi.at fun o q => k it (by simp) o q, hne⟩
  item := by
    intro X hP hw hK hc i pins s σ H E I hf st hg
    subst hP hw hK
    obtain ⟨⟨old, he⟩, hit, hne⟩ := st
    obtain ⟨xs, x, hq, hx⟩ := hg
    obtain ⟨its, rv, p, hz⟩ := I.tuple hq
    obtain ⟨u, hu, ru⟩ := rv.get hx
    have ht : s.heap.IsTuple a its.toArray := p
    have hel : e < s.heap.objs.size := Heap.lt_size he
    have hil : it < s.heap.objs.size := by obtain ⟨_, q, _⟩ := hit; exact Heap.lt_size q
    have nai : a ≠ it := fun z => by
      obtain ⟨o, ho, hc', hd⟩ := hit
      obtain ⟨o2, ho2, hc2, n2, hd2⟩ := ht
      rw [z, ho] at ho2
      cases ho2
      rw [hd] at hd2; cases hd2
    have nae : e ∉ [it, a] := fun z => by
      rcases List.mem_cons.mp z with z | z
      · exact hne z
      · rw [List.mem_singleton.mp z] at he
        obtain ⟨o2, ho2, hc2, n2, hd2⟩ := ht
        have he' := he
        unfold IsEnum at he'
        rw [ho2] at he'
        cases Option.some.inj he'
        cases hd2
    have D := Draws.tuple (prog := X.prog) (w := X.w) (A := X.A.in1) (show X.A.in1.handled = none from I.ok.hd hc) it a nai its.toArray
    have hlt : i < its.toArray.size := by
      have := (List.getElem?_eq_some_iff.mp hu).1
      simpa using this
    refine wpAny_pyNext_enum_itemD D he ⟨hit, ht⟩ hlt hne nae fun x' h' tk px ho st' hT hsz hk => ?_
    have ex : x' = u := by
      have : its.toArray[i]? = some x' := px
      rw [List.getElem?_toArray, hu] at this
      exact (Option.some.inj this).symm
    subst ex
    refine ⟨_, rfl, wpAny_letOwnedTupleGo_enum (s := { s with heap := h', toks := tk + 1 }) ho fun h'' he' sb => ?_⟩
    have hT2 : h''.get? s.heap.objs.size = some { cls := .type "tuple", data := .seq #[.int i tk, x'] } := (sb.2 _ (Nat.ne_of_gt hel)).trans hT
    have new : ObjOk X.prog X.w (upd H s.heap.objs.size (.tup [.int (i : Nat), x])) h'' s.heap.objs.size (.tup [.int (i : Nat), x]) :=
      ⟨by show 2 ≤ sizeLine; decide, [.int i tk, x'], .cons ⟨_, rfl⟩ (.cons ru .nil), ⟨_, hT2, rfl, _, rfl⟩⟩
    have I1 : Inv X pins σ (upd H s.heap.objs.size (.tup [.int (i : Nat), x])) { s with heap := h'', toks := tk + 1 } :=
      I.turnedNew (ch := [e, it]) (fun b ob hb q => (sb.2 b (fun z => hb (by simp [z]))).trans (hk b ob (fun z => hb (by simp [z])) (fun z => hb (by simp [z])) q)) hf (Nat.le_refl _) new
    refine ⟨.ref s.heap.objs.size, _, I1, rfl, ⟨_, x, rfl, I.hok.fresh (Nat.le_refl _), rfl, fun ys hy => by rw [I.tuple_inj hy hq]; exact hx⟩, ⟨⟨x', ?_⟩, st'.1.at fun o q => (sb.2 it (Ne.symm hne)).trans q, hne⟩, fun b hb => ?_⟩
    · have e1 : ((i + 1 : Nat) : Int) = (i : Int) + 1 := by omega
      rw [e1]; exact he'
    · have hb' : b < s.heap.objs.size := by
        have e' : b = e ∨ b = it := by simpa using hb
        rcases e' with z | z
        · rw [z]; exact hel
        · rw [z]; exact hil
      rw [upd_ne (Nat.ne_of_lt hb')]
      exact (hf b hb).1
  done := by
    intro X hP hw hK hc i pins s σ H E I hf st hg
    subst hP hw hK
    obtain ⟨⟨old, he⟩, hit, hne⟩ := st
    obtain ⟨xs, hq, hx⟩ := hg
    obtain ⟨its, rv, p, hz⟩ := I.tuple hq
    have ht : s.heap.IsTuple a its.toArray := p
    obtain ⟨f0, f1, f2, f3, f4, f5⟩ := hf it (by simp)
    have hl := rv.length
    have nai : a ≠ it := fun z => by
      obtain ⟨o, ho, hc', hd⟩ := hit
      obtain ⟨o2, ho2, hc2, n2, hd2⟩ := ht
      rw [z, ho] at ho2
      cases ho2
      rw [hd] at hd2; cases hd2
    have D := Draws.tuple (prog := X.prog) (w := X.w) (A := X.A.in1) (show X.A.in1.handled = none from I.ok.hd hc) it a nai its.toArray
    have en : i = its.toArray.size := by simp; omega
    refine wpAny_pyNext_enum_endD D he (by rw [← en]; exact ⟨hit, ht⟩) fun h' eb => ⟨rfl, I.turned (t' := s.toks) (fun b o hb q => eb b o hb q) f0 f1 f3 f4 f5⟩
  self := fun A i s Q E st h => let ⟨⟨_, he⟩, _⟩ := st; wpAny_pyIter_enum he h
def iEnumT (K : PySem.W.Frag) (ta : TA) : TI := fun σ H R => ta σ H fun vs H1 => ∃ a xs, vs = [.ref a] ∧ SqT K H1 a xs ∧ R (IteT K a) H1
theorem pi_enumT {X : Cx} {e : Expr} {ta : TA} {p pos tpos : Pos} {elts : List Expr} {kk : Nat} (hg : Gl X "enumerate") (hm : X.mg "enumerate" = none) (ha : PA X [e] ta) (hs : starEach [e] X.env = [(false, eval e X.env)] := by rfl) :
    PI X (.Tuple elts kk tpos) (.Call (.Name "enumerate" p) [e] [] pos) (iEnumT X.K ta) := by
  refine ⟨fun pins s σ H R I h => ?_⟩
  refine Call_ (ld_blt I hg hm boot_enumerate (PyProof.Rows.callWith_type1 (thn (ha.run pos pins s σ H _ I h) fun us s1 ⟨vs, H1, I1, r1, q1⟩ => ?_) hs rfl))
  obtain ⟨a, xs, ex, hq, q⟩ := q1
  subst ex
  cases r1 with
  | cons r rr =>
    cases rr
    cases r
    obtain ⟨its, rv, p', hz⟩ := I1.tuple hq
    refine cm_call_enum (begins_tuple a its.toArray) (show s1.heap.IsTuple a its.toArray from p') fun h' he hit hsz hk => wpAny_pyIter_enum he ?_
    have I2 : Inv X pins σ H1 { s1 with heap := h' } := I1.kept (t' := s1.toks) hk
    refine ⟨s1.heap.objs.size + 1, [s1.heap.objs.size + 1, s1.heap.objs.size], _, _, H1, rfl, I2, turn_enumT a (s1.heap.objs.size + 1) s1.heap.objs.size, ⟨⟨.none, he⟩, ⟨_, hit, rfl, rfl⟩, Nat.succ_ne_self _⟩, fun b hb => ?_, q⟩
    have e' : b = s1.heap.objs.size + 1 ∨ b = s1.heap.objs.size := by simpa using hb
    have hle : s1.heap.objs.size ≤ b := by
      rcases e' with z | z
      · rw [z]; exact Nat.le_add_right _ _
      · rw [z]; exact Nat.le_refl _
    exact I1.fpOk hle (I1.hok.fresh hle)
section
variable {X : Cx} {elts : List Expr} {kk : Nat} {tpos : Pos}
/-- enumerate of a tuple -/
def dIEnumT (t : TDA) : TDI := fun δ G R => t δ G fun xs G1 => ∃ ds, xs = [.tup ds] ∧ R (nmbd ds) (fun _ => True) G1
theorem di_enumT {a : Expr} {t : TDA} {p pos : Pos} (hm : X.mg "enumerate" = none) (hg : Gl X "enumerate") (ha : DA X [a] t) (hs : starEach [a] X.env = [(false, eval a X.env)] := by rfl) : DI X (.Tuple elts kk tpos) (.Call (.Name "enumerate" p) [a] [] pos) (dIEnumT t) :=
  PI_mono (pi_enumT hg hm ha hs) fun σ H R' ⟨δ, G, R, sl, w, q, f⟩ => ⟨δ, G, _, sl, w, q, fun ds G1 vs H1 ⟨xs, e, q1⟩ t1 w1 r1 => by
    subst e
    cases r1 with
    | cons ra rb =>
      cases rb
      obtain ⟨a, us, rfl, s, r⟩ := ra.tupD
      refine ⟨a, us, rfl, s, f _ _ _ _ _ q1 t1 w1 ⟨fun i H2 G2 t2 w2 l2 hi => ?_, fun i H2 G2 x H3 t2 w2 l2 hi y => ?_, fun i H2 G2 t2 w2 l2 hi => ?_⟩⟩
      · rw [nmbd_len] at hi
        obtain ⟨x, hx, _⟩ := r.get (List.getElem?_eq_getElem hi)
        exact ⟨us, x, t2 _ _ s, hx⟩
      · obtain ⟨T, x, rfl, nT, rfl, y⟩ := y
        obtain ⟨d, hd, rd⟩ := (r.mono t2).getV (y us (t2 _ _ s))
        have s' := same_new nT (.tup [.int (i : Nat), x])
        exact ⟨s', _, nmbd_get hd, .tup (SqT.of upd_same) (.cons (.int _) (.cons (rd.mono (.of s')) .nil))⟩
      · rw [nmbd_len] at hi
        exact ⟨us, t2 _ _ s, by rw [r.len]; exact hi.symm⟩⟩
end
end DD
namespace PySem.W
open PySem PySem.Calls PyProof.Rows
section
variable {prog : Program} {w : World} {A : Around} {E : Value → Shared → Prop} {s : Shared}
theorem cm_collect_tup {l : Addr} {vs : List Value} {Q : List Value → Shared → Prop} (hl : s.heap.IsTuple l vs.toArray)
    (h : Q vs { s with heap := (s.heap.push (seqObj "list" #[] 0)).update s.heap.objs.size (Obj.mapSeq (· ++ vs.toArray)) }) (hsz : vs.length ≤ sizeLine := by size_fits) :
    wpAny (model prog w) A (collect (.ref l)) Q E s := by
  obtain ⟨o, ho, hc, n, hd⟩ := id hl
  unfold collect
  refine wpAny_bind (wpAny_runValue (codeAny_builtin entry_proto_collect' ?_))
  show wpAny _ _ (do again (.builtin "list.__iadd__" ⟨[← newList [], .ref l], []⟩)) _ _ s
  refine wpAny_bind (wpAny_newList (wpAny_pure ⟨Code.quiet_builtin _ (by decide +kernel), codeAny_builtin entry_list_iadd' ?_⟩))
  show wpAny _ _ (Builtin.List.listExtendWith (.ref s.heap.objs.size) (.ref l) (.ref s.heap.objs.size)) _ _ { s with heap := s.heap.push (seqObj "list" #[] 0) }
  unfold Builtin.List.listExtendWith
  have ho' : (s.heap.push (seqObj "list" #[] 0)).get? l = some o := Heap.get?_push_of_some _ ho
  refine wpAny_bind (wpAny_typeOf (T := "tuple") ⟨o, ho', hc⟩ ?_)
  have ht : (Value.type "tuple" == Value.type "tuple") = true := by rfl
  rw [if_pos (by rw [ht]; simp)]
  refine wpAny_bind (listItems_at ho' hd ?_)
  refine wpAny_bind (listItems_at (xs := #[]) (n := 0) (Heap.get?_push_size _ rfl) rfl ?_)
  rw [if_neg (by simp)]
  refine wpAny_bind (listUpdate_at (xs := #[]) (n := 0) (Heap.get?_push_size _ rfl) rfl ?_ (Nat.zero_le _) (by show (#[] ++ vs.toArray).size ≤ sizeLine + 1; simp only [Array.size_append, List.size_toArray, List.length_nil]; omega))
  refine wpAny_pure ?_
  show wpAny (model prog w) A (do
      let o ← load s.heap.objs.size
      match o.data with
      | .seq xs _ => pure xs.toList
      | _ => unsupported "internal:collect") Q E { s with heap := (s.heap.push (seqObj "list" #[] 0)).update s.heap.objs.size (Obj.mapSeq (· ++ vs.toArray)) }
  refine wpAny_bind (wpAny_load (get?_update_seq (Heap.get?_push_size _ rfl) _) ?_)
  show wpAny _ _ (pure ((#[] : Array Value) ++ vs.toArray).toList) Q E _
  rw [show ((#[] : Array Value) ++ vs.toArray).toList = vs by simp]
  exact wpAny_pure h
theorem cm_sorted_of_sortT {l : Addr} {vs : List Value} {kw : List (Str × Value)} {Q : Value → Shared → Prop} (hl : s.heap.IsTuple l vs.toArray) (hL : vs.length ≤ sizeLine) (ha1 : argsOk "sorted" ⟨[.ref l], kw⟩) (ha2 : ∀ x, argsOk "list.sort" ⟨[.ref x], kw⟩)
    (body : ∀ E' : Value → Shared → Prop, wpAny (model prog w) A.in1.in1 (Builtin.«list.sort» ⟨[.ref (s.heap.objs.size + 1)], kw⟩) (fun f s' => f = .done (.ret .none) ∧ Q (.ref (s.heap.objs.size + 1)) s') E' { s with heap := copyHeap s.heap vs }) :
    wpAny (model prog w) A (call (.builtin "sorted") [.ref l] kw) Q E s := by
  refine call_function_entry_kw kind_sorted plain_sorted entry_sorted ha1 ?_
  unfold Builtin.«sorted»
  refine wpAny_bind (m := checkCount "sorted" 1 1 _) (wpAny_pure ?_)
  refine wpAny_bind (cm_collect_tup hl ?_ hL)
  refine wpAny_bind (wpAny_newList ?_ hL)
  have hsz : ((s.heap.push (seqObj "list" #[] 0)).update s.heap.objs.size (Obj.mapSeq (· ++ vs.toArray))).objs.size = s.heap.objs.size + 1 := by
    rw [Heap.size_update, size_push']
  show wpAny _ _ _ _ _ { s with heap := copyHeap s.heap vs }
  rw [hsz]
  refine wpAny_bind (wpAny_holding (wpAny_call_entry_kw slot_list_sort ⟨_, copyHeap_at s.heap vs, rfl⟩ entry_list_sort ?body (ha2 _)))
  case body =>
    show wpAny (model prog w) A.in1.in1 (Builtin.«list.sort» ⟨[.ref (s.heap.objs.size + 1)], kw⟩) _ _ _
    refine wpAny_mono (body _) (fun f s' hf => ?_) fun _ _ e => e
    obtain ⟨rfl, hq⟩ := hf
    exact ⟨_, rfl, wpAny_pure ⟨_, rfl, hq⟩⟩
theorem cm_sorted_dataT {β : Type} {vs : List Value} {bs : List β} {enc : β → PyData} {R : Value → β → Prop} {l : Addr} {Q : Value → Shared → Prop} (hl : s.heap.IsTuple l vs.toArray) (e : EachIs R vs bs) (er : EachIs (fun v b => ∃ as, Reads s.heap v (enc b) as) vs bs) (hal : AllAlike (bs.map enc)) (hk : Sortable (bs.map enc)) (hL : bs.length ≤ sizeLine)
    (hu : ∀ b, b ∈ bs → A.units + 2 + (enc b).depth < cLine) (h : ∀ out, out.length = bs.length → EachIs R out (bs.mergeSort (dataLe false enc)) → Q (.ref (s.heap.objs.size + 1)) { s with heap := sortedAll s.heap vs (List.toArray out) }) :
    wpAny (model prog w) A (call (.builtin "sorted") [.ref l]) Q E s := by
  have er' : EachIs (fun v b => ∃ as, Reads (sortingHeap (copyHeap s.heap vs) (s.heap.objs.size + 1) vs) v (enc b) as) vs bs := er.mono fun _ _ ⟨as, r⟩ => ⟨as, PyProof.Rows.Reads.keeps (fun _ _ => sorting_copy_old) r⟩
  have hL' : vs.length ≤ sizeLine := by rw [e.length]; exact hL
  exact cm_sorted_of_sortT hl hL' (args_sorted1 _) (fun _ => args_list_sort _) fun _ => list_sort_vals (s := { s with heap := copyHeap s.heap vs }) (copyHeap_at s.heap vs) (SortsAt.data (s := { s with heap := sortingHeap (copyHeap s.heap vs) (s.heap.objs.size + 1) vs }) (each_map (R := fun v d => ∃ as, Reads (sortingHeap (copyHeap s.heap vs) (s.heap.objs.size + 1) vs) v d as) enc er') hal hk (bound_map hu)) hL'
    ⟨rfl, h _ (by rw [sortVals_length false rfl]; exact e.length) (sortVals_data false e er' hal)⟩
end
end PySem.W
namespace DD
open PySem PySem.W L2 SX Cm PyProof.Rows
def plE (p : List Int) : PyData := .tuple (p.map .int)
theorem each_zip {vs : List Value} {bs : List (List Int)} : ∀ (h : vs.length = bs.length), EachIs (fun v (b : Value × List Int) => v = b.1) vs (vs.zip bs) := by
  induction vs generalizing bs with
  | nil => intro _; exact .nil
  | cons v r ih =>
    intro h
    cases bs with
    | nil => cases h
    | cons b s => exact .cons rfl (ih (by simpa using h))
theorem each_fst {out : List Value} {zs : List (Value × List Int)} (h : EachIs (fun v (b : Value × List Int) => v = b.1) out zs) : out = zs.map (·.1) := by
  induction h with
  | nil => rfl
  | cons r _ ih => rw [List.map_cons, ← r, ← ih]
/-- sorted of a tuple of places that rise already -/
def rSortT (K : Frag) : List V → Hp → VK → Prop := fun xs H Q => ∃ (a : Addr) (vs : List V) (pls : List (List Int)), xs = [.ref a] ∧ SqT K H a vs ∧ DpAll K H vs (pls.map plE) ∧ (∀ p ∈ pls, p ≠ []) ∧ pls.Pairwise (fun p q => ¬ q < p) ∧ ∀ r, H r = none → Q (.ref r) (upd H r (.lst vs))
theorem dpAll_len {K : Frag} {H : Hp} : ∀ {vs : List V} {ds : List PyData}, DpAll K H vs ds → vs.length = ds.length
  | _, _, .nil => rfl
  | _, _, .cons _ t => congrArg (· + 1) (dpAll_len t)
theorem readsAll_zip {h : Heap} : ∀ {us : List Value} {bs : List (List Int)} {as : List Addr}, ReadsAll h us (bs.map plE) as → EachIs (fun v (b : Value × List Int) => ∃ as, Reads h v (plE b.2) as) us (us.zip bs)
  | _, [], _, r => by cases r; exact .nil
  | _, b :: bs, _, r => by
    cases r with
    | cons r1 r2 => exact .cons ⟨_, r1⟩ (readsAll_zip r2)
theorem cr_sortT {X : Cx} (hu : X.A.units + 64 < cLine) : CallR X (.builtin "sorted") (rSortT X.K) := by
  intro pins s σ H vs us Q I r h
  obtain ⟨a, ws, pls, rfl, hs, hd, hne, hpw, q⟩ := h
  obtain ⟨its, rv, hl, hz⟩ := I.tuple hs
  rw [Vals.ref1 r]
  obtain ⟨as, hr⟩ := Dp.readsAll I _ _ its hd rv
  have l1 : its.length = pls.length := by
    have := dpAll_len hd
    rw [List.length_map] at this
    rw [← rv.length, this]
  have ezip : (its.zip pls).map (·.1) = its := List.map_fst_zip (by omega)
  have ezip2 : (its.zip pls).map (·.2) = pls := List.map_snd_zip (by omega)
  have al : ∀ x y : List Int, alike (plE x) (plE y) = true := fun x y => by
    show alike (.tuple (x.map .int)) (.tuple (y.map .int)) = true
    simp only [alike]
    exact alike_ints x y
  refine cm_sorted_dataT (bs := its.zip pls) (enc := fun b => plE b.2) (show s.heap.IsTuple a its.toArray from hl) (each_zip l1) (readsAll_zip hr) (AllAlike.of fun b b' => al _ _) (.inl fun d hm => ?_) ?_ (fun b hb => ?_) fun out ho he => ?_
  · obtain ⟨b, hb, rfl⟩ := List.mem_map.mp hm
    have hb2 : b.2 ∈ pls := by rw [← ezip2]; exact List.mem_map.mpr ⟨b, hb, rfl⟩
    cases hp : b.2 with
    | nil => exact absurd hp (hne _ hb2)
    | cons x r => exact ⟨.int x, r.map .int, by show PyData.tuple _ = _; rw [List.map_cons]⟩
  · rw [List.length_zip, l1, Nat.min_self, ← l1, ← rv.length]; exact hz
  · have : (plE b.2).depth = 1 := by
      show (PyData.tuple (b.2.map .int)).depth = 1
      simp only [PyData.depth, depth_ints]
    rw [this]; omega
  · have hsorted : (its.zip pls).mergeSort (dataLe false fun b => plE b.2) = its.zip pls := by
      refine List.mergeSort_of_pairwise ?_
      have : ((its.zip pls).map (·.2)).Pairwise (fun p q => ¬ q < p) := by rw [ezip2]; exact hpw
      rw [List.pairwise_map] at this
      refine this.imp fun {x y} hxy => ?_
      show (!dataLt (plE y.2) (plE x.2)) = true
      unfold plE
      rw [dataLt_tuple]
      show (!rowLt (y.2.map .int) (x.2.map .int)) = true
      rw [dataLt_ints, decide_eq_false hxy]; rfl
    rw [hsorted] at he
    have eo := each_fst he
    rw [ezip] at eo
    rw [eo]
    obtain ⟨ep, he'⟩ := PyProof.Rows.sortedAll_at s.heap its its.toArray
    exact ⟨.ref _, upd H (s.heap.objs.size + 1) (.lst ws), I.laid (t' := s.toks) (fun _ _ => PyProof.Rows.sortedAll_old) (Nat.le_succ _) ⟨hz, its, ep, rv, he'⟩, rfl, q _ (I.hok.fresh (Nat.le_succ _))⟩
def plD (p : List Int) : DV := .tup (p.map .int)
section
variable {X : Cx}
def bSortT : DC
  | [.tup ds], G, Q => ∃ pls : List (List Int), ds = pls.map plD ∧ (∀ p ∈ pls, p ≠ []) ∧ pls.Pairwise (fun p q => ¬ q < p) ∧ ∀ r, G r = none → Q (.ref r) (dupd G r (.lst ds))
  | _, _, _ => False
theorem pures_ints : ∀ p : List Int, pures (p.map DV.int) = true
  | [] => rfl
  | x :: r => by show (true && _) = true; rw [pures_ints r]; rfl
theorem pures_pl : ∀ ps : List (List Int), pures (ps.map plD) = true
  | [] => rfl
  | p :: r => by show (pures _ && _) = true; rw [pures_ints p, pures_pl r]; rfl
theorem dats_ints : ∀ p : List Int, dats (p.map DV.int) = p.map .int
  | [] => rfl
  | x :: r => by show PyData.int x :: _ = _; rw [dats_ints r]; rfl
theorem dats_pl : ∀ ps : List (List Int), dats (ps.map plD) = ps.map plE
  | [] => rfl
  | p :: r => by show PyData.tuple (dats (p.map DV.int)) :: dats (r.map plD) = _; rw [dats_ints p, dats_pl r]; rfl
theorem cd_sortT (hu : X.A.units + 64 < cLine) : CallD X (.builtin "sorted") bSortT := by
  refine ⟨_, cr_sortT hu, fun ds vs H G R Q r w h f => ?_⟩
  cases r with
  | nil => exact h.elim
  | cons rv rt =>
    cases rt with
    | cons _ _ => cases rv <;> exact h.elim
    | nil =>
      cases rv with
      | tup s r =>
        rename_i a xs ds
        obtain ⟨pls, rfl, h1, h2, q⟩ := h
        have hd := r.dp (pures_pl pls)
        rw [dats_pl] at hd
        refine ⟨a, xs, pls, rfl, s, hd, h1, h2, fun l nl => ?_⟩
        have s' := same_new nl (.lst xs)
        exact f _ _ _ _ (q l (w.free nl)) (TKs.of s') (w.new nl fun O => ⟨_, upd_same, r.mono (.of s')⟩) (.ref l)
      | _ => exact h.elim
end
end DD
namespace DD
open PySem PySem.W L2 SX Cm
/-- the names of built-ins are still theirs -/
structure BI (mg : Str → Option Value) : Prop where
  len : mg "len" = none
  isi : mg "isinstance" = none
  int : mg "int" = none
  str : mg "str" = none
  tup : mg "tuple" = none
  lst : mg "list" = none
  bool : mg "bool" = none
  dct : mg "dict" = none
  all : mg "all" = none
  any : mg "any" = none
  sum : mg "sum" = none
  sorted : mg "sorted" = none
  set : mg "set" = none
  range : mg "range" = none
  enum : mg "enumerate" = none
  zip : mg "zip" = none
  rev : mg "reversed" = none
/-- the def nm stands at its place -/
def At (K : Frag) (mg : Str → Option Value) (nm : Str) (st : Stmt) (ps : List Str) : Prop := ∃ f fd, Fun K nm nm st f fd ∧ L2.Binds K fd ps [] ∧ mg nm = some (.ref f)
section
variable {P : Program} {w : World} {K : Frag} {mg : Str → Option Value} {base : Heap}
theorem at_mk {nm : Str} {st : Stmt} {N ps : List Str} {k : Nat} {dsp : DSp} (a : At K mg nm st ps) (S : FnScope N ps (defScope st))
    (body : ∀ (f : Addr) (cdv : Value) (A : Around) (outer : List Env) (s : Shared) (H : Hp) (E : XK), Room k (A.deeper (PyProof.Rows.envOfC nm (defScope st) s.heap.objs.size f cdv)) → ∀ ds G R, ds.length = ps.length → dsp ds G R →
      ∃ t, DSs (cxOf CX0 P w K mg base N nm (defScope st) f cdv A outer s H E).nox (defBody st) t ∧ t { nx := fun _ G => Less R .non G, rt := Less R } (dstart N ds) G) : Has P w K mg base (k + 1) nm ps dsp := by
  obtain ⟨f, fd, F, b, m⟩ := a
  exact has_mk F b m S (body f)
/-- a promise about the heap gives one about data -/
theorem has_of {nm : Str} {st : Stmt} {ps : List Str} {k : Nat} {sp : Sp} {dsp : DSp} (a : At K mg nm st ps) (h : ∀ f fd, Fun K nm nm st f fd → FnOk P w K mg base CX0 k f fd ps sp) (i : ∀ vs H Q E, toSp K ps.length dsp vs H Q E → sp vs H Q E) : Has P w K mg base k nm ps dsp := by
  obtain ⟨f, fd, F, b, m⟩ := a
  exact ⟨f, fd, (h f fd F).imp i, b, F.kp, m, F.look⟩
end
section
variable {X : Cx}
theorem dv (i : Nat) {x : Str} {pos : Pos} (hN : X.N[i]? = some x := by rfl) (hv : Vis X.env.scope x := by first | exact Or.inl rfl | exact Or.inr (Or.inl rfl) | exact Or.inr (Or.inr rfl)) (hd : (x == ("__debug__" : Str)) = false := by decide)
    (hcd : (x == ("__classdict__" : Str)) = false := by decide) : DE X (.Name x pos) (dVar i) := de_var hN hv hd hcd
/-- reversed(range(n)) -/
def dIRevR (t : TDA) : TDI := fun δ G R => t δ G fun ds G1 => ∃ j : Int, ds = [.int j] ∧ 0 ≤ j ∧ j < 2 ^ 62 ∧ R (rng 0 j.toNat).reverse (fun _ => True) G1
theorem rngRev_get {n i : Nat} (h : i < n) : (rng 0 n).reverse[i]? = some (.int ((n : Int) - 1 - (i : Nat))) := by
  rw [List.getElem?_reverse (by rw [rng_len]; exact h), rng_len, rng_get (by omega)]
  congr 2
  omega
theorem di_revR {a : Expr} {te : TD} {tg : Expr} {p p2 pos pos2 : Pos} (hm : X.mg "reversed" = none) (hm2 : X.mg "range" = none) (hg : Gl X "reversed") (hg2 : Gl X "range") (ha : DE X a te) (hs : starEach [(.Call (.Name "range" p2) [a] [] pos2 : Expr)] X.env = (false, eval (.Call (.Name "range" p2) [a] [] pos2) X.env) :: starEach [] X.env := by rfl) (na : starEach [a] X.env = (false, eval a X.env) :: starEach [] X.env := by rfl) :
    DI X tg (.Call (.Name "reversed" p) [.Call (.Name "range" p2) [a] [] pos2] [] pos) (dIRevR (dCons te dNil)) := by
  refine PI_mono (pi_revR hg hm (prg_1 hg2 hm2 ha na) hs) fun σ H R' ⟨δ, G, R, sl, w, q, f⟩ => ⟨δ, G, _, sl, w, q, fun d G1 v H1 q1 t1 w1 r1 => ?_⟩
  obtain ⟨j, e, j0, j1, q1⟩ := q1
  cases e
  cases r1
  refine ⟨j, rfl, by omega, by omega, by omega, by omega, f _ _ _ _ _ q1 t1 w1 ⟨fun i H2 G2 t2 w2 l2 hi => ?_, fun i H2 G2 x H3 t2 w2 l2 hi y => ?_, fun i H2 G2 t2 w2 l2 hi => ?_⟩⟩
  · rw [List.length_reverse, rng_len] at hi
    show i < (j - 0).toNat
    omega
  · rw [List.length_reverse, rng_len] at hi
    obtain ⟨rfl, rfl⟩ := y
    refine ⟨Same.refl _, _, rngRev_get hi, ?_⟩
    have : (0 : Int) + (((j - 0).toNat : Nat) : Int) - 1 + (i : Nat) * (-1) = ((j.toNat : Nat) : Int) - 1 - (i : Nat) := by omega
    rw [this]
    exact .int _
  · rw [List.length_reverse, rng_len] at hi
    show (j - 0).toNat ≤ i
    omega
end
end DD
/-! things, words and rows as they are, and as data -/
namespace DD
open PySem PySem.W L2 SX Cm
theorem iT {A B : Prop} {c : Bool} (h : A) (hc : c = true := by rfl) : if c = true then A else B := by rw [if_pos hc]; exact h
theorem iF {A B : Prop} {c : Bool} (h : B) (hc : c = false := by rfl) : if c = true then A else B := by rw [if_neg (by rw [hc]; exact Bool.false_ne_true)]; exact h
theorem ly1 {i : Nat} {d : DV} {δ : DSt} {G : DG} {k : DSt → Bool → DG → Prop} (h : k (δ.set i (some d)) true G) : l1 i d δ (fun δ2 => dYes δ2 G (k δ2)) := h
theorem ly2 {i j : Nat} {a b : DV} {δ : DSt} {G : DG} {k : DSt → Bool → DG → Prop} (h : k ((δ.set i (some a)).set j (some b)) true G) : l2 i j (.tup [a, b]) δ (fun δ2 => dYes δ2 G (k δ2)) := ⟨a, b, rfl, h⟩
theorem lt1' {i : Nat} {d : DV} {δ : DSt} {k : DSt → Prop} (h : k (δ.set i (some d))) : l1 i d δ k := h
theorem Sub.at_ {G G' : DG} {p : Addr} {o : DO} (s : Sub G G') (h : G' p = some o) : Sub (dupd G p o) G' := fun a u e => by
  by_cases z : a = p
  · subst z; rw [dupd_same] at e; rw [h]; exact e
  · rw [dupd_ne z] at e; exact s a u e
theorem Sub.nonew {G G' : DG} {p : Addr} (s : Sub G G') (n : G' p = none) : G p = none := by
  cases e : G p with
  | none => rfl
  | some o => rw [s p o e] at n; cases n
theorem ne_some {G : DG} {a b : Addr} {o : DO} (h : G a = some o) (n : G b = none) : a ≠ b := fun z => by rw [z, n] at h; cases h
theorem sz0 : (0 : Nat) ≤ sizeLine := by decide
theorem sz1 : (1 : Nat) ≤ sizeLine := by decide
theorem sz2 : (2 : Nat) ≤ sizeLine := by decide
theorem sz3 : (3 : Nat) ≤ sizeLine := by decide
theorem sz4 : (4 : Nat) ≤ sizeLine := by decide
theorem sz6 : (6 : Nat) ≤ sizeLine := by decide
mutual
inductive Th where
  | num (n : Int)
  | row (ws : List Wo)
  | lst (ts : List Th)
inductive Wo where
  | txt (z : Str)
  | push (t : Th)
end
mutual
def eT : Th → DV
  | .num n => .tup [.str "number", .int n]
  | .row ws => .tup [.str "row", .tup (eWs ws)]
  | .lst ts => .tup [.str "list", .tup (eTs ts)]
def eW : Wo → DV
  | .txt z => .str z
  | .push t => .tup [.str "push", eT t]
def eWs : List Wo → List DV
  | [] => []
  | w :: r => eW w :: eWs r
def eTs : List Th → List DV
  | [] => []
  | t :: r => eT t :: eTs r
end
mutual
/-- how many parts in all -/
def szT : Th → Nat
  | .num _ => 1
  | .row ws => 1 + szWs ws
  | .lst ts => 1 + szTs ts
def szW : Wo → Nat
  | .txt _ => 1
  | .push t => 1 + szT t
def szWs : List Wo → Nat
  | [] => 0
  | w :: r => szW w + szWs r
def szTs : List Th → Nat
  | [] => 0
  | t :: r => szT t + szTs r
end
mutual
def dpT : Th → Nat
  | .num _ => 0
  | .row ws => 1 + dpWs ws
  | .lst ts => 1 + dpTs ts
def dpW : Wo → Nat
  | .txt _ => 0
  | .push t => dpT t
def dpWs : List Wo → Nat
  | [] => 0
  | w :: r => max (dpW w) (dpWs r)
def dpTs : List Th → Nat
  | [] => 0
  | t :: r => max (dpT t) (dpTs r)
end
mutual
/-- its texts are texts -/
def txT : Th → Bool
  | .num _ => true
  | .row ws => txWs ws
  | .lst ts => txTs ts
def txW : Wo → Bool
  | .txt z => PyData.strOk z
  | .push t => txT t
def txWs : List Wo → Bool
  | [] => true
  | w :: r => txW w && txWs r
def txTs : List Th → Bool
  | [] => true
  | t :: r => txT t && txTs r
end
theorem eWs_len : ∀ ws, (eWs ws).length = ws.length
  | [] => rfl
  | w :: r => congrArg (· + 1) (eWs_len r)
theorem eTs_len : ∀ ws, (eTs ws).length = ws.length
  | [] => rfl
  | w :: r => congrArg (· + 1) (eTs_len r)
theorem eWs_map : ∀ ws, eWs ws = ws.map eW
  | [] => rfl
  | w :: r => by show eW w :: eWs r = _; rw [eWs_map r]; rfl
theorem eTs_map : ∀ ws, eTs ws = ws.map eT
  | [] => rfl
  | w :: r => by show eT w :: eTs r = _; rw [eTs_map r]; rfl
theorem szW_pos : ∀ w, 1 ≤ szW w
  | .txt _ => Nat.le_refl 1
  | .push t => by show 1 ≤ 1 + _; omega
theorem szT_pos : ∀ t, 1 ≤ szT t
  | .num _ => Nat.le_refl 1
  | .row _ => by show 1 ≤ 1 + _; omega
  | .lst _ => by show 1 ≤ 1 + _; omega
theorem szWs_len : ∀ ws, ws.length ≤ szWs ws
  | [] => Nat.le_refl 0
  | w :: r => by have := szW_pos w; have := szWs_len r; show r.length + 1 ≤ szW w + szWs r; omega
theorem szTs_len : ∀ ws, ws.length ≤ szTs ws
  | [] => Nat.le_refl 0
  | w :: r => by have := szT_pos w; have := szTs_len r; show r.length + 1 ≤ szT w + szTs r; omega
theorem szWs_app : ∀ a b, szWs (a ++ b) = szWs a + szWs b
  | [], b => (Nat.zero_add _).symm
  | w :: r, b => by show szW w + szWs (r ++ b) = szW w + szWs r + szWs b; rw [szWs_app r b]; omega
theorem szTs_app : ∀ a b, szTs (a ++ b) = szTs a + szTs b
  | [], b => (Nat.zero_add _).symm
  | w :: r, b => by show szT w + szTs (r ++ b) = szT w + szTs r + szTs b; rw [szTs_app r b]; omega
theorem dpWs_app : ∀ a b, dpWs (a ++ b) = max (dpWs a) (dpWs b)
  | [], b => by show dpWs b = max 0 _; omega
  | w :: r, b => by show max (dpW w) (dpWs (r ++ b)) = max (max (dpW w) (dpWs r)) (dpWs b); rw [dpWs_app r b]; omega
theorem dpTs_app : ∀ a b, dpTs (a ++ b) = max (dpTs a) (dpTs b)
  | [], b => by show dpTs b = max 0 _; omega
  | w :: r, b => by show max (dpT w) (dpTs (r ++ b)) = max (max (dpT w) (dpTs r)) (dpTs b); rw [dpTs_app r b]; omega
theorem txWs_app : ∀ a b, txWs (a ++ b) = (txWs a && txWs b)
  | [], b => rfl
  | w :: r, b => by show (txW w && txWs (r ++ b)) = (txW w && txWs r && txWs b); rw [txWs_app r b, Bool.and_assoc]
theorem txTs_app : ∀ a b, txTs (a ++ b) = (txTs a && txTs b)
  | [], b => rfl
  | w :: r, b => by show (txT w && txTs (r ++ b)) = (txT w && txTs r && txTs b); rw [txTs_app r b, Bool.and_assoc]
/-- a row, a thing: not too deep, not too large, of texts -/
structure GW (k m : Nat) (ws : List Wo) : Prop where
  dp : dpWs ws ≤ k
  sz : szWs ws ≤ m
  tx : txWs ws = true
structure GT (k m : Nat) (t : Th) : Prop where
  dp : dpT t ≤ k
  sz : szT t ≤ m
  tx : txT t = true
structure GTs (k m : Nat) (ts : List Th) : Prop where
  dp : dpTs ts ≤ k
  sz : szTs ts ≤ m
  tx : txTs ts = true
theorem GW.nil {k m : Nat} : GW k m [] := ⟨Nat.zero_le _, Nat.zero_le _, rfl⟩
theorem GTs.nil {k m : Nat} : GTs k m [] := ⟨Nat.zero_le _, Nat.zero_le _, rfl⟩
theorem GW.app {k m m' : Nat} {a b : List Wo} (h : GW k m a) (g : GW k m' b) : GW k (m + m') (a ++ b) :=
  ⟨by rw [dpWs_app]; have := h.dp; have := g.dp; omega, by rw [szWs_app]; have := h.sz; have := g.sz; omega, by rw [txWs_app, h.tx, g.tx]; rfl⟩
theorem GTs.app {k m m' : Nat} {a b : List Th} (h : GTs k m a) (g : GTs k m' b) : GTs k (m + m') (a ++ b) :=
  ⟨by rw [dpTs_app]; have := h.dp; have := g.dp; omega, by rw [szTs_app]; have := h.sz; have := g.sz; omega, by rw [txTs_app, h.tx, g.tx]; rfl⟩
theorem GW.left {k m : Nat} {a b : List Wo} (h : GW k m (a ++ b)) : GW k m a := by
  obtain ⟨h1, h2, h3⟩ := h
  rw [dpWs_app] at h1; rw [szWs_app] at h2; rw [txWs_app, Bool.and_eq_true] at h3
  exact ⟨by omega, by omega, h3.1⟩
theorem GW.txt {k : Nat} {z : Str} (h : PyData.strOk z = true) : GW k 1 [.txt z] := ⟨by show max 0 0 ≤ k; omega, Nat.le_refl 1, by show (PyData.strOk z && true) = true; rw [h]; rfl⟩
theorem GW.push {k m : Nat} {t : Th} (h : GT k m t) : GW k (m + 1) [.push t] := ⟨by show max (dpT t) 0 ≤ k; have := h.dp; omega, by show 1 + szT t + 0 ≤ m + 1; have := h.sz; omega, by show (txT t && true) = true; rw [h.tx]; rfl⟩
theorem GTs.one {k m : Nat} {t : Th} (h : GT k m t) : GTs k m [t] := ⟨by show max (dpT t) 0 ≤ k; have := h.dp; omega, by show szT t + 0 ≤ m; have := h.sz; omega, by show (txT t && true) = true; rw [h.tx]; rfl⟩
theorem GT.num {k m : Nat} (n : Int) (hm : 1 ≤ m) : GT k m (.num n) := ⟨Nat.zero_le _, hm, rfl⟩
theorem GT.row {k m : Nat} {ws : List Wo} (h : GW k m ws) : GT (k + 1) (m + 1) (.row ws) := ⟨by show 1 + dpWs ws ≤ _; have := h.dp; omega, by show 1 + szWs ws ≤ _; have := h.sz; omega, h.tx⟩
theorem GT.lst {k m : Nat} {ts : List Th} (h : GTs k m ts) : GT (k + 1) (m + 1) (.lst ts) := ⟨by show 1 + dpTs ts ≤ _; have := h.dp; omega, by show 1 + szTs ts ≤ _; have := h.sz; omega, h.tx⟩
theorem GT.up {k m k' m' : Nat} {t : Th} (h : GT k m t) (hk : k ≤ k') (hm : m ≤ m') : GT k' m' t := ⟨Nat.le_trans h.dp hk, Nat.le_trans h.sz hm, h.tx⟩
theorem GW.up {k m k' m' : Nat} {t : List Wo} (h : GW k m t) (hk : k ≤ k') (hm : m ≤ m') : GW k' m' t := ⟨Nat.le_trans h.dp hk, Nat.le_trans h.sz hm, h.tx⟩
theorem GTs.up {k m k' m' : Nat} {t : List Th} (h : GTs k m t) (hk : k ≤ k') (hm : m ≤ m') : GTs k' m' t := ⟨Nat.le_trans h.dp hk, Nat.le_trans h.sz hm, h.tx⟩
/-! comparing them -/
theorem ok_number : PyData.strOk "number" = true := by decide +kernel
theorem ok_row : PyData.strOk "row" = true := by decide +kernel
theorem ok_list : PyData.strOk "list" = true := by decide +kernel
theorem ok_push : PyData.strOk "push" = true := by decide +kernel
mutual
theorem eT_cmp : ∀ t, plain (eT t) = true ∧ dpt (eT t) ≤ 3 * dpT t + 1 ∧ (txT t = true → txB (eT t) = true)
  | .num n => ⟨rfl, by show 1 + max 0 (max 0 0) ≤ _; omega, fun _ => by show (PyData.strOk "number" && (true && true)) = true; rw [ok_number]; rfl⟩
  | .row ws => by
    obtain ⟨a, b, c⟩ := eWs_cmp ws
    refine ⟨by show (true && (plains (eWs ws) && true)) = true; rw [a]; rfl, by show 1 + max 0 (max (1 + dpts (eWs ws)) 0) ≤ 3 * (1 + dpWs ws) + 1; omega, fun h => ?_⟩
    show (PyData.strOk "row" && (txBs (eWs ws) && true)) = true
    rw [ok_row, c h]; rfl
  | .lst ts => by
    obtain ⟨a, b, c⟩ := eTs_cmp ts
    refine ⟨by show (true && (plains (eTs ts) && true)) = true; rw [a]; rfl, by show 1 + max 0 (max (1 + dpts (eTs ts)) 0) ≤ 3 * (1 + dpTs ts) + 1; omega, fun h => ?_⟩
    show (PyData.strOk "list" && (txBs (eTs ts) && true)) = true
    rw [ok_list, c h]; rfl
theorem eW_cmp : ∀ w, plain (eW w) = true ∧ dpt (eW w) ≤ 3 * dpW w + 2 ∧ (txW w = true → txB (eW w) = true)
  | .txt z => ⟨rfl, by show 0 ≤ _; omega, fun h => h⟩
  | .push t => by
    obtain ⟨a, b, c⟩ := eT_cmp t
    refine ⟨by show (true && (plain (eT t) && true)) = true; rw [a]; rfl, by show 1 + max 0 (max (dpt (eT t)) 0) ≤ 3 * dpT t + 2; omega, fun h => ?_⟩
    show (PyData.strOk "push" && (txB (eT t) && true)) = true
    rw [ok_push, c h]; rfl
theorem eWs_cmp : ∀ ws, plains (eWs ws) = true ∧ dpts (eWs ws) ≤ 3 * dpWs ws + 2 ∧ (txWs ws = true → txBs (eWs ws) = true)
  | [] => ⟨rfl, Nat.zero_le _, fun _ => rfl⟩
  | w :: r => by
    obtain ⟨a, b, c⟩ := eW_cmp w
    obtain ⟨a', b', c'⟩ := eWs_cmp r
    refine ⟨by show (plain (eW w) && plains (eWs r)) = true; rw [a, a']; rfl, by show max (dpt (eW w)) (dpts (eWs r)) ≤ 3 * max (dpW w) (dpWs r) + 2; omega, fun h => ?_⟩
    have h' : (txW w && txWs r) = true := h
    rw [Bool.and_eq_true] at h'
    show (txB (eW w) && txBs (eWs r)) = true
    rw [c h'.1, c' h'.2]; rfl
theorem eTs_cmp : ∀ ws, plains (eTs ws) = true ∧ dpts (eTs ws) ≤ 3 * dpTs ws + 1 ∧ (txTs ws = true → txBs (eTs ws) = true)
  | [] => ⟨rfl, Nat.zero_le _, fun _ => rfl⟩
  | w :: r => by
    obtain ⟨a, b, c⟩ := eT_cmp w
    obtain ⟨a', b', c'⟩ := eTs_cmp r
    refine ⟨by show (plain (eT w) && plains (eTs r)) = true; rw [a, a']; rfl, by show max (dpt (eT w)) (dpts (eTs r)) ≤ 3 * max (dpT w) (dpTs r) + 1; omega, fun h => ?_⟩
    have h' : (txT w && txTs r) = true := h
    rw [Bool.and_eq_true] at h'
    show (txB (eT w) && txBs (eTs r)) = true
    rw [c h'.1, c' h'.2]; rfl
end
theorem mem_szW {w : Wo} : ∀ {ws : List Wo}, w ∈ ws → szW w ≤ szWs ws ∧ dpW w ≤ dpWs ws ∧ (txWs ws = true → txW w = true)
  | a :: r, h => by
    rcases List.mem_cons.mp h with rfl | h
    · refine ⟨by show szW w ≤ szW w + szWs r; omega, by show dpW w ≤ max (dpW w) (dpWs r); omega, fun g => ?_⟩
      have g' : (txW w && txWs r) = true := g
      rw [Bool.and_eq_true] at g'; exact g'.1
    · obtain ⟨x, y, z⟩ := mem_szW h
      refine ⟨by show szW w ≤ szW a + szWs r; omega, by show dpW w ≤ max (dpW a) (dpWs r); omega, fun g => ?_⟩
      have g' : (txW a && txWs r) = true := g
      rw [Bool.and_eq_true] at g'; exact z g'.2
theorem mem_szT {w : Th} : ∀ {ws : List Th}, w ∈ ws → szT w ≤ szTs ws ∧ dpT w ≤ dpTs ws ∧ (txTs ws = true → txT w = true)
  | a :: r, h => by
    rcases List.mem_cons.mp h with rfl | h
    · refine ⟨by show szT w ≤ szT w + szTs r; omega, by show dpT w ≤ max (dpT w) (dpTs r); omega, fun g => ?_⟩
      have g' : (txT w && txTs r) = true := g
      rw [Bool.and_eq_true] at g'; exact g'.1
    · obtain ⟨x, y, z⟩ := mem_szT h
      refine ⟨by show szT w ≤ szT a + szTs r; omega, by show dpT w ≤ max (dpT a) (dpTs r); omega, fun g => ?_⟩
      have g' : (txT a && txTs r) = true := g
      rw [Bool.and_eq_true] at g'; exact z g'.2
end DD
/-! readings gone through step by step: one rule for each head -/
namespace DD
open PySem PySem.W L2 SX Cm
section
variable {nx : DSt → DG → Prop} {rt : DK} {bk ct : DSt → DG → Prop} {δ : DSt} {G : DG} {t u : TDS} {Q : DK} {QB : Bool → DG → Prop} {QA : List DV → DG → Prop} {te ta tb tc : TD} {tt tu : TDT} {ts : TDA}
theorem w_next (h : nx δ G) : dNext ⟨nx, rt, bk, ct⟩ δ G := h
theorem w_seq (h : t ⟨u ⟨nx, rt, bk, ct⟩, rt, bk, ct⟩ δ G) : dSeq t u ⟨nx, rt, bk, ct⟩ δ G := h
theorem w_break (h : bk δ G) : dBreak ⟨nx, rt, bk, ct⟩ δ G := h
theorem w_cont (h : ct δ G) : dCont ⟨nx, rt, bk, ct⟩ δ G := h
theorem w_drop (h : te δ G fun _ G1 => nx δ G1) : dDrop te ⟨nx, rt, bk, ct⟩ δ G := h
theorem w_ret (h : te δ G rt) : dRet te ⟨nx, rt, bk, ct⟩ δ G := h
theorem w_retN (h : rt .non G) : dRetN ⟨nx, rt, bk, ct⟩ δ G := h
theorem w_ifS {c : TDT} (h : c δ G fun b G1 => if b = true then t ⟨nx, rt, bk, ct⟩ δ G1 else u ⟨nx, rt, bk, ct⟩ δ G1) : dIfS c t u ⟨nx, rt, bk, ct⟩ δ G := h
theorem w_asg {i : Nat} (h : te δ G fun d G1 => nx (δ.set i (some d)) G1) : dAsg te (gN i) ⟨nx, rt, bk, ct⟩ δ G := h
theorem w_asgS (h : te δ G fun v G1 => ta δ G1 fun o G2 => tb δ G2 fun i G3 => bSet o i v G3 fun G4 => nx δ G4) : dAsg te (gSb ta tb) ⟨nx, rt, bk, ct⟩ δ G := h
theorem w_par {i j : Nat} (h : ts δ G fun ds G1 => ∃ a b, ds = [a, b] ∧ nx ((δ.set i (some a)).set j (some b)) G1) : dPar i j ts ⟨nx, rt, bk, ct⟩ δ G := h
theorem w_parE {k : DV → DV → Prop} {a b : DV} (h : k a b) : ∃ a' b', [a, b] = [a', b'] ∧ k a' b' := ⟨a, b, rfl, h⟩
/-! expressions -/
theorem w_var {i : Nat} {d : DV} (h : δ[i]? = some (some d)) (q : Q d G) : dVar i δ G Q := ⟨d, h, q⟩
theorem w_c {d : DV} (q : Q d G) : dC d δ G Q := q
theorem w_op {b : D2} (h : ta δ G fun x G1 => tb δ G1 fun y G2 => b x y G2 Q) : dOp b ta tb δ G Q := h
theorem w_call {n : Nat} {sp : DSp} (h : ts δ G fun ds G1 => ds.length = n ∧ sp ds G1 Q) : dCall n sp ts δ G Q := h
theorem w_len {n : Nat} {ds : List DV} {A : Prop} (h : A) (e : ds.length = n := by rfl) : ds.length = n ∧ A := ⟨e, h⟩
theorem w_CB {b : DC} (h : ts δ G fun ds G1 => b ds G1 Q) : dCB b ts δ G Q := h
theorem w_tup (h : ts δ G fun ds G1 => ds.length ≤ sizeLine ∧ Q (.tup ds) G1) : dTup ts δ G Q := h
theorem w_lst (h : ts δ G fun ds G1 => ds.length ≤ sizeLine ∧ ∀ p, G1 p = none → Q (.ref p) (dupd G1 p (.lst ds))) : dLst ts δ G Q := h
theorem w_sz {ds : List DV} {A : Prop} (h : A) (e : ds.length ≤ sizeLine := by decide) : ds.length ≤ sizeLine ∧ A := ⟨e, h⟩
theorem w_nil (h : QA [] G) : dNil δ G QA := h
theorem w_cons (h : te δ G fun x G1 => ts δ G1 fun xs G2 => QA (x :: xs) G2) : dCons te ts δ G QA := h
theorem w_sl {tl th : TDO} (h : te δ G fun x G1 => tl δ G1 fun l G2 => th δ G2 fun u G3 => bSl x l u G3 Q) : dSl te tl th δ G Q := h
theorem w_none {QO : Option Int → DG → Prop} (h : QO none G) : dNone δ G QO := h
theorem w_some {QO : Option Int → DG → Prop} (h : te δ G fun d G' => ∃ i, d = .int i ∧ QO (some i) G') : dSome te δ G QO := h
theorem w_exI {k : Int → Prop} {i : Int} (h : k i) : ∃ j, DV.int i = .int j ∧ k j := ⟨i, rfl, h⟩
theorem w_exB {k : Bool → Prop} {i : Bool} (h : k i) : ∃ j, DV.bl i = .bl j ∧ k j := ⟨i, rfl, h⟩
theorem w_exT {k : List DV → Prop} {i : List DV} (h : k i) : ∃ j, DV.tup i = .tup j ∧ k j := ⟨i, rfl, h⟩
theorem w_exS {k : Str → Prop} {i : Str} (h : k i) : ∃ j, DV.str i = .str j ∧ k j := ⟨i, rfl, h⟩
theorem w_rev (h : te δ G fun x G1 => ∃ ds, x = .tup ds ∧ Q (.tup ds.reverse) G1) : dRev te δ G Q := h
theorem w_neg (h : te δ G fun x G1 => ∃ i, x = .int i ∧ Q (.int (-i)) G1) : dNeg te δ G Q := h
theorem w_ifE (h : tt δ G fun c G1 => if c = true then ta δ G1 Q else tb δ G1 Q) : dIf tt ta tb δ G Q := h
theorem w_andV (h : ta δ G fun x G1 => ∃ c, x = .bl c ∧ if c = true then tb δ G1 Q else Q (.bl false) G1) : dAndV ta tb δ G Q := h
theorem w_orV (h : ta δ G fun x G1 => ∃ c, x = .bl c ∧ if c = true then Q (.bl true) G1 else tb δ G1 Q) : dOrV ta tb δ G Q := h
theorem w_notV (h : ta δ G fun x G1 => ∃ c, x = .bl c ∧ Q (.bl (!c)) G1) : dNotV ta δ G Q := h
theorem w_BM {T : String} {b : DM} (h : te δ G fun x G1 => rcv T x G1 ∧ ts δ G1 fun ds G2 => b x ds G2 Q) : dBM T b te ts δ G Q := h
theorem w_BM0 {T : String} {b : DM} (h : te δ G fun x G1 => rcv T x G1 ∧ b x [] G1 Q) : dBM0 T b te δ G Q := h
theorem w_rcvS {z : Str} {A : Prop} (h : A) : rcv "str" (.str z) G ∧ A := ⟨rfl, h⟩
theorem w_rcvL {p : Addr} {ds : List DV} {A : Prop} (e : G p = some (.lst ds)) (h : A) : rcv "list" (.ref p) G ∧ A := ⟨.inl ⟨rfl, ds, .inl e⟩, h⟩
theorem w_rcvD {p : Addr} {ds : List (Key × DV)} {A : Prop} (e : G p = some (.dct ds)) (h : A) : rcv "dict" (.ref p) G ∧ A := ⟨.inr ⟨rfl, ds, e⟩, h⟩
/-! tests -/
theorem w_test (h : te δ G fun d G' => ∃ k, d = .bl k ∧ QB k G') : dTest te δ G QB := h
theorem w_tru (h : te δ G fun d G' => bTru d G' QB) : dTru te δ G QB := h
theorem w_and (h : tt δ G fun c G1 => if c = true then tu δ G1 QB else QB false G1) : dAnd tt tu δ G QB := h
theorem w_or (h : tt δ G fun c G1 => if c = true then QB true G1 else tu δ G1 QB) : dOr tt tu δ G QB := h
theorem w_not (h : tt δ G fun c G1 => QB (!c) G1) : dNot tt δ G QB := h
theorem w_yes (h : QB true G) : dYes δ G QB := h
theorem w_truB {b : Bool} (h : QB b G) : bTru (.bl b) G QB := h
theorem w_truI {i : Int} (h : QB (i != 0) G) : bTru (.int i) G QB := h
theorem w_truN (h : QB false G) : bTru .non G QB := h
theorem w_truT {ds : List DV} (h : QB (!ds.isEmpty) G) : bTru (.tup ds) G QB := h
theorem w_truL {p : Addr} {ds : List DV} (e : G p = some (.lst ds)) (h : QB (!ds.isEmpty) G) : bTru (.ref p) G QB := .inl ⟨ds, .inl e, h⟩
/-! operators -/
theorem w_addI {i j : Int} (h : Q (.int (i + j)) G) : bAdd (.int i) (.int j) G Q := h
theorem w_addS {a b : Str} (l : a.length + b.length ≤ sizeLine) (h : Q (.str (a ++ b)) G) : bAdd (.str a) (.str b) G Q := ⟨l, h⟩
theorem w_addT {a b : List DV} (l : a.length + b.length ≤ sizeLine) (h : Q (.tup (a ++ b)) G) : bAdd (.tup a) (.tup b) G Q := ⟨l, h⟩
theorem w_subI {i j : Int} (h : Q (.int (i - j)) G) : bSub (.int i) (.int j) G Q := h
theorem w_int {C : Int → Int → Prop} {g : Int → Int → DV} {i j : Int} (c : C i j) (h : Q (g i j) G) : bInt C g (.int i) (.int j) G Q := ⟨c, h⟩
theorem w_cmpI {g : Int → Int → Bool} {s : List Nat → List Nat → Bool} {i j : Int} (h : Q (.bl (g i j)) G) : bCmp g s (.int i) (.int j) G Q := h
theorem w_cmpS {g : Int → Int → Bool} {s : List Nat → List Nat → Bool} {i j : Str} (h : Q (.bl (s i.cps.toList j.cps.toList)) G) : bCmp g s (.str i) (.str j) G Q := h
theorem w_eqSS {a b : Str} (h : Q (.bl (decide (a = b))) G) : bEq false (.str a) (.str b) G Q := h
theorem w_eqII {a b : Int} (h : Q (.bl (decide (a = b))) G) : bEq false (.int a) (.int b) G Q := h
theorem w_eqBB {a b : Bool} (h : Q (.bl (decide (a = b))) G) : bEq false (.bl a) (.bl b) G Q := h
theorem w_neSS {a b : Str} (h : Q (.bl (!decide (a = b))) G) : bEq true (.str a) (.str b) G Q := h
theorem w_neII {a b : Int} (h : Q (.bl (!decide (a = b))) G) : bEq true (.int a) (.int b) G Q := h
theorem w_neBB {a b : Bool} (h : Q (.bl (!decide (a = b))) G) : bEq true (.bl a) (.bl b) G Q := h
theorem w_eqSN {a : Str} {n : Bool} (h : Q (.bl n) G) : bEq n (.str a) .non G Q := h
theorem w_eqIN {a : Int} {n : Bool} (h : Q (.bl n) G) : bEq n (.int a) .non G Q := h
theorem w_eqSI {a : Str} {b : Int} {n : Bool} (h : Q (.bl n) G) : bEq n (.str a) (.int b) G Q := h
theorem w_eqIS {a : Int} {b : Str} {n : Bool} (h : Q (.bl n) G) : bEq n (.int a) (.str b) G Q := h
theorem w_eqNS {b : Str} {n : Bool} (h : Q (.bl n) G) : bEq n .non (.str b) G Q := h
theorem w_eqBS {a : Bool} {b : Str} {n : Bool} (h : Q (.bl n) G) : bEq n (.bl a) (.str b) G Q := h
theorem w_eqT0 {a : List DV} (h : Q (.bl a.isEmpty) G) : bEq false (.tup a) (.tup []) G Q := .inl ⟨rfl, rfl, h⟩
theorem w_eqTT {a b : List DV} (ca : Cmps a) (cb : Cmps b) (pa : plains a = true) (pb : plains b = true) (h : Q (.bl (decide (a = b))) G) : bEq false (.tup a) (.tup b) G Q := .inr ⟨ca, cb, by rw [eqvs_plain a b pa pb]; exact h⟩
theorem w_neTT {a b : List DV} (ca : Cmps a) (cb : Cmps b) (pa : plains a = true) (pb : plains b = true) (h : Q (.bl (!decide (a = b))) G) : bEq true (.tup a) (.tup b) G Q := .inr ⟨ca, cb, by rw [eqvs_plain a b pa pb]; exact h⟩
theorem w_eqLL {p q : Addr} {a b : List DV} (ea : G p = some (.lst a)) (eb : G q = some (.lst b)) (ca : Cmps a) (cb : Cmps b) (pa : plains a = true) (pb : plains b = true) (h : Q (.bl (decide (a = b))) G) : bEq false (.ref p) (.ref q) G Q := ⟨a, b, .inl ea, .inl eb, .inr ⟨ca, cb, by rw [eqvs_plain a b pa pb]; exact h⟩⟩
theorem w_neLL {p q : Addr} {a b : List DV} (ea : G p = some (.lst a)) (eb : G q = some (.lst b)) (ca : Cmps a) (cb : Cmps b) (pa : plains a = true) (pb : plains b = true) (h : Q (.bl (!decide (a = b))) G) : bEq true (.ref p) (.ref q) G Q := ⟨a, b, .inl ea, .inl eb, .inr ⟨ca, cb, by rw [eqvs_plain a b pa pb]; exact h⟩⟩
theorem w_isN {x : DV} (h : Q (.bl (decide (x = .non))) G) : bIs false x .non G Q := by cases x <;> exact h
theorem w_isnN {x : DV} (h : Q (.bl (!decide (x = .non))) G) : bIs true x .non G Q := by cases x <;> exact h
theorem w_ix0 {a : DV} {r : List DV} (h : Q a G) : bIx (.tup (a :: r)) (.int 0) G Q := ⟨a, atI_nat (j := 0) rfl, h⟩
theorem w_ix1 {a b : DV} {r : List DV} (h : Q b G) : bIx (.tup (a :: b :: r)) (.int 1) G Q := ⟨b, atI_nat (j := 1) rfl, h⟩
theorem w_ix2 {a b c : DV} {r : List DV} (h : Q c G) : bIx (.tup (a :: b :: c :: r)) (.int 2) G Q := ⟨c, atI_nat (j := 2) rfl, h⟩
theorem w_ix3 {a b c d : DV} {r : List DV} (h : Q d G) : bIx (.tup (a :: b :: c :: d :: r)) (.int 3) G Q := ⟨d, atI_nat (j := 3) rfl, h⟩
theorem w_ixL {p : Addr} {ds : List DV} {i : Int} {d : DV} (e : G p = some (.lst ds)) (l : atI ds i = some d) (h : Q d G) : bIx (.ref p) (.int i) G Q := .inl ⟨ds, d, .inl e, l, h⟩
theorem w_slT {ds : List DV} {lo hi : Option Int} (h : Q (.tup (cutD ds lo hi)) G) : bSl (.tup ds) lo hi G Q := h
/-! calls -/
theorem w_lenT {ds : List DV} (h : Q (.int ds.length) G) : bLen [.tup ds] G Q := h
theorem w_lenS {z : Str} (l : z.length ≤ sizeLine) (h : Q (.int z.length) G) : bLen [.str z] G Q := ⟨l, h⟩
theorem w_lenL {p : Addr} {ds : List DV} (e : G p = some (.lst ds)) (h : Q (.int ds.length) G) : bLen [.ref p] G Q := .inl ⟨ds, .inl e, h⟩
theorem w_isi {x : DV} {t : String} {a : String} {b : Bool} (ht : t ∈ tysK) (ha : TyAt G x a) (hb : tyB a t = b) (h : Q (.bl b) G) : bIsi [x, .ty t] G Q := ⟨ht, a, b, ha, hb, h⟩
theorem w_intB {k : Bool} (h : Q (.int (if k = true then 1 else 0)) G) : bInt1 [.bl k] G Q := h
theorem w_intI {k : Int} (h : Q (.int k) G) : bInt1 [.int k] G Q := h
theorem w_tupT {ds : List DV} (h : Q (.tup ds) G) : bTuple [.tup ds] G Q := h
theorem w_tupL {p : Addr} {ds : List DV} (e : G p = some (.lst ds)) (h : Q (.tup ds) G) : bTuple [.ref p] G Q := ⟨ds, .inl e, h⟩
theorem w_lstT {ds : List DV} (h : ∀ r, G r = none → Q (.ref r) (dupd G r (.lst ds))) : bList [.tup ds] G Q := h
theorem w_lstL {p : Addr} {ds : List DV} (e : G p = some (.lst ds)) (h : ∀ r, G r = none → Q (.ref r) (dupd G r (.lst ds))) : bList [.ref p] G Q := ⟨ds, .inl e, h⟩
theorem w_app {p : Addr} {xs : List DV} {y : DV} (e : G p = some (.lst xs)) (l : xs.length < sizeLine) (h : Q .non (dupd G p (.lst (xs ++ [y])))) : bAppend (.ref p) [y] G Q := ⟨p, xs, y, rfl, rfl, e, l, h⟩
theorem w_pop {p : Addr} {xs : List DV} {y : DV} (e : G p = some (.lst (xs ++ [y]))) (h : Q y (dupd G p (.lst xs))) : bPop (.ref p) [] G Q := ⟨p, xs, y, rfl, rfl, e, h⟩
theorem w_extT {p : Addr} {xs zs : List DV} (e : G p = some (.lst xs)) (l : xs.length + zs.length ≤ sizeLine) (h : Q .non (dupd G p (.lst (xs ++ zs)))) : bExt (.ref p) [.tup zs] G Q := ⟨p, xs, zs, rfl, e, .inl rfl, l, h⟩
theorem w_extL {p q : Addr} {xs zs : List DV} (e : G p = some (.lst xs)) (e' : G q = some (.lst zs)) (l : xs.length + zs.length ≤ sizeLine) (h : Q .non (dupd G p (.lst (xs ++ zs)))) : bExt (.ref p) [.ref q] G Q := ⟨p, xs, zs, rfl, e, .inr ⟨q, rfl, e'⟩, l, h⟩
/-! loops -/
/-- what a loop over ds wants -/
def ForG (ds : List DV) (st : DG → Prop) (tg : TDG) (tb : TDS) (nx : DSt → DG → Prop) (rt : DK) (δ : DSt) (G : DG) : Prop := ∃ Pv : Nat → DSt → DG → Prop, Pv 0 δ G ∧ (∀ i δ G, Pv i δ G → st G) ∧
  (∀ i d δ G, ds[i]? = some d → Pv i δ G → tg d δ G fun δ2 G2 => tb ⟨Pv (i + 1), rt, nx, Pv (i + 1)⟩ δ2 G2) ∧ (∀ δ G, Pv ds.length δ G → nx δ G)
theorem w_for {tg : TDG} {tb : TDS} {ti : TDI} (h : ti δ G fun ds st G1 => ForG ds st tg tb nx rt δ G1) : dFor ti tg tb ⟨nx, rt, bk, ct⟩ δ G := h
/-- what a comprehension over ds wants -/
def LcG (ds : List DV) (st : DG → Prop) (ld : TL) (tt : TDT) (te : TD) (δ : DSt) (G1 : DG) (Q : DK) : Prop := ∀ p, G1 p = none → ∃ Pv : Nat → List DV → DG → Prop, Pv 0 [] (dupd G1 p (.lst [])) ∧ (∀ i acc G, Pv i acc G → st G) ∧
  (∀ i d acc G, ds[i]? = some d → Pv i acc G → ld d δ fun δ2 => tt δ2 G fun b G3 => if b = true then te δ2 G3 fun y G4 => G4 p = some (.lst acc) ∧ acc.length < sizeLine ∧ Pv (i + 1) (acc ++ [y]) (dupd G4 p (.lst (acc ++ [y]))) else Pv (i + 1) acc G3) ∧
  (∀ acc G, Pv ds.length acc G → Q (.ref p) G)
theorem w_lc {ti : TDI} {ld : TL} {vs : List Nat} (h : ti δ G fun ds st G1 => LcG ds st ld tt te (wipeD δ vs) G1 Q) : dLc ti ld tt te vs δ G Q := h
theorem w_while {c : TDT} {tb : TDS} (Pv : Nat → DSt → DG → Prop) (m : Nat) (p : Pv m δ G) (h : ∀ m δ G, Pv m δ G →
  c δ G fun b G1 => if b = true then tb ⟨fun δ' G' => ∃ m', m' < m ∧ Pv m' δ' G', rt, nx, fun δ' G' => ∃ m', m' < m ∧ Pv m' δ' G'⟩ δ G1 else nx δ G1) : dWhile c tb ⟨nx, rt, bk, ct⟩ δ G := ⟨Pv, ⟨m, p⟩, h⟩
variable {RI : List DV → (DG → Prop) → DG → Prop}
theorem wi_tup (h : te δ G fun d G1 => ∃ ds, d = .tup ds ∧ RI ds (fun _ => True) G1) : dITup te δ G RI := h
theorem wi_lst (h : te δ G fun d G1 => ∃ p ds, d = .ref p ∧ Ls G1 p ds ∧ RI ds (fun G => Ls G p ds) G1) : dIList te δ G RI := h
theorem wi_str (h : te δ G fun d G1 => ∃ z, d = .str z ∧ RI (signs z) (fun _ => True) G1) : dIStr te δ G RI := h
theorem wi_rng (h : ts δ G fun ds G1 => ∃ j : Int, ds = [.int j] ∧ -(2 ^ 62) ≤ j ∧ j < 2 ^ 62 ∧ RI (rng 0 j.toNat) (fun _ => True) G1) : dIRng ts δ G RI := h
theorem wi_rng2 (h : ts δ G fun ds G1 => ∃ i j : Int, ds = [.int i, .int j] ∧ (-(2 ^ 62) ≤ i ∧ i < 2 ^ 62 ∧ -(2 ^ 62) ≤ j ∧ j < 2 ^ 62) ∧ RI (rng i (j - i).toNat) (fun _ => True) G1) : dIRng2 ts δ G RI := h
theorem wi_enumT (h : ts δ G fun xs G1 => ∃ ds, xs = [.tup ds] ∧ RI (nmbd ds) (fun _ => True) G1) : dIEnumT ts δ G RI := h
theorem wi_enum (h : ts δ G fun xs G1 => ∃ p ds, xs = [.ref p] ∧ Ls G1 p ds ∧ RI (nmbd ds) (fun G => Ls G p ds) G1) : dIEnum ts δ G RI := h
theorem wi_rev (h : ts δ G fun xs G1 => ∃ p ds, xs = [.ref p] ∧ Ls G1 p ds ∧ RI ds.reverse (fun G => Ls G p ds) G1) : dIRev ts δ G RI := h
theorem wi_revR (h : ts δ G fun ds G1 => ∃ j : Int, ds = [.int j] ∧ 0 ≤ j ∧ j < 2 ^ 62 ∧ RI (rng 0 j.toNat).reverse (fun _ => True) G1) : dIRevR ts δ G RI := h
theorem wx_rng {k : Int → Prop} {j : Int} (h1 : -(2 ^ 62) ≤ j) (h2 : j < 2 ^ 62) (h : k j) : ∃ j' : Int, [DV.int j] = [.int j'] ∧ -(2 ^ 62) ≤ j' ∧ j' < 2 ^ 62 ∧ k j' := ⟨j, rfl, h1, h2, h⟩
theorem wx_revR {k : Int → Prop} {j : Int} (h1 : 0 ≤ j) (h2 : j < 2 ^ 62) (h : k j) : ∃ j' : Int, [DV.int j] = [.int j'] ∧ 0 ≤ j' ∧ j' < 2 ^ 62 ∧ k j' := ⟨j, rfl, h1, h2, h⟩
theorem wx_rng2 {k : Int → Int → Prop} {i j : Int} (h1 : -(2 ^ 62) ≤ i ∧ i < 2 ^ 62 ∧ -(2 ^ 62) ≤ j ∧ j < 2 ^ 62) (h : k i j) : ∃ i' j' : Int, [DV.int i, .int j] = [.int i', .int j'] ∧ (-(2 ^ 62) ≤ i' ∧ i' < 2 ^ 62 ∧ -(2 ^ 62) ≤ j' ∧ j' < 2 ^ 62) ∧ k i' j' := ⟨i, j, rfl, h1, h⟩
theorem wx_lst {k : Addr → List DV → Prop} {p : Addr} {ds : List DV} (e : G p = some (.lst ds)) (h : k p ds) : ∃ p' ds', DV.ref p = .ref p' ∧ Ls G p' ds' ∧ k p' ds' := ⟨p, ds, rfl, .inl e, h⟩
theorem wx_lstA {k : Addr → List DV → Prop} {p : Addr} {ds : List DV} (e : G p = some (.lst ds)) (h : k p ds) : ∃ p' ds', [DV.ref p] = [.ref p'] ∧ Ls G p' ds' ∧ k p' ds' := ⟨p, ds, rfl, .inl e, h⟩
theorem wx_enumT {k : List DV → Prop} {ds : List DV} (h : k ds) : ∃ ds', [DV.tup ds] = [.tup ds'] ∧ k ds' := ⟨ds, rfl, h⟩
/-- a loop with its invariant -/
theorem for_by {ds : List DV} {st : DG → Prop} {tg : TDG} {tb : TDS} (Pv : Nat → DSt → DG → Prop) (hst : ∀ i δ G, Pv i δ G → st G) (p0 : Pv 0 δ G)
  (ps : ∀ i d δ G, ds[i]? = some d → Pv i δ G → tg d δ G fun δ2 G2 => tb ⟨Pv (i + 1), rt, nx, Pv (i + 1)⟩ δ2 G2) (pd : ∀ δ G, Pv ds.length δ G → nx δ G) : ForG ds st tg tb nx rt δ G := ⟨Pv, p0, hst, ps, pd⟩
/-- elements that leave the store as it is: each told by E (or left out, where f says so) -/
theorem lcg_pure {ds : List DV} {st : DG → Prop} {ld : TL} {G1 : DG} (f : DV → Option DV) (hsc : ∀ p o, G1 p = none → st (dupd G1 p o)) (hl : ds.length ≤ 1000000)
    (h : ∀ d ∈ ds, ∀ (G : DG) (k1 : DK) (k0 : DG → Prop), (∃ p acc, G1 p = none ∧ G = dupd G1 p (.lst acc)) → (∀ y, f d = some y → k1 y G) → (f d = none → k0 G) →
      ld d δ fun δ2 => tt δ2 G fun b G3 => if b = true then te δ2 G3 k1 else k0 G3)
    (q : ∀ p, G1 p = none → Q (.ref p) (dupd G1 p (.lst (ds.filterMap f)))) : LcG ds st ld tt te δ G1 Q := by
  have := lc_pure (ds := ds) (st := st) (ld := ld) (tt := tt) (te := te) (vs := []) (δ := δ) (G1 := G1) (Q := Q) f hsc hl h q
  exact this
theorem lcg_each {ds : List DV} {st : DG → Prop} {ld : TL} {G1 : DG} (E : Nat → DV → Prop) (hsc : ∀ p o, G1 p = none → st (dupd G1 p o)) (hl : ds.length ≤ 1000000)
    (h : ∀ i d, ds[i]? = some d → ∀ (G : DG) (k1 : DK) (k0 : DG → Prop), (∃ p acc, G1 p = none ∧ G = dupd G1 p (.lst acc)) → (∀ y, E i y → k1 y G) →
      ld d δ fun δ2 => tt δ2 G fun b G3 => if b = true then te δ2 G3 k1 else k0 G3)
    (q : ∀ p acc, G1 p = none → acc.length = ds.length → (∀ i y, acc[i]? = some y → E i y) → Q (.ref p) (dupd G1 p (.lst acc))) : LcG ds st ld tt te δ G1 Q := by
  intro p np
  refine ⟨fun i acc G => acc.length = i ∧ i ≤ ds.length ∧ (∀ j y, acc[j]? = some y → E j y) ∧ G = dupd G1 p (.lst acc), ⟨rfl, Nat.zero_le _, (fun _ _ h => nomatch h), rfl⟩, fun i acc G ⟨_, _, _, e⟩ => by rw [e]; exact hsc p _ np, ?_, ?_⟩
  · rintro i d acc G hd ⟨ea, hi, he, rfl⟩
    have hlt : i < ds.length := (List.getElem?_eq_some_iff.mp hd).1
    refine h i d hd _ _ _ ⟨p, acc, np, rfl⟩ fun y hy => ⟨dupd_same, midlt (by omega), ?_, hlt, ?_, dupd_dupd⟩
    · rw [List.length_append, ea]; rfl
    · intro j z hz
      by_cases hj : j < acc.length
      · rw [List.getElem?_append_left hj] at hz; exact he j z hz
      · have hj' := (List.getElem?_eq_some_iff.mp hz).1
        rw [List.length_append, List.length_singleton] at hj'
        have : j = i := by omega
        subst this
        rw [List.getElem?_append_right (by omega), ea, Nat.sub_self] at hz
        cases hz
        exact hy
  · rintro acc G ⟨ea, _, he, rfl⟩
    exact q p acc np ea he
theorem g_n {d : DV} {i : Nat} {k : DSt → DG → Prop} (h : k (δ.set i (some d)) G) : gN i d δ G k := h
theorem w_ite {b : Bool} {A B : Prop} (h : b = true → A) (g : b = false → B) : if b = true then A else B := by
  cases b
  · exact iteF (g rfl)
  · exact iteT (h rfl)
theorem w_iteD {p : Prop} [Decidable p] {A B : Prop} (h : p → A) (g : ¬ p → B) : if decide p = true then A else B := by
  by_cases e : p
  · rw [decide_eq_true e]; exact iteT (h e)
  · rw [decide_eq_false e]; exact iteF (g e)
theorem w_iteN {p : Prop} [Decidable p] {A B : Prop} (h : ¬ p → A) (g : p → B) : if (!decide p) = true then A else B := by
  by_cases e : p
  · rw [decide_eq_true e]; exact iteF (g e)
  · rw [decide_eq_false e]; exact iteT (h e)
theorem w_it {b : Bool} {A B : Prop} (e : b = true) (h : A) : if b = true then A else B := by subst e; exact iteT h
theorem w_if0 {b : Bool} {A B : Prop} (e : b = false) (h : B) : if b = true then A else B := by subst e; exact iteF h
end
end DD
namespace DD
open PySem PySem.W L2
theorem ne_ns {G : DG} {a b : Addr} (n : G b = none) (h : ∃ o, G a = some o) : a ≠ b := by
  obtain ⟨o, h⟩ := h
  exact ne_some h n
theorem ne_sn {G : DG} {a b : Addr} (n : G b = none) (h : ∃ o, G a = some o) : b ≠ a := (ne_ns n h).symm
theorem szl {n : Nat} (h : n.ble 64 = true) : n ≤ sizeLine := by
  have := Nat.le_of_ble_eq_true h
  have : 64 ≤ sizeLine := by decide
  omega
end DD
namespace DD
open PySem PySem.W L2
theorem cutD_to {α : Type} (xs : List α) (k : Nat) : cutD xs none (some (k : Int)) = xs.take k := by
  unfold cutD
  rw [HT.sIx_none, HT.sIx_nat, List.drop_zero, Nat.sub_zero]
  rcases Nat.le_total k xs.length with h | h
  · rw [Nat.min_eq_left h]
  · rw [Nat.min_eq_right h, List.take_length, List.take_of_length_le h]
theorem cutD_from {α : Type} (xs : List α) (k : Nat) : cutD xs (some (k : Int)) none = xs.drop k := by
  unfold cutD
  rw [HT.sIx_none, HT.sIx_nat]
  rcases Nat.le_total k xs.length with h | h
  · rw [Nat.min_eq_left h, List.take_of_length_le (by rw [List.length_drop]; omega)]
  · rw [Nat.min_eq_right h, List.drop_length, List.take_nil, List.drop_of_length_le h]
theorem cutD_last {α : Type} (a : List α) (x : α) : cutD (a ++ [x]) none (some (-1)) = a := by
  unfold cutD
  have e : HT.sIx (a ++ [x]).length (a ++ [x]).length (some (-1)) = a.length := by
    rw [show HT.sIx (a ++ [x]).length (a ++ [x]).length (some (-1)) = (if (-1 : Int) < 0 then ((-1 : Int) + ((a ++ [x]).length : Int)).toNat else min (-1 : Int).toNat (a ++ [x]).length) from rfl]
    rw [if_pos (by decide), List.length_append, List.length_singleton]; omega
  rw [HT.sIx_none, e, List.drop_zero, Nat.sub_zero, List.take_left]
end DD
namespace DD
open PySem PySem.W L2
theorem nn_ {G G' : DG} {p : Addr} (n : G' p = none) (s : Sub G G') : G p = none := s.nonew n
theorem lt2' {i j : Nat} {a b : DV} {δ : DSt} {k : DSt → Prop} (h : k ((δ.set i (some a)).set j (some b))) : l2 i j (.tup [a, b]) δ k := ⟨a, b, rfl, h⟩
theorem Less.mk {R : DK} {d : DV} {G G' : DG} (s : Sub G G') (h : R d G) : Less R d G' := ⟨G, s, h⟩
end DD
namespace DD
open PySem PySem.W L2
theorem w_cut {nx : DSt → DG → Prop} {rt : DK} {bk ct : DSt → DG → Prop} {δ : DSt} {G : DG} {t u : TDS} (Mid : DSt → DG → Prop) (h : t ⟨Mid, rt, bk, ct⟩ δ G) (g : ∀ δ' G', Mid δ' G' → u ⟨nx, rt, bk, ct⟩ δ' G') : dCut t u ⟨nx, rt, bk, ct⟩ δ G := ⟨Mid, h, g⟩
theorem app_lt (p a b : List Int) : p ++ a < p ++ b ↔ a < b := by
  induction p with
  | nil => exact Iff.rfl
  | cons x r ih =>
    rw [List.cons_append, List.cons_append, List.cons_lt_cons_iff, ih]
    constructor
    · rintro (h | h)
      · exact absurd h (Int.lt_irrefl _)
      · exact h.2
    · exact fun h => .inr ⟨rfl, h⟩
end DD
namespace DD
open PySem PySem.W L2
theorem decq {p q : Prop} [Decidable p] [Decidable q] (h : p ↔ q) : decide p = decide q := by
  by_cases e : p
  · rw [decide_eq_true e, decide_eq_true (h.mp e)]
  · rw [decide_eq_false e, decide_eq_false (fun z => e (h.mpr z))]
theorem cmps_of {ds : List DV} (c : Cmp (.tup ds)) : Cmps ds := ⟨c.pu, c.tx, by have := c.dp; have e : dpt (.tup ds) = 1 + dpts ds := rfl; omega⟩
theorem bEq_plain {n : Bool} {x y : DV} {G : DG} {Q : DK} (px : plain x = true) (py : plain y = true) (cx : Cmp x) (cy : Cmp y) (h : Q (.bl (ng n (decide (x = y)))) G) : bEq n x y G Q := by
  have gen : Cmp x ∧ Cmp y ∧ Q (.bl (ng n (PyData.eqv (dat x) (dat y)))) G := ⟨cx, cy, by rw [eqv_plain x y px py]; exact h⟩
  have no : decide (x = y) = false → Q (.bl n) G := fun e => by rw [e] at h; cases n <;> exact h
  cases x with
  | non => cases y with
    | str b => exact no (decide_eq_false (by intro z; cases z))
    | _ => exact gen
  | bl a => cases px
  | ref a => cases px
  | ty a => cases px
  | int a => cases y with
    | int b => show Q (.bl (ng n (decide (a = b)))) G; rw [← decq (p := DV.int a = .int b) ⟨fun z => DV.int.inj z, fun z => by rw [z]⟩]; exact h
    | non => exact no (decide_eq_false (by intro z; cases z))
    | str b => exact no (decide_eq_false (by intro z; cases z))
    | _ => exact gen
  | str a => cases y with
    | str b => show Q (.bl (ng n (decide (a = b)))) G; rw [← decq (p := DV.str a = .str b) ⟨fun z => DV.str.inj z, fun z => by rw [z]⟩]; exact h
    | non => exact no (decide_eq_false (by intro z; cases z))
    | int b => exact no (decide_eq_false (by intro z; cases z))
    | _ => exact gen
  | tup a => cases y with
    | tup b =>
      refine .inr ⟨cmps_of cx, cmps_of cy, ?_⟩
      rw [eqvs_plain a b px py, ← decq (p := DV.tup a = .tup b) ⟨fun z => DV.tup.inj z, fun z => by rw [z]⟩]; exact h
    | _ => exact gen
theorem w_eqP {x y : DV} {G : DG} {Q : DK} (px : plain x = true) (py : plain y = true) (cx : Cmp x) (cy : Cmp y) (h : Q (.bl (decide (x = y))) G) : bEq false x y G Q := bEq_plain px py cx cy h
theorem w_neP {x y : DV} {G : DG} {Q : DK} (px : plain x = true) (py : plain y = true) (cx : Cmp x) (cy : Cmp y) (h : Q (.bl (!decide (x = y))) G) : bEq true x y G Q := bEq_plain px py cx cy h
end DD
namespace K39
open PySem PySem.W L2 SX Cm DD
def top (i : Nat) : Stmt := PySem.Challenge.pw_takeleave_k39_places_and_words.main.body.getD i (.Pass ⟨0, 0, 0, 0⟩)
abbrev s_p_places_of : Stmt := top 1
abbrev s_p_placed_words : Stmt := top 2
abbrev s_p_placed_within : Stmt := top 3
abbrev s_p_pushed_or_itself : Stmt := top 4
abbrev s_p_word_at : Stmt := top 5
abbrev s_L_deck : Stmt := top 7
abbrev s_L_draw : Stmt := top 8
abbrev s_L_number : Stmt := top 9
abbrev s_L_shuffle : Stmt := top 10
abbrev s_L_thing : Stmt := top 11
abbrev s_L_word : Stmt := top 12
abbrev s_L_row : Stmt := top 13
abbrev s_L_long : Stmt := top 14
abbrev s_L_count : Stmt := top 15
abbrev s_L_cut : Stmt := top 16
abbrev s_L_places : Stmt := top 17
abbrev s_L_within : Stmt := top 18
abbrev s_L_word_at : Stmt := top 19
abbrev s_L_whole : Stmt := top 20
abbrev s_L_law : Stmt := top 21
/-- a deck stands at d, its cells at c -/
structure Deck (H : Hp) (d c : Addr) : Prop where
  ne : d ≠ c
  at_ : ∃ (s k : Int), H d = some (.lst [.ref c, .int s, .int k])
  cells : ∃ ms : List Int, H c = some (.lst (ms.map V.int)) ∧ ms.length ≤ 1000
theorem Deck.new {H : Hp} {d c p : Addr} {o : HO} (D : Deck H d c) (h : H p = none) : Deck (upd H p o) d c := by
  obtain ⟨s, k, e⟩ := D.at_
  obtain ⟨ms, e2, l⟩ := D.cells
  exact ⟨D.ne, ⟨s, k, kn e h⟩, ms, kn e2 h, l⟩
theorem Deck.same {H H' : Hp} {d c : Addr} (D : Deck H d c) (s : Same H H') : Deck H' d c := by
  obtain ⟨a, k, e⟩ := D.at_
  obtain ⟨ms, e2, l⟩ := D.cells
  exact ⟨D.ne, ⟨a, k, s _ _ e⟩, ms, s _ _ e2, l⟩
theorem Deck.nd {H : Hp} {d c p : Addr} (D : Deck H d c) (h : H p = none) : p ∉ [d, c] := by
  obtain ⟨a, k, e⟩ := D.at_
  obtain ⟨ms, e2, l⟩ := D.cells
  intro z
  rcases List.mem_cons.mp z with z | z
  · rw [z, e] at h; cases h
  · rw [List.mem_singleton.mp z, e2] at h; cases h
theorem Deck.put {H : Hp} {d c p : Addr} {o : HO} (D : Deck H d c) (h : p ∉ [d, c]) : Deck (upd H p o) d c := by
  obtain ⟨s, k, e⟩ := D.at_
  obtain ⟨ms, e2, l⟩ := D.cells
  have h1 : d ≠ p := fun z => h (by rw [← z]; exact List.mem_cons_self ..)
  have h2 : c ≠ p := fun z => h (by rw [← z]; exact List.mem_cons_of_mem _ (List.mem_singleton.mpr rfl))
  exact ⟨D.ne, ⟨s, k, by rw [upd_ne h1]; exact e⟩, ms, by rw [upd_ne h2]; exact e2, l⟩
section
variable {P : Program} {w : World} {K : PySem.W.Frag} {mg : Str → Option Value} {base : Heap}
def spDeck (K : PySem.W.Frag) : Sp := fun vs H Q _ => ∃ (a : Addr) (ns : List Int), vs = [.ref a] ∧ SqL K H a (ns.map V.int) ∧ ns.length ≤ 63 ∧
  ∀ (d c : Addr) (H' : Hp), Same H H' → H d = none → H c = none → Deck H' d c → Q (.ref d) H'
theorem scDeck : FnScope ["_law_script", "_law_cell"] ["_law_script"] (defScope s_L_deck) := ⟨rfl, rfl, rfl, by decide +kernel, rfl, by decide +kernel, by decide +kernel⟩
theorem ok_deck {f : Addr} {fd : FuncData} (F : Fun K "_law_deck" "_law_deck" s_L_deck f fd) (B : BI mg) : FnOk P w K mg base CX0 1 f fd ["_law_script"] (spDeck K) := by
  refine F.ok scDeck (fun vs H Q E h => ?_) (fun cdv A outer s H vs Q E hr h => ?_)
  · obtain ⟨a, ns, rfl, _⟩ := h
    rfl
  obtain ⟨a, ns, rfl, hS, h63, q⟩ := h
  refine ⟨_, pss_one (ps_ret (pe_lst (pa_cons (pe_callTy call_list_of (by rfl) B.lst (by decide +kernel) (pa_cons (pe_slice sl_list (pv 0) po_none (po_some pe_int)) pa_nil)) (pa_cons pe_int (pa_cons (pe_callB (cr_sum rfl) (by rfl) B.sum (by decide +kernel) (pa_cons (pe_lc (own := [("_law_cell", 1)]) (g := gName 1) (tt := tYes) (te := tOp (rI (fun _ j => 0 < j) fun i j => V.int (i % j)) (tVar 1) (tC (V.int 1000003))) rfl scDeck.nd (pi_list (pe_slice sl_list (pv 0) po_none (po_some pe_int))) (blkOk_by (own := [("_law_cell", 1)]) (N := ["_law_script", "_law_cell"]) (sc := defScope s_L_deck) (by decide +kernel))
      (fun _ _ _ _ _ => pg_name (i := 1) scDeck.nd rfl (Or.inl rfl)) (fun _ _ _ _ _ => pts_nil) (fun _ _ _ _ _ => pe_op op_mod (pv 1) pe_int)) pa_nil)) pa_nil))))), ?_⟩
  obtain ⟨ds, e1, l1⟩ := cut_map V.int ns none (some 63)
  refine ⟨_, rfl, 63, rfl, a, _, rfl, hS, fun p1 n1 => ?_⟩
  rw [e1]
  have s1 : Same H (upd H p1 (.lst (ds.map V.int))) := same_new n1 _
  have h1 : upd H p1 (.lst (ds.map V.int)) p1 = some (.lst (ds.map V.int)) := upd_same
  generalize upd H p1 (.lst (ds.map V.int)) = H1 at s1 h1
  refine ⟨p1, _, rfl, .inl (SqL.of h1), fun c nc => ?_⟩
  have s2 := s1.trans (same_new nc (.lst (ds.map V.int)))
  have ec : upd H1 c (.lst (ds.map V.int)) c = some (.lst (ds.map V.int)) := upd_same
  have fc : H c = none := s1.free nc
  generalize upd H1 c (.lst (ds.map V.int)) = H2 at s2 ec
  refine ⟨_, rfl, 63, rfl, a, _, rfl, s2.seq hS, fun p3 n3 => ?_⟩
  rw [e1]
  have s3 := s2.trans (same_new n3 (.lst (ds.map V.int)))
  have ec3 := kn (o' := .lst (ds.map V.int)) ec n3
  have e3 : upd H2 p3 (.lst (ds.map V.int)) p3 = some (.lst (ds.map V.int)) := upd_same
  generalize upd H2 p3 (.lst (ds.map V.int)) = H3 at s3 ec3 e3
  refine ⟨p3, rfl, ⟨_, SqL.of e3⟩, fun D hD => ?_⟩
  refine lc_list (K := K) (a := p3) (xs := ds.map V.int) (fun i H' => Same H3 H' ∧ ∃ ms : List Int, H' D = some (.lst (ms.map V.int)) ∧ ms.length ≤ i) ⟨same_new hD _, [], upd_same, Nat.le_refl 0⟩ (fun i H' _ h => SqL.of (h.1 _ _ e3)) ?_ ?_
  · rintro i x H' hi ⟨sH, ms, eD, lm⟩
    obtain ⟨m, rfl⟩ : ∃ m, x = .int m := by
      obtain ⟨m, _, rfl⟩ := List.mem_map.mp (List.mem_of_getElem? hi)
      exact ⟨m, rfl⟩
    have hil : i < ds.length := by have := (List.getElem?_eq_some_iff.mp hi).1; rw [List.length_map] at this; exact this
    refine ⟨rfl, _, rfl, _, _, rfl, rfl, (by show (0 : Int) < 1000003; decide), _, eD, by rw [List.length_map]; exact small1000 (by omega), own_new sH hD, ms ++ [m % 1000003], ?_, by rw [List.length_append]; show ms.length + 1 ≤ i + 1; omega⟩
    rw [upd_same, List.map_append]; rfl
  · rintro H' ⟨sH, ms, eD, lm⟩
    rw [List.length_map] at lm
    refine ⟨D, ms, rfl, SqL.of eD, ?_⟩
    refine ⟨(by show 3 ≤ sizeLine; decide), fun d nd => ?_⟩
    have s4 := s3.trans sH
    refine q d c _ (s4.trans (same_new nd _)) (s4.free nd) fc ⟨(ne_of_none (sH _ _ ec3) nd).symm, ⟨_, _, upd_same⟩, ds, kn (sH _ _ ec3) nd, by omega⟩
def spTake : Sp := fun vs H Q _ => ∃ (d c : Addr) (m : Int), vs = [.ref d, .int m] ∧ Deck H d c ∧ 0 < m ∧ m < 2 ^ 64 ∧
  ∀ (r : Int) (H' : Hp), 0 ≤ r → r < m → Kp [d, c] H H' → Deck H' d c → Q (.int r) H'
theorem scDraw : FnScope ["_law_deck_here", "_law_most", "_law_cell", "_law_number_here"] ["_law_deck_here", "_law_most"] (defScope s_L_draw) := ⟨rfl, rfl, rfl, by decide +kernel, rfl, by decide +kernel, by decide +kernel⟩
theorem ok_draw {f : Addr} {fd : FuncData} (F : Fun K "_law_draw" "_law_draw" s_L_draw f fd) : FnOk P w K mg base CX0 2 f fd ["_law_deck_here", "_law_most"] spTake := by
  refine F.ok scDraw (fun vs H Q E h => ?_) (fun cdv A outer s H vs Q E hr h => ?_)
  · obtain ⟨d, c, m, rfl, _⟩ := h
    rfl
  obtain ⟨d, c, m, rfl, D, m0, m1, q⟩ := h
  obtain ⟨k, sm, hd⟩ := D.at_
  obtain ⟨ms, hc, hl⟩ := D.cells
  have dm : d ∈ [d, c] := List.mem_cons_self ..
  have cm : c ∈ [d, c] := List.mem_cons_of_mem _ (List.mem_singleton.mpr rfl)
  refine ⟨_, pss_cons (ps_asg (pe_op op_add (pe_ix ix_list (pv 0) pe_int (fun _ _ => rfl)) pe_int) (pg_sub (pv 0) pe_int set_list))
    (pss_cons (ps_set (i := 2) scDraw.nd rfl (.inl rfl) (pe_op op_add (pe_ix ix_list (pv 0) pe_int (fun _ _ => rfl)) (pe_op op_mul pe_int (pe_ix ix_list (pv 0) pe_int (fun _ _ => rfl)))))
    (C8.pss_cut (ps_if (pt_cmpR (op_neD hr.units) (pe_ix ix_list (pv 0) pe_int (fun _ _ => rfl)) (pe_lst pa_nil) (nomark _))
      (pss_cons (ps_set (i := 2) scDraw.nd rfl (.inl rfl) (pe_bm PySem.F.plainAttrs_list PySem.F.slot_list_pop PySem.F.type_list_pop mt_popAt (pe_ix ix_list (pv 0) pe_int (fun _ _ => rfl)) (pa_cons pe_int pa_nil)))
      (pss_one (ps_if (pt_cmpR op_ge (pv 2) (pe_op op_pow pe_int pe_int) (nomark _))
        (pss_cons (ps_expr (pe_bm PySem.F.plainAttrs_list PySem.F.slot_list_insert PySem.F.type_list_insert mt_insert (pe_ix ix_list (pv 0) pe_int (fun _ _ => rfl)) (pa_cons pe_int (pa_cons (pe_op op_fdivW (pv 2) (pv 1)) pa_nil))))
        (pss_one (ps_ret (pe_op op_mod (pv 2) (pv 1))))) pss_nil))) pss_nil)
    (pss_cons (ps_set (i := 3) scDraw.nd rfl (.inl rfl) (pe_op op_mod (pe_op op_mul (pe_op op_add (pe_op op_mod (pv 2) pe_int) (pe_op op_mul pe_int (pe_ix ix_list (pv 0) pe_int (fun _ _ => rfl)))) pe_int) pe_int))
    (pss_cons (ps_set (i := 3) scDraw.nd rfl (.inl rfl) (pe_op op_mod (pe_op op_add (pe_op op_add (pe_op op_mul (pv 3) (pv 3)) (pe_op op_mul pe_int (pv 3))) (pe_ix ix_list (pv 0) pe_int (fun _ _ => rfl))) pe_int))
    (pss_one (ps_ret (pe_op op_mod (pe_op op_fdivW (pv 3) pe_int) (pv 1)))))))), ?_⟩
  have ix : ∀ (j : Nat) (v : V) (k' : Int), [V.ref c, .int k', .int sm][j]? = some v → atI [V.ref c, .int k', .int sm] (j : Int) = some v := fun j v k' h => atI_nat h
  refine ⟨_, rfl, d, _, _, _, rfl, rfl, SqL.of hd, ix 1 _ k rfl, _, _, rfl, rfl, _, rfl, d, _, _, 1, rfl, rfl, hd, rfl, ?_⟩
  have hd1 : upd H d (.lst [.ref c, .int (k + 1), .int sm]) d = some (.lst [.ref c, .int (k + 1), .int sm]) := upd_same
  have hc1 : upd H d (.lst [.ref c, .int (k + 1), .int sm]) c = some (.lst (ms.map V.int)) := by rw [upd_ne D.ne.symm]; exact hc
  have k1 : Kp [d, c] H (upd H d (.lst [.ref c, .int (k + 1), .int sm])) := (Kp.refl _ H).own dm
  show tSeq _ _ _ _ (upd H d (.lst [.ref c, .int (k + 1), .int sm]))
  generalize upd H d (.lst [.ref c, .int (k + 1), .int sm]) = H1 at hd1 hc1 k1
  refine ⟨_, rfl, d, _, _, _, rfl, rfl, SqL.of hd1, ix 2 _ (k + 1) rfl, _, rfl, d, _, _, _, rfl, rfl, SqL.of hd1, ix 1 _ (k + 1) rfl, _, _, rfl, rfl, .inl ⟨by decide, by decide⟩, _, _, rfl, rfl, ?_⟩
  have last : ∀ (x : Int), 0 ≤ x % m ∧ x % m < m := fun x => ⟨Int.emod_nonneg _ (by omega), Int.emod_lt_of_pos _ m0⟩
  have nb : ∀ x : Int, 0 ≤ x % 2147483647 ∧ x % 2147483647 < 2147483647 := fun x => ⟨Int.emod_nonneg _ (by decide), Int.emod_lt_of_pos _ (by decide)⟩
  refine ⟨fun σ' H' => ∃ (cell : Int) (x3 : Option V) (ms' : List Int), σ' = [some (.ref d), some (.int m), some (.int cell), x3] ∧ Kp [d, c] H H' ∧ H' d = some (.lst [.ref c, .int (k + 1), .int sm]) ∧ H' c = some (.lst (ms'.map V.int)) ∧ ms'.length ≤ 1000, ?_, ?_⟩
  · refine ⟨_, rfl, d, _, _, _, rfl, rfl, SqL.of hd1, ix 0 _ (k + 1) rfl, (by show 0 ≤ sizeLine; decide), fun p hp => ?_⟩
    have k2 : Kp [d, c] H (upd H1 p (.lst [])) := k1.new hp
    have hd2 := kn (o' := .lst []) hd1 hp
    have hc2 := kn (o' := .lst []) hc1 hp
    refine ⟨_, _, .lst (SqL.of hc2) (dp_ints ms), .lst (SqL.of upd_same) .nil, Cm.shaped_ints ms, rfl, _, rfl, ?_⟩
    generalize upd H1 p (.lst []) = H2 at hd2 hc2 k2
    rcases ms with _ | ⟨n, ns⟩
    · refine iteF ?_
      exact ⟨_, _, [], rfl, k2, hd2, hc2, by decide⟩
    · refine iteT ?_
      rw [List.length_cons] at hl
      refine ⟨_, rfl, d, _, _, _, rfl, rfl, SqL.of hd2, ix 0 _ (k + 1) rfl, .inl ⟨rfl, _, SqL.of hc2⟩, c, _, 0, 0, _, rfl, rfl, hc2, by decide, by decide, (by unfold seqIndex?; simp), rfl, ?_⟩
      have hd3 : upd H2 c (.lst (ns.map V.int)) d = some (.lst [.ref c, .int (k + 1), .int sm]) := by rw [upd_ne D.ne]; exact hd2
      have k3 : Kp [d, c] H (upd H2 c (.lst (ns.map V.int))) := k2.own cm
      have hc3 : upd H2 c (.lst (ns.map V.int)) c = some (.lst (ns.map V.int)) := upd_same
      refine ⟨_, rfl, _, _, rfl, rfl, ⟨by decide, by decide, by decide⟩, _, _, rfl, rfl, _, rfl, ?_⟩
      refine ite2 (fun _ => ?_) (fun _ => ?_)
      · refine ⟨_, rfl, d, _, _, _, rfl, rfl, SqL.of hd3, ix 0 _ (k + 1) rfl, .inl ⟨rfl, _, SqL.of hc3⟩, _, rfl, _, rfl, _, _, rfl, rfl, wide_div m0 (b := 64) (by omega) (by decide) (by decide), c, _, 0, _, rfl, rfl, hc3, by rw [List.length_map]; exact small1000 (by omega), by decide, by decide, ?_⟩
        refine ⟨_, rfl, _, rfl, _, _, rfl, rfl, m0, ?_⟩
        refine q _ _ (last _).1 (last _).2 (k3.own cm) ⟨D.ne, ⟨_, _, by rw [upd_ne D.ne]; exact hd3⟩, (n / m) :: ns, upd_same, ?_⟩
        rw [List.length_cons]; omega
      · exact ⟨_, _, ns, rfl, k3, hd3, hc3, by omega⟩
  · rintro σ' H' ⟨cell, x3, ms', rfl, kk, hd4, hc4, hl4⟩
    refine ⟨_, rfl, _, _, rfl, rfl, (by show (0 : Int) < 2147483629; decide), _, rfl, d, _, _, _, rfl, rfl, SqL.of hd4, ix 1 _ (k + 1) rfl, _, _, rfl, rfl, .inl ⟨by decide, by decide⟩, _, _, rfl, rfl, _, _, rfl, rfl, .inr ⟨by decide, by decide⟩, _, _, rfl, rfl, (by show (0 : Int) < 2147483647; decide), ?_⟩
    generalize e1 : ((cell % 2147483629 + 7919 * (k + 1)) * 48271) % 2147483647 = n1
    have b1 : 0 ≤ n1 ∧ n1 < 2147483647 := by rw [← e1]; exact nb _
    refine ⟨_, rfl, _, rfl, _, _, rfl, rfl, .inl ⟨by omega, by omega⟩, _, rfl, _, _, rfl, rfl, .inl ⟨by decide, by decide⟩, _, _, rfl, rfl, _, rfl, d, _, _, _, rfl, rfl, SqL.of hd4, ix 1 _ (k + 1) rfl, _, _, rfl, rfl, _, _, rfl, rfl, (by show (0 : Int) < 2147483587; decide), ?_⟩
    refine ⟨_, rfl, _, _, rfl, rfl, wide_div (by decide) (b := 64) (by decide) (by decide) (by decide), _, rfl, _, _, rfl, rfl, m0, ?_⟩
    exact q _ _ (last _).1 (last _).2 kk ⟨D.ne, ⟨_, _, hd4⟩, ms', hc4, hl4⟩
/-! the deck as a thing of the store -/
def dkO (d c : Addr) : DO := .abs [d, c] (fun H => Deck H d c)
theorem deck_loc {d c : Addr} (H1 H2 : Hp) (h : ∀ b ∈ [d, c], H1 b = H2 b) (D : Deck H1 d c) : Deck H2 d c := by
  obtain ⟨s, k, e⟩ := D.at_
  obtain ⟨ms, e2, l⟩ := D.cells
  exact ⟨D.ne, ⟨s, k, by rw [← h d (List.mem_cons_self ..)]; exact e⟩, ms, by rw [← h c (List.mem_cons_of_mem _ (List.mem_singleton.mpr rfl))]; exact e2, l⟩
theorem deck_lst {H : Hp} {d c : Addr} (D : Deck H d c) : ∀ b ∈ [d, c], ∃ xs, H b = some (.lst xs) := fun b hb => by
  obtain ⟨s, k, e⟩ := D.at_
  obtain ⟨ms, e2, l⟩ := D.cells
  rcases List.mem_cons.mp hb with z | z
  · rw [z]; exact ⟨_, e⟩
  · rw [List.mem_singleton.mp z]; exact ⟨_, e2⟩
/-- there is a deck -/
def HasDk (G : DG) (d : Addr) : Prop := ∃ c, G d = some (dkO d c)
def SP_draw : DSp := fun ds G R => ∃ d m, ds = [.ref d, .int m] ∧ HasDk G d ∧ 0 < m ∧ m < 2 ^ 64 ∧ ∀ r, 0 ≤ r → r < m → R (.int r) G
abbrev A_L_draw : List Str := ["_law_deck_here", "_law_most"]
theorem h_draw (a : At K mg "_law_draw" s_L_draw A_L_draw) : Has P w K mg base 2 "_law_draw" A_L_draw SP_draw := by
  refine has_of a (fun f fd F => ok_draw F) fun vs H Q E ⟨ds, G, R, r, wd, l, ⟨d, m, e, ⟨c, hk⟩, m0, m1, q⟩, fin⟩ => ?_
  subst e
  cases r with
  | cons r1 r2 =>
    cases r2 with
    | cons r2 r3 =>
      cases r3
      cases r1
      cases r2
      obtain ⟨O, wo⟩ := id wd
      obtain ⟨_, _, D, _⟩ := wo.ob d _ hk
      refine ⟨d, c, m, rfl, D, m0, m1, fun r H' r0 r1 kp D' => ?_⟩
      have t : TKs K H H' := TKs.kp kp (deck_lst D)
      exact fin _ G _ H' (q r r0 r1) t (wd.abs_keep hk kp t D' (deck_lst D')) (.int r)
end
end K39
set_option maxHeartbeats 400000
namespace K39
open PySem PySem.W L2 SX Cm DD

/-! ### places -/
abbrev Pc := Wo ⊕ Th
def eX : Pc → DV
  | .inl w => eW w
  | .inr t => eT t
def partsT : Th → List Pc
  | .num _ => []
  | .row ws => ws.map .inl
  | .lst ts => ts.map .inr
def parts : Pc → List Pc
  | .inl (.txt _) => []
  | .inl (.push t) => partsT t
  | .inr t => partsT t
abbrev Itm := List Int × Pc
def eI (x : Itm) : DV := .tup [plD x.1, eX x.2]
def kidsF (p : List Int) (k : Nat) (xs : List Pc) : List Itm := (xs.zipIdx k).map fun y => (p ++ [((y.2 : Nat) : Int)], y.1)
def kids (x : Itm) : List Itm := kidsF x.1 0 (parts x.2)
mutual
def plT (p : List Int) : Th → List (List Int × Wo)
  | .num _ => []
  | .row ws => plWs p 0 ws
  | .lst ts => plTs p 0 ts
def plW (p : List Int) : Wo → List (List Int × Wo)
  | .txt _ => []
  | .push t => plT p t
def plWs (p : List Int) (k : Nat) : List Wo → List (List Int × Wo)
  | [] => []
  | w :: r => (p ++ [(k : Int)], w) :: (plW (p ++ [(k : Int)]) w ++ plWs p (k + 1) r)
def plTs (p : List Int) (k : Nat) : List Th → List (List Int × Wo)
  | [] => []
  | t :: r => plT (p ++ [(k : Int)]) t ++ plTs p (k + 1) r
end
def out : Itm → List (List Int × Wo)
  | (p, .inl w) => (p, w) :: plW p w
  | (p, .inr t) => plT p t
theorem kidsF_cons (p : List Int) (k : Nat) (x : Pc) (r : List Pc) : kidsF p k (x :: r) = (p ++ [(k : Int)], x) :: kidsF p (k + 1) r := by
  unfold kidsF
  rw [List.zipIdx_cons, List.map_cons]
theorem plWs_kids (p : List Int) : ∀ (k : Nat) (ws : List Wo), plWs p k ws = (kidsF p k (ws.map .inl)).flatMap out
  | _, [] => rfl
  | k, w :: r => by
    rw [List.map_cons, kidsF_cons, List.flatMap_cons, ← plWs_kids p (k + 1) r]
    rfl
theorem plTs_kids (p : List Int) : ∀ (k : Nat) (ts : List Th), plTs p k ts = (kidsF p k (ts.map .inr)).flatMap out
  | _, [] => rfl
  | k, t :: r => by
    rw [List.map_cons, kidsF_cons, List.flatMap_cons, ← plTs_kids p (k + 1) r]
    rfl
theorem plT_kids (p : List Int) (t : Th) : plT p t = (kidsF p 0 (partsT t)).flatMap out := by
  cases t with
  | num n => rfl
  | row ws => exact plWs_kids p 0 ws
  | lst ts => exact plTs_kids p 0 ts
theorem out_kids (p : List Int) (x : Pc) : out (p, x) = (match x with | .inl w => [(p, w)] | .inr _ => []) ++ (kids (p, x)).flatMap out := by
  cases x with
  | inl w =>
    cases w with
    | txt z => rfl
    | push t => show (p, Wo.push t) :: plT p t = _; rw [plT_kids]; rfl
  | inr t => show plT p t = _; rw [plT_kids]; rfl
def szX : Pc → Nat
  | .inl w => szW w
  | .inr t => szT t
def szI (xs : List Itm) : Nat := (xs.map fun x => szX x.2).sum
theorem szI_app (a b : List Itm) : szI (a ++ b) = szI a + szI b := by unfold szI; rw [List.map_append, List.sum_append]
theorem szI_rev (a : List Itm) : szI a.reverse = szI a := by unfold szI; rw [List.map_reverse, List.sum_reverse]
theorem szI_len : ∀ a : List Itm, a.length ≤ szI a
  | [] => Nat.le_refl 0
  | x :: r => by
    have h := szI_len r
    have : 1 ≤ szX x.2 := by
      cases x.2 with
      | inl w => exact szW_pos w
      | inr t => exact szT_pos t
    show r.length + 1 ≤ szX x.2 + szI r
    omega
theorem szI_ws (p : List Int) : ∀ (k : Nat) (ws : List Wo), szI (kidsF p k (ws.map .inl)) = szWs ws
  | _, [] => rfl
  | k, w :: r => by
    rw [List.map_cons, kidsF_cons]
    show szW w + szI _ = szW w + szWs r
    rw [szI_ws p (k + 1) r]
theorem szI_ts (p : List Int) : ∀ (k : Nat) (ws : List Th), szI (kidsF p k (ws.map .inr)) = szTs ws
  | _, [] => rfl
  | k, w :: r => by
    rw [List.map_cons, kidsF_cons]
    show szT w + szI _ = szT w + szTs r
    rw [szI_ts p (k + 1) r]
theorem szI_kidsT (p : List Int) (t : Th) : szI (kidsF p 0 (partsT t)) + 1 ≤ szT t := by
  cases t with
  | num n => exact Nat.le_refl 1
  | row ws => show szI (kidsF p 0 (ws.map .inl)) + 1 ≤ 1 + szWs ws; rw [szI_ws]; omega
  | lst ts => show szI (kidsF p 0 (ts.map .inr)) + 1 ≤ 1 + szTs ts; rw [szI_ts]; omega
theorem szI_kids (x : Itm) : szI (kids x) + 1 ≤ szX x.2 := by
  obtain ⟨p, x⟩ := x
  cases x with
  | inl w =>
    cases w with
    | txt z => exact Nat.le_refl 1
    | push t => have := szI_kidsT p t; show szI (kidsF p 0 (partsT t)) + 1 ≤ 1 + szT t; omega
  | inr t => exact szI_kidsT p t
theorem kidsF_len (p : List Int) (k : Nat) (xs : List Pc) : (kidsF p k xs).length = xs.length := by unfold kidsF; rw [List.length_map, List.length_zipIdx]
theorem le_sum : ∀ {l : List Nat} {n : Nat}, n ∈ l → n ≤ l.sum
  | a :: r, n, h => by
    rw [List.sum_cons]
    rcases List.mem_cons.mp h with rfl | h
    · omega
    · have := le_sum h; omega
def ownX (p : List Int) : Pc → List (List Int × Wo)
  | .inl w => [(p, w)]
  | .inr _ => []
theorem out_own (p : List Int) (x : Pc) : out (p, x) = ownX p x ++ (kids (p, x)).flatMap out := by
  rw [out_kids]; cases x <;> rfl
theorem kids_len {p : List Int} {x : Pc} {y : Itm} (h : y ∈ kids (p, x)) : y.1.length = p.length + 1 ∧ szX y.2 + 1 ≤ szX x := by
  have h' : y ∈ kidsF p 0 (parts x) := h
  have e : y.1.length = p.length + 1 := by
    unfold kidsF at h'
    obtain ⟨z, _, rfl⟩ := List.mem_map.mp h'
    show (p ++ [_]).length = _
    rw [List.length_append]; rfl
  refine ⟨e, ?_⟩
  have := szI_kids (p, x)
  have m : szX y.2 ≤ szI (kids (p, x)) := le_sum (List.mem_map.mpr ⟨y, h, rfl⟩)
  show _ ≤ szX x
  have : szI (kids (p, x)) + 1 ≤ szX x := this
  omega
theorem eParts_W : ∀ ws : List Wo, eWs ws = (ws.map Sum.inl).map eX
  | [] => rfl
  | w :: r => by show eW w :: eWs r = _; rw [eParts_W r]; rfl
theorem eParts_T : ∀ ws : List Th, eTs ws = (ws.map Sum.inr).map eX
  | [] => rfl
  | w :: r => by show eT w :: eTs r = _; rw [eParts_T r]; rfl
/-- a thing as it is held: its sort and its parts -/
theorem eT_parts (t : Th) : (∃ n, t = .num n) ∨ ∃ s, s ≠ ("number" : Str) ∧ s ≠ ("push" : Str) ∧ eT t = .tup [.str s, .tup ((partsT t).map eX)] := by
  cases t with
  | num n => exact .inl ⟨n, rfl⟩
  | row ws => exact .inr ⟨"row", by decide, by decide, by show DV.tup [.str "row", .tup (eWs ws)] = _; rw [eParts_W]; rfl⟩
  | lst ts => exact .inr ⟨"list", by decide, by decide, by show DV.tup [.str "list", .tup (eTs ts)] = _; rw [eParts_T]; rfl⟩
theorem eT_head (t : Th) : ∃ s x, eT t = .tup [.str s, x] ∧ s ≠ ("push" : Str) := by
  cases t with
  | num n => exact ⟨_, _, rfl, by decide⟩
  | row ws => exact ⟨_, _, rfl, by decide⟩
  | lst ts => exact ⟨_, _, rfl, by decide⟩
section
variable {P : Program} {w : World} {K : Frag} {mg : Str → Option Value} {base : Heap}
def SP_poi : DSp := fun ds G R => ∃ t, (ds = [eW (.push t)] ∨ ds = [eT t]) ∧ R (eT t) G
abbrev N_p_pushed_or_itself : List Str := ["piece"]
abbrev A_p_pushed_or_itself : List Str := ["piece"]
theorem sc_p_pushed_or_itself : FnScope N_p_pushed_or_itself A_p_pushed_or_itself (defScope s_p_pushed_or_itself) := ⟨rfl, rfl, rfl, by decide +kernel, rfl, by decide +kernel, by decide +kernel⟩
theorem h_p_pushed_or_itself (a : At K mg "pushed_or_itself" s_p_pushed_or_itself A_p_pushed_or_itself) (B : BI mg) : Has P w K mg base 1 "pushed_or_itself" A_p_pushed_or_itself SP_poi := by
  refine at_mk a sc_p_pushed_or_itself fun f cdv A outer s H E hr ds G R hl h => ?_
  refine ⟨_, (dss_one (ds_ret (de_if (dt_cmp (od_eq hr.units) (de_ix (dv 0) de_int) de_str (nomark _)) (de_ix (dv 0) de_int) (dv 0)))), ?_⟩
  obtain ⟨t, hd, q⟩ := h
  rcases hd with rfl | rfl
  · exact ⟨_, rfl, ⟨_, atI_nat (j := 0) rfl, _, rfl, iteT ⟨_, rfl, _, atI_nat (j := 1) rfl, Less.of q⟩⟩⟩
  · obtain ⟨s', x, e, ne⟩ := eT_head t
    rw [e] at q ⊢
    refine ⟨_, rfl, ⟨_, atI_nat (j := 0) rfl, _, rfl, ?_⟩⟩
    rw [decide_eq_false ne]
    exact iteF ⟨_, rfl, Less.of q⟩
/-- place and piece: what stands within, from the last one on -/
def SP_pw : DSp := fun ds G R => ∃ (p : List Int) (x : Pc), ds = [plD p, eX x] ∧ p.length ≤ 10000 ∧ (parts x).length ≤ 1000000 ∧ ∀ r, G r = none → R (.ref r) (dupd G r (.lst ((kids (p, x)).reverse.map eI)))
theorem fm_on {α β : Type} {F : α → Option β} {h : α → β} : ∀ {l : List α}, (∀ i ∈ l, F i = some (h i)) → l.filterMap F = l.map h
  | [], _ => rfl
  | x :: r, H => by
    rw [List.filterMap_cons_some (H x (List.mem_cons_self ..)), fm_on fun i hi => H i (List.mem_cons_of_mem _ hi)]; rfl
/-- one step of the comprehension -/
def stepF (p : List Int) (xs : List Pc) : DV → Option DV
  | .int i => (xs[i.toNat]?).map fun y => DV.tup [plD (p ++ [i]), eX y]
  | _ => none
theorem rng_kids (p : List Int) (xs : List Pc) : ((rng 0 xs.length).reverse).filterMap (stepF p xs) = ((kidsF p 0 xs).reverse).map eI := by
  rw [List.filterMap_reverse, List.map_reverse]
  congr 1
  unfold rng kidsF
  rw [List.filterMap_map, fm_on (h := fun i => match xs[i]? with | some y => DV.tup [plD (p ++ [(i : Int)]), eX y] | none => .non), List.map_map]
  · refine List.ext_getElem? fun i => ?_
    rw [List.getElem?_map, List.getElem?_map, List.getElem?_zipIdx]
    by_cases hi : i < xs.length
    · rw [List.getElem?_range hi, List.getElem?_eq_getElem hi]
      show some (match xs[i]? with | some y => DV.tup [plD (p ++ [(i : Int)]), eX y] | none => .non) = some _
      rw [List.getElem?_eq_getElem hi]
      show some (DV.tup [plD (p ++ [(i : Int)]), eX xs[i]]) = some (DV.tup [plD (p ++ [((0 + i : Nat) : Int)]), eX xs[i]])
      rw [Nat.zero_add]
    · rw [List.getElem?_eq_none (by rw [List.length_range]; omega), List.getElem?_eq_none (by omega)]; rfl
  · intro i hi
    have hi := List.mem_range.mp hi
    show (xs[((0 : Int) + (i : Nat)).toNat]?).map _ = _
    have e : ((0 : Int) + (i : Nat)).toNat = i := by omega
    rw [e, List.getElem?_eq_getElem hi]
    show some (DV.tup [plD (p ++ [(0 : Int) + (i : Nat)]), eX xs[i]]) = some _
    rw [Int.zero_add]
abbrev N_p_placed_within : List Str := ["place", "piece", "sort", "held", "at"]
abbrev A_p_placed_within : List Str := ["place", "piece"]
theorem sc_p_placed_within : FnScope N_p_placed_within A_p_placed_within (defScope s_p_placed_within) := ⟨rfl, rfl, rfl, by decide +kernel, rfl, by decide +kernel, by decide +kernel⟩
theorem h_p_placed_within (a : At K mg "placed_within" s_p_placed_within A_p_placed_within) (B : BI mg) (c_p_pushed_or_itself : Has P w K mg base 1 "pushed_or_itself" A_p_pushed_or_itself SP_poi) : Has P w K mg base 2 "placed_within" A_p_placed_within SP_pw := by
  refine at_mk a sc_p_placed_within fun f cdv A outer s H E hr ds G R hl h => ?_
  refine ⟨_, (dss_cons (ds_if (dt_e (de_callB cd_isi B.isi rfl (by decide +kernel) (da_cons (dv 1) (da_cons (de_ty (n := "str") B.str rfl (by decide +kernel)) da_nil)))) (dss_one (ds_ret (de_lst da_nil))) dss_nil)
    (dss_cons (ds_asg (de_call c_p_pushed_or_itself (hr.mono (by omega)) rfl (da_cons (dv 1) da_nil)) (dg_tup rfl (dgs_cons (dg_name (i := 2) sc_p_placed_within.nd rfl (.inl rfl)) (dgs_cons (dg_name (i := 3) sc_p_placed_within.nd rfl (.inr rfl)) dgs_nil))))
    (dss_cons (ds_if (dt_cmp (od_eq hr.units) (dv 2) de_str (nomark _)) (dss_one (ds_ret (de_lst da_nil))) dss_nil)
    (dss_one (ds_ret (de_lc (own := [("at", 4)]) (lt1 (i := 4) (by decide)) rfl sc_p_placed_within.nd (di_revR B.rev B.range rfl rfl (de_callB cd_len B.len rfl (by decide +kernel) (da_cons (dv 3) da_nil))) (blkOk_by (own := [("at", 4)]) (N := N_p_placed_within) (sc := defScope s_p_placed_within) (by decide +kernel)) (fun _ _ _ _ _ => pg_name (i := 4) sc_p_placed_within.nd rfl (Or.inl rfl)) (fun _ _ _ _ _ => dts_nil) (fun _ _ _ _ _ => (de_tup (da_cons (de_op od_add (dv 0) (de_tup (da_cons (dv 4) da_nil))) (da_cons (de_ix (dv 3) (dv 4)) da_nil)))))))))), ?_⟩
  obtain ⟨p, x, rfl, lp, lx, q⟩ := h
  have key : (∃ z, x = .inl (.txt z)) ∨ ∃ t ys, ([eX x] = [eW (.push t)] ∨ [eX x] = [eT t]) ∧ parts x = partsT t ∧ eX x = .tup ys := by
    cases x with
    | inl w0 =>
      cases w0 with
      | txt z => exact .inl ⟨z, rfl⟩
      | push t => exact .inr ⟨t, _, .inl rfl, rfl, rfl⟩
    | inr t =>
      obtain ⟨s', y, e, _⟩ := eT_head t
      exact .inr ⟨t, _, .inr rfl, rfl, e⟩
  rcases key with ⟨z, rfl⟩ | ⟨t, ys, hd, hp, ey⟩
  · refine ⟨_, rfl, ⟨by decide, "str", true, rfl, by decide, tru (iteT ?_)⟩⟩
    exact ⟨mid (by decide), fun r nr => Less.of (q r nr)⟩
  have ht : TyAt G (eX x) "tuple" := by rw [ey]; rfl
  refine ⟨_, rfl, ⟨by decide, "tuple", false, ht, by decide, tru (iteF ?_)⟩⟩
  refine ⟨_, rfl, rfl, t, hd, ?_⟩
  have ek : kids (p, x) = kidsF p 0 (partsT t) := by unfold kids; rw [hp]
  rw [ek] at q
  rw [hp] at lx
  rcases eT_parts t with ⟨n, rfl⟩ | ⟨s', n1, n2, e⟩
  · exact ⟨_, rfl, rfl, _, _, rfl, _, _, rfl, rfl, ⟨_, rfl, _, rfl, iteT ⟨mid (by decide), fun r nr => Less.of (q r nr)⟩⟩⟩
  rw [e]
  refine ⟨_, rfl, rfl, _, _, rfl, _, _, rfl, rfl, ⟨_, rfl, _, rfl, ?_⟩⟩
  rw [decide_eq_false n1]
  refine iteF ?_
  generalize partsT t = xs at q lx e
  refine ⟨_, rfl, _, rfl, by omega, ?_, ?_⟩
  · rw [List.length_map]; omega
  rw [List.length_map]
  have el : (((xs.length : Nat) : Int)).toNat = xs.length := by omega
  rw [el]
  refine lc_pure (stepF p xs) (fun _ _ _ => trivial) (by rw [List.length_reverse, rng_len]; exact lx) (fun d hd G' k1 k0 _ h1 h0 => ?_) (fun r nr => Less.of (by rw [rng_kids]; exact q r nr))
  rw [List.mem_reverse] at hd
  unfold rng at hd
  obtain ⟨i, hi, rfl⟩ := List.mem_map.mp hd
  have hi := List.mem_range.mp hi
  have e0 : (0 : Int) + (i : Nat) = (i : Int) := by omega
  rw [e0] at h1 h0 ⊢
  have hs : stepF p xs (.int (i : Int)) = some (DV.tup [plD (p ++ [(i : Int)]), eX xs[i]]) := by
    show (xs[((i : Int)).toNat]?).map _ = _
    rw [show ((i : Int)).toNat = i by omega, List.getElem?_eq_getElem hi]; rfl
  have hk := h1 _ hs
  unfold plD at hk
  rw [List.map_append] at hk
  refine ly1 ?_
  refine iteT ⟨_, rfl, _, rfl, sz1, ?_⟩
  refine ⟨mid (by rw [List.length_map]; show p.length + 1 ≤ _; omega), _, rfl, _, rfl, eX xs[i], ?_, sz2, hk⟩
  exact atI_nat (by rw [List.getElem?_map, List.getElem?_eq_getElem hi]; rfl)

/-- the words of a row and their places -/
def eO (x : List Int × Wo) : DV := .tup [plD x.1, eW x.2]
def SP_pws : DSp := fun ds G R => ∃ ws : List Wo, ds = [.tup (eWs ws)] ∧ szWs ws ≤ 10000 ∧ ∀ r, G r = none → R (.ref r) (dupd G r (.lst ((plWs [] 0 ws).map eO)))
abbrev N_p_placed_words : List Str := ["row", "placed", "waiting", "place", "piece"]
abbrev A_p_placed_words : List Str := ["row"]
theorem sc_p_placed_words : FnScope N_p_placed_words A_p_placed_words (defScope s_p_placed_words) := ⟨rfl, rfl, rfl, by decide +kernel, rfl, by decide +kernel, by decide +kernel⟩
theorem h_p_placed_words (a : At K mg "placed_words" s_p_placed_words A_p_placed_words) (B : BI mg) (c_p_placed_within : Has P w K mg base 2 "placed_within" A_p_placed_within SP_pw) : Has P w K mg base 3 "placed_words" A_p_placed_words SP_pws := by
  refine at_mk a sc_p_placed_words fun f cdv A outer s H E hr ds G R hl h => ?_
  refine ⟨_, (dss_cons (ds_set (i := 1) sc_p_placed_words.nd rfl (.inl rfl) (de_lst da_nil))
    (dss_cons (ds_set (i := 2) sc_p_placed_words.nd rfl (.inl rfl) (de_call c_p_placed_within (hr.mono (by omega)) rfl (da_cons (de_tup da_nil) (da_cons (de_tup (da_cons de_str (da_cons (dv 0) da_nil))) da_nil))))
    (dss_cons (ds_while PassesOwn.never (dt_e (dv 2)) (dss_cons (ds_asg (de_bm0 PySem.F.plainAttrs_list PySem.F.slot_list_pop PySem.F.type_list_pop md_pop (dv 2)) (dg_tup rfl (dgs_cons (dg_name (i := 3) sc_p_placed_words.nd rfl (.inl rfl)) (dgs_cons (dg_name (i := 4) sc_p_placed_words.nd rfl (.inl rfl)) dgs_nil))))
      (dss_cut (ds_if (dt_w (dw_or (dt_e (de_callB cd_isi B.isi rfl (by decide +kernel) (da_cons (dv 4) (da_cons (de_ty (n := "str") B.str rfl (by decide +kernel)) da_nil)))) (dw_or1 (dt_cmp (od_eq hr.units) (de_ix (dv 4) de_int) de_str (nomark _))))) (dss_one (ds_expr (de_bm PySem.F.plainAttrs_list PySem.F.slot_list_append PySem.F.type_list_append md_append (dv 1) (da_cons (de_tup (da_cons (dv 3) (da_cons (dv 4) da_nil))) da_nil)))) dss_nil)
      (dss_one (ds_expr (de_bm PySem.F.plainAttrs_list PySem.F.slot_list_extend PySem.F.type_list_extend md_extend (dv 2) (da_cons (de_call c_p_placed_within (hr.mono (by omega)) rfl (da_cons (dv 3) (da_cons (dv 4) da_nil))) da_nil)))))))
    (dss_one (ds_ret (dv 1)))))), ?_⟩
  obtain ⟨ws, rfl, hz, q⟩ := h
  refine ⟨sz0, fun pl npl => ?_⟩
  refine ⟨sz0, _, rfl, sz2, rfl, [], .inr (.row ws), rfl, by decide, ?_, fun wt nwt => ?_⟩
  · show (ws.map Sum.inl).length ≤ _
    rw [List.length_map]; have := szWs_len ws; omega
  have nw : pl ≠ wt := ne_some dupd_same nwt
  have gw : G wt = none := by rw [dupd_ne nw.symm] at nwt; exact nwt
  have kz := szI_kids ([], .inr (.row ws))
  have kz' : szI (kids ([], .inr (.row ws))) = szWs ws := szI_ws [] 0 ws
  refine ⟨fun m δ G' => ∃ (st : List Itm) (done : List (List Int × Wo)) (x3 x4 : Option DV), δ = [some (.tup (eWs ws)), some (.ref pl), some (.ref wt), x3, x4] ∧ Sub G G' ∧ G' pl = some (.lst (done.map eO)) ∧ G' wt = some (.lst (st.map eI)) ∧ m = szI st ∧ done ++ st.reverse.flatMap out = plWs [] 0 ws ∧ (∀ x ∈ st, x.1.length + szX x.2 ≤ 10001) ∧ done.length + szI st ≤ 10000,
    ⟨_, (kids ([], .inr (.row ws))).reverse, [], none, none, rfl, (Sub.new (Sub.refl G) npl).new gw, by rw [dupd_ne nw]; exact dupd_same, dupd_same, rfl, ?_, ?_, ?_⟩, ?_⟩
  · rw [List.reverse_reverse, List.nil_append, plWs_kids]; rfl
  · intro x hx
    have := kids_len (List.mem_reverse.mp hx)
    show _ ≤ 10001
    have e : szX (.inr (.row ws)) = 1 + szWs ws := rfl
    rw [e] at this
    have l0 : ([] : List Int).length = 0 := rfl
    omega
  · rw [szI_rev, kz']; show 0 + _ ≤ _; omega
  rintro m δ G' ⟨st, done, x3, x4, rfl, sG, hpl, hwt, rfl, hout, hlen, hsz⟩
  refine ⟨_, rfl, .inl ⟨_, .inl hwt, ?_⟩⟩
  rcases List.eq_nil_or_concat st with rfl | ⟨st', x, rfl⟩
  · refine iteF ⟨_, rfl, _, Sub.at_ sG hpl, ?_⟩
    have e : done = plWs [] 0 ws := by
      rw [← hout]; show done = done ++ []; rw [List.append_nil]
    rw [e]
    exact q pl npl
  rw [List.concat_eq_append] at *
  have he : (!((st' ++ [x]).map eI).isEmpty) = true := by rw [List.map_append]; cases st'.map eI <;> rfl
  rw [he]
  refine iteT ?_
  rw [List.map_append] at hwt
  obtain ⟨p, x⟩ := x
  have hx := hlen (p, x) (List.mem_append_right _ (List.mem_singleton.mpr rfl))
  have hx : p.length + szX x ≤ 10001 := hx
  have kx : szI (kids (p, x)) + 1 ≤ szX x := szI_kids (p, x)
  have xp : 1 ≤ szX x := by omega
  rw [szI_app] at hsz
  have e1 : szI [(p, x)] = szX x + 0 := rfl
  rw [List.reverse_append, List.flatMap_append] at hout
  have hout : done ++ (out (p, x) ++ st'.reverse.flatMap out) = plWs [] 0 ws := by
    rw [← hout]
    congr 2
    show _ = out (p, x) ++ []
    rw [List.append_nil]
  refine ⟨_, rfl, .inl ⟨rfl, _, .inl hwt⟩, wt, _, eI (p, x), rfl, rfl, hwt, ?_⟩
  refine ⟨_, rfl, rfl, _, _, rfl, _, _, rfl, rfl, ?_⟩
  have sG1 : Sub G (dupd G' wt (.lst (st'.map eI))) := sG.new gw
  have hpl1 : dupd G' wt (.lst (st'.map eI)) pl = some (.lst (done.map eO)) := by rw [dupd_ne nw]; exact hpl
  have hwt1 : dupd G' wt (.lst (st'.map eI)) wt = some (.lst (st'.map eI)) := dupd_same
  generalize dupd G' wt (.lst (st'.map eI)) = G1 at sG1 hpl1 hwt1
  have ol : (ownX p x).length ≤ 1 := by cases x with | inl w => exact Nat.le_refl 1 | inr t => exact Nat.zero_le 1
  refine ⟨fun δ' G2 => δ' = [some (.tup (eWs ws)), some (.ref pl), some (.ref wt), some (plD p), some (eX x)] ∧ Sub G G2 ∧ G2 pl = some (.lst ((done ++ ownX p x).map eO)) ∧ G2 wt = some (.lst (st'.map eI)), ?_, ?_⟩
  · have app : ∀ w0, x = .inl w0 → dDrop (dBM "list" bAppend (dVar 1) (dCons (dTup (dCons (dVar 3) (dCons (dVar 4) dNil))) dNil)) { nx := fun δ' G2 => δ' = [some (.tup (eWs ws)), some (.ref pl), some (.ref wt), some (plD p), some (eX x)] ∧ Sub G G2 ∧ G2 pl = some (.lst ((done ++ ownX p x).map eO)) ∧ G2 wt = some (.lst (st'.map eI)), rt := fun _ _ => False } [some (.tup (eWs ws)), some (.ref pl), some (.ref wt), some (plD p), some (eX x)] G1 := by
      rintro w0 rfl
      refine ⟨_, rfl, .inl ⟨rfl, _, .inl hpl1⟩, _, rfl, _, rfl, sz2, pl, _, _, rfl, rfl, hpl1, midlt (by rw [List.length_map]; omega), rfl, sG1.new npl, ?_, ?_⟩
      · rw [dupd_same, List.map_append]; rfl
      · rw [dupd_ne nw.symm]; exact hwt1
    cases x with
    | inl w0 =>
      cases w0 with
      | txt z =>
        refine ⟨_, rfl, by decide, "str", true, rfl, by decide, tru (iteT (iteT ?_))⟩
        obtain ⟨d, h1, h2⟩ := app _ rfl
        exact ⟨d, h1, h2⟩
      | push t =>
        refine ⟨_, rfl, by decide, "tuple", false, rfl, by decide, tru (iteF ?_)⟩
        refine ⟨_, rfl, _, atI_nat (j := 0) rfl, _, rfl, iteT ?_⟩
        obtain ⟨d, h1, h2⟩ := app _ rfl
        exact ⟨d, h1, h2⟩
    | inr t =>
      obtain ⟨s', y, e, ne⟩ := eT_head t
      have e' : eX (.inr t) = .tup [.str s', y] := e
      rw [e']
      refine ⟨_, rfl, by decide, "tuple", false, rfl, by decide, tru (iteF ?_)⟩
      refine ⟨_, rfl, _, atI_nat (j := 0) rfl, _, rfl, ?_⟩
      rw [decide_eq_false ne]
      refine iteF ⟨rfl, sG1, ?_, hwt1⟩
      show _ = some (DO.lst ((done ++ []).map eO))
      rw [List.append_nil]; exact hpl1
  · rintro δ' G2 ⟨rfl, sG2, hpl2, hwt2⟩
    refine ⟨_, rfl, .inl ⟨rfl, _, .inl hwt2⟩, _, rfl, _, rfl, rfl, p, x, rfl, by omega, ?_, fun r nr => ?_⟩
    · have := kidsF_len p 0 (parts x)
      have h2 := szI_len (kids (p, x))
      have : (kids (p, x)).length = (parts x).length := this
      omega
    have nrw := ne_some hwt2 nr
    have nrp := ne_some hpl2 nr
    have kl := szI_len (kids (p, x))
    have sl := szI_len st'
    have kx' : szI (kids (p, x)) + 1 ≤ szX x := kx
    refine ⟨wt, _, _, rfl, by rw [dupd_ne nrw]; exact hwt2, .inr ⟨r, rfl, dupd_same⟩, mid (by rw [List.length_map, List.length_map, List.length_reverse]; omega), ?_⟩
    refine ⟨_, ?_, st' ++ (kids (p, x)).reverse, done ++ ownX p x, _, _, rfl, (sG2.new (sG2.nonew nr)).new gw, ?_, ?_, rfl, ?_, ?_, ?_⟩
    · rw [szI_app, szI_rev, szI_app]; omega
    · rw [dupd_ne nw, dupd_ne nrp]; exact hpl2
    · rw [dupd_same, List.map_append]
    · rw [← hout, out_own, List.reverse_append, List.reverse_reverse, List.flatMap_append, List.append_assoc, List.append_assoc]
    · intro y hy
      rcases List.mem_append.mp hy with hy | hy
      · exact hlen y (List.mem_append_left _ hy)
      · have := kids_len (List.mem_reverse.mp hy)
        omega
    · rw [szI_app, szI_rev, List.length_append]
      omega
end
end K39
set_option maxHeartbeats 400000
namespace K39
open PySem PySem.W L2 SX Cm DD

/-! ### going down to a place -/
def walk : Pc → List Int → Option Pc
  | x, [] => some x
  | x, i :: r => if 0 ≤ i then ((parts x)[i.toNat]?).bind fun y => walk y r else none
theorem walk_cons {x : Pc} {i : Int} {r : List Int} {z : Pc} (h : walk x (i :: r) = some z) : 0 ≤ i ∧ ∃ y, (parts x)[i.toNat]? = some y ∧ walk y r = some z := by
  unfold walk at h
  split at h
  · rename_i h0
    cases e : (parts x)[i.toNat]? with
    | none => rw [e] at h; cases h
    | some y => rw [e] at h; exact ⟨h0, y, rfl, h⟩
  · cases h
theorem walk_mk {x : Pc} {i : Nat} {r : List Int} {y z : Pc} (h : (parts x)[i]? = some y) (g : walk y r = some z) : walk x ((i : Int) :: r) = some z := by
  show (if (0 : Int) ≤ (i : Int) then _ else _) = _
  rw [if_pos (by omega), show ((i : Int)).toNat = i by omega, h]
  exact g
theorem walk_w (t : Th) (r : List Int) (hr : r ≠ []) : walk (.inl (.push t)) r = walk (.inr t) r := by
  cases r with
  | nil => exact absurd rfl hr
  | cons i r => rfl
mutual
theorem plT_walk (p : List Int) : ∀ (t : Th) (x : List Int × Wo), x ∈ plT p t → ∃ r, r ≠ [] ∧ x.1 = p ++ r ∧ walk (.inr t) r = some (.inl x.2)
  | .num _, x, h => nomatch h
  | .row ws, x, h => by
    obtain ⟨i, r, w0, h1, h2, h3⟩ := plWs_walk p 0 ws x h
    rw [Nat.zero_add] at h2
    exact ⟨(i : Int) :: r, (by intro z; cases z), h2, walk_mk (by show (ws.map Sum.inl)[i]? = _; rw [List.getElem?_map, h1]; rfl) h3⟩
  | .lst ts, x, h => by
    obtain ⟨i, r, t0, h1, h2, h3⟩ := plTs_walk p 0 ts x h
    rw [Nat.zero_add] at h2
    exact ⟨(i : Int) :: r, (by intro z; cases z), h2, walk_mk (by show (ts.map Sum.inr)[i]? = _; rw [List.getElem?_map, h1]; rfl) h3⟩
theorem plW_walk (p : List Int) : ∀ (w0 : Wo) (x : List Int × Wo), x ∈ plW p w0 → ∃ r, r ≠ [] ∧ x.1 = p ++ r ∧ walk (.inl w0) r = some (.inl x.2)
  | .txt _, x, h => nomatch h
  | .push t, x, h => by
    obtain ⟨r, h1, h2, h3⟩ := plT_walk p t x h
    exact ⟨r, h1, h2, by rw [walk_w t r h1]; exact h3⟩
theorem plWs_walk (p : List Int) (k : Nat) : ∀ (ws : List Wo) (x : List Int × Wo), x ∈ plWs p k ws → ∃ (i : Nat) (r : List Int) (w0 : Wo), ws[i]? = some w0 ∧ x.1 = p ++ (((k + i : Nat) : Int) :: r) ∧ walk (.inl w0) r = some (.inl x.2)
  | [], x, h => nomatch h
  | w0 :: ws, x, h => by
    have h' : x ∈ (p ++ [(k : Int)], w0) :: (plW (p ++ [(k : Int)]) w0 ++ plWs p (k + 1) ws) := h
    rcases List.mem_cons.mp h' with rfl | h'
    · exact ⟨0, [], w0, rfl, rfl, rfl⟩
    · rcases List.mem_append.mp h' with h' | h'
      · obtain ⟨r, h1, h2, h3⟩ := plW_walk (p ++ [(k : Int)]) w0 x h'
        exact ⟨0, r, w0, rfl, by rw [h2, List.append_assoc]; rfl, h3⟩
      · obtain ⟨i, r, w1, h1, h2, h3⟩ := plWs_walk p (k + 1) ws x h'
        exact ⟨i + 1, r, w1, h1, by rw [h2, show k + 1 + i = k + (i + 1) by omega], h3⟩
theorem plTs_walk (p : List Int) (k : Nat) : ∀ (ts : List Th) (x : List Int × Wo), x ∈ plTs p k ts → ∃ (i : Nat) (r : List Int) (t0 : Th), ts[i]? = some t0 ∧ x.1 = p ++ (((k + i : Nat) : Int) :: r) ∧ walk (.inr t0) r = some (.inl x.2)
  | [], x, h => nomatch h
  | t0 :: ts, x, h => by
    have h' : x ∈ plT (p ++ [(k : Int)]) t0 ++ plTs p (k + 1) ts := h
    rcases List.mem_append.mp h' with h' | h'
    · obtain ⟨r, h1, h2, h3⟩ := plT_walk (p ++ [(k : Int)]) t0 x h'
      exact ⟨0, r, t0, rfl, by rw [h2, List.append_assoc]; rfl, h3⟩
    · obtain ⟨i, r, w1, h1, h2, h3⟩ := plTs_walk p (k + 1) ts x h'
      exact ⟨i + 1, r, w1, h1, by rw [h2, show k + 1 + i = k + (i + 1) by omega], h3⟩
end
section
variable {P : Program} {w : World} {K : Frag} {mg : Str → Option Value} {base : Heap}
def SP_po : DSp := fun ds G R => ∃ ws : List Wo, ds = [.tup (eWs ws)] ∧ szWs ws ≤ 10000 ∧ (plWs [] 0 ws).length ≤ 1000000 ∧ R (.tup ((plWs [] 0 ws).map fun x => plD x.1)) G
def fstD : DV → Option DV
  | .tup [a, _] => some a
  | _ => none
theorem fst_eO : ∀ xs : List (List Int × Wo), (xs.map eO).filterMap fstD = xs.map fun x => plD x.1
  | [] => rfl
  | x :: r => by rw [List.map_cons, List.filterMap_cons_some (f := fstD) (b := plD x.1) rfl, fst_eO r]; rfl
abbrev N_p_places_of : List Str := ["row", "place", "word"]
abbrev A_p_places_of : List Str := ["row"]
theorem sc_p_places_of : FnScope N_p_places_of A_p_places_of (defScope s_p_places_of) := ⟨rfl, rfl, rfl, by decide +kernel, rfl, by decide +kernel, by decide +kernel⟩
theorem h_p_places_of (a : At K mg "places_of" s_p_places_of A_p_places_of) (B : BI mg) (c_p_placed_words : Has P w K mg base 3 "placed_words" A_p_placed_words SP_pws) : Has P w K mg base 4 "places_of" A_p_places_of SP_po := by
  refine at_mk a sc_p_places_of fun f cdv A outer s H E hr ds G R hl h => ?_
  refine ⟨_, (dss_one (ds_ret (de_callTy cd_tuple B.tup rfl (by decide +kernel) (da_cons (de_lc (own := [("place", 1), ("word", 2)]) (lt2 (i := 1) (j := 2) (by decide) (by decide)) rfl sc_p_places_of.nd (di_list (de_call c_p_placed_words (hr.mono (by omega)) rfl (da_cons (dv 0) da_nil))) (blkOk_by (own := [("place", 1), ("word", 2)]) (N := N_p_places_of) (sc := defScope s_p_places_of) (by decide +kernel)) (fun _ _ _ _ _ => pg_tup rfl (pgs_cons (pg_name (i := 1) sc_p_places_of.nd rfl (Or.inl rfl)) (pgs_cons (pg_name (i := 2) sc_p_places_of.nd rfl (Or.inl rfl)) pgs_nil))) (fun _ _ _ _ _ => dts_nil) (fun _ _ _ _ _ => (dv 1))) da_nil)))), ?_⟩
  obtain ⟨ws, rfl, hz, hl', q⟩ := h
  refine ⟨_, rfl, rfl, ws, rfl, hz, fun r nr => ⟨r, _, rfl, .inl dupd_same, ?_⟩⟩
  refine lc_pure (Q := fun d G2 => bTuple [d] G2 (Less R)) fstD ?_ ?_ ?_ ?_
  · exact fun p o np => .inl (by rw [dupd_ne (ne_some dupd_same np)]; exact dupd_same)
  · rw [List.length_map]; exact hl'
  · intro d hd G' k1 k0 _ h1 h0
    obtain ⟨x, hx, rfl⟩ := List.mem_map.mp hd
    refine ly2 ?_
    exact iteT ⟨_, rfl, h1 _ rfl⟩
  · intro p np
    refine ⟨_, .inl dupd_same, G, ?_, ?_⟩
    · exact (Sub.new (Sub.refl G) nr).new (by rw [dupd_ne (ne_some dupd_same np).symm] at np; exact np)
    · rw [fst_eO]; exact q
def SP_wa : DSp := fun ds G R => ∃ (ws : List Wo) (pl : List Int) (w0 : Wo), ds = [.tup (eWs ws), plD pl] ∧ walk (.inr (.row ws)) pl = some (.inl w0) ∧ R (eW w0) G
abbrev N_p_word_at : List Str := ["row", "place", "piece", "number"]
abbrev A_p_word_at : List Str := ["row", "place"]
theorem sc_p_word_at : FnScope N_p_word_at A_p_word_at (defScope s_p_word_at) := ⟨rfl, rfl, rfl, by decide +kernel, rfl, by decide +kernel, by decide +kernel⟩
theorem h_p_word_at (a : At K mg "word_at" s_p_word_at A_p_word_at) (B : BI mg) (c_p_pushed_or_itself : Has P w K mg base 1 "pushed_or_itself" A_p_pushed_or_itself SP_poi) : Has P w K mg base 2 "word_at" A_p_word_at SP_wa := by
  refine at_mk a sc_p_word_at fun f cdv A outer s H E hr ds G R hl h => ?_
  refine ⟨_, (dss_cons (ds_set (i := 2) sc_p_word_at.nd rfl (.inl rfl) (de_tup (da_cons de_str (da_cons (dv 0) da_nil))))
    (dss_cons (ds_for PassesOwn.never rfl (di_tup (dv 1)) (dg_name (i := 3) sc_p_word_at.nd rfl (.inl rfl)) (dss_one (ds_set (i := 2) sc_p_word_at.nd rfl (.inl rfl) (de_ix (de_ix (de_call c_p_pushed_or_itself (hr.mono (by omega)) rfl (da_cons (dv 2) da_nil)) de_int) (dv 3)))))
    (dss_one (ds_ret (dv 2))))), ?_⟩
  obtain ⟨ws, pl, w0, rfl, hw, q⟩ := h
  refine ⟨_, rfl, sz2, ?_⟩
  refine ⟨_, rfl, _, rfl, fun i δ G' => ∃ (x : Pc) (x3 : Option DV), δ = [some (.tup (eWs ws)), some (plD pl), some (eX x), x3] ∧ G' = G ∧ walk x (pl.drop i) = some (.inl w0), ⟨.inr (.row ws), none, rfl, rfl, hw⟩, fun _ _ _ _ => trivial, ?_, ?_⟩
  · rintro i d δ G' hd ⟨x, x3, rfl, rfl, hx⟩
    rw [List.getElem?_map] at hd
    obtain ⟨n, hn, rfl⟩ := Option.map_eq_some_iff.mp hd
    have ed : pl.drop i = n :: pl.drop (i + 1) := by
      obtain ⟨hi, rfl⟩ := List.getElem?_eq_some_iff.mp hn
      exact List.drop_eq_getElem_cons hi
    rw [ed] at hx
    obtain ⟨n0, y, hy, hz⟩ := walk_cons hx
    obtain ⟨t, hd', hp⟩ : ∃ t, ([eX x] = [eW (.push t)] ∨ [eX x] = [eT t]) ∧ parts x = partsT t := by
      cases x with
      | inl w1 =>
        cases w1 with
        | txt z => cases hy
        | push t => exact ⟨t, .inl rfl, rfl⟩
      | inr t => exact ⟨t, .inr rfl, rfl⟩
    rw [hp] at hy
    refine ⟨_, rfl, rfl, t, hd', ?_⟩
    rcases eT_parts t with ⟨m, rfl⟩ | ⟨s', n1, n2, e⟩
    · cases hy
    rw [e]
    obtain ⟨j, rfl⟩ := Int.eq_ofNat_of_zero_le n0
    refine ⟨_, atI_nat (j := 1) rfl, _, rfl, eX y, ?_, y, _, rfl, rfl, hz⟩
    refine atI_nat ?_
    rw [List.getElem?_map]
    have hy' : (partsT t)[j]? = some y := hy
    rw [hy']; rfl
  · rintro δ G' ⟨x, x3, rfl, rfl, hx⟩
    have e : pl.drop (pl.map DV.int).length = [] := by rw [List.length_map, List.drop_length]
    rw [e] at hx
    cases hx
    exact ⟨_, rfl, Less.of q⟩
end
end K39
set_option maxHeartbeats 400000
namespace K39
open PySem PySem.W L2 SX Cm DD

theorem pick {α : Type} {xs : List α} {r : Int} {n : Nat} (h0 : 0 ≤ r) (h1 : r < n) (hl : xs.length = n) : ∃ x, x ∈ xs ∧ atI xs r = some x := by
  obtain ⟨i, rfl⟩ := Int.eq_ofNat_of_zero_le h0
  have hi : i < xs.length := by omega
  exact ⟨xs[i], List.getElem_mem hi, atI_nat (List.getElem?_eq_getElem hi)⟩
theorem int2 {α : Type} {a b : α} (t : Bool) : atI [a, b] (if t = true then (1 : Int) else 0) = some (if t = true then b else a) := by
  cases t
  · exact atI_nat (j := 0) rfl
  · exact atI_nat (j := 1) rfl
theorem HasDk.new {G : DG} {d p : Addr} {o : DO} (h : HasDk G d) (n : G p = none) : HasDk (dupd G p o) d := by
  obtain ⟨c, h⟩ := h
  exact ⟨c, by rw [dupd_ne (ne_some h n)]; exact h⟩
theorem HasDk.put {G : DG} {d p : Addr} {o : DO} (h : HasDk G d) (n : d ≠ p) : HasDk (dupd G p o) d := by
  obtain ⟨c, h⟩ := h
  exact ⟨c, by rw [dupd_ne n]; exact h⟩
theorem iteT' {t : Bool} {A B : Prop} (e : t = true) (a : A) : (if t = true then A else B) := by rw [if_pos e]; exact a
theorem iteF' {t : Bool} {A B : Prop} (e : t = false) (a : B) : (if t = true then A else B) := by rw [e]; exact a
def nmsD : List DV := [.str "aa", .str "pl", .str "iff", .str "a"]
def NM (G : DG) (nm : Addr) : Prop := G nm = some (.lst nmsD)
theorem NM.new {G : DG} {nm p : Addr} {o : DO} (h : NM G nm) (n : G p = none) : NM (dupd G p o) nm := by
  show dupd G p o nm = _
  rw [dupd_ne (ne_some h n)]; exact h
theorem tx_ok {z : Str} {n : Nat} (h : Tx z n) : PyData.strOk z = true := by
  show z.cps.all _ = true
  rw [Array.all_eq_true']
  intro c hc
  exact decide_eq_true (h.ch c (by simpa using hc))
section
variable {P : Program} {w : World} {K : Frag} {mg : Str → Option Value} {base : Heap}
def SP_number : DSp := fun ds G R => ∃ d, ds = [.ref d] ∧ HasDk G d ∧ ∀ n, R (.int n) G
abbrev N_L_number : List Str := ["_law_deck_here", "_law_way", "_law_great"]
abbrev A_L_number : List Str := ["_law_deck_here"]
theorem sc_L_number : FnScope N_L_number A_L_number (defScope s_L_number) := ⟨rfl, rfl, rfl, by decide +kernel, rfl, by decide +kernel, by decide +kernel⟩
theorem h_L_number (a : At K mg "_law_number" s_L_number A_L_number) (B : BI mg) (c_L_draw : Has P w K mg base 2 "_law_draw" A_L_draw SP_draw) : Has P w K mg base 3 "_law_number" A_L_number SP_number := by
  refine at_mk a sc_L_number fun f cdv A outer s H E hr ds G R hl h => ?_
  refine ⟨_, (dss_cons (ds_set (i := 1) sc_L_number.nd rfl (.inl rfl) (de_call c_L_draw (hr.mono (by omega)) rfl (da_cons (dv 0) (da_cons de_int da_nil))))
    (dss_cons (ds_set (i := 2) sc_L_number.nd rfl (.inl rfl) (de_op od_add (de_op od_mul (de_call c_L_draw (hr.mono (by omega)) rfl (da_cons (dv 0) (da_cons (de_op od_pow de_int de_int) da_nil))) (de_op od_pow de_int de_int)) (de_call c_L_draw (hr.mono (by omega)) rfl (da_cons (dv 0) (da_cons (de_op od_pow de_int de_int) da_nil)))))
    (dss_one (ds_ret (de_ix (de_lst (da_cons (dv 1) (da_cons (dv 1) (da_cons (de_op od_sub (de_op od_pow de_int de_int) de_int) (da_cons (de_call c_L_draw (hr.mono (by omega)) rfl (da_cons (dv 0) (da_cons de_int da_nil))) (da_cons (dv 2) (da_cons de_int da_nil))))))) (dv 1)))))), ?_⟩
  obtain ⟨d, rfl, hk, q⟩ := h
  refine ⟨_, rfl, rfl, d, 6, rfl, hk, by decide, by decide, fun r r0 r1 => ?_⟩
  refine ⟨_, rfl, ⟨by decide, by decide, by decide⟩, rfl, d, _, rfl, hk, by decide, by decide, fun r2 _ _ => ?_⟩
  refine ⟨⟨by decide, by decide, by decide⟩, .inr ⟨by decide, by decide⟩, ?_⟩
  refine ⟨_, rfl, ⟨by decide, by decide, by decide⟩, rfl, d, _, rfl, hk, by decide, by decide, fun r3 _ _ => ?_⟩
  refine ⟨_, rfl, _, rfl, ⟨by decide, by decide, by decide⟩, ?_⟩
  refine ⟨_, rfl, rfl, d, 7, rfl, hk, by decide, by decide, fun r4 _ _ => ?_⟩
  refine ⟨_, rfl, sz6, fun p np => ⟨_, rfl, .inl ?_⟩⟩
  obtain ⟨x, hx, ha⟩ := pick (xs := [DV.int r, .int r, .int ((10 : Int) ^ (12 : Int).toNat - 1), .int r4, .int (r2 * (10 : Int) ^ (6 : Int).toNat + r3), .int 0]) (n := 6) r0 r1 rfl
  refine ⟨_, x, .inl dupd_same, ha, G, (Sub.refl G).new np, ?_⟩
  simp only [List.mem_cons, List.not_mem_nil, or_false] at hx
  rcases hx with rfl | rfl | rfl | rfl | rfl | rfl <;> exact q _
def SP_shuffle : DSp := fun ds G R => ∃ d, ds = [.ref d, .int 4] ∧ HasDk G d ∧ ∀ z, PyData.strOk z = true → R (.str z) G
theorem tx_abc : Tx "abcdefgh" 8 := Tx.lit (by decide +kernel)
theorem tx_dash : Tx "-" 1 := Tx.lit (by decide +kernel)
theorem tx_nil : Tx "" 0 := Tx.lit (by decide +kernel)
abbrev N_L_shuffle : List Str := ["_law_deck_here", "_law_most", "_law_n", "_law_left", "_law_k"]
abbrev A_L_shuffle : List Str := ["_law_deck_here", "_law_most"]
theorem sc_L_shuffle : FnScope N_L_shuffle A_L_shuffle (defScope s_L_shuffle) := ⟨rfl, rfl, rfl, by decide +kernel, rfl, by decide +kernel, by decide +kernel⟩
theorem h_L_shuffle (a : At K mg "_law_shuffle" s_L_shuffle A_L_shuffle) (B : BI mg) (c_L_draw : Has P w K mg base 2 "_law_draw" A_L_draw SP_draw) : Has P w K mg base 3 "_law_shuffle" A_L_shuffle SP_shuffle := by
  refine at_mk a sc_L_shuffle fun f cdv A outer s H E hr ds G R hl h => ?_
  refine ⟨_, (dss_cons (ds_set (i := 2) sc_L_shuffle.nd rfl (.inl rfl) (de_ix (de_lst (da_cons (de_call c_L_draw (hr.mono (by omega)) rfl (da_cons (dv 0) (da_cons de_int da_nil))) (da_cons (de_call c_L_draw (hr.mono (by omega)) rfl (da_cons (dv 0) (da_cons de_int da_nil))) da_nil))) (de_callTy cd_int B.int rfl (by decide +kernel) (da_cons (de_cmp (od_eq hr.units) (de_call c_L_draw (hr.mono (by omega)) rfl (da_cons (dv 0) (da_cons de_int da_nil))) de_int (nomark _)) da_nil))))
    (dss_cons (ds_set (i := 3) sc_L_shuffle.nd rfl (.inl rfl) de_str)
    (dss_cut (ds_if (dt_cmp od_gt (dv 2) de_int (nomark _)) (dss_one (ds_for PassesOwn.never rfl (di_range B.range rfl (da_cons (de_call c_L_draw (hr.mono (by omega)) rfl (da_cons (dv 0) (da_cons (dv 1) da_nil))) da_nil)) (dg_name (i := 4) sc_L_shuffle.nd rfl (.inl rfl)) (dss_one (ds_set (i := 3) sc_L_shuffle.nd rfl (.inl rfl) (de_op od_add (dv 3) (de_ix de_str (de_call c_L_draw (hr.mono (by omega)) rfl (da_cons (dv 0) (da_cons (dv 2) da_nil))))))))) dss_nil)
    (dss_one (ds_ret (de_op od_add (de_op od_add (de_slice de_str do_none (do_some (dv 2))) de_str) (dv 3))))))), ?_⟩
  obtain ⟨d, rfl, hk, q⟩ := h
  refine ⟨_, rfl, rfl, d, 4, rfl, hk, by decide, by decide, fun r r0 r1 => ?_⟩
  refine ⟨_, rfl, rfl, d, 9, rfl, hk, by decide, by decide, fun r' r0' r1' => ?_⟩
  refine ⟨sz2, fun p np => ?_⟩
  refine ⟨_, rfl, rfl, d, 8, rfl, hk.new np, by decide, by decide, fun r2 _ _ => .inl ⟨_, _, .inl dupd_same, int2 (decide (r2 = 1)), ?_⟩⟩
  obtain ⟨n, n0, n9, en⟩ : ∃ n : Int, 0 ≤ n ∧ n < 9 ∧ (if decide (r2 = 1) = true then DV.int r' else DV.int r) = .int n := by
    cases decide (r2 = 1)
    · exact ⟨r, r0, by omega, rfl⟩
    · exact ⟨r', r0', r1', rfl⟩
  rw [en]
  have sub : Sub G (dupd G p (.lst [.int r, .int r'])) := (Sub.refl G).new np
  have hk1 := hk.new np (o := .lst [.int r, .int r'])
  generalize dupd G p (.lst [.int r, .int r']) = G1 at sub hk1
  refine ⟨fun δ' G' => G' = G1 ∧ ∃ (z : Str) (x4 : Option DV), δ' = [some (.ref d), some (.int 4), some (.int n), some (.str z), x4] ∧ Tx z 10, ?_, ?_⟩
  · refine ⟨_, rfl, _, rfl, ?_⟩
    by_cases hn : n > 0
    · refine iteT' (decide_eq_true hn) ?_
      refine ⟨_, rfl, _, rfl, rfl, d, 4, rfl, hk1, by decide, by decide, fun m m0 m1 => ⟨m, rfl, by omega, by omega, ?_⟩⟩
      refine ⟨fun i δ' G' => G' = G1 ∧ ∃ (z : Str) (x4 : Option DV), δ' = [some (.ref d), some (.int 4), some (.int n), some (.str z), x4] ∧ Tx z i ∧ i ≤ m.toNat, ⟨rfl, _, none, rfl, tx_nil, Nat.zero_le _⟩, fun _ _ _ _ => trivial, ?_, ?_⟩
      · rintro i dd δ G' hd ⟨rfl, z, x4, rfl, hz, hi⟩
        have hi' : i < m.toNat := by have := (List.getElem?_eq_some_iff.mp hd).1; rw [rng_len] at this; exact this
        refine ⟨_, rfl, _, rfl, _, rfl, rfl, d, n, rfl, hk1, by omega, by omega, fun u u0 u1 => ?_⟩
        have la : (TL.tl ("abcdefgh" : Str)).length = 8 := by decide +kernel
        obtain ⟨c, hc, ha⟩ := pick (xs := ("abcdefgh" : Str).cps.toList) (r := u) (n := 8) u0 (by omega) la
        refine ⟨tx_abc.sz, c, ha, ?_⟩
        have tc := tx_abc.at_ ha
        exact ⟨hz.sz2 tc (by omega), rfl, _, _, rfl, hz.add tc, by omega⟩
      · rintro δ G' ⟨rfl, z, x4, rfl, hz, hi⟩
        rw [rng_len] at hz
        exact ⟨rfl, z, x4, rfl, hz.mono (by omega)⟩
    · exact iteF' (decide_eq_false hn) ⟨rfl, _, none, rfl, tx_nil.mono (by decide)⟩
  · rintro δ' G' ⟨rfl, z, x4, rfl, hz⟩
    have t1 := tx_abc.cut none (some n)
    have t2 := t1.add tx_dash
    refine ⟨_, rfl, n, rfl, tx_abc.sz, t1.sz2 tx_dash, _, rfl, t2.sz2 hz, G, sub, q _ (tx_ok (t2.add hz))⟩
end
end K39
set_option maxHeartbeats 400000
namespace K39
open PySem PySem.W L2 SX Cm DD

theorem lc_each {ds : List DV} {st : DG → Prop} {ld : TL} {tt : TDT} {te : TD} {vs : List Nat} {δ : DSt} {G1 : DG} {Q : DK} (E : DV → Prop) (hsc : ∀ p o, G1 p = none → st (dupd G1 p o)) (hl : ds.length ≤ 1000000)
    (h : ∀ d ∈ ds, ∀ (G : DG) (k1 : DK) (k0 : DG → Prop), (∃ p acc, G1 p = none ∧ G = dupd G1 p (.lst acc)) → (∀ y, E y → k1 y G) →
      ld d (wipeD δ vs) fun δ2 => tt δ2 G fun b G3 => if b = true then te δ2 G3 k1 else k0 G3)
    (q : ∀ p acc, G1 p = none → acc.length = ds.length → (∀ y ∈ acc, E y) → Q (.ref p) (dupd G1 p (.lst acc))) :
    ∀ p, G1 p = none → ∃ Pv : Nat → List DV → DG → Prop, Pv 0 [] (dupd G1 p (.lst [])) ∧ (∀ i acc G, Pv i acc G → st G) ∧
      (∀ i d acc G, ds[i]? = some d → Pv i acc G → ld d (wipeD δ vs) fun δ2 => tt δ2 G fun b G3 => if b = true then te δ2 G3 fun y G4 => G4 p = some (.lst acc) ∧ acc.length < sizeLine ∧ Pv (i + 1) (acc ++ [y]) (dupd G4 p (.lst (acc ++ [y]))) else Pv (i + 1) acc G3) ∧
      (∀ acc G, Pv ds.length acc G → Q (.ref p) G) := by
  intro p np
  refine ⟨fun i acc G => acc.length = i ∧ i ≤ ds.length ∧ (∀ y ∈ acc, E y) ∧ G = dupd G1 p (.lst acc), ⟨rfl, Nat.zero_le _, (fun _ h => nomatch h), rfl⟩, fun i acc G ⟨_, _, _, e⟩ => by rw [e]; exact hsc p _ np, ?_, ?_⟩
  · rintro i d acc G hd ⟨ea, hi, he, rfl⟩
    have hlt : i < ds.length := (List.getElem?_eq_some_iff.mp hd).1
    refine h d (List.mem_of_getElem? hd) _ _ _ ⟨p, acc, np, rfl⟩ fun y hy => ⟨dupd_same, midlt (by omega), ?_, hlt, ?_, dupd_dupd⟩
    · rw [List.length_append, ea]; rfl
    · intro z hz
      rcases List.mem_append.mp hz with hz | hz
      · exact he z hz
      · rw [List.mem_singleton.mp hz]; exact hy
  · rintro acc G ⟨ea, _, he, rfl⟩
    exact q p acc np ea he
def isW (k m : Nat) (y : DV) : Prop := ∃ w0 : Wo, y = eW w0 ∧ GW k m [w0]
def isT (k m : Nat) (y : DV) : Prop := ∃ t : Th, y = eT t ∧ GT k m t
theorem isWs {k m : Nat} : ∀ {acc : List DV}, (∀ y ∈ acc, isW k m y) → ∃ ws : List Wo, acc = eWs ws ∧ GW k (acc.length * m) ws
  | [], _ => ⟨[], rfl, GW.nil⟩
  | y :: r, h => by
    obtain ⟨w0, rfl, g⟩ := h y (List.mem_cons_self ..)
    obtain ⟨ws, e, g'⟩ := isWs (acc := r) fun z hz => h z (List.mem_cons_of_mem _ hz)
    refine ⟨w0 :: ws, by rw [e]; rfl, ?_⟩
    have := g.app g'
    rw [List.length_cons, Nat.add_mul, Nat.one_mul, Nat.add_comm]
    exact this
theorem isTs {k m : Nat} : ∀ {acc : List DV}, (∀ y ∈ acc, isT k m y) → ∃ ws : List Th, acc = eTs ws ∧ GTs k (acc.length * m) ws
  | [], _ => ⟨[], rfl, GTs.nil⟩
  | y :: r, h => by
    obtain ⟨w0, rfl, g⟩ := h y (List.mem_cons_self ..)
    obtain ⟨ws, e, g'⟩ := isTs (acc := r) fun z hz => h z (List.mem_cons_of_mem _ hz)
    refine ⟨w0 :: ws, by rw [e]; rfl, ?_⟩
    have := (GTs.one g).app g'
    rw [List.length_cons, Nat.add_mul, Nat.one_mul, Nat.add_comm]
    exact this
def BT : Nat → Nat
  | 0 => 1
  | k + 1 => 1 + 6 * (1 + BT k)
section
variable {P : Program} {w : World} {K : Frag} {mg : Str → Option Value} {base : Heap}

/-- the depth asked for is one below the index -/
def SP_thing (k : Nat) : DSp := fun ds G R => ∃ (d nm : Addr) (j : Nat), k = j + 1 ∧ ds = [.ref d, .ref nm, .int j] ∧ HasDk G d ∧ NM G nm ∧ ∀ t, GT j (BT j) t → R (eT t) G
def SP_word (k : Nat) : DSp := fun ds G R => ∃ (d nm : Addr) (j : Nat), k = j + 1 ∧ ds = [.ref d, .ref nm, .int j] ∧ HasDk G d ∧ NM G nm ∧ ∀ w0, GW j (1 + BT j) [w0] → R (eW w0) G
def SP_row (k : Nat) : DSp := fun ds G R => ∃ (d nm : Addr) (j m : Nat), k = j + 1 ∧ ds = [.ref d, .ref nm, .int m, .int j] ∧ HasDk G d ∧ NM G nm ∧ m ≤ 14 ∧ ∀ ws, GW j (m * (1 + BT j)) ws → R (.tup (eWs ws)) G
abbrev A_L_row : List Str := ["_law_deck_here", "_law_names", "_law_most", "_law_deep"]
abbrev A_L_word : List Str := ["_law_deck_here", "_law_names", "_law_deep"]
abbrev A_L_thing : List Str := ["_law_deck_here", "_law_names", "_law_deep"]
theorem BT_pos : ∀ k, 1 ≤ BT k
  | 0 => Nat.le_refl 1
  | k + 1 => by show 1 ≤ 1 + _; omega
def bas15 : List DV := [.str "plus", .str "minus", .str "times", .str "less", .str "same", .str "do", .str "dip", .str "if", .str "while", .str "repeat", .str "join", .str "wrap", .str "put", .str "part", .str "each"]
def shf6 : List DV := [.str "a-aa", .str "a-", .str "ab-ba", .str "abc-bca", .str "ab-aba", .str "-"]
theorem txs_bas : ∀ x ∈ bas15, ∃ z, x = .str z ∧ PyData.strOk z = true := by
  intro x hx
  simp only [bas15, List.mem_cons, List.not_mem_nil, or_false] at hx
  rcases hx with rfl | rfl | rfl | rfl | rfl | rfl | rfl | rfl | rfl | rfl | rfl | rfl | rfl | rfl | rfl <;> exact ⟨_, rfl, by decide +kernel⟩
theorem txs_shf : ∀ x ∈ shf6, ∃ z, x = .str z ∧ PyData.strOk z = true := by
  intro x hx
  simp only [shf6, List.mem_cons, List.not_mem_nil, or_false] at hx
  rcases hx with rfl | rfl | rfl | rfl | rfl | rfl <;> exact ⟨_, rfl, by decide +kernel⟩
theorem txs_nms : ∀ x ∈ nmsD, ∃ z, x = .str z ∧ PyData.strOk z = true := by
  intro x hx
  simp only [nmsD, List.mem_cons, List.not_mem_nil, or_false] at hx
  rcases hx with rfl | rfl | rfl | rfl <;> exact ⟨_, rfl, by decide +kernel⟩
theorem cmps_nms : Cmps nmsD := ⟨by decide +kernel, by decide +kernel, by decide +kernel⟩
theorem cmps_nil : Cmps [] := ⟨rfl, rfl, Nat.zero_le _⟩
abbrev N_L_row : List Str := ["_law_deck_here", "_law_names", "_law_most", "_law_deep", "_law_k"]
theorem sc_L_row : FnScope N_L_row A_L_row (defScope s_L_row) := ⟨rfl, rfl, rfl, by decide +kernel, rfl, by decide +kernel, by decide +kernel⟩
theorem h_L_row {k : Nat} (a : At K mg "_law_row" s_L_row A_L_row) (B : BI mg) (c_L_draw : Has P w K mg base 2 "_law_draw" A_L_draw SP_draw) (c_L_word : Has P w K mg base (3 * k + 5) "_law_word" A_L_word (SP_word k)) : Has P w K mg base (3 * k + 6) "_law_row" A_L_row (SP_row k) := by
  refine at_mk a sc_L_row fun f cdv A outer s H E hr ds G R hl h => ?_
  refine ⟨_, (dss_one (ds_ret (de_callTy cd_tuple B.tup rfl (by decide +kernel) (da_cons (de_lc (own := [("_law_k", 4)]) (lt1 (i := 4) (by decide)) rfl sc_L_row.nd (di_range B.range rfl (da_cons (de_call c_L_draw (hr.mono (by omega)) rfl (da_cons (dv 0) (da_cons (de_op od_add (dv 2) de_int) da_nil))) da_nil)) (blkOk_by (own := [("_law_k", 4)]) (N := N_L_row) (sc := defScope s_L_row) (by decide +kernel)) (fun _ _ _ _ _ => pg_name (i := 4) sc_L_row.nd rfl (Or.inl rfl)) (fun _ _ _ _ _ => dts_nil) (fun _ _ _ _ _ => (de_call c_L_word (hr.mono (by omega)) rfl (da_cons (dv 0) (da_cons (dv 1) (da_cons (dv 3) da_nil)))))) da_nil)))), ?_⟩
  obtain ⟨d, nm, j, m, rfl, rfl, hk, hn, hm, q⟩ := h
  refine ⟨_, rfl, _, rfl, rfl, d, m + 1, rfl, hk, by omega, by omega, fun r r0 r1 => ⟨r, rfl, by omega, by omega, ?_⟩⟩
  refine lc_each (Q := fun d G2 => bTuple [d] G2 (Less R)) (isW j (1 + BT j)) ?_ ?_ ?_ ?_
  · exact fun p o np => trivial
  · rw [rng_len]; omega
  · intro x hx G' k1 k0 hG h1
    obtain ⟨p, acc, np, rfl⟩ := hG
    refine ly1 ?_
    exact iteT ⟨_, rfl, _, rfl, _, rfl, rfl, d, nm, j, rfl, rfl, hk.new np, hn.new np, fun w0 g => h1 _ ⟨w0, rfl, g⟩⟩
  · intro p acc np la he
    refine ⟨_, .inl dupd_same, G, (Sub.refl G).new np, ?_⟩
    obtain ⟨ws, e, g⟩ := isWs he
    rw [e]
    refine q ws (g.up (Nat.le_refl _) (Nat.mul_le_mul_right _ ?_))
    rw [la, rng_len]; omega
abbrev N_L_word : List Str := ["_law_deck_here", "_law_names", "_law_deep", "_law_basic", "_law_way"]
theorem sc_L_word : FnScope N_L_word A_L_word (defScope s_L_word) := ⟨rfl, rfl, rfl, by decide +kernel, rfl, by decide +kernel, by decide +kernel⟩
theorem h_L_word {k : Nat} (a : At K mg "_law_word" s_L_word A_L_word) (B : BI mg) (c_L_draw : Has P w K mg base 2 "_law_draw" A_L_draw SP_draw) (c_L_thing : Has P w K mg base (3 * k + 4) "_law_thing" A_L_thing (SP_thing k)) (c_L_shuffle : Has P w K mg base 3 "_law_shuffle" A_L_shuffle SP_shuffle) : Has P w K mg base (3 * k + 5) "_law_word" A_L_word (SP_word k) := by
  refine at_mk a sc_L_word fun f cdv A outer s H E hr ds G R hl h => ?_
  refine ⟨_, (dss_cons (ds_set (i := 3) sc_L_word.nd rfl (.inl rfl) (de_lst (da_cons de_str (da_cons de_str (da_cons de_str (da_cons de_str (da_cons de_str (da_cons de_str (da_cons de_str (da_cons de_str (da_cons de_str (da_cons de_str (da_cons de_str (da_cons de_str (da_cons de_str da_nil)))))))))))))))
    (dss_cons (ds_set (i := 3) sc_L_word.nd rfl (.inl rfl) (de_op od_add (dv 3) (de_lst (da_cons de_str (da_cons de_str da_nil)))))
    (dss_cons (ds_set (i := 4) sc_L_word.nd rfl (.inl rfl) (de_call c_L_draw (hr.mono (by omega)) rfl (da_cons (dv 0) (da_cons de_int da_nil))))
    (dss_cons (ds_if (dt_cmp od_lt (dv 4) de_int (nomark _)) (dss_one (ds_ret (de_tup (da_cons de_str (da_cons (de_call c_L_thing (hr.mono (by omega)) rfl (da_cons (dv 0) (da_cons (dv 1) (da_cons (dv 2) da_nil)))) da_nil))))) dss_nil)
    (dss_cons (ds_if (dt_cmp od_lt (dv 4) de_int (nomark _)) (dss_one (ds_ret (de_call c_L_shuffle (hr.mono (by omega)) rfl (da_cons (dv 0) (da_cons de_int da_nil))))) dss_nil)
    (dss_cons (ds_if (dt_cmp (od_eq hr.units) (dv 4) de_int (nomark _)) (dss_one (ds_ret (de_ix (de_lst (da_cons de_str (da_cons de_str (da_cons de_str (da_cons de_str (da_cons de_str (da_cons de_str da_nil))))))) (de_call c_L_draw (hr.mono (by omega)) rfl (da_cons (dv 0) (da_cons de_int da_nil)))))) dss_nil)
    (dss_cons (ds_if (dt_w (dw_and (dt_cmp (od_eq hr.units) (dv 4) de_int (nomark _)) (dw_and1 (dt_cmp (od_ne hr.units) (dv 1) (de_lst da_nil) (nomark _))))) (dss_one (ds_ret (de_ix (dv 1) (de_call c_L_draw (hr.mono (by omega)) rfl (da_cons (dv 0) (da_cons (de_callB cd_len B.len rfl (by decide +kernel) (da_cons (dv 1) da_nil)) da_nil)))))) dss_nil)
    (dss_one (ds_ret (de_ix (dv 3) (de_call c_L_draw (hr.mono (by omega)) rfl (da_cons (dv 0) (da_cons de_int da_nil))))))))))))), ?_⟩
  obtain ⟨d, nm, j, rfl, rfl, hk, hn, q⟩ := h
  refine ⟨(by decide), fun p np => ?_⟩
  refine ⟨_, rfl, sz2, fun p2 np2 => ⟨_, _, (by rw [dupd_ne (ne_some dupd_same np2)]; exact dupd_same), dupd_same, (by decide), fun p3 np3 => ?_⟩⟩
  have gp2 : G p2 = none := (Sub.new (Sub.refl G) np).nonew np2
  have sub : Sub G (dupd (dupd (dupd G p (.lst [.str "plus", .str "minus", .str "times", .str "less", .str "same", .str "do", .str "dip", .str "if", .str "while", .str "repeat", .str "join", .str "wrap", .str "put"])) p2 (.lst [.str "part", .str "each"])) p3 (.lst ([.str "plus", .str "minus", .str "times", .str "less", .str "same", .str "do", .str "dip", .str "if", .str "while", .str "repeat", .str "join", .str "wrap", .str "put"] ++ [.str "part", .str "each"]))) := (((Sub.refl G).new np).new gp2).new ((((Sub.refl G).new np).new gp2).nonew np3)
  have hk3 : HasDk (dupd (dupd (dupd G p (.lst [.str "plus", .str "minus", .str "times", .str "less", .str "same", .str "do", .str "dip", .str "if", .str "while", .str "repeat", .str "join", .str "wrap", .str "put"])) p2 (.lst [.str "part", .str "each"])) p3 (.lst ([.str "plus", .str "minus", .str "times", .str "less", .str "same", .str "do", .str "dip", .str "if", .str "while", .str "repeat", .str "join", .str "wrap", .str "put"] ++ [.str "part", .str "each"]))) d := ((hk.new np).new np2).new np3
  have hn3 : NM (dupd (dupd (dupd G p (.lst [.str "plus", .str "minus", .str "times", .str "less", .str "same", .str "do", .str "dip", .str "if", .str "while", .str "repeat", .str "join", .str "wrap", .str "put"])) p2 (.lst [.str "part", .str "each"])) p3 (.lst ([.str "plus", .str "minus", .str "times", .str "less", .str "same", .str "do", .str "dip", .str "if", .str "while", .str "repeat", .str "join", .str "wrap", .str "put"] ++ [.str "part", .str "each"]))) nm := ((hn.new np).new np2).new np3
  have hb : (dupd (dupd (dupd G p (.lst [.str "plus", .str "minus", .str "times", .str "less", .str "same", .str "do", .str "dip", .str "if", .str "while", .str "repeat", .str "join", .str "wrap", .str "put"])) p2 (.lst [.str "part", .str "each"])) p3 (.lst ([.str "plus", .str "minus", .str "times", .str "less", .str "same", .str "do", .str "dip", .str "if", .str "while", .str "repeat", .str "join", .str "wrap", .str "put"] ++ [.str "part", .str "each"]))) p3 = some (.lst bas15) := dupd_same
  generalize (dupd (dupd (dupd G p (.lst [.str "plus", .str "minus", .str "times", .str "less", .str "same", .str "do", .str "dip", .str "if", .str "while", .str "repeat", .str "join", .str "wrap", .str "put"])) p2 (.lst [.str "part", .str "each"])) p3 (.lst ([.str "plus", .str "minus", .str "times", .str "less", .str "same", .str "do", .str "dip", .str "if", .str "while", .str "repeat", .str "join", .str "wrap", .str "put"] ++ [.str "part", .str "each"]))) = G3 at sub hk3 hn3 hb
  have qt : ∀ z, PyData.strOk z = true → R (.str z) G := fun z hz => q (.txt z) ((GW.txt hz).up (Nat.le_refl _) (by omega))
  refine ⟨_, rfl, rfl, d, 12, rfl, hk3, by decide, by decide, fun r r0 r1 => ?_⟩
  refine ⟨_, rfl, _, rfl, ?_⟩
  by_cases h5 : r < 5
  · refine iteT' (decide_eq_true h5) ?_
    exact ⟨_, rfl, _, rfl, _, rfl, rfl, d, nm, j, rfl, rfl, hk3, hn3, fun t g => ⟨sz2, G, sub, q (.push t) ((GW.push g).up (Nat.le_refl _) (by omega))⟩⟩
  refine iteF' (decide_eq_false h5) ?_
  refine ⟨_, rfl, _, rfl, ?_⟩
  by_cases h7 : r < 7
  · refine iteT' (decide_eq_true h7) ?_
    exact ⟨_, rfl, rfl, d, rfl, hk3, fun z hz => ⟨G, sub, qt z hz⟩⟩
  refine iteF' (decide_eq_false h7) ?_
  refine ⟨_, rfl, _, rfl, ?_⟩
  by_cases e7 : r = 7
  · refine iteT' (decide_eq_true e7) ?_
    refine ⟨(by decide), fun p4 np4 => ⟨_, rfl, rfl, d, 6, rfl, hk3.new np4, by decide, by decide, fun u u0 u1 => ?_⟩⟩
    obtain ⟨x, hx, ha⟩ := pick (xs := shf6) (n := 6) u0 u1 rfl
    obtain ⟨z, rfl, hz⟩ := txs_shf x hx
    exact .inl ⟨_, _, .inl dupd_same, ha, G, sub.new (sub.nonew np4), qt z hz⟩
  refine iteF' (decide_eq_false e7) ?_
  refine ⟨_, rfl, _, rfl, ?_⟩
  by_cases e8 : r = 8
  · refine iteT' (decide_eq_true e8) ?_
    refine ⟨_, rfl, sz0, fun p4 np4 => ⟨nmsD, [], .inl (hn3.new np4), .inl dupd_same, .inr ⟨cmps_nms, cmps_nil, _, rfl, ?_⟩⟩⟩
    refine iteT' rfl ?_
    refine ⟨_, rfl, _, rfl, _, rfl, .inl ⟨_, .inl (hn3.new np4), ?_⟩⟩
    refine ⟨rfl, d, 4, rfl, hk3.new np4, by decide, by decide, fun u u0 u1 => ?_⟩
    obtain ⟨x, hx, ha⟩ := pick (xs := nmsD) (n := 4) u0 u1 rfl
    obtain ⟨z, rfl, hz⟩ := txs_nms x hx
    exact .inl ⟨_, _, .inl (hn3.new np4), ha, G, sub.new (sub.nonew np4), qt z hz⟩
  refine iteF' (decide_eq_false e8) ?_
  refine iteF ?_
  refine ⟨_, rfl, _, rfl, rfl, d, 15, rfl, hk3, by decide, by decide, fun u u0 u1 => ?_⟩
  obtain ⟨x, hx, ha⟩ := pick (xs := bas15) (n := 15) u0 u1 rfl
  obtain ⟨z, rfl, hz⟩ := txs_bas x hx
  exact .inl ⟨_, _, .inl hb, ha, G, sub, qt z hz⟩
abbrev N_L_thing : List Str := ["_law_deck_here", "_law_names", "_law_deep", "_law_way", "_law_k"]
theorem sc_L_thing : FnScope N_L_thing A_L_thing (defScope s_L_thing) := ⟨rfl, rfl, rfl, by decide +kernel, rfl, by decide +kernel, by decide +kernel⟩
theorem h_L_thing {k : Nat} (a : At K mg "_law_thing" s_L_thing A_L_thing) (B : BI mg) (c_L_draw : Has P w K mg base 2 "_law_draw" A_L_draw SP_draw) (c_L_number : Has P w K mg base 3 "_law_number" A_L_number SP_number) (c_L_row : Has P w K mg base (3 * k + 6) "_law_row" A_L_row (SP_row k)) (c_L_thing : Has P w K mg base (3 * k + 4) "_law_thing" A_L_thing (SP_thing k)) : Has P w K mg base (3 * k + 7) "_law_thing" A_L_thing (SP_thing (k + 1)) := by
  refine at_mk a sc_L_thing fun f cdv A outer s H E hr ds G R hl h => ?_
  refine ⟨_, (dss_cons (ds_set (i := 3) sc_L_thing.nd rfl (.inl rfl) (de_call c_L_draw (hr.mono (by omega)) rfl (da_cons (dv 0) (da_cons de_int da_nil))))
    (dss_cons (ds_if (dt_w (dw_or (dt_cmp (od_eq hr.units) (dv 2) de_int (nomark _)) (dw_or1 (dt_cmp od_lt (dv 3) de_int (nomark _))))) (dss_one (ds_ret (de_tup (da_cons de_str (da_cons (de_call c_L_number (hr.mono (by omega)) rfl (da_cons (dv 0) da_nil)) da_nil))))) dss_nil)
    (dss_cons (ds_if (dt_cmp od_lt (dv 3) de_int (nomark _)) (dss_one (ds_ret (de_tup (da_cons de_str (da_cons (de_call c_L_row (hr.mono (by omega)) rfl (da_cons (dv 0) (da_cons (dv 1) (da_cons (de_ix (de_lst (da_cons de_int (da_cons de_int da_nil))) (de_callTy cd_int B.int rfl (by decide +kernel) (da_cons (de_cmp (od_eq hr.units) (de_call c_L_draw (hr.mono (by omega)) rfl (da_cons (dv 0) (da_cons de_int da_nil))) de_int (nomark _)) da_nil))) (da_cons (de_op od_sub (dv 2) de_int) da_nil))))) da_nil))))) dss_nil)
    (dss_one (ds_ret (de_tup (da_cons de_str (da_cons (de_callTy cd_tuple B.tup rfl (by decide +kernel) (da_cons (de_lc (own := [("_law_k", 4)]) (lt1 (i := 4) (by decide)) rfl sc_L_thing.nd (di_range B.range rfl (da_cons (de_call c_L_draw (hr.mono (by omega)) rfl (da_cons (dv 0) (da_cons de_int da_nil))) da_nil)) (blkOk_by (own := [("_law_k", 4)]) (N := N_L_thing) (sc := defScope s_L_thing) (by decide +kernel)) (fun _ _ _ _ _ => pg_name (i := 4) sc_L_thing.nd rfl (Or.inl rfl)) (fun _ _ _ _ _ => dts_nil) (fun _ _ _ _ _ => (de_call c_L_thing (hr.mono (by omega)) rfl (da_cons (dv 0) (da_cons (dv 1) (da_cons (de_op od_sub (dv 2) de_int) da_nil)))))) da_nil)) da_nil)))))))), ?_⟩
  obtain ⟨d, nm, j, e, rfl, hk, hn, q⟩ := h
  obtain rfl : j = k := by omega
  clear e
  have nb : ∀ n, R (eT (.num n)) G := fun n => q _ (GT.num n (BT_pos j))
  refine ⟨_, rfl, rfl, d, 6, rfl, hk, by decide, by decide, fun r r0 r1 => ?_⟩
  refine ⟨_, rfl, _, rfl, ?_⟩
  have num : ∀ {X : Prop}, True → True := fun _ => trivial
  by_cases h0 : (j : Int) = 0
  · refine iteT' (decide_eq_true h0) ?_
    exact iteT ⟨_, rfl, rfl, d, rfl, hk, fun n => ⟨sz2, G, Sub.refl G, nb n⟩⟩
  refine iteF' (decide_eq_false h0) ?_
  refine ⟨_, rfl, _, rfl, ?_⟩
  by_cases h2 : r < 2
  · refine iteT' (decide_eq_true h2) ?_
    exact ⟨_, rfl, rfl, d, rfl, hk, fun n => ⟨sz2, G, Sub.refl G, nb n⟩⟩
  refine iteF' (decide_eq_false h2) ?_
  obtain ⟨i, rfl⟩ : ∃ i, j = i + 1 := ⟨j - 1, by omega⟩
  have ei : (((i + 1 : Nat) : Int) - 1) = (i : Int) := by omega
  refine ⟨_, rfl, _, rfl, ?_⟩
  by_cases h5 : r < 5
  · refine iteT' (decide_eq_true h5) ?_
    refine ⟨_, rfl, _, rfl, sz2, fun p np => ⟨_, rfl, rfl, d, 8, rfl, hk.new np, by decide, by decide, fun r2 _ _ => ?_⟩⟩
    refine .inl ⟨_, _, .inl dupd_same, int2 (decide (r2 = 1)), _, rfl, ?_⟩
    obtain ⟨m, hm, em⟩ : ∃ m : Nat, m ≤ 6 ∧ (if decide (r2 = 1) = true then DV.int 6 else DV.int 3) = .int (m : Int) := by
      cases decide (r2 = 1)
      · exact ⟨3, by decide, rfl⟩
      · exact ⟨6, by decide, rfl⟩
    refine ⟨rfl, d, nm, i, m, rfl, by rw [em, ei], hk.new np, hn.new np, by omega, fun ws g => ⟨sz2, G, (Sub.refl G).new np, q (.row ws) ?_⟩⟩
    refine (GT.row g).up (Nat.le_refl _) ?_
    show _ ≤ 1 + 6 * (1 + BT i)
    have := Nat.mul_le_mul_right (1 + BT i) hm
    omega
  refine iteF' (decide_eq_false h5) ?_
  refine ⟨_, rfl, rfl, d, 4, rfl, hk, by decide, by decide, fun u u0 u1 => ⟨u, rfl, by omega, by omega, ?_⟩⟩
  refine lc_each (Q := fun d G2 => bTuple [d] G2 fun y G3 => 2 ≤ sizeLine ∧ Less R (.tup [.str "list", y]) G3) (isT i (BT i)) ?_ ?_ ?_ ?_
  · exact fun p o np => trivial
  · rw [rng_len]; omega
  · intro x hx G' k1 k0 hG h1
    obtain ⟨p, acc, np, rfl⟩ := hG
    refine ly1 ?_
    exact iteT ⟨_, rfl, _, rfl, _, rfl, rfl, d, nm, i, rfl, by rw [ei], hk.new np, hn.new np, fun t g => h1 _ ⟨t, rfl, g⟩⟩
  · intro p acc np la he
    refine ⟨_, .inl dupd_same, sz2, G, (Sub.refl G).new np, ?_⟩
    obtain ⟨ts, e, g⟩ := isTs he
    rw [e]
    refine q (.lst ts) ((GT.lst g).up (Nat.le_refl _) ?_)
    rw [la, rng_len]
    show _ ≤ 1 + 6 * (1 + BT i)
    have := Nat.mul_le_mul_right (BT i) (show u.toNat ≤ 6 by omega)
    omega
/-- the three, at every depth -/
theorem all_trw (aT : At K mg "_law_thing" s_L_thing A_L_thing) (aW : At K mg "_law_word" s_L_word A_L_word) (aR : At K mg "_law_row" s_L_row A_L_row) (B : BI mg) (cd : Has P w K mg base 2 "_law_draw" A_L_draw SP_draw) (cn : Has P w K mg base 3 "_law_number" A_L_number SP_number) (cs : Has P w K mg base 3 "_law_shuffle" A_L_shuffle SP_shuffle) :
    ∀ k, Has P w K mg base (3 * k + 4) "_law_thing" A_L_thing (SP_thing k) ∧ Has P w K mg base (3 * k + 5) "_law_word" A_L_word (SP_word k) ∧ Has P w K mg base (3 * k + 6) "_law_row" A_L_row (SP_row k) := by
  have up : ∀ k, Has P w K mg base (3 * k + 4) "_law_thing" A_L_thing (SP_thing k) → Has P w K mg base (3 * k + 4) "_law_thing" A_L_thing (SP_thing k) ∧ Has P w K mg base (3 * k + 5) "_law_word" A_L_word (SP_word k) ∧ Has P w K mg base (3 * k + 6) "_law_row" A_L_row (SP_row k) := fun k t =>
    have wd := h_L_word aW B cd t cs
    ⟨t, wd, h_L_row aR B cd wd⟩
  intro k
  induction k with
  | zero =>
    refine up 0 ?_
    refine at_mk aT sc_L_thing fun f cdv A outer s H E hr ds G R hl h => ?_
    obtain ⟨d, nm, j, e, _⟩ := h
    exact absurd e (by omega)
  | succ k ih => exact up (k + 1) (h_L_thing aT B cd cn ih.2.2 ih.1)
end
end K39
set_option maxHeartbeats 400000
namespace K39
open PySem PySem.W L2 SX Cm DD

mutual
theorem plT_len (p : List Int) : ∀ t, (plT p t).length ≤ szT t
  | .num _ => Nat.zero_le _
  | .row ws => Nat.le_trans (plWs_len p 0 ws) (by show _ ≤ 1 + szWs ws; omega)
  | .lst ts => Nat.le_trans (plTs_len p 0 ts) (by show _ ≤ 1 + szTs ts; omega)
theorem plW_len (p : List Int) : ∀ w0, (plW p w0).length + 1 ≤ szW w0
  | .txt _ => Nat.le_refl 1
  | .push t => by have := plT_len p t; show (plT p t).length + 1 ≤ 1 + szT t; omega
theorem plWs_len (p : List Int) (k : Nat) : ∀ ws, (plWs p k ws).length ≤ szWs ws
  | [] => Nat.le_refl 0
  | w0 :: r => by
    have := plW_len (p ++ [(k : Int)]) w0
    have := plWs_len p (k + 1) r
    show (plW (p ++ [(k : Int)]) w0 ++ plWs p (k + 1) r).length + 1 ≤ szW w0 + szWs r
    rw [List.length_append]; omega
theorem plTs_len (p : List Int) (k : Nat) : ∀ ws, (plTs p k ws).length ≤ szTs ws
  | [] => Nat.le_refl 0
  | w0 :: r => by
    have := plT_len (p ++ [(k : Int)]) w0
    have := plTs_len p (k + 1) r
    show (plT (p ++ [(k : Int)]) w0 ++ plTs p (k + 1) r).length ≤ szT w0 + szTs r
    rw [List.length_append]; omega
end
theorem plWs_app (p : List Int) : ∀ (k : Nat) (a c : List Wo), plWs p k (a ++ c) = plWs p k a ++ plWs p (k + a.length) c
  | k, [], c => rfl
  | k, w0 :: a, c => by
    show (p ++ [(k : Int)], w0) :: (plW (p ++ [(k : Int)]) w0 ++ plWs p (k + 1) (a ++ c)) = (p ++ [(k : Int)], w0) :: ((plW (p ++ [(k : Int)]) w0 ++ plWs p (k + 1) a) ++ plWs p (k + (a.length + 1)) c)
    rw [plWs_app p (k + 1) a c, List.append_assoc, show k + 1 + a.length = k + (a.length + 1) by omega]
theorem plTs_app (p : List Int) : ∀ (k : Nat) (a c : List Th), plTs p k (a ++ c) = plTs p k a ++ plTs p (k + a.length) c
  | k, [], c => rfl
  | k, w0 :: a, c => by
    show plT (p ++ [(k : Int)]) w0 ++ plTs p (k + 1) (a ++ c) = (plT (p ++ [(k : Int)]) w0 ++ plTs p (k + 1) a) ++ plTs p (k + (a.length + 1)) c
    rw [plTs_app p (k + 1) a c, List.append_assoc, show k + 1 + a.length = k + (a.length + 1) by omega]
theorem nmbd_at {i : Nat} {dd : DV} {ws : List Wo} (h : (nmbd (eWs ws))[i]? = some dd) : ∃ w0, ws[i]? = some w0 ∧ dd = .tup [.int (i : Int), eW w0] := by
  have hi : i < ws.length := by have := (List.getElem?_eq_some_iff.mp h).1; rw [nmbd_len, eWs_len] at this; exact this
  have e : (eWs ws)[i]? = some (eW ws[i]) := by rw [eWs_map, List.getElem?_map, List.getElem?_eq_getElem hi]; rfl
  rw [nmbd_get e] at h
  exact ⟨ws[i], List.getElem?_eq_getElem hi, (Option.some.inj h).symm⟩
theorem nmbd_atT {i : Nat} {dd : DV} {ws : List Th} (h : (nmbd (eTs ws))[i]? = some dd) : ∃ w0, ws[i]? = some w0 ∧ dd = .tup [.int (i : Int), eT w0] := by
  have hi : i < ws.length := by have := (List.getElem?_eq_some_iff.mp h).1; rw [nmbd_len, eTs_len] at this; exact this
  have e : (eTs ws)[i]? = some (eT ws[i]) := by rw [eTs_map, List.getElem?_map, List.getElem?_eq_getElem hi]; rfl
  rw [nmbd_get e] at h
  exact ⟨ws[i], List.getElem?_eq_getElem hi, (Option.some.inj h).symm⟩
def plc (xs : List (List Int × Wo)) : List DV := xs.map fun x => plD x.1
theorem plc_app (a c : List (List Int × Wo)) : plc (a ++ c) = plc a ++ plc c := List.map_append
theorem plc_len (a : List (List Int × Wo)) : (plc a).length = a.length := List.length_map _
theorem plD_add (p : List Int) (k : Int) : DV.tup (p.map DV.int ++ [DV.int k]) = plD (p ++ [k]) := by
  show _ = DV.tup ((p ++ [k]).map DV.int)
  rw [List.map_append]; rfl
section
variable {P : Program} {w : World} {K : Frag} {mg : Str → Option Value} {base : Heap}

def SP_within (k : Nat) : DSp := fun ds G R => ∃ (t : Th) (p : List Int), ds = [eT t, plD p] ∧ dpT t < k ∧ szT t ≤ 10000 ∧ p.length + szT t ≤ 20000 ∧ ∀ r, G r = none → R (.ref r) (dupd G r (.lst (plc (plT p t))))
def SP_places (k : Nat) : DSp := fun ds G R => ∃ (ws : List Wo) (p : List Int), ds = [.tup (eWs ws), plD p] ∧ dpWs ws < k ∧ szWs ws ≤ 10000 ∧ p.length + szWs ws ≤ 20000 ∧ ∀ r, G r = none → R (.ref r) (dupd G r (.lst (plc (plWs p 0 ws))))
abbrev A_L_within : List Str := ["_law_thing_here", "_law_place"]
abbrev A_L_places : List Str := ["_law_row_here", "_law_place"]
abbrev N_L_places : List Str := ["_law_row_here", "_law_place", "_law_found", "_law_k", "_law_word_here"]
theorem sc_L_places : FnScope N_L_places A_L_places (defScope s_L_places) := ⟨rfl, rfl, rfl, by decide +kernel, rfl, by decide +kernel, by decide +kernel⟩
theorem h_L_places {k : Nat} (a : At K mg "_law_places" s_L_places A_L_places) (B : BI mg) (c_L_within : Has P w K mg base (2 * k + 1) "_law_within" A_L_within (SP_within k)) : Has P w K mg base (2 * k + 2) "_law_places" A_L_places (SP_places k) := by
  refine at_mk a sc_L_places fun f cdv A outer s H E hr ds G R hl h => ?_
  refine ⟨_, (dss_cons (ds_set (i := 2) sc_L_places.nd rfl (.inl rfl) (de_lst da_nil))
    (dss_cons (ds_for PassesOwn.never rfl (di_enumT B.enum rfl (da_cons (dv 0) da_nil)) (dg_tup rfl (dgs_cons (dg_name (i := 3) sc_L_places.nd rfl (.inl rfl)) (dgs_cons (dg_name (i := 4) sc_L_places.nd rfl (.inl rfl)) dgs_nil))) (dss_cons (ds_expr (de_bm PySem.F.plainAttrs_list PySem.F.slot_list_append PySem.F.type_list_append md_append (dv 2) (da_cons (de_op od_add (dv 1) (de_tup (da_cons (dv 3) da_nil))) da_nil)))
      (dss_one (ds_if (dt_e (de_callB cd_isi B.isi rfl (by decide +kernel) (da_cons (dv 4) (da_cons (de_ty (n := "tuple") B.tup rfl (by decide +kernel)) da_nil)))) (dss_one (ds_set (i := 2) sc_L_places.nd rfl (.inl rfl) (de_op od_add (dv 2) (de_call c_L_within (hr.mono (by omega)) rfl (da_cons (de_ix (dv 4) de_int) (da_cons (de_op od_add (dv 1) (de_tup (da_cons (dv 3) da_nil))) da_nil)))))) dss_nil))))
    (dss_one (ds_ret (dv 2))))), ?_⟩
  obtain ⟨ws, p, rfl, hd, hz, hp, q⟩ := h
  refine ⟨sz0, fun r0 nr0 => ?_⟩
  refine ⟨_, rfl, eWs ws, rfl, ?_⟩
  refine ⟨fun i δ G' => ∃ (r : Addr) (x3 x4 : Option DV), δ = [some (.tup (eWs ws)), some (plD p), some (.ref r), x3, x4] ∧ G r = none ∧ Sub G G' ∧ G' r = some (.lst (plc (plWs p 0 (ws.take i)))), ⟨r0, none, none, rfl, nr0, (Sub.refl G).new nr0, dupd_same⟩, fun _ _ _ _ => trivial, ?_, ?_⟩
  · rintro i dd δ G' hdd ⟨r, x3, x4, rfl, nr, sG, hr'⟩
    obtain ⟨w0, hw, rfl⟩ := nmbd_at hdd
    have hlt : i < ws.length := (List.getElem?_eq_some_iff.mp hw).1
    have et : ws.take (i + 1) = ws.take i ++ [w0] := by rw [List.take_add_one, hw]; rfl
    have tl : (ws.take i).length = i := by rw [List.length_take]; omega
    have em : w0 ∈ ws := List.mem_of_getElem? hw
    obtain ⟨mz, md, _⟩ := mem_szW em
    have wl := szWs_len ws
    have ep : plWs p 0 (ws.take (i + 1)) = (plWs p 0 (ws.take i) ++ [(p ++ [(i : Int)], w0)]) ++ plW (p ++ [(i : Int)]) w0 := by
      rw [et, plWs_app, tl, Nat.zero_add]
      show _ ++ ((p ++ [(i : Int)], w0) :: (plW (p ++ [(i : Int)]) w0 ++ [])) = _
      rw [List.append_nil, List.append_assoc]; rfl
    have l1 := plWs_len p 0 (ws.take i)
    have l2 : szWs (ws.take (i + 1)) ≤ szWs ws := by
      have := szWs_app (ws.take (i + 1)) (ws.drop (i + 1))
      rw [List.take_append_drop] at this; omega
    have l3 : szWs (ws.take (i + 1)) = szWs (ws.take i) + szW w0 := by
      rw [et, szWs_app]; rfl
    have l4 := szW_pos w0
    have l5 := plW_len (p ++ [(i : Int)]) w0
    refine ⟨_, rfl, rfl, _, _, rfl, _, _, rfl, rfl, ?_⟩
    refine ⟨_, rfl, .inl ⟨rfl, _, .inl hr'⟩, _, rfl, _, rfl, sz1, ?_⟩
    refine ⟨mid (by rw [List.length_map]; show p.length + 1 ≤ _; omega), r, _, _, rfl, rfl, hr', midlt (by rw [plc_len]; omega), ?_⟩
    have sG1 : Sub G (dupd G' r (.lst (plc (plWs p 0 (ws.take i)) ++ [.tup (p.map DV.int ++ [DV.int i])]))) := sG.new nr
    have h1 : (dupd G' r (.lst (plc (plWs p 0 (ws.take i)) ++ [.tup (p.map DV.int ++ [DV.int i])]))) r = some (.lst (plc (plWs p 0 (ws.take i) ++ [(p ++ [(i : Int)], w0)]))) := by
      rw [dupd_same, plc_app, plD_add]; rfl
    generalize (dupd G' r (.lst (plc (plWs p 0 (ws.take i)) ++ [.tup (p.map DV.int ++ [DV.int i])]))) = G1 at sG1 h1
    cases w0 with
    | txt z =>
      refine ⟨_, rfl, by decide, "str", false, rfl, by decide, tru (iteF ⟨r, _, _, rfl, nr, sG1, ?_⟩)⟩
      rw [ep, h1]
      show _ = some (DO.lst (plc ((plWs p 0 (ws.take i) ++ [(p ++ [(i : Int)], .txt z)]) ++ [])))
      rw [List.append_nil]
    | push t =>
      refine ⟨_, rfl, by decide, "tuple", true, rfl, by decide, tru (iteT ?_)⟩
      have z1 : szW (.push t) = 1 + szT t := rfl
      have z2 : dpW (.push t) = dpT t := rfl
      have z3 : (plW (p ++ [(i : Int)]) (.push t)).length = (plT (p ++ [(i : Int)]) t).length := rfl
      refine ⟨_, rfl, _, rfl, _, atI_nat (j := 1) rfl, _, rfl, _, rfl, sz1, mid (by rw [List.length_map]; show p.length + 1 ≤ _; omega), rfl, t, p ++ [(i : Int)], by rw [plD_add], by omega, by omega, by rw [List.length_append]; show p.length + 1 + _ ≤ _; omega, fun r2 nr2 => ?_⟩
      refine ⟨_, _, (by rw [dupd_ne (ne_some h1 nr2)]; exact h1), dupd_same, mid (by rw [plc_len, plc_len, List.length_append]; show _ + 1 + _ ≤ _; omega), fun r3 nr3 => ?_⟩
      refine ⟨r3, _, _, rfl, (sG1.new (sG1.nonew nr2)).nonew nr3, (sG1.new (sG1.nonew nr2)).new ((sG1.new (sG1.nonew nr2)).nonew nr3), ?_⟩
      rw [dupd_same, ep, ← plc_app]; rfl
  · rintro δ G' ⟨r, x3, x4, rfl, nr, sG, hr'⟩
    rw [nmbd_len, eWs_len, List.take_length] at hr'
    exact ⟨_, rfl, _, Sub.at_ sG hr', q r nr⟩
abbrev N_L_within : List Str := ["_law_thing_here", "_law_place", "_law_found", "_law_k", "_law_one"]
theorem sc_L_within : FnScope N_L_within A_L_within (defScope s_L_within) := ⟨rfl, rfl, rfl, by decide +kernel, rfl, by decide +kernel, by decide +kernel⟩
theorem h_L_within {k : Nat} (a : At K mg "_law_within" s_L_within A_L_within) (B : BI mg) (c_L_places : Has P w K mg base (2 * k + 2) "_law_places" A_L_places (SP_places k)) (c_L_within : Has P w K mg base (2 * k + 1) "_law_within" A_L_within (SP_within k)) : Has P w K mg base (2 * k + 3) "_law_within" A_L_within (SP_within (k + 1)) := by
  refine at_mk a sc_L_within fun f cdv A outer s H E hr ds G R hl h => ?_
  refine ⟨_, (dss_cons (ds_if (dt_cmp (od_eq hr.units) (de_ix (dv 0) de_int) de_str (nomark _)) (dss_one (ds_ret (de_call c_L_places (hr.mono (by omega)) rfl (da_cons (de_ix (dv 0) de_int) (da_cons (dv 1) da_nil))))) dss_nil)
    (dss_cons (ds_set (i := 2) sc_L_within.nd rfl (.inl rfl) (de_lst da_nil))
    (dss_cons (ds_if (dt_cmp (od_eq hr.units) (de_ix (dv 0) de_int) de_str (nomark _)) (dss_one (ds_for PassesOwn.never rfl (di_enumT B.enum rfl (da_cons (de_ix (dv 0) de_int) da_nil)) (dg_tup rfl (dgs_cons (dg_name (i := 3) sc_L_within.nd rfl (.inl rfl)) (dgs_cons (dg_name (i := 4) sc_L_within.nd rfl (.inl rfl)) dgs_nil))) (dss_one (ds_set (i := 2) sc_L_within.nd rfl (.inl rfl) (de_op od_add (dv 2) (de_call c_L_within (hr.mono (by omega)) rfl (da_cons (dv 4) (da_cons (de_op od_add (dv 1) (de_tup (da_cons (dv 3) da_nil))) da_nil)))))))) dss_nil)
    (dss_one (ds_ret (dv 2)))))), ?_⟩
  obtain ⟨t, p, rfl, hd, hz, hp, q⟩ := h
  cases t with
  | num n =>
    refine ⟨_, rfl, _, atI_nat (j := 0) rfl, _, rfl, iteF' (by decide +kernel) ?_⟩
    refine ⟨sz0, fun r nr => ?_⟩
    refine ⟨_, rfl, _, atI_nat (j := 0) rfl, _, rfl, iteF' (by decide +kernel) ?_⟩
    exact ⟨_, rfl, Less.of (q r nr)⟩
  | row ws =>
    have z1 : szT (.row ws) = 1 + szWs ws := rfl
    have z2 : dpT (.row ws) = 1 + dpWs ws := rfl
    refine ⟨_, rfl, _, atI_nat (j := 0) rfl, _, rfl, iteT' (by decide +kernel) ?_⟩
    exact ⟨_, rfl, _, atI_nat (j := 1) rfl, _, rfl, rfl, ws, p, rfl, by omega, by omega, by omega, fun r nr => Less.of (q r nr)⟩
  | lst ts =>
    have z1 : szT (.lst ts) = 1 + szTs ts := rfl
    have z2 : dpT (.lst ts) = 1 + dpTs ts := rfl
    refine ⟨_, rfl, _, atI_nat (j := 0) rfl, _, rfl, iteF' (by decide +kernel) ?_⟩
    refine ⟨sz0, fun r0 nr0 => ?_⟩
    refine ⟨_, rfl, _, atI_nat (j := 0) rfl, _, rfl, iteT' (by decide +kernel) ?_⟩
    refine ⟨_, rfl, _, atI_nat (j := 1) rfl, eTs ts, rfl, ?_⟩
    refine ⟨fun i δ G' => ∃ (r : Addr) (x3 x4 : Option DV), δ = [some (eT (.lst ts)), some (plD p), some (.ref r), x3, x4] ∧ G r = none ∧ Sub G G' ∧ G' r = some (.lst (plc (plTs p 0 (ts.take i)))), ⟨r0, none, none, rfl, nr0, (Sub.refl G).new nr0, dupd_same⟩, fun _ _ _ _ => trivial, ?_, ?_⟩
    · rintro i dd δ G' hdd ⟨r, x3, x4, rfl, nr, sG, hr'⟩
      obtain ⟨w0, hw, rfl⟩ := nmbd_atT hdd
      have hlt : i < ts.length := (List.getElem?_eq_some_iff.mp hw).1
      have et : ts.take (i + 1) = ts.take i ++ [w0] := by rw [List.take_add_one, hw]; rfl
      have tl : (ts.take i).length = i := by rw [List.length_take]; omega
      have em : w0 ∈ ts := List.mem_of_getElem? hw
      obtain ⟨mz, md, _⟩ := mem_szT em
      have wl := szTs_len ts
      have ep : plTs p 0 (ts.take (i + 1)) = plTs p 0 (ts.take i) ++ plT (p ++ [(i : Int)]) w0 := by
        rw [et, plTs_app, tl, Nat.zero_add]
        show _ ++ (plT (p ++ [(i : Int)]) w0 ++ []) = _
        rw [List.append_nil]
      have l1 := plTs_len p 0 (ts.take i)
      have l2 : szTs (ts.take (i + 1)) ≤ szTs ts := by
        have := szTs_app (ts.take (i + 1)) (ts.drop (i + 1))
        rw [List.take_append_drop] at this; omega
      have l3 : szTs (ts.take (i + 1)) = szTs (ts.take i) + szT w0 := by
        rw [et, szTs_app]; rfl
      have l4 := szT_pos w0
      have l5 := plT_len (p ++ [(i : Int)]) w0
      refine ⟨_, rfl, rfl, _, _, rfl, _, _, rfl, rfl, ?_⟩
      refine ⟨_, rfl, _, rfl, _, rfl, _, rfl, sz1, mid (by rw [List.length_map]; show p.length + 1 ≤ _; omega), rfl, w0, p ++ [(i : Int)], by rw [plD_add], by omega, by omega, by rw [List.length_append]; show p.length + 1 + _ ≤ _; omega, fun r2 nr2 => ?_⟩
      refine ⟨_, _, (by rw [dupd_ne (ne_some hr' nr2)]; exact hr'), dupd_same, mid (by rw [plc_len, plc_len]; omega), fun r3 nr3 => ?_⟩
      refine ⟨r3, _, _, rfl, (sG.new (sG.nonew nr2)).nonew nr3, (sG.new (sG.nonew nr2)).new ((sG.new (sG.nonew nr2)).nonew nr3), ?_⟩
      rw [dupd_same, ep, ← plc_app]
    · rintro δ G' ⟨r, x3, x4, rfl, nr, sG, hr'⟩
      rw [nmbd_len, eTs_len, List.take_length] at hr'
      exact ⟨_, rfl, _, Sub.at_ sG hr', q r nr⟩
theorem all_pl (aW : At K mg "_law_within" s_L_within A_L_within) (aP : At K mg "_law_places" s_L_places A_L_places) (B : BI mg) : ∀ k, Has P w K mg base (2 * k + 1) "_law_within" A_L_within (SP_within k) ∧ Has P w K mg base (2 * k + 2) "_law_places" A_L_places (SP_places k) := by
  intro k
  induction k with
  | zero =>
    have t : Has P w K mg base (2 * 0 + 1) "_law_within" A_L_within (SP_within 0) := by
      refine at_mk aW sc_L_within fun f cdv A outer s H E hr ds G R hl h => ?_
      obtain ⟨t, p, _, e, _⟩ := h
      exact absurd e (Nat.not_lt_zero _)
    exact ⟨t, h_L_places aP B t⟩
  | succ k ih =>
    have t := h_L_within aW B ih.2 ih.1
    exact ⟨t, h_L_places (k := k + 1) aP B t⟩
end
end K39
set_option maxHeartbeats 400000
namespace K39
open PySem PySem.W L2 SX Cm DD
local macro_rules | `(tactic| walk_at "d1") => `(tactic| first | (with_reducible refine w_seq ?_) | (with_reducible refine w_next ?_) | ((with_reducible show dVar _ _ _ _); refine w_var rfl ?_) | (with_reducible refine w_asg ?_) | (with_reducible refine w_cons ?_) | (with_reducible refine w_nil ?_) | (with_reducible refine w_c ?_) | (with_reducible refine w_op ?_) | (with_reducible refine w_call ?_) | (with_reducible refine w_CB ?_) | (with_reducible refine w_ret ?_) | (with_reducible refine w_ifS ?_) | (with_reducible refine w_drop ?_) | (with_reducible refine w_tup ?_) | (with_reducible refine w_lst ?_) | (with_reducible refine w_sl ?_) | (with_reducible refine w_none ?_) | (with_reducible refine w_some ?_) | (with_reducible refine w_BM ?_) | (with_reducible refine w_BM0 ?_) | (with_reducible refine w_test ?_) | (with_reducible refine w_tru ?_) | (with_reducible refine w_and ?_) | (with_reducible refine w_or ?_) | (with_reducible refine w_not ?_) | (with_reducible refine w_yes ?_) | (with_reducible refine w_ifE ?_) | (with_reducible refine w_andV ?_) | (with_reducible refine w_orV ?_) | (with_reducible refine w_notV ?_) | (with_reducible refine w_neg ?_) | (with_reducible refine w_rev ?_) | (with_reducible refine w_exI ?_) | (with_reducible refine w_exB ?_) | (with_reducible refine w_exT ?_) | (with_reducible refine w_exS ?_) | (with_reducible refine w_parE ?_) | (with_reducible refine w_par ?_) | (with_reducible refine w_asgS ?_) | (with_reducible refine w_retN ?_) | (with_reducible refine w_break ?_) | (with_reducible refine w_cont ?_) | (with_reducible refine w_truB ?_) | (with_reducible refine w_truI ?_) | (with_reducible refine w_truN ?_) | (with_reducible refine w_truT ?_) | (with_reducible refine w_addI ?_) | (with_reducible refine w_subI ?_) | (with_reducible refine w_cmpI ?_) | (with_reducible refine w_cmpS ?_) | (with_reducible refine w_eqSS ?_) | (with_reducible refine w_eqII ?_) | (with_reducible refine w_eqBB ?_) | (with_reducible refine w_neSS ?_) | (with_reducible refine w_neII ?_) | (with_reducible refine w_neBB ?_) | (with_reducible refine w_eqSN ?_) | (with_reducible refine w_eqIN ?_) | (with_reducible refine w_eqSI ?_) | (with_reducible refine w_eqIS ?_) | (with_reducible refine w_eqNS ?_) | (with_reducible refine w_eqBS ?_) | (with_reducible refine w_eqT0 ?_) | (with_reducible refine w_ix0 ?_) | (with_reducible refine w_ix1 ?_) | (with_reducible refine w_ix2 ?_) | (with_reducible refine w_ix3 ?_) | (with_reducible refine w_slT ?_) | (with_reducible refine w_lenT ?_) | (with_reducible refine w_intB ?_) | (with_reducible refine w_intI ?_) | (with_reducible refine w_tupT ?_) | (with_reducible refine w_rcvS ?_) | (with_reducible refine ly1 ?_) | (with_reducible refine ly2 ?_) | (with_reducible refine g_n ?_) | (with_reducible refine w_isN ?_) | (with_reducible refine w_isnN ?_) | (with_reducible refine w_for ?_) | (with_reducible refine w_lc ?_) | (with_reducible refine wi_tup ?_) | (with_reducible refine wi_lst ?_) | (with_reducible refine wi_str ?_) | (with_reducible refine wi_rng ?_) | (with_reducible refine wi_rng2 ?_) | (with_reducible refine wi_enumT ?_) | (with_reducible refine wi_enum ?_) | (with_reducible refine wi_rev ?_) | (with_reducible refine wi_revR ?_) | (with_reducible refine wx_enumT ?_) | ((with_reducible show List.length _ = _ ∧ _); refine w_len ?_ rfl) | ((with_reducible show List.length _ ≤ sizeLine ∧ _); refine w_sz ?_ (szl rfl)) | ((with_reducible show bIx _ (.int _) _ _); first | refine w_ix0 ?_ | refine w_ix1 ?_ | refine w_ix2 ?_ | refine w_ix3 ?_) | ((with_reducible show bIsi [_, _] _ _); first | refine w_isi (by decide) (a := "tuple") rfl rfl ?_ | refine w_isi (by decide) (a := "str") rfl rfl ?_ | refine w_isi (by decide) (a := "int") rfl rfl ?_ | refine w_isi (by decide) (a := "bool") rfl rfl ?_ | refine w_isi (by decide) (a := "NoneType") rfl rfl ?_) | ((with_reducible show bInt _ _ (.int _) (.int _) _ _); refine w_int (by first | decide | exact ⟨by decide, by decide, by decide⟩ | exact .inl ⟨by decide, by decide⟩ | exact .inr ⟨by decide, by decide⟩) ?_) | ((with_reducible show if _ = true then _ else _); first | refine w_it (by first | rfl | decide +kernel) ?_ | refine w_if0 (by first | rfl | decide +kernel) ?_) | ((with_reducible show rcv "list" (.ref _) _ ∧ _); refine w_rcvL (by walk_at "gq") ?_) | ((with_reducible show bTuple [.ref _] _ _); refine w_tupL (by walk_at "gq") ?_) | ((with_reducible show bLen [.ref _] _ _); refine w_lenL (by walk_at "gq") ?_) | ((with_reducible show bTru (.ref _) _ _); refine w_truL (by walk_at "gq") ?_) | ((with_reducible show ∃ _ _, DV.ref _ = _ ∧ Ls _ _ _ ∧ _); refine wx_lst (by walk_at "gq") ?_) | ((with_reducible show ∃ _ _, [DV.ref _] = _ ∧ Ls _ _ _ ∧ _); first | with_reducible refine wx_rev (by walk_at "gq") ?_ | with_reducible refine wx_enum (by walk_at "gq") ?_))
local macro_rules | `(tactic| walk_at "dd") => `(tactic| repeat (walk_at "d1"))
local macro_rules | `(tactic| walk_at "gq") => `(tactic| first | assumption | exact dupd_same | (refine (dupd_ne ?_).trans ?_; (focus walk_at "gn"); walk_at "gq"))
local macro_rules | `(tactic| walk_at "gn") => `(tactic| first | assumption | exact ne_ns (by assumption) ⟨_, by walk_at "gq"⟩ | exact ne_sn (by assumption) ⟨_, by walk_at "gq"⟩)

def pushes : List Wo → List Th
  | [] => []
  | .txt _ :: r => pushes r
  | .push t :: r => t :: pushes r
theorem pushes_sz : ∀ ws, szTs (pushes ws) ≤ szWs ws
  | [] => Nat.le_refl 0
  | .txt _ :: r => by have := pushes_sz r; show szTs (pushes r) ≤ 1 + szWs r; omega
  | .push t :: r => by have := pushes_sz r; show szT t + szTs (pushes r) ≤ (1 + szT t) + szWs r; omega
def pushF : DV → Option DV
  | .tup [_, t] => some t
  | _ => none
theorem pushF_eq : ∀ ws, (eWs ws).filterMap pushF = eTs (pushes ws)
  | [] => rfl
  | .txt z :: r => by
    show List.filterMap pushF (DV.str z :: eWs r) = _
    rw [List.filterMap_cons_none rfl]; exact pushF_eq r
  | .push t :: r => by
    show List.filterMap pushF (DV.tup [.str "push", eT t] :: eWs r) = _
    rw [List.filterMap_cons_some (f := pushF) (b := eT t) rfl, pushF_eq r]; rfl
theorem snocT : ∀ ts : List Th, ts ≠ [] → ∃ r t, ts = r ++ [t] := fun ts h => ⟨ts.dropLast, ts.getLast h, (List.dropLast_concat_getLast h).symm⟩
theorem eTs_app (a b : List Th) : eTs (a ++ b) = eTs a ++ eTs b := by rw [eTs_map, eTs_map, eTs_map, List.map_append]
theorem cmps_ts {k m : Nat} {ts : List Th} (g : GTs k m ts) (hk : k ≤ 15) : Cmps (eTs ts) := by
  obtain ⟨a, b, c⟩ := eTs_cmp ts
  exact ⟨plains_pure _ a, c g.tx, by have := g.dp; omega⟩
theorem pushes_g {k m : Nat} {ws : List Wo} (h : GW k m ws) : GTs k m (pushes ws) := by
  refine ⟨?_, Nat.le_trans (pushes_sz ws) h.sz, ?_⟩
  · refine Nat.le_trans ?_ h.dp
    clear h
    induction ws with
    | nil => exact Nat.le_refl 0
    | cons w0 r ih =>
      cases w0 with
      | txt z => show dpTs (pushes r) ≤ max 0 (dpWs r); omega
      | push t => show max (dpT t) (dpTs (pushes r)) ≤ max (dpT t) (dpWs r); omega
  · have := h.tx
    clear h
    induction ws with
    | nil => rfl
    | cons w0 r ih =>
      have h' : (txW w0 && txWs r) = true := this
      rw [Bool.and_eq_true] at h'
      cases w0 with
      | txt z => exact ih h'.2
      | push t => show (txT t && txTs (pushes r)) = true; rw [ih h'.2]; rw [show txT t = true from h'.1]; rfl
section
variable {P : Program} {w : World} {K : Frag} {mg : Str → Option Value} {base : Heap}
theorem lc_push {ws : List Wo} {i : Nat} {δ : DSt} {G1 : DG} {Q : DK} (hl : ws.length ≤ 1000000) (hi : ∀ d, (δ.set i (some d))[i]? = some (some d)) (q : ∀ p, G1 p = none → Q (.ref p) (dupd G1 p (.lst (eTs (pushes ws))))) :
    LcG (eWs ws) (fun _ => True) (l1 i) (dTru (dCB bIsi (dCons (dVar i) (dCons (dC (.ty "tuple")) dNil)))) (dOp bIx (dVar i) (dC (.int 1))) δ G1 Q := by
  refine lcg_pure pushF (fun _ _ _ => trivial) (by rw [eWs_len]; exact hl) ?_ (by rw [pushF_eq]; exact q)
  intro d hd G' k1 k0 _ h1 h0
  rw [eWs_map] at hd
  obtain ⟨w0, _, rfl⟩ := List.mem_map.mp hd
  refine lt1' ?_
  cases w0 with
  | txt z =>
    refine w_tru (w_CB (w_cons (w_var (hi _) ?_)))
    walk_at "dd"
    exact h0 rfl
  | push t =>
    refine w_tru (w_CB (w_cons (w_var (hi _) ?_)))
    walk_at "dd"
    refine w_op (w_var (hi _) ?_)
    walk_at "dd"
    exact h1 _ rfl
def SP_count : DSp := fun ds G R => ∃ ws, ds = [.tup (eWs ws)] ∧ GW 15 10000 ws ∧ ∀ n, (ws = [] → n = 0) → R (.int n) G
abbrev N_L_count : List Str := ["_law_row_here", "_law_found", "_law_word_here", "_law_waiting", "_law_thing_here"]
abbrev A_L_count : List Str := ["_law_row_here"]
theorem sc_L_count : FnScope N_L_count A_L_count (defScope s_L_count) := ⟨rfl, rfl, rfl, by decide +kernel, rfl, by decide +kernel, by decide +kernel⟩
theorem h_L_count (a : At K mg "_law_count" s_L_count A_L_count) (B : BI mg) : Has P w K mg base 1 "_law_count" A_L_count SP_count := by
  refine at_mk a sc_L_count fun f cdv A outer s H E hr ds G R hl h => ?_
  refine ⟨_, (dss_cons (ds_set (i := 1) sc_L_count.nd rfl (.inl rfl) (de_callB cd_len B.len rfl (by decide +kernel) (da_cons (dv 0) da_nil)))
    (dss_cons (ds_setLc (i := 3) (own := [("_law_word_here", 2)]) (lt1 (i := 2) (by decide)) rfl sc_L_count.nd rfl rfl (sw_true rfl rfl rfl (by decide +kernel)) (di_tup (dv 0)) (blkOk_by (own := [("_law_word_here", 2)]) (N := N_L_count) (sc := defScope s_L_count) (by decide +kernel)) (fun _ _ _ _ _ => pg_name (i := 2) sc_L_count.nd rfl (Or.inl rfl)) (fun _ _ _ _ _ => (dts_one (dt_e (de_callB cd_isi B.isi rfl (by decide +kernel) (da_cons (dv 2) (da_cons (de_ty (n := "tuple") B.tup rfl (by decide +kernel)) da_nil)))))) (fun _ _ _ _ _ => (de_ix (dv 2) de_int)))
    (dss_cons (ds_while PassesOwn.never (dt_cmp (od_ne hr.units) (dv 3) (de_lst da_nil) (nomark _)) (dss_cons (ds_set (i := 4) sc_L_count.nd rfl (.inl rfl) (de_bm0 PySem.F.plainAttrs_list PySem.F.slot_list_pop PySem.F.type_list_pop md_pop (dv 3)))
      (dss_one (ds_if (dt_cmp (od_eq hr.units) (de_ix (dv 4) de_int) de_str (nomark _)) (dss_cons (ds_set (i := 1) sc_L_count.nd rfl (.inl rfl) (de_op od_add (dv 1) (de_callB cd_len B.len rfl (by decide +kernel) (da_cons (de_ix (dv 4) de_int) da_nil))))
        (dss_one (ds_expr (de_bm PySem.F.plainAttrs_list PySem.F.slot_list_extend PySem.F.type_list_extend md_extend (dv 3) (da_cons (de_lc (own := [("_law_word_here", 2)]) (lt1 (i := 2) (by decide)) rfl sc_L_count.nd (di_tup (de_ix (dv 4) de_int)) (blkOk_by (own := [("_law_word_here", 2)]) (N := N_L_count) (sc := defScope s_L_count) (by decide +kernel)) (fun _ _ _ _ _ => pg_name (i := 2) sc_L_count.nd rfl (Or.inl rfl)) (fun _ _ _ _ _ => (dts_one (dt_e (de_callB cd_isi B.isi rfl (by decide +kernel) (da_cons (dv 2) (da_cons (de_ty (n := "tuple") B.tup rfl (by decide +kernel)) da_nil)))))) (fun _ _ _ _ _ => (de_ix (dv 2) de_int))) da_nil))))) (dss_one (ds_if (dt_cmp (od_eq hr.units) (de_ix (dv 4) de_int) de_str (nomark _)) (dss_one (ds_expr (de_bm PySem.F.plainAttrs_list PySem.F.slot_list_extend PySem.F.type_list_extend md_extend (dv 3) (da_cons (de_ix (dv 4) de_int) da_nil)))) dss_nil))))))
    (dss_one (ds_ret (dv 1)))))), ?_⟩
  obtain ⟨ws, rfl, hg, q⟩ := h
  have hz := hg.sz
  have wl := szWs_len ws
  walk_at "dd"
  refine lc_push (by omega) (fun _ => by rfl) fun r nr => ?_
  walk_at "dd"
  refine ⟨fun m δ G' => ∃ (n : Int) (x2 x4 : Option DV) (ts : List Th), δ = [some (.tup (eWs ws)), some (.int n), x2, some (.ref r), x4] ∧ (ws = [] → n = 0 ∧ ts = []) ∧ GTs 15 10000 ts ∧ Sub G G' ∧ G' r = some (.lst (eTs ts)) ∧ szTs ts = m, ⟨_, _, none, none, pushes ws, rfl, ?_, pushes_g hg, (Sub.refl G).new nr, dupd_same, rfl⟩, ?_⟩
  · rintro rfl; exact ⟨rfl, rfl⟩
  rintro m δ G' ⟨n, x2, x4, ts, rfl, hn, hg', sG, hr', rfl⟩
  walk_at "dd"
  intro p np
  refine w_neLL (by walk_at "gq") dupd_same (cmps_ts hg' (Nat.le_refl _)) ⟨rfl, rfl, Nat.zero_le _⟩ (eTs_cmp ts).1 rfl ?_
  walk_at "dd"
  have hr2 : dupd G' p (.lst []) r = some (.lst (eTs ts)) := by walk_at "gq"
  have sG2 : Sub G (dupd G' p (.lst [])) := sG.new (sG.nonew np)
  generalize dupd G' p (.lst []) = G2 at hr2 sG2
  refine w_iteN (fun hne => ?_) (fun he => ?_)
  · have hne' : ts ≠ [] := fun z => hne (by rw [z]; rfl)
    obtain ⟨ts', t, rfl⟩ := snocT ts hne'
    have wn : ws ≠ [] := fun z => hne' (hn z).2
    rw [eTs_app] at hr2
    walk_at "dd"
    refine w_pop hr2 ?_
    have sz := szTs_app ts' [t]
    have s1 : szTs [t] = szT t := Nat.add_zero _
    have gt : GTs 15 10000 ts' := ⟨by have := hg'.dp; rw [dpTs_app] at this; omega, by have := hg'.sz; omega, by have := hg'.tx; rw [txTs_app, Bool.and_eq_true] at this; exact this.1⟩
    have g1 : GTs 15 10000 [t] := ⟨by have := hg'.dp; rw [dpTs_app] at this; omega, by have := hg'.sz; omega, by have := hg'.tx; rw [txTs_app, Bool.and_eq_true] at this; exact this.2⟩
    have l1 := szTs_len ts'
    have hs' := hg'.sz
    have sG3 : Sub G (dupd G2 r (.lst (eTs ts'))) := (sG2.new nr)
    cases t with
    | num n1 =>
      walk_at "dd"
      exact ⟨_, by have := szT_pos (.num n1); omega, _, _, _, ts', rfl, fun z => absurd z wn, gt, sG3, dupd_same, rfl⟩
    | row vs =>
      have z1 : szT (.row vs) = 1 + szWs vs := rfl
      have l2 := szWs_len vs
      have gv : GW 15 10000 vs := ⟨by have := g1.dp; have e : dpTs [.row vs] = max (1 + dpWs vs) 0 := rfl; omega, by have := g1.sz; omega, by have := g1.tx; have e : txTs [.row vs] = (txWs vs && true) := rfl; rw [e, Bool.and_true] at this; exact this⟩
      have gp := pushes_g gv
      have lp := pushes_sz vs
      have ll := szTs_len (pushes vs)
      walk_at "dd"
      refine lc_push (by omega) (fun _ => by rfl) fun r2 nr2 => ?_
      walk_at "dd"
      refine w_extL (xs := eTs ts') (zs := eTs (pushes vs)) (by walk_at "gq") dupd_same (mid (by rw [eTs_len, eTs_len]; omega)) ?_
      walk_at "dd"
      refine ⟨szTs (ts' ++ pushes vs), by rw [szTs_app]; omega, _, _, _, ts' ++ pushes vs, rfl, fun z => absurd z wn, ⟨?_, ?_, ?_⟩, ?_, ?_, rfl⟩
      · rw [dpTs_app]; have := gt.dp; have := gp.dp; omega
      · rw [szTs_app]; omega
      · rw [txTs_app, gt.tx, gp.tx]; rfl
      · exact (sG3.new (sG3.nonew nr2)).new nr
      · rw [dupd_same, eTs_app]
    | lst us =>
      have z1 : szT (.lst us) = 1 + szTs us := rfl
      have l2 := szTs_len us
      have gu : GTs 15 10000 us := ⟨by have := g1.dp; have e : dpTs [.lst us] = max (1 + dpTs us) 0 := rfl; omega, by have := g1.sz; omega, by have := g1.tx; have e : txTs [.lst us] = (txTs us && true) := rfl; rw [e, Bool.and_true] at this; exact this⟩
      walk_at "dd"
      refine w_extT (xs := eTs ts') (zs := eTs us) (by walk_at "gq") (mid (by rw [eTs_len, eTs_len]; omega)) ?_
      walk_at "dd"
      refine ⟨szTs (ts' ++ us), by rw [szTs_app]; omega, _, _, _, ts' ++ us, rfl, fun z => absurd z wn, ⟨?_, ?_, ?_⟩, ?_, ?_, rfl⟩
      · rw [dpTs_app]; have := gt.dp; have := gu.dp; omega
      · rw [szTs_app]; omega
      · rw [txTs_app, gt.tx, gu.tx]; rfl
      · exact (sG3.new nr)
      · rw [dupd_same, eTs_app]
  · walk_at "dd"
    exact ⟨G, sG2, q _ fun z => (hn z).1⟩
end
end K39
set_option maxHeartbeats 400000
namespace K39
open PySem PySem.W L2 SX Cm DD
local macro_rules | `(tactic| walk_at "d1") => `(tactic| first | (with_reducible refine w_seq ?_) | (with_reducible refine w_next ?_) | ((with_reducible show dVar _ _ _ _); refine w_var rfl ?_) | (with_reducible refine w_asg ?_) | (with_reducible refine w_cons ?_) | (with_reducible refine w_nil ?_) | (with_reducible refine w_c ?_) | (with_reducible refine w_op ?_) | (with_reducible refine w_call ?_) | (with_reducible refine w_CB ?_) | (with_reducible refine w_ret ?_) | (with_reducible refine w_ifS ?_) | (with_reducible refine w_drop ?_) | (with_reducible refine w_tup ?_) | (with_reducible refine w_lst ?_) | (with_reducible refine w_sl ?_) | (with_reducible refine w_none ?_) | (with_reducible refine w_some ?_) | (with_reducible refine w_BM ?_) | (with_reducible refine w_BM0 ?_) | (with_reducible refine w_test ?_) | (with_reducible refine w_tru ?_) | (with_reducible refine w_and ?_) | (with_reducible refine w_or ?_) | (with_reducible refine w_not ?_) | (with_reducible refine w_yes ?_) | (with_reducible refine w_ifE ?_) | (with_reducible refine w_andV ?_) | (with_reducible refine w_orV ?_) | (with_reducible refine w_notV ?_) | (with_reducible refine w_neg ?_) | (with_reducible refine w_rev ?_) | (with_reducible refine w_exI ?_) | (with_reducible refine w_exB ?_) | (with_reducible refine w_exT ?_) | (with_reducible refine w_exS ?_) | (with_reducible refine w_parE ?_) | (with_reducible refine w_par ?_) | (with_reducible refine w_asgS ?_) | (with_reducible refine w_retN ?_) | (with_reducible refine w_break ?_) | (with_reducible refine w_cont ?_) | (with_reducible refine w_truB ?_) | (with_reducible refine w_truI ?_) | (with_reducible refine w_truN ?_) | (with_reducible refine w_truT ?_) | (with_reducible refine w_addI ?_) | (with_reducible refine w_subI ?_) | (with_reducible refine w_cmpI ?_) | (with_reducible refine w_cmpS ?_) | (with_reducible refine w_eqSS ?_) | (with_reducible refine w_eqII ?_) | (with_reducible refine w_eqBB ?_) | (with_reducible refine w_neSS ?_) | (with_reducible refine w_neII ?_) | (with_reducible refine w_neBB ?_) | (with_reducible refine w_eqSN ?_) | (with_reducible refine w_eqIN ?_) | (with_reducible refine w_eqSI ?_) | (with_reducible refine w_eqIS ?_) | (with_reducible refine w_eqNS ?_) | (with_reducible refine w_eqBS ?_) | (with_reducible refine w_eqT0 ?_) | (with_reducible refine w_ix0 ?_) | (with_reducible refine w_ix1 ?_) | (with_reducible refine w_ix2 ?_) | (with_reducible refine w_ix3 ?_) | (with_reducible refine w_slT ?_) | (with_reducible refine w_lenT ?_) | (with_reducible refine w_intB ?_) | (with_reducible refine w_intI ?_) | (with_reducible refine w_tupT ?_) | (with_reducible refine w_rcvS ?_) | (with_reducible refine ly1 ?_) | (with_reducible refine ly2 ?_) | (with_reducible refine lt1' ?_) | (with_reducible refine lt2' ?_) | (with_reducible refine g_n ?_) | (with_reducible refine w_isN ?_) | (with_reducible refine w_isnN ?_) | (with_reducible refine w_for ?_) | (with_reducible refine w_lc ?_) | (with_reducible refine wi_tup ?_) | (with_reducible refine wi_lst ?_) | (with_reducible refine wi_str ?_) | (with_reducible refine wi_rng ?_) | (with_reducible refine wi_rng2 ?_) | (with_reducible refine wi_enumT ?_) | (with_reducible refine wi_enum ?_) | (with_reducible refine wi_rev ?_) | (with_reducible refine wi_revR ?_) | (with_reducible refine wx_enumT ?_) | ((with_reducible show List.length _ = _ ∧ _); refine w_len ?_ rfl) | ((with_reducible show List.length _ ≤ sizeLine ∧ _); refine w_sz ?_ (szl rfl)) | ((with_reducible show bIx _ (.int _) _ _); first | refine w_ix0 ?_ | refine w_ix1 ?_ | refine w_ix2 ?_ | refine w_ix3 ?_) | ((with_reducible show bIsi [_, _] _ _); first | refine w_isi (by decide) (a := "tuple") rfl rfl ?_ | refine w_isi (by decide) (a := "str") rfl rfl ?_ | refine w_isi (by decide) (a := "int") rfl rfl ?_ | refine w_isi (by decide) (a := "bool") rfl rfl ?_ | refine w_isi (by decide) (a := "NoneType") rfl rfl ?_) | ((with_reducible show ∃ ds, _ = DV.tup ds ∧ _); refine w_exT ?_) | ((with_reducible show ∃ z, _ = DV.str z ∧ _); refine w_exS ?_) | ((with_reducible show ∃ ds, [_] = [DV.tup ds] ∧ _); refine wx_enumT ?_) | ((with_reducible show bSl _ _ _ _ _); refine w_slT ?_) | ((with_reducible show bTuple [_] _ _); refine w_tupT ?_) | ((with_reducible show bLen [_] _ _); refine w_lenT ?_) | ((with_reducible show bTru _ _ _); first | refine w_truT ?_ | refine w_truN ?_ | refine w_truB ?_ | refine w_truI ?_) | ((with_reducible show bEq _ _ _ _ _); first | refine w_eqSS ?_ | refine w_eqII ?_ | refine w_neSS ?_ | refine w_neII ?_ | refine w_eqT0 ?_) | ((with_reducible show bInt _ _ (.int _) (.int _) _ _); refine w_int (by first | decide | exact ⟨by decide, by decide, by decide⟩ | exact .inl ⟨by decide, by decide⟩ | exact .inr ⟨by decide, by decide⟩) ?_) | ((with_reducible show if _ = true then _ else _); first | refine w_it (by first | rfl | decide +kernel) ?_ | refine w_if0 (by first | rfl | decide +kernel) ?_) | ((with_reducible show rcv "list" (.ref _) _ ∧ _); refine w_rcvL (by walk_at "gq") ?_) | ((with_reducible show bTuple [.ref _] _ _); refine w_tupL (by walk_at "gq") ?_) | ((with_reducible show bLen [.ref _] _ _); refine w_lenL (by walk_at "gq") ?_) | ((with_reducible show bTru (.ref _) _ _); refine w_truL (by walk_at "gq") ?_) | ((with_reducible show ∃ _ _, DV.ref _ = _ ∧ Ls _ _ _ ∧ _); refine wx_lst (by walk_at "gq") ?_) | ((with_reducible show ∃ _ _, [DV.ref _] = _ ∧ Ls _ _ _ ∧ _); first | with_reducible refine wx_rev (by walk_at "gq") ?_ | with_reducible refine wx_enum (by walk_at "gq") ?_))
local macro_rules | `(tactic| walk_at "dd") => `(tactic| repeat (walk_at "d1"))
local macro_rules | `(tactic| walk_at "gq") => `(tactic| first | assumption | exact dupd_same | (refine (dupd_ne ?_).trans ?_; (focus walk_at "gn"); walk_at "gq"))
local macro_rules | `(tactic| walk_at "gn") => `(tactic| first | assumption | exact ne_ns (by assumption) ⟨_, by walk_at "gq"⟩ | exact ne_sn (by assumption) ⟨_, by walk_at "gq"⟩)
local macro_rules | `(tactic| walk_at "gs") => `(tactic| first | assumption | exact Sub.refl _ | (refine Sub.new ?_ ?_; (focus walk_at "gs"); walk_at "g0"))
local macro_rules | `(tactic| walk_at "g0") => `(tactic| first | assumption | exact nn_ (by assumption) (by walk_at "gs"))
section
variable {P : Program} {w : World} {K : Frag} {mg : Str → Option Value} {base : Heap}
def SP_cut : DSp := fun ds G R => ∃ ws, ds = [.tup (eWs ws), .int 60] ∧ GW 15 10000 ws ∧ ∀ ws', (∃ c, ws = ws' ++ c) → R (.tup (eWs ws')) G
abbrev N_L_cut : List Str := ["_law_row_here", "_law_most"]
abbrev A_L_cut : List Str := ["_law_row_here", "_law_most"]
theorem sc_L_cut : FnScope N_L_cut A_L_cut (defScope s_L_cut) := ⟨rfl, rfl, rfl, by decide +kernel, rfl, by decide +kernel, by decide +kernel⟩
theorem h_L_cut (a : At K mg "_law_cut" s_L_cut A_L_cut) (B : BI mg) (c_L_count : Has P w K mg base 1 "_law_count" A_L_count SP_count) : Has P w K mg base 2 "_law_cut" A_L_cut SP_cut := by
  refine at_mk a sc_L_cut fun f cdv A outer s H E hr ds G R hl h => ?_
  refine ⟨_, (dss_cons (ds_while PassesOwn.never (dt_cmp od_gt (de_call c_L_count (hr.mono (by omega)) rfl (da_cons (dv 0) da_nil)) (dv 1) (nomark _)) (dss_one (ds_set (i := 0) sc_L_cut.nd rfl (.inl rfl) (de_slice (dv 0) do_none (do_some (de_neg de_int))))))
    (dss_one (ds_ret (dv 0)))), ?_⟩
  obtain ⟨ws, rfl, hg, q⟩ := h
  walk_at "dd"
  refine w_while (fun m δ G' => ∃ ws' c, δ = [some (.tup (eWs ws')), some (.int 60)] ∧ ws = ws' ++ c ∧ G' = G ∧ ws'.length = m) _ ⟨ws, [], rfl, (List.append_nil _).symm, rfl, rfl⟩ ?_
  rintro m δ G' ⟨ws', c, rfl, rfl, rfl, rfl⟩
  walk_at "dd"
  refine ⟨ws', rfl, hg.left, fun n hn => ?_⟩
  walk_at "dd"
  refine w_iteD (fun h60 => ?_) (fun _ => ?_)
  · walk_at "dd"
    have ne : ws' ≠ [] := fun z => by rw [hn z] at h60; exact absurd h60 (by decide)
    obtain ⟨ws2, x, rfl⟩ : ∃ a x, ws' = a ++ [x] := ⟨ws'.dropLast, ws'.getLast ne, (List.dropLast_concat_getLast ne).symm⟩
    have e : cutD (eWs (ws2 ++ [x])) none (some (-1)) = eWs ws2 := by
      rw [eWs_map, List.map_append, eWs_map]; exact cutD_last _ _
    rw [e]
    exact ⟨ws2.length, by rw [List.length_append]; exact Nat.lt_succ_self _, ws2, [x] ++ c, rfl, by rw [List.append_assoc], rfl, rfl⟩
  · walk_at "dd"
    exact Less.of (q ws' ⟨c, rfl⟩)
def SP_Lwa (k : Nat) : DSp := fun ds G R => ∃ (ws : List Wo) (pl : List Int) (w0 : Wo), ds = [.tup (eWs ws), plD pl] ∧ walk (.inr (.row ws)) pl = some (.inl w0) ∧ pl.length < k ∧ R (eW w0) G
theorem atI_map {α : Type} {f : α → DV} {xs : List α} {i : Int} {y : α} (h0 : 0 ≤ i) (h : xs[i.toNat]? = some y) : atI (xs.map f) i = some (f y) := by
  obtain ⟨j, rfl⟩ := Int.eq_ofNat_of_zero_le h0
  refine atI_nat ?_
  rw [List.getElem?_map]
  have h' : xs[j]? = some y := h
  rw [h']; rfl
theorem w_ixM {α : Type} {f : α → DV} {xs : List α} {i : Int} {y : α} {G : DG} {Q : DK} (h0 : 0 ≤ i) (h : xs[i.toNat]? = some y) (q : Q (f y) G) : bIx (.tup (xs.map f)) (.int i) G Q := ⟨_, atI_map h0 h, q⟩
abbrev N_L_word_at : List Str := ["_law_row_here", "_law_place", "_law_word_here", "_law_thing_here"]
abbrev A_L_word_at : List Str := ["_law_row_here", "_law_place"]
theorem sc_L_word_at : FnScope N_L_word_at A_L_word_at (defScope s_L_word_at) := ⟨rfl, rfl, rfl, by decide +kernel, rfl, by decide +kernel, by decide +kernel⟩
theorem h_L_word_at {k : Nat} (a : At K mg "_law_word_at" s_L_word_at A_L_word_at) (B : BI mg) (c_L_word_at : Has P w K mg base (k + 1) "_law_word_at" A_L_word_at (SP_Lwa k)) : Has P w K mg base (k + 2) "_law_word_at" A_L_word_at (SP_Lwa (k + 1)) := by
  refine at_mk a sc_L_word_at fun f cdv A outer s H E hr ds G R hl h => ?_
  refine ⟨_, (dss_cons (ds_set (i := 2) sc_L_word_at.nd rfl (.inl rfl) (de_ix (dv 0) (de_ix (dv 1) de_int)))
    (dss_cons (ds_set (i := 1) sc_L_word_at.nd rfl (.inl rfl) (de_slice (dv 1) (do_some de_int) do_none))
    (dss_cons (ds_if (dt_cmp (od_eq hr.units) (dv 1) (de_tup da_nil) (nomark _)) (dss_one (ds_ret (dv 2))) dss_nil)
    (dss_cons (ds_set (i := 3) sc_L_word_at.nd rfl (.inl rfl) (de_ix (dv 2) de_int))
    (dss_cons (ds_while PassesOwn.never (dt_cmp (od_eq hr.units) (de_ix (dv 3) de_int) de_str (nomark _)) (dss_cons (ds_set (i := 3) sc_L_word_at.nd rfl (.inl rfl) (de_ix (de_ix (dv 3) de_int) (de_ix (dv 1) de_int)))
      (dss_one (ds_set (i := 1) sc_L_word_at.nd rfl (.inl rfl) (de_slice (dv 1) (do_some de_int) do_none)))))
    (dss_one (ds_ret (de_call c_L_word_at (hr.mono (by omega)) rfl (da_cons (de_ix (dv 3) de_int) (da_cons (dv 1) da_nil)))))))))), ?_⟩
  obtain ⟨ws, pl, w0, rfl, hw, hl', q⟩ := h
  cases pl with
  | nil => cases hw
  | cons i r =>
    obtain ⟨i0, y, hy, hz⟩ := walk_cons hw
    obtain ⟨w1, hw1, rfl⟩ : ∃ w1, ws[i.toNat]? = some w1 ∧ y = .inl w1 := by
      have : (ws.map Sum.inl)[i.toNat]? = some y := hy
      rw [List.getElem?_map] at this
      obtain ⟨w1, h1, h2⟩ := Option.map_eq_some_iff.mp this
      exact ⟨w1, h1, h2.symm⟩
    rw [List.length_cons] at hl'
    walk_at "dd"
    rw [eWs_map]
    refine w_ixM i0 hw1 ?_
    walk_at "dd"
    rw [show cutD ((i :: r).map DV.int) (some (1 : Int)) none = r.map DV.int from cutD_from _ 1]
    cases r with
    | nil =>
      cases hz
      walk_at "dd"
      exact Less.of q
    | cons i2 r =>
      obtain ⟨_, _, hy2, _⟩ := walk_cons hz
      cases w1 with
      | txt z => cases hy2
      | push t0 =>
        rw [walk_w t0 _ (by intro z; cases z)] at hz
        walk_at "dd"
        refine w_while (fun m δ G' => ∃ t pl, δ = [some (.tup (ws.map eW)), some (plD pl), some (eW (.push t0)), some (eT t)] ∧ walk (.inr t) pl = some (.inl w0) ∧ pl ≠ [] ∧ pl.length < k ∧ G' = G ∧ pl.length = m) _ ⟨t0, i2 :: r, rfl, hz, (by intro z; cases z), by omega, rfl, rfl⟩ ?_
        rintro m δ G' ⟨t, pl, rfl, hz, hne, hk, rfl, rfl⟩
        cases pl with
        | nil => exact absurd rfl hne
        | cons i3 r3 =>
          obtain ⟨i30, y3, hy3, hz3⟩ := walk_cons hz
          cases t with
          | num n => cases hy3
          | row vs =>
            walk_at "dd"
            exact ⟨vs, i3 :: r3, w0, rfl, hz, hk, Less.of q⟩
          | lst us =>
            walk_at "dd"
            obtain ⟨t3, ht3, rfl⟩ : ∃ w1, us[i3.toNat]? = some w1 ∧ y3 = .inr w1 := by
              have : (us.map Sum.inr)[i3.toNat]? = some y3 := hy3
              rw [List.getElem?_map] at this
              obtain ⟨w1, h1, h2⟩ := Option.map_eq_some_iff.mp this
              exact ⟨w1, h1, h2.symm⟩
            rw [eTs_map]
            refine w_ixM i30 ht3 ?_
            walk_at "dd"
            rw [show cutD ((i3 :: r3).map DV.int) (some (1 : Int)) none = r3.map DV.int from cutD_from _ 1]
            refine ⟨r3.length, Nat.lt_succ_self _, t3, r3, rfl, hz3, (fun z => by rw [z] at hz3; cases hz3), by rw [List.length_cons] at hk; omega, rfl, rfl⟩
theorem all_wa (aW : At K mg "_law_word_at" s_L_word_at A_L_word_at) (B : BI mg) : ∀ k, Has P w K mg base (k + 1) "_law_word_at" A_L_word_at (SP_Lwa k) := by
  intro k
  induction k with
  | zero =>
    refine at_mk aW sc_L_word_at fun f cdv A outer s H E hr ds G R hl h => ?_
    obtain ⟨_, _, _, _, _, e, _⟩ := h
    exact absurd e (Nat.not_lt_zero _)
  | succ k ih => exact h_L_word_at aW B ih
def SP_whole : DSp := fun ds G R => ∃ pl, ds = [plD pl] ∧ pl.length ≤ 1000000 ∧ R (.bl true) G
abbrev N_L_whole : List Str := ["_law_place", "_law_k"]
abbrev A_L_whole : List Str := ["_law_place"]
theorem sc_L_whole : FnScope N_L_whole A_L_whole (defScope s_L_whole) := ⟨rfl, rfl, rfl, by decide +kernel, rfl, by decide +kernel, by decide +kernel⟩
theorem h_L_whole (a : At K mg "_law_whole" s_L_whole A_L_whole) (B : BI mg) : Has P w K mg base 1 "_law_whole" A_L_whole SP_whole := by
  refine at_mk a sc_L_whole fun f cdv A outer s H E hr ds G R hl h => ?_
  refine ⟨_, (dss_one (ds_ret (de_and (de_callB cd_isi B.isi rfl (by decide +kernel) (da_cons (dv 0) (da_cons (de_ty (n := "tuple") B.tup rfl (by decide +kernel)) da_nil))) (de_one (de_cmp (od_eq hr.units) (de_lc (own := [("_law_k", 1)]) (lt1 (i := 1) (by decide)) rfl sc_L_whole.nd (di_tup (dv 0)) (blkOk_by (own := [("_law_k", 1)]) (N := N_L_whole) (sc := defScope s_L_whole) (by decide +kernel)) (fun _ _ _ _ _ => pg_name (i := 1) sc_L_whole.nd rfl (Or.inl rfl)) (fun _ _ _ _ _ => (dts_one (dt_w (dw_or (dt_e (de_callB cd_isi B.isi rfl (by decide +kernel) (da_cons (dv 1) (da_cons (de_ty (n := "bool") B.bool rfl (by decide +kernel)) da_nil)))) (dw_or1 (dt_not (dt_e (de_callB cd_isi B.isi rfl (by decide +kernel) (da_cons (dv 1) (da_cons (de_ty (n := "int") B.int rfl (by decide +kernel)) da_nil)))))))))) (fun _ _ _ _ _ => (dv 1))) (de_lst da_nil) (nomark _)))))), ?_⟩
  obtain ⟨pl, rfl, hl', q⟩ := h
  walk_at "dd"
  refine lcg_pure (fun _ => none) (fun _ _ _ => trivial) (by rw [List.length_map]; exact hl') ?_ ?_
  · intro d hd G' k1 k0 _ h1 h0
    obtain ⟨n, _, rfl⟩ := List.mem_map.mp hd
    walk_at "dd"
    exact h0 rfl
  · intro p np
    walk_at "dd"
    intro p2 np2
    refine w_eqLL (by walk_at "gq") dupd_same ?_ ⟨rfl, rfl, Nat.zero_le _⟩ ?_ rfl ?_
    all_goals rw [show List.filterMap (fun _ => (none : Option DV)) (pl.map DV.int) = [] from by induction pl <;> simp]
    · exact ⟨rfl, rfl, Nat.zero_le _⟩
    · rfl
    · exact ⟨G, by walk_at "gs", q⟩
end
end K39
set_option maxHeartbeats 400000
namespace K39
open PySem PySem.W L2 SX Cm DD
local macro_rules | `(tactic| walk_at "d1") => `(tactic| first | (with_reducible refine w_seq ?_) | (with_reducible refine w_next ?_) | ((with_reducible show dVar _ _ _ _); refine w_var rfl ?_) | (with_reducible refine w_asg ?_) | (with_reducible refine w_cons ?_) | (with_reducible refine w_nil ?_) | (with_reducible refine w_c ?_) | (with_reducible refine w_op ?_) | (with_reducible refine w_call ?_) | (with_reducible refine w_CB ?_) | (with_reducible refine w_ret ?_) | (with_reducible refine w_ifS ?_) | (with_reducible refine w_drop ?_) | (with_reducible refine w_tup ?_) | (with_reducible refine w_lst ?_) | (with_reducible refine w_sl ?_) | (with_reducible refine w_none ?_) | (with_reducible refine w_some ?_) | (with_reducible refine w_BM ?_) | (with_reducible refine w_BM0 ?_) | (with_reducible refine w_test ?_) | (with_reducible refine w_tru ?_) | (with_reducible refine w_and ?_) | (with_reducible refine w_or ?_) | (with_reducible refine w_not ?_) | (with_reducible refine w_yes ?_) | (with_reducible refine w_ifE ?_) | (with_reducible refine w_andV ?_) | (with_reducible refine w_orV ?_) | (with_reducible refine w_notV ?_) | (with_reducible refine w_neg ?_) | (with_reducible refine w_rev ?_) | (with_reducible refine w_exI ?_) | (with_reducible refine w_exB ?_) | (with_reducible refine w_exT ?_) | (with_reducible refine w_exS ?_) | (with_reducible refine w_parE ?_) | (with_reducible refine w_par ?_) | (with_reducible refine w_asgS ?_) | (with_reducible refine w_retN ?_) | (with_reducible refine w_break ?_) | (with_reducible refine w_cont ?_) | (with_reducible refine w_truB ?_) | (with_reducible refine w_truI ?_) | (with_reducible refine w_truN ?_) | (with_reducible refine w_truT ?_) | (with_reducible refine w_addI ?_) | (with_reducible refine w_subI ?_) | (with_reducible refine w_cmpI ?_) | (with_reducible refine w_cmpS ?_) | (with_reducible refine w_eqSS ?_) | (with_reducible refine w_eqII ?_) | (with_reducible refine w_eqBB ?_) | (with_reducible refine w_neSS ?_) | (with_reducible refine w_neII ?_) | (with_reducible refine w_neBB ?_) | (with_reducible refine w_eqSN ?_) | (with_reducible refine w_eqIN ?_) | (with_reducible refine w_eqSI ?_) | (with_reducible refine w_eqIS ?_) | (with_reducible refine w_eqNS ?_) | (with_reducible refine w_eqBS ?_) | (with_reducible refine w_eqT0 ?_) | (with_reducible refine w_ix0 ?_) | (with_reducible refine w_ix1 ?_) | (with_reducible refine w_ix2 ?_) | (with_reducible refine w_ix3 ?_) | (with_reducible refine w_slT ?_) | (with_reducible refine w_lenT ?_) | (with_reducible refine w_intB ?_) | (with_reducible refine w_intI ?_) | (with_reducible refine w_tupT ?_) | (with_reducible refine w_rcvS ?_) | (with_reducible refine ly1 ?_) | (with_reducible refine ly2 ?_) | (with_reducible refine lt1' ?_) | (with_reducible refine lt2' ?_) | (with_reducible refine g_n ?_) | (with_reducible refine w_isN ?_) | (with_reducible refine w_isnN ?_) | (with_reducible refine w_for ?_) | (with_reducible refine w_lc ?_) | (with_reducible refine wi_tup ?_) | (with_reducible refine wi_lst ?_) | (with_reducible refine wi_str ?_) | (with_reducible refine wi_rng ?_) | (with_reducible refine wi_rng2 ?_) | (with_reducible refine wi_enumT ?_) | (with_reducible refine wi_enum ?_) | (with_reducible refine wi_rev ?_) | (with_reducible refine wi_revR ?_) | (with_reducible refine wx_enumT ?_) | ((with_reducible show List.length _ = _ ∧ _); refine w_len ?_ rfl) | ((with_reducible show List.length _ ≤ sizeLine ∧ _); refine w_sz ?_ (szl rfl)) | ((with_reducible show bIx _ (.int _) _ _); first | refine w_ix0 ?_ | refine w_ix1 ?_ | refine w_ix2 ?_ | refine w_ix3 ?_) | ((with_reducible show bIsi [_, _] _ _); first | refine w_isi (by decide) (a := "tuple") rfl rfl ?_ | refine w_isi (by decide) (a := "str") rfl rfl ?_ | refine w_isi (by decide) (a := "int") rfl rfl ?_ | refine w_isi (by decide) (a := "bool") rfl rfl ?_ | refine w_isi (by decide) (a := "NoneType") rfl rfl ?_) | ((with_reducible show ∃ ds, _ = DV.tup ds ∧ _); refine w_exT ?_) | ((with_reducible show ∃ z, _ = DV.str z ∧ _); refine w_exS ?_) | ((with_reducible show ∃ ds, [_] = [DV.tup ds] ∧ _); refine wx_enumT ?_) | ((with_reducible show bSl _ _ _ _ _); refine w_slT ?_) | ((with_reducible show bTuple [_] _ _); refine w_tupT ?_) | ((with_reducible show bLen [_] _ _); refine w_lenT ?_) | ((with_reducible show bTru _ _ _); first | refine w_truT ?_ | refine w_truN ?_ | refine w_truB ?_ | refine w_truI ?_) | ((with_reducible show bEq _ _ _ _ _); first | refine w_eqSS ?_ | refine w_eqII ?_ | refine w_neSS ?_ | refine w_neII ?_ | refine w_eqT0 ?_) | ((with_reducible show bInt _ _ (.int _) (.int _) _ _); refine w_int (by first | decide | exact ⟨by decide, by decide, by decide⟩ | exact .inl ⟨by decide, by decide⟩ | exact .inr ⟨by decide, by decide⟩) ?_) | ((with_reducible show if _ = true then _ else _); first | refine w_it (by first | rfl | decide +kernel) ?_ | refine w_if0 (by first | rfl | decide +kernel) ?_) | ((with_reducible show rcv "list" (.ref _) _ ∧ _); refine w_rcvL (by walk_at "gq") ?_) | ((with_reducible show bTuple [.ref _] _ _); refine w_tupL (by walk_at "gq") ?_) | ((with_reducible show bLen [.ref _] _ _); refine w_lenL (by walk_at "gq") ?_) | ((with_reducible show bTru (.ref _) _ _); refine w_truL (by walk_at "gq") ?_) | ((with_reducible show ∃ _ _, DV.ref _ = _ ∧ Ls _ _ _ ∧ _); refine wx_lst (by walk_at "gq") ?_) | ((with_reducible show ∃ _ _, [DV.ref _] = _ ∧ Ls _ _ _ ∧ _); refine wx_lstA (by walk_at "gq") ?_))
local macro_rules | `(tactic| walk_at "dd") => `(tactic| repeat (walk_at "d1"))
local macro_rules | `(tactic| walk_at "gq") => `(tactic| first | assumption | exact dupd_same | (refine (dupd_ne ?_).trans ?_; (focus walk_at "gn"); walk_at "gq"))
local macro_rules | `(tactic| walk_at "gn") => `(tactic| first | assumption | exact ne_ns (by assumption) ⟨_, by walk_at "gq"⟩ | exact ne_sn (by assumption) ⟨_, by walk_at "gq"⟩)
local macro_rules | `(tactic| walk_at "gs") => `(tactic| first | assumption | exact Sub.refl _ | (refine Sub.new ?_ ?_; (focus walk_at "gs"); walk_at "g0"))
local macro_rules | `(tactic| walk_at "g0") => `(tactic| first | assumption | exact nn_ (by assumption) (by walk_at "gs"))

def NoGt (x y : List Int × Wo) : Prop := ¬ y.1 < x.1
theorem pw_app {a c : List (List Int × Wo)} (h : a.Pairwise NoGt) (g : c.Pairwise NoGt) (k : ∀ x ∈ a, ∀ y ∈ c, NoGt x y) : (a ++ c).Pairwise NoGt := List.pairwise_append.mpr ⟨h, g, k⟩
mutual
theorem plT_up (p : List Int) : ∀ t : Th, (plT p t).Pairwise NoGt
  | .num _ => .nil
  | .row ws => plWs_up p 0 ws
  | .lst ts => plTs_up p 0 ts
theorem plW_up (p : List Int) : ∀ w0 : Wo, (plW p w0).Pairwise NoGt
  | .txt _ => .nil
  | .push t => plT_up p t
theorem plWs_up (p : List Int) (k : Nat) : ∀ ws : List Wo, (plWs p k ws).Pairwise NoGt
  | [] => .nil
  | w0 :: r => by
    have h1 := plW_up (p ++ [(k : Int)]) w0
    have h2 := plWs_up p (k + 1) r
    show ((p ++ [(k : Int)], w0) :: (plW (p ++ [(k : Int)]) w0 ++ plWs p (k + 1) r)).Pairwise NoGt
    have far : ∀ (l : List Int), ∀ y ∈ plWs p (k + 1) r, ¬ y.1 < (p ++ [(k : Int)]) ++ l := by
      intro l y hy hlt
      obtain ⟨i, q, _, _, e, _⟩ := plWs_walk p (k + 1) r y hy
      rw [e, List.append_assoc, app_lt] at hlt
      have h' : (((k + 1 + i : Nat) : Int) :: q) < ((k : Int) :: l) := hlt
      rw [List.cons_lt_cons_iff] at h'
      rcases h' with h' | h' <;> omega
    refine List.pairwise_cons.mpr ⟨fun y hy => ?_, pw_app h1 h2 fun x hx y hy => ?_⟩
    · rcases List.mem_append.mp hy with hy | hy
      · obtain ⟨q, _, e, _⟩ := plW_walk _ w0 y hy
        show ¬ y.1 < p ++ [(k : Int)]
        rw [e]
        intro hlt
        have h' : (p ++ [(k : Int)]) ++ q < (p ++ [(k : Int)]) ++ [] := by rw [List.append_nil]; exact hlt
        rw [app_lt] at h'
        exact List.not_lt_nil _ h'
      · have := far [] y hy
        rw [List.append_nil] at this
        exact this
    · obtain ⟨q, _, e, _⟩ := plW_walk _ w0 x hx
      show ¬ y.1 < x.1
      rw [e]
      exact far q y hy
theorem plTs_up (p : List Int) (k : Nat) : ∀ ts : List Th, (plTs p k ts).Pairwise NoGt
  | [] => .nil
  | t0 :: r => by
    have h1 := plT_up (p ++ [(k : Int)]) t0
    have h2 := plTs_up p (k + 1) r
    refine pw_app h1 h2 fun x hx y hy => ?_
    obtain ⟨q, _, e, _⟩ := plT_walk _ t0 x hx
    obtain ⟨i, q', _, _, e', _⟩ := plTs_walk p (k + 1) r y hy
    show ¬ y.1 < x.1
    rw [e, e']
    intro hlt
    rw [List.append_assoc, app_lt] at hlt
    have h' : (((k + 1 + i : Nat) : Int) :: q') < ((k : Int) :: q) := hlt
    rw [List.cons_lt_cons_iff] at h'
    rcases h' with h' | h' <;> omega
end
mutual
theorem plT_dp (p : List Int) : ∀ (t : Th) (x : List Int × Wo), x ∈ plT p t → x.1.length ≤ p.length + dpT t ∧ dpW x.2 ≤ dpT t ∧ (txT t = true → txW x.2 = true)
  | .num _, x, h => nomatch h
  | .row ws, x, h => by
    obtain ⟨a, b, c⟩ := plWs_dp p 0 ws x h
    exact ⟨by show _ ≤ p.length + (1 + dpWs ws); omega, by show _ ≤ 1 + dpWs ws; omega, c⟩
  | .lst ts, x, h => by
    obtain ⟨a, b, c⟩ := plTs_dp p 0 ts x h
    exact ⟨by show _ ≤ p.length + (1 + dpTs ts); omega, by show _ ≤ 1 + dpTs ts; omega, c⟩
theorem plW_dp (p : List Int) : ∀ (w0 : Wo) (x : List Int × Wo), x ∈ plW p w0 → x.1.length ≤ p.length + dpW w0 ∧ dpW x.2 ≤ dpW w0 ∧ (txW w0 = true → txW x.2 = true)
  | .txt _, x, h => nomatch h
  | .push t, x, h => plT_dp p t x h
theorem plWs_dp (p : List Int) (k : Nat) : ∀ (ws : List Wo) (x : List Int × Wo), x ∈ plWs p k ws → x.1.length ≤ p.length + 1 + dpWs ws ∧ dpW x.2 ≤ dpWs ws ∧ (txWs ws = true → txW x.2 = true)
  | [], x, h => nomatch h
  | w0 :: r, x, h => by
    have e1 : dpWs (w0 :: r) = max (dpW w0) (dpWs r) := rfl
    have e2 : txWs (w0 :: r) = (txW w0 && txWs r) := rfl
    have h' : x ∈ (p ++ [(k : Int)], w0) :: (plW (p ++ [(k : Int)]) w0 ++ plWs p (k + 1) r) := h
    rw [e1, e2, Bool.and_eq_true]
    rcases List.mem_cons.mp h' with rfl | h'
    · exact ⟨by rw [List.length_append, List.length_singleton]; omega, by show dpW w0 ≤ _; omega, fun z => z.1⟩
    · rcases List.mem_append.mp h' with h' | h'
      · obtain ⟨a, b, c⟩ := plW_dp (p ++ [(k : Int)]) w0 x h'
        rw [List.length_append, List.length_singleton] at a
        exact ⟨by omega, by omega, fun z => c z.1⟩
      · obtain ⟨a, b, c⟩ := plWs_dp p (k + 1) r x h'
        exact ⟨by omega, by omega, fun z => c z.2⟩
theorem plTs_dp (p : List Int) (k : Nat) : ∀ (ts : List Th) (x : List Int × Wo), x ∈ plTs p k ts → x.1.length ≤ p.length + 1 + dpTs ts ∧ dpW x.2 ≤ dpTs ts ∧ (txTs ts = true → txW x.2 = true)
  | [], x, h => nomatch h
  | t0 :: r, x, h => by
    have e1 : dpTs (t0 :: r) = max (dpT t0) (dpTs r) := rfl
    have e2 : txTs (t0 :: r) = (txT t0 && txTs r) := rfl
    rw [e1, e2, Bool.and_eq_true]
    rcases List.mem_append.mp h with h' | h'
    · obtain ⟨a, b, c⟩ := plT_dp (p ++ [(k : Int)]) t0 x h'
      rw [List.length_append, List.length_singleton] at a
      exact ⟨by omega, by omega, fun z => c z.1⟩
    · obtain ⟨a, b, c⟩ := plTs_dp p (k + 1) r x h'
      exact ⟨by omega, by omega, fun z => c z.2⟩
end
theorem plains_ints : ∀ p : List Int, plains (p.map DV.int) = true ∧ txBs (p.map DV.int) = true ∧ dpts (p.map DV.int) = 0
  | [] => ⟨rfl, rfl, rfl⟩
  | x :: r => by
    obtain ⟨a, b, c⟩ := plains_ints r
    refine ⟨by show (true && _) = true; rw [a]; rfl, by show (true && _) = true; rw [b]; rfl, by show max 0 _ = 0; rw [c]; rfl⟩
theorem plc_plain : ∀ xs : List (List Int × Wo), plains (plc xs) = true ∧ txBs (plc xs) = true ∧ dpts (plc xs) ≤ 1
  | [] => ⟨rfl, rfl, by decide⟩
  | x :: r => by
    obtain ⟨a, b, c⟩ := plc_plain r
    obtain ⟨a', b', c'⟩ := plains_ints x.1
    refine ⟨by show (plains (x.1.map DV.int) && plains (plc r)) = true; rw [a', a]; rfl, by show (txBs (x.1.map DV.int) && txBs (plc r)) = true; rw [b', b]; rfl, ?_⟩
    show max (1 + dpts (x.1.map DV.int)) (dpts (plc r)) ≤ 1
    rw [c']; exact Nat.max_le.mpr ⟨Nat.le_refl 1, c⟩
theorem plc_cmps (xs : List (List Int × Wo)) : Cmps (plc xs) := by
  obtain ⟨a, b, c⟩ := plc_plain xs
  exact ⟨plains_pure _ a, b, Nat.le_trans c (by decide)⟩
theorem HasDk.sub {G G' : DG} {d : Addr} (h : HasDk G d) (s : Sub G G') : HasDk G' d := by
  obtain ⟨c, h⟩ := h
  exact ⟨c, s _ _ h⟩
theorem NM.sub {G G' : DG} {d : Addr} (h : NM G d) (s : Sub G G') : NM G' d := s _ _ h
theorem nms_pick {k : Int} : ∃ z, atI nmsD (k % 4) = some (.str z) ∧ PyData.strOk z = true := by
  obtain ⟨x, hx, ha⟩ := pick (xs := nmsD) (n := 4) (r := k % 4) (Int.emod_nonneg _ (by decide)) (Int.emod_lt_of_pos _ (by decide)) rfl
  obtain ⟨z, rfl, hz⟩ := txs_nms x hx
  exact ⟨z, ha, hz⟩
section
variable {P : Program} {w : World} {K : Frag} {mg : Str → Option Value} {base : Heap}
def SP_long : DSp := fun ds G R => ∃ (d nm : Addr), ds = [.ref d, .ref nm] ∧ HasDk G d ∧ NM G nm ∧ ∀ ws, GW 3 3000 ws → R (.tup (eWs ws)) G
abbrev N_L_long : List Str := ["_law_deck_here", "_law_names", "_law_things", "_law_k", "_law_way", "_law_at", "_law_words"]
abbrev A_L_long : List Str := ["_law_deck_here", "_law_names"]
theorem sc_L_long : FnScope N_L_long A_L_long (defScope s_L_long) := ⟨rfl, rfl, rfl, by decide +kernel, rfl, by decide +kernel, by decide +kernel⟩
theorem h_L_long (a : At K mg "_law_long" s_L_long A_L_long) (B : BI mg) (c_L_draw : Has P w K mg base 2 "_law_draw" A_L_draw SP_draw) (c_L_word : Has P w K mg base 8 "_law_word" A_L_word (SP_word 1)) : Has P w K mg base 9 "_law_long" A_L_long SP_long := by
  refine at_mk a sc_L_long fun f cdv A outer s H E hr ds G R hl h => ?_
  refine ⟨_, (dss_cons (ds_set (i := 2) sc_L_long.nd rfl (.inl rfl) (de_lst da_nil))
    (dss_cons (ds_for PassesOwn.never rfl (di_range B.range rfl (da_cons (de_op od_add de_int (de_call c_L_draw (hr.mono (by omega)) rfl (da_cons (dv 0) (da_cons de_int da_nil)))) da_nil)) (dg_name (i := 3) sc_L_long.nd rfl (.inl rfl)) (dss_cons (ds_set (i := 4) sc_L_long.nd rfl (.inl rfl) (de_call c_L_draw (hr.mono (by omega)) rfl (da_cons (dv 0) (da_cons de_int da_nil))))
      (dss_one (ds_expr (de_bm PySem.F.plainAttrs_list PySem.F.slot_list_append PySem.F.type_list_append md_append (dv 2) (da_cons (de_ix (de_lst (da_cons (de_tup (da_cons de_str (da_cons (dv 3) da_nil))) (da_cons (de_tup (da_cons de_str (da_cons (de_tup da_nil) da_nil))) (da_cons (de_tup (da_cons de_str (da_cons (de_tup (da_cons (de_ix (dv 1) (de_op od_mod (dv 3) de_int)) da_nil)) da_nil))) da_nil)))) (dv 4)) da_nil))))))
    (dss_cons (ds_set (i := 5) sc_L_long.nd rfl (.inl rfl) (de_call c_L_draw (hr.mono (by omega)) rfl (da_cons (dv 0) (da_cons de_int da_nil))))
    (dss_cons (ds_set (i := 6) sc_L_long.nd rfl (.inl rfl) (de_callTy cd_tuple B.tup rfl (by decide +kernel) (da_cons (de_lc (own := [("_law_k", 3)]) (lt1 (i := 3) (by decide)) rfl sc_L_long.nd (di_range B.range rfl (da_cons (de_op od_add de_int (de_call c_L_draw (hr.mono (by omega)) rfl (da_cons (dv 0) (da_cons de_int da_nil)))) da_nil)) (blkOk_by (own := [("_law_k", 3)]) (N := N_L_long) (sc := defScope s_L_long) (by decide +kernel)) (fun _ _ _ _ _ => pg_name (i := 3) sc_L_long.nd rfl (Or.inl rfl)) (fun _ _ _ _ _ => dts_nil) (fun _ _ _ _ _ => (de_call c_L_word (hr.mono (by omega)) rfl (da_cons (dv 0) (da_cons (dv 1) (da_cons de_int da_nil)))))) da_nil)))
    (dss_one (ds_ret (de_op od_add (de_op od_add (de_slice (dv 6) do_none (do_some (dv 5))) (de_tup (da_cons (de_tup (da_cons de_str (da_cons (de_tup (da_cons de_str (da_cons (de_callTy cd_tuple B.tup rfl (by decide +kernel) (da_cons (dv 2) da_nil)) da_nil))) da_nil))) da_nil))) (de_slice (dv 6) (do_some (dv 5)) do_none)))))))), ?_⟩
  obtain ⟨d, nm, rfl, hk, hn, q⟩ := h
  walk_at "dd"
  intro r nr
  walk_at "dd"
  have hk1 := hk.new (o := .lst []) nr
  refine ⟨d, 30, rfl, hk1, by decide, by decide, fun u u0 u1 => ?_⟩
  walk_at "dd"
  refine wx_rng (by omega) (by omega) ?_
  refine for_by (fun i δ G' => ∃ (x3 x4 : Option DV) (ts : List Th), δ = [some (.ref d), some (.ref nm), some (.ref r), x3, x4, none, none] ∧ Sub G G' ∧ G' r = some (.lst (eTs ts)) ∧ GTs 1 (2 * i) ts) (fun _ _ _ _ => trivial) ⟨none, none, [], rfl, by walk_at "gs", dupd_same, GTs.nil⟩ ?_ ?_
  · rintro i dd δ G' hdd ⟨x3, x4, ts, rfl, sG, hr', gt⟩
    have hi : i < (11 + u).toNat := by have := (List.getElem?_eq_some_iff.mp hdd).1; rw [rng_len] at this; exact this
    rw [rng_get hi] at hdd
    cases hdd
    walk_at "dd"
    refine ⟨d, 3, rfl, hk.sub sG, by decide, by decide, fun v v0 v1 => ?_⟩
    walk_at "dd"
    obtain ⟨z, hz, tz⟩ := nms_pick (k := (0 : Int) + (i : Nat))
    refine w_ixL (hn.sub sG) hz ?_
    walk_at "dd"
    intro p np
    walk_at "dd"
    have fin : ∀ t, GT 1 2 t → ∃ x3' x4' ts', [some (.ref d), some (.ref nm), some (.ref r), some (.int ((0 : Int) + (i : Nat))), some (.int v), none, none] = [some (DV.ref d), some (.ref nm), some (.ref r), x3', x4', none, none] ∧ Sub G (dupd (dupd G' p (.lst [.tup [.str "number", .int ((0 : Int) + (i : Nat))], .tup [.str "row", .tup []], .tup [.str "row", .tup [.str z]]])) r (.lst (eTs ts ++ [eT t]))) ∧ (dupd (dupd G' p (.lst [.tup [.str "number", .int ((0 : Int) + (i : Nat))], .tup [.str "row", .tup []], .tup [.str "row", .tup [.str z]]])) r (.lst (eTs ts ++ [eT t]))) r = some (.lst (eTs ts')) ∧ GTs 1 (2 * (i + 1)) ts' := by
      intro t g
      refine ⟨_, _, ts ++ [t], rfl, by walk_at "gs", ?_, (gt.app (GTs.one g)).up (Nat.le_refl _) (by omega)⟩
      rw [dupd_same, eTs_app]; rfl
    have hl3 : (eTs ts).length < sizeLine := by
      have := gt.sz; have := szTs_len ts
      rw [eTs_len]; exact midlt (by omega)
    obtain ⟨x, hx, ha⟩ := pick (xs := [DV.tup [.str "number", .int ((0 : Int) + (i : Nat))], .tup [.str "row", .tup []], .tup [.str "row", .tup [.str z]]]) (n := 3) v0 v1 rfl
    refine w_ixL dupd_same ha ?_
    walk_at "dd"
    simp only [List.mem_cons, List.not_mem_nil, or_false] at hx
    rcases hx with rfl | rfl | rfl
    · refine w_app (by walk_at "gq") hl3 ?_
      walk_at "dd"
      exact fin (.num _) (GT.num _ (by decide))
    · refine w_app (by walk_at "gq") hl3 ?_
      walk_at "dd"
      exact fin (.row []) ((GT.row (GW.nil (k := 0) (m := 0))).up (by decide) (by decide))
    · refine w_app (by walk_at "gq") hl3 ?_
      walk_at "dd"
      exact fin (.row [.txt z]) (GT.row (k := 0) (m := 1) (GW.txt tz))
  · rintro δ G' ⟨x3, x4, ts, rfl, sG, hr', gt⟩
    rw [rng_len] at gt
    walk_at "dd"
    refine ⟨d, 11, rfl, hk.sub sG, by decide, by decide, fun a a0 a1 => ?_⟩
    walk_at "dd"
    refine ⟨d, 48, rfl, hk.sub sG, by decide, by decide, fun c c0 c1 => ?_⟩
    walk_at "dd"
    refine wx_rng (by omega) (by omega) ?_
    refine lcg_each (fun _ => isW 0 2) (fun _ _ _ => trivial) (by rw [rng_len]; omega) ?_ ?_
    · rintro i dd hdd G2 k1 k0 ⟨p, acc, np, rfl⟩ h1
      walk_at "dd"
      exact ⟨d, nm, 0, rfl, rfl, (hk.sub sG).new np, (hn.sub sG).new np, fun w0 g => h1 _ ⟨w0, rfl, g⟩⟩
    · intro p acc np la he
      walk_at "dd"
      obtain ⟨ws, rfl, gw⟩ := isWs (acc := acc) (k := 0) (m := 2) fun y hy => by
        obtain ⟨j, hj, rfl⟩ := List.mem_iff_getElem.mp hy
        exact he j _ (List.getElem?_eq_getElem hj)
      rw [la, rng_len] at gw
      obtain ⟨a', rfl⟩ := Int.eq_ofNat_of_zero_le a0
      have hsz := gw.sz
      have wl := szWs_len ws
      have tl := szTs_len ts
      have tz := gt.sz
      rw [show cutD (eWs ws) none (some (a' : Int)) = eWs (ws.take a') by rw [cutD_to, eWs_map, eWs_map, List.map_take]]
      refine w_addT (mid (by rw [eWs_len, List.length_take]; show _ + 1 ≤ _; omega)) ?_
      walk_at "dd"
      rw [show cutD (eWs ws) (some (a' : Int)) none = eWs (ws.drop a') by rw [cutD_from, eWs_map, eWs_map, List.map_drop]]
      refine w_addT (mid (by rw [List.length_append, eWs_len, eWs_len, List.length_take, List.length_drop]; show _ + 1 + _ ≤ _; omega)) ?_
      refine ⟨G, by walk_at "gs", ?_⟩
      have e : eWs (ws.take a') ++ [DV.tup [.str "push", .tup [.str "list", .tup (eTs ts)]]] ++ eWs (ws.drop a') = eWs (ws.take a' ++ [.push (.lst ts)] ++ ws.drop a') := by
        rw [eWs_map, eWs_map, eWs_map, List.map_append, List.map_append]; rfl
      show R (.tup (eWs (ws.take a') ++ [DV.tup [.str "push", .tup [.str "list", .tup (eTs ts)]]] ++ eWs (ws.drop a'))) G
      rw [e]
      refine q _ ?_
      have g1 : GW 0 200 (ws.take a') := by
        refine GW.left (b := ws.drop a') ?_
        rw [List.take_append_drop]; exact gw.up (Nat.le_refl _) (by omega)
      have g2 : GW 0 200 (ws.drop a') := by
        refine ⟨?_, ?_, ?_⟩
        · have := gw.dp; have e := dpWs_app (ws.take a') (ws.drop a'); rw [List.take_append_drop] at e; omega
        · have := gw.sz; have e := szWs_app (ws.take a') (ws.drop a'); rw [List.take_append_drop] at e; omega
        · have := gw.tx; have e := txWs_app (ws.take a') (ws.drop a'); rw [List.take_append_drop, this] at e; exact (Bool.and_eq_true _ _ ▸ e.symm).2
      exact (((g1.up (Nat.zero_le 2) (Nat.le_refl _)).app (GW.push (GT.lst gt))).app (g2.up (Nat.zero_le 2) (Nat.le_refl _))).up (by decide) (by omega)
end
end K39
set_option maxHeartbeats 400000
namespace K39
open PySem PySem.W L2 SX Cm DD
local macro_rules | `(tactic| walk_at "d1") => `(tactic| first | (with_reducible refine w_seq ?_) | (with_reducible refine w_next ?_) | ((with_reducible show dVar _ _ _ _); refine w_var rfl ?_) | (with_reducible refine w_asg ?_) | (with_reducible refine w_cons ?_) | (with_reducible refine w_nil ?_) | (with_reducible refine w_c ?_) | (with_reducible refine w_op ?_) | (with_reducible refine w_call ?_) | (with_reducible refine w_CB ?_) | (with_reducible refine w_ret ?_) | (with_reducible refine w_ifS ?_) | (with_reducible refine w_drop ?_) | (with_reducible refine w_tup ?_) | (with_reducible refine w_lst ?_) | (with_reducible refine w_sl ?_) | (with_reducible refine w_none ?_) | (with_reducible refine w_some ?_) | (with_reducible refine w_BM ?_) | (with_reducible refine w_BM0 ?_) | (with_reducible refine w_test ?_) | (with_reducible refine w_tru ?_) | (with_reducible refine w_and ?_) | (with_reducible refine w_or ?_) | (with_reducible refine w_not ?_) | (with_reducible refine w_yes ?_) | (with_reducible refine w_ifE ?_) | (with_reducible refine w_andV ?_) | (with_reducible refine w_orV ?_) | (with_reducible refine w_notV ?_) | (with_reducible refine w_neg ?_) | (with_reducible refine w_rev ?_) | (with_reducible refine w_exI ?_) | (with_reducible refine w_exB ?_) | (with_reducible refine w_exT ?_) | (with_reducible refine w_exS ?_) | (with_reducible refine w_parE ?_) | (with_reducible refine w_par ?_) | (with_reducible refine w_asgS ?_) | (with_reducible refine w_retN ?_) | (with_reducible refine w_break ?_) | (with_reducible refine w_cont ?_) | (with_reducible refine w_truB ?_) | (with_reducible refine w_truI ?_) | (with_reducible refine w_truN ?_) | (with_reducible refine w_truT ?_) | (with_reducible refine w_addI ?_) | (with_reducible refine w_subI ?_) | (with_reducible refine w_cmpI ?_) | (with_reducible refine w_cmpS ?_) | (with_reducible refine w_eqSS ?_) | (with_reducible refine w_eqII ?_) | (with_reducible refine w_eqBB ?_) | (with_reducible refine w_neSS ?_) | (with_reducible refine w_neII ?_) | (with_reducible refine w_neBB ?_) | (with_reducible refine w_eqSN ?_) | (with_reducible refine w_eqIN ?_) | (with_reducible refine w_eqSI ?_) | (with_reducible refine w_eqIS ?_) | (with_reducible refine w_eqNS ?_) | (with_reducible refine w_eqBS ?_) | (with_reducible refine w_eqT0 ?_) | (with_reducible refine w_ix0 ?_) | (with_reducible refine w_ix1 ?_) | (with_reducible refine w_ix2 ?_) | (with_reducible refine w_ix3 ?_) | (with_reducible refine w_slT ?_) | (with_reducible refine w_lenT ?_) | (with_reducible refine w_intB ?_) | (with_reducible refine w_intI ?_) | (with_reducible refine w_tupT ?_) | (with_reducible refine w_rcvS ?_) | (with_reducible refine ly1 ?_) | (with_reducible refine ly2 ?_) | (with_reducible refine lt1' ?_) | (with_reducible refine lt2' ?_) | (with_reducible refine g_n ?_) | (with_reducible refine w_isN ?_) | (with_reducible refine w_isnN ?_) | (with_reducible refine w_for ?_) | (with_reducible refine w_lc ?_) | (with_reducible refine wi_tup ?_) | (with_reducible refine wi_lst ?_) | (with_reducible refine wi_str ?_) | (with_reducible refine wi_rng ?_) | (with_reducible refine wi_rng2 ?_) | (with_reducible refine wi_enumT ?_) | (with_reducible refine wi_enum ?_) | (with_reducible refine wi_rev ?_) | (with_reducible refine wi_revR ?_) | (with_reducible refine wx_enumT ?_) | ((with_reducible show List.length _ = _ ∧ _); refine w_len ?_ rfl) | ((with_reducible show List.length _ ≤ sizeLine ∧ _); refine w_sz ?_ (szl rfl)) | ((with_reducible show bIx _ (.int _) _ _); first | refine w_ix0 ?_ | refine w_ix1 ?_ | refine w_ix2 ?_ | refine w_ix3 ?_) | ((with_reducible show bIsi [_, _] _ _); first | refine w_isi (by decide) (a := "tuple") rfl rfl ?_ | refine w_isi (by decide) (a := "str") rfl rfl ?_ | refine w_isi (by decide) (a := "int") rfl rfl ?_ | refine w_isi (by decide) (a := "bool") rfl rfl ?_ | refine w_isi (by decide) (a := "NoneType") rfl rfl ?_) | ((with_reducible show ∃ ds, _ = DV.tup ds ∧ _); refine w_exT ?_) | ((with_reducible show ∃ z, _ = DV.str z ∧ _); refine w_exS ?_) | ((with_reducible show ∃ ds, [_] = [DV.tup ds] ∧ _); refine wx_enumT ?_) | ((with_reducible show bSl _ _ _ _ _); refine w_slT ?_) | ((with_reducible show bTuple [_] _ _); refine w_tupT ?_) | ((with_reducible show bLen [_] _ _); refine w_lenT ?_) | ((with_reducible show bTru _ _ _); first | refine w_truT ?_ | refine w_truN ?_ | refine w_truB ?_ | refine w_truI ?_) | ((with_reducible show bEq _ _ _ _ _); first | refine w_eqSS ?_ | refine w_eqII ?_ | refine w_neSS ?_ | refine w_neII ?_ | refine w_eqT0 ?_) | ((with_reducible show bInt _ _ (.int _) (.int _) _ _); refine w_int (by first | decide | exact ⟨by decide, by decide, by decide⟩ | exact .inl ⟨by decide, by decide⟩ | exact .inr ⟨by decide, by decide⟩) ?_) | ((with_reducible show if _ = true then _ else _); first | refine w_it (by first | rfl | decide +kernel) ?_ | refine w_if0 (by first | rfl | decide +kernel) ?_) | ((with_reducible show rcv "list" (.ref _) _ ∧ _); refine w_rcvL (by walk_at "gq") ?_) | ((with_reducible show bTuple [.ref _] _ _); refine w_tupL (by walk_at "gq") ?_) | ((with_reducible show bLen [.ref _] _ _); refine w_lenL (by walk_at "gq") ?_) | ((with_reducible show bTru (.ref _) _ _); refine w_truL (by walk_at "gq") ?_) | ((with_reducible show ∃ _ _, DV.ref _ = _ ∧ Ls _ _ _ ∧ _); refine wx_lst (by walk_at "gq") ?_) | ((with_reducible show ∃ _ _, [DV.ref _] = _ ∧ Ls _ _ _ ∧ _); refine wx_lstA (by walk_at "gq") ?_))
local macro_rules | `(tactic| walk_at "dd") => `(tactic| repeat (walk_at "d1"))
local macro_rules | `(tactic| walk_at "gq") => `(tactic| first | assumption | exact dupd_same | (refine (dupd_ne ?_).trans ?_; (focus walk_at "gn"); walk_at "gq"))
local macro_rules | `(tactic| walk_at "gn") => `(tactic| first | assumption | exact ne_ns (by assumption) ⟨_, by walk_at "gq"⟩ | exact ne_sn (by assumption) ⟨_, by walk_at "gq"⟩)
local macro_rules | `(tactic| walk_at "gs") => `(tactic| first | assumption | exact Sub.refl _ | (refine Sub.new ?_ ?_; (focus walk_at "gs"); walk_at "g0"))
local macro_rules | `(tactic| walk_at "g0") => `(tactic| first | assumption | exact nn_ (by assumption) (by walk_at "gs"))

def spLaw (K : PySem.W.Frag) : Sp := fun vs H Q _ => ∃ (a : Addr) (ns : List Int), vs = [.ref a] ∧ SqL K H a (ns.map V.int) ∧ ns.length ≤ 63 ∧ ∀ H', Q (.bl true) H'
theorem law_go {K : Frag} {t : TDS} {nx : St → Hp → Prop} {rt : VK} {bk ct : St → Hp → Prop} {σ : St} {δ : DSt} {H : Hp} {d c : Addr} (dk : Deck H d c) (sl : Sl K H σ δ) (q : ∀ H', rt (.bl true) H') (h : ∀ G, HasDk G d → t ⟨fun _ _ => False, fun v _ => v = .bl true, fun _ _ => False, fun _ _ => False⟩ δ G) : upS K t ⟨nx, rt, bk, ct⟩ σ H := by
  refine ⟨⟨fun _ _ => False, fun v _ => v = .bl true, fun _ _ => False, fun _ _ => False⟩, δ, _, sl, wd_one (d := d) (L := [d, c]) (φ := fun H => Deck H d c) (List.mem_cons_self ..) dk (deck_lst dk) deck_loc, ?_, h _ ⟨c, dupd_same⟩⟩
  exact ⟨fun _ _ _ _ h => h.elim, fun v G u H' e t w r => by cases e; cases r; exact q _, fun _ _ _ _ h => h.elim, fun _ _ _ _ h => h.elim⟩
section
variable {P : Program} {w : World} {K : Frag} {mg : Str → Option Value} {base : Heap}
def SP_rowA : DSp := fun ds G R => ∃ b : Bool, SP_row (if b = true then 4 else 3) ds G R
abbrev N_L_law : List Str := ["_law_script", "_law_deck_here", "_law_names", "_law_turn", "_law_way", "_law_row_here", "_law_due", "_law_again", "_law_found", "_law_place"]
abbrev A_L_law : List Str := ["_law_script"]
theorem sc_L_law : FnScope N_L_law A_L_law (defScope s_L_law) := ⟨rfl, rfl, rfl, by decide +kernel, rfl, by decide +kernel, by decide +kernel⟩
theorem ok_law {f gd : Addr} {fd dd : FuncData} (F : Fun K "law" "law" s_L_law f fd) (B : BI mg) (DE : FnOk P w K mg base CX0 1 gd dd ["_law_script"] (spDeck K)) (bDE : L2.Binds K dd ["_law_script"] []) (kDE : keepIn K (.ref gd) = true) (mDE : mg "_law_deck" = some (.ref gd))
    (c_L_draw : Has P w K mg base 2 "_law_draw" A_L_draw SP_draw)
    (c_L_long : Has P w K mg base 9 "_law_long" A_L_long SP_long)
    (c_L_row : Has P w K mg base 18 "_law_row" A_L_row SP_rowA)
    (c_L_cut : Has P w K mg base 2 "_law_cut" A_L_cut SP_cut)
    (c_L_places : Has P w K mg base 34 "_law_places" A_L_places (SP_places 16))
    (c_p_places_of : Has P w K mg base 4 "places_of" A_p_places_of SP_po)
    (c_L_whole : Has P w K mg base 1 "_law_whole" A_L_whole SP_whole)
    (c_p_word_at : Has P w K mg base 2 "word_at" A_p_word_at SP_wa)
    (c_L_word_at : Has P w K mg base 18 "_law_word_at" A_L_word_at (SP_Lwa 17))
    : FnOk P w K mg base CX0 36 f fd ["_law_script"] (spLaw K) := by
  refine F.ok sc_L_law (fun vs H Q E h => ?_) (fun cdv A outer s H vs Q E hr h => ?_)
  · obtain ⟨a, ns, rfl, _⟩ := h
    rfl
  obtain ⟨a, ns, rfl, hS, h63, q⟩ := h
  refine ⟨_, pss_cons (ps_set (i := 1) sc_L_law.nd rfl (.inl rfl) (pe_call DE (hr.mono (by omega)) rfl mDE kDE bDE .nil pass0 (pa_cons (pv 0) pa_nil)))
    (dss_cons (ds_set (i := 2) sc_L_law.nd rfl (.inl rfl) (de_lst (da_cons de_str (da_cons de_str (da_cons de_str (da_cons de_str da_nil))))))
    (dss_cons (ds_for PassesOwn.never rfl (di_range B.range rfl (da_cons de_int da_nil)) (dg_name (i := 3) sc_L_law.nd rfl (.inl rfl)) (dss_cons (ds_set (i := 4) sc_L_law.nd rfl (.inl rfl) (de_call c_L_draw (hr.mono (by omega)) rfl (da_cons (dv 1) (da_cons de_int da_nil))))
      (dss_cut (ds_if (dt_cmp (od_eq hr.units) (dv 4) de_int (nomark _)) (dss_one (ds_set (i := 5) sc_L_law.nd rfl (.inl rfl) (de_call c_L_long (hr.mono (by omega)) rfl (da_cons (dv 1) (da_cons (dv 2) da_nil))))) (dss_one (ds_set (i := 5) sc_L_law.nd rfl (.inl rfl) (de_call c_L_row (hr.mono (by omega)) rfl (da_cons (dv 1) (da_cons (dv 2) (da_cons (de_ix (de_lst (da_cons de_int (da_cons de_int da_nil))) (de_callTy cd_int B.int rfl (by decide +kernel) (da_cons (de_cmp (od_eq hr.units) (dv 4) de_int (nomark _)) da_nil))) (da_cons (de_op od_add de_int (de_call c_L_draw (hr.mono (by omega)) rfl (da_cons (dv 1) (da_cons de_int da_nil)))) da_nil))))))))
      (dss_cons (ds_set (i := 5) sc_L_law.nd rfl (.inl rfl) (de_call c_L_cut (hr.mono (by omega)) rfl (da_cons (dv 5) (da_cons de_int da_nil))))
      (dss_cons (ds_set (i := 6) sc_L_law.nd rfl (.inl rfl) (de_call c_L_places (hr.mono (by omega)) rfl (da_cons (dv 5) (da_cons (de_tup da_nil) da_nil))))
      (dss_cons (ds_for PassesOwn.never rfl (di_range B.range rfl (da_cons de_int da_nil)) (dg_name (i := 7) sc_L_law.nd rfl (.inl rfl)) (dss_cons (ds_set (i := 8) sc_L_law.nd rfl (.inl rfl) (de_call c_p_places_of (hr.mono (by omega)) rfl (da_cons (dv 5) da_nil)))
        (dss_one (ds_if (dt_w (dw_or (dt_not (dt_e (de_callB cd_isi B.isi rfl (by decide +kernel) (da_cons (dv 8) (da_cons (de_ty (n := "tuple") B.tup rfl (by decide +kernel)) da_nil))))) (dw_or (dt_cmp (od_ne hr.units) (de_callTy cd_list B.lst rfl (by decide +kernel) (da_cons (dv 8) da_nil)) (dv 6) (nomark _)) (dw_or1 (dt_cmp (od_ne hr.units) (dv 8) (de_callTy cd_tuple B.tup rfl (by decide +kernel) (da_cons (de_callB (cd_sortT hr.units) B.sorted rfl (by decide +kernel) (da_cons (dv 8) da_nil)) da_nil)) (nomark _)))))) (dss_one (ds_ret de_bl)) dss_nil))))
      (dss_cons (ds_if (dt_cmp (od_ne hr.units) (de_lc (own := [("_law_place", 9)]) (lt1 (i := 9) (by decide)) rfl sc_L_law.nd (di_tup (dv 8)) (blkOk_by (own := [("_law_place", 9)]) (N := N_L_law) (sc := defScope s_L_law) (by decide +kernel)) (fun _ _ _ _ _ => pg_name (i := 9) sc_L_law.nd rfl (Or.inl rfl)) (fun _ _ _ _ _ => (dts_one (dt_not (dt_e (de_call c_L_whole (hr.mono (by omega)) rfl (da_cons (dv 9) da_nil)))))) (fun _ _ _ _ _ => (dv 9))) (de_lst da_nil) (nomark _)) (dss_one (ds_ret de_bl)) dss_nil)
      (dss_one (ds_for PassesOwn.never rfl (di_list (dv 6)) (dg_name (i := 9) sc_L_law.nd rfl (.inl rfl)) (dss_one (ds_if (dt_cmp (od_ne hr.units) (de_call c_p_word_at (hr.mono (by omega)) rfl (da_cons (dv 5) (da_cons (dv 9) da_nil))) (de_call c_L_word_at (hr.mono (by omega)) rfl (da_cons (dv 5) (da_cons (dv 9) da_nil))) (nomark _)) (dss_one (ds_ret de_bl)) dss_nil)))))))))))
    (dss_one (ds_ret de_bl)))), ?_⟩
  refine ⟨_, rfl, a, ns, rfl, hS, h63, fun d c H1 s1 nd nc D1 => ?_⟩
  refine law_go (δ := [some (.ref a), some (.ref d), none, none, none, none, none, none, none, none]) D1 (.cons (.ref a) (.cons (.ref d) (Sl.nones 8))) (fun H' => q H') fun G hk => ?_
  walk_at "dd"
  intro nm nnm
  have hk1 := hk.new (o := .lst [.str "aa", .str "pl", .str "iff", .str "a"]) nnm
  have hn1 : NM (dupd G nm (.lst [.str "aa", .str "pl", .str "iff", .str "a"])) nm := dupd_same
  generalize dupd G nm (.lst [.str "aa", .str "pl", .str "iff", .str "a"]) = G1 at hk1 hn1
  walk_at "dd"
  refine wx_rng (by decide) (by decide) ?_
  refine for_by (fun i δ G' => ∃ (x3 x4 x5 x6 x7 x8 x9 : Option DV), δ = [some (.ref a), some (.ref d), some (.ref nm), x3, x4, x5, x6, x7, x8, x9] ∧ HasDk G' d ∧ NM G' nm) (fun _ _ _ _ => trivial) ⟨_, _, _, _, _, _, _, rfl, hk1, hn1⟩ ?_ ?_
  · rintro i dd δ G2 hdd ⟨x3, x4, x5, x6, x7, x8, x9, rfl, hk2, hn2⟩
    walk_at "dd"
    refine ⟨d, 8, rfl, hk2, by decide, by decide, fun u u0 u1 => ?_⟩
    walk_at "dd"
    refine w_cut (fun δ G' => ∃ (x6 x7 x8 x9 : Option DV) (ws : List Wo), δ = [some (.ref a), some (.ref d), some (.ref nm), some dd, some (.int u), some (.tup (eWs ws)), x6, x7, x8, x9] ∧ HasDk G' d ∧ NM G' nm ∧ GW 15 10000 ws ∧ dpWs ws ≤ 3) ?_ ?_
    · walk_at "dd"
      refine w_iteD (fun e5 => ?_) (fun e5 => ?_)
      · walk_at "dd"
        refine ⟨d, nm, rfl, hk2, hn2, fun ws g => ?_⟩
        walk_at "dd"
        exact ⟨_, _, _, _, ws, rfl, hk2, hn2, g.up (by decide) (by decide), g.dp⟩
      · walk_at "dd"
        intro p np
        walk_at "dd"
        refine w_ixL dupd_same (int2 (decide (u = 1))) ?_
        obtain ⟨m, hm, em⟩ : ∃ m : Nat, m ≤ 14 ∧ (if decide (u = 1) = true then DV.int 14 else DV.int 7) = .int (m : Int) := by
          cases decide (u = 1)
          · exact ⟨7, by decide, rfl⟩
          · exact ⟨14, by decide, rfl⟩
        rw [em]
        walk_at "dd"
        refine ⟨d, 2, rfl, hk2.new np, by decide, by decide, fun v v0 v1 => ?_⟩
        obtain ⟨v', rfl⟩ := Int.eq_ofNat_of_zero_le v0
        walk_at "dd"
        refine ⟨decide (v' = 1), d, nm, 2 + v', m, ?_, ?_, hk2.new np, hn2.new np, hm, fun ws g => ?_⟩
        · by_cases e : v' = 1
          · subst e; rfl
          · have : v' = 0 := by omega
            subst this; rfl
        · rw [show ((2 + v' : Nat) : Int) = 2 + (v' : Int) by omega]
        · walk_at "dd"
          have v'1 : v' ≤ 1 := by omega
          have hj : dpWs ws ≤ 3 := by have := g.dp; omega
          have hz : m * (1 + BT (2 + v')) ≤ 10000 := by
            have h1 : 1 + BT (2 + v') ≤ 600 := by
              have : v' = 0 ∨ v' = 1 := by omega
              rcases this with rfl | rfl <;> decide
            have := Nat.mul_le_mul hm h1
            omega
          exact ⟨_, _, _, _, ws, rfl, hk2.new np, hn2.new np, g.up (by omega) hz, hj⟩
    · rintro δ G3 ⟨x6, x7, x8, x9, ws0, rfl, hk3, hn3, g0, hd0⟩
      walk_at "dd"
      refine ⟨ws0, rfl, g0, fun ws hpre => ?_⟩
      obtain ⟨cc, rfl⟩ := hpre
      have gw := g0.left
      have hd : dpWs ws ≤ 3 := by rw [dpWs_app] at hd0; omega
      have gz := gw.sz
      walk_at "dd"
      refine ⟨ws, [], rfl, by omega, gz, by show 0 + _ ≤ _; omega, fun r nr => ?_⟩
      have hk4 := hk3.new (o := .lst (plc (plWs [] 0 ws))) nr
      have hn4 := hn3.new (o := .lst (plc (plWs [] 0 ws))) nr
      have hr4 : dupd G3 r (.lst (plc (plWs [] 0 ws))) r = some (.lst (plc (plWs [] 0 ws))) := dupd_same
      generalize dupd G3 r (.lst (plc (plWs [] 0 ws))) = G4 at hk4 hn4 hr4
      have pc := plc_cmps (plWs [] 0 ws)
      have pp := (plc_plain (plWs [] 0 ws)).1
      have pl := plWs_len [] 0 ws
      walk_at "dd"
      refine wx_rng (by decide) (by decide) ?_
      refine for_by (fun j δ G' => ∃ (x7 x8 : Option DV), δ = [some (.ref a), some (.ref d), some (.ref nm), some dd, some (.int u), some (.tup (eWs ws)), some (.ref r), x7, x8, x9] ∧ HasDk G' d ∧ NM G' nm ∧ G' r = some (.lst (plc (plWs [] 0 ws))) ∧ (j = 0 ∨ x8 = some (.tup (plc (plWs [] 0 ws))))) (fun _ _ _ _ => trivial) ⟨_, _, rfl, hk4, hn4, hr4, .inl rfl⟩ ?_ ?_
      · rintro j d7 δ G5 _ ⟨x7, x8, rfl, hk5, hn5, hr5, _⟩
        walk_at "dd"
        refine ⟨ws, rfl, gz, by omega, ?_⟩
        walk_at "dd"
        refine w_lstT fun r2 nr2 => ?_
        walk_at "dd"
        refine w_neLL dupd_same (by walk_at "gq") pc pc pp pp ?_
        walk_at "dd"
        refine w_iteN (fun h => (h rfl).elim) (fun _ => ?_)
        walk_at "dd"
        refine ⟨(plWs [] 0 ws).map (·.1), by rw [List.map_map]; rfl, ?_, ?_, fun r3 nr3 => ?_⟩
        · intro p hp
          obtain ⟨x, hx, rfl⟩ := List.mem_map.mp hp
          obtain ⟨_, _, _, _, e, _⟩ := plWs_walk [] 0 ws x hx
          rw [e]
          exact fun z => nomatch z
        · rw [List.pairwise_map]; exact plWs_up [] 0 ws
        · walk_at "dd"
          refine w_neTT pc pc pp pp ?_
          walk_at "dd"
          refine w_iteN (fun h => (h rfl).elim) (fun _ => ?_)
          walk_at "dd"
          exact ⟨_, _, rfl, (hk5.new nr2).new nr3, (hn5.new nr2).new nr3, by walk_at "gq", .inr rfl⟩
      · rintro δ G5 ⟨x7, x8, rfl, hk5, hn5, hr5, hj⟩
        have e8 : x8 = some (.tup (plc (plWs [] 0 ws))) := by
          rcases hj with hj | hj
          · rw [rng_len] at hj; exact absurd hj (by decide)
          · exact hj
        subst e8
        walk_at "dd"
        refine lcg_pure (fun _ => none) (fun _ _ _ => trivial) (by rw [plc_len]; omega) ?_ ?_
        · intro y hy G' k1 k0 _ h1 h0
          obtain ⟨x, hx, rfl⟩ := List.mem_map.mp hy
          obtain ⟨hl, _, _⟩ := plWs_dp [] 0 ws x hx
          walk_at "dd"
          refine ⟨x.1, rfl, by have : ([] : List Int).length = 0 := rfl; omega, ?_⟩
          walk_at "dd"
          exact h0 rfl
        · intro p np
          rw [show List.filterMap (fun _ => (none : Option DV)) (plc (plWs [] 0 ws)) = [] from by generalize plc _ = l; induction l <;> simp]
          walk_at "dd"
          intro p2 np2
          refine w_neLL (by walk_at "gq") dupd_same ⟨rfl, rfl, Nat.zero_le _⟩ ⟨rfl, rfl, Nat.zero_le _⟩ rfl rfl ?_
          walk_at "dd"
          refine for_by (fun j δ G' => ∃ (x9 : Option DV), δ = [some (.ref a), some (.ref d), some (.ref nm), some dd, some (.int u), some (.tup (eWs ws)), some (.ref r), x7, some (.tup (plc (plWs [] 0 ws))), x9] ∧ HasDk G' d ∧ NM G' nm ∧ G' r = some (.lst (plc (plWs [] 0 ws)))) (fun j δ G' ⟨_, _, _, _, h⟩ => .inl h) ⟨_, rfl, (hk5.new np).new np2, (hn5.new np).new np2, by walk_at "gq"⟩ ?_ ?_
          · rintro j y δ G' hy ⟨x9, rfl, hk6, hn6, hr6⟩
            obtain ⟨x, hx, rfl⟩ := List.mem_map.mp (List.mem_of_getElem? hy)
            obtain ⟨hl, hd', ht'⟩ := plWs_dp [] 0 ws x hx
            have hl0 : ([] : List Int).length = 0 := rfl
            obtain ⟨i', q', w0, hw0, e', hwalk⟩ := plWs_walk [] 0 ws x hx
            have hw : walk (.inr (.row ws)) x.1 = some (.inl x.2) := by
              rw [e']
              rw [Nat.zero_add]
              exact walk_mk (by show (ws.map Sum.inl)[i']? = _; rw [List.getElem?_map, hw0]; rfl) hwalk
            walk_at "dd"
            refine ⟨ws, x.1, x.2, rfl, hw, ?_⟩
            walk_at "dd"
            refine ⟨ws, x.1, x.2, rfl, hw, by omega, ?_⟩
            obtain ⟨c1, c2, c3⟩ := eW_cmp x.2
            have tx := ht' gw.tx
            have cc : Cmp (eW x.2) := ⟨plain_pure _ c1, c3 tx, by omega⟩
            refine w_neP c1 c1 cc cc ?_
            walk_at "dd"
            refine w_iteN (fun h => (h rfl).elim) (fun _ => ?_)
            walk_at "dd"
            exact ⟨_, rfl, hk6, hn6, hr6⟩
          · rintro δ G' ⟨x9, rfl, hk6, hn6, hr6⟩
            walk_at "dd"
            exact ⟨_, _, _, _, _, _, _, rfl, hk6, hn6⟩
  · rintro δ G' ⟨x3, x4, x5, x6, x7, x8, x9, rfl, hk2, hn2⟩
    walk_at "dd"
    rfl
end
end K39
namespace K39
open PySem PySem.W L2 SX Cm DD
theorem all_mk {l : PySem.W.OpenLaw} {w : World} {K : PySem.W.Frag} {h : Heap} {mg : Str → Option Value} {fa f1 f2 f3 f4 f5 f6 f7 f8 f9 f10 f11 f12 f13 f14 f15 f16 f17 f18 f19 f20 : Addr} (X : K.In h) (G : h.Ns mainGlobals mg) (hfa : mg "law" = some (.ref fa))
    {od1 an1 od2 an2 od3 an3 od4 an4 od5 an5 od6 an6 od7 an7 od8 an8 od9 an9 od10 an10 od11 an11 od12 an12 od13 an13 od14 an14 od15 an15 od16 an16 od17 an17 od18 an18 od19 an19 od20 an20 : Option Addr} {sl1 sl2 sl3 sl4 sl5 sl6 sl7 sl8 sl9 sl10 sl11 sl12 sl13 sl14 sl15 sl16 sl17 sl18 sl19 sl20 : Array (Option Value)} {oc1 kV1 dc1 pm1 cd1 ct1 oc2 kV2 dc2 pm2 cd2 ct2 oc3 kV3 dc3 pm3 cd3 ct3 oc4 kV4 dc4 pm4 cd4 ct4 oc5 kV5 dc5 pm5 cd5 ct5 oc6 kV6 dc6 pm6 cd6 ct6 oc7 kV7 dc7 pm7 cd7 ct7 oc8 kV8 dc8 pm8 cd8 ct8 oc9 kV9 dc9 pm9 cd9 ct9 oc10 kV10 dc10 pm10 cd10 ct10 oc11 kV11 dc11 pm11 cd11 ct11 oc12 kV12 dc12 pm12 cd12 ct12 oc13 kV13 dc13 pm13 cd13 ct13 oc14 kV14 dc14 pm14 cd14 ct14 oc15 kV15 dc15 pm15 cd15 ct15 oc16 kV16 dc16 pm16 cd16 ct16 oc17 kV17 dc17 pm17 cd17 ct17 oc18 kV18 dc18 pm18 cd18 ct18 oc19 kV19 dc19 pm19 cd19 ct19 oc20 kV20 dc20 pm20 cd20 ct20 : Value}
    (a1 : PySem.W.nsIn K mainGlobals "places_of" = some (some (.ref f1))) (l1 : K.lookup f1 = some ⟨oc1, od1, .func (PySem.W.fnOf "places_of" "places_of" (defArgs s_p_places_of) (defBody s_p_places_of) (defScope s_p_places_of) .none kV1 dc1 pm1 an1 cd1 ct1), sl1⟩) (c1 : PySem.W.codeIn K cd1 "places_of" = true) (k1 : PySem.W.keepIn K (.ref f1) = true)
    (a2 : PySem.W.nsIn K mainGlobals "placed_words" = some (some (.ref f2))) (l2 : K.lookup f2 = some ⟨oc2, od2, .func (PySem.W.fnOf "placed_words" "placed_words" (defArgs s_p_placed_words) (defBody s_p_placed_words) (defScope s_p_placed_words) .none kV2 dc2 pm2 an2 cd2 ct2), sl2⟩) (c2 : PySem.W.codeIn K cd2 "placed_words" = true) (k2 : PySem.W.keepIn K (.ref f2) = true)
    (a3 : PySem.W.nsIn K mainGlobals "placed_within" = some (some (.ref f3))) (l3 : K.lookup f3 = some ⟨oc3, od3, .func (PySem.W.fnOf "placed_within" "placed_within" (defArgs s_p_placed_within) (defBody s_p_placed_within) (defScope s_p_placed_within) .none kV3 dc3 pm3 an3 cd3 ct3), sl3⟩) (c3 : PySem.W.codeIn K cd3 "placed_within" = true) (k3 : PySem.W.keepIn K (.ref f3) = true)
    (a4 : PySem.W.nsIn K mainGlobals "pushed_or_itself" = some (some (.ref f4))) (l4 : K.lookup f4 = some ⟨oc4, od4, .func (PySem.W.fnOf "pushed_or_itself" "pushed_or_itself" (defArgs s_p_pushed_or_itself) (defBody s_p_pushed_or_itself) (defScope s_p_pushed_or_itself) .none kV4 dc4 pm4 an4 cd4 ct4), sl4⟩) (c4 : PySem.W.codeIn K cd4 "pushed_or_itself" = true) (k4 : PySem.W.keepIn K (.ref f4) = true)
    (a5 : PySem.W.nsIn K mainGlobals "word_at" = some (some (.ref f5))) (l5 : K.lookup f5 = some ⟨oc5, od5, .func (PySem.W.fnOf "word_at" "word_at" (defArgs s_p_word_at) (defBody s_p_word_at) (defScope s_p_word_at) .none kV5 dc5 pm5 an5 cd5 ct5), sl5⟩) (c5 : PySem.W.codeIn K cd5 "word_at" = true) (k5 : PySem.W.keepIn K (.ref f5) = true)
    (a6 : PySem.W.nsIn K mainGlobals "_law_deck" = some (some (.ref f6))) (l6 : K.lookup f6 = some ⟨oc6, od6, .func (PySem.W.fnOf "_law_deck" "_law_deck" (defArgs s_L_deck) (defBody s_L_deck) (defScope s_L_deck) .none kV6 dc6 pm6 an6 cd6 ct6), sl6⟩) (c6 : PySem.W.codeIn K cd6 "_law_deck" = true) (k6 : PySem.W.keepIn K (.ref f6) = true)
    (a7 : PySem.W.nsIn K mainGlobals "_law_draw" = some (some (.ref f7))) (l7 : K.lookup f7 = some ⟨oc7, od7, .func (PySem.W.fnOf "_law_draw" "_law_draw" (defArgs s_L_draw) (defBody s_L_draw) (defScope s_L_draw) .none kV7 dc7 pm7 an7 cd7 ct7), sl7⟩) (c7 : PySem.W.codeIn K cd7 "_law_draw" = true) (k7 : PySem.W.keepIn K (.ref f7) = true)
    (a8 : PySem.W.nsIn K mainGlobals "_law_number" = some (some (.ref f8))) (l8 : K.lookup f8 = some ⟨oc8, od8, .func (PySem.W.fnOf "_law_number" "_law_number" (defArgs s_L_number) (defBody s_L_number) (defScope s_L_number) .none kV8 dc8 pm8 an8 cd8 ct8), sl8⟩) (c8 : PySem.W.codeIn K cd8 "_law_number" = true) (k8 : PySem.W.keepIn K (.ref f8) = true)
    (a9 : PySem.W.nsIn K mainGlobals "_law_shuffle" = some (some (.ref f9))) (l9 : K.lookup f9 = some ⟨oc9, od9, .func (PySem.W.fnOf "_law_shuffle" "_law_shuffle" (defArgs s_L_shuffle) (defBody s_L_shuffle) (defScope s_L_shuffle) .none kV9 dc9 pm9 an9 cd9 ct9), sl9⟩) (c9 : PySem.W.codeIn K cd9 "_law_shuffle" = true) (k9 : PySem.W.keepIn K (.ref f9) = true)
    (a10 : PySem.W.nsIn K mainGlobals "_law_thing" = some (some (.ref f10))) (l10 : K.lookup f10 = some ⟨oc10, od10, .func (PySem.W.fnOf "_law_thing" "_law_thing" (defArgs s_L_thing) (defBody s_L_thing) (defScope s_L_thing) .none kV10 dc10 pm10 an10 cd10 ct10), sl10⟩) (c10 : PySem.W.codeIn K cd10 "_law_thing" = true) (k10 : PySem.W.keepIn K (.ref f10) = true)
    (a11 : PySem.W.nsIn K mainGlobals "_law_word" = some (some (.ref f11))) (l11 : K.lookup f11 = some ⟨oc11, od11, .func (PySem.W.fnOf "_law_word" "_law_word" (defArgs s_L_word) (defBody s_L_word) (defScope s_L_word) .none kV11 dc11 pm11 an11 cd11 ct11), sl11⟩) (c11 : PySem.W.codeIn K cd11 "_law_word" = true) (k11 : PySem.W.keepIn K (.ref f11) = true)
    (a12 : PySem.W.nsIn K mainGlobals "_law_row" = some (some (.ref f12))) (l12 : K.lookup f12 = some ⟨oc12, od12, .func (PySem.W.fnOf "_law_row" "_law_row" (defArgs s_L_row) (defBody s_L_row) (defScope s_L_row) .none kV12 dc12 pm12 an12 cd12 ct12), sl12⟩) (c12 : PySem.W.codeIn K cd12 "_law_row" = true) (k12 : PySem.W.keepIn K (.ref f12) = true)
    (a13 : PySem.W.nsIn K mainGlobals "_law_long" = some (some (.ref f13))) (l13 : K.lookup f13 = some ⟨oc13, od13, .func (PySem.W.fnOf "_law_long" "_law_long" (defArgs s_L_long) (defBody s_L_long) (defScope s_L_long) .none kV13 dc13 pm13 an13 cd13 ct13), sl13⟩) (c13 : PySem.W.codeIn K cd13 "_law_long" = true) (k13 : PySem.W.keepIn K (.ref f13) = true)
    (a14 : PySem.W.nsIn K mainGlobals "_law_count" = some (some (.ref f14))) (l14 : K.lookup f14 = some ⟨oc14, od14, .func (PySem.W.fnOf "_law_count" "_law_count" (defArgs s_L_count) (defBody s_L_count) (defScope s_L_count) .none kV14 dc14 pm14 an14 cd14 ct14), sl14⟩) (c14 : PySem.W.codeIn K cd14 "_law_count" = true) (k14 : PySem.W.keepIn K (.ref f14) = true)
    (a15 : PySem.W.nsIn K mainGlobals "_law_cut" = some (some (.ref f15))) (l15 : K.lookup f15 = some ⟨oc15, od15, .func (PySem.W.fnOf "_law_cut" "_law_cut" (defArgs s_L_cut) (defBody s_L_cut) (defScope s_L_cut) .none kV15 dc15 pm15 an15 cd15 ct15), sl15⟩) (c15 : PySem.W.codeIn K cd15 "_law_cut" = true) (k15 : PySem.W.keepIn K (.ref f15) = true)
    (a16 : PySem.W.nsIn K mainGlobals "_law_places" = some (some (.ref f16))) (l16 : K.lookup f16 = some ⟨oc16, od16, .func (PySem.W.fnOf "_law_places" "_law_places" (defArgs s_L_places) (defBody s_L_places) (defScope s_L_places) .none kV16 dc16 pm16 an16 cd16 ct16), sl16⟩) (c16 : PySem.W.codeIn K cd16 "_law_places" = true) (k16 : PySem.W.keepIn K (.ref f16) = true)
    (a17 : PySem.W.nsIn K mainGlobals "_law_within" = some (some (.ref f17))) (l17 : K.lookup f17 = some ⟨oc17, od17, .func (PySem.W.fnOf "_law_within" "_law_within" (defArgs s_L_within) (defBody s_L_within) (defScope s_L_within) .none kV17 dc17 pm17 an17 cd17 ct17), sl17⟩) (c17 : PySem.W.codeIn K cd17 "_law_within" = true) (k17 : PySem.W.keepIn K (.ref f17) = true)
    (a18 : PySem.W.nsIn K mainGlobals "_law_word_at" = some (some (.ref f18))) (l18 : K.lookup f18 = some ⟨oc18, od18, .func (PySem.W.fnOf "_law_word_at" "_law_word_at" (defArgs s_L_word_at) (defBody s_L_word_at) (defScope s_L_word_at) .none kV18 dc18 pm18 an18 cd18 ct18), sl18⟩) (c18 : PySem.W.codeIn K cd18 "_law_word_at" = true) (k18 : PySem.W.keepIn K (.ref f18) = true)
    (a19 : PySem.W.nsIn K mainGlobals "_law_whole" = some (some (.ref f19))) (l19 : K.lookup f19 = some ⟨oc19, od19, .func (PySem.W.fnOf "_law_whole" "_law_whole" (defArgs s_L_whole) (defBody s_L_whole) (defScope s_L_whole) .none kV19 dc19 pm19 an19 cd19 ct19), sl19⟩) (c19 : PySem.W.codeIn K cd19 "_law_whole" = true) (k19 : PySem.W.keepIn K (.ref f19) = true)
    (a20 : PySem.W.nsIn K mainGlobals "law" = some (some (.ref f20))) (l20 : K.lookup f20 = some ⟨oc20, od20, .func (PySem.W.fnOf "law" "law" (defArgs s_L_law) (defBody s_L_law) (defScope s_L_law) .none kV20 dc20 pm20 an20 cd20 ct20), sl20⟩) (c20 : PySem.W.codeIn K cd20 "law" = true) (k20 : PySem.W.keepIn K (.ref f20) = true)
    (z_len : PySem.W.nsIn K mainGlobals "len" = some none)
    (z_isinstance : PySem.W.nsIn K mainGlobals "isinstance" = some none)
    (z_int : PySem.W.nsIn K mainGlobals "int" = some none)
    (z_str : PySem.W.nsIn K mainGlobals "str" = some none)
    (z_tuple : PySem.W.nsIn K mainGlobals "tuple" = some none)
    (z_list : PySem.W.nsIn K mainGlobals "list" = some none)
    (z_bool : PySem.W.nsIn K mainGlobals "bool" = some none)
    (z_dict : PySem.W.nsIn K mainGlobals "dict" = some none)
    (z_all : PySem.W.nsIn K mainGlobals "all" = some none)
    (z_any : PySem.W.nsIn K mainGlobals "any" = some none)
    (z_sum : PySem.W.nsIn K mainGlobals "sum" = some none)
    (z_sorted : PySem.W.nsIn K mainGlobals "sorted" = some none)
    (z_set : PySem.W.nsIn K mainGlobals "set" = some none)
    (z_range : PySem.W.nsIn K mainGlobals "range" = some none)
    (z_enumerate : PySem.W.nsIn K mainGlobals "enumerate" = some none)
    (z_zip : PySem.W.nsIn K mainGlobals "zip" = some none)
    (z_reversed : PySem.W.nsIn K mainGlobals "reversed" = some none)
    : ∃ fd : FuncData, (∀ (s : Shared) (v : Value), BindsTo s fd ⟨[v], []⟩ [("_law_script", v)]) ∧ ∀ base : Heap, K.In base → base.Ns mainGlobals mg → FnOk l.prog w K mg base CX0 36 fa fd ["_law_script"] (spLaw K) := by
  have e := hfa.symm.trans (PySem.W.mg_of X G a20)
  cases e
  have F1 := fun_mk (st := s_p_places_of) l1 c1 k1
  have b1 := F1.binds (ps := ["row"]) fun _ _ _ _ _ _ us hl => match us, hl with | [_], _ => rfl
  have m1 := PySem.W.mg_of X G a1
  have F2 := fun_mk (st := s_p_placed_words) l2 c2 k2
  have b2 := F2.binds (ps := ["row"]) fun _ _ _ _ _ _ us hl => match us, hl with | [_], _ => rfl
  have m2 := PySem.W.mg_of X G a2
  have F3 := fun_mk (st := s_p_placed_within) l3 c3 k3
  have b3 := F3.binds (ps := ["place", "piece"]) fun _ _ _ _ _ _ us hl => match us, hl with | [_, _], _ => rfl
  have m3 := PySem.W.mg_of X G a3
  have F4 := fun_mk (st := s_p_pushed_or_itself) l4 c4 k4
  have b4 := F4.binds (ps := ["piece"]) fun _ _ _ _ _ _ us hl => match us, hl with | [_], _ => rfl
  have m4 := PySem.W.mg_of X G a4
  have F5 := fun_mk (st := s_p_word_at) l5 c5 k5
  have b5 := F5.binds (ps := ["row", "place"]) fun _ _ _ _ _ _ us hl => match us, hl with | [_, _], _ => rfl
  have m5 := PySem.W.mg_of X G a5
  have F6 := fun_mk (st := s_L_deck) l6 c6 k6
  have b6 := F6.binds (ps := ["_law_script"]) fun _ _ _ _ _ _ us hl => match us, hl with | [_], _ => rfl
  have m6 := PySem.W.mg_of X G a6
  have F7 := fun_mk (st := s_L_draw) l7 c7 k7
  have b7 := F7.binds (ps := ["_law_deck_here", "_law_most"]) fun _ _ _ _ _ _ us hl => match us, hl with | [_, _], _ => rfl
  have m7 := PySem.W.mg_of X G a7
  have F8 := fun_mk (st := s_L_number) l8 c8 k8
  have b8 := F8.binds (ps := ["_law_deck_here"]) fun _ _ _ _ _ _ us hl => match us, hl with | [_], _ => rfl
  have m8 := PySem.W.mg_of X G a8
  have F9 := fun_mk (st := s_L_shuffle) l9 c9 k9
  have b9 := F9.binds (ps := ["_law_deck_here", "_law_most"]) fun _ _ _ _ _ _ us hl => match us, hl with | [_, _], _ => rfl
  have m9 := PySem.W.mg_of X G a9
  have F10 := fun_mk (st := s_L_thing) l10 c10 k10
  have b10 := F10.binds (ps := ["_law_deck_here", "_law_names", "_law_deep"]) fun _ _ _ _ _ _ us hl => match us, hl with | [_, _, _], _ => rfl
  have m10 := PySem.W.mg_of X G a10
  have F11 := fun_mk (st := s_L_word) l11 c11 k11
  have b11 := F11.binds (ps := ["_law_deck_here", "_law_names", "_law_deep"]) fun _ _ _ _ _ _ us hl => match us, hl with | [_, _, _], _ => rfl
  have m11 := PySem.W.mg_of X G a11
  have F12 := fun_mk (st := s_L_row) l12 c12 k12
  have b12 := F12.binds (ps := ["_law_deck_here", "_law_names", "_law_most", "_law_deep"]) fun _ _ _ _ _ _ us hl => match us, hl with | [_, _, _, _], _ => rfl
  have m12 := PySem.W.mg_of X G a12
  have F13 := fun_mk (st := s_L_long) l13 c13 k13
  have b13 := F13.binds (ps := ["_law_deck_here", "_law_names"]) fun _ _ _ _ _ _ us hl => match us, hl with | [_, _], _ => rfl
  have m13 := PySem.W.mg_of X G a13
  have F14 := fun_mk (st := s_L_count) l14 c14 k14
  have b14 := F14.binds (ps := ["_law_row_here"]) fun _ _ _ _ _ _ us hl => match us, hl with | [_], _ => rfl
  have m14 := PySem.W.mg_of X G a14
  have F15 := fun_mk (st := s_L_cut) l15 c15 k15
  have b15 := F15.binds (ps := ["_law_row_here", "_law_most"]) fun _ _ _ _ _ _ us hl => match us, hl with | [_, _], _ => rfl
  have m15 := PySem.W.mg_of X G a15
  have F16 := fun_mk (st := s_L_places) l16 c16 k16
  have b16 := F16.binds (ps := ["_law_row_here", "_law_place"]) fun _ _ _ _ _ _ us hl => match us, hl with | [_, _], _ => rfl
  have m16 := PySem.W.mg_of X G a16
  have F17 := fun_mk (st := s_L_within) l17 c17 k17
  have b17 := F17.binds (ps := ["_law_thing_here", "_law_place"]) fun _ _ _ _ _ _ us hl => match us, hl with | [_, _], _ => rfl
  have m17 := PySem.W.mg_of X G a17
  have F18 := fun_mk (st := s_L_word_at) l18 c18 k18
  have b18 := F18.binds (ps := ["_law_row_here", "_law_place"]) fun _ _ _ _ _ _ us hl => match us, hl with | [_, _], _ => rfl
  have m18 := PySem.W.mg_of X G a18
  have F19 := fun_mk (st := s_L_whole) l19 c19 k19
  have b19 := F19.binds (ps := ["_law_place"]) fun _ _ _ _ _ _ us hl => match us, hl with | [_], _ => rfl
  have m19 := PySem.W.mg_of X G a19
  have F20 := fun_mk (st := s_L_law) l20 c20 k20
  have y_len := PySem.W.mg_none_of X G z_len
  have y_isinstance := PySem.W.mg_none_of X G z_isinstance
  have y_int := PySem.W.mg_none_of X G z_int
  have y_str := PySem.W.mg_none_of X G z_str
  have y_tuple := PySem.W.mg_none_of X G z_tuple
  have y_list := PySem.W.mg_none_of X G z_list
  have y_bool := PySem.W.mg_none_of X G z_bool
  have y_dict := PySem.W.mg_none_of X G z_dict
  have y_all := PySem.W.mg_none_of X G z_all
  have y_any := PySem.W.mg_none_of X G z_any
  have y_sum := PySem.W.mg_none_of X G z_sum
  have y_sorted := PySem.W.mg_none_of X G z_sorted
  have y_set := PySem.W.mg_none_of X G z_set
  have y_range := PySem.W.mg_none_of X G z_range
  have y_enumerate := PySem.W.mg_none_of X G z_enumerate
  have y_zip := PySem.W.mg_none_of X G z_zip
  have y_reversed := PySem.W.mg_none_of X G z_reversed
  refine ⟨PySem.W.fnOf "law" "law" (defArgs s_L_law) (defBody s_L_law) (defScope s_L_law) .none kV20 dc20 pm20 an20 cd20 ct20, fun s v => .of_eq rfl, fun base _ _ => ?_⟩
  have B : BI mg := ⟨y_len, y_isinstance, y_int, y_str, y_tuple, y_list, y_bool, y_dict, y_all, y_any, y_sum, y_sorted, y_set, y_range, y_enumerate, y_zip, y_reversed⟩
  have t_p_places_of : At K mg "places_of" s_p_places_of ["row"] := ⟨f1, _, F1, b1, m1⟩
  have t_p_placed_words : At K mg "placed_words" s_p_placed_words ["row"] := ⟨f2, _, F2, b2, m2⟩
  have t_p_placed_within : At K mg "placed_within" s_p_placed_within ["place", "piece"] := ⟨f3, _, F3, b3, m3⟩
  have t_p_pushed_or_itself : At K mg "pushed_or_itself" s_p_pushed_or_itself ["piece"] := ⟨f4, _, F4, b4, m4⟩
  have t_p_word_at : At K mg "word_at" s_p_word_at ["row", "place"] := ⟨f5, _, F5, b5, m5⟩
  have t_L_deck : At K mg "_law_deck" s_L_deck ["_law_script"] := ⟨f6, _, F6, b6, m6⟩
  have t_L_draw : At K mg "_law_draw" s_L_draw ["_law_deck_here", "_law_most"] := ⟨f7, _, F7, b7, m7⟩
  have t_L_number : At K mg "_law_number" s_L_number ["_law_deck_here"] := ⟨f8, _, F8, b8, m8⟩
  have t_L_shuffle : At K mg "_law_shuffle" s_L_shuffle ["_law_deck_here", "_law_most"] := ⟨f9, _, F9, b9, m9⟩
  have t_L_thing : At K mg "_law_thing" s_L_thing ["_law_deck_here", "_law_names", "_law_deep"] := ⟨f10, _, F10, b10, m10⟩
  have t_L_word : At K mg "_law_word" s_L_word ["_law_deck_here", "_law_names", "_law_deep"] := ⟨f11, _, F11, b11, m11⟩
  have t_L_row : At K mg "_law_row" s_L_row ["_law_deck_here", "_law_names", "_law_most", "_law_deep"] := ⟨f12, _, F12, b12, m12⟩
  have t_L_long : At K mg "_law_long" s_L_long ["_law_deck_here", "_law_names"] := ⟨f13, _, F13, b13, m13⟩
  have t_L_count : At K mg "_law_count" s_L_count ["_law_row_here"] := ⟨f14, _, F14, b14, m14⟩
  have t_L_cut : At K mg "_law_cut" s_L_cut ["_law_row_here", "_law_most"] := ⟨f15, _, F15, b15, m15⟩
  have t_L_places : At K mg "_law_places" s_L_places ["_law_row_here", "_law_place"] := ⟨f16, _, F16, b16, m16⟩
  have t_L_within : At K mg "_law_within" s_L_within ["_law_thing_here", "_law_place"] := ⟨f17, _, F17, b17, m17⟩
  have t_L_word_at : At K mg "_law_word_at" s_L_word_at ["_law_row_here", "_law_place"] := ⟨f18, _, F18, b18, m18⟩
  have t_L_whole : At K mg "_law_whole" s_L_whole ["_law_place"] := ⟨f19, _, F19, b19, m19⟩
  have DE : FnOk l.prog w K mg base CX0 1 _ _ ["_law_script"] (spDeck K) := ok_deck F6 B
  have cd := h_draw (P := l.prog) (w := w) (base := base) t_L_draw
  have cn := h_L_number t_L_number B cd
  have cs := h_L_shuffle t_L_shuffle B cd
  have tw := all_trw t_L_thing t_L_word t_L_row B cd cn cs
  have cr : Has l.prog w K mg base 18 "_law_row" A_L_row SP_rowA := Has.any (d := fun b : Bool => SP_row (if b = true then 4 else 3)) fun b => by
    cases b
    · exact ((tw 3).2.2).mono (by decide)
    · exact (tw 4).2.2
  have cl := h_L_long t_L_long B cd (tw 1).2.1
  have cc := h_L_count (P := l.prog) (w := w) (base := base) t_L_count B
  have cu := h_L_cut t_L_cut B cc
  have cp := (all_pl (P := l.prog) (w := w) (base := base) t_L_within t_L_places B 16).2
  have cw := all_wa (P := l.prog) (w := w) (base := base) t_L_word_at B 17
  have ch := h_L_whole (P := l.prog) (w := w) (base := base) t_L_whole B
  have p1 := h_p_pushed_or_itself (P := l.prog) (w := w) (base := base) t_p_pushed_or_itself B
  have p2 := h_p_placed_within t_p_placed_within B p1
  have p3 := h_p_placed_words t_p_placed_words B p2
  have p4 := h_p_places_of t_p_places_of B p3
  have p5 := h_p_word_at t_p_word_at B p1
  exact ok_law F20 B DE b6 k6 m6 cd cl cr cu cp p4 ch p5 cw
theorem walk_law {l : PySem.W.OpenLaw} {q : Program} {loose : List Str} {XP : (Str → Option Value) → Heap → Prop} {YP : World → Heap → Prop} {d : DefRec} {K : Params → PySem.W.Frag} (hn : l.most = some 63) (hdf : d.params.defaults = [])
    (hY : ∀ (w : World) (h : Heap), YP w h → (K w.params).In h)
    (F : ∀ (w : World) (mg : Str → Option Value) (fa : Addr) (h : Heap), (K w.params).In h → h.Ns mainGlobals mg → mg d.name = some (.ref fa) →
      ∃ fd : FuncData, (∀ (s : Shared) (u : Value), BindsTo s fd ⟨[u], []⟩ [("_law_script", u)]) ∧ ∀ base : Heap, (K w.params).In base → base.Ns mainGlobals mg → FnOk l.prog w (K w.params) mg base CX0 36 fa fd ["_law_script"] (spLaw (K w.params))) :
    PySem.W.WalkO q loose XP YP l.row.toRowW d [] (fun f vs => PySem.call f vs) :=
  L2.walk_of (n := 63) (k := 36) (x := "_law_script") (CX := fun _ => CX0) (sp := fun w => spLaw (K w.params)) hn (by decide) hdf ⟨rfl, by decide, by decide⟩ hY F (fun _ _ a ns hl _ hS => ⟨a, ns, rfl, hS, hl, fun _ => rfl⟩) fun _ _ _ _ _ z => z
end K39
open PySem PySem.W PyProof.Rows
set_option maxRecDepth 100000 in
set_option maxHeartbeats 0 in
theorem PySem.Challenge.cw_takeleave_k39_places_and_words_holds : PySem.Challenge.rw_takeleave_k39_places_and_words.Holds := by
  w_on; o_law; k_head; (case hw => w_witness2)
  k_fill
  refine K39.walk_law (l := PySem.Challenge.rw_takeleave_k39_places_and_words) rfl rfl (fun w h Y => PySem.W.kIn_of Y) ?F
  case F =>
    intro w mg fa h KX G hmg
    refine' K39.all_mk (w := w) KX G hmg ?a1 ?l1 ?c1 ?k1 ?a2 ?l2 ?c2 ?k2 ?a3 ?l3 ?c3 ?k3 ?a4 ?l4 ?c4 ?k4 ?a5 ?l5 ?c5 ?k5 ?a6 ?l6 ?c6 ?k6 ?a7 ?l7 ?c7 ?k7 ?a8 ?l8 ?c8 ?k8 ?a9 ?l9 ?c9 ?k9 ?a10 ?l10 ?c10 ?k10 ?a11 ?l11 ?c11 ?k11 ?a12 ?l12 ?c12 ?k12 ?a13 ?l13 ?c13 ?k13 ?a14 ?l14 ?c14 ?k14 ?a15 ?l15 ?c15 ?k15 ?a16 ?l16 ?c16 ?k16 ?a17 ?l17 ?c17 ?k17 ?a18 ?l18 ?c18 ?k18 ?a19 ?l19 ?c19 ?k19 ?a20 ?l20 ?c20 ?k20 ?z_len ?z_isinstance ?z_int ?z_str ?z_tuple ?z_list ?z_bool ?z_dict ?z_all ?z_any ?z_sum ?z_sorted ?z_set ?z_range ?z_enumerate ?z_zip ?z_reversed
    (case a1 => k_is)
    (case l1 => k_is)
    (case c1 => k_is)
    (case k1 => k_is)
    (case a2 => k_is)
    (case l2 => k_is)
    (case c2 => k_is)
    (case k2 => k_is)
    (case a3 => k_is)
    (case l3 => k_is)
    (case c3 => k_is)
    (case k3 => k_is)
    (case a4 => k_is)
    (case l4 => k_is)
    (case c4 => k_is)
    (case k4 => k_is)
    (case a5 => k_is)
    (case l5 => k_is)
    (case c5 => k_is)
    (case k5 => k_is)
    (case a6 => k_is)
    (case l6 => k_is)
    (case c6 => k_is)
    (case k6 => k_is)
    (case a7 => k_is)
    (case l7 => k_is)
    (case c7 => k_is)
    (case k7 => k_is)
    (case a8 => k_is)
    (case l8 => k_is)
    (case c8 => k_is)
    (case k8 => k_is)
    (case a9 => k_is)
    (case l9 => k_is)
    (case c9 => k_is)
    (case k9 => k_is)
    (case a10 => k_is)
    (case l10 => k_is)
    (case c10 => k_is)
    (case k10 => k_is)
    (case a11 => k_is)
    (case l11 => k_is)
    (case c11 => k_is)
    (case k11 => k_is)
    (case a12 => k_is)
    (case l12 => k_is)
    (case c12 => k_is)
    (case k12 => k_is)
    (case a13 => k_is)
    (case l13 => k_is)
    (case c13 => k_is)
    (case k13 => k_is)
    (case a14 => k_is)
    (case l14 => k_is)
    (case c14 => k_is)
    (case k14 => k_is)
    (case a15 => k_is)
    (case l15 => k_is)
    (case c15 => k_is)
    (case k15 => k_is)
    (case a16 => k_is)
    (case l16 => k_is)
    (case c16 => k_is)
    (case k16 => k_is)
    (case a17 => k_is)
    (case l17 => k_is)
    (case c17 => k_is)
    (case k17 => k_is)
    (case a18 => k_is)
    (case l18 => k_is)
    (case c18 => k_is)
    (case k18 => k_is)
    (case a19 => k_is)
    (case l19 => k_is)
    (case c19 => k_is)
    (case k19 => k_is)
    (case a20 => k_is)
    (case l20 => k_is)
    (case c20 => k_is)
    (case k20 => k_is)
    (case z_len => k_is)
    (case z_isinstance => k_is)
    (case z_int => k_is)
    (case z_str => k_is)
    (case z_tuple => k_is)
    (case z_list => k_is)
    (case z_bool => k_is)
    (case z_dict => k_is)
    (case z_all => k_is)
    (case z_any => k_is)
    (case z_sum => k_is)
    (case z_sorted => k_is)
    (case z_set => k_is)
    (case z_range => k_is)
    (case z_enumerate => k_is)
    (case z_zip => k_is)
    (case z_reversed => k_is)
