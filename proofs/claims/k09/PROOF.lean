import PyProof.Rows.All
import Wide.All
import OpenK.AllK
import Wide.FinOn
import HandS.ForMost
import HandS.Rev
import KE.KDictList
import HandS.Style
import HandS.More
import HandS.IsInst
import HandS.StrMore
import HandS.Wide
import HandS.Codes
import HandS.Walk
import HandS.NoneIn
import HandS.WordsExc
import PyProof.AutoSeq1
import HandS.CallLocal
import HandS.Zip
import HandS.TupAny
import HandS.Defaults
import HandS.Comp
import PySem.Challenge.RW_takeleave_k09_numbers_reckoned
set_option Elab.async false
set_option linter.all false
set_option maxRecDepth 100000
set_option maxHeartbeats 4000000
namespace Cm
open PySem PySem.Spec PyProof.Rows L2 RT
section
variable {prog : Program} {w : World} {A : Around} {E : Value → Shared → Prop} {s : Shared}
/-- list.extend over a reversed list, into the empty list at T -/
theorem revExt {J l T : Addr} {vs : Array Value} {res : Value} {c : Nat} {R : Result → Shared → Prop} (hh : A.handled = none) (hJ : s.heap.IsRevIter J l ((vs.size : Int) - 1)) (hl : s.heap.IsList l vs) (nJ : l ≠ J) (hn : vs.size ≤ sizeLine)
    (nTJ : T ≠ J) (nTl : T ≠ l) (hT : s.heap.get? T = some { cls := .type "list", data := .seq #[] c })
    (hR : ∀ h' tk acc' c', (∀ b o, b ≠ T → b ≠ J → s.heap.get? b = some o → h'.get? b = some o) → h'.get? T = some { cls := .type "list", dict := none, data := .seq acc' c', slots := #[] } → ItemsOf (fun i v => vs[vs.size - 1 - i]? = some v) acc' vs.size → R (.ok (.ret res)) { s with heap := h', toks := tk }) :
    wpAny (model prog w) A.in1 (Builtin.List.listExtendWith (.ref T) (.ref J) res)
      (fun fin s' => match fin with | .done f => R (.ok f) s' | .again c' => c'.quiet = true ∧ codeAny (model prog w) A c' R s') (fun e s' => R (.error e) s') s := by
  have WS := (Walks.listRev (prog := prog) (w := w) (A := A.in1) hh J l nJ vs).toS
  have tyJ : s.TypeIs (.ref J) "list_reverseiterator" := Heap.IsRevIter.typeIs hJ
  have nf : T ∉ [J, l] := by simp only [List.mem_cons, List.not_mem_nil, or_false, not_or]; exact And.intro nTJ nTl
  have ns : Builtin.List.listSameRef (.ref T) (.ref J) = false := by simp [Builtin.List.listSameRef, nTJ]
  unfold Builtin.List.listExtendWith
  refine wpAny_bind (wpAny_typeOf tyJ ?_)
  rw [if_neg (by rw [ns]; decide)]
  refine wpAny_bind (wpAny_pyIter_revIter hJ (wpAny_bind (wpAny_holding ?_)))
  unfold Builtin.List.listLengthHint
  refine wpAny_bind (wpAny_specialOf tyJ nolen_lri ?_)
  show wpAny _ A.in1 (specialOf (Value.ref J) (Str.ofString "__length_hint__") >>= _) _ _ _
  refine wpAny_bind (wpAny_specialOf tyJ hint_lri ?_)
  generalize eid : ("list_reverseiterator.__length_hint__" : String) = idz
  wp_delta
  rw [show splitId idz = some ("list_reverseiterator", "__length_hint__") from by subst eid; decide +kernel]
  subst eid
  refine wpAny_bind (wpAny_isInstance (b := true) tyJ (by rw [isSubtype_type]; kernel_rfl) (wpAny_pure ?_))
  rw [if_neg (by decide)]
  have z0 : ((vs.size : Nat) : Int) - 1 - ((0 : Nat) : Int) = (vs.size : Int) - 1 := by omega
  refine wpAny_pure ⟨plainId_quiet F.plain_extend_loop _, codeAny_extend_loopS WS hn _ nf _ vs.size 0 _ _ _ rfl (Nat.zero_le _) ⟨Nat.zero_le _, by rw [z0]; exact hJ, hl⟩ hT (ItemsOf.nil _) fun s' acc' c' hm hS' hacc => ?_⟩
  rw [Moved.eq_with hm]
  refine hR s'.heap s'.toks acc' c' (fun b o n1 n2 e => hm.heap b o (fun q => ?_) e) hS' hacc
  rcases List.mem_cons.mp q with z | z
  · exact n1 z
  · exact n2 (List.mem_singleton.mp z)
theorem revInit {J l T : Addr} {vs : Array Value} {R : Result → Shared → Prop} (hh : A.handled = none) (hJ : s.heap.IsRevIter J l ((vs.size : Int) - 1)) (hl : s.heap.IsList l vs) (nJ : l ≠ J) (hn : vs.size ≤ sizeLine)
    (nTJ : T ≠ J) (nTl : T ≠ l) (hT : s.heap.get? T = some { cls := .type "list", data := .seq #[] })
    (hR : ∀ h' tk acc' c', (∀ b o, b ≠ T → b ≠ J → s.heap.get? b = some o → h'.get? b = some o) → h'.get? T = some { cls := .type "list", dict := none, data := .seq acc' c', slots := #[] } → ItemsOf (fun i v => vs[vs.size - 1 - i]? = some v) acc' vs.size → R (.ok (.ret .none)) { s with heap := h', toks := tk }) :
    wpAny (model prog w) A.in1 (Builtin.«list.__init__» ⟨[.ref T, .ref J], []⟩)
      (fun fin s' => match fin with | .done f => R (.ok f) s' | .again c' => c'.quiet = true ∧ codeAny (model prog w) A c' R s') (fun e s' => R (.error e) s') s := by
  show wpAny _ _ (do let old ← Builtin.List.listItems (.ref T); Builtin.List.listUpdate (.ref T) (fun _ => #[]); letGo old.toList.reverse; Builtin.List.listExtendWith (.ref T) (.ref J) .none) _ _ s
  refine wpAny_bind ?_; unfold Builtin.List.listItems
  refine wpAny_bind (wpAny_seqItems hT rfl (wpAny_pure ?_))
  show wpAny _ _ (updateSeq T (fun _ => #[]) >>= fun _ => letGo (#[] : Array Value).toList.reverse >>= fun _ => Builtin.List.listExtendWith (.ref T) (.ref J) .none) _ _ s
  refine wpAny_bind (wpAny_updateSeq hT rfl ?_)
  have hT2 := Heap.get?_update_self (Obj.mapSeq (fun _ => (#[] : Array Value))) hT rfl
  have other : ∀ b o, b ≠ T → s.heap.get? b = some o → (s.heap.update T (Obj.mapSeq (fun _ => (#[] : Array Value)))).get? b = some o :=
    fun b o hb e => (Heap.get?_update_other _ _ (Ne.symm hb)).trans e
  refine wpAny_bind (wpAny_letGo (revExt hh (hJ.at fun o e => other _ o nTJ.symm e) (hl.at fun o e => other _ o nTl.symm e) nJ hn nTJ nTl hT2 fun h' tk acc' c' hk hS' hacc => ?_))
  exact hR h' tk acc' c' (fun b o n1 n2 e => hk b o n1 n2 (other b o n1 e)) hS' hacc
theorem call_list_rev {J l : Addr} {vs : Array Value} {Q : Value → Shared → Prop} (hh : A.handled = none) (hJ : s.heap.IsRevIter J l ((vs.size : Int) - 1)) (hl : s.heap.IsList l vs) (nJ : l ≠ J) (hn : vs.size ≤ sizeLine)
    (hQ : ∀ h' tk acc' c', (∀ b o, b ≠ J → s.heap.get? b = some o → h'.get? b = some o) → h'.get? s.heap.objs.size = some { cls := .type "list", dict := none, data := .seq acc' c', slots := #[] } → ItemsOf (fun i v => vs[vs.size - 1 - i]? = some v) acc' vs.size → Q (.ref s.heap.objs.size) { s with heap := h', toks := tk }) :
    wpAny (model prog w) A (call (.type "list") [.ref J]) Q E s := by
  refine callType_codes (Q₁ := fun obj s₁ => obj = .ref s.heap.objs.size ∧ s₁ = { s with heap := s.heap.push { cls := .type "list", data := .seq #[] } }) PySem.F.called_list (PySem.F.typeCall_list_1 _) PySem.F.entry_list_init
    (code_list_new _ ⟨rfl, rfl⟩) fun obj s₁ z => ?_
  obtain ⟨rfl, rfl⟩ := z
  have hT : (s.heap.push { cls := .type "list", data := .seq #[] }).get? s.heap.objs.size = some { cls := .type "list", data := .seq #[] } := Heap.get?_push_size _ rfl
  obtain ⟨oi, hoi, _⟩ := id hJ
  obtain ⟨ol, hol, _⟩ := id hl
  refine ⟨⟨_, hT, rfl⟩, PySem.F.args_list_init_2 _ _, revInit (A := A.in1) hh (hJ.at fun o e => Heap.get?_push_of_some _ e) (hl.push _) nJ hn (Nat.ne_of_gt (Heap.lt_size hoi)) (Nat.ne_of_gt (Heap.lt_size hol)) hT (fun h' tk acc' c' hk hS' hacc => ?_)⟩
  exact ⟨rfl, hQ h' tk acc' c' (fun b o n e => hk b o (Nat.ne_of_lt (Heap.lt_size e)) n (Heap.get?_push_of_some _ e)) hS' hacc⟩
end
/-- list(reversed(x)), x a list: a new list -/
def tLstRev (K : PySem.W.Frag) (te : TE) : TE := fun σ H Q => te σ H fun v H1 => ∃ (a : Addr) (xs : List V), v = .ref a ∧ SqL K H1 a xs ∧ ∀ q, H1 q = none → Q (.ref q) (upd H1 q (.lst xs.reverse))
section
variable {X : Cx}
theorem pe_lstRev {e : Expr} {te : TE} {p p2 pos pos2 : Pos} (hc : X.calm = true) (hg : Gl X "list") (hm : X.mg "list" = none) (hg2 : Gl X "reversed") (hm2 : X.mg "reversed" = none) (he : PE X e te)
    (hs : starEach [e] X.env = (false, eval e X.env) :: starEach [] X.env := by rfl)
    (hs2 : starEach [.Call (.Name "reversed" p2) [e] [] pos2] X.env = (false, eval (.Call (.Name "reversed" p2) [e] [] pos2) X.env) :: starEach [] X.env := by rfl) :
    PE X (.Call (.Name "list" p) [.Call (.Name "reversed" p2) [e] [] pos2] [] pos) (tLstRev X.K te) := by
  refine ⟨fun pins s σ H Q I h => ?_⟩
  refine Call_ (ld_blt I hg hm (show bootBuiltins "list" = some (.type "list") by decide +kernel) (PyProof.Rows.callWith_type1 (args_cons (Call_ (ld_blt I hg2 hm2 PyProof.Rows.boot_reversed (PyProof.Rows.callWith_type1 (args_cons (thn (he.run pins s σ H _ I h) fun u s1 ⟨v, H1, I1, r1, q1⟩ => args_nil ?_) hs) hs rfl))) hs2) hs2 rfl))
  obtain ⟨a, xs, ev, hq, q⟩ := q1
  subst ev; obtain rfl : u = Value.ref a := r1
  obtain ⟨its, rv, p', hz⟩ := I1.list hq
  refine call_reversed_list p'.isList (args_nil ?_)
  have k0 : ∀ b o, s1.heap.get? b = some o → (s1.heap.push (revObj a ((its.toArray.size : Int) - 1))).get? b = some o := fun b o e' => Heap.get?_push_of_some _ e'
  have I2 : Inv X pins σ H1 { s1 with heap := s1.heap.push (revObj a ((its.toArray.size : Int) - 1)) } := I1.kept (t' := s1.toks) k0
  obtain ⟨f0, f1, f2, f3, f4, f5⟩ := I1.fpOk (H' := H1) (b := s1.heap.objs.size) (Nat.le_refl _) (I1.hok.fresh (Nat.le_refl _))
  have isl := p'.isList
  obtain ⟨ol, hol, _⟩ := id isl
  have hne : a ≠ s1.heap.objs.size := Nat.ne_of_lt (Heap.lt_size hol)
  have hn : its.toArray.size ≤ sizeLine := by rw [List.size_toArray, ← rv.length]; exact hz
  refine call_list_rev (s := { s1 with heap := s1.heap.push (revObj a ((its.toArray.size : Int) - 1)) }) (I1.ok.hd hc) ⟨_, Heap.get?_push_size _ rfl, rfl, rfl⟩ (isl.push _) hne hn fun h' tk acc c' hk hT hi => ?_
  have hk' : ∀ b o, s1.heap.get? b = some o → h'.get? b = some o := fun b o e' => hk b o (Nat.ne_of_lt (Heap.lt_size e')) (k0 b o e')
  have sz : s1.heap.objs.size ≤ (s1.heap.push (revObj a ((its.toArray.size : Int) - 1))).objs.size := by
    rw [Heap.size_push]; exact Nat.le_succ _
  refine ⟨.ref _, upd H1 _ (.lst xs.reverse), I1.laid (t' := tk) hk' sz (show ObjOk X.prog X.w _ _ _ (.lst xs.reverse) from ⟨by rw [List.length_reverse]; exact hz, acc.toList, c', vals_rev rv hi, ?_⟩), rfl, q _ (I1.hok.fresh sz)⟩
  rw [Array.toArray_toList]
  exact hT
end
end Cm
namespace Cm
open PySem PySem.W L2 SX
theorem same_new {H : Hp} {p : Addr} (h : H p = none) (o : HO) : Same H (upd H p o) := fun b u q => by rw [upd_ne (ne_of_none q h)]; exact q
theorem own_new {H H' : Hp} {p : Addr} {o : HO} (s : Same H H') (h : H p = none) : Same H (upd H' p o) := fun b u q => by rw [upd_ne (ne_of_none q h)]; exact s _ _ q
theorem cut_map {α : Type} (f : α → V) (xs : List α) (lo hi : Option Int) : ∃ ys : List α, cutV (xs.map f) lo hi = ys.map f ∧ ys.length ≤ xs.length := by
  unfold cutV
  refine ⟨(xs.drop (HT.sIx (xs.map f).length 0 lo)).take (HT.sIx (xs.map f).length (xs.map f).length hi - HT.sIx (xs.map f).length 0 lo), ?_, ?_⟩
  · rw [List.map_take, List.map_drop]
  · rw [List.length_take, List.length_drop]; omega
theorem dp_ints {K : PySem.W.Frag} {H : Hp} : ∀ ns : List Int, DpAll K H (ns.map V.int) (ns.map PyData.int)
  | [] => .nil
  | n :: r => .cons (.int n) (dp_ints r)
theorem lay_ints : ∀ ns : List Int, PyData.canLayAll0 (ns.map PyData.int) = true
  | [] => rfl
  | n :: r => by
    show (PyData.canLay0 (PyData.int n) && PyData.canLayAll0 (r.map PyData.int)) = true
    rw [lay_ints r]; rfl
theorem deep_ints : ∀ ns : List Int, PyData.depthAll (ns.map PyData.int) = 0
  | [] => rfl
  | n :: r => by
    show max (PyData.depth (PyData.int n)) (PyData.depthAll (r.map PyData.int)) = 0
    rw [deep_ints r]; rfl
theorem shaped_ints (ns : List Int) : SeqAt.shaped (.list (ns.map PyData.int)) = true := by
  show (PyData.canLayAll0 (ns.map PyData.int) && decide (PyData.depthAll (ns.map PyData.int) + 1 ≤ 64)) = true
  rw [lay_ints, deep_ints]; rfl
theorem kn {H : Hp} {a t : Addr} {o o' : HO} (h : H a = some o) (n : H t = none) : upd H t o' a = some o := by rw [upd_ne (ne_of_none h n)]; exact h
/-- all but what stands at the places L is kept -/
def Kp (L : List Addr) (H H' : Hp) : Prop := ∀ b o, b ∉ L → H b = some o → H' b = some o
theorem Kp.refl (L : List Addr) (H : Hp) : Kp L H H := fun _ _ _ h => h
theorem Kp.trans {L : List Addr} {H H1 H2 : Hp} (a : Kp L H H1) (b : Kp L H1 H2) : Kp L H H2 := fun c o n h => b c o n (a c o n h)
theorem Kp.of {L : List Addr} {H H' : Hp} (s : Same H H') : Kp L H H' := fun b o _ h => s b o h
theorem Kp.new {L : List Addr} {p : Addr} {H H' : Hp} {o : HO} (a : Kp L H H') (h : H' p = none) : Kp L H (upd H' p o) := a.trans (.of (same_new h o))
theorem Kp.own {L : List Addr} {d : Addr} {H H' : Hp} {o : HO} (a : Kp L H H') (m : d ∈ L) : Kp L H (upd H' d o) := fun b u n h => by rw [upd_ne (show b ≠ d from fun z => n (by rw [z]; exact m))]; exact a b u n h
theorem Kp.mono {L M : List Addr} {H H' : Hp} (a : Kp L H H') (h : ∀ b ∈ L, b ∈ M) : Kp M H H' := fun b o n e => a b o (fun z => n (h b z)) e
theorem Kp.free {L : List Addr} {p : Addr} {H H' : Hp} (k : Kp L H H') (n : H' p = none) (m : p ∉ L) : H p = none := by
  cases e : H p with
  | none => rfl
  | some o => rw [k p o m e] at n; cases n
theorem Kp.put {L : List Addr} {p : Addr} {H H' : Hp} {o : HO} (k : Kp L H H') (n : H p = none) : Kp L H (upd H' p o) := fun b u m e => by rw [upd_ne (ne_of_none e n)]; exact k b u m e
theorem Kp.same {L : List Addr} {H0 H H' : Hp} (a : Kp L H H') (s : Same H0 H) (h : ∀ b ∈ L, H0 b = none) : Same H0 H' := fun b o e => a b o (fun z => by rw [h b z] at e; cases e) (s b o e)
theorem cutS_to {a : List Nat} {i : Int} (h : 0 ≤ i) : cutS (S a) none (some i) = S (a.take i.toNat) := by
  obtain ⟨n, rfl⟩ := Int.eq_ofNat_of_zero_le h
  unfold cutS
  rw [HT.sIx_none, HT.sIx_nat, S_len]
  show S (List.take (min n a.length - 0) (List.drop 0 a)) = S (a.take n)
  rw [List.drop_zero, Nat.sub_zero]
  by_cases h : n ≤ a.length
  · rw [Nat.min_eq_left h]
  · rw [Nat.min_eq_right (by omega), List.take_of_length_le (Nat.le_refl a.length), List.take_of_length_le (show a.length ≤ n by omega)]
/-- a comprehension over a text's signs, whose element is a plain value -/
theorem lc_txt {z : List Nat} (f : Nat → V) {g : TG} {te : TE} {vs : List Nat} {σ : St} {H1 : Hp} {D : Addr} {Qd : Hp → Prop} (hl : z.length ≤ 1000)
    (hs : ∀ c H (R : V → Hp → Prop), c ∈ z → R (f c) H → g (.str ⟨#[c]⟩) (wipe σ vs) H fun σ2 H2 => wipe σ2 vs = wipe σ vs ∧ te σ2 H2 R) (hd : Qd (upd H1 D (.lst (z.map f)))) :
    ∃ W : Nat → Nat → Hp → Prop, (∃ m, W 0 m (upd H1 D (.lst []))) ∧ ∀ i m H, W i m H →
      ((Its (S z)).stop i H ∧ Qd H) ∨ ((Its (S z)).go i H ∧ ∃ Nx : Hp → Prop, (∀ H', Nx H' → ∃ m', m' < m ∧ W (i + 1) m' H') ∧ ∀ x H', (Its (S z)).yld i H x H' → g x (wipe σ vs) H' fun σ2 H2 => wipe σ2 vs = wipe σ vs ∧ tYes σ2 H2 fun b H3 =>
        if b = true then te σ2 H3 fun y H4 => ∃ acc, H4 D = some (.lst acc) ∧ acc.length < sizeLine ∧ Nx (upd H4 D (.lst (acc ++ [y]))) else Nx H3) := by
  refine lc_it (walk_str (z := S z)) (fun i H => H = upd H1 D (.lst ((z.take i).map f))) rfl (fun _ _ _ _ => trivial) ?_ ?_
  · rintro i x H H' hi rfl ⟨rfl, c, hc, rfl⟩
    have hc' : z[i]? = some c := by
      rw [← hc]; show z[i]? = (z.toArray)[i]?; rw [List.getElem?_toArray]
    refine hs c _ (fun y H4 => ∃ acc, H4 D = some (.lst acc) ∧ acc.length < sizeLine ∧ upd H4 D (.lst (acc ++ [y])) = upd H1 D (.lst ((z.take (i + 1)).map f))) (List.mem_of_getElem? hc') ⟨_, upd_same, ?_, ?_⟩
    · rw [List.length_map, List.length_take]; exact small1000 (by omega)
    · rw [upd_upd, List.take_add_one, hc', List.map_append]; rfl
  · rintro H rfl
    have e : (S z).cps.size = z.length := by show z.toArray.size = _; rw [List.size_toArray]
    rw [e, List.take_length]
    exact hd
theorem starts_S (x y : List Nat) : Txt.startswith (S x) (S y) = decide (x.take y.length = y) := by
  unfold Txt.startswith PySem.Builtin.Str.subAt
  rw [S_len, S_len]
  show (decide (0 + y.length ≤ x.length) && ((x.toArray.extract 0 (0 + (S y).length)) == y.toArray)) = _
  rw [S_len, Nat.zero_add, List.extract_toArray]
  have e : (List.extract x 0 y.length) = x.take y.length := by unfold List.extract; rw [List.drop_zero, Nat.sub_zero]
  rw [e]
  by_cases h : x.take y.length = y
  · have hl : y.length ≤ x.length := by
      have := congrArg List.length h
      rw [List.length_take] at this; omega
    rw [decide_eq_true h, decide_eq_true hl, h, beq_self_eq_true]; rfl
  · rw [decide_eq_false h]
    have : ((x.take y.length).toArray == y.toArray) = false := by
      rw [beq_eq_false_iff_ne]; intro z; exact h (by have := congrArg Array.toList z; exact this)
    rw [this, Bool.and_false]
theorem par_len : ∀ (x acc t l : List Nat), TL.par [45] acc x = some (t, l) → l.length ≤ x.length
  | [], _, _, _, h => by cases h
  | c :: r, acc, t, l, h => by
    have h' : (if TL.pre [45] (c :: r) = true then some (acc, (c :: r).drop 1) else TL.par [45] (acc ++ [c]) r) = some (t, l) := h
    by_cases hp : TL.pre [45] (c :: r) = true
    · rw [if_pos hp] at h'
      cases h'
      show r.length ≤ r.length + 1
      omega
    · rw [if_neg hp] at h'
      have := par_len r _ _ _ h'
      show l.length ≤ r.length + 1
      omega
/-- the letters a to h -/
def abc8 : List Nat := [97, 98, 99, 100, 101, 102, 103, 104]
/-- whether signs are a shuffle's -/
def shufB (x : List Nat) : Bool := match TL.par [45] [] x with
  | none => false
  | some (t, l) => decide (abc8.take t.length = t) && (decide (l.length ≤ 12) && (l.map fun c => decide (c ∈ t)).all id)
def kStr : Value → Option Str
  | .str x _ => some x
  | _ => none
def absAll : List Value → Option (List V)
  | [] => some []
  | u :: r => match absV u, absAll r with
    | some x, some t => some (x :: t)
    | _, _ => none
def kTup (K : Frag) (t : Addr) : Option (List V) := match K.lookup t with
  | some ⟨.type c, _, .seq its _, _⟩ => if c = "tuple" ∧ its.size ≤ 1000 then absAll its.toList else none
  | _ => none
def kEnt (K : Frag) (e : DictEntry) : Option (Str × List V) := match e.val, kStr e.key with
  | .ref t, some k => (kTup K t).map fun xs => (k, xs)
  | _, _ => none
/-- the entries es: keys, each with what its tuple holds -/
def kTab (K : Frag) : List DictEntry → Option (List (Str × List V))
  | [] => some []
  | e :: r => match kEnt K e, kTab K r with
    | some x, some t => some (x :: t)
    | _, _ => none
theorem abs_rel {u : Value} {x : V} (h : absV u = some x) : RelV x u := by
  cases u <;> simp only [absV] at h <;> first | (cases h; done) | (cases h; first | exact rfl | exact ⟨_, rfl⟩) | cases h
theorem abs_all : ∀ {us : List Value} {xs : List V}, absAll us = some xs → Vals xs us
  | [], xs, h => by cases h; exact .nil
  | u :: r, xs, h => by
    unfold absAll at h
    cases e1 : absV u with
    | none => rw [e1] at h; cases h
    | some x =>
      cases e2 : absAll r with
      | none => rw [e1, e2] at h; cases h
      | some t =>
        rw [e1, e2] at h
        cases h
        exact .cons (abs_rel e1) (abs_all e2)
theorem kTup_ok {K : Frag} {t : Addr} {xs : List V} (h : kTup K t = some xs) (H : Hp) : SqT K H t xs := by
  unfold kTup at h
  cases e : K.lookup t with
  | none => rw [e] at h; cases h
  | some o =>
    rw [e] at h
    obtain ⟨oc, od, dt, sl⟩ := o
    cases oc with
    | type c =>
      cases dt with
      | seq its n =>
        have h' : (if c = "tuple" ∧ its.size ≤ 1000 then absAll its.toList else none) = some xs := h
        by_cases hc : c = "tuple" ∧ its.size ≤ 1000
        · rw [if_pos hc] at h'
          obtain ⟨rfl, hz⟩ := hc
          exact .inr ⟨_, its, n, e, rfl, rfl, Nat.le_of_lt (small1000 hz), abs_all h'⟩
        · rw [if_neg hc] at h'; cases h'
      | _ => cases h
    | _ => cases h
/-- what the table tells of a text -/
theorem tab_look {K : Frag} (z : Str) : ∀ {es : List DictEntry} {T : List (Str × List V)}, kTab K es = some T →
    (∀ xs, T.lookup z = some xs → ∃ e t, es.find? (·.key.isStr z) = some e ∧ e.val = .ref t ∧ kTup K t = some xs) ∧ (T.lookup z = none → es.find? (·.key.isStr z) = none) ∧ es.any (·.refKey) = false
  | [], T, h => by cases h; exact ⟨(fun xs q => by cases q), (fun _ => rfl), rfl⟩
  | e :: r, T, h => by
    unfold kTab at h
    cases e1 : kEnt K e with
    | none => rw [e1] at h; cases h
    | some x =>
      cases e2 : kTab K r with
      | none => rw [e1, e2] at h; cases h
      | some t =>
        rw [e1, e2] at h
        cases h
        obtain ⟨ih1, ih2, ih3⟩ := tab_look z e2
        obtain ⟨k, ys⟩ := x
        obtain ⟨a, hv, hk, ht⟩ : ∃ a, e.val = .ref a ∧ kStr e.key = some k ∧ kTup K a = some ys := by
          unfold kEnt at e1
          cases hv : e.val with
          | ref a =>
            cases hk : kStr e.key with
            | none => rw [hv, hk] at e1; cases e1
            | some k' =>
              rw [hv, hk] at e1
              have e1' : (kTup K a).map (fun xs => (k', xs)) = some (k, ys) := e1
              cases ht : kTup K a with
              | none => rw [ht] at e1'; cases e1'
              | some zs => rw [ht] at e1'; cases e1'; exact ⟨a, rfl, rfl, ht⟩
          | _ => rw [hv] at e1; cases e1
        obtain ⟨tk, hkey⟩ : ∃ tk, e.key = .str k tk := by
          unfold kStr at hk
          cases q : e.key with
          | str x' t' => rw [q] at hk; cases hk; exact ⟨_, rfl⟩
          | _ => rw [q] at hk; cases hk
        have hst : e.key.isStr z = (k == z) := by rw [hkey]; rfl
        have hrf : e.refKey = false := by unfold DictEntry.refKey; rw [hkey]
        refine ⟨fun xs q => ?_, fun q => ?_, ?_⟩
        · rw [List.lookup_cons] at q
          by_cases hz : z = k
          · subst hz
            rw [beq_self_eq_true] at q
            cases q
            exact ⟨e, a, by rw [List.find?_cons_of_pos (by rw [hst]; exact beq_self_eq_true z)], hv, ht⟩
          · rw [show (z == k) = false from beq_eq_false_iff_ne.mpr hz] at q
            obtain ⟨e', t', h1, h2, h3⟩ := ih1 xs q
            exact ⟨e', t', by rw [List.find?_cons_of_neg (by rw [hst]; intro y; exact hz (beq_iff_eq.mp y).symm)]; exact h1, h2, h3⟩
        · rw [List.lookup_cons] at q
          by_cases hz : z = k
          · subst hz
            rw [beq_self_eq_true] at q
            cases q
          · rw [show (z == k) = false from beq_eq_false_iff_ne.mpr hz] at q
            rw [List.find?_cons_of_neg (by rw [hst]; intro y; exact hz (beq_iff_eq.mp y).symm)]
            exact ih2 q
        · rw [List.any_cons, hrf, ih3]; rfl
def nn : List V := [V.str "number", V.str "number"]
def table : List (Str × List V) := [((("plus" : Str)), nn), ("minus", nn), ("times", nn), ("less", nn), ("same", nn), ("do", [V.str "row"]), ("dip", [V.str "any", V.str "row"]), ("if", [V.str "number", V.str "row", V.str "row"]), ("while", [V.str "row", V.str "row"]), ("repeat", [V.str "number", V.str "row"]), ("join", [V.str "row", V.str "row"]), ("wrap", [V.str "any"]), ("put", [V.str "list", V.str "any"]), ("part", [V.str "list", V.str "row", V.str "row"]), ("each", [V.str "list", V.str "row"])]
/-- the basic words' table stands at d -/
structure Tab (K : Frag) (w : World) (mg : Str → Option Value) (d : Addr) (es : Array DictEntry) (n : Nat) : Prop where
  kd : KDict K w d es n
  tab : kTab K es.toList = some table
  mg_ : mg "SORTS_TAKEN" = some (.ref d)
theorem Tab.ns {w : World} {K : PySem.W.Frag} {mg : Str → Option Value} {d : Addr} {es : Array DictEntry} {n : Nat} (T : Tab K w mg d es n) (z : Str) : (table.lookup z = none → nsIn K d z = some none) ∧ ∀ xs, table.lookup z = some xs → ∃ t, nsIn K d z = some (some (.ref t)) ∧ kTup K t = some xs := by
  obtain ⟨h1, h2, h3⟩ := tab_look z T.tab
  constructor
  · intro q
    unfold nsIn
    rw [T.kd.at_]
    show (match es.toList.find? (·.key.isStr z) with | some e => some (some e.val) | none => if es.toList.any (·.refKey) then none else some none) = some none
    rw [h2 q]
    show (if es.toList.any (·.refKey) = true then none else some none) = some none
    rw [h3]; rfl
  · intro xs q
    obtain ⟨e, t, e1, e2, e3⟩ := h1 xs q
    refine ⟨t, ?_, e3⟩
    unfold nsIn
    rw [T.kd.at_]
    show (match es.toList.find? (·.key.isStr z) with | some e => some (some e.val) | none => if es.toList.any (·.refKey) then none else some none) = some (some (.ref t))
    rw [e1]
    show some (some e.val) = _
    rw [e2]
theorem lookup_mem {z : Str} {xs : List V} : ∀ {T : List (Str × List V)}, T.lookup z = some xs → (z, xs) ∈ T
  | (k, ys) :: r, h => by
    rw [List.lookup_cons] at h
    by_cases hz : z = k
    · subst hz; rw [beq_self_eq_true] at h; cases h; exact List.mem_cons_self ..
    · rw [show (z == k) = false from beq_eq_false_iff_ne.mpr hz] at h
      exact List.mem_cons_of_mem _ (lookup_mem h)
end Cm
namespace Cm
open PySem PySem.W L2 SX
/-- a comprehension over a text's signs with a test -/
theorem lc_txtIf {z : List Nat} (p : Nat → Bool) (f : Nat → V) {g : TG} {tt : TT} {te : TE} {vs : List Nat} {σ : St} {H1 : Hp} {D : Addr} {Qd : Hp → Prop} (hl : z.length ≤ 1000)
    (hs : ∀ c H (R : V → Hp → Prop) (R0 : Hp → Prop), c ∈ z → (p c = true → R (f c) H) → (p c = false → R0 H) → g (.str ⟨#[c]⟩) (wipe σ vs) H fun σ2 H2 => wipe σ2 vs = wipe σ vs ∧ tt σ2 H2 fun b H3 => if b = true then te σ2 H3 R else R0 H3) (hd : Qd (upd H1 D (.lst ((z.filter p).map f)))) :
    ∃ W : Nat → Nat → Hp → Prop, (∃ m, W 0 m (upd H1 D (.lst []))) ∧ ∀ i m H, W i m H →
      ((Its (S z)).stop i H ∧ Qd H) ∨ ((Its (S z)).go i H ∧ ∃ Nx : Hp → Prop, (∀ H', Nx H' → ∃ m', m' < m ∧ W (i + 1) m' H') ∧ ∀ x H', (Its (S z)).yld i H x H' → g x (wipe σ vs) H' fun σ2 H2 => wipe σ2 vs = wipe σ vs ∧ tt σ2 H2 fun b H3 =>
        if b = true then te σ2 H3 fun y H4 => ∃ acc, H4 D = some (.lst acc) ∧ acc.length < sizeLine ∧ Nx (upd H4 D (.lst (acc ++ [y]))) else Nx H3) := by
  refine lc_it (walk_str (z := S z)) (fun i H => H = upd H1 D (.lst (((z.take i).filter p).map f))) rfl (fun _ _ _ _ => trivial) ?_ ?_
  · rintro i x H H' hi rfl ⟨rfl, c, hc, rfl⟩
    have hc' : z[i]? = some c := by
      rw [← hc]; show z[i]? = (z.toArray)[i]?; rw [List.getElem?_toArray]
    refine hs c _ (fun y H4 => ∃ acc, H4 D = some (.lst acc) ∧ acc.length < sizeLine ∧ upd H4 D (.lst (acc ++ [y])) = upd H1 D (.lst (((z.take (i + 1)).filter p).map f))) (fun H4 => H4 = upd H1 D (.lst (((z.take (i + 1)).filter p).map f))) (List.mem_of_getElem? hc') (fun hp => ⟨_, upd_same, ?_, ?_⟩) (fun hp => ?_)
    · have h1 := List.length_filter_le p (z.take i)
      rw [List.length_take] at h1
      rw [List.length_map]; exact small1000 (by omega)
    · rw [upd_upd, List.take_add_one, hc', List.filter_append, List.map_append]
      show _ = upd H1 D (HO.lst (List.map f (List.filter p (List.take i z)) ++ List.map f (List.filter p [c])))
      rw [List.filter_cons_of_pos hp]; rfl
    · show _ = _
      rw [List.take_add_one, hc', List.filter_append]
      show _ = upd H1 D (HO.lst (List.map f (List.filter p (List.take i z) ++ List.filter p [c])))
      rw [List.filter_cons_of_neg (by rw [hp]; decide), List.filter_nil, List.append_nil]
  · rintro H rfl
    have e : (S z).cps.size = z.length := by show z.toArray.size = _; rw [List.size_toArray]
    rw [e, List.take_length]
    exact hd
/-- a text, or something else that the law hands in -/
def Vl (H : Hp) (v : V) : Option (List Nat) → Prop
  | some x => v = .str (S x) ∧ x.length ≤ 1000
  | none => (v = .non ∨ (∃ b, v = .bl b) ∨ (∃ i, v = .int i) ∨ (∃ a xs, v = .ref a ∧ H a = some (.lst xs)) ∨ (∃ a kvs, v = .ref a ∧ H a = some (.dK kvs))) ∨ (∃ a xs, v = .ref a ∧ H a = some (.tup xs) ∧ (xs = [] ∨ ∃ z, xs = [.str z]))
theorem Vl.same {H H' : Hp} {v : V} {o : Option (List Nat)} (h : Vl H v o) (s : Same H H') : Vl H' v o := by
  cases o with
  | some x => exact h
  | none =>
    rcases h with (h | h | h | ⟨a, xs, e, h⟩ | ⟨a, xs, e, h⟩) | ⟨a, xs, e, h, g⟩
    · exact .inl (.inl h)
    · exact .inl (.inr (.inl h))
    · exact .inl (.inr (.inr (.inl h)))
    · exact .inl (.inr (.inr (.inr (.inl ⟨a, xs, e, s _ _ h⟩))))
    · exact .inl (.inr (.inr (.inr (.inr ⟨a, xs, e, s _ _ h⟩))))
    · exact .inr ⟨a, xs, e, s _ _ h, g⟩
theorem Vl.isStr {K : Frag} {H : Hp} {v : V} {o : Option (List Nat)} (h : Vl H v o) : ∃ t, TyX K H v t ∧ kitOne K t (.type "str") = some o.isSome := by
  cases o with
  | some x => exact ⟨_, by rw [h.1]; exact .base (.str _), kit_ty (r := true) (by decide +kernel)⟩
  | none =>
    rcases h with (h | ⟨b, h⟩ | ⟨i, h⟩ | ⟨a, xs, e, h⟩ | ⟨a, xs, e, h⟩) | ⟨a, xs, e, h, g⟩
    · exact ⟨_, by rw [h]; exact .base .non, kit_ty (r := false) (by decide +kernel)⟩
    · exact ⟨_, by rw [h]; exact .base (.bl _), kit_ty (r := false) (by decide +kernel)⟩
    · exact ⟨_, by rw [h]; exact .base (.int _), kit_ty (r := false) (by decide +kernel)⟩
    · exact ⟨_, by rw [e]; exact .base (.lst h), kit_ty (r := false) (by decide +kernel)⟩
    · exact ⟨_, by rw [e]; exact .base (.dK h), kit_ty (r := false) (by decide +kernel)⟩
    · exact ⟨_, by rw [e]; exact .base (.tup h), kit_ty (r := false) (by decide +kernel)⟩
/-- no tuple, or one without, or with one part -/
theorem Vl.isTup {K : Frag} {H : Hp} {v : V} (h : Vl H v none) : (∃ t, TyX K H v t ∧ kitOne K t (.type "tuple") = some false) ∨ (∃ a xs t, v = .ref a ∧ H a = some (.tup xs) ∧ (xs = [] ∨ ∃ z, xs = [.str z]) ∧ TyX K H v t ∧ kitOne K t (.type "tuple") = some true) := by
  rcases h with (h | ⟨b, h⟩ | ⟨i, h⟩ | ⟨a, xs, e, h⟩ | ⟨a, xs, e, h⟩) | ⟨a, xs, e, h, g⟩
  · exact .inl ⟨_, by rw [h]; exact .base .non, kit_ty (r := false) (by decide +kernel)⟩
  · exact .inl ⟨_, by rw [h]; exact .base (.bl _), kit_ty (r := false) (by decide +kernel)⟩
  · exact .inl ⟨_, by rw [h]; exact .base (.int _), kit_ty (r := false) (by decide +kernel)⟩
  · exact .inl ⟨_, by rw [e]; exact .base (.lst h), kit_ty (r := false) (by decide +kernel)⟩
  · exact .inl ⟨_, by rw [e]; exact .base (.dK h), kit_ty (r := false) (by decide +kernel)⟩
  · exact .inr ⟨a, xs, _, e, h, g, by rw [e]; exact .base (.tup h), kit_ty (r := true) (by decide +kernel)⟩
/-- the small letters -/
def az : List Nat := [97, 98, 99, 100, 101, 102, 103, 104, 105, 106, 107, 108, 109, 110, 111, 112, 113, 114, 115, 116, 117, 118, 119, 120, 121, 122]
/-- whether signs are a told word's name -/
def nameB (x : List Nat) : Bool := (decide (1 ≤ x.length) && decide (x.length ≤ 8)) && ((x.map fun c => decide (c ∈ az)).all id && !(table.lookup (S x)).isSome)
/-- whether signs are a word -/
def wordB (x : List Nat) : Bool := (table.lookup (S x)).isSome || (shufB x || nameB x)
def onT (f : List Nat → Bool) : Option (List Nat) → Bool
  | some x => f x
  | none => false
theorem par_spec : ∀ (x acc t l : List Nat), TL.par [45] acc x = some (t, l) → ∃ p, t = acc ++ p ∧ x = p ++ 45 :: l ∧ 45 ∉ p
  | [], _, _, _, h => by cases h
  | c :: r, acc, t, l, h => by
    have h' : (if TL.pre [45] (c :: r) = true then some (acc, (c :: r).drop 1) else TL.par [45] (acc ++ [c]) r) = some (t, l) := h
    by_cases hp : TL.pre [45] (c :: r) = true
    · rw [if_pos hp] at h'
      cases h'
      have hc : c = 45 := by
        have := eq_of_beq hp
        exact List.head_eq_of_cons_eq this
      exact ⟨[], by simp, by rw [hc]; rfl, by simp⟩
    · rw [if_neg hp] at h'
      obtain ⟨p, e1, e2, e3⟩ := par_spec r _ _ _ h'
      refine ⟨c :: p, by rw [e1]; simp, by rw [e2]; rfl, ?_⟩
      intro z
      rcases List.mem_cons.mp z with z | z
      · exact hp (by rw [← z]; rfl)
      · exact e3 z
theorem par_no : ∀ (x acc : List Nat), TL.par [45] acc x = none → 45 ∉ x
  | [], _, _ => by simp
  | c :: r, acc, h => by
    have h' : (if TL.pre [45] (c :: r) = true then some (acc, (c :: r).drop 1) else TL.par [45] (acc ++ [c]) r) = none := h
    by_cases hp : TL.pre [45] (c :: r) = true
    · rw [if_pos hp] at h'; cases h'
    · rw [if_neg hp] at h'
      intro z
      rcases List.mem_cons.mp z with z | z
      · exact hp (by rw [← z]; rfl)
      · exact par_no r _ h' z
theorem cnt_len (x : List Nat) : PyProof.Rows.cnt 45 x = (x.count 45 : Nat) := by
  induction x with
  | nil => rfl
  | cons n r ih =>
    rw [PyProof.Rows.cnt_cons, ih, List.count_cons]
    by_cases h : n = 45
    · rw [if_pos h, h]; simp; omega
    · rw [if_neg h]; simp [h]
/-- the first stroke -/
theorem index_dash {x p q : List Nat} (hx : x = p ++ 45 :: q) (hp : 45 ∉ p) (hq : 45 ∉ q) : Txt.index0 (S x) (S [45]) = some p.length := by
  obtain ⟨f, hc⟩ := PySem.StrLaws.occ_chain (S x) (S [45]) 1
  have hm : (!(Builtin.Str.occurrences (S x) (S [45]) 0 (S x).length 1).isEmpty) = decide (45 ∈ x) := in_one x 45
  have hx' : (45 : Nat) ∈ x := by rw [hx]; exact List.mem_append.mpr (.inr (List.mem_cons_self ..))
  rw [decide_eq_true hx'] at hm
  unfold Txt.index0
  cases ho : Builtin.Str.occurrences (S x) (S [45]) 0 (S x).length 1 with
  | nil => rw [ho] at hm; cases hm
  | cons i r =>
    rw [ho] at hc
    have h2 := (TL.at_iff (x := S x) (y := S [45]) (List.cons_ne_nil _ _) i).mp hc.2.1
    have h3 : (x.drop i).take 1 = [45] := eq_of_beq h2
    show some i = some p.length
    congr 1
    have h4 : x[i]? = some 45 := by
      have := congrArg (fun l => l[0]?) h3
      simp only [List.getElem?_take, List.getElem?_drop] at this
      simpa using this
    rw [hx] at h4
    by_cases h5 : i < p.length
    · rw [List.getElem?_append_left h5] at h4
      exact absurd (List.mem_of_getElem? h4) hp
    · rw [List.getElem?_append_right (by omega)] at h4
      by_cases h6 : i - p.length = 0
      · omega
      · obtain ⟨j, hj⟩ : ∃ j, i - p.length = j + 1 := ⟨i - p.length - 1, by omega⟩
        rw [hj, List.getElem?_cons_succ] at h4
        exact absurd (List.mem_of_getElem? h4) hq
end Cm
namespace Cm
open PySem PySem.W L2 SX
/-- a text of at most n signs that a text may have -/
structure Tx (z : Str) (n : Nat) : Prop where
  len : z.length ≤ n
  ch : ∀ c ∈ z.cps.toList, c < 1114112
theorem Tx.add {a b : Str} {m n : Nat} (h : Tx a m) (g : Tx b n) : Tx (a ++ b) (m + n) := by
  refine ⟨?_, fun c hc => ?_⟩
  · have e : (a ++ b).length = a.length + b.length := by
      rw [TL.len_tl, TL.tl_append, List.length_append, ← TL.len_tl, ← TL.len_tl]
    have := h.len; have := g.len; omega
  · have e : c ∈ TL.tl a ++ TL.tl b := by rw [← TL.tl_append]; exact hc
    rcases List.mem_append.mp e with e | e
    · exact h.ch c e
    · exact g.ch c e
theorem Tx.mono {a : Str} {m n : Nat} (h : Tx a m) (l : m ≤ n) : Tx a n := ⟨Nat.le_trans h.len l, h.ch⟩
theorem Tx.cut {z : Str} {n : Nat} (h : Tx z n) (lo hi : Option Int) : Tx (cutS z lo hi) n := by
  refine ⟨Nat.le_trans (cutS_length z lo hi) h.len, fun c hc => h.ch c ?_⟩
  have e : c ∈ (z.cps.toList.drop (HT.sIx z.length 0 lo)).take (HT.sIx z.length z.length hi - HT.sIx z.length 0 lo) := hc
  exact List.mem_of_mem_drop (List.mem_of_mem_take e)
theorem Tx.at_ {z : Str} {n : Nat} (h : Tx z n) {i : Int} {c : Nat} (e : atI z.cps.toList i = some c) : Tx ⟨#[c]⟩ 1 := by
  refine ⟨Nat.le_refl 1, fun d hd => ?_⟩
  have hd' : d ∈ [c] := hd
  rw [List.mem_singleton.mp hd']
  refine h.ch c ?_
  unfold atI at e
  cases q : ixN z.cps.toList.length i with
  | none => rw [q] at e; cases e
  | some j => rw [q] at e; exact List.mem_of_getElem? e
theorem Tx.sz {z : Str} {n : Nat} (h : Tx z n) (l : n ≤ 1000 := by decide) : z.length ≤ sizeLine := Nat.le_of_lt (small1000 (Nat.le_trans h.len l))
theorem Tx.sz2 {y z : Str} {m n : Nat} (h : Tx y m) (g : Tx z n) (l : m + n ≤ 1000 := by decide) : y.length + z.length ≤ sizeLine := by
  have := h.len; have := g.len
  exact Nat.le_of_lt (small1000 (by omega))
/-- a written text -/
def litB (z : Str) (n : Nat) : Bool := decide (z.length ≤ n) && z.cps.toList.all fun c => decide (c < 1114112)
theorem Tx.lit {z : Str} {n : Nat} (h : litB z n = true) : Tx z n := by
  unfold litB at h
  rw [Bool.and_eq_true] at h
  exact ⟨of_decide_eq_true h.1, fun c hc => of_decide_eq_true (List.all_eq_true.mp h.2 c hc)⟩
theorem joinL_nil : ∀ l : List (List Nat), TL.joinL [] l = l.flatten
  | [] => rfl
  | [x] => by show x = [x].flatten; simp
  | x :: y :: r => by
    have ih := joinL_nil (y :: r)
    show x ++ ([] ++ TL.joinL [] (y :: r)) = (x :: y :: r).flatten
    rw [ih]; simp
theorem Tx.join {ys : List Str} (h : ∀ y ∈ ys, Tx y 1) : Tx (Txt.join ("" : Str) ys) ys.length := by
  have e0 : ("" : Str) = S [] := by decide +kernel
  have e1 : ys = (ys.map TL.tl).map S := by
    rw [List.map_map]
    conv => lhs; rw [← List.map_id ys]
    exact List.map_congr_left fun y _ => (S_tl y).symm
  have e2 : Txt.join ("" : Str) ys = S ((ys.map TL.tl).flatten) := by
    rw [e0]; conv => lhs; rw [e1]
    rw [join_S, joinL_nil]
  rw [e2]
  refine ⟨?_, fun c hc => ?_⟩
  · rw [S_len, List.length_flatten]
    have : ∀ l : List Str, (∀ y ∈ l, Tx y 1) → ((l.map TL.tl).map List.length).sum ≤ l.length := by
      intro l
      induction l with
      | nil => intro _; exact Nat.le_refl 0
      | cons y r ih =>
        intro hh
        have h1 := (hh y (List.mem_cons_self ..)).len
        rw [TL.len_tl] at h1
        have h2 := ih fun z hz => hh z (List.mem_cons_of_mem _ hz)
        rw [List.map_cons, List.map_cons, List.sum_cons, List.length_cons]
        omega
    exact this ys h
  · have hc' : c ∈ (ys.map TL.tl).flatten := hc
    obtain ⟨l, hl, hcl⟩ := List.mem_flatten.mp hc'
    obtain ⟨y, hy, rfl⟩ := List.mem_map.mp hl
    exact (h y hy).ch c hcl
theorem sum_one {ys : List Str} (h : ∀ y ∈ ys, Tx y 1) (l : ys.length ≤ 1000) : (ys.map (·.length)).sum + ys.length * ("" : Str).length ≤ 16777216 := by
  have e0 : ("" : Str).length = 0 := by decide +kernel
  rw [e0, Nat.mul_zero, Nat.add_zero]
  have : ∀ l : List Str, (∀ y ∈ l, Tx y 1) → (l.map (·.length)).sum ≤ l.length := by
    intro l
    induction l with
    | nil => intro _; exact Nat.le_refl 0
    | cons y r ih =>
      intro hh
      have h1 := (hh y (List.mem_cons_self ..)).len
      have h2 := ih fun z hz => hh z (List.mem_cons_of_mem _ hz)
      rw [List.map_cons, List.sum_cons, List.length_cons]
      omega
  have := this ys h
  omega
end Cm
namespace Cm
open PySem PySem.Spec PyProof.Rows L2
theorem ext_tup (l : Addr) (its : Array Value) (n : Nat) (b : Addr) (js : Array Value) (m : Nat) (dd : Option Addr) (sl : Array (Option Value)) (h0 : ¬(!its.isEmpty && Builtin.List.listTooLong (its.size + js.size)) = true) (h1 : its.size ≤ sizeLine) (h2 : its.size + js.size ≤ sizeLine + 1) :
    Meets (Builtin.«list.extend» ⟨[.ref l, .ref b], []⟩) (fun _ R s => s.heap.get? l = some { cls := .type "list", dict := none, data := .seq its n, slots := #[] } ∧ s.heap.get? b = some { cls := .type "tuple", dict := dd, data := .seq js m, slots := sl } ∧ R (.ok (.ret Value.none)) { s with heap := s.heap.update l (Obj.mapSeq fun x => x ++ js), toks := s.toks }) :=
  .of_wp fun prog w A R s h => by
    obtain ⟨hp, g, d, tk, os⟩ := s
    obtain ⟨hl, hb, h⟩ := h
    have f2 := sub_tuple_tuple; have f3 := sub_list_list; have f4 := sub_tuple_list; have f5 := sub_list_tuple; have f1 := AutoSeq1.idx_int
    have hz : (its ++ js).size ≤ sizeLine + 1 := by rw [Array.size_append]; exact h2
    wp_walk using (wpAny_updateSeq hl rfl (hz := h1) (_hz' := hz)), wpAny_loadPart' hl, wpAny_loadPart' hb
    exact ⟨_, rfl, h⟩
def rExtT (K : PySem.W.Frag) : V → List V → Hp → VK → Prop := fun x vs H Q => ∃ l b xs zs, x = .ref l ∧ vs = [.ref b] ∧ H l = some (.lst xs) ∧ SqT K H b zs ∧ xs.length + zs.length ≤ sizeLine ∧ Q .non (upd H l (.lst (xs ++ zs)))
/-- xs.extend(t), t a tuple -/
theorem mt_extT {X : Cx} : MtM X "list.extend" (rExtT X.K) := by
  intro pins s σ H x vs v us Q I rx rv h
  obtain ⟨l, b, xs, zs, rfl, rfl, hH, hB, hz, q⟩ := h
  cases rx
  obtain ⟨u, rfl, ru⟩ := rv.one
  cases ru
  obtain ⟨z, its, n, r, hl, e⟩ := I.lstM hH
  obtain ⟨js, r2, ⟨ob, e2, c2, m, d2⟩, z2⟩ := I.tuple hB
  obtain ⟨oc, od, dt, sl⟩ := ob
  cases (show oc = .type "tuple" from c2)
  cases (show dt = .seq js.toArray m from d2)
  have l2 := r2.length
  have hsz : its.toArray.size + js.toArray.size ≤ sizeLine := by rw [List.size_toArray, List.size_toArray]; omega
  have hlong : ¬ (!its.toArray.isEmpty && Builtin.List.listTooLong (its.toArray.size + js.toArray.size)) = true := by
    rw [notLongL hsz, Bool.and_false]; exact Bool.false_ne_true
  refine call_meets F.slot_list_extend ⟨_, e, rfl⟩ F.entry_list_extend (F.args_list_extend_2 _ _)
    (ext_tup l its.toArray n b js.toArray m od sl hlong (by rw [List.size_toArray]; omega) (by omega)) ⟨e, e2, ?_⟩
  refine ⟨.non, _, I.lset (its' := its ++ js) hH e (by simp) (r.append r2) ?_, rfl, q⟩
  rw [List.length_append]; omega
end Cm
namespace Cm
open PySem PySem.W L2 SX
/-! ### data of tuples, texts and numbers as it lies in the heap -/
mutual
inductive Tr (K : Frag) (H : Hp) : V → PyData → Prop
  | int (i : Int) : Tr K H (.int i) (.int i)
  | str (x : Str) : Tr K H (.str x) (.str x)
  | tup {a : Addr} {xs : List V} {ds : List PyData} : SqT K H a xs → TrAll K H xs ds → Tr K H (.ref a) (.tuple ds)
inductive TrAll (K : Frag) (H : Hp) : List V → List PyData → Prop
  | nil : TrAll K H [] []
  | cons {v : V} {vs : List V} {d : PyData} {ds : List PyData} : Tr K H v d → TrAll K H vs ds → TrAll K H (v :: vs) (d :: ds)
end
/-- tuples are kept -/
def TKs (K : Frag) (H H' : Hp) : Prop := ∀ a xs, SqT K H a xs → SqT K H' a xs
theorem TKs.refl {K : Frag} (H : Hp) : TKs K H H := fun _ _ h => h
theorem TKs.trans {K : Frag} {H H1 H2 : Hp} (a : TKs K H H1) (b : TKs K H1 H2) : TKs K H H2 := fun c x h => b c x (a c x h)
theorem TKs.of {K : Frag} {H H' : Hp} (s : Same H H') : TKs K H H' := fun a xs h => by
  rcases h with (h | ⟨o, h⟩) | h
  · exact .inl (.inl (s _ _ h))
  · exact .inl (.inr ⟨o, s _ _ h⟩)
  · exact .inr h
theorem TKs.kp {K : Frag} {L : List Addr} {H H' : Hp} (k : Kp L H H') (hl : ∀ b ∈ L, ∃ xs, H b = some (.lst xs)) : TKs K H H' := fun a xs h => by
  have nm : ∀ o, H a = some o → (∀ ys, o ≠ .lst ys) → a ∉ L := fun o e n z => by
    obtain ⟨ys, ey⟩ := hl a z
    rw [ey] at e
    exact n ys (Option.some.inj e).symm
  rcases h with (h | ⟨o, h⟩) | h
  · exact .inl (.inl (k _ _ (nm _ h (fun _ z => by cases z)) h))
  · exact .inl (.inr ⟨o, k _ _ (nm _ h (fun _ z => by cases z)) h⟩)
  · exact .inr h
theorem TKs.lst {K : Frag} {H : Hp} {d : Addr} {xs ys : List V} (h : H d = some (.lst xs)) : TKs K H (upd H d (.lst ys)) :=
  TKs.kp (L := [d]) (fun b o m e => by rw [upd_ne (fun z => m (List.mem_singleton.mpr z))]; exact e) (fun b hb => by rw [List.mem_singleton.mp hb]; exact ⟨xs, h⟩)
mutual
theorem Tr.mono {K : Frag} {H H' : Hp} (k : TKs K H H') : ∀ {v : V} {d : PyData}, Tr K H v d → Tr K H' v d
  | _, _, .int i => .int i
  | _, _, .str x => .str x
  | _, _, .tup h t => .tup (k _ _ h) (TrAll.mono k t)
theorem TrAll.mono {K : Frag} {H H' : Hp} (k : TKs K H H') : ∀ {v : List V} {d : List PyData}, TrAll K H v d → TrAll K H' v d
  | _, _, .nil => .nil
  | _, _, .cons h t => .cons (Tr.mono k h) (TrAll.mono k t)
end
mutual
theorem Tr.dp {K : Frag} {H : Hp} : ∀ {v : V} {d : PyData}, Tr K H v d → Dp K H v d
  | _, _, .int i => .int i
  | _, _, .str x => .str x
  | _, _, .tup h t => .tup h (TrAll.dp t)
theorem TrAll.dp {K : Frag} {H : Hp} : ∀ {v : List V} {d : List PyData}, TrAll K H v d → DpAll K H v d
  | _, _, .nil => .nil
  | _, _, .cons h t => .cons (Tr.dp h) (TrAll.dp t)
end
theorem TrAll.len {K : Frag} {H : Hp} : ∀ {v : List V} {d : List PyData}, TrAll K H v d → v.length = d.length
  | _, _, .nil => rfl
  | _, _, .cons _ t => congrArg (· + 1) (TrAll.len t)
theorem TrAll.append {K : Frag} {H : Hp} : ∀ {v v' : List V} {d d' : List PyData}, TrAll K H v d → TrAll K H v' d' → TrAll K H (v ++ v') (d ++ d')
  | _, _, _, _, .nil, h => h
  | _, _, _, _, .cons h t, h' => .cons h (TrAll.append t h')
theorem TrAll.get {K : Frag} {H : Hp} : ∀ {v : List V} {d : List PyData} {i : Nat} {x : V}, TrAll K H v d → v[i]? = some x → ∃ y, d[i]? = some y ∧ Tr K H x y
  | _, _, i, x, .nil, h => by simp at h
  | _, _, 0, x, .cons h t, e => ⟨_, rfl, by cases e; exact h⟩
  | _, _, i + 1, x, .cons h t, e => by
    rw [List.getElem?_cons_succ] at e ⊢
    exact TrAll.get t e
theorem TrAll.snoc {K : Frag} {H : Hp} {v : List V} {d : List PyData} {x : V} (h : TrAll K H (v ++ [x]) d) : ∃ d' y, d = d' ++ [y] ∧ TrAll K H v d' ∧ Tr K H x y := by
  induction v generalizing d with
  | nil =>
    cases h with
    | cons a b => cases b; exact ⟨[], _, rfl, .nil, a⟩
  | cons u r ih =>
    cases h with
    | cons a b =>
      obtain ⟨d', y, rfl, h1, h2⟩ := ih b
      exact ⟨_ :: d', y, rfl, .cons a h1, h2⟩
/-! ### things, rows, stacks: depth, words in all, size -/
mutual
inductive Thg : Nat → Nat → Nat → PyData → Prop
  | num {k : Nat} (n : Int) (h0 : 0 ≤ n) (h1 : n < 10 ^ 12) : Thg k 0 1 (.tuple [.str "number", .int n])
  | row {k k' w m : Nat} {ws : List PyData} : Rw k w m ws → k < k' → Thg k' w (m + 1) (.tuple [.str "row", .tuple ws])
  | lst {k k' w m : Nat} {ts : List PyData} : Stk k w m ts → k < k' → Thg k' w (m + 1) (.tuple [.str "list", .tuple ts])
inductive Rw : Nat → Nat → Nat → List PyData → Prop
  | nil {k : Nat} : Rw k 0 0 []
  | txt {k w m : Nat} {z : Str} {ws : List PyData} : Tx z 100 → Rw k w m ws → Rw k (w + 1) (m + 1) (.str z :: ws)
  | push {k w m w' m' : Nat} {t : PyData} {ws : List PyData} : Thg k w m t → Rw k w' m' ws → Rw k (w + w' + 1) (m + m' + 1) (.tuple [.str "push", t] :: ws)
inductive Stk : Nat → Nat → Nat → List PyData → Prop
  | nil {k : Nat} : Stk k 0 0 []
  | cons {k w m w' m' : Nat} {t : PyData} {ts : List PyData} : Thg k w m t → Stk k w' m' ts → Stk k (w + w') (m + m') (t :: ts)
end
theorem Thg.up {k k' w m : Nat} {t : PyData} (h : Thg k w m t) (l : k ≤ k') : Thg k' w m t := by
  cases h with
  | num n h0 h1 => exact .num n h0 h1
  | row h q => exact .row h (Nat.lt_of_lt_of_le q l)
  | lst h q => exact .lst h (Nat.lt_of_lt_of_le q l)
theorem Rw.up {k k' : Nat} (l : k ≤ k') : ∀ {ws : List PyData} {w m : Nat}, Rw k w m ws → Rw k' w m ws
  | _, _, _, .nil => .nil
  | _, _, _, .txt h t => .txt h (Rw.up l t)
  | _, _, _, .push h t => .push (h.up l) (Rw.up l t)
theorem Stk.up {k k' : Nat} (l : k ≤ k') : ∀ {ws : List PyData} {w m : Nat}, Stk k w m ws → Stk k' w m ws
  | _, _, _, .nil => .nil
  | _, _, _, .cons h t => .cons (h.up l) (Stk.up l t)
theorem Rw.append {k : Nat} : ∀ {a b : List PyData} {w m w' m' : Nat}, Rw k w m a → Rw k w' m' b → Rw k (w + w') (m + m') (a ++ b)
  | _, _, _, _, _, _, .nil, h => by rw [Nat.zero_add, Nat.zero_add]; exact h
  | _, _, _, _, w', m', .txt (w := w) (m := m) h t, h' => by
    have := Rw.txt h (Rw.append t h')
    rw [show w + 1 + w' = w + w' + 1 by omega, show m + 1 + m' = m + m' + 1 by omega]
    exact this
  | _, _, _, _, w', m', .push (w := w) (m := m) (w' := x) (m' := y) h t, h' => by
    have := Rw.push h (Rw.append t h')
    rw [show w + x + 1 + w' = w + (x + w') + 1 by omega, show m + y + 1 + m' = m + (y + m') + 1 by omega]
    exact this
theorem Stk.append {k : Nat} : ∀ {a b : List PyData} {w m w' m' : Nat}, Stk k w m a → Stk k w' m' b → Stk k (w + w') (m + m') (a ++ b)
  | _, _, _, _, _, _, .nil, h => by rw [Nat.zero_add, Nat.zero_add]; exact h
  | _, _, _, _, _, _, .cons h t, h' => by
    rw [Nat.add_assoc, Nat.add_assoc]; exact .cons h (Stk.append t h')
theorem Stk.snoc {k : Nat} : ∀ {a : List PyData} {t : PyData} {w m : Nat}, Stk k w m (a ++ [t]) → ∃ w1 m1 w2 m2, Stk k w1 m1 a ∧ Thg k w2 m2 t ∧ w = w1 + w2 ∧ m = m1 + m2
  | [], t, w, m, h => by
    have h' : Stk k w m [t] := h
    cases h' with
    | cons a b => cases b; exact ⟨0, 0, _, _, .nil, a, by omega, by omega⟩
  | x :: r, t, w, m, h => by
    have h' : Stk k w m (x :: (r ++ [t])) := h
    cases h' with
    | cons a q =>
      obtain ⟨w1, m1, w2, m2, a', b, rfl, rfl⟩ := Stk.snoc q
      exact ⟨_, _, w2, m2, .cons a a', b, by omega, by omega⟩
theorem Thg.pos {k w m : Nat} {t : PyData} (h : Thg k w m t) : 1 ≤ m := by
  cases h <;> omega
theorem Stk.len {k : Nat} : ∀ {a : List PyData} {w m : Nat}, Stk k w m a → a.length ≤ m
  | _, _, _, .nil => Nat.le_refl 0
  | _, _, _, .cons h t => by
    have h1 := Stk.len t
    have h2 := h.pos
    rw [List.length_cons]; omega
theorem Rw.len {k : Nat} : ∀ {a : List PyData} {w m : Nat}, Rw k w m a → a.length ≤ m
  | _, _, _, .nil => Nat.le_refl 0
  | _, _, _, .txt h t => by have := Rw.len t; rw [List.length_cons]; omega
  | _, _, _, .push h t => by have := Rw.len t; rw [List.length_cons]; omega
/-- what a word pushes -/
def psh : PyData → Option PyData
  | .tuple [_, t] => some t
  | _ => none
theorem Rw.psh {k : Nat} : ∀ {ws : List PyData} {w m : Nat}, Rw k w m ws → ∃ w' m', Stk k w' m' (ws.filterMap psh) ∧ w = ws.length + w' ∧ m' ≤ m
  | _, _, _, .nil => ⟨0, 0, .nil, rfl, Nat.le_refl 0⟩
  | _, _, _, .txt h t => by
    obtain ⟨w', m', a, b, c⟩ := Rw.psh t
    exact ⟨w', m', a, by rw [List.length_cons]; omega, by omega⟩
  | _, _, _, .push h t => by
    obtain ⟨w', m', a, b, c⟩ := Rw.psh t
    exact ⟨_, _, .cons h a, by rw [List.length_cons]; omega, by omega⟩
theorem Rw.at_ {k : Nat} : ∀ {ws : List PyData} {w m i : Nat} {d : PyData}, Rw k w m ws → ws[i]? = some d → (∃ z, d = .str z) ∨ (∃ t, d = .tuple [.str "push", t])
  | _, _, _, i, d, .nil, h => by simp at h
  | _, _, _, 0, d, .txt (z := z) h t, e => .inl ⟨z, by cases e; rfl⟩
  | _, _, _, 0, d, .push (t := t) h _, e => .inr ⟨t, by cases e; rfl⟩
  | _, _, _, i + 1, d, .txt h t, e => Rw.at_ t e
  | _, _, _, i + 1, d, .push h t, e => Rw.at_ t e
theorem mid {n : Nat} (h : n ≤ 1000000) : n ≤ sizeLine := Nat.le_trans h (by decide)
theorem midlt {n : Nat} (h : n < 1000000) : n < sizeLine := Nat.lt_of_lt_of_le h (by decide)
theorem tyTup {K : Frag} {H : Hp} {a : Addr} {xs : List V} (h : SqT K H a xs) : TyX K H (.ref a) (.type "tuple") := by
  rcases h with (h | ⟨o, h⟩) | ⟨o, _, _, e, c, _⟩
  · exact .base (.tup h)
  · exact .fTuple h
  · exact .kTuple e c
mutual
theorem Thg.lay : ∀ {k w m : Nat} {t : PyData}, Thg k w m t → PyData.canLay0 t = true ∧ PyData.depth t ≤ 3 * k + 1
  | k, _, _, _, .num n h0 h1 => ⟨by show (PyData.canLay0 (.str "number") && (true && true)) = true; decide +kernel, Nat.le_add_left 1 _⟩
  | k', _, _, _, .row (k := k) (ws := ws) h l => by
    obtain ⟨a, b⟩ := Rw.lay h
    refine ⟨?_, ?_⟩
    · show (PyData.canLay0 (.str "row") && (PyData.canLayAll0 ws && true)) = true
      rw [a]; decide +kernel
    · show max 0 (max (PyData.depthAll ws + 1) 0) + 1 ≤ _
      omega
  | k', _, _, _, .lst (k := k) (ts := ts) h l => by
    obtain ⟨a, b⟩ := Stk.lay h
    refine ⟨?_, ?_⟩
    · show (PyData.canLay0 (.str "list") && (PyData.canLayAll0 ts && true)) = true
      rw [a]; decide +kernel
    · show max 0 (max (PyData.depthAll ts + 1) 0) + 1 ≤ _
      omega
theorem Rw.lay : ∀ {k w m : Nat} {ws : List PyData}, Rw k w m ws → PyData.canLayAll0 ws = true ∧ PyData.depthAll ws ≤ 3 * k + 2
  | k, _, _, _, .nil => ⟨rfl, Nat.zero_le _⟩
  | k, _, _, _, .txt (z := z) (ws := ws) h t => by
    obtain ⟨a, b⟩ := Rw.lay t
    refine ⟨?_, ?_⟩
    · show (z.cps.all (· < 0x110000) && PyData.canLayAll0 ws) = true
      rw [a, Bool.and_true, ← Array.all_toList, List.all_eq_true]
      intro c hc
      exact decide_eq_true (h.ch c hc)
    · show max 0 (PyData.depthAll ws) ≤ _
      omega
  | k, _, _, _, .push (t := t) (ws := ws) h r => by
    obtain ⟨a, b⟩ := Rw.lay r
    obtain ⟨a', b'⟩ := Thg.lay h
    refine ⟨?_, ?_⟩
    · show ((PyData.canLay0 (.str "push") && (PyData.canLay0 t && true)) && PyData.canLayAll0 ws) = true
      rw [a, a']; decide +kernel
    · show max (max 0 (max (PyData.depth t) 0) + 1) (PyData.depthAll ws) ≤ _
      omega
theorem Stk.lay : ∀ {k w m : Nat} {ts : List PyData}, Stk k w m ts → PyData.canLayAll0 ts = true ∧ PyData.depthAll ts ≤ 3 * k + 1
  | k, _, _, _, .nil => ⟨rfl, Nat.zero_le _⟩
  | k, _, _, _, .cons (t := t) (ts := ts) h r => by
    obtain ⟨a, b⟩ := Stk.lay r
    obtain ⟨a', b'⟩ := Thg.lay h
    refine ⟨?_, ?_⟩
    · show (PyData.canLay0 t && PyData.canLayAll0 ts) = true
      rw [a, a']; rfl
    · show max (PyData.depth t) (PyData.depthAll ts) ≤ _
      omega
end
theorem Stk.shaped {k w m : Nat} {ts : List PyData} (h : Stk k w m ts) (l : k ≤ 20) : SeqAt.shaped (.list ts) = true := by
  obtain ⟨a, b⟩ := h.lay
  show (PyData.canLayAll0 ts && decide (PyData.depthAll ts + 1 ≤ 64)) = true
  rw [a, Bool.true_and]; exact decide_eq_true (by omega)
end Cm
namespace K09
open PySem PySem.W L2 SX Cm
def top (i : Nat) : Stmt := PySem.Challenge.pw_takeleave_k09_numbers_reckoned.main.body.getD i (.Pass ⟨0, 0, 0, 0⟩)
abbrev sIsBasic : Stmt := top 13
abbrev sNumThing : Stmt := top 16
abbrev sPlus : Stmt := top 17
abbrev sMinus : Stmt := top 18
abbrev sTimes : Stmt := top 19
abbrev sLess : Stmt := top 20
abbrev sSame : Stmt := top 21
abbrev sStep : Stmt := top 33
abbrev sEffect : Stmt := top 34
abbrev sEffBasic : Stmt := top 35
abbrev sTopOf : Stmt := top 37
abbrev sHeldAs : Stmt := top 38
abbrev sMixed : Stmt := top 41
abbrev sDeck : Stmt := top 42
abbrev sDraw : Stmt := top 43
abbrev sSize : Stmt := top 44
abbrev sCut : Stmt := top 45
abbrev sNumber : Stmt := top 46
abbrev sThing : Stmt := top 47
abbrev sShuffle : Stmt := top 48
abbrev sAnyWord : Stmt := top 49
abbrev sReckoned : Stmt := top 50
abbrev sLaw : Stmt := top 51
/-- a deck stands at d -/
def Dk (H : Hp) (d : Addr) : Prop := ∃ ms : List Int, H d = some (.lst (ms.map V.int)) ∧ ms.length ≤ 1000
theorem Dk.new {d p : Addr} {H : Hp} {o : HO} (a : Dk H d) (h : H p = none) : Dk (upd H p o) d := by
  obtain ⟨ms, e, l⟩ := a
  exact ⟨ms, kn e h, l⟩
theorem Dk.put {d p : Addr} {H : Hp} {o : HO} (a : Dk H d) (h : p ∉ [d]) : Dk (upd H p o) d := by
  obtain ⟨ms, e, l⟩ := a
  exact ⟨ms, by rw [upd_ne (fun z => h (List.mem_singleton.mpr z.symm))]; exact e, l⟩
theorem Dk.nd {d p : Addr} {H : Hp} (a : Dk H d) (h : H p = none) : p ∉ [d] := fun z => by
  obtain ⟨ms, e, l⟩ := a
  rw [List.mem_singleton.mp z, e] at h; cases h
theorem Dk.tks {K : Frag} {H H' : Hp} {d : Addr} (g : Dk H d) (k : Kp [d] H H') : TKs K H H' := TKs.kp k fun b hb => by
  obtain ⟨ms, e, l⟩ := g
  rw [List.mem_singleton.mp hb]; exact ⟨_, e⟩
theorem dm {d : Addr} : d ∈ [d] := List.mem_singleton.mpr rfl
section
variable {P : Program} {w : World} {K : PySem.W.Frag} {mg : Str → Option Value} {base : Heap}
def spMixed : Sp := fun vs H Q _ => ∃ n : Int, vs = [.int n] ∧ ∀ m : Int, 0 ≤ m → m < 2147483587 → Q (.int m) H
theorem scMixed : FnScope ["_law_number_here"] ["_law_number_here"] (defScope sMixed) := ⟨rfl, rfl, rfl, by decide +kernel, rfl, by decide +kernel, by decide +kernel⟩
theorem ok_mixed {f : Addr} {fd : FuncData} (F : Fun K "_law_mixed" "_law_mixed" sMixed f fd) : FnOk P w K mg base CX0 1 f fd ["_law_number_here"] spMixed := by
  refine F.ok scMixed (fun vs H Q E h => ?_) (fun cdv A outer s H vs Q E hr h => ?_)
  · obtain ⟨n, rfl, _⟩ := h
    rfl
  obtain ⟨n, rfl, q⟩ := h
  refine ⟨_, pss_cons (ps_set (i := 0) scMixed.nd rfl (.inl rfl) (pe_op op_mod (pe_op op_add (pe_op op_mul (pe_op op_mod (pv 0) pe_int) pe_int) pe_int) pe_int))
    (pss_cons (ps_set (i := 0) scMixed.nd rfl (.inl rfl) (pe_op op_mod (pe_op op_add (pe_op op_add (pe_op op_mul (pv 0) (pv 0)) (pe_op op_mul pe_int (pv 0))) pe_int) pe_int))
    (pss_one (ps_ret (pe_op op_mod (pe_op op_add (pe_op op_mul (pv 0) pe_int) pe_int) pe_int)))), ?_⟩
  refine ⟨_, rfl, _, _, rfl, rfl, (by show (0 : Int) < 2147483629; decide), _, _, rfl, rfl, .inr ⟨by decide, by decide⟩, _, _, rfl, rfl, _, _, rfl, rfl, (by show (0 : Int) < 2147483647; decide), ?_⟩
  generalize e1 : (n % 2147483629 * 48271 + 7) % 2147483647 = n1
  have b1 : 0 ≤ n1 ∧ n1 < 2147483647 := by omega
  refine ⟨_, rfl, _, rfl, _, _, rfl, rfl, .inl ⟨by omega, by omega⟩, _, rfl, _, _, rfl, rfl, .inl ⟨by decide, by decide⟩, _, _, rfl, rfl, _, _, rfl, rfl, _, _, rfl, rfl, (by show (0 : Int) < 2147483629; decide), ?_⟩
  generalize e2 : (n1 * n1 + 69621 * n1 + 11) % 2147483629 = n2
  have b2 : 0 ≤ n2 ∧ n2 < 2147483629 := by
    constructor
    · rw [← e2]; exact Int.emod_nonneg _ (by decide)
    · rw [← e2]; exact Int.emod_lt_of_pos _ (by decide)
  refine ⟨_, rfl, _, _, rfl, rfl, .inr ⟨by decide, by decide⟩, _, _, rfl, rfl, _, _, rfl, rfl, (by show (0 : Int) < 2147483587; decide), ?_⟩
  exact q _ (Int.emod_nonneg _ (by decide)) (Int.emod_lt_of_pos _ (by decide))
def spDeck (K : PySem.W.Frag) : Sp := fun vs H Q _ => ∃ (a : Addr) (ns : List Int) (m : Int), vs = [.ref a, .int m] ∧ SqL K H a (ns.map V.int) ∧ ns.length ≤ 63 ∧ m ≤ 1000 ∧
  ∀ (p : Addr) (H' : Hp) (ds : List Int), Same H H' → H p = none → H' p = some (.lst (ds.map V.int)) → ds.length ≤ 1000 → Q (.ref p) H'
theorem scDeck : FnScope ["_law_script", "_law_most", "_law_deck_here", "_law_last"] ["_law_script", "_law_most"] (defScope sDeck) := ⟨rfl, rfl, rfl, by decide +kernel, rfl, by decide +kernel, by decide +kernel⟩
theorem ok_deck {f g : Addr} {fd gd : FuncData} (F : Fun K "_law_deck" "_law_deck" sDeck f fd) (G : FnOk P w K mg base CX0 1 g gd ["_law_number_here"] spMixed) (bG : L2.Binds K gd ["_law_number_here"] []) (kG : PySem.W.keepIn K (.ref g) = true) (mG : mg "_law_mixed" = some (.ref g))
    (mlist : mg "list" = none) (msum : mg "sum" = none) (mlen : mg "len" = none) : FnOk P w K mg base CX0 2 f fd ["_law_script", "_law_most"] (spDeck K) := by
  refine F.ok scDeck (fun vs H Q E h => ?_) (fun cdv A outer s H vs Q E hr h => ?_)
  · obtain ⟨a, ns, m, rfl, _⟩ := h
    rfl
  obtain ⟨a, ns, m, rfl, hS, h63, hm, q⟩ := h
  refine ⟨_, pss_cons (ps_set (i := 2) scDeck.nd rfl (.inl rfl) (pe_callTy call_list_of (by rfl) mlist (by decide +kernel) (pa_cons (pe_slice sl_list (pv 0) po_none (po_some pe_int)) pa_nil)))
    (pss_cons (ps_set (i := 3) scDeck.nd rfl (.inl rfl) (pe_op op_add pe_int (pe_op op_mod (pe_callB (cr_sum rfl) (by rfl) msum PyProof.Rows.boot_sum (pa_cons (pv 2) pa_nil)) pe_int)))
    (pss_cons (ps_while PassesOwn.never (pt_cmpR op_lt (pe_callB call_len_seq (by rfl) mlen PySem.boot_len (pa_cons (pv 2) pa_nil)) (pv 1) (nomark _))
      (pss_cons (ps_set (i := 3) scDeck.nd rfl (.inl rfl) (pe_call G hr rfl mG kG bG .nil pass0 (pa_cons (pe_op op_add (pv 3) (pe_callB call_len_seq (by rfl) mlen PySem.boot_len (pa_cons (pv 2) pa_nil))) pa_nil)))
      (pss_one (ps_expr (pe_bm PySem.F.plainAttrs_list PySem.F.slot_list_append PySem.F.type_list_append mt_append (pv 2) (pa_cons (pv 3) pa_nil))))))
    (pss_one (ps_ret (pe_revL (pv 2)))))), ?_⟩
  refine ⟨_, rfl, 63, rfl, a, _, rfl, hS, fun p1 n1 => ?_⟩
  obtain ⟨ds, e1, l1⟩ := cut_map V.int ns none (some 63)
  rw [e1]
  refine ⟨p1, _, rfl, .inl (SqL.of upd_same), fun p2 n2 => ?_⟩
  have s1 : Same H (upd H p1 (.lst (ds.map V.int))) := same_new n1 _
  have f2 : H p2 = none := s1.free n2
  refine ⟨_, rfl, p2, ds, rfl, SqL.of upd_same, _, _, rfl, rfl, (by show (0 : Int) < 2147483647; decide), _, _, rfl, rfl, ?_⟩
  refine ⟨fun k σ H' => ∃ (es : List Int) (l : Int), σ = [some (.ref a), some (.int m), some (.ref p2), some (.int l)] ∧ Same H H' ∧ H' p2 = some (.lst (es.map V.int)) ∧ es.length ≤ 1000 ∧ k = (m - es.length).toNat,
    ⟨_, ds, _, rfl, own_new s1 f2, upd_same, by omega, rfl⟩, ?_⟩
  rintro k σ H' ⟨es, l, rfl, sm, he, hl, rfl⟩
  refine ⟨_, rfl, p2, _, rfl, .inl (SqL.of he), _, rfl, _, _, rfl, rfl, _, rfl, ?_⟩
  refine ite2 (fun c => ?_) (fun c => ?_)
  · have c' : ((es.map V.int).length : Int) < m := of_decide_eq_true c
    rw [List.length_map] at c'
    refine ⟨fun σ' H2 => ∃ (l2 : Int), σ' = [some (.ref a), some (.int m), some (.ref p2), some (.int l2)] ∧ Same H H2 ∧ H2 p2 = some (.lst ((es ++ [l2]).map V.int)), ?_, ?_⟩
    · rintro σ' H2 ⟨l2, rfl, sm2, he2⟩
      refine ⟨_, ?_, es ++ [l2], l2, rfl, sm2, he2, ?_, rfl⟩
      · rw [List.length_append, List.length_singleton]; omega
      · rw [List.length_append, List.length_singleton]; omega
    · refine ⟨_, rfl, _, rfl, p2, _, rfl, .inl (SqL.of he), _, _, rfl, rfl, _, rfl, fun l2 _ _ => ?_⟩
      refine ⟨_, rfl, .inl ⟨rfl, _, SqL.of he⟩, _, rfl, p2, _, _, rfl, rfl, he, by rw [List.length_map]; exact small1000 hl, ?_⟩
      refine ⟨l2, rfl, own_new sm f2, ?_⟩
      rw [upd_same, List.map_append]; rfl
  · refine ⟨_, rfl, p2, _, rfl, SqL.of he, fun p3 n3 => ?_⟩
    refine q p3 _ es.reverse (sm.trans (same_new n3 _)) (sm.free n3) ?_ ?_
    · rw [upd_same, List.map_reverse]
    · rw [List.length_reverse]; exact hl
def spDraw : Sp := fun vs H Q _ => ∃ (d : Addr) (m : Int), vs = [.ref d, .int m] ∧ Dk H d ∧ 0 < m ∧ m < 2 ^ 64 ∧
  ∀ (r : Int) (H' : Hp), 0 ≤ r → r < m → Kp [d] H H' → Dk H' d → Q (.int r) H'
theorem scDraw : FnScope ["_law_deck_here", "_law_most", "_law_cell"] ["_law_deck_here", "_law_most"] (defScope sDraw) := ⟨rfl, rfl, rfl, by decide +kernel, rfl, by decide +kernel, by decide +kernel⟩
theorem ok_draw {f g : Addr} {fd gd : FuncData} (F : Fun K "_law_draw" "_law_draw" sDraw f fd) (G : FnOk P w K mg base CX0 1 g gd ["_law_number_here"] spMixed) (bG : L2.Binds K gd ["_law_number_here"] []) (kG : PySem.W.keepIn K (.ref g) = true) (mG : mg "_law_mixed" = some (.ref g)) :
    FnOk P w K mg base CX0 2 f fd ["_law_deck_here", "_law_most"] spDraw := by
  refine F.ok scDraw (fun vs H Q E h => ?_) (fun cdv A outer s H vs Q E hr h => ?_)
  · obtain ⟨d, m, rfl, _⟩ := h
    rfl
  obtain ⟨d, m, rfl, ⟨ms, hd, hl⟩, m0, m1, q⟩ := h
  refine ⟨_, pss_cons (ps_if (pt_cmpR (op_eqD hr.units) (pv 0) (pe_lst pa_nil) (nomark _)) (pss_one (ps_ret pe_int)) pss_nil)
    (pss_cons (ps_set (i := 2) scDraw.nd rfl (.inl rfl) (pe_bm0 PySem.F.plainAttrs_list PySem.F.slot_list_pop PySem.F.type_list_pop mt_pop (pv 0)))
    (pss_cons (ps_if (pt_cmpR op_ge (pv 2) (pe_op op_pow pe_int pe_int) (nomark _))
      (pss_cons (ps_expr (pe_bm PySem.F.plainAttrs_list PySem.F.slot_list_append PySem.F.type_list_append mt_append (pv 0) (pa_cons (pe_op op_fdivW (pv 2) (pv 1)) pa_nil)))
        (pss_one (ps_ret (pe_op op_mod (pv 2) (pv 1))))) pss_nil)
    (pss_one (ps_ret (pe_op op_mod (pe_call G hr rfl mG kG bG .nil pass0 (pa_cons (pv 2) pa_nil)) (pv 1)))))), ?_⟩
  refine ⟨_, rfl, (by show 0 ≤ sizeLine; decide), fun p hp => ?_⟩
  have hd1 : (upd H p (.lst [])) d = some (.lst (ms.map V.int)) := by rw [upd_ne (ne_of_none hd hp)]; exact hd
  refine ⟨_, _, .lst (SqL.of hd1) (dp_ints ms), .lst (SqL.of upd_same) .nil, Cm.shaped_ints ms, rfl, _, rfl, ?_⟩
  have k1 : Kp [d] H (upd H p (.lst [])) := (Kp.refl [d] H).new hp
  rcases List.eq_nil_or_concat ms with rfl | ⟨ns, n, rfl⟩
  · refine iteT ?_
    exact q 0 _ (Int.le_refl 0) m0 k1 ⟨[], hd1, by decide⟩
  · have ne : PyData.eqv (.list ((ns.concat n).map PyData.int)) (.list []) = false := by
      cases ns with
      | nil => rfl
      | cons x r => rfl
    rw [ne]
    refine iteF ?_
    rw [List.length_concat] at hl
    have hq : (((ns.concat n).map V.int) : List V)[((ns.concat n).map V.int).length - 1]? = some (V.int n) := by
      rw [List.concat_eq_append, List.map_append, List.length_append]
      simp
    have hdl : ((ns.concat n).map V.int).dropLast = ns.map V.int := by
      rw [List.concat_eq_append, List.map_append]
      simp
    refine ⟨_, rfl, .inl ⟨rfl, _, SqL.of hd1⟩, d, _, _, rfl, rfl, hd1, hq, ?_⟩
    rw [hdl]
    refine ⟨_, rfl, _, _, rfl, rfl, ⟨by decide, by decide, by decide⟩, _, _, rfl, rfl, _, rfl, ?_⟩
    refine ite2 (fun c => ?_) (fun c => ?_)
    · refine ⟨_, rfl, .inl ⟨rfl, _, SqL.of upd_same⟩, _, rfl, _, rfl, _, _, rfl, rfl, wide_div m0 (b := 64) (by omega) (by decide) (by decide), d, _, _, rfl, rfl, upd_same, by rw [List.length_map]; exact small1000 (by omega), ?_⟩
      refine ⟨_, rfl, _, rfl, _, _, rfl, rfl, m0, ?_⟩
      refine q _ _ (Int.emod_nonneg _ (by omega)) (Int.emod_lt_of_pos _ m0) ((k1.own dm).own dm) ⟨ns ++ [n / m], ?_, ?_⟩
      · rw [upd_same, List.map_append]; rfl
      · rw [List.length_append, List.length_singleton]; omega
    · refine ⟨_, rfl, _, rfl, fun r r0 r1 => ?_⟩
      refine ⟨_, rfl, _, _, rfl, rfl, m0, ?_⟩
      exact q _ _ (Int.emod_nonneg _ (by omega)) (Int.emod_lt_of_pos _ m0) (k1.own dm) ⟨ns, upd_same, by omega⟩
end
end K09
namespace K09
open PySem PySem.W L2 SX Cm
/-- one of a few values by a drawn number -/
theorem pick {α : Type} {xs : List α} {r : Int} {n : Nat} (h0 : 0 ≤ r) (h1 : r < n) (hl : xs.length = n) : ∃ x, x ∈ xs ∧ atI xs r = some x := by
  obtain ⟨r, rfl⟩ := Int.eq_ofNat_of_zero_le h0
  have hr : r < xs.length := by omega
  exact ⟨xs[r], List.getElem_mem hr, atI_nat (List.getElem?_eq_getElem hr)⟩
/-- one of two values by a truth -/
theorem pick2 {α : Type} {a b : α} (t : Bool) : atI [a, b] (if t = true then (1 : Int) else 0) = some (if t = true then b else a) := by
  cases t
  · exact atI_nat (j := 0) rfl
  · exact atI_nat (j := 1) rfl
/-- the first n letters -/
def abc (n : Nat) : List Nat := [97, 98, 99, 100, 101, 102, 103, 104].take n
theorem abc_len {n : Nat} (h : n ≤ 8) : (abc n).length = n := by
  unfold abc; rw [List.length_take]; show min n 8 = n; omega
theorem lit_abc : ("abcdefgh" : Str) = S [97, 98, 99, 100, 101, 102, 103, 104] := by decide +kernel
/-- a shuffle's signs: n letters taken, l left -/
def shuf (n : Nat) (l : List Nat) : List Nat := abc n ++ (45 :: l)
structure Shuf (n : Nat) (l : List Nat) : Prop where
  n8 : n ≤ 8
  l12 : l.length ≤ 12
  inn : ∀ c ∈ l, c ∈ abc n
theorem Shuf.tx {n : Nat} {l : List Nat} (h : Shuf n l) : Tx (S (shuf n l)) 100 := by
  refine ⟨?_, ?_⟩
  · have h1 := h.n8
    have h2 := h.l12
    rw [S_len]; unfold shuf; rw [List.length_append, List.length_cons, abc_len h1]; omega
  · intro c hc
    have ha : ∀ x ∈ abc n, x < 1114112 := fun x hx => by
      have : x ∈ [97, 98, 99, 100, 101, 102, 103, 104] := List.mem_of_mem_take hx
      revert x; intro x _ hx2
      simp only [List.mem_cons, List.not_mem_nil, or_false] at hx2
      omega
    have hc' : c ∈ abc n ++ (45 :: l) := hc
    rcases List.mem_append.mp hc' with h0 | h0
    · exact ha c h0
    · rcases List.mem_cons.mp h0 with h0 | h0
      · rw [h0]; decide
      · exact ha c (h.inn c h0)
section
variable {P : Program} {w : World} {K : PySem.W.Frag} {mg : Str → Option Value} {base : Heap}
def spShuffle : Sp := fun vs H Q _ => ∃ (d : Addr) (m : Int), vs = [.ref d, .int m] ∧ Dk H d ∧ 0 ≤ m ∧ m ≤ 8 ∧
  ∀ (n : Nat) (l : List Nat) (H' : Hp), Shuf n l → Kp [d] H H' → Dk H' d → Q (.str (S (shuf n l))) H'
theorem scShuffle : FnScope ["_law_deck_here", "_law_most", "_law_many", "_law_letters", "_law_left", "_law_wide", "_law_k"] ["_law_deck_here", "_law_most"] (defScope sShuffle) := ⟨rfl, rfl, rfl, by decide +kernel, rfl, by decide +kernel, by decide +kernel⟩
theorem ok_shuffle {f g : Addr} {fd gd : FuncData} (F : Fun K "_law_shuffle" "_law_shuffle" sShuffle f fd) (G : FnOk P w K mg base CX0 2 g gd ["_law_deck_here", "_law_most"] spDraw) (bG : L2.Binds K gd ["_law_deck_here", "_law_most"] []) (kG : PySem.W.keepIn K (.ref g) = true) (mG : mg "_law_draw" = some (.ref g)) (mrange : mg "range" = none) :
    FnOk P w K mg base CX0 3 f fd ["_law_deck_here", "_law_most"] spShuffle := by
  refine F.ok scShuffle (fun vs H Q E h => ?_) (fun cdv A outer s H vs Q E hr h => ?_)
  · obtain ⟨d, m, rfl, _⟩ := h
    rfl
  obtain ⟨d, m, rfl, hD, m0, m8, q⟩ := h
  refine ⟨_, pss_cons (ps_set (i := 2) scShuffle.nd rfl (.inl rfl) (pe_call G hr rfl mG kG bG .nil pass0 (pa_cons (pv 0) (pa_cons (pe_op op_add (pv 1) pe_int) pa_nil))))
    (pss_cons (ps_set (i := 3) scShuffle.nd rfl (.inl rfl) (pe_slice sl_str pe_str po_none (po_some (pv 2))))
    (pss_cons (ps_set (i := 4) scShuffle.nd rfl (.inl rfl) pe_str)
    (C8.pss_cut (ps_if (pt_cmpR op_gt (pv 2) pe_int (nomark _))
      (pss_cons (ps_set (i := 5) scShuffle.nd rfl (.inl rfl) (pe_ix ix_list (pe_lst (pa_cons pe_int (pa_cons pe_int pa_nil))) (pe_op op_fdiv (pe_call G hr rfl mG kG bG .nil pass0 (pa_cons (pv 0) (pa_cons pe_int pa_nil))) pe_int) (fun _ _ => rfl)))
      (pss_one (ps_for PassesOwn.never rfl (pi_range1 rfl mrange (pa_cons (pe_call G hr rfl mG kG bG .nil pass0 (pa_cons (pv 0) (pa_cons (pv 5) pa_nil))) pa_nil)) (pg_name (i := 6) scShuffle.nd rfl (.inl rfl))
        (pss_one (ps_set (i := 4) scShuffle.nd rfl (.inl rfl) (pe_op op_add_str (pv 4) (pe_ix ix_str (pv 3) (pe_call G hr rfl mG kG bG .nil pass0 (pa_cons (pv 0) (pa_cons (pv 2) pa_nil))) (fun _ _ => rfl)))))))) pss_nil)
    (pss_one (ps_ret (pe_op op_add_str (pe_op op_add_str (pv 3) pe_str) (pv 4))))))), ?_⟩
  refine ⟨_, rfl, _, rfl, _, _, rfl, rfl, d, m + 1, rfl, hD, by omega, by omega, fun n H1 n0 n1 k1 D1 => ?_⟩
  obtain ⟨n, rfl⟩ := Int.eq_ofNat_of_zero_le n0
  have n8 : n ≤ 8 := by omega
  refine ⟨_, rfl, _, rfl, _, rfl, (by show Str.length "abcdefgh" ≤ sizeLine; decide +kernel), ?_⟩
  rw [lit_abc, cutS_to n0]
  have ee : ("" : Str) = S [] := by decide +kernel
  have es : ("-" : Str) = S [45] := by decide +kernel
  rw [ee, es]
  have en : List.take (n : Int).toNat [97, 98, 99, 100, 101, 102, 103, 104] = abc n := rfl
  rw [en]
  refine ⟨fun σ H' => ∃ (l : List Nat) (x5 x6 : Option V), σ = [some (.ref d), some (.int m), some (.int n), some (.str (S (abc n))), some (.str (S l)), x5, x6] ∧ Shuf n l ∧ Kp [d] H H' ∧ Dk H' d, ?_, ?_⟩
  · refine ⟨_, rfl, _, _, rfl, rfl, _, rfl, ?_⟩
    refine ite2 (fun c => ?_) (fun c => ?_)
    · have c' : (0 : Int) < n := of_decide_eq_true c
      refine ⟨(by show 2 ≤ sizeLine; decide), fun p hp => ?_⟩
      refine ⟨_, rfl, d, 8, rfl, D1.new hp, by decide, by decide, fun r H2 r0 r8 k2 D2 => ?_⟩
      have hp2 : H2 p = some (.lst [.int 4, .int 13]) := k2 p _ (D1.nd hp) upd_same
      obtain ⟨wd, w0, w1, aw⟩ : ∃ wd : Int, 0 < wd ∧ wd ≤ 13 ∧ atI [V.int 4, V.int 13] (r / 7) = some (.int wd) := by
        have e : r / 7 = 0 ∨ r / 7 = 1 := by omega
        rcases e with e | e
        · rw [e]; exact ⟨4, by decide, by decide, atI_nat (j := 0) rfl⟩
        · rw [e]; exact ⟨13, by decide, by decide, atI_nat (j := 1) rfl⟩
      refine ⟨_, _, rfl, rfl, ⟨by decide, by decide⟩, p, _, _, _, rfl, rfl, SqL.of hp2, aw, ?_⟩
      have k2' : Kp [d] H H2 := (k1.new hp).trans k2
      refine ⟨_, rfl, _, rfl, d, wd, rfl, D2, w0, by omega, fun t H3 t0 t1 k3 D3 => ?_⟩
      refine ⟨t, rfl, by omega, by omega, for_range (lo := 0) (n := t.toNat) (fun i σ H' => ∃ (l : List Nat) (x6 : Option V), σ = [some (.ref d), some (.int m), some (.int n), some (.str (S (abc n))), some (.str (S l)), some (.int wd), x6] ∧ l.length = i ∧ (∀ c ∈ l, c ∈ abc n) ∧ Kp [d] H H' ∧ Dk H' d)
        ⟨[], none, rfl, rfl, (fun c h => nomatch h), k2'.trans k3, D3⟩ ?_ ?_⟩
      · rintro i σ H' hi ⟨l, x6, rfl, hl, hc, k4, D4⟩
        refine ⟨_, rfl, _, rfl, _, rfl, _, rfl, d, n, rfl, D4, c', by omega, fun u H5 u0 u1 k5 D5 => ?_⟩
        obtain ⟨u, rfl⟩ := Int.eq_ofNat_of_zero_le u0
        have hu : u < (abc n).length := by rw [abc_len n8]; omega
        refine ⟨_, _, _, rfl, rfl, ?_, atI_nat (List.getElem?_eq_getElem hu), ?_⟩
        · rw [S_len, abc_len n8]; exact Nat.le_of_lt (small1000 (by omega))
        refine ⟨_, _, rfl, rfl, ?_, ?_⟩
        · rw [S_len]; exact Nat.le_of_lt (small1000 (by show l.length + 1 ≤ 1000; omega))
        · have e1 : S l ++ (⟨#[(abc n)[u]]⟩ : Str) = S (l ++ [(abc n)[u]]) := S_cat l [(abc n)[u]]
          rw [e1]
          refine ⟨l ++ [(abc n)[u]], _, rfl, ?_, ?_, k4.trans k5, D5⟩
          · rw [List.length_append, List.length_singleton, hl]
          · intro z hz
            rcases List.mem_append.mp hz with h | h
            · exact hc z h
            · rw [List.mem_singleton.mp h]; exact List.getElem_mem hu
      · rintro σ H' ⟨l, x6, rfl, hl, hc, k4, D4⟩
        exact ⟨l, _, _, rfl, ⟨n8, by omega, hc⟩, k4, D4⟩
    · exact ⟨[], none, none, rfl, ⟨n8, by decide, fun c h => nomatch h⟩, k1, D1⟩
  · rintro σ H' ⟨l, x5, x6, rfl, hs, k2, D2⟩
    refine ⟨_, rfl, _, _, rfl, rfl, ?_, _, rfl, _, _, rfl, rfl, ?_, ?_⟩
    · rw [S_len, S_len, abc_len n8]; exact Nat.le_of_lt (small1000 (by show n + 1 ≤ 1000; omega))
    · rw [S_cat, S_len, S_len, List.length_append, abc_len n8]; have := hs.l12; exact Nat.le_of_lt (small1000 (by show n + 1 + l.length ≤ 1000; omega))
    · rw [S_cat, S_cat, List.append_assoc]
      exact q n l H' hs k2 D2
def spNumber : Sp := fun vs H Q _ => ∃ (d : Addr), vs = [.ref d] ∧ Dk H d ∧
  ∀ (n : Int) (H' : Hp), 0 ≤ n → n < 10 ^ 12 → Kp [d] H H' → Dk H' d → Q (.int n) H'
theorem scNumber : FnScope ["_law_deck_here"] ["_law_deck_here"] (defScope sNumber) := ⟨rfl, rfl, rfl, by decide +kernel, rfl, by decide +kernel, by decide +kernel⟩
theorem ok_number {f g : Addr} {fd gd : FuncData} (F : Fun K "_law_number" "_law_number" sNumber f fd) (G : FnOk P w K mg base CX0 2 g gd ["_law_deck_here", "_law_most"] spDraw) (bG : L2.Binds K gd ["_law_deck_here", "_law_most"] []) (kG : keepIn K (.ref g) = true) (mG : mg "_law_draw" = some (.ref g)) :
    FnOk P w K mg base CX0 3 f fd ["_law_deck_here"] spNumber := by
  refine F.ok scNumber (fun vs H Q E h => ?_) (fun cdv A outer s H vs Q E hr h => ?_)
  · obtain ⟨d, rfl, _⟩ := h
    rfl
  obtain ⟨d, rfl, hD, q⟩ := h
  refine ⟨_, pss_one (ps_ret (pe_ix ix_list (pe_lst (pa_cons pe_int (pa_cons pe_int (pa_cons pe_int (pa_cons (pe_call G hr rfl mG kG bG .nil pass0 (pa_cons (pv 0) (pa_cons pe_int pa_nil))) (pa_cons (pe_op op_sub (pe_op op_pow pe_int pe_int) pe_int) (pa_cons (pe_call G hr rfl mG kG bG .nil pass0 (pa_cons (pv 0) (pa_cons (pe_op op_pow pe_int pe_int) pa_nil))) pa_nil)))))))
    (pe_call G hr rfl mG kG bG .nil pass0 (pa_cons (pv 0) (pa_cons pe_int pa_nil))) (fun _ _ => rfl))), ?_⟩
  refine ⟨_, rfl, d, 7, rfl, hD, by decide, by decide, fun r H1 r0 r1 k1 D1 => ?_⟩
  refine ⟨_, _, rfl, rfl, ⟨by decide, by decide, by decide⟩, _, _, rfl, rfl, _, rfl, _, _, rfl, rfl, ⟨by decide, by decide, by decide⟩, d, 10 ^ 12, rfl, D1, by decide, by decide, fun r2 H2 r20 r21 k2 D2 => ?_⟩
  refine ⟨(by show 6 ≤ sizeLine; decide), fun p hp => ?_⟩
  refine ⟨_, rfl, d, 6, rfl, D2.new hp, by decide, by decide, fun i H3 i0 i1 k3 D3 => ?_⟩
  have b2' : r2 < 10 ^ 12 := r21
  obtain ⟨v, hv, ha⟩ := pick (xs := [V.int 0, .int 1, .int 2, .int r, .int ((10 : Int) ^ (12 : Int).toNat - 1), .int r2]) (n := 6) i0 i1 rfl
  refine ⟨p, _, _, _, rfl, rfl, SqL.of (k3 p _ (D2.nd hp) upd_same), ha, ?_⟩
  have kf := ((k1.trans k2).new hp).trans k3
  simp only [List.mem_cons, List.not_mem_nil, or_false] at hv
  rcases hv with rfl | rfl | rfl | rfl | rfl | rfl
  · exact q _ H3 (by decide) (by decide) kf D3
  · exact q _ H3 (by decide) (by decide) kf D3
  · exact q _ H3 (by decide) (by decide) kf D3
  · exact q _ H3 r0 (by omega) kf D3
  · exact q _ H3 (by decide) (by decide) kf D3
  · exact q _ H3 r20 b2' kf D3
end
end K09
namespace K09
open PySem PySem.W L2 SX Cm
/-- what is gone through may be either -/
theorem pi_or {X : Cx} {tg e : Expr} {i j : TI} (h : PI X tg e i) (g : PI X tg e j) : PI X tg e (fun σ H R => i σ H R ∨ j σ H R) :=
  ⟨fun pins s σ H R hi h0 => h0.elim (h.run pins s σ H R hi) (g.run pins s σ H R hi)⟩
theorem SqL.keep {K : Frag} {H H' : Hp} (s : Same H H') {a : Addr} {xs : List V} (h : SqL K H a xs) : SqL K H' a xs := by
  rcases h with (h | ⟨o, h⟩) | h
  · exact .inl (.inl (s _ _ h))
  · exact .inl (.inr ⟨o, s _ _ h⟩)
  · exact .inr h
/-- a list or a tuple -/
def Sq (K : Frag) (H : Hp) (a : Addr) (xs : List V) : Prop := SqL K H a xs ∨ SqT K H a xs
theorem Sq.keep {K : Frag} {H H' : Hp} (s : Same H H') {a : Addr} {xs : List V} (h : Sq K H a xs) : Sq K H' a xs :=
  h.elim (fun h => .inl (SqL.keep s h)) (fun h => .inr (TKs.of s _ _ h))
theorem for_sq {K : Frag} {a : Addr} {xs : List V} {tl : TE} {g : TG} {tb : TS} {D : Ends} {σ : St} {H : Hp} (hv : ∀ R : V → Hp → Prop, R (.ref a) H → tl σ H R) (hx : Sq K H a xs) (Pv : Nat → St → Hp → Prop) (p0 : Pv 0 σ H) (pk : ∀ i σ' H', Pv i σ' H' → Same H H')
    (st : ∀ (i : Nat) (x : V) (σ : St) (H : Hp), xs[i]? = some x → Pv i σ H → g x σ H fun σ2 H2 => tb { nx := Pv (i + 1), rt := D.rt, bk := D.nx, ct := Pv (i + 1) } σ2 H2) (fin : ∀ (σ : St) (H : Hp), Pv xs.length σ H → D.nx σ H) :
    tFor (fun σ H R => iList K tl σ H R ∨ iTup K tl σ H R) g tb D σ H := by
  rcases hx with h | h
  · exact .inl (hv _ ⟨a, rfl, ⟨_, h⟩, for_list Pv p0 (fun i σ' H' _ hp => SqL.keep (pk i σ' H' hp) h) st fin⟩)
  · exact .inr (hv _ ⟨a, rfl, ⟨_, h⟩, for_tup Pv p0 (fun i σ' H' _ hp => TKs.of (pk i σ' H' hp) _ _ h) st fin⟩)
theorem lc_sq {K : Frag} {a : Addr} {xs : List V} {tl : TE} {g : TG} {tt : TT} {te : TE} {vs : List Nat} {σ : St} {H : Hp} {Q : VK} (hv : ∀ R : V → Hp → Prop, R (.ref a) H → tl σ H R) (hx : Sq K H a xs) (Pv : Addr → Nat → Hp → Prop) (p0 : ∀ D, H D = none → Pv D 0 (upd H D (.lst []))) (pk : ∀ D i H', Pv D i H' → Same H H')
    (st : ∀ (D : Addr) (i : Nat) (x : V) (H' : Hp), H D = none → xs[i]? = some x → Pv D i H' → g x (wipe σ vs) H' fun σ2 H2 => wipe σ2 vs = wipe σ vs ∧ tt σ2 H2 fun b H3 => if b = true then te σ2 H3 fun y H4 => ∃ acc, H4 D = some (.lst acc) ∧ acc.length < sizeLine ∧ Pv D (i + 1) (upd H4 D (.lst (acc ++ [y]))) else Pv D (i + 1) H3)
    (fin : ∀ (D : Addr) (H' : Hp), H D = none → Pv D xs.length H' → Q (.ref D) H') :
    tLc (fun σ H R => iList K tl σ H R ∨ iTup K tl σ H R) g tt te vs σ H Q := by
  rcases hx with h | h
  · exact .inl (hv _ ⟨a, rfl, ⟨_, h⟩, fun D hD => lc_list (Pv D) (p0 D hD) (fun i H' _ hp => SqL.keep (pk D i H' hp) h) (fun i x H' => st D i x H' hD) (fun H' => fin D H' hD)⟩)
  · exact .inr (hv _ ⟨a, rfl, ⟨_, h⟩, fun D hD => lc_tup (Pv D) (p0 D hD) (fun i H' _ hp => TKs.of (pk D i H' hp) _ _ h) (fun i x H' => st D i x H' hD) (fun H' => fin D H' hD)⟩)
theorem call_lc {sp : Sp} {E : XK} {wi : TI} {g : TG} {tt : TT} {te : TE} {vs : List Nat} {σ : St} {H : Hp} {Q : VK} (h : tLc wi g tt te vs σ H fun v H1 => sp [v] H1 Q E) : tCall sp [] E (tCons (tLc wi g tt te vs) tNil) σ H Q := h
mutual
inductive Zt (K : Frag) (H : Hp) : Nat → V → Nat → Prop
  | num {k : Nat} {a : Addr} {v : V} : 0 < k → SqT K H a [.str "number", v] → Zt K H k (.ref a) 1
  | lst {k k' : Nat} {a b : Addr} {us : List V} {s : Nat} : 0 < k → k < k' → SqT K H a [.str "list", .ref b] → Sq K H b us → ZA K H k us s → Zt K H k' (.ref a) (1 + s)
  | row {k k' : Nat} {a b : Addr} {us : List V} {s : Nat} : 0 < k → k < k' → SqT K H a [.str "row", .ref b] → Sq K H b us → us.length ≤ 1000 → ZW K H k us s → Zt K H k' (.ref a) (1 + us.length + s)
inductive ZA (K : Frag) (H : Hp) : Nat → List V → Nat → Prop
  | nil {k : Nat} : ZA K H k [] 0
  | cons {k : Nat} {v : V} {vs : List V} {s t : Nat} : Zt K H k v s → ZA K H k vs t → ZA K H k (v :: vs) (s + t)
inductive ZW (K : Frag) (H : Hp) : Nat → List V → Nat → Prop
  | nil {k : Nat} : ZW K H k [] 0
  | txt {k : Nat} {z : Str} {vs : List V} {t : Nat} : ZW K H k vs t → ZW K H k (.str z :: vs) t
  | push {k : Nat} {a : Addr} {u : V} {vs : List V} {s t : Nat} : SqT K H a [.str "push", u] → Zt K H k u s → ZW K H k vs t → ZW K H k (.ref a :: vs) (s + t)
end
mutual
theorem Zt.keep {K : Frag} {H H' : Hp} (s : Same H H') : ∀ {k : Nat} {v : V} {n : Nat}, Zt K H k v n → Zt K H' k v n
  | _, _, _, .num h a => .num h (TKs.of s _ _ a)
  | _, _, _, .lst h l a b c => .lst h l (TKs.of s _ _ a) (b.keep s) (ZA.keep s c)
  | _, _, _, .row h l a b e c => .row h l (TKs.of s _ _ a) (b.keep s) e (ZW.keep s c)
theorem ZA.keep {K : Frag} {H H' : Hp} (s : Same H H') : ∀ {k : Nat} {v : List V} {n : Nat}, ZA K H k v n → ZA K H' k v n
  | _, _, _, .nil => .nil
  | _, _, _, .cons a b => .cons (Zt.keep s a) (ZA.keep s b)
theorem ZW.keep {K : Frag} {H H' : Hp} (s : Same H H') : ∀ {k : Nat} {v : List V} {n : Nat}, ZW K H k v n → ZW K H' k v n
  | _, _, _, .nil => .nil
  | _, _, _, .txt b => .txt (ZW.keep s b)
  | _, _, _, .push a b c => .push (TKs.of s _ _ a) (Zt.keep s b) (ZW.keep s c)
end
theorem Zt.up {K : Frag} {H : Hp} {k k' : Nat} (l : k ≤ k') {v : V} {n : Nat} (h : Zt K H k v n) : Zt K H k' v n := by
  cases h with
  | num h a => exact .num (by omega) a
  | lst h q a b c => exact .lst h (by omega) a b c
  | row h q a b e c => exact .row h (by omega) a b e c
theorem ZA.up {K : Frag} {H : Hp} {k k' : Nat} : ∀ {v : List V} {n : Nat}, ZA K H k v n → k ≤ k' → ZA K H k' v n
  | _, _, .nil, _ => .nil
  | _, _, .cons a b, l => .cons (a.up l) (b.up l)
theorem ZA.app {K : Frag} {H : Hp} {k : Nat} : ∀ {a b : List V} {m n : Nat}, ZA K H k a m → ZA K H k b n → ZA K H k (a ++ b) (m + n)
  | _, _, _, _, .nil, h => by rw [Nat.zero_add]; exact h
  | _, _, _, _, .cons a b, h => by rw [Nat.add_assoc]; exact .cons a (b.app h)
theorem drop_at {α : Type} {xs : List α} {i : Nat} {x : α} (h : xs[i]? = some x) : xs.drop i = x :: xs.drop (i + 1) := by
  obtain ⟨hl, rfl⟩ := List.getElem?_eq_some_iff.mp h
  exact List.drop_eq_getElem_cons hl
mutual
theorem Zt.of {K : Frag} {H : Hp} : ∀ {k w m : Nat} {t : PyData} {v : V}, Thg k w m t → m ≤ 1000 → Tr K H v t → ∃ s, Zt K H (k + 1) v s
  | k, _, _, _, v, .num n h0 h1, _, h => by
    cases h with
    | tup a b =>
      cases b with
      | cons b c =>
        cases b
        cases c with
        | cons b c =>
          cases c
          exact ⟨_, .num (Nat.succ_pos k) a⟩
  | k', _, _, _, v, .row (k := k) (m := m) (ws := ws) r l, hm, h => by
    cases h with
    | tup a b =>
      cases b with
      | cons b c =>
        cases b
        cases c with
        | cons b c =>
          cases c
          cases b with
          | tup b c =>
            have hl := c.len
            have h2 := r.len
            obtain ⟨s, hs⟩ := ZW.of r (by omega) c
            exact ⟨_, .row (Nat.succ_pos k) (Nat.succ_lt_succ l) a (.inr b) (by omega) hs⟩
  | k', _, _, _, v, .lst (k := k) (m := m) (ts := ts) r l, hm, h => by
    cases h with
    | tup a b =>
      cases b with
      | cons b c =>
        cases b
        cases c with
        | cons b c =>
          cases c
          cases b with
          | tup b c =>
            obtain ⟨s, hs⟩ := ZA.of r (by omega) c
            exact ⟨_, .lst (Nat.succ_pos k) (Nat.succ_lt_succ l) a (.inr b) hs⟩
theorem ZW.of {K : Frag} {H : Hp} : ∀ {k w m : Nat} {ws : List PyData} {vs : List V}, Rw k w m ws → m ≤ 1000 → TrAll K H vs ws → ∃ s, ZW K H (k + 1) vs s
  | k, _, _, _, vs, .nil, _, h => by
    cases h
    exact ⟨_, .nil⟩
  | k, _, _, _, vs, .txt x r, hm, h => by
    cases h with
    | cons a b =>
      cases a
      obtain ⟨s, hs⟩ := ZW.of r (by omega) b
      exact ⟨_, .txt hs⟩
  | k, _, _, _, vs, .push (t := t) x r, hm, h => by
    cases h with
    | cons a b =>
      cases a with
      | tup a c =>
        cases c with
        | cons e c =>
          cases e
          cases c with
          | cons e c =>
            cases c
            obtain ⟨s, hs⟩ := ZW.of r (by omega) b
            obtain ⟨s', hs'⟩ := Zt.of x (by omega) e
            exact ⟨_, .push a hs' hs⟩
theorem ZA.of {K : Frag} {H : Hp} : ∀ {k w m : Nat} {ws : List PyData} {vs : List V}, Stk k w m ws → m ≤ 1000 → TrAll K H vs ws → ∃ s, ZA K H (k + 1) vs s
  | k, _, _, _, vs, .nil, _, h => by
    cases h
    exact ⟨_, .nil⟩
  | k, _, _, _, vs, .cons x r, hm, h => by
    cases h with
    | cons a b =>
      obtain ⟨s, hs⟩ := ZA.of r (by omega) b
      obtain ⟨s', hs'⟩ := Zt.of x (by omega) a
      exact ⟨_, .cons hs' hs⟩
end
section
variable {P : Program} {w : World} {K : PySem.W.Frag} {mg : Str → Option Value} {base : Heap}
def spSize (K : Frag) (k : Nat) : Sp := fun vs H Q _ => ∃ (a : Addr) (xs : List V) (s : Nat), 0 < k ∧ vs = [.ref a] ∧ Sq K H a xs ∧ ZA K H k xs s ∧ ∀ H', Same H H' → Q (.int s) H'
abbrev NZ : List Str := ["_law_things", "_law_total", "_law_thing_here", "_law_word"]
theorem scSize : FnScope NZ ["_law_things"] (defScope sSize) := ⟨rfl, rfl, rfl, by decide +kernel, rfl, by decide +kernel, by decide +kernel⟩
theorem ok_size0 {f : Addr} {fd : FuncData} (F : Fun K "_law_size" "_law_size" sSize f fd) : FnOk P w K mg base CX0 1 f fd ["_law_things"] (spSize K 0) := by
  refine F.ok scSize (fun vs H Q E h => ?_) (fun cdv A outer s H vs Q E hr h => ?_)
  · obtain ⟨a, xs, s, h, _⟩ := h
    exact absurd h (Nat.lt_irrefl 0)
  · obtain ⟨a, xs, s, h, _⟩ := h
    exact absurd h (Nat.lt_irrefl 0)
theorem ok_sizeS {k : Nat} {f g : Addr} {fd gd : FuncData} (F : Fun K "_law_size" "_law_size" sSize f fd) (G : FnOk P w K mg base CX0 (k + 1) g gd ["_law_things"] (spSize K k)) (bG : L2.Binds K gd ["_law_things"] []) (kG : keepIn K (.ref g) = true) (mG : mg "_law_size" = some (.ref g)) (mlen : mg "len" = none) (misi : mg "isinstance" = none) (mtup : mg "tuple" = none) :
    FnOk P w K mg base CX0 (k + 2) f fd ["_law_things"] (spSize K (k + 1)) := by
  refine F.ok scSize (fun vs H Q E h => ?_) (fun cdv A outer s H vs Q E hr h => ?_)
  · obtain ⟨a, xs, s, _, rfl, _⟩ := h
    rfl
  obtain ⟨a, xs, n, _, rfl, hx, hz, q⟩ := h
  refine ⟨_, pss_cons (ps_set (i := 1) scSize.nd rfl (.inl rfl) pe_int)
    (pss_cons (ps_for PassesOwn.never rfl (pi_or (pi_list (pv 0)) (pi_tup (pv 0))) (pg_name (i := 2) scSize.nd rfl (.inl rfl))
      (pss_cons (ps_set (i := 1) scSize.nd rfl (.inl rfl) (pe_op op_add (pv 1) pe_int))
      (C8.pss_cut (ps_if (pt_cmpR op_eq (pe_ix ix_tup (pv 2) pe_int (fun _ _ => rfl)) pe_str (nomark _))
        (pss_one (ps_set (i := 1) scSize.nd rfl (.inl rfl) (pe_op op_add (pv 1) (pe_call G hr rfl mG kG bG .nil pass0 (pa_cons (pe_ix ix_tup (pv 2) pe_int (fun _ _ => rfl)) pa_nil))))) pss_nil)
      (pss_one (ps_if (pt_cmpR op_eq (pe_ix ix_tup (pv 2) pe_int (fun _ _ => rfl)) pe_str (nomark _))
        (pss_one (ps_set (i := 1) scSize.nd rfl (.inl rfl) (pe_op op_add (pe_op op_add (pv 1) (pe_callB call_len_seq (by rfl) mlen PySem.boot_len (pa_cons (pe_ix ix_tup (pv 2) pe_int (fun _ _ => rfl)) pa_nil)))
          (pe_call G hr rfl mG kG bG .nil pass0 (pa_cons (pe_lc (own := [("_law_word", 3)]) (g := gName 3) (tt := tB (tCB (rIsi K) (tCons (tVar 3) (tCons (tC (V.ty "tuple")) tNil)))) (te := tOp (rIxT K) (tVar 3) (tC (.int 1))) rfl scSize.nd (pi_or (pi_list (pe_ix ix_tup (pv 2) pe_int (fun _ _ => rfl))) (pi_tup (pe_ix ix_tup (pv 2) pe_int (fun _ _ => rfl)))) (blkOk_by (own := [("_law_word", 3)]) (N := NZ) (sc := defScope sSize) (by decide +kernel))
            (fun _ _ _ _ _ => pg_name (i := 3) scSize.nd rfl (Or.inl rfl)) (fun _ _ _ _ _ => pts_one (pt_val (pe_callB call_isi (by rfl) misi PyProof.Rows.boot_isinstance (pa_cons (pv 3) (pa_cons (pe_bltn (v := .ty "tuple") (by rfl) mtup (by decide +kernel) rfl) pa_nil))))) (fun _ _ _ _ _ => pe_ix ix_tup (pv 3) pe_int (fun _ _ => rfl))) pa_nil))))) pss_nil)))))
    (pss_one (ps_ret (pv 1)))), ?_⟩
  refine for_sq (K := K) (a := a) (tl := tVar 0) (g := gName 2) (fun R r => ⟨_, rfl, r⟩) hx (fun i σ' H' => ∃ (t r : Nat) (x2 x3 : Option V), σ' = [some (.ref a), some (.int t), x2, x3] ∧ Same H H' ∧ ZA K H' (k + 1) (xs.drop i) r ∧ t + r = n)
    ⟨0, n, none, none, rfl, fun _ _ h => h, hz, Nat.zero_add n⟩ (fun i σ' H' ⟨_, _, _, _, _, s, _⟩ => s) ?_ ?_
  · rintro i x σ' H1 hi ⟨t, r, x2, x3, rfl, s1, hr1, ht⟩
    rw [drop_at hi] at hr1
    have n1 : decide (V.str "number" = V.str "row") = false := by decide +kernel
    have n2 : decide (V.str "number" = V.str "list") = false := by decide +kernel
    have n3 : decide (V.str "list" = V.str "row") = false := by decide +kernel
    have n4 : decide (V.str "row" = V.str "row") = true := decide_eq_true rfl
    have n5 : decide (V.str "list" = V.str "list") = true := decide_eq_true rfl
    have n6 : decide (V.str "row" = V.str "list") = false := by decide +kernel
    cases hr1 with
    | cons ha hb =>
      rename_i s0 t0
      refine ⟨_, rfl, _, _, rfl, rfl, ?_⟩
      cases ha with
      | num h0 hs =>
        rename_i b0 v0
        refine ⟨fun σ2 H2 => σ2 = [some (.ref a), some (.int ((t : Int) + 1)), some (.ref b0), x3] ∧ H2 = H1, ?_, ?_⟩
        · refine ⟨_, rfl, b0, _, 0, _, rfl, rfl, hs, atI_nat (j := 0) rfl, rfl, _, rfl, ?_⟩
          rw [n2]
          exact iteF ⟨rfl, rfl⟩
        · rintro σ2 H2 ⟨rfl, rfl⟩
          refine ⟨_, rfl, b0, _, 0, _, rfl, rfl, hs, atI_nat (j := 0) rfl, rfl, _, rfl, ?_⟩
          rw [n1]
          exact iteF ⟨t + 1, t0, _, _, rfl, s1, hb, by omega⟩
      | lst h0 hk hs hq hz2 =>
        rename_i k0 b0 b1 us s2
        refine ⟨fun σ2 H2 => σ2 = [some (.ref a), some (.int ((t + 1 + s2 : Nat) : Int)), some (.ref b0), x3] ∧ Same H1 H2, ?_, ?_⟩
        · refine ⟨_, rfl, b0, _, 0, _, rfl, rfl, hs, atI_nat (j := 0) rfl, rfl, _, rfl, ?_⟩
          rw [n5]
          refine iteT ⟨_, rfl, _, rfl, b0, _, 1, _, rfl, rfl, hs, atI_nat (j := 1) rfl, b1, us, s2, by omega, rfl, hq, hz2.up (by omega), fun H2 sm => ⟨_, _, rfl, rfl, rfl, sm⟩⟩
        · rintro σ2 H2 ⟨rfl, sm⟩
          refine ⟨_, rfl, b0, _, 0, _, rfl, rfl, TKs.of sm _ _ hs, atI_nat (j := 0) rfl, rfl, _, rfl, ?_⟩
          rw [n3]
          exact iteF ⟨t + 1 + s2, t0, _, _, rfl, s1.trans sm, hb.keep sm, by omega⟩
      | row h0 hk hs hq hl hz2 =>
        rename_i k0 b0 b1 us s2
        refine ⟨fun σ2 H2 => σ2 = [some (.ref a), some (.int ((t : Int) + 1)), some (.ref b0), x3] ∧ H2 = H1, ?_, ?_⟩
        · refine ⟨_, rfl, b0, _, 0, _, rfl, rfl, hs, atI_nat (j := 0) rfl, rfl, _, rfl, ?_⟩
          rw [n6]
          exact iteF ⟨rfl, rfl⟩
        · rintro σ2 H2 ⟨rfl, rfl⟩
          refine ⟨_, rfl, b0, _, 0, _, rfl, rfl, hs, atI_nat (j := 0) rfl, rfl, _, rfl, ?_⟩
          rw [n4]
          refine iteT ⟨_, rfl, _, rfl, b0, _, 1, _, rfl, rfl, hs, atI_nat (j := 1) rfl, b1, us, rfl, hq, _, _, rfl, rfl, ?_⟩
          refine call_lc (sp := spSize K k) (E := E0) (lc_sq (K := K) (a := b1) (xs := us) (g := gName 3) (tl := tOp (rIxT K) (tVar 2) (tC (.int 1))) (tt := tB (tCB (rIsi K) (tCons (tVar 3) (tCons (tC (V.ty "tuple")) tNil)))) (te := tOp (rIxT K) (tVar 3) (tC (.int 1))) (vs := [3]) (σ := [some (.ref a), some (.int ((t : Int) + 1)), some (.ref b0), x3]) (fun R r => ⟨_, rfl, b0, _, 1, _, rfl, rfl, hs, atI_nat (j := 1) rfl, r⟩) hq (fun D i H' => ∃ (acc : List V) (p r : Nat), Same H2 H' ∧ H' D = some (.lst acc) ∧ acc.length ≤ i ∧ ZA K H2 k0 acc p ∧ ZW K H2 k0 (us.drop i) r ∧ p + r = s2)
            (fun D hD => ⟨[], 0, s2, same_new hD _, upd_same, Nat.le_refl 0, .nil, hz2, Nat.zero_add s2⟩) (fun D i H' ⟨_, _, _, s, _⟩ => s) ?_ ?_)
          · rintro D j x H3 hD hj ⟨acc, p, r, s3, hacc, hla, hza, hzr, hp⟩
            have hjl : j < us.length := (List.getElem?_eq_some_iff.mp hj).1
            rw [drop_at hj] at hzr
            cases hzr with
            | txt hz3 =>
              refine ⟨rfl, _, rfl, _, _, _, _, false, rfl, .ty _, .base (.str _), kit_ty (r := false) (by decide +kernel), _, rfl, iteF ?_⟩
              exact ⟨acc, p, r, s3, hacc, by omega, hza, hz3, hp⟩
            | push hs3 hz4 hz3 =>
              rename_i ad uu m1 m2
              refine ⟨rfl, _, rfl, _, _, _, _, true, rfl, .ty _, tyTup (TKs.of s3 _ _ hs3), kit_ty (r := true) (by decide +kernel), _, rfl, iteT ?_⟩
              have sm4 : Same H2 (upd H3 D (.lst (acc ++ [uu]))) := own_new s3 hD
              refine ⟨_, rfl, ad, _, 1, _, rfl, rfl, TKs.of s3 _ _ hs3, atI_nat (j := 1) rfl, acc, hacc, small1000 (by omega), acc ++ [uu], p + m1, m2, sm4, upd_same, by rw [List.length_append, List.length_singleton]; omega, ?_, hz3, by omega⟩
              have := hza.app (ZA.cons hz4 ZA.nil)
              rw [Nat.add_zero] at this
              exact this
          · rintro D H3 hD ⟨acc, p, r, s3, hacc, hla, hza, hzr, hp⟩
            rw [List.drop_length] at hzr
            cases hzr
            refine ⟨D, acc, s2, by omega, rfl, .inl (SqL.of hacc), (by rw [← hp]; exact (hza.up (by omega)).keep s3), fun H4 sm => ⟨_, _, rfl, rfl, ?_⟩⟩
            exact ⟨t + 1 + us.length + s2, t0, _, _, rfl, s1.trans (s3.trans sm), hb.keep (s3.trans sm), by omega⟩
  · rintro σ' H1 ⟨t, r, x2, x3, rfl, s1, hr1, ht⟩
    rw [List.drop_length] at hr1
    cases hr1
    refine ⟨_, rfl, ?_⟩
    have e : (t : Int) = n := by omega
    rw [e]
    exact q H1 s1
theorem cut_last (xs : List V) : cutV xs none (some (-1)) = xs.take (xs.length - 1) := by
  unfold cutV HT.sIx
  show List.take ((if (-1 : Int) < 0 then ((-1 : Int) + (xs.length : Nat)).toNat else _) - 0) (List.drop 0 xs) = _
  rw [if_pos (by decide), List.drop_zero, Nat.sub_zero]
  congr 1
  omega
theorem TrAll.take {K : Frag} {H : Hp} : ∀ {v : List V} {d : List PyData} (n : Nat), TrAll K H v d → TrAll K H (v.take n) (d.take n)
  | _, _, 0, _ => .nil
  | _, _, n + 1, .nil => .nil
  | _, _, n + 1, .cons h t => .cons h (TrAll.take n t)
theorem Rw.take {k : Nat} : ∀ {ws : List PyData} {w m : Nat} (n : Nat), Rw k w m ws → ∃ w' m', Rw k w' m' (ws.take n) ∧ m' ≤ m
  | _, _, _, 0, _ => ⟨0, 0, .nil, Nat.zero_le _⟩
  | _, _, _, n + 1, .nil => ⟨0, 0, .nil, Nat.le_refl _⟩
  | _, _, _, n + 1, .txt h t => by
    obtain ⟨w', m', a, b⟩ := Rw.take n t
    exact ⟨_, _, .txt h a, by omega⟩
  | _, _, _, n + 1, .push h t => by
    obtain ⟨w', m', a, b⟩ := Rw.take n t
    exact ⟨_, _, .push h a, by omega⟩
def spCut (K : Frag) : Sp := fun vs H Q _ => ∃ (b : Addr) (xs : List V) (rs : List PyData) (k w m : Nat), vs = [.ref b, .int 24] ∧ H b = some (.lst xs) ∧ TrAll K H xs rs ∧ Rw k w m rs ∧ m ≤ 1000 ∧ k ≤ 8 ∧
  ∀ (t : Addr) (rs' : List PyData) (w' m' : Nat) (H' : Hp), Tr K H' (.ref t) (.tuple rs') → Rw k w' m' rs' → m' ≤ m → Same H H' → Q (.ref t) H'
theorem scCut : FnScope ["_law_words", "_law_most"] ["_law_words", "_law_most"] (defScope sCut) := ⟨rfl, rfl, rfl, by decide +kernel, rfl, by decide +kernel, by decide +kernel⟩
theorem ok_cut {f g : Addr} {fd gd : FuncData} (F : Fun K "_law_cut" "_law_cut" sCut f fd) (G : FnOk P w K mg base CX0 11 g gd ["_law_things"] (spSize K 10)) (bG : L2.Binds K gd ["_law_things"] []) (kG : keepIn K (.ref g) = true) (mG : mg "_law_size" = some (.ref g)) (mtup : mg "tuple" = none) :
    FnOk P w K mg base CX0 12 f fd ["_law_words", "_law_most"] (spCut K) := by
  refine F.ok scCut (fun vs H Q E h => ?_) (fun cdv A outer s H vs Q E hr h => ?_)
  · obtain ⟨b, xs, rs, k, w, m, rfl, _⟩ := h
    rfl
  obtain ⟨b, xs, rs, k, w, m, rfl, hb, hx, hw, hm, hk, q⟩ := h
  refine ⟨_, pss_cons (ps_while PassesOwn.never (pt_cmpR op_gt (pe_call G hr rfl mG kG bG .nil pass0 (pa_cons (pe_lst (pa_cons (pe_tup (pa_cons pe_str (pa_cons (pv 0) pa_nil))) pa_nil)) pa_nil)) (pv 1) (nomark _))
      (pss_one (ps_set (i := 0) scCut.nd rfl (.inl rfl) (pe_slice sl_list (pv 0) po_none (po_some (pe_un un_neg pe_int))))))
    (pss_one (ps_ret (pe_callTy call_tuple_of (by rfl) mtup (by decide +kernel) (pa_cons (pv 0) pa_nil)))), ?_⟩
  refine ⟨fun mm σ H' => ∃ (b : Addr) (xs : List V) (rs : List PyData) (w' m' : Nat), σ = [some (.ref b), some (.int 24)] ∧ Same H H' ∧ H' b = some (.lst xs) ∧ TrAll K H' xs rs ∧ Rw k w' m' rs ∧ m' ≤ m ∧ mm = xs.length,
    ⟨_, b, xs, rs, w, m, rfl, fun _ _ h => h, hb, hx, hw, Nat.le_refl m, rfl⟩, ?_⟩
  rintro mm σ H1 ⟨b, xs, rs, w', m', rfl, s1, hb, hx, hw, hm', rfl⟩
  refine ⟨_, rfl, (by show 2 ≤ sizeLine; decide), fun p np => ⟨(by show 1 ≤ sizeLine; decide), fun l nl => ?_⟩⟩
  have s2 : Same H1 (upd (upd H1 p (.tup [.str "row", .ref b])) l (.lst [.ref p])) := (same_new np _).trans (same_new nl _)
  have hp : upd (upd H1 p (.tup [.str "row", .ref b])) l (.lst [.ref p]) p = some (.tup [.str "row", .ref b]) := kn upd_same nl
  have hl : upd (upd H1 p (.tup [.str "row", .ref b])) l (.lst [.ref p]) l = some (.lst [.ref p]) := upd_same
  generalize upd (upd H1 p (.tup [.str "row", .ref b])) l (.lst [.ref p]) = H2 at s2 hp hl
  obtain ⟨sz, hz⟩ := ZW.of hw (by omega) hx
  have lx := hx.len
  have lw := hw.len
  have hz2 : ZA K H2 10 [.ref p] (1 + xs.length + sz + 0) := .cons (.row (k := k + 1) (Nat.succ_pos k) (by omega) (SqT.of hp) (.inl (SqL.of (s2 _ _ hb))) (by omega) (hz.keep s2)) .nil
  refine ⟨l, _, _, by decide, rfl, .inl (SqL.of hl), hz2, fun H3 s3 => ?_⟩
  have s13 := s2.trans s3
  refine ⟨_, rfl, _, _, rfl, rfl, _, rfl, ite2 (fun c => ?_) (fun c => ?_)⟩
  · have c' : (24 : Int) < ((1 + xs.length + sz + 0 : Nat) : Int) := of_decide_eq_true c
    have nx : xs ≠ [] := by
      rintro rfl
      cases hz
      exact absurd c' (by decide)
    have lpos : 0 < xs.length := List.length_pos_iff.mpr nx
    refine ⟨fun σ' H4 => ∃ (b : Addr) (ys : List V) (rs : List PyData) (w' m' : Nat), σ' = [some (.ref b), some (.int 24)] ∧ Same H H4 ∧ H4 b = some (.lst ys) ∧ TrAll K H4 ys rs ∧ Rw k w' m' rs ∧ m' ≤ m ∧ ys.length < xs.length, ?_, ?_⟩
    · rintro σ' H4 ⟨b, ys, rs, w', m', rfl, a1, a2, a3, a4, a5, a6⟩
      exact ⟨_, a6, b, ys, rs, w', m', rfl, a1, a2, a3, a4, a5, rfl⟩
    · refine ⟨_, rfl, _, rfl, _, rfl, b, _, rfl, SqL.of (s13 _ _ hb), fun b2 nb => ?_⟩
      rw [cut_last]
      obtain ⟨w2, m2, hw2, hm2⟩ := Rw.take (xs.length - 1) hw
      refine ⟨b2, xs.take (xs.length - 1), rs.take (xs.length - 1), w2, m2, rfl, (s1.trans s13).trans (same_new nb _), upd_same, ?_, hw2, by omega, ?_⟩
      · exact (TrAll.take _ hx).mono (.of (s13.trans (same_new nb _)))
      · rw [List.length_take]; omega
  · refine ⟨_, rfl, b, xs, rfl, .inl ⟨SqL.of (s13 _ _ hb), fun t nt => ?_⟩⟩
    exact q t rs w' m' _ (.tup (SqT.of upd_same) (hx.mono (.of (s13.trans (same_new nt _))))) hw hm' ((s1.trans s13).trans (same_new nt _))
end
end K09
namespace K09
open PySem PySem.W L2 SX Cm
/-- how large a thing of this depth may be -/
def BT : Nat → Nat
  | 0 => 1
  | k + 1 => 1 + 6 * (1 + BT k)
theorem BT2 : ∀ {j : Nat}, j ≤ 2 → BT j ≤ 85
  | 0, _ => by decide
  | 1, _ => by decide
  | 2, _ => by decide
  | n + 3, h => absurd h (by omega)
section
variable {P : Program} {w : World} {K : PySem.W.Frag} {mg : Str → Option Value} {base : Heap}
abbrev A2 : List Str := ["_law_deck_here", "_law_deep"]
def spThing (K : Frag) (k : Nat) : Sp := fun vs H Q _ => ∃ (d : Addr) (j : Nat), k = j + 1 ∧ vs = [.ref d, .int j] ∧ j ≤ 3 ∧ Dk H d ∧ ∀ (v : V) (t : PyData) (n m : Nat) (H' : Hp), Tr K H' v t → Thg j n m t → m ≤ BT j → Kp [d] H H' → Dk H' d → Q v H'
/-- one word, as a row of one -/
def spAny (K : Frag) (k : Nat) : Sp := fun vs H Q _ => ∃ (d : Addr) (j : Nat), k = j + 1 ∧ vs = [.ref d, .int j] ∧ j ≤ 3 ∧ Dk H d ∧ ∀ (v : V) (y : PyData) (n m : Nat) (H' : Hp), Tr K H' v y → Rw j n m [y] → m ≤ 1 + BT j → Kp [d] H H' → Dk H' d → Q v H'
def basics : List Str := ["plus", "minus", "times", "less", "same", "do", "dip", "if", "while", "repeat", "join", "wrap", "put"]
def basics2 : List Str := ["plus", "minus", "times", "less", "same", "do", "dip", "if", "while", "repeat", "join", "wrap", "put", "part", "each"]
theorem basics_tx : ∀ z ∈ basics2, litB z 6 = true := by decide +kernel
abbrev NWd : List Str := ["_law_deck_here", "_law_deep", "_law_basic", "_law_way"]
theorem scAny : FnScope NWd A2 (defScope sAnyWord) := ⟨rfl, rfl, rfl, by decide +kernel, rfl, by decide +kernel, by decide +kernel⟩
theorem ok_any {k : Nat} {f g gt gs : Addr} {fd gd gtd gsd : FuncData} (F : Fun K "_law_any_word" "_law_any_word" sAnyWord f fd) (G : FnOk P w K mg base CX0 2 g gd ["_law_deck_here", "_law_most"] spDraw) (bG : L2.Binds K gd ["_law_deck_here", "_law_most"] []) (kG : keepIn K (.ref g) = true) (mG : mg "_law_draw" = some (.ref g))
    (T : FnOk P w K mg base CX0 (13 + 2 * k) gt gtd A2 (spThing K k)) (bT : L2.Binds K gtd A2 []) (kT : keepIn K (.ref gt) = true) (mT : mg "_law_thing" = some (.ref gt))
    (Z : FnOk P w K mg base CX0 3 gs gsd ["_law_deck_here", "_law_most"] spShuffle) (bZ : L2.Binds K gsd ["_law_deck_here", "_law_most"] []) (kZ : keepIn K (.ref gs) = true) (mZ : mg "_law_shuffle" = some (.ref gs)) : FnOk P w K mg base CX0 (13 + 2 * k + 1) f fd A2 (spAny K k) := by
  refine F.ok scAny (fun vs H Q E h => ?_) (fun cdv A outer s H vs Q E hr h => ?_)
  · obtain ⟨d, j, _, rfl, _⟩ := h
    rfl
  obtain ⟨d, j, ek, rfl, hj, g0, q⟩ := h
  have hr2 := hr.mono (j := 2) (by omega)
  have hr3 := hr.mono (j := 3) (by omega)
  refine ⟨_, pss_cons (ps_set (i := 2) scAny.nd rfl (.inl rfl) (pe_lst (pa_cons pe_str (pa_cons pe_str (pa_cons pe_str (pa_cons pe_str (pa_cons pe_str (pa_cons pe_str (pa_cons pe_str (pa_cons pe_str (pa_cons pe_str (pa_cons pe_str (pa_cons pe_str (pa_cons pe_str (pa_cons pe_str pa_nil)))))))))))))))
    (pss_cons (ps_set (i := 3) scAny.nd rfl (.inl rfl) (pe_call G hr2 rfl mG kG bG .nil pass0 (pa_cons (pv 0) (pa_cons pe_int pa_nil))))
    (pss_cons (ps_if (pt_cmpR op_lt (pv 3) pe_int (nomark _)) (pss_one (ps_ret (pe_tup (pa_cons pe_str (pa_cons (pe_call T hr rfl mT kT bT .nil pass0 (pa_cons (pv 0) (pa_cons (pv 1) pa_nil))) pa_nil))))) pss_nil)
    (pss_cons (ps_if (pt_cmpR op_lt (pv 3) pe_int (nomark _)) (pss_one (ps_ret (pe_call Z hr3 rfl mZ kZ bZ .nil pass0 (pa_cons (pv 0) (pa_cons (pe_ix ix_list (pe_lst (pa_cons pe_int (pa_cons pe_int pa_nil))) (pe_op op_fdiv (pe_call G hr2 rfl mG kG bG .nil pass0 (pa_cons (pv 0) (pa_cons pe_int pa_nil))) pe_int) (fun _ _ => rfl)) pa_nil))))) pss_nil)
    (pss_one (ps_ret (pe_ix ix_list (pe_op op_cat (pv 2) (pe_lst (pa_cons pe_str (pa_cons pe_str pa_nil)))) (pe_call G hr2 rfl mG kG bG .nil pass0 (pa_cons (pv 0) (pa_cons pe_int pa_nil))) (fun _ _ => rfl))))))), ?_⟩
  refine ⟨(by show 13 ≤ sizeLine; decide), fun b nb => ?_⟩
  have nbd := g0.nd nb
  have g1 := g0.new nb (o := .lst (basics.map V.str))
  have k1 : Kp [d] H (upd H b (.lst (basics.map V.str))) := (Kp.refl _ H).new nb
  have hb1 : upd H b (.lst (basics.map V.str)) b = some (.lst (basics.map V.str)) := upd_same
  refine ⟨_, rfl, d, 8, rfl, g1, by decide, by decide, fun r H2 _ _ k2 g2 => ?_⟩
  have kk2 := k1.trans k2
  have hb2 : H2 b = some (.lst (basics.map V.str)) := k2 b _ nbd hb1
  have txt : ∀ (z : Str) (H' : Hp), Tx z 100 → Kp [d] H2 H' → Dk H' d → Q (.str z) H' := fun z H' tz k4 D4 =>
    q _ _ _ _ H' (.str z) (.txt tz .nil) (by show 0 + 1 ≤ _; omega) (kk2.trans k4) D4
  refine ⟨_, rfl, _, _, rfl, rfl, _, rfl, ite2 (fun _ => ?_) (fun _ => ?_)⟩
  · refine ⟨_, rfl, _, rfl, d, j, ek, rfl, hj, g2, fun v t n m H3 hv ht hm k3 g3 => ⟨(by show 2 ≤ sizeLine; decide), fun p np => ?_⟩⟩
    refine q _ _ _ _ _ (.tup (SqT.of upd_same) (.cons (.str _) (.cons (hv.mono (.of (same_new np _))) .nil))) (.push ht .nil) ?_ ((kk2.trans k3).new np) (g3.new np)
    show m + 0 + 1 ≤ 1 + BT j
    omega
  refine ⟨_, rfl, _, _, rfl, rfl, _, rfl, ite2 (fun _ => ?_) (fun _ => ?_)⟩
  · refine ⟨_, rfl, (by show 2 ≤ sizeLine; decide), fun p hp => ?_⟩
    refine ⟨_, rfl, d, 8, rfl, g2.new hp, by decide, by decide, fun u H3 u0 u8 k3 g3 => ?_⟩
    have hp3 : H3 p = some (.lst [.int 3, .int 8]) := k3 p _ (g2.nd hp) upd_same
    obtain ⟨wd, w0, w1, aw⟩ : ∃ wd : Int, 0 ≤ wd ∧ wd ≤ 8 ∧ atI [V.int 3, V.int 8] (u / 7) = some (.int wd) := by
      have e : u / 7 = 0 ∨ u / 7 = 1 := by omega
      rcases e with e | e
      · rw [e]; exact ⟨3, by decide, by decide, atI_nat (j := 0) rfl⟩
      · rw [e]; exact ⟨8, by decide, by decide, atI_nat (j := 1) rfl⟩
    refine ⟨_, _, rfl, rfl, ⟨by decide, by decide⟩, p, _, _, _, rfl, rfl, SqL.of hp3, aw, ?_⟩
    exact ⟨d, wd, rfl, g3, w0, w1, fun n l H4 sh k4 g4 => txt _ H4 sh.tx (((Kp.refl _ H2).new hp |>.trans k3).trans k4) g4⟩
  · refine ⟨_, rfl, (by show 2 ≤ sizeLine; decide), fun p hp => ?_⟩
    refine ⟨b, p, _, _, rfl, rfl, kn hb2 hp, upd_same, (by show 15 ≤ sizeLine; decide), fun b3 nb3 => ?_⟩
    refine ⟨_, rfl, d, 15, rfl, (g2.new hp).new nb3, by decide, by decide, fun r4 H4 r40 r41 k4 g4 => ?_⟩
    obtain ⟨v, hv, ha⟩ := pick (xs := basics2.map V.str) (n := 15) r40 r41 rfl
    obtain ⟨z, hz, rfl⟩ := List.mem_map.mp hv
    exact ⟨b3, _, _, _, rfl, rfl, SqL.of (k4 b3 _ ((g2.new hp).nd nb3) upd_same), ha, txt z H4 ((Tx.lit (basics_tx z hz)).mono (by decide)) ((((Kp.refl _ H2).new hp).new nb3).trans k4) g4⟩
end
end K09
namespace K09
open PySem PySem.W L2 SX Cm
section
variable {P : Program} {w : World} {K : PySem.W.Frag} {mg : Str → Option Value} {base : Heap}
abbrev NT : List Str := ["_law_deck_here", "_law_deep", "_law_way", "_law_some", "_law_k"]
theorem scThing : FnScope NT A2 (defScope sThing) := ⟨rfl, rfl, rfl, by decide +kernel, rfl, by decide +kernel, by decide +kernel⟩
theorem ok_thing0 {f : Addr} {fd : FuncData} (F : Fun K "_law_thing" "_law_thing" sThing f fd) : FnOk P w K mg base CX0 13 f fd A2 (spThing K 0) := by
  refine F.ok scThing (fun vs H Q E h => ?_) (fun cdv A outer s H vs Q E hr h => ?_)
  · obtain ⟨d, j, h, _⟩ := h
    cases h
  · obtain ⟨d, j, h, _⟩ := h
    cases h
theorem ok_thing {k : Nat} {f g gn ga gc gt : Addr} {fd gd gnd gad gcd gtd : FuncData} (F : Fun K "_law_thing" "_law_thing" sThing f fd) (G : FnOk P w K mg base CX0 2 g gd ["_law_deck_here", "_law_most"] spDraw) (bG : L2.Binds K gd ["_law_deck_here", "_law_most"] []) (kG : keepIn K (.ref g) = true) (mG : mg "_law_draw" = some (.ref g))
    (N : FnOk P w K mg base CX0 3 gn gnd ["_law_deck_here"] spNumber) (bN : L2.Binds K gnd ["_law_deck_here"] []) (kN : keepIn K (.ref gn) = true) (mN : mg "_law_number" = some (.ref gn))
    (B : FnOk P w K mg base CX0 (13 + 2 * k + 1) ga gad A2 (spAny K k)) (bB : L2.Binds K gad A2 []) (kB : keepIn K (.ref ga) = true) (mB : mg "_law_any_word" = some (.ref ga))
    (T : FnOk P w K mg base CX0 (13 + 2 * k) gt gtd A2 (spThing K k)) (bT : L2.Binds K gtd A2 []) (kT : keepIn K (.ref gt) = true) (mT : mg "_law_thing" = some (.ref gt))
    (C : FnOk P w K mg base CX0 12 gc gcd ["_law_words", "_law_most"] (spCut K)) (bC : L2.Binds K gcd ["_law_words", "_law_most"] []) (kC : keepIn K (.ref gc) = true) (mC : mg "_law_cut" = some (.ref gc))
    (mrange : mg "range" = none) (mtup : mg "tuple" = none) : FnOk P w K mg base CX0 (13 + 2 * k + 1 + 1) f fd A2 (spThing K (k + 1)) := by
  refine F.ok scThing (fun vs H Q E h => ?_) (fun cdv A outer s H vs Q E hr h => ?_)
  · obtain ⟨d, j, _, rfl, _⟩ := h
    rfl
  obtain ⟨d, j, ek, rfl, hj, g0, q⟩ := h
  obtain rfl : k = j := Nat.succ.inj ek
  have hr2 := hr.mono (j := 2) (by omega)
  have hr3 := hr.mono (j := 3) (by omega)
  have hr12 := hr.mono (j := 12) (by omega)
  have hrT := hr.mono (j := 13 + 2 * k) (by omega)
  refine ⟨_, pss_cons (ps_set (i := 2) scThing.nd rfl (.inl rfl) (pe_call G hr2 rfl mG kG bG .nil pass0 (pa_cons (pv 0) (pa_cons pe_int pa_nil))))
    (pss_cons (ps_if (PW.pt (pw_or (pt_cmpR op_eq (pv 1) pe_int (nomark _)) (pw_or1 (pt_cmpR op_lt (pv 2) pe_int (nomark _))))) (pss_one (ps_ret (pe_tup (pa_cons pe_str (pa_cons (pe_call N hr3 rfl mN kN bN .nil pass0 (pa_cons (pv 0) pa_nil)) pa_nil))))) pss_nil)
    (pss_cons (ps_set (i := 3) scThing.nd rfl (.inl rfl) (pe_ix ix_list (pe_lst (pa_cons (pe_call G hr2 rfl mG kG bG .nil pass0 (pa_cons (pv 0) (pa_cons pe_int pa_nil))) (pa_cons (pe_call G hr2 rfl mG kG bG .nil pass0 (pa_cons (pv 0) (pa_cons pe_int pa_nil))) (pa_cons (pe_call G hr2 rfl mG kG bG .nil pass0 (pa_cons (pv 0) (pa_cons pe_int pa_nil))) pa_nil)))) (pe_call G hr2 rfl mG kG bG .nil pass0 (pa_cons (pv 0) (pa_cons pe_int pa_nil))) (fun _ _ => rfl)))
    (pss_cons (ps_if (pt_cmpR op_lt (pv 2) pe_int (nomark _)) (pss_one (ps_ret (pe_tup (pa_cons pe_str (pa_cons (pe_call C hr12 rfl mC kC bC .nil pass0 (pa_cons (pe_lc (own := [("_law_k", 4)]) (g := gName 4) (tt := tYes) rfl scThing.nd (pi_range1 rfl mrange (pa_cons (pv 3) pa_nil)) (blkOk_by (own := [("_law_k", 4)]) (N := NT) (sc := defScope sThing) (by decide +kernel))
        (fun _ _ _ _ _ => pg_name (i := 4) scThing.nd rfl (Or.inl rfl)) (fun _ _ _ _ _ => pts_nil) (fun _ _ _ _ _ => pe_call B hr rfl mB kB bB .nil pass0 (pa_cons (pv 0) (pa_cons (pe_op op_sub (pv 1) pe_int) pa_nil)))) (pa_cons pe_int pa_nil))) pa_nil))))) pss_nil)
    (pss_one (ps_ret (pe_tup (pa_cons pe_str (pa_cons (pe_callTy call_tuple_of (by rfl) mtup (by decide +kernel) (pa_cons (pe_lc (own := [("_law_k", 4)]) (g := gName 4) (tt := tYes) rfl scThing.nd (pi_range1 rfl mrange (pa_cons (pv 3) pa_nil)) (blkOk_by (own := [("_law_k", 4)]) (N := NT) (sc := defScope sThing) (by decide +kernel))
        (fun _ _ _ _ _ => pg_name (i := 4) scThing.nd rfl (Or.inl rfl)) (fun _ _ _ _ _ => pts_nil) (fun _ _ _ _ _ => pe_call T hrT rfl mT kT bT .nil pass0 (pa_cons (pv 0) (pa_cons (pe_op op_sub (pv 1) pe_int) pa_nil)))) pa_nil)) pa_nil)))))))), ?_⟩
  refine ⟨_, rfl, d, 6, rfl, g0, by decide, by decide, fun r H1 _ _ k1 g1 => ?_⟩
  have num : ∀ (n : Int) (H2 : Hp), 0 ≤ n → n < 10 ^ 12 → Kp [d] H1 H2 → Dk H2 d → ∀ p, H2 p = none → Q (.ref p) (upd H2 p (.tup [.str "number", .int n])) := fun n H2 n0 n1 k2 D2 p np =>
    q _ _ _ _ _ (.tup (SqT.of upd_same) (.cons (.str _) (.cons (.int _) .nil))) (.num n n0 n1) (by cases k with | zero => exact Nat.le_refl 1 | succ j => show 1 ≤ 1 + _; omega) ((k1.trans k2).new np) (D2.new np)
  refine ⟨_, rfl, rfl, _, rfl, ?_⟩
  cases k with
  | zero =>
    refine iteT (iteT ?_)
    exact ⟨_, rfl, d, rfl, g1, fun n H2 n0 n1 k2 D2 => ⟨(by show 2 ≤ sizeLine; decide), fun p np => num n H2 n0 n1 k2 D2 p np⟩⟩
  | succ j =>
    have nz : decide (V.int ((j + 1 : Nat) : Int) = V.int 0) = false := decide_eq_false (fun z => by have := V.int.inj z; omega)
    have dk : (((j + 1 : Nat) : Int) - 1) = (j : Int) := by omega
    have bt := BT2 (j := j) (by omega)
    have bj : BT (j + 1) = 1 + 6 * (1 + BT j) := rfl
    rw [nz]
    refine iteF ?_
    refine ⟨_, rfl, _, _, rfl, rfl, _, rfl, ite2 (fun _ => ?_) (fun _ => ?_)⟩
    · exact ⟨_, rfl, d, rfl, g1, fun n H2 n0 n1 k2 D2 => ⟨(by show 2 ≤ sizeLine; decide), fun p np => num n H2 n0 n1 k2 D2 p np⟩⟩
    refine ⟨_, rfl, d, 4, rfl, g1, by decide, by decide, fun a2 H2 a20 a21 k2 g2 => ?_⟩
    refine ⟨_, rfl, d, 4, rfl, g2, by decide, by decide, fun a3 H3 a30 a31 k3 g3 => ?_⟩
    refine ⟨_, rfl, d, 7, rfl, g3, by decide, by decide, fun a4 H4 a40 a41 k4 g4 => ⟨(by show 3 ≤ sizeLine; decide), fun p np => ?_⟩⟩
    refine ⟨_, rfl, d, 3, rfl, g4.new np, by decide, by decide, fun a5 H5 a50 a51 k5 g5 => ?_⟩
    have kk5 : Kp [d] H H5 := ((((k1.trans k2).trans k3).trans k4).new np).trans k5
    obtain ⟨v, hv, ha⟩ := pick (xs := [V.int a2, .int a3, .int a4]) (n := 3) a50 a51 rfl
    obtain ⟨n, n0, n1, rfl⟩ : ∃ n : Int, 0 ≤ n ∧ n ≤ 6 ∧ v = .int n := by
      simp only [List.mem_cons, List.not_mem_nil, or_false] at hv
      rcases hv with h | h | h
      · exact ⟨_, a20, by omega, h⟩
      · exact ⟨_, a30, by omega, h⟩
      · exact ⟨_, a40, by omega, h⟩
    refine ⟨p, _, _, _, rfl, rfl, SqL.of (k5 p _ (g4.nd np) upd_same), ha, ?_⟩
    obtain ⟨n, rfl⟩ := Int.eq_ofNat_of_zero_le n0
    refine ⟨_, rfl, _, _, rfl, rfl, _, rfl, ite2 (fun _ => ?_) (fun _ => ?_)⟩
    · refine ⟨_, rfl, _, rfl, by omega, by omega, fun L nL => lc_range (lo := 0) (n := n) (fun i H' => ∃ (acc : List V) (ts : List PyData) (a b : Nat), H' L = some (.lst acc) ∧ TrAll K H' acc ts ∧ Rw j a b ts ∧ b ≤ i * (1 + BT j) ∧ acc.length = i ∧ Kp [d] H H' ∧ Dk H' d)
        ⟨[], [], 0, 0, upd_same, .nil, .nil, Nat.zero_le _, rfl, kk5.new nL, g5.new nL⟩ ?_ ?_⟩
      · rintro i H6 hi ⟨acc, ts, a, b, e1, e2, e3, e4, e5, k6, g6⟩
        have nLd : L ∉ [d] := g5.nd nL
        have mul : (i + 1) * (1 + BT j) = i * (1 + BT j) + (1 + BT j) := Nat.succ_mul i (1 + BT j)
        refine ⟨rfl, _, rfl, _, rfl, _, _, rfl, rfl, d, j, rfl, congrArg (fun i : Int => [V.ref d, V.int i]) dk, by omega, g6, fun v y n2 m2 H7 hv hy hm k7 g7 => ?_⟩
        have hL : H7 L = some (.lst acc) := k7 L _ nLd e1
        have tk := (g6.tks (K := K) k7).trans (TKs.lst (ys := acc ++ [v]) hL)
        exact ⟨acc, hL, small1000 (by omega), acc ++ [v], ts ++ [y], a + n2, b + m2, upd_same, (e2.mono tk).append (.cons (hv.mono (TKs.lst hL)) .nil), e3.append hy, by omega, by rw [List.length_append, e5]; rfl, (k6.trans k7).put (kk5.free nL nLd), g7.put nLd⟩
      · rintro H6 ⟨acc, ts, a, b, e1, e2, e3, e4, e5, k6, g6⟩
        have : n * (1 + BT j) ≤ 6 * (1 + BT j) := Nat.mul_le_mul_right _ (by omega)
        refine ⟨L, acc, ts, j, a, b, rfl, e1, e2, e3, by omega, by omega, fun t rs' w' m' H7 ht hr' hm s7 => ⟨(by show 2 ≤ sizeLine; decide), fun p2 np2 => ?_⟩⟩
        refine q _ _ _ _ _ (.tup (SqT.of upd_same) (.cons (.str _) (.cons (ht.mono (.of (same_new np2 _))) .nil))) (.row hr' (Nat.lt_succ_self j)) ?_ ((k6.trans (.of s7)).new np2) ?_
        · omega
        · obtain ⟨ms, e, l⟩ := g6
          exact Dk.new ⟨ms, s7 _ _ e, l⟩ np2
    · refine ⟨_, rfl, _, rfl, by omega, by omega, fun L nL => lc_range (lo := 0) (n := n) (fun i H' => ∃ (acc : List V) (ts : List PyData) (a b : Nat), H' L = some (.lst acc) ∧ TrAll K H' acc ts ∧ Stk j a b ts ∧ b ≤ i * (1 + BT j) ∧ acc.length = i ∧ Kp [d] H H' ∧ Dk H' d)
        ⟨[], [], 0, 0, upd_same, .nil, .nil, Nat.zero_le _, rfl, kk5.new nL, g5.new nL⟩ ?_ ?_⟩
      · rintro i H6 hi ⟨acc, ts, a, b, e1, e2, e3, e4, e5, k6, g6⟩
        have nLd : L ∉ [d] := g5.nd nL
        have mul : (i + 1) * (1 + BT j) = i * (1 + BT j) + (1 + BT j) := Nat.succ_mul i (1 + BT j)
        refine ⟨rfl, _, rfl, _, rfl, _, _, rfl, rfl, d, j, rfl, congrArg (fun i : Int => [V.ref d, V.int i]) dk, by omega, g6, fun v y n2 m2 H7 hv hy hm k7 g7 => ?_⟩
        have hL : H7 L = some (.lst acc) := k7 L _ nLd e1
        have tk := (g6.tks (K := K) k7).trans (TKs.lst (ys := acc ++ [v]) hL)
        have hy' : Stk j (n2 + 0) (m2 + 0) [y] := .cons hy .nil
        exact ⟨acc, hL, small1000 (by omega), acc ++ [v], ts ++ [y], a + (n2 + 0), b + (m2 + 0), upd_same, (e2.mono tk).append (.cons (hv.mono (TKs.lst hL)) .nil), e3.append hy', by omega, by rw [List.length_append, e5]; rfl, (k6.trans k7).put (kk5.free nL nLd), g7.put nLd⟩
      · rintro H6 ⟨acc, ts, a, b, e1, e2, e3, e4, e5, k6, g6⟩
        have : n * (1 + BT j) ≤ 6 * (1 + BT j) := Nat.mul_le_mul_right _ (by omega)
        refine ⟨L, acc, rfl, .inl ⟨SqL.of e1, fun t nt => ⟨(by show 2 ≤ sizeLine; decide), fun p2 np2 => ?_⟩⟩⟩
        have s7 := (same_new nt (.tup acc)).trans (same_new np2 (.tup [.str "list", .ref t]))
        exact q _ _ _ _ _ (.tup (SqT.of upd_same) (.cons (.str _) (.cons (.tup (SqT.of (kn upd_same np2)) (e2.mono (.of s7))) .nil))) (.lst e3 (Nat.lt_succ_self j)) (by omega) ((k6.new nt).new np2) ((g6.new nt).new np2)
end
end K09
namespace K09
open PySem PySem.W L2 SX Cm
section
variable {P : Program} {w : World} {K : PySem.W.Frag} {mg : Str → Option Value} {base : Heap}
def spNumT : Sp := fun vs H Q _ => ∃ i : Int, vs = [.int i] ∧ ∀ p, H p = none → Q (.ref p) (upd H p (.tup [.str "number", .int (i % 10 ^ 12)]))
theorem scNumT : FnScope ["n"] ["n"] (defScope sNumThing) := ⟨rfl, rfl, rfl, by decide +kernel, rfl, by decide +kernel, by decide +kernel⟩
theorem ok_numT {f : Addr} {fd : FuncData} (F : Fun K "number_thing" "number_thing" sNumThing f fd) (mN : ∃ t, mg "NUMBERS" = some (.int (10 ^ 12) t)) : FnOk P w K mg base CX0 1 f fd ["n"] spNumT := by
  refine F.ok scNumT (fun vs H Q E h => ?_) (fun cdv A outer s H vs Q E hr h => ?_)
  · obtain ⟨n, rfl, _⟩ := h
    rfl
  obtain ⟨n, rfl, q⟩ := h
  obtain ⟨t, mN⟩ := mN
  refine ⟨_, pss_one (ps_ret (pe_tup (pa_cons pe_str (pa_cons (pe_op op_mod (pv 0) (pe_glob (v := .int (10 ^ 12)) rfl mN ⟨_, rfl⟩)) pa_nil)))), ?_⟩
  exact ⟨_, rfl, _, _, rfl, rfl, (by show (0 : Int) < 10 ^ 12; decide), (by show 2 ≤ sizeLine; decide), fun p np => q p np⟩
def DQ (K : Frag) (H : Hp) (i : Int) (Q : VK) : Prop := ∀ (r a p e : Addr) (H' : Hp), Same H H' → SqT K H' r [.ref a, .ref e] → SqT K H' a [.ref p] → SqT K H' p [.str "number", .int i] → SqT K H' e [] → Q (.ref r) H'
def spDoes (K : Frag) (g : Int → Int → Int) : Sp := fun vs H Q _ => ∃ (l : Addr) (m n : Int), vs = [.ref l] ∧ SqL K H l [.int m, .int n] ∧ 0 ≤ m ∧ m < 10 ^ 12 ∧ DQ K H (g m n) Q
theorem dtail {K : Frag} {H : Hp} {Q : VK} {i : Int} (q : DQ K H i Q) (p : Addr) (np : H p = none) : 1 ≤ sizeLine ∧ ∀ a, upd H p (.tup [.str "number", .int i]) a = none → 0 ≤ sizeLine ∧ ∀ e, upd (upd H p (.tup [.str "number", .int i])) a (.tup [.ref p]) e = none → 2 ≤ sizeLine ∧ ∀ r, upd (upd (upd H p (.tup [.str "number", .int i])) a (.tup [.ref p])) e (.tup []) r = none → Q (.ref r) (upd (upd (upd (upd H p (.tup [.str "number", .int i])) a (.tup [.ref p])) e (.tup [])) r (.tup [.ref a, .ref e])) := by
  refine ⟨by decide, fun a na => ⟨by decide, fun e ne => ⟨by decide, fun r nr => ?_⟩⟩⟩
  exact q r a p e _ ((((same_new np _).trans (same_new na _)).trans (same_new ne _)).trans (same_new nr _)) (SqT.of upd_same) (SqT.of (kn (kn upd_same ne) nr)) (SqT.of (kn (kn (kn upd_same na) ne) nr)) (SqT.of (kn upd_same nr))
def gPlus (m n : Int) : Int := (m + n) % 10 ^ 12
theorem scPlus : FnScope ["held", "m", "n"] ["held"] (defScope sPlus) := ⟨rfl, rfl, rfl, by decide +kernel, rfl, by decide +kernel, by decide +kernel⟩
theorem ok_plus {f g : Addr} {fd gd : FuncData} (F : Fun K "plus_does" "plus_does" sPlus f fd) (G : FnOk P w K mg base CX0 1 g gd ["n"] spNumT) (bG : L2.Binds K gd ["n"] []) (kG : keepIn K (.ref g) = true) (mG : mg "number_thing" = some (.ref g)) : FnOk P w K mg base CX0 2 f fd ["held"] (spDoes K gPlus) := by
  refine F.ok scPlus (fun vs H Q E h => ?_) (fun cdv A outer s H vs Q E hr h => ?_)
  · obtain ⟨l, m, n, rfl, _⟩ := h
    rfl
  obtain ⟨l, m, n, rfl, hl, m0, m1, q⟩ := h
  refine ⟨_, pss_cons (ps_asg (pv 0) (pg_unl rfl (pgs_cons (pg_name (i := 1) scPlus.nd rfl (.inl rfl)) (pgs_cons (pg_name (i := 2) scPlus.nd rfl (.inl rfl)) pgs_nil))))
    (pss_one (ps_ret (pe_tup (pa_cons (pe_tup (pa_cons (pe_call G hr rfl mG kG bG .nil pass0 (pa_cons (pe_op op_add (pv 1) (pv 2)) pa_nil)) pa_nil)) (pa_cons (pe_tup pa_nil) pa_nil))))), ?_⟩
  unfold gPlus at q
  exact ⟨_, rfl, l, _, rfl, hl, rfl, _, _, rfl, _, _, rfl, rfl, _, rfl, _, rfl, _, _, rfl, rfl, _, rfl, dtail q⟩
def gMinus (m n : Int) : Int := (m - n) % 10 ^ 12
theorem scMinus : FnScope ["held", "m", "n"] ["held"] (defScope sMinus) := ⟨rfl, rfl, rfl, by decide +kernel, rfl, by decide +kernel, by decide +kernel⟩
theorem ok_minus {f g : Addr} {fd gd : FuncData} (F : Fun K "minus_does" "minus_does" sMinus f fd) (G : FnOk P w K mg base CX0 1 g gd ["n"] spNumT) (bG : L2.Binds K gd ["n"] []) (kG : keepIn K (.ref g) = true) (mG : mg "number_thing" = some (.ref g)) : FnOk P w K mg base CX0 2 f fd ["held"] (spDoes K gMinus) := by
  refine F.ok scMinus (fun vs H Q E h => ?_) (fun cdv A outer s H vs Q E hr h => ?_)
  · obtain ⟨l, m, n, rfl, _⟩ := h
    rfl
  obtain ⟨l, m, n, rfl, hl, m0, m1, q⟩ := h
  refine ⟨_, pss_cons (ps_asg (pv 0) (pg_unl rfl (pgs_cons (pg_name (i := 1) scMinus.nd rfl (.inl rfl)) (pgs_cons (pg_name (i := 2) scMinus.nd rfl (.inl rfl)) pgs_nil))))
    (pss_one (ps_ret (pe_tup (pa_cons (pe_tup (pa_cons (pe_call G hr rfl mG kG bG .nil pass0 (pa_cons (pe_op op_sub (pv 1) (pv 2)) pa_nil)) pa_nil)) (pa_cons (pe_tup pa_nil) pa_nil))))), ?_⟩
  unfold gMinus at q
  exact ⟨_, rfl, l, _, rfl, hl, rfl, _, _, rfl, _, _, rfl, rfl, _, rfl, _, rfl, _, _, rfl, rfl, _, rfl, dtail q⟩
def gTimes (m n : Int) : Int := (m * n) % 10 ^ 12
theorem scTimes : FnScope ["held", "m", "n"] ["held"] (defScope sTimes) := ⟨rfl, rfl, rfl, by decide +kernel, rfl, by decide +kernel, by decide +kernel⟩
theorem ok_times {f g : Addr} {fd gd : FuncData} (F : Fun K "times_does" "times_does" sTimes f fd) (G : FnOk P w K mg base CX0 1 g gd ["n"] spNumT) (bG : L2.Binds K gd ["n"] []) (kG : keepIn K (.ref g) = true) (mG : mg "number_thing" = some (.ref g)) : FnOk P w K mg base CX0 2 f fd ["held"] (spDoes K gTimes) := by
  refine F.ok scTimes (fun vs H Q E h => ?_) (fun cdv A outer s H vs Q E hr h => ?_)
  · obtain ⟨l, m, n, rfl, _⟩ := h
    rfl
  obtain ⟨l, m, n, rfl, hl, m0, m1, q⟩ := h
  refine ⟨_, pss_cons (ps_asg (pv 0) (pg_unl rfl (pgs_cons (pg_name (i := 1) scTimes.nd rfl (.inl rfl)) (pgs_cons (pg_name (i := 2) scTimes.nd rfl (.inl rfl)) pgs_nil))))
    (pss_one (ps_ret (pe_tup (pa_cons (pe_tup (pa_cons (pe_call G hr rfl mG kG bG .nil pass0 (pa_cons (pe_op op_mul (pv 1) (pv 2)) pa_nil)) pa_nil)) (pa_cons (pe_tup pa_nil) pa_nil))))), ?_⟩
  unfold gTimes at q
  exact ⟨_, rfl, l, _, rfl, hl, rfl, _, _, rfl, _, _, rfl, rfl, _, rfl, _, rfl, _, _, rfl, rfl, .inl ⟨by omega, by omega⟩, _, rfl, dtail q⟩
def gLess (m n : Int) : Int := (if m < n then 1 else 0) % 10 ^ 12
theorem scLess : FnScope ["held", "m", "n"] ["held"] (defScope sLess) := ⟨rfl, rfl, rfl, by decide +kernel, rfl, by decide +kernel, by decide +kernel⟩
theorem ok_less {f g : Addr} {fd gd : FuncData} (F : Fun K "less_does" "less_does" sLess f fd) (G : FnOk P w K mg base CX0 1 g gd ["n"] spNumT) (bG : L2.Binds K gd ["n"] []) (kG : keepIn K (.ref g) = true) (mG : mg "number_thing" = some (.ref g)) : FnOk P w K mg base CX0 2 f fd ["held"] (spDoes K gLess) := by
  refine F.ok scLess (fun vs H Q E h => ?_) (fun cdv A outer s H vs Q E hr h => ?_)
  · obtain ⟨l, m, n, rfl, _⟩ := h
    rfl
  obtain ⟨l, m, n, rfl, hl, m0, m1, q⟩ := h
  refine ⟨_, pss_cons (ps_asg (pv 0) (pg_unl rfl (pgs_cons (pg_name (i := 1) scLess.nd rfl (.inl rfl)) (pgs_cons (pg_name (i := 2) scLess.nd rfl (.inl rfl)) pgs_nil))))
    (pss_one (ps_ret (pe_tup (pa_cons (pe_tup (pa_cons (pe_call G hr rfl mG kG bG .nil pass0 (pa_cons (pe_ifExp (pt_cmpR op_lt (pv 1) (pv 2) (nomark _)) pe_int pe_int) pa_nil)) pa_nil)) (pa_cons (pe_tup pa_nil) pa_nil))))), ?_⟩
  unfold gLess at q
  refine ⟨_, rfl, l, _, rfl, hl, rfl, _, _, rfl, _, _, rfl, rfl, _, rfl, _, rfl, _, _, rfl, rfl, _, rfl, ite2 (fun c => ?_) (fun c => ?_)⟩
  · rw [if_pos (of_decide_eq_true c)] at q
    exact ⟨_, rfl, dtail q⟩
  · rw [if_neg (fun h => c (decide_eq_true h))] at q
    exact ⟨_, rfl, dtail q⟩
def gSame (m n : Int) : Int := (if m = n then 1 else 0) % 10 ^ 12
theorem scSame : FnScope ["held", "m", "n"] ["held"] (defScope sSame) := ⟨rfl, rfl, rfl, by decide +kernel, rfl, by decide +kernel, by decide +kernel⟩
theorem ok_same {f g : Addr} {fd gd : FuncData} (F : Fun K "same_does" "same_does" sSame f fd) (G : FnOk P w K mg base CX0 1 g gd ["n"] spNumT) (bG : L2.Binds K gd ["n"] []) (kG : keepIn K (.ref g) = true) (mG : mg "number_thing" = some (.ref g)) : FnOk P w K mg base CX0 2 f fd ["held"] (spDoes K gSame) := by
  refine F.ok scSame (fun vs H Q E h => ?_) (fun cdv A outer s H vs Q E hr h => ?_)
  · obtain ⟨l, m, n, rfl, _⟩ := h
    rfl
  obtain ⟨l, m, n, rfl, hl, m0, m1, q⟩ := h
  refine ⟨_, pss_cons (ps_asg (pv 0) (pg_unl rfl (pgs_cons (pg_name (i := 1) scSame.nd rfl (.inl rfl)) (pgs_cons (pg_name (i := 2) scSame.nd rfl (.inl rfl)) pgs_nil))))
    (pss_one (ps_ret (pe_tup (pa_cons (pe_tup (pa_cons (pe_call G hr rfl mG kG bG .nil pass0 (pa_cons (pe_ifExp (pt_cmpR op_eq (pv 1) (pv 2) (nomark _)) pe_int pe_int) pa_nil)) pa_nil)) (pa_cons (pe_tup pa_nil) pa_nil))))), ?_⟩
  unfold gSame at q
  refine ⟨_, rfl, l, _, rfl, hl, rfl, _, _, rfl, _, _, rfl, rfl, _, rfl, _, rfl, rfl, _, rfl, ite2 (fun c => ?_) (fun c => ?_)⟩
  · rw [if_pos (V.int.inj (of_decide_eq_true c))] at q
    exact ⟨_, rfl, dtail q⟩
  · rw [if_neg (fun z => c (decide_eq_true (congrArg V.int z)))] at q
    exact ⟨_, rfl, dtail q⟩
end
end K09
namespace K09
open PySem PySem.W L2 SX Cm
theorem walk_zipT {K : Frag} {a b : Addr} {xs ys : List V} {n : Nat} (h1 : xs.length = n) (h2 : ys.length = n) : L2.Walk (RZ.ItzT K a b) n (fun H => SqT K H a xs ∧ SqT K H b ys) (YPair (fun i => xs[i]?) fun i => ys[i]?) where
  goes i H hi g := ⟨xs, ys, xs[i]'(by omega), ys[i]'(by omega), g.1, g.2, List.getElem?_eq_getElem _, List.getElem?_eq_getElem _⟩
  stops H g := ⟨xs, ys, g.1, g.2, .inl (by omega)⟩
  yields i H x H' hi g h := by
    obtain ⟨T, u, v, e1, e2, e3, e4, e5⟩ := h
    exact ⟨T, u, v, e1, e2, e3, e4 xs g.1, e5 ys g.2⟩
section
variable {P : Program} {w : World} {K : PySem.W.Frag} {mg : Str → Option Value} {base : Heap}
def spHeld (K : Frag) : Sp := fun vs H Q _ => ∃ (p : Addr) (n : Int), vs = [.str "number", .ref p] ∧ SqT K H p [.str "number", .int n] ∧ Q (.int n) H
theorem scHeld : FnScope ["sort", "thing"] ["sort", "thing"] (defScope sHeldAs) := ⟨rfl, rfl, rfl, by decide +kernel, rfl, by decide +kernel, by decide +kernel⟩
theorem ok_held {f : Addr} {fd : FuncData} (F : Fun K "held_as" "held_as" sHeldAs f fd) : FnOk P w K mg base CX0 1 f fd ["sort", "thing"] (spHeld K) := by
  refine F.ok scHeld (fun vs H Q E h => ?_) (fun cdv A outer s H vs Q E hr h => ?_)
  · obtain ⟨p, n, rfl, _⟩ := h
    rfl
  obtain ⟨p, n, rfl, hp, q⟩ := h
  refine ⟨_, pss_cons (ps_if (pt_cmpR op_eq (pv 0) pe_str (nomark _)) (pss_one (ps_ret (pv 1))) pss_nil)
    (pss_cons (ps_if (pt_cmpR op_ne (pe_ix ix_tup (pv 1) pe_int (fun _ _ => rfl)) (pv 0) (nomark _)) (pss_one ps_never) pss_nil)
    (pss_one (ps_ret (pe_ix ix_tup (pv 1) pe_int (fun _ _ => rfl))))), ?_⟩
  have n1 : decide (V.str "number" = V.str "any") = false := by decide +kernel
  have n2 : (!decide (V.str "number" = V.str "number")) = false := by rw [decide_eq_true rfl]; rfl
  refine ⟨_, rfl, rfl, _, rfl, ?_⟩
  rw [n1]
  refine iteF ?_
  refine ⟨_, rfl, p, _, 0, _, rfl, rfl, hp, atI_nat (j := 0) rfl, _, rfl, rfl, _, rfl, ?_⟩
  rw [n2]
  refine iteF ?_
  exact ⟨_, rfl, p, _, 1, _, rfl, rfl, hp, atI_nat (j := 1) rfl, q⟩
def spTop (K : Frag) : Sp := fun vs H Q _ => ∃ (a : Addr) (xs : List V) (u v : V), vs = [.ref a, .int 2] ∧ SqT K H a (xs ++ [u, v]) ∧ ∀ (r : Addr) (H' : Hp), Same H H' → SqT K H' r [u, v] → Q (.ref r) H'
theorem scTop : FnScope ["stack", "many"] ["stack", "many"] (defScope sTopOf) := ⟨rfl, rfl, rfl, by decide +kernel, rfl, by decide +kernel, by decide +kernel⟩
theorem ok_top {f : Addr} {fd : FuncData} (F : Fun K "top_of" "top_of" sTopOf f fd) (mlen : mg "len" = none) : FnOk P w K mg base CX0 1 f fd ["stack", "many"] (spTop K) := by
  refine F.ok scTop (fun vs H Q E h => ?_) (fun cdv A outer s H vs Q E hr h => ?_)
  · obtain ⟨a, xs, u, v, rfl, _⟩ := h
    rfl
  obtain ⟨a, xs, u, v, rfl, ha, q⟩ := h
  refine ⟨_, pss_cons (ps_if (pt_cmpR op_lt (pe_callB call_len_seq (by rfl) mlen PySem.boot_len (pa_cons (pv 0) pa_nil)) (pv 1) (nomark _)) (pss_one ps_never) pss_nil)
    (pss_one (ps_ret (pe_slice sl_tupA (pv 0) (po_some (pe_op op_sub (pe_callB call_len_seq (by rfl) mlen PySem.boot_len (pa_cons (pv 0) pa_nil)) (pv 1))) po_none))), ?_⟩
  have hl : (xs ++ [u, v]).length = xs.length + 2 := by rw [List.length_append]; rfl
  refine ⟨_, rfl, a, _, rfl, .inr ha, _, rfl, _, _, rfl, rfl, _, rfl, ?_⟩
  rw [decide_eq_false (by rw [hl]; omega)]
  refine iteF ?_
  have e : (((xs ++ [u, v]).length : Nat) : Int) - 2 = (xs.length : Nat) := by rw [hl]; omega
  refine ⟨_, rfl, _, rfl, a, _, rfl, .inr ha, _, rfl, _, _, rfl, rfl, _, rfl, a, _, rfl, ha, fun c => ?_, fun c p np => ?_⟩
  · rw [e] at c
    have c1 := c.1
    rw [HT.sIx_nat, hl] at c1
    have z : xs = [] := List.eq_nil_of_length_eq_zero (by omega)
    rw [z] at ha
    exact q a H (fun _ _ h => h) ha
  · rw [e]
    have e2 : cutV (xs ++ [u, v]) (some (xs.length : Nat)) none = [u, v] := by
      unfold cutV
      rw [HT.sIx_nat, HT.sIx_none, hl, Nat.min_eq_left (by omega), List.drop_left]
      rw [List.take_of_length_le (by show 2 ≤ _; omega)]
    rw [e2]
    exact q p _ (same_new np _) (SqT.of upd_same)
def gOf (z : Str) : Option (Int → Int → Int) := [((("plus" : Str)), gPlus), ("minus", gMinus), ("times", gTimes), ("less", gLess), ("same", gSame)].lookup z
theorem five {z : Str} {g : Int → Int → Int} (h : gOf z = some g) : z ∈ [(("plus" : Str)), "minus", "times", "less", "same"] := by
  unfold gOf at h
  have mem : ∀ {α : Type} {T : List (Str × α)} {x : α}, T.lookup z = some x → z ∈ T.map (·.1) := fun {α} {T} => by
    induction T with
    | nil => intro x h; cases h
    | cons p r ih =>
      intro x h
      rw [List.lookup_cons] at h
      by_cases hz : z = p.1
      · rw [hz]; exact List.mem_cons_self ..
      · rw [show (z == p.1) = false from beq_eq_false_iff_ne.mpr hz] at h
        exact List.mem_cons_of_mem _ (ih h)
  exact mem h
theorem five_tab : ∀ z ∈ [(("plus" : Str)), "minus", "times", "less", "same"], table.lookup z = some nn := by
  intro z hz
  simp only [List.mem_cons, List.not_mem_nil, or_false] at hz
  rcases hz with rfl | rfl | rfl | rfl | rfl <;> rfl
def EQ (K : Frag) (H : Hp) (i : Int) (Q : VK) : Prop := ∀ (r a p e : Addr) (H' : Hp), Same H H' → SqT K H' r [.int 2, .ref a, .ref e] → SqT K H' a [.ref p] → SqT K H' p [.str "number", .int i] → SqT K H' e [] → Q (.ref r) H'
def spEffB (K : Frag) : Sp := fun vs H Q _ => ∃ (z : Str) (g : Int → Int → Int) (a p1 p2 : Addr) (xs : List V) (m n : Int), gOf z = some g ∧ vs = [.str z, .ref a] ∧ SqT K H a (xs ++ [.ref p1, .ref p2]) ∧ SqT K H p1 [.str "number", .int m] ∧ SqT K H p2 [.str "number", .int n] ∧ 0 ≤ m ∧ m < 10 ^ 12 ∧ EQ K H (g m n) Q
abbrev NE : List Str := ["word", "stack", "sorts", "sort", "thing", "held", "does", "left", "ahead"]
theorem scEffB : FnScope NE ["word", "stack"] (defScope sEffBasic) := ⟨rfl, rfl, rfl, by decide +kernel, rfl, by decide +kernel, by decide +kernel⟩
theorem ok_effB {f gh gt d dd : Addr} {fd ghd gtd : FuncData} {es : Array DictEntry} {nn0 : Nat} (F : Fun K "effect_of_basic" "effect_of_basic" sEffBasic f fd) (T : Tab K w mg d es nn0)
    (hDo : ∀ z g, gOf z = some g → ∃ f, KDct K w dd z (.ref f) ∧ Held P w K mg base 2 f (spDoes K g)) (mD : mg "DOES" = some (.ref dd)) 
    (L : FnOk P w K mg base CX0 1 gh ghd ["sort", "thing"] (spHeld K)) (bL : L2.Binds K ghd ["sort", "thing"] []) (kL : keepIn K (.ref gh) = true) (mL : mg "held_as" = some (.ref gh))
    (O : FnOk P w K mg base CX0 1 gt gtd ["stack", "many"] (spTop K)) (bO : L2.Binds K gtd ["stack", "many"] []) (kO : keepIn K (.ref gt) = true) (mO : mg "top_of" = some (.ref gt))
    (mlen : mg "len" = none) (mzip : mg "zip" = none) : FnOk P w K mg base CX0 3 f fd ["word", "stack"] (spEffB K) := by
  refine F.ok scEffB (fun vs H Q E h => ?_) (fun cdv A outer s H vs Q E hr h => ?_)
  · obtain ⟨z, g, a, p1, p2, xs, m, n, _, rfl, _⟩ := h
    rfl
  obtain ⟨z, g, a, p1, p2, xs, m, n, hz, rfl, ha, h1, h2, m0, m1, q⟩ := h
  have hr1 := hr.mono (j := 1) (by decide)
  obtain ⟨fz, k1, hH⟩ := hDo z g hz
  have hS : ∀ f' sp, (if f' = fz then some (spDoes K g) else none) = some sp → Held P w K mg base 2 f' sp := fun f' sp h => by
    by_cases e : f' = fz
    · rw [if_pos e] at h; cases h; rw [e]; exact hH
    · rw [if_neg e] at h; cases h
  refine ⟨_, pss_cons (ps_set (i := 2) scEffB.nd rfl (.inl rfl) (pe_ix ix_kdict (pe_glob (v := .ref d) rfl T.mg_ rfl) (pv 0) (fun _ _ => rfl)))
    (pss_cons (ps_setLc (i := 5) (own := [("sort", 3), ("thing", 4)]) (g := gTup K 2 (gCons (gName 3) (gCons (gName 4) gNil))) (tt := tYes) rfl scEffB.nd rfl rfl rfl (RZ.pi_zipA rfl mzip (pa_cons (pv 2) (pa_cons (pe_call O hr1 rfl mO kO bO .nil pass0 (pa_cons (pv 1) (pa_cons (pe_callB call_len_seq (by rfl) mlen PySem.boot_len (pa_cons (pv 2) pa_nil)) pa_nil))) pa_nil))) (blkOk_by (own := [("sort", 3), ("thing", 4)]) (N := NE) (sc := defScope sEffBasic) (by decide +kernel))
        (fun _ _ _ _ _ => pg_tup rfl (pgs_cons (pg_name (i := 3) scEffB.nd rfl (Or.inl rfl)) (pgs_cons (pg_name (i := 4) scEffB.nd rfl (Or.inl rfl)) pgs_nil))) (fun _ _ _ _ _ => pts_nil) (fun _ _ _ _ _ => pe_call L hr1 rfl mL kL bL .nil pass0 (pa_cons (pv 3) (pa_cons (pv 4) pa_nil))))
    (pss_cons (ps_set (i := 6) scEffB.nd rfl (.inl rfl) (pe_ix ix_kdict (pe_glob (v := .ref dd) rfl mD rfl) (pv 0) (fun _ _ => rfl)))
    (pss_cons (ps_asg (pe_callA (S := fun f' => if f' = fz then some (spDoes K g) else none) hS hr (i := 6) rfl (.inl rfl) (pa_cons (pv 5) pa_nil)) (pg_tup rfl (pgs_cons (pg_name (i := 7) scEffB.nd rfl (.inl rfl)) (pgs_cons (pg_name (i := 8) scEffB.nd rfl (.inl rfl)) pgs_nil))))
    (pss_one (ps_ret (pe_tup (pa_cons (pe_callB call_len_seq (by rfl) mlen PySem.boot_len (pa_cons (pv 2) pa_nil)) (pa_cons (pv 7) (pa_cons (pv 8) pa_nil))))))))), ?_⟩
  obtain ⟨t, e1, e2⟩ := (T.ns z).2 nn (five_tab z (five hz))
  have ht : ∀ H, SqT K H t nn := kTup_ok e2
  refine ⟨_, rfl, d, z, .ref t, rfl, rfl, ⟨es, nn0, _, T.kd.at_, T.kd.lit, e1, rfl⟩, ?_⟩
  refine ⟨_, rfl, _, rfl, _, rfl, t, nn, rfl, .inr (ht H), a, xs, _, _, rfl, ha, fun r H1 s1 hr1 => ?_⟩
  refine ⟨t, r, nn, [.ref p1, .ref p2], rfl, .inr ⟨ht _, hr1, fun D hD => ?_⟩⟩
  refine lc_it (walk_zipT (K := K) (a := t) (b := r) (xs := nn) (ys := [.ref p1, .ref p2]) (n := 2) rfl rfl) (fun i H' => Same H1 H' ∧ H' D = some (.lst (([.int m, .int n] : List V).take i))) ⟨same_new hD _, upd_same⟩ (fun i H' _ h => ⟨ht _, TKs.of h.1 _ _ hr1⟩) ?_ ?_
  · rintro i x H2 H3 hi ⟨s2, hD2⟩ ⟨T, u, v, rfl, nT, rfl, eu, ev⟩
    have s3 : Same H1 (upd H2 T (.tup [u, v])) := s2.trans (same_new nT _)
    have hD3 : upd H2 T (.tup [u, v]) D = some (.lst (([.int m, .int n] : List V).take i)) := kn hD2 nT
    have s13 := s1.trans s3
    refine ⟨T, _, rfl, SqT.of upd_same, rfl, _, _, rfl, _, _, rfl, rfl, rfl, ?_⟩
    obtain rfl | rfl : i = 0 ∨ i = 1 := by omega
    · cases eu
      cases ev
      refine ⟨_, rfl, _, rfl, p1, m, rfl, TKs.of s13 _ _ h1, _, hD3, small1000 (by show _ ≤ 1000; simp), own_new s3 hD, upd_same⟩
    · cases eu
      cases ev
      refine ⟨_, rfl, _, rfl, p2, n, rfl, TKs.of s13 _ _ h2, _, hD3, small1000 (by show _ ≤ 1000; simp), own_new s3 hD, upd_same⟩
  · rintro H2 ⟨s2, hD2⟩
    refine ⟨_, rfl, dd, z, .ref fz, rfl, rfl, k1, ?_⟩
    refine ⟨fz, _, rfl, if_pos rfl, _, rfl, D, m, n, rfl, SqL.of hD2, m0, m1, fun r2 a2 p e H3 s3 hr2 ha2 hp2 he2 => ?_⟩
    refine ⟨r2, _, rfl, hr2, rfl, _, _, rfl, _, _, rfl, rfl, ?_⟩
    refine ⟨_, rfl, t, nn, rfl, .inr (ht _), _, rfl, _, rfl, (by show 3 ≤ sizeLine; decide), fun r3 n3 => ?_⟩
    have s4 := same_new n3 (.tup [V.int 2, .ref a2, .ref e])
    exact q r3 a2 p e _ (((s1.trans s2).trans s3).trans s4) (SqT.of upd_same) (TKs.of s4 _ _ ha2) (TKs.of s4 _ _ hp2) (TKs.of s4 _ _ he2)
end
end K09
namespace K09
open PySem PySem.W L2 SX Cm
section
variable {P : Program} {w : World} {K : PySem.W.Frag} {mg : Str → Option Value} {base : Heap}
def spBasic : Sp := fun vs H Q _ => ∃ z : Str, vs = [.str z] ∧ Q (.bl (table.lookup z).isSome) H
theorem scBasic : FnScope ["text"] ["text"] (defScope sIsBasic) := ⟨rfl, rfl, rfl, by decide +kernel, rfl, by decide +kernel, by decide +kernel⟩
theorem ok_basic {f d : Addr} {fd : FuncData} {es : Array DictEntry} {n : Nat} (F : Fun K "is_basic" "is_basic" sIsBasic f fd) (T : Tab K w mg d es n) : FnOk P w K mg base CX0 1 f fd ["text"] spBasic := by
  refine F.ok scBasic (fun vs H Q E h => ?_) (fun cdv A outer s H vs Q E hr h => ?_)
  · obtain ⟨z, rfl, _⟩ := h
    rfl
  obtain ⟨z, rfl, q⟩ := h
  refine ⟨_, pss_one (ps_ret (pe_cmpR (op_in_kd T.kd) (pv 0) (pe_glob (v := .ref d) rfl T.mg_ rfl) rfl)), ?_⟩
  obtain ⟨h1, h2⟩ := T.ns z
  cases hz : table.lookup z with
  | none =>
    rw [hz] at q
    exact ⟨_, rfl, z, none, rfl, rfl, h1 hz, q⟩
  | some xs =>
    rw [hz] at q
    obtain ⟨t, e1, e2⟩ := h2 xs hz
    exact ⟨_, rfl, z, _, rfl, rfl, e1, q⟩
def spEff (K : Frag) : Sp := fun vs H Q E => ∃ (z a b : V), vs = [z, a, b] ∧ spEffB K [z, a] H Q E
theorem scEff : FnScope ["word", "stack", "book"] ["word", "stack", "book"] (defScope sEffect) := ⟨rfl, rfl, rfl, by decide +kernel, rfl, by decide +kernel, by decide +kernel⟩
theorem ok_eff {f gb ge : Addr} {fd gbd ged : FuncData} (F : Fun K "effect_of" "effect_of" sEffect f fd) (misi : mg "isinstance" = none) (mtup : mg "tuple" = none)
    (B : FnOk P w K mg base CX0 1 gb gbd ["text"] spBasic) (bB : L2.Binds K gbd ["text"] []) (kB : keepIn K (.ref gb) = true) (mB : mg "is_basic" = some (.ref gb))
    (L : FnOk P w K mg base CX0 3 ge ged ["word", "stack"] (spEffB K)) (bL : L2.Binds K ged ["word", "stack"] []) (kL : keepIn K (.ref ge) = true) (mL : mg "effect_of_basic" = some (.ref ge)) : FnOk P w K mg base CX0 4 f fd ["word", "stack", "book"] (spEff K) := by
  refine F.ok scEff (fun vs H Q E h => ?_) (fun cdv A outer s H vs Q E hr h => ?_)
  · obtain ⟨z, a, b, rfl, _⟩ := h
    rfl
  obtain ⟨zv, av, bv, rfl, z, g, a, p1, p2, xs, m, n, hz, e0, ha, h1, h2, m0, m1, q⟩ := h
  injection e0 with ez e0
  injection e0 with ea _
  subst ez
  subst ea
  refine ⟨_, pss_cons (ps_if (pt_val (pe_callB call_isi (by rfl) misi PyProof.Rows.boot_isinstance (pa_cons (pv 0) (pa_cons (pe_bltn (v := .ty "tuple") (by rfl) mtup (by decide +kernel) rfl) pa_nil)))) (pss_one ps_never) pss_nil)
    (pss_cons (ps_if (pt_val (pe_call B (hr.mono (by decide)) rfl mB kB bB .nil pass0 (pa_cons (pv 0) pa_nil))) (pss_one (ps_ret (pe_call L hr rfl mL kL bL .nil pass0 (pa_cons (pv 0) (pa_cons (pv 1) pa_nil))))) pss_nil) pss_never), ?_⟩
  refine ⟨_, rfl, _, _, _, _, false, rfl, .ty _, .base (.str _), kit_ty (r := false) (by decide +kernel), _, rfl, iteF ?_⟩
  refine ⟨_, rfl, z, rfl, _, rfl, ?_⟩
  rw [five_tab z (five hz)]
  refine iteT ?_
  exact ⟨_, rfl, _, rfl, z, g, a, p1, p2, xs, m, n, hz, rfl, ha, h1, h2, m0, m1, q⟩
def spStep (K : Frag) : Sp := fun vs H Q _ => ∃ (st a t p1 p2 : Addr) (z : Str) (g : Int → Int → Int) (xs ws : List V) (m n : Int) (b : V), gOf z = some g ∧ vs = [.ref st, b] ∧ SqT K H st [.ref a, .ref t] ∧ SqT K H a (xs ++ [.ref p1, .ref p2]) ∧ SqT K H p1 [.str "number", .int m] ∧ SqT K H p2 [.str "number", .int n] ∧ 0 ≤ m ∧ m < 10 ^ 12 ∧ SqT K H t (.str z :: ws) ∧ xs.length ≤ 100 ∧ ws.length ≤ 100 ∧
  ∀ (r r1 r2 p : Addr) (H' : Hp), Same H H' → SqT K H' r [.ref r1, .ref r2] → SqT K H' r1 (xs ++ [.ref p]) → SqT K H' p [.str "number", .int (g m n)] → SqT K H' r2 ws → Q (.ref r) H'
abbrev NSt : List Str := ["state", "book", "stack", "todo", "taken", "left", "ahead"]
theorem scStep : FnScope NSt ["state", "book"] (defScope sStep) := ⟨rfl, rfl, rfl, by decide +kernel, rfl, by decide +kernel, by decide +kernel⟩
theorem ok_step {f ge : Addr} {fd ged : FuncData} {pa : Arguments} {kws : List (Str × V)} (F : FunD K "step" "step" pa (defBody sStep) (defScope sStep) [.non] kws f fd) (mlen : mg "len" = none)
    (L : FnOk P w K mg base CX0 4 ge ged ["word", "stack", "book"] (spEff K)) (bL : L2.Binds K ged ["word", "stack", "book"] []) (kL : keepIn K (.ref ge) = true) (mL : mg "effect_of" = some (.ref ge)) : FnOk P w K mg base CX0 5 f fd ["state", "book"] (spStep K) := by
  refine F.ok scStep (fun vs H Q E h => ?_) (fun cdv A outer s H vs Q E hr h => ?_)
  · obtain ⟨st, a, t, p1, p2, z, g, xs, ws, m, n, b, _, rfl, _⟩ := h
    rfl
  obtain ⟨st, a, t, p1, p2, z, g, xs, ws, m, n, b, hz, rfl, hst, ha, h1, h2, m0, m1, ht, lx, lw, q⟩ := h
  refine ⟨_, pss_cons (ps_asg (pv 0) (pg_tup rfl (pgs_cons (pg_name (i := 2) scStep.nd rfl (.inl rfl)) (pgs_cons (pg_name (i := 3) scStep.nd rfl (.inl rfl)) pgs_nil))))
    (pss_cons (ps_if (pt_cmpR op_eq (pe_callB call_len_seq (by rfl) mlen PySem.boot_len (pa_cons (pv 3) pa_nil)) pe_int (nomark _)) (pss_one ps_never) pss_nil)
    (pss_cons (ps_asg (pe_call L hr rfl mL kL bL .nil pass0 (pa_cons (pe_ix ix_tup (pv 3) pe_int (fun _ _ => rfl)) (pa_cons (pv 2) (pa_cons (pv 1) pa_nil)))) (pg_tup rfl (pgs_cons (pg_name (i := 4) scStep.nd rfl (.inl rfl)) (pgs_cons (pg_name (i := 5) scStep.nd rfl (.inl rfl)) (pgs_cons (pg_name (i := 6) scStep.nd rfl (.inl rfl)) pgs_nil)))))
    (pss_one (ps_ret (pe_tup (pa_cons (pe_op op_catA (pe_slice sl_tupA (pv 2) po_none (po_some (pe_op op_sub (pe_callB call_len_seq (by rfl) mlen PySem.boot_len (pa_cons (pv 2) pa_nil)) (pv 4)))) (pv 5)) (pa_cons (pe_op op_catA (pv 6) (pe_slice sl_tupA (pv 3) (po_some pe_int) po_none)) pa_nil))))))), ?_⟩
  refine ⟨_, rfl, st, _, rfl, hst, rfl, _, _, rfl, _, _, rfl, rfl, ?_⟩
  refine ⟨_, rfl, t, _, rfl, .inr ht, rfl, _, rfl, ?_⟩
  rw [decide_eq_false (by intro z; have := V.int.inj z; rw [List.length_cons] at this; omega)]
  refine iteF ?_
  refine ⟨_, rfl, t, _, 0, _, rfl, rfl, ht, atI_nat (j := 0) rfl, _, rfl, _, rfl, _, _, _, rfl, z, g, a, p1, p2, xs, m, n, hz, rfl, ha, h1, h2, m0, m1, fun r la p e H1 s1 hr1 hla hp he => ?_⟩
  refine ⟨r, _, rfl, hr1, rfl, _, _, rfl, _, _, rfl, _, _, rfl, rfl, ?_⟩
  have ha1 := TKs.of s1 _ _ ha
  have ht1 := TKs.of s1 _ _ ht
  have hl : (xs ++ [V.ref p1, .ref p2]).length = xs.length + 2 := by rw [List.length_append]; rfl
  have e1 : (((xs ++ [V.ref p1, .ref p2]).length : Nat) : Int) - 2 = (xs.length : Nat) := by rw [hl]; omega
  have e2 : cutV (xs ++ [V.ref p1, .ref p2]) none (some (xs.length : Nat)) = xs := by
    unfold cutV
    rw [HT.sIx_nat, HT.sIx_none, hl, Nat.min_eq_left (by omega), List.drop_zero, Nat.sub_zero, List.take_left]
  have e3 : cutV (V.str z :: ws) (some 1) none = ws := by
    unfold cutV
    rw [show (1 : Int) = ((1 : Nat) : Int) from rfl, HT.sIx_nat, HT.sIx_none, List.length_cons, Nat.min_eq_left (by omega)]
    show List.take (ws.length + 1 - 1) ws = ws
    rw [Nat.add_sub_cancel, List.take_length]
  refine ⟨_, rfl, _, rfl, a, _, rfl, .inr ha1, _, rfl, _, _, rfl, rfl, _, rfl, a, _, rfl, ha1, fun c => ?_, fun c b1 nb1 => ?_⟩
  · have c2 := c.2
    rw [e1, HT.sIx_nat, hl] at c2
    omega
  rw [e1, e2]
  have s0 := same_new nb1 (.tup xs)
  refine ⟨_, rfl, b1, la, xs, [.ref p], rfl, rfl, SqT.of upd_same, TKs.of s0 _ _ hla, (by show xs.length + 1 ≤ sizeLine; exact Nat.le_of_lt (small1000 (by omega))), fun hx => ?_, fun hx hy => (by cases hy), fun hx hy b2 nb2 => ?_⟩
  · have s2 := s0
    have hx1 : SqT K (upd H1 b1 (.tup xs)) la (xs ++ [.ref p]) := by rw [hx]; exact TKs.of (same_new nb1 _) _ _ hla
    refine ⟨_, rfl, _, rfl, _, rfl, t, _, rfl, TKs.of s2 _ _ ht1, fun c => ?_, fun c b3 nb3 => ?_⟩
    · have c1 := c.1
      rw [show (1 : Int) = ((1 : Nat) : Int) from rfl, HT.sIx_nat, List.length_cons] at c1
      omega
    rw [e3]
    have s3 := same_new nb3 (.tup ws)
    refine ⟨e, b3, [], ws, rfl, rfl, TKs.of (s2.trans s3) _ _ he, SqT.of upd_same, (by show 0 + ws.length ≤ sizeLine; exact Nat.le_of_lt (small1000 (by omega))), fun _ => ?_, fun hx => absurd rfl hx, fun hx => absurd rfl hx⟩
    refine ⟨(by show 2 ≤ sizeLine; decide), fun r4 n4 => ?_⟩
    have s4 := same_new n4 (.tup [V.ref la, .ref b3])
    exact q r4 la b3 p _ (((s1.trans s2).trans s3).trans s4) (SqT.of upd_same) (TKs.of (s3.trans s4) _ _ hx1) (TKs.of ((s2.trans s3).trans s4) _ _ hp) (SqT.of (kn upd_same n4))
  · have s2 := s0.trans (same_new nb2 (.tup (xs ++ [.ref p])))
    have hx1 : SqT K (upd (upd H1 b1 (.tup xs)) b2 (.tup (xs ++ [.ref p]))) b2 (xs ++ [.ref p]) := SqT.of upd_same
    refine ⟨_, rfl, _, rfl, _, rfl, t, _, rfl, TKs.of s2 _ _ ht1, fun c => ?_, fun c b3 nb3 => ?_⟩
    · have c1 := c.1
      rw [show (1 : Int) = ((1 : Nat) : Int) from rfl, HT.sIx_nat, List.length_cons] at c1
      omega
    rw [e3]
    have s3 := same_new nb3 (.tup ws)
    refine ⟨e, b3, [], ws, rfl, rfl, TKs.of (s2.trans s3) _ _ he, SqT.of upd_same, (by show 0 + ws.length ≤ sizeLine; exact Nat.le_of_lt (small1000 (by omega))), fun _ => ?_, fun hx => absurd rfl hx, fun hx => absurd rfl hx⟩
    refine ⟨(by show 2 ≤ sizeLine; decide), fun r4 n4 => ?_⟩
    have s4 := same_new n4 (.tup [V.ref b2, .ref b3])
    exact q r4 b2 b3 p _ (((s1.trans s2).trans s3).trans s4) (SqT.of upd_same) (TKs.of (s3.trans s4) _ _ hx1) (TKs.of ((s2.trans s3).trans s4) _ _ hp) (SqT.of (kn upd_same n4))
end
end K09
namespace K09
open PySem PySem.W L2 SX Cm
section
variable {P : Program} {w : World} {K : PySem.W.Frag} {mg : Str → Option Value} {base : Heap}
def spReck : Sp := fun vs H Q _ => ∃ (z : Str) (g : Int → Int → Int) (m n : Int), gOf z = some g ∧ vs = [.str z, .int m, .int n] ∧ 0 ≤ m ∧ m < 10 ^ 12 ∧ ∀ H', Same H H' → Q (.int (g m n)) H'
abbrev NR : List Str := ["_law_word", "_law_m", "_law_n"]
theorem scReck : FnScope NR NR (defScope sReckoned) := ⟨rfl, rfl, rfl, by decide +kernel, rfl, by decide +kernel, by decide +kernel⟩
theorem ok_reck {f : Addr} {fd : FuncData} (F : Fun K "_law_reckoned" "_law_reckoned" sReckoned f fd) (mint : mg "int" = none) : FnOk P w K mg base CX0 1 f fd NR spReck := by
  refine F.ok scReck (fun vs H Q E h => ?_) (fun cdv A outer s H vs Q E hr h => ?_)
  · obtain ⟨z, g, m, n, _, rfl, _⟩ := h
    rfl
  obtain ⟨z, g, m, n, hz, rfl, m0, m1, q⟩ := h
  refine ⟨_, pss_cons (ps_if (pt_cmpR op_eq (pv 0) pe_str (nomark _)) (pss_one (ps_ret (pe_op op_mod (pe_op op_add (pv 1) (pv 2)) (pe_op op_pow pe_int pe_int)))) pss_nil)
    (pss_cons (ps_if (pt_cmpR op_eq (pv 0) pe_str (nomark _)) (pss_one (ps_ret (pe_op op_mod (pe_op op_sub (pv 1) (pv 2)) (pe_op op_pow pe_int pe_int)))) pss_nil)
    (pss_cons (ps_if (pt_cmpR op_eq (pv 0) pe_str (nomark _)) (pss_one (ps_ret (pe_op op_mod (pe_op op_mul (pv 1) (pv 2)) (pe_op op_pow pe_int pe_int)))) pss_nil)
    (pss_one (ps_ret (pe_callTy call_int1 (by rfl) mint (by decide +kernel) (pa_cons (pe_ix ix_list (pe_lst (pa_cons (pe_cmpR op_lt (pv 1) (pv 2) (nomark _)) (pa_cons (pe_cmpR op_eq (pv 1) (pv 2) (nomark _)) pa_nil))) (pe_callTy call_int1 (by rfl) mint (by decide +kernel) (pa_cons (pe_cmpR op_eq (pv 0) pe_str (nomark _)) pa_nil)) (fun _ _ => rfl)) pa_nil)))))), ?_⟩
  have hf := five hz
  have same : Same H H := fun _ _ h => h
  simp only [List.mem_cons, List.not_mem_nil, or_false] at hf
  refine ⟨_, rfl, rfl, _, rfl, ?_⟩
  rcases hf with rfl | rfl | rfl | rfl | rfl
  · rw [decide_eq_true rfl]
    cases hz
    refine iteT ?_
    exact ⟨_, rfl, _, rfl, _, _, rfl, rfl, _, _, rfl, rfl, ⟨by decide, by decide, by decide⟩, _, _, rfl, rfl, (by show (0 : Int) < 10 ^ 12; decide), q H same⟩
  · rw [show decide (V.str "minus" = V.str "plus") = false by decide +kernel]
    refine iteF ⟨_, rfl, rfl, _, rfl, ?_⟩
    rw [decide_eq_true rfl]
    cases hz
    refine iteT ?_
    exact ⟨_, rfl, _, rfl, _, _, rfl, rfl, _, _, rfl, rfl, ⟨by decide, by decide, by decide⟩, _, _, rfl, rfl, (by show (0 : Int) < 10 ^ 12; decide), q H same⟩
  · rw [show decide (V.str "times" = V.str "plus") = false by decide +kernel]
    refine iteF ⟨_, rfl, rfl, _, rfl, ?_⟩
    rw [show decide (V.str "times" = V.str "minus") = false by decide +kernel]
    refine iteF ⟨_, rfl, rfl, _, rfl, ?_⟩
    rw [decide_eq_true rfl]
    cases hz
    refine iteT ?_
    exact ⟨_, rfl, _, rfl, _, _, rfl, rfl, .inl ⟨by omega, by omega⟩, _, _, rfl, rfl, ⟨by decide, by decide, by decide⟩, _, _, rfl, rfl, (by show (0 : Int) < 10 ^ 12; decide), q H same⟩
  · rw [show decide (V.str "less" = V.str "plus") = false by decide +kernel]
    refine iteF ⟨_, rfl, rfl, _, rfl, ?_⟩
    rw [show decide (V.str "less" = V.str "minus") = false by decide +kernel]
    refine iteF ⟨_, rfl, rfl, _, rfl, ?_⟩
    rw [show decide (V.str "less" = V.str "times") = false by decide +kernel]
    cases hz
    refine iteF ⟨_, rfl, _, rfl, _, _, rfl, rfl, _, rfl, _, rfl, rfl, (by show 2 ≤ sizeLine; decide), fun p np => ⟨_, rfl, rfl, .inr ⟨_, rfl, ?_⟩⟩⟩
    rw [show decide (V.str "less" = V.str "same") = false by decide +kernel]
    refine ⟨p, _, _, _, rfl, rfl, SqL.of upd_same, atI_nat (j := 0) rfl, .inr ⟨_, rfl, ?_⟩⟩
    have := q _ (same_new np (.lst [V.bl (decide (m < n)), V.bl (decide (V.int m = V.int n))]))
    have e : gLess m n = (if decide (m < n) = true then (1 : Int) else 0) := by
      unfold gLess
      by_cases h : m < n
      · rw [if_pos h, if_pos (decide_eq_true h)]; rfl
      · rw [if_neg h, if_neg (fun z => h (of_decide_eq_true z))]; rfl
    rw [e] at this
    exact this
  · rw [show decide (V.str "same" = V.str "plus") = false by decide +kernel]
    refine iteF ⟨_, rfl, rfl, _, rfl, ?_⟩
    rw [show decide (V.str "same" = V.str "minus") = false by decide +kernel]
    refine iteF ⟨_, rfl, rfl, _, rfl, ?_⟩
    rw [show decide (V.str "same" = V.str "times") = false by decide +kernel]
    cases hz
    refine iteF ⟨_, rfl, _, rfl, _, _, rfl, rfl, _, rfl, _, rfl, rfl, (by show 2 ≤ sizeLine; decide), fun p np => ⟨_, rfl, rfl, .inr ⟨_, rfl, ?_⟩⟩⟩
    rw [show decide (V.str "same" = V.str "same") = true from decide_eq_true rfl]
    refine ⟨p, _, _, _, rfl, rfl, SqL.of upd_same, atI_nat (j := 1) rfl, .inr ⟨_, rfl, ?_⟩⟩
    have := q _ (same_new np (.lst [V.bl (decide (m < n)), V.bl (decide (V.int m = V.int n))]))
    have e : gSame m n = (if decide (V.int m = V.int n) = true then (1 : Int) else 0) := by
      unfold gSame
      by_cases h : m = n
      · rw [if_pos h, if_pos (decide_eq_true (congrArg V.int h))]; rfl
      · rw [if_neg h, if_neg (fun z => h (V.int.inj (of_decide_eq_true z)))]; rfl
    rw [e] at this
    exact this
end
end K09
namespace K09
open PySem PySem.W L2 SX Cm
theorem atI_last {xs : List V} {v : V} : atI (xs ++ [v]) (-1) = some v := by
  have h : ixN (xs ++ [v]).length (-1) = some xs.length := by
    unfold ixN
    rw [List.length_append, List.length_singleton]
    simp
    omega
  unfold atI
  rw [h]
  show (xs ++ [v])[xs.length]? = some v
  simp
theorem g_bound {z : Str} {g : Int → Int → Int} (h : gOf z = some g) (m n : Int) : 0 ≤ g m n ∧ g m n < 10 ^ 12 := by
  have hf := five h
  simp only [List.mem_cons, List.not_mem_nil, or_false] at hf
  have e : ∀ i : Int, 0 ≤ i % 10 ^ 12 ∧ i % 10 ^ 12 < 10 ^ 12 := fun i => ⟨Int.emod_nonneg _ (by decide), Int.emod_lt_of_pos _ (by decide)⟩
  rcases hf with rfl | rfl | rfl | rfl | rfl <;> (cases h; exact e _)
/-- what is due -/
def DD (ts rs : List PyData) (i : Int) : PyData := .tuple [.tuple (ts ++ [.tuple [.str "number", .int i]]), .tuple rs]
theorem DD_lay {ts rs : List PyData} {i : Int} {u v u' v' : Nat} (h : Stk 2 u v ts) (g : Rw 1 u' v' rs) (i0 : 0 ≤ i) (i1 : i < 10 ^ 12) : PyData.canLay0 (DD ts rs i) = true ∧ SeqAt.shaped (DD ts rs i) = true := by
  have hs : Stk 2 _ _ (ts ++ [.tuple [.str "number", .int i]]) := h.append (.cons (.num i i0 i1) .nil)
  obtain ⟨a, b⟩ := hs.lay
  obtain ⟨c, e⟩ := g.lay
  have l : PyData.canLay0 (DD ts rs i) = true := by
    show (PyData.canLayAll0 (ts ++ [.tuple [.str "number", .int i]]) && (PyData.canLayAll0 rs && true)) = true
    rw [a, c]; rfl
  refine ⟨l, ?_⟩
  show (PyData.canLay0 (DD ts rs i) && decide (PyData.depth (DD ts rs i) ≤ 64)) = true
  rw [l, Bool.true_and]
  refine decide_eq_true ?_
  show max (PyData.depthAll (ts ++ [.tuple [.str "number", .int i]]) + 1) (max (PyData.depthAll rs + 1) 0) + 1 ≤ 64
  omega
section
variable {P : Program} {w : World} {K : PySem.W.Frag} {mg : Str → Option Value} {base : Heap}
def fives : List Str := ["plus", "minus", "times", "less", "same"]
theorem fives_g : ∀ z ∈ fives, ∃ g, gOf z = some g := by
  intro z hz
  unfold fives at hz
  simp only [List.mem_cons, List.not_mem_nil, or_false] at hz
  rcases hz with rfl | rfl | rfl | rfl | rfl <;> exact ⟨_, rfl⟩
def spLaw (K : PySem.W.Frag) : Sp := fun vs H Q _ => ∃ (a : Addr) (ns : List Int), vs = [.ref a] ∧ SqL K H a (ns.map V.int) ∧ ns.length ≤ 63 ∧ ∀ H', Q (.bl true) H'
abbrev NL : List Str := ["_law_script", "_law_deck_here", "_law_word", "_law_k", "_law_beneath", "_law_one", "_law_other", "_law_rest", "_law_state", "_law_due", "_law_turn", "_law_found"]
theorem scLaw : FnScope NL ["_law_script"] (defScope sLaw) := ⟨rfl, rfl, rfl, by decide +kernel, rfl, by decide +kernel, by decide +kernel⟩
abbrev AD : List Str := ["_law_deck_here", "_law_most"]
theorem ok_law {f fde fdr fn ft fa fr fs : Addr} {fdd ded drd nd td ad rd sd : FuncData} {ds : List Value} (F : Fun K "law" "law" sLaw f fdd)
    (DE : FnOk P w K mg base CX0 2 fde ded ["_law_script", "_law_most"] (spDeck K)) (bDE : L2.Binds K ded ["_law_script", "_law_most"] []) (kDE : keepIn K (.ref fde) = true) (mDE : mg "_law_deck" = some (.ref fde))
    (DR : FnOk P w K mg base CX0 2 fdr drd AD spDraw) (bDR : L2.Binds K drd AD []) (kDR : keepIn K (.ref fdr) = true) (mDR : mg "_law_draw" = some (.ref fdr))
    (NU : FnOk P w K mg base CX0 3 fn nd ["_law_deck_here"] spNumber) (bNU : L2.Binds K nd ["_law_deck_here"] []) (kNU : keepIn K (.ref fn) = true) (mNU : mg "_law_number" = some (.ref fn))
    (TH : FnOk P w K mg base CX0 19 ft td A2 (spThing K 3)) (bTH : L2.Binds K td A2 []) (kTH : keepIn K (.ref ft) = true) (mTH : mg "_law_thing" = some (.ref ft))
    (AN : FnOk P w K mg base CX0 18 fa ad A2 (spAny K 2)) (bAN : L2.Binds K ad A2 []) (kAN : keepIn K (.ref fa) = true) (mAN : mg "_law_any_word" = some (.ref fa))
    (RE : FnOk P w K mg base CX0 1 fr rd NR spReck) (bRE : L2.Binds K rd NR []) (kRE : keepIn K (.ref fr) = true) (mRE : mg "_law_reckoned" = some (.ref fr))
    (ST : FnOk P w K mg base CX0 5 fs sd ["state", "book"] (spStep K)) (bST : L2.Binds K sd ["state", "book"] ds) (vST : Vals [.non] ds) (kST : keepIn K (.ref fs) = true) (mST : mg "step" = some (.ref fs))
    (mrange : mg "range" = none) (mtup : mg "tuple" = none) (misi : mg "isinstance" = none) (mbool : mg "bool" = none) : FnOk P w K mg base CX0 20 f fdd ["_law_script"] (spLaw K) := by
  refine F.ok scLaw (fun vs H Q E h => ?_) (fun cdv A outer s H vs Q E hr h => ?_)
  · obtain ⟨a, ns, rfl, _⟩ := h
    rfl
  obtain ⟨a, ns, rfl, hS, h63, q⟩ := h
  have hr1 := hr.mono (j := 1) (by decide)
  have hr2 := hr.mono (j := 2) (by decide)
  have hr3 := hr.mono (j := 3) (by decide)
  have hr5 := hr.mono (j := 5) (by decide)
  have hr18 := hr.mono (j := 18) (by decide)
  refine ⟨_, pss_cons (ps_set (i := 1) scLaw.nd rfl (.inr rfl) (pe_call DE hr2 rfl mDE kDE bDE .nil pass0 (pa_cons (pv 0) (pa_cons pe_int pa_nil))))
    (pss_cons (ps_for PassesOwn.never rfl (pi_list (pe_lst (pa_cons pe_str (pa_cons pe_str (pa_cons pe_str (pa_cons pe_str (pa_cons pe_str pa_nil))))))) (pg_name (i := 2) scLaw.nd rfl (.inl rfl))
      (pss_cons (ps_setLc (i := 4) (own := [("_law_k", 3)]) (g := gName 3) (tt := tYes) rfl scLaw.nd rfl rfl rfl (pi_range1 rfl mrange (pa_cons (pe_call DR hr2 rfl mDR kDR bDR .nil pass0 (pa_cons (pv 1) (pa_cons pe_int pa_nil))) pa_nil)) (blkOk_by (own := [("_law_k", 3)]) (N := NL) (sc := defScope sLaw) (by decide +kernel))
        (fun _ _ _ _ _ => pg_name (i := 3) scLaw.nd rfl (Or.inl rfl)) (fun _ _ _ _ _ => pts_nil) (fun _ _ _ _ _ => pe_call TH hr rfl mTH kTH bTH .nil pass0 (pa_cons (pv 1) (pa_cons pe_int pa_nil))))
      (pss_cons (ps_set (i := 5) scLaw.nd rfl (.inl rfl) (pe_call NU hr3 rfl mNU kNU bNU .nil pass0 (pa_cons (pv 1) pa_nil)))
      (pss_cons (ps_set (i := 6) scLaw.nd rfl (.inl rfl) (pe_ix ix_list (pe_lst (pa_cons (pe_call NU hr3 rfl mNU kNU bNU .nil pass0 (pa_cons (pv 1) pa_nil)) (pa_cons (pv 5) pa_nil))) (pe_op op_fdiv (pe_call DR hr2 rfl mDR kDR bDR .nil pass0 (pa_cons (pv 1) (pa_cons pe_int pa_nil))) pe_int) (fun _ _ => rfl)))
      (pss_cons (ps_set (i := 7) scLaw.nd rfl (.inl rfl) (pe_callTy call_tuple_of (by rfl) mtup (by decide +kernel) (pa_cons (pe_lc (own := [("_law_k", 3)]) (g := gName 3) (tt := tYes) rfl scLaw.nd (pi_range1 rfl mrange (pa_cons (pe_call DR hr2 rfl mDR kDR bDR .nil pass0 (pa_cons (pv 1) (pa_cons pe_int pa_nil))) pa_nil)) (blkOk_by (own := [("_law_k", 3)]) (N := NL) (sc := defScope sLaw) (by decide +kernel))
        (fun _ _ _ _ _ => pg_name (i := 3) scLaw.nd rfl (Or.inl rfl)) (fun _ _ _ _ _ => pts_nil) (fun _ _ _ _ _ => pe_call AN hr18 rfl mAN kAN bAN .nil pass0 (pa_cons (pv 1) (pa_cons pe_int pa_nil)))) pa_nil)))
      (C8.pss_cut (ps_set (i := 8) scLaw.nd rfl (.inl rfl) (pe_tup (pa_cons (pe_callTy call_tuple_of (by rfl) mtup (by decide +kernel) (pa_cons (pe_op op_cat (pv 4) (pe_lst (pa_cons (pe_tup (pa_cons pe_str (pa_cons (pv 5) pa_nil))) (pa_cons (pe_tup (pa_cons pe_str (pa_cons (pv 6) pa_nil))) pa_nil)))) pa_nil)) (pa_cons (pe_op op_catA (pe_tup (pa_cons (pv 2) pa_nil)) (pv 7)) pa_nil))))
      (pss_cons (ps_set (i := 9) scLaw.nd rfl (.inl rfl) (pe_tup (pa_cons (pe_callTy call_tuple_of (by rfl) mtup (by decide +kernel) (pa_cons (pe_op op_cat (pv 4) (pe_lst (pa_cons (pe_tup (pa_cons pe_str (pa_cons (pe_call RE hr1 rfl mRE kRE bRE .nil pass0 (pa_cons (pv 2) (pa_cons (pv 5) (pa_cons (pv 6) pa_nil)))) pa_nil))) pa_nil))) pa_nil)) (pa_cons (pv 7) pa_nil))))
      (pss_one (ps_for PassesOwn.never rfl (pi_range1 rfl mrange (pa_cons pe_int pa_nil)) (pg_name (i := 10) scLaw.nd rfl (.inl rfl))
        (pss_cons (ps_set (i := 11) scLaw.nd rfl (.inl rfl) (pe_call ST hr5 rfl mST kST bST vST pass0 (pa_cons (pv 8) pa_nil)))
        (pss_one (ps_if (PW.pt (pw_or (pt_cmpR (op_neD hr.units) (pv 11) (pv 9) (nomark _)) (pw_or (pt_not (pt_val (pe_callB call_isi (by rfl) misi PyProof.Rows.boot_isinstance (pa_cons (pv 11) (pa_cons (pe_bltn (v := .ty "tuple") (by rfl) mtup (by decide +kernel) rfl) pa_nil))))) (pw_or1 (pt_cmpR op_in_seq pe_bl (pe_lst (pa_cons (pe_callB call_isi (by rfl) misi PyProof.Rows.boot_isinstance (pa_cons (pe_ix ix_tup (pe_ix ix_tup (pe_ix ix_tup (pv 11) pe_int (fun _ _ => rfl)) (pe_un un_neg pe_int) (fun _ _ => rfl)) pe_int (fun _ _ => rfl)) (pa_cons (pe_bltn (v := .ty "bool") (by rfl) mbool (by decide +kernel) rfl) pa_nil))) pa_nil)) rfl))))) (pss_one (ps_ret pe_bl)) pss_nil))))))))))))
    (pss_one (ps_ret pe_bl))), ?_⟩
  refine ⟨_, rfl, a, ns, 200, rfl, hS, h63, by decide, fun d H1 es s1 np hp hd => ?_⟩
  have D1 : Dk H1 d := ⟨es, hp, hd⟩
  refine ⟨(by show 5 ≤ sizeLine; decide), fun L nL => ⟨L, rfl, ⟨_, SqL.of upd_same⟩, ?_⟩⟩
  have nLd := D1.nd nL
  have inner : True := trivial
  refine for_list (K := K) (a := L) (xs := fives.map V.str) (fun i σ H' => ∃ (x2 x3 x4 x5 x6 x7 x8 x9 x10 x11 : Option V), σ = [some (.ref a), some (.ref d), x2, x3, x4, x5, x6, x7, x8, x9, x10, x11] ∧ H' L = some (.lst (fives.map V.str)) ∧ Dk H' d)
    ⟨none, none, none, none, none, none, none, none, none, none, rfl, upd_same, D1.new nL⟩ (fun i σ H' _ h => by obtain ⟨_, _, _, _, _, _, _, _, _, _, _, h, _⟩ := h; exact SqL.of h) ?_ (fun σ H' _ => q H')
  rintro i x σ H2 hi ⟨x2, x3, x4, x5, x6, x7, x8, x9, x10, x11, rfl, hL2, D2⟩
  obtain ⟨z, hz5, rfl⟩ : ∃ z ∈ fives, x = .str z := by
    obtain ⟨z, hz, e⟩ := List.mem_map.mp (List.mem_of_getElem? hi)
    exact ⟨z, hz, e.symm⟩
  obtain ⟨g, hg⟩ := fives_g z hz5
  refine ⟨_, rfl, d, 4, rfl, D2, by decide, by decide, fun r H3 r0 r1 k3 D3 => ?_⟩
  refine ⟨_, rfl, by omega, by omega, fun B nB => ?_⟩
  have nBd := D3.nd nB
  refine lc_range (lo := 0) (n := r.toNat) (fun i H' => ∃ (acc : List V) (ts : List PyData) (u v : Nat), H' B = some (.lst acc) ∧ TrAll K H' acc ts ∧ Stk 2 u v ts ∧ acc.length = i ∧ Kp [d] H3 H' ∧ Dk H' d)
    ⟨[], [], 0, 0, upd_same, .nil, .nil, rfl, (Kp.refl _ _).new nB, D3.new nB⟩ ?_ ?_
  · rintro i H6 hi ⟨acc, ts, u, v, e1, e2, e3, e5, k6, g6⟩
    refine ⟨rfl, _, rfl, d, 2, rfl, rfl, by decide, g6, fun y t n2 m2 H7 hv hy hm k7 g7 => ?_⟩
    have hL : H7 B = some (.lst acc) := k7 B _ nBd e1
    have tk := (g6.tks (K := K) k7).trans (TKs.lst (ys := acc ++ [y]) hL)
    have hy' : Stk 2 (n2 + 0) (m2 + 0) [t] := .cons hy .nil
    exact ⟨acc, hL, small1000 (by omega), acc ++ [y], ts ++ [t], u + (n2 + 0), v + (m2 + 0), upd_same, (e2.mono tk).append (.cons (hv.mono (TKs.lst hL)) .nil), e3.append hy', by rw [List.length_append, e5]; rfl, (k6.trans k7).put ((Kp.refl _ _).free nB nBd), g7.put nBd⟩
  rintro H4 ⟨us, ts, u, v, hB4, hus4, hts, lus, k4, D4⟩
  have hL4 : H4 L = some (.lst (fives.map V.str)) := k4 L _ nLd (k3 L _ nLd hL2)
  refine ⟨_, rfl, d, rfl, D4, fun m H5 m0 m1 k5 D5 => ?_⟩
  refine ⟨_, rfl, d, rfl, D5, fun n1 H6 n10 n11 k6 D6 => ⟨_, rfl, (by show 2 ≤ sizeLine; decide), fun l nl => ?_⟩⟩
  refine ⟨_, rfl, d, 4, rfl, D6.new nl, by decide, by decide, fun r7 H7 r70 r71 k7 D7 => ?_⟩
  obtain ⟨n, n0, nn1, ha⟩ : ∃ n : Int, 0 ≤ n ∧ n < 10 ^ 12 ∧ atI [V.int n1, V.int m] (r7 / 3) = some (.int n) := by
    have e : r7 / 3 = 0 ∨ r7 / 3 = 1 := by omega
    rcases e with e | e
    · rw [e]; exact ⟨n1, n10, n11, atI_nat (j := 0) rfl⟩
    · rw [e]; exact ⟨m, m0, m1, atI_nat (j := 1) rfl⟩
  refine ⟨_, _, rfl, rfl, ⟨by decide, by decide⟩, l, _, _, _, rfl, rfl, SqL.of (k7 l _ (D6.nd nl) upd_same), ha, ?_⟩
  have k47 : Kp [d] H4 H7 := ((k5.trans k6).new nl).trans k7
  refine ⟨_, rfl, d, 4, rfl, D7, by decide, by decide, fun r8 H8 r80 r81 k8 D8 => ?_⟩
  refine ⟨_, rfl, by omega, by omega, fun R nR => ?_⟩
  have nRd := D8.nd nR
  have k48 := k47.trans k8
  refine lc_range (lo := 0) (n := r8.toNat) (fun i H' => ∃ (acc : List V) (ts : List PyData) (u v : Nat), H' R = some (.lst acc) ∧ TrAll K H' acc ts ∧ Rw 1 u v ts ∧ acc.length = i ∧ Kp [d] H8 H' ∧ Dk H' d)
    ⟨[], [], 0, 0, upd_same, .nil, .nil, rfl, (Kp.refl _ _).new nR, D8.new nR⟩ ?_ ?_
  · rintro i H6 hi ⟨acc, ts, u, v, e1, e2, e3, e5, k6, g6⟩
    refine ⟨rfl, _, rfl, d, 1, rfl, rfl, by decide, g6, fun y t n2 m2 H7 hv hy hm k7 g7 => ?_⟩
    have hL : H7 R = some (.lst acc) := k7 R _ nRd e1
    have tk := (g6.tks (K := K) k7).trans (TKs.lst (ys := acc ++ [y]) hL)
    exact ⟨acc, hL, small1000 (by omega), acc ++ [y], ts ++ [t], u + n2, v + m2, upd_same, (e2.mono tk).append (.cons (hv.mono (TKs.lst hL)) .nil), e3.append hy, by rw [List.length_append, e5]; rfl, (k6.trans k7).put ((Kp.refl _ _).free nR nRd), g7.put nRd⟩
  rintro H9 ⟨ws, rs, u', v', hR9, hws9, hrs, lws, k9, D9⟩
  refine ⟨R, ws, rfl, .inl ⟨SqL.of hR9, fun rt nrt => ?_⟩⟩
  have k49 : Kp [d] H4 (upd H9 rt (.tup ws)) := (k48.trans k9).new nrt
  have hB := k49 B _ nBd hB4
  have hL := k49 L _ nLd hL4
  have hus := hus4.mono (D4.tks (K := K) k49)
  have hws := hws9.mono (TKs.of (K := K) (same_new nrt (.tup ws)))
  have hrt : SqT K (upd H9 rt (.tup ws)) rt ws := SqT.of upd_same
  have D10 := D9.new nrt (o := .tup ws)
  generalize upd H9 rt (.tup ws) = HA at k49 hB hL hus hws hrt D10
  clear k49 k9 k48 k47 k8 k7 k6 k5 k4 k3 D9 D8 D7 D6 D5 D4 D3 D2 D1
  have lus' : us.length ≤ 100 := by omega
  have lws' : ws.length ≤ 100 := by omega
  refine ⟨fun σ' HB => ∃ (st s1 t p1 p2 : Addr), σ' = [some (.ref a), some (.ref d), some (.str z), x3, some (.ref B), some (.int m), some (.int n), some (.ref rt), some (.ref st), x9, x10, x11] ∧ Same HA HB ∧ SqT K HB st [.ref s1, .ref t] ∧ SqT K HB s1 (us ++ [.ref p1, .ref p2]) ∧ SqT K HB p1 [.str "number", .int m] ∧ SqT K HB p2 [.str "number", .int n] ∧ SqT K HB t (.str z :: ws), ?_, ?_⟩
  · refine ⟨_, rfl, _, rfl, (by show 2 ≤ sizeLine; decide), fun p1 np1 => ⟨_, rfl, (by show 2 ≤ sizeLine; decide), fun p2 np2 => ⟨(by show 2 ≤ sizeLine; decide), fun l1 nl1 => ?_⟩⟩⟩
    have s2 := ((same_new np1 (.tup [V.str "number", .int m])).trans (same_new np2 (.tup [V.str "number", .int n]))).trans (same_new nl1 (.lst [V.ref p1, .ref p2]))
    refine ⟨B, l1, us, [V.ref p1, .ref p2], rfl, rfl, s2 _ _ hB, upd_same, (by show us.length + 2 ≤ sizeLine; exact Nat.le_of_lt (small1000 (by omega))), fun l2 nl2 => ?_⟩
    refine ⟨l2, _, rfl, .inl ⟨SqL.of upd_same, fun s1 ns1 => ?_⟩⟩
    have s3 := (s2.trans (same_new nl2 (.lst (us ++ [V.ref p1, .ref p2])))).trans (same_new ns1 (.tup (us ++ [V.ref p1, .ref p2])))
    have h1 := kn (o' := .tup (us ++ [V.ref p1, .ref p2])) (kn (o' := .lst (us ++ [V.ref p1, .ref p2])) (kn (o' := .lst [V.ref p1, .ref p2]) (kn (o' := .tup [V.str "number", .int n]) (upd_same (H := HA) (a := p1) (o := .tup [V.str "number", .int m])) np2) nl1) nl2) ns1
    have h2 := kn (o' := .tup (us ++ [V.ref p1, .ref p2])) (kn (o' := .lst (us ++ [V.ref p1, .ref p2])) (kn (o' := .lst [V.ref p1, .ref p2]) (upd_same (H := upd HA p1 (.tup [V.str "number", .int m])) (a := p2) (o := .tup [V.str "number", .int n])) nl1) nl2) ns1
    refine ⟨_, rfl, (by show 1 ≤ sizeLine; decide), fun t1 nt1 => ?_⟩
    have s4 := same_new nt1 (.tup [V.str z])
    refine ⟨_, rfl, t1, rt, [.str z], ws, rfl, rfl, SqT.of upd_same, TKs.of (s3.trans s4) _ _ hrt, (by show 1 + ws.length ≤ sizeLine; exact Nat.le_of_lt (small1000 (by omega))), fun hx => (by cases hx), fun _ hw => ?_, fun _ _ t2 nt2 => ?_⟩
    · refine ⟨(by show 2 ≤ sizeLine; decide), fun st nst => ?_⟩
      have s5 := same_new nst (.tup [V.ref s1, .ref t1])
      refine ⟨st, s1, t1, p1, p2, rfl, (s3.trans s4).trans s5, SqT.of upd_same, SqT.of (kn (kn upd_same nt1) nst), SqT.of (kn (kn h1 nt1) nst), SqT.of (kn (kn h2 nt1) nst), ?_⟩
      rw [hw]
      exact SqT.of (kn upd_same nst)
    · refine ⟨(by show 2 ≤ sizeLine; decide), fun st nst => ?_⟩
      have s5 := (same_new nt2 (.tup ([V.str z] ++ ws))).trans (same_new nst (.tup [V.ref s1, .ref t2]))
      exact ⟨st, s1, t2, p1, p2, rfl, (s3.trans s4).trans s5, SqT.of upd_same, SqT.of (kn (kn (kn upd_same nt1) nt2) nst), SqT.of (kn (kn (kn h1 nt1) nt2) nst), SqT.of (kn (kn (kn h2 nt1) nt2) nst), SqT.of (kn upd_same nst)⟩
  rintro σ' HB ⟨st, s1, t, p1, p2, rfl, sB, hst, hs1, hp1, hp2, ht⟩
  have gb := g_bound hg m n
  refine ⟨_, rfl, _, rfl, _, rfl, _, rfl, z, g, m, n, hg, rfl, m0, m1, fun HC sC => ⟨(by show 2 ≤ sizeLine; decide), fun pd npd => ⟨(by show 1 ≤ sizeLine; decide), fun l3 nl3 => ?_⟩⟩⟩
  have s6 := sC.trans ((same_new npd (.tup [V.str "number", .int (g m n)])).trans (same_new nl3 (.lst [V.ref pd])))
  refine ⟨B, l3, us, [V.ref pd], rfl, rfl, (sB.trans s6) _ _ hB, upd_same, (by show us.length + 1 ≤ sizeLine; exact Nat.le_of_lt (small1000 (by omega))), fun l4 nl4 => ?_⟩
  refine ⟨l4, _, rfl, .inl ⟨SqL.of upd_same, fun sd2 nsd => ?_⟩⟩
  refine ⟨_, rfl, (by show 2 ≤ sizeLine; decide), fun du ndu => ?_⟩
  have s7 := ((s6.trans (same_new nl4 (.lst (us ++ [V.ref pd])))).trans (same_new nsd (.tup (us ++ [V.ref pd])))).trans (same_new ndu (.tup [V.ref sd2, .ref rt]))
  have hdu := SqT.of (K := K) (upd_same (H := upd (upd (upd (upd HC pd (.tup [V.str "number", .int (g m n)])) l3 (.lst [V.ref pd])) l4 (.lst (us ++ [V.ref pd]))) sd2 (.tup (us ++ [V.ref pd]))) (a := du) (o := .tup [V.ref sd2, .ref rt]))
  have hsd := SqT.of (K := K) (kn (o' := .tup [V.ref sd2, .ref rt]) (upd_same (H := upd (upd (upd HC pd (.tup [V.str "number", .int (g m n)])) l3 (.lst [V.ref pd])) l4 (.lst (us ++ [V.ref pd]))) (a := sd2) (o := .tup (us ++ [V.ref pd]))) ndu)
  have hpd := SqT.of (K := K) (kn (o' := .tup [V.ref sd2, .ref rt]) (kn (o' := .tup (us ++ [V.ref pd])) (kn (o' := .lst (us ++ [V.ref pd])) (kn (o' := .lst [V.ref pd]) (upd_same (H := HC) (a := pd) (o := .tup [V.str "number", .int (g m n)])) nl3) nl4) nsd) ndu)
  generalize upd (upd (upd (upd (upd HC pd (.tup [V.str "number", .int (g m n)])) l3 (.lst [V.ref pd])) l4 (.lst (us ++ [V.ref pd]))) sd2 (.tup (us ++ [V.ref pd]))) du (.tup [V.ref sd2, .ref rt]) = HD at s7 hdu hsd hpd
  refine ⟨2, rfl, by decide, by decide, for_range (lo := 0) (n := 2) (fun i σ' H' => ∃ (x10 x11 : Option V), σ' = [some (.ref a), some (.ref d), some (.str z), x3, some (.ref B), some (.int m), some (.int n), some (.ref rt), some (.ref st), some (.ref du), x10, x11] ∧ Same HD H')
    ⟨_, _, rfl, fun _ _ h => h⟩ ?_ ?_⟩
  · rintro i σ' HE hi ⟨y10, y11, rfl, sE⟩
    have sBE := s7.trans sE
    have tk := TKs.of (K := K) sBE
    refine ⟨_, rfl, st, s1, t, p1, p2, z, g, us, ws, m, n, .non, hg, rfl, tk _ _ hst, tk _ _ hs1, tk _ _ hp1, tk _ _ hp2, m0, m1, tk _ _ ht, lus', lws', fun r r1 r2 p HF sF hr hr1 hp hr2 => ?_⟩
    have tD := TKs.of (K := K) (sE.trans sF)
    have tA := TKs.of (K := K) ((sB.trans sBE).trans sF)
    obtain ⟨lay, shp⟩ := DD_lay hts hrs gb.1 gb.2
    have f1 : Tr K HF (.ref r) (DD ts rs (g m n)) := .tup hr (.cons (.tup hr1 ((hus.mono tA).append (.cons (.tup hp (.cons (.str _) (.cons (.int _) .nil))) .nil))) (.cons (.tup hr2 (hws.mono tA)) .nil))
    have f2 : Tr K HF (.ref du) (DD ts rs (g m n)) := .tup (tD _ _ hdu) (.cons (.tup (tD _ _ hsd) ((hus.mono tA).append (.cons (.tup (tD _ _ hpd) (.cons (.str _) (.cons (.int _) .nil))) .nil))) (.cons (.tup (tA _ _ hrt) (hws.mono tA)) .nil))
    refine ⟨_, rfl, _, rfl, _, _, f1.dp, f2.dp, shp, shp, _, rfl, ?_⟩
    rw [SeqAt.eqv_refl _ lay]
    refine iteF ?_
    refine ⟨_, rfl, _, _, _, _, true, rfl, .ty _, tyTup hr, kit_ty (r := true) (by decide +kernel), _, rfl, iteF ?_⟩
    refine ⟨_, rfl, r, _, 0, _, rfl, rfl, hr, atI_nat (j := 0) rfl, _, rfl, r1, _, _, _, rfl, rfl, hr1, atI_last, p, _, 1, _, rfl, rfl, hp, atI_nat (j := 1) rfl, _, _, _, _, false, rfl, .ty _, .base (.int _), kit_ty (r := false) (by decide +kernel), (by show 1 ≤ sizeLine; decide), fun l5 nl5 => ?_⟩
    refine ⟨l5, _, rfl, .inl (SqL.of upd_same), rfl, rfl, _, rfl, ?_⟩
    exact iteF ⟨_, _, rfl, (sE.trans sF).trans (same_new nl5 _)⟩
  · rintro σ' HE ⟨y10, y11, rfl, sE⟩
    exact ⟨_, _, _, _, _, _, _, _, _, _, rfl, (sB.trans (s7.trans sE)) _ _ hL, by obtain ⟨ms, e, l⟩ := D10; exact ⟨ms, (sB.trans (s7.trans sE)) _ _ e, l⟩⟩
end
end K09
namespace K09
open PySem PySem.W L2 SX Cm
theorem all_size {P : Program} {w : World} {K : PySem.W.Frag} {mg : Str → Option Value} {base : Heap} {f : Addr} {fd : FuncData} (F : Fun K "_law_size" "_law_size" sSize f fd) (bG : L2.Binds K fd ["_law_things"] []) (kG : keepIn K (.ref f) = true) (mG : mg "_law_size" = some (.ref f)) (mlen : mg "len" = none) (misi : mg "isinstance" = none) (mtup : mg "tuple" = none) :
    ∀ k, FnOk P w K mg base CX0 (k + 1) f fd ["_law_things"] (spSize K k)
  | 0 => ok_size0 F
  | k + 1 => ok_sizeS F (all_size F bG kG mG mlen misi mtup k) bG kG mG mlen misi mtup
theorem all_things {P : Program} {w : World} {K : PySem.W.Frag} {mg : Str → Option Value} {base : Heap} {g gn gs gc ft fa : Addr} {gd gnd gsd gcd ftd fad : FuncData}
    (G : FnOk P w K mg base CX0 2 g gd ["_law_deck_here", "_law_most"] spDraw) (bG : L2.Binds K gd ["_law_deck_here", "_law_most"] []) (kG : keepIn K (.ref g) = true) (mG : mg "_law_draw" = some (.ref g))
    (N : FnOk P w K mg base CX0 3 gn gnd ["_law_deck_here"] spNumber) (bN : L2.Binds K gnd ["_law_deck_here"] []) (kN : keepIn K (.ref gn) = true) (mN : mg "_law_number" = some (.ref gn))
    (Z : FnOk P w K mg base CX0 3 gs gsd ["_law_deck_here", "_law_most"] spShuffle) (bZ : L2.Binds K gsd ["_law_deck_here", "_law_most"] []) (kZ : keepIn K (.ref gs) = true) (mZ : mg "_law_shuffle" = some (.ref gs))
    (C : FnOk P w K mg base CX0 12 gc gcd ["_law_words", "_law_most"] (spCut K)) (bC : L2.Binds K gcd ["_law_words", "_law_most"] []) (kC : keepIn K (.ref gc) = true) (mC : mg "_law_cut" = some (.ref gc))
    (FT : Fun K "_law_thing" "_law_thing" sThing ft ftd) (bT : L2.Binds K ftd A2 []) (kT : keepIn K (.ref ft) = true) (mT : mg "_law_thing" = some (.ref ft))
    (FA : Fun K "_law_any_word" "_law_any_word" sAnyWord fa fad) (bA : L2.Binds K fad A2 []) (kA : keepIn K (.ref fa) = true) (mA : mg "_law_any_word" = some (.ref fa))
    (mrange : mg "range" = none) (mtup : mg "tuple" = none) :
    ∀ k, FnOk P w K mg base CX0 (13 + 2 * k) ft ftd A2 (spThing K k) ∧ FnOk P w K mg base CX0 (13 + 2 * k + 1) fa fad A2 (spAny K k)
  | 0 => ⟨ok_thing0 FT, ok_any (k := 0) FA G bG kG mG (ok_thing0 FT) bT kT mT Z bZ kZ mZ⟩
  | k + 1 => by
    obtain ⟨t, a⟩ := all_things G bG kG mG N bN kN mN Z bZ kZ mZ C bC kC mC FT bT kT mT FA bA kA mA mrange mtup k
    have t' : FnOk P w K mg base CX0 (13 + 2 * (k + 1)) ft ftd A2 (spThing K (k + 1)) := ok_thing FT G bG kG mG N bN kN mN a bA kA mA t bT kT mT C bC kC mC mrange mtup
    exact ⟨t', ok_any FA G bG kG mG t' bT kT mT Z bZ kZ mZ⟩
theorem all_mk {l : PySem.W.OpenLaw} {w : World} {K : PySem.W.Frag} {h : Heap} {mg : Str → Option Value} {fa f1 f2 f3 f4 f5 f6 f7 f8 f9 f10 f11 f12 f13 f14 f15 f16 f17 f18 f19 f20 f21 f22 : Addr} {es es2 : Array DictEntry} {n n2 nT : Nat} {fs T : Addr} {ods ans odT : Option Addr} {sls slT : Array (Option Value)} {ocs kVs dcs pms cds cts ocT : Value} (X : K.In h) (G : h.Ns mainGlobals mg) (hfa : mg "law" = some (.ref fa))
    {od1 an1 od2 an2 od3 an3 od4 an4 od5 an5 od6 an6 od7 an7 od8 an8 od9 an9 od10 an10 od11 an11 od12 an12 od13 an13 od14 an14 od15 an15 od16 an16 od17 an17 od18 an18 od19 an19 od20 an20 od21 an21 od22 an22 : Option Addr} {sl1 sl2 sl3 sl4 sl5 sl6 sl7 sl8 sl9 sl10 sl11 sl12 sl13 sl14 sl15 sl16 sl17 sl18 sl19 sl20 sl21 sl22 : Array (Option Value)} {oc1 kV1 dc1 pm1 cd1 ct1 oc2 kV2 dc2 pm2 cd2 ct2 oc3 kV3 dc3 pm3 cd3 ct3 oc4 kV4 dc4 pm4 cd4 ct4 oc5 kV5 dc5 pm5 cd5 ct5 oc6 kV6 dc6 pm6 cd6 ct6 oc7 kV7 dc7 pm7 cd7 ct7 oc8 kV8 dc8 pm8 cd8 ct8 oc9 kV9 dc9 pm9 cd9 ct9 oc10 kV10 dc10 pm10 cd10 ct10 oc11 kV11 dc11 pm11 cd11 ct11 oc12 kV12 dc12 pm12 cd12 ct12 oc13 kV13 dc13 pm13 cd13 ct13 oc14 kV14 dc14 pm14 cd14 ct14 oc15 kV15 dc15 pm15 cd15 ct15 oc16 kV16 dc16 pm16 cd16 ct16 oc17 kV17 dc17 pm17 cd17 ct17 oc18 kV18 dc18 pm18 cd18 ct18 oc19 kV19 dc19 pm19 cd19 ct19 oc20 kV20 dc20 pm20 cd20 ct20 oc21 kV21 dc21 pm21 cd21 ct21 oc22 kV22 dc22 pm22 cd22 ct22 : Value}
    (a1 : PySem.W.nsIn K mainGlobals "is_basic" = some (some (.ref f1))) (l1 : K.lookup f1 = some ⟨oc1, od1, .func (PySem.W.fnOf "is_basic" "is_basic" (defArgs sIsBasic) (defBody sIsBasic) (defScope sIsBasic) .none kV1 dc1 pm1 an1 cd1 ct1), sl1⟩) (c1 : PySem.W.codeIn K cd1 "is_basic" = true) (k1 : PySem.W.keepIn K (.ref f1) = true)
    (a2 : PySem.W.nsIn K mainGlobals "number_thing" = some (some (.ref f2))) (l2 : K.lookup f2 = some ⟨oc2, od2, .func (PySem.W.fnOf "number_thing" "number_thing" (defArgs sNumThing) (defBody sNumThing) (defScope sNumThing) .none kV2 dc2 pm2 an2 cd2 ct2), sl2⟩) (c2 : PySem.W.codeIn K cd2 "number_thing" = true) (k2 : PySem.W.keepIn K (.ref f2) = true)
    (a3 : PySem.W.nsIn K mainGlobals "plus_does" = some (some (.ref f3))) (l3 : K.lookup f3 = some ⟨oc3, od3, .func (PySem.W.fnOf "plus_does" "plus_does" (defArgs sPlus) (defBody sPlus) (defScope sPlus) .none kV3 dc3 pm3 an3 cd3 ct3), sl3⟩) (c3 : PySem.W.codeIn K cd3 "plus_does" = true) (k3 : PySem.W.keepIn K (.ref f3) = true)
    (a4 : PySem.W.nsIn K mainGlobals "minus_does" = some (some (.ref f4))) (l4 : K.lookup f4 = some ⟨oc4, od4, .func (PySem.W.fnOf "minus_does" "minus_does" (defArgs sMinus) (defBody sMinus) (defScope sMinus) .none kV4 dc4 pm4 an4 cd4 ct4), sl4⟩) (c4 : PySem.W.codeIn K cd4 "minus_does" = true) (k4 : PySem.W.keepIn K (.ref f4) = true)
    (a5 : PySem.W.nsIn K mainGlobals "times_does" = some (some (.ref f5))) (l5 : K.lookup f5 = some ⟨oc5, od5, .func (PySem.W.fnOf "times_does" "times_does" (defArgs sTimes) (defBody sTimes) (defScope sTimes) .none kV5 dc5 pm5 an5 cd5 ct5), sl5⟩) (c5 : PySem.W.codeIn K cd5 "times_does" = true) (k5 : PySem.W.keepIn K (.ref f5) = true)
    (a6 : PySem.W.nsIn K mainGlobals "less_does" = some (some (.ref f6))) (l6 : K.lookup f6 = some ⟨oc6, od6, .func (PySem.W.fnOf "less_does" "less_does" (defArgs sLess) (defBody sLess) (defScope sLess) .none kV6 dc6 pm6 an6 cd6 ct6), sl6⟩) (c6 : PySem.W.codeIn K cd6 "less_does" = true) (k6 : PySem.W.keepIn K (.ref f6) = true)
    (a7 : PySem.W.nsIn K mainGlobals "same_does" = some (some (.ref f7))) (l7 : K.lookup f7 = some ⟨oc7, od7, .func (PySem.W.fnOf "same_does" "same_does" (defArgs sSame) (defBody sSame) (defScope sSame) .none kV7 dc7 pm7 an7 cd7 ct7), sl7⟩) (c7 : PySem.W.codeIn K cd7 "same_does" = true) (k7 : PySem.W.keepIn K (.ref f7) = true)
    (a8 : PySem.W.nsIn K mainGlobals "effect_of" = some (some (.ref f8))) (l8 : K.lookup f8 = some ⟨oc8, od8, .func (PySem.W.fnOf "effect_of" "effect_of" (defArgs sEffect) (defBody sEffect) (defScope sEffect) .none kV8 dc8 pm8 an8 cd8 ct8), sl8⟩) (c8 : PySem.W.codeIn K cd8 "effect_of" = true) (k8 : PySem.W.keepIn K (.ref f8) = true)
    (a9 : PySem.W.nsIn K mainGlobals "effect_of_basic" = some (some (.ref f9))) (l9 : K.lookup f9 = some ⟨oc9, od9, .func (PySem.W.fnOf "effect_of_basic" "effect_of_basic" (defArgs sEffBasic) (defBody sEffBasic) (defScope sEffBasic) .none kV9 dc9 pm9 an9 cd9 ct9), sl9⟩) (c9 : PySem.W.codeIn K cd9 "effect_of_basic" = true) (k9 : PySem.W.keepIn K (.ref f9) = true)
    (a10 : PySem.W.nsIn K mainGlobals "top_of" = some (some (.ref f10))) (l10 : K.lookup f10 = some ⟨oc10, od10, .func (PySem.W.fnOf "top_of" "top_of" (defArgs sTopOf) (defBody sTopOf) (defScope sTopOf) .none kV10 dc10 pm10 an10 cd10 ct10), sl10⟩) (c10 : PySem.W.codeIn K cd10 "top_of" = true) (k10 : PySem.W.keepIn K (.ref f10) = true)
    (a11 : PySem.W.nsIn K mainGlobals "held_as" = some (some (.ref f11))) (l11 : K.lookup f11 = some ⟨oc11, od11, .func (PySem.W.fnOf "held_as" "held_as" (defArgs sHeldAs) (defBody sHeldAs) (defScope sHeldAs) .none kV11 dc11 pm11 an11 cd11 ct11), sl11⟩) (c11 : PySem.W.codeIn K cd11 "held_as" = true) (k11 : PySem.W.keepIn K (.ref f11) = true)
    (a12 : PySem.W.nsIn K mainGlobals "_law_mixed" = some (some (.ref f12))) (l12 : K.lookup f12 = some ⟨oc12, od12, .func (PySem.W.fnOf "_law_mixed" "_law_mixed" (defArgs sMixed) (defBody sMixed) (defScope sMixed) .none kV12 dc12 pm12 an12 cd12 ct12), sl12⟩) (c12 : PySem.W.codeIn K cd12 "_law_mixed" = true) (k12 : PySem.W.keepIn K (.ref f12) = true)
    (a13 : PySem.W.nsIn K mainGlobals "_law_deck" = some (some (.ref f13))) (l13 : K.lookup f13 = some ⟨oc13, od13, .func (PySem.W.fnOf "_law_deck" "_law_deck" (defArgs sDeck) (defBody sDeck) (defScope sDeck) .none kV13 dc13 pm13 an13 cd13 ct13), sl13⟩) (c13 : PySem.W.codeIn K cd13 "_law_deck" = true) (k13 : PySem.W.keepIn K (.ref f13) = true)
    (a14 : PySem.W.nsIn K mainGlobals "_law_draw" = some (some (.ref f14))) (l14 : K.lookup f14 = some ⟨oc14, od14, .func (PySem.W.fnOf "_law_draw" "_law_draw" (defArgs sDraw) (defBody sDraw) (defScope sDraw) .none kV14 dc14 pm14 an14 cd14 ct14), sl14⟩) (c14 : PySem.W.codeIn K cd14 "_law_draw" = true) (k14 : PySem.W.keepIn K (.ref f14) = true)
    (a15 : PySem.W.nsIn K mainGlobals "_law_size" = some (some (.ref f15))) (l15 : K.lookup f15 = some ⟨oc15, od15, .func (PySem.W.fnOf "_law_size" "_law_size" (defArgs sSize) (defBody sSize) (defScope sSize) .none kV15 dc15 pm15 an15 cd15 ct15), sl15⟩) (c15 : PySem.W.codeIn K cd15 "_law_size" = true) (k15 : PySem.W.keepIn K (.ref f15) = true)
    (a16 : PySem.W.nsIn K mainGlobals "_law_cut" = some (some (.ref f16))) (l16 : K.lookup f16 = some ⟨oc16, od16, .func (PySem.W.fnOf "_law_cut" "_law_cut" (defArgs sCut) (defBody sCut) (defScope sCut) .none kV16 dc16 pm16 an16 cd16 ct16), sl16⟩) (c16 : PySem.W.codeIn K cd16 "_law_cut" = true) (k16 : PySem.W.keepIn K (.ref f16) = true)
    (a17 : PySem.W.nsIn K mainGlobals "_law_number" = some (some (.ref f17))) (l17 : K.lookup f17 = some ⟨oc17, od17, .func (PySem.W.fnOf "_law_number" "_law_number" (defArgs sNumber) (defBody sNumber) (defScope sNumber) .none kV17 dc17 pm17 an17 cd17 ct17), sl17⟩) (c17 : PySem.W.codeIn K cd17 "_law_number" = true) (k17 : PySem.W.keepIn K (.ref f17) = true)
    (a18 : PySem.W.nsIn K mainGlobals "_law_thing" = some (some (.ref f18))) (l18 : K.lookup f18 = some ⟨oc18, od18, .func (PySem.W.fnOf "_law_thing" "_law_thing" (defArgs sThing) (defBody sThing) (defScope sThing) .none kV18 dc18 pm18 an18 cd18 ct18), sl18⟩) (c18 : PySem.W.codeIn K cd18 "_law_thing" = true) (k18 : PySem.W.keepIn K (.ref f18) = true)
    (a19 : PySem.W.nsIn K mainGlobals "_law_shuffle" = some (some (.ref f19))) (l19 : K.lookup f19 = some ⟨oc19, od19, .func (PySem.W.fnOf "_law_shuffle" "_law_shuffle" (defArgs sShuffle) (defBody sShuffle) (defScope sShuffle) .none kV19 dc19 pm19 an19 cd19 ct19), sl19⟩) (c19 : PySem.W.codeIn K cd19 "_law_shuffle" = true) (k19 : PySem.W.keepIn K (.ref f19) = true)
    (a20 : PySem.W.nsIn K mainGlobals "_law_any_word" = some (some (.ref f20))) (l20 : K.lookup f20 = some ⟨oc20, od20, .func (PySem.W.fnOf "_law_any_word" "_law_any_word" (defArgs sAnyWord) (defBody sAnyWord) (defScope sAnyWord) .none kV20 dc20 pm20 an20 cd20 ct20), sl20⟩) (c20 : PySem.W.codeIn K cd20 "_law_any_word" = true) (k20 : PySem.W.keepIn K (.ref f20) = true)
    (a21 : PySem.W.nsIn K mainGlobals "_law_reckoned" = some (some (.ref f21))) (l21 : K.lookup f21 = some ⟨oc21, od21, .func (PySem.W.fnOf "_law_reckoned" "_law_reckoned" (defArgs sReckoned) (defBody sReckoned) (defScope sReckoned) .none kV21 dc21 pm21 an21 cd21 ct21), sl21⟩) (c21 : PySem.W.codeIn K cd21 "_law_reckoned" = true) (k21 : PySem.W.keepIn K (.ref f21) = true)
    (a22 : PySem.W.nsIn K mainGlobals "law" = some (some (.ref f22))) (l22 : K.lookup f22 = some ⟨oc22, od22, .func (PySem.W.fnOf "law" "law" (defArgs sLaw) (defBody sLaw) (defScope sLaw) .none kV22 dc22 pm22 an22 cd22 ct22), sl22⟩) (c22 : PySem.W.codeIn K cd22 "law" = true) (k22 : PySem.W.keepIn K (.ref f22) = true)
    (z_len : PySem.W.nsIn K mainGlobals "len" = some none)
    (z_list : PySem.W.nsIn K mainGlobals "list" = some none)
    (z_sum : PySem.W.nsIn K mainGlobals "sum" = some none)
    (z_range : PySem.W.nsIn K mainGlobals "range" = some none)
    (z_isinstance : PySem.W.nsIn K mainGlobals "isinstance" = some none)
    (z_tuple : PySem.W.nsIn K mainGlobals "tuple" = some none)
    (z_int : PySem.W.nsIn K mainGlobals "int" = some none)
    (z_bool : PySem.W.nsIn K mainGlobals "bool" = some none)
    (z_zip : PySem.W.nsIn K mainGlobals "zip" = some none)
    {tN : Tok} (g_NUMBERS : PySem.W.nsIn K mainGlobals "NUMBERS" = some (some (.int 1000000000000 tN)))
    {d : Addr} (g_SORTS_TAKEN : PySem.W.nsIn K mainGlobals "SORTS_TAKEN" = some (some (.ref d)))
    {dd : Addr} (g_DOES : PySem.W.nsIn K mainGlobals "DOES" = some (some (.ref dd)))
    (xt : K.lookup d = some ⟨.type "dict", none, .dict es n, #[]⟩)
    (xk : PySem.W.KeysLit w.params es.toList)
    (xs : (d == sysModules) = false)
    (xx : kTab K es.toList = some Cm.table)
    (yt : K.lookup dd = some ⟨.type "dict", none, .dict es2 n2, #[]⟩)
    (yk : PySem.W.KeysLit w.params es2.toList)
    (y1 : PySem.W.nsIn K dd "plus" = some (some (.ref f3)))
    (y2 : PySem.W.nsIn K dd "minus" = some (some (.ref f4)))
    (y3 : PySem.W.nsIn K dd "times" = some (some (.ref f5)))
    (y4 : PySem.W.nsIn K dd "less" = some (some (.ref f6)))
    (y5 : PySem.W.nsIn K dd "same" = some (some (.ref f7)))
    (sa : PySem.W.nsIn K mainGlobals "step" = some (some (.ref fs)))
    (sl : K.lookup fs = some ⟨ocs, ods, .func (PySem.W.fnOf "step" "step" (defArgs sStep) (defBody sStep) (defScope sStep) (.ref T) kVs dcs pms ans cds cts), sls⟩)
    (sc : PySem.W.codeIn K cds "step" = true)
    (sk : PySem.W.keepIn K (.ref fs) = true)
    (sT : K.lookup T = some ⟨ocT, odT, .seq #[Value.none] nT, slT⟩)
    : ∃ fd : FuncData, (∀ (s : Shared) (v : Value), BindsTo s fd ⟨[v], []⟩ [("_law_script", v)]) ∧ ∀ base : Heap, K.In base → base.Ns mainGlobals mg → FnOk l.prog w K mg base CX0 20 fa fd ["_law_script"] (spLaw K) := by
  have e := hfa.symm.trans (PySem.W.mg_of X G a22)
  cases e
  have F1 := fun_mk (st := sIsBasic) l1 c1 k1
  have b1 := F1.binds (ps := ["text"]) fun _ _ _ _ _ _ us hl => match us, hl with | [_], _ => rfl
  have m1 := PySem.W.mg_of X G a1
  have F2 := fun_mk (st := sNumThing) l2 c2 k2
  have b2 := F2.binds (ps := ["n"]) fun _ _ _ _ _ _ us hl => match us, hl with | [_], _ => rfl
  have m2 := PySem.W.mg_of X G a2
  have F3 := fun_mk (st := sPlus) l3 c3 k3
  have b3 := F3.binds (ps := ["held"]) fun _ _ _ _ _ _ us hl => match us, hl with | [_], _ => rfl
  have m3 := PySem.W.mg_of X G a3
  have F4 := fun_mk (st := sMinus) l4 c4 k4
  have b4 := F4.binds (ps := ["held"]) fun _ _ _ _ _ _ us hl => match us, hl with | [_], _ => rfl
  have m4 := PySem.W.mg_of X G a4
  have F5 := fun_mk (st := sTimes) l5 c5 k5
  have b5 := F5.binds (ps := ["held"]) fun _ _ _ _ _ _ us hl => match us, hl with | [_], _ => rfl
  have m5 := PySem.W.mg_of X G a5
  have F6 := fun_mk (st := sLess) l6 c6 k6
  have b6 := F6.binds (ps := ["held"]) fun _ _ _ _ _ _ us hl => match us, hl with | [_], _ => rfl
  have m6 := PySem.W.mg_of X G a6
  have F7 := fun_mk (st := sSame) l7 c7 k7
  have b7 := F7.binds (ps := ["held"]) fun _ _ _ _ _ _ us hl => match us, hl with | [_], _ => rfl
  have m7 := PySem.W.mg_of X G a7
  have F8 := fun_mk (st := sEffect) l8 c8 k8
  have b8 := F8.binds (ps := ["word", "stack", "book"]) fun _ _ _ _ _ _ us hl => match us, hl with | [_, _, _], _ => rfl
  have m8 := PySem.W.mg_of X G a8
  have F9 := fun_mk (st := sEffBasic) l9 c9 k9
  have b9 := F9.binds (ps := ["word", "stack"]) fun _ _ _ _ _ _ us hl => match us, hl with | [_, _], _ => rfl
  have m9 := PySem.W.mg_of X G a9
  have F10 := fun_mk (st := sTopOf) l10 c10 k10
  have b10 := F10.binds (ps := ["stack", "many"]) fun _ _ _ _ _ _ us hl => match us, hl with | [_, _], _ => rfl
  have m10 := PySem.W.mg_of X G a10
  have F11 := fun_mk (st := sHeldAs) l11 c11 k11
  have b11 := F11.binds (ps := ["sort", "thing"]) fun _ _ _ _ _ _ us hl => match us, hl with | [_, _], _ => rfl
  have m11 := PySem.W.mg_of X G a11
  have F12 := fun_mk (st := sMixed) l12 c12 k12
  have b12 := F12.binds (ps := ["_law_number_here"]) fun _ _ _ _ _ _ us hl => match us, hl with | [_], _ => rfl
  have m12 := PySem.W.mg_of X G a12
  have F13 := fun_mk (st := sDeck) l13 c13 k13
  have b13 := F13.binds (ps := ["_law_script", "_law_most"]) fun _ _ _ _ _ _ us hl => match us, hl with | [_, _], _ => rfl
  have m13 := PySem.W.mg_of X G a13
  have F14 := fun_mk (st := sDraw) l14 c14 k14
  have b14 := F14.binds (ps := ["_law_deck_here", "_law_most"]) fun _ _ _ _ _ _ us hl => match us, hl with | [_, _], _ => rfl
  have m14 := PySem.W.mg_of X G a14
  have F15 := fun_mk (st := sSize) l15 c15 k15
  have b15 := F15.binds (ps := ["_law_things"]) fun _ _ _ _ _ _ us hl => match us, hl with | [_], _ => rfl
  have m15 := PySem.W.mg_of X G a15
  have F16 := fun_mk (st := sCut) l16 c16 k16
  have b16 := F16.binds (ps := ["_law_words", "_law_most"]) fun _ _ _ _ _ _ us hl => match us, hl with | [_, _], _ => rfl
  have m16 := PySem.W.mg_of X G a16
  have F17 := fun_mk (st := sNumber) l17 c17 k17
  have b17 := F17.binds (ps := ["_law_deck_here"]) fun _ _ _ _ _ _ us hl => match us, hl with | [_], _ => rfl
  have m17 := PySem.W.mg_of X G a17
  have F18 := fun_mk (st := sThing) l18 c18 k18
  have b18 := F18.binds (ps := ["_law_deck_here", "_law_deep"]) fun _ _ _ _ _ _ us hl => match us, hl with | [_, _], _ => rfl
  have m18 := PySem.W.mg_of X G a18
  have F19 := fun_mk (st := sShuffle) l19 c19 k19
  have b19 := F19.binds (ps := ["_law_deck_here", "_law_most"]) fun _ _ _ _ _ _ us hl => match us, hl with | [_, _], _ => rfl
  have m19 := PySem.W.mg_of X G a19
  have F20 := fun_mk (st := sAnyWord) l20 c20 k20
  have b20 := F20.binds (ps := ["_law_deck_here", "_law_deep"]) fun _ _ _ _ _ _ us hl => match us, hl with | [_, _], _ => rfl
  have m20 := PySem.W.mg_of X G a20
  have F21 := fun_mk (st := sReckoned) l21 c21 k21
  have b21 := F21.binds (ps := ["_law_word", "_law_m", "_law_n"]) fun _ _ _ _ _ _ us hl => match us, hl with | [_, _, _], _ => rfl
  have m21 := PySem.W.mg_of X G a21
  have F22 := fun_mk (st := sLaw) l22 c22 k22
  have y_len := PySem.W.mg_none_of X G z_len
  have y_list := PySem.W.mg_none_of X G z_list
  have y_sum := PySem.W.mg_none_of X G z_sum
  have y_range := PySem.W.mg_none_of X G z_range
  have y_isinstance := PySem.W.mg_none_of X G z_isinstance
  have y_tuple := PySem.W.mg_none_of X G z_tuple
  have y_int := PySem.W.mg_none_of X G z_int
  have y_bool := PySem.W.mg_none_of X G z_bool
  have y_zip := PySem.W.mg_none_of X G z_zip
  have v_NUMBERS := PySem.W.mg_of X G g_NUMBERS
  have v_SORTS_TAKEN := PySem.W.mg_of X G g_SORTS_TAKEN
  have v_DOES := PySem.W.mg_of X G g_DOES
  refine ⟨PySem.W.fnOf "law" "law" (defArgs sLaw) (defBody sLaw) (defScope sLaw) .none kV22 dc22 pm22 an22 cd22 ct22, fun s v => .of_eq rfl, fun base _ _ => ?_⟩
  have mN : ∃ t, mg "NUMBERS" = some (.int (10 ^ 12) t) := ⟨_, by rw [show ((10 : Int) ^ 12) = 1000000000000 by decide]; exact v_NUMBERS⟩
  have TB : Tab K w mg d es n := ⟨⟨xt, xk, xs⟩, xx, v_SORTS_TAKEN⟩
  have O1 : FnOk l.prog w K mg base CX0 1 f1 _ ["text"] spBasic := ok_basic F1 TB
  have O2 : FnOk l.prog w K mg base CX0 1 f2 _ ["n"] spNumT := ok_numT F2 mN
  have O3 := ok_plus F3 O2 b2 k2 m2
  have O4 := ok_minus F4 O2 b2 k2 m2
  have O5 := ok_times F5 O2 b2 k2 m2
  have O6 := ok_less F6 O2 b2 k2 m2
  have O7 := ok_same F7 O2 b2 k2 m2
  have O10 : FnOk l.prog w K mg base CX0 1 f10 _ ["stack", "many"] (spTop K) := ok_top F10 y_len
  have O11 : FnOk l.prog w K mg base CX0 1 f11 _ ["sort", "thing"] (spHeld K) := ok_held F11
  have hDo : ∀ z g, gOf z = some g → ∃ f, KDct K w dd z (.ref f) ∧ Held l.prog w K mg base 2 f (spDoes K g) := fun z g hz => by
    have hf := five hz
    simp only [List.mem_cons, List.not_mem_nil, or_false] at hf
    rcases hf with rfl | rfl | rfl | rfl | rfl
    · cases hz; exact ⟨f3, ⟨es2, n2, _, yt, yk, y1, rfl⟩, ⟨⟨_, _, O3, k3, b3⟩⟩⟩
    · cases hz; exact ⟨f4, ⟨es2, n2, _, yt, yk, y2, rfl⟩, ⟨⟨_, _, O4, k4, b4⟩⟩⟩
    · cases hz; exact ⟨f5, ⟨es2, n2, _, yt, yk, y3, rfl⟩, ⟨⟨_, _, O5, k5, b5⟩⟩⟩
    · cases hz; exact ⟨f6, ⟨es2, n2, _, yt, yk, y4, rfl⟩, ⟨⟨_, _, O6, k6, b6⟩⟩⟩
    · cases hz; exact ⟨f7, ⟨es2, n2, _, yt, yk, y5, rfl⟩, ⟨⟨_, _, O7, k7, b7⟩⟩⟩
  have O9 := ok_effB F9 TB hDo v_DOES O11 b11 k11 m11 O10 b10 k10 m10 y_len y_zip
  have O8 := ok_eff F8 y_isinstance y_tuple O1 b1 k1 m1 O9 b9 k9 m9
  have FS : FunD K "step" "step" (defArgs sStep) (defBody sStep) (defScope sStep) [.non] [] fs (PySem.W.fnOf "step" "step" (defArgs sStep) (defBody sStep) (defScope sStep) (.ref T) kVs dcs pms ans cds cts) :=
    ⟨⟨_, _, _, _, _, _, _, _, _, _, rfl, sl, sc, .inr ⟨by decide, T, _, [Value.none], nT, rfl, sT, rfl, .cons rfl .nil⟩, .inl rfl⟩, sk⟩
  obtain ⟨dsS, vS, bS⟩ := FS.binds1 (ps := ["state", "book"]) 1 0 (by decide) rfl (fun T kV doc pm an cdv ct us its h1 h2 => match us, its, h1, h2 with | [_], [_], _, _ => ⟨_, rfl, rfl⟩)
  have mS := PySem.W.mg_of X G sa
  have OS := ok_step FS y_len O8 b8 k8 m8
  have O12 : FnOk l.prog w K mg base CX0 1 f12 _ ["_law_number_here"] spMixed := ok_mixed F12
  have O13 := ok_deck F13 O12 b12 k12 m12 y_list y_sum y_len
  have O14 := ok_draw F14 O12 b12 k12 m12
  have O15 := all_size (P := l.prog) (w := w) (mg := mg) (base := base) F15 b15 k15 m15 y_len y_isinstance y_tuple 10
  have O16 := ok_cut F16 O15 b15 k15 m15 y_tuple
  have O17 := ok_number F17 O14 b14 k14 m14
  have O19 := ok_shuffle F19 O14 b14 k14 m14 y_range
  have OT := all_things O14 b14 k14 m14 O17 b17 k17 m17 O19 b19 k19 m19 O16 b16 k16 m16 F18 b18 k18 m18 F20 b20 k20 m20 y_range y_tuple
  have O21 : FnOk l.prog w K mg base CX0 1 f21 _ NR spReck := ok_reck F21 y_int
  exact ok_law F22 O13 b13 k13 m13 O14 b14 k14 m14 O17 b17 k17 m17 (OT 3).1 b18 k18 m18 (OT 2).2 b20 k20 m20 O21 b21 k21 m21 OS bS vS sk mS y_range y_tuple y_isinstance y_bool
theorem walk {l : PySem.W.OpenLaw} {q : Program} {loose : List Str} {XP : (Str → Option Value) → Heap → Prop} {YP : World → Heap → Prop} {d : DefRec} {K : Params → PySem.W.Frag} (hn : l.most = some 63) (hdf : d.params.defaults = [])
    (hY : ∀ (w : World) (h : Heap), YP w h → (K w.params).In h)
    (F : ∀ (w : World) (mg : Str → Option Value) (fa : Addr) (h : Heap), (K w.params).In h → h.Ns mainGlobals mg → mg d.name = some (.ref fa) →
      ∃ fd : FuncData, (∀ (s : Shared) (u : Value), BindsTo s fd ⟨[u], []⟩ [("_law_script", u)]) ∧ ∀ base : Heap, (K w.params).In base → base.Ns mainGlobals mg → FnOk l.prog w (K w.params) mg base CX0 20 fa fd ["_law_script"] (spLaw (K w.params))) :
    PySem.W.WalkO q loose XP YP l.row.toRowW d [] (fun f vs => PySem.call f vs) :=
  L2.walk_of (n := 63) (k := 20) (x := "_law_script") (CX := fun _ => CX0) (sp := fun w => spLaw (K w.params)) hn (by decide) hdf ⟨rfl, by decide, by decide⟩ hY F (fun _ _ a ns hl _ hS => ⟨a, ns, rfl, hS, hl, fun _ => rfl⟩) fun _ _ _ _ _ z => z
end K09
open PySem PySem.W PyProof.Rows
set_option maxRecDepth 100000 in
set_option maxHeartbeats 0 in
theorem PySem.Challenge.cw_takeleave_k09_numbers_reckoned_holds : PySem.Challenge.rw_takeleave_k09_numbers_reckoned.Holds := by
  w_on; o_law; k_head; (case hw => w_witness2)
  k_fill
  refine K09.walk (l := PySem.Challenge.rw_takeleave_k09_numbers_reckoned) rfl rfl (fun w h Y => PySem.W.kIn_of Y) ?F
  case F =>
    intro w mg fa h KX G hmg
    refine' K09.all_mk (w := w) KX G hmg ?a1 ?l1 ?c1 ?k1 ?a2 ?l2 ?c2 ?k2 ?a3 ?l3 ?c3 ?k3 ?a4 ?l4 ?c4 ?k4 ?a5 ?l5 ?c5 ?k5 ?a6 ?l6 ?c6 ?k6 ?a7 ?l7 ?c7 ?k7 ?a8 ?l8 ?c8 ?k8 ?a9 ?l9 ?c9 ?k9 ?a10 ?l10 ?c10 ?k10 ?a11 ?l11 ?c11 ?k11 ?a12 ?l12 ?c12 ?k12 ?a13 ?l13 ?c13 ?k13 ?a14 ?l14 ?c14 ?k14 ?a15 ?l15 ?c15 ?k15 ?a16 ?l16 ?c16 ?k16 ?a17 ?l17 ?c17 ?k17 ?a18 ?l18 ?c18 ?k18 ?a19 ?l19 ?c19 ?k19 ?a20 ?l20 ?c20 ?k20 ?a21 ?l21 ?c21 ?k21 ?a22 ?l22 ?c22 ?k22 ?z_len ?z_list ?z_sum ?z_range ?z_isinstance ?z_tuple ?z_int ?z_bool ?z_zip ?g_NUMBERS ?g_SORTS_TAKEN ?g_DOES ?xt ?xk ?xs ?xx ?yt ?yk ?y1 ?y2 ?y3 ?y4 ?y5 ?sa ?sl ?sc ?sk ?sT
    (case a1 => k_is)
    (case l1 => k_is)
    (case c1 => k_is)
    (case k1 => k_is)
    (case a2 => k_is)
    (case l2 => k_is)
    (case c2 => k_is)
    (case k2 => k_is)
    (case a3 => k_is)
    (case l3 => k_is)
    (case c3 => k_is)
    (case k3 => k_is)
    (case a4 => k_is)
    (case l4 => k_is)
    (case c4 => k_is)
    (case k4 => k_is)
    (case a5 => k_is)
    (case l5 => k_is)
    (case c5 => k_is)
    (case k5 => k_is)
    (case a6 => k_is)
    (case l6 => k_is)
    (case c6 => k_is)
    (case k6 => k_is)
    (case a7 => k_is)
    (case l7 => k_is)
    (case c7 => k_is)
    (case k7 => k_is)
    (case a8 => k_is)
    (case l8 => k_is)
    (case c8 => k_is)
    (case k8 => k_is)
    (case a9 => k_is)
    (case l9 => k_is)
    (case c9 => k_is)
    (case k9 => k_is)
    (case a10 => k_is)
    (case l10 => k_is)
    (case c10 => k_is)
    (case k10 => k_is)
    (case a11 => k_is)
    (case l11 => k_is)
    (case c11 => k_is)
    (case k11 => k_is)
    (case a12 => k_is)
    (case l12 => k_is)
    (case c12 => k_is)
    (case k12 => k_is)
    (case a13 => k_is)
    (case l13 => k_is)
    (case c13 => k_is)
    (case k13 => k_is)
    (case a14 => k_is)
    (case l14 => k_is)
    (case c14 => k_is)
    (case k14 => k_is)
    (case a15 => k_is)
    (case l15 => k_is)
    (case c15 => k_is)
    (case k15 => k_is)
    (case a16 => k_is)
    (case l16 => k_is)
    (case c16 => k_is)
    (case k16 => k_is)
    (case a17 => k_is)
    (case l17 => k_is)
    (case c17 => k_is)
    (case k17 => k_is)
    (case a18 => k_is)
    (case l18 => k_is)
    (case c18 => k_is)
    (case k18 => k_is)
    (case a19 => k_is)
    (case l19 => k_is)
    (case c19 => k_is)
    (case k19 => k_is)
    (case a20 => k_is)
    (case l20 => k_is)
    (case c20 => k_is)
    (case k20 => k_is)
    (case a21 => k_is)
    (case l21 => k_is)
    (case c21 => k_is)
    (case k21 => k_is)
    (case a22 => k_is)
    (case l22 => k_is)
    (case c22 => k_is)
    (case k22 => k_is)
    (case z_len => k_is)
    (case z_list => k_is)
    (case z_sum => k_is)
    (case z_range => k_is)
    (case z_isinstance => k_is)
    (case z_tuple => k_is)
    (case z_int => k_is)
    (case z_bool => k_is)
    (case z_zip => k_is)
    (case g_NUMBERS => k_is)
    (case g_SORTS_TAKEN => k_is)
    (case g_DOES => k_is)
    (case xt => k_is)
    (case xk => first | k_is | (refine ⟨⟨_, _, rfl, rfl⟩, ⟨_, _, rfl, rfl⟩, ⟨_, _, rfl, rfl⟩, ⟨_, _, rfl, rfl⟩, ⟨_, _, rfl, rfl⟩, ⟨_, _, rfl, rfl⟩, ⟨_, _, rfl, rfl⟩, ⟨_, _, rfl, rfl⟩, ⟨_, _, rfl, rfl⟩, ⟨_, _, rfl, rfl⟩, ⟨_, _, rfl, rfl⟩, ⟨_, _, rfl, rfl⟩, ⟨_, _, rfl, rfl⟩, ⟨_, _, rfl, rfl⟩, ⟨_, _, rfl, rfl⟩, trivial⟩))
    (case xs => first | k_is | rfl | decide)
    (case xx => kernel_rfl)
    (case yt => k_is)
    (case yk => first | k_is | (refine ⟨⟨_, _, rfl, rfl⟩, ⟨_, _, rfl, rfl⟩, ⟨_, _, rfl, rfl⟩, ⟨_, _, rfl, rfl⟩, ⟨_, _, rfl, rfl⟩, ⟨_, _, rfl, rfl⟩, ⟨_, _, rfl, rfl⟩, ⟨_, _, rfl, rfl⟩, ⟨_, _, rfl, rfl⟩, ⟨_, _, rfl, rfl⟩, ⟨_, _, rfl, rfl⟩, ⟨_, _, rfl, rfl⟩, ⟨_, _, rfl, rfl⟩, ⟨_, _, rfl, rfl⟩, ⟨_, _, rfl, rfl⟩, trivial⟩))
    (case y1 => k_is)
    (case y2 => k_is)
    (case y3 => k_is)
    (case y4 => k_is)
    (case y5 => k_is)
    (case sa => k_is)
    (case sl => k_is)
    (case sc => k_is)
    (case sk => k_is)
    (case sT => k_is)
