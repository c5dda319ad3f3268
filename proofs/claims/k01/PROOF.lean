import PyProof.Rows.All
import Wide.All
import OpenK.AllK
import Wide.FinOn
import HandS.ForMost
import HandS.Rev
import KE.KDictList
import HandS.Style
import HandS.More
import HandS.IsInst
import HandS.StrMore
import HandS.Wide
import HandS.Codes
import HandS.Walk
import HandS.NoneIn
import HandS.WordsExc
import HandS.CallLocal
import PySem.Challenge.RW_takeleave_k01_what_is_a_word
set_option Elab.async false
set_option linter.all false
set_option maxRecDepth 100000
set_option maxHeartbeats 4000000
namespace Cm
open PySem PySem.Spec PyProof.Rows L2 RT
section
variable {prog : Program} {w : World} {A : Around} {E : Value → Shared → Prop} {s : Shared}
/-- list.extend over a reversed list, into the empty list at T -/
theorem revExt {J l T : Addr} {vs : Array Value} {res : Value} {c : Nat} {R : Result → Shared → Prop} (hh : A.handled = none) (hJ : s.heap.IsRevIter J l ((vs.size : Int) - 1)) (hl : s.heap.IsList l vs) (nJ : l ≠ J) (hn : vs.size ≤ sizeLine)
    (nTJ : T ≠ J) (nTl : T ≠ l) (hT : s.heap.get? T = some { cls := .type "list", data := .seq #[] c })
    (hR : ∀ h' tk acc' c', (∀ b o, b ≠ T → b ≠ J → s.heap.get? b = some o → h'.get? b = some o) → h'.get? T = some { cls := .type "list", dict := none, data := .seq acc' c', slots := #[] } → ItemsOf (fun i v => vs[vs.size - 1 - i]? = some v) acc' vs.size → R (.ok (.ret res)) { s with heap := h', toks := tk }) :
    wpAny (model prog w) A.in1 (Builtin.List.listExtendWith (.ref T) (.ref J) res)
      (fun fin s' => match fin with | .done f => R (.ok f) s' | .again c' => c'.quiet = true ∧ codeAny (model prog w) A c' R s') (fun e s' => R (.error e) s') s := by
  have WS := (Walks.listRev (prog := prog) (w := w) (A := A.in1) hh J l nJ vs).toS
  have tyJ : s.TypeIs (.ref J) "list_reverseiterator" := Heap.IsRevIter.typeIs hJ
  have nf : T ∉ [J, l] := by simp only [List.mem_cons, List.not_mem_nil, or_false, not_or]; exact And.intro nTJ nTl
  have ns : Builtin.List.listSameRef (.ref T) (.ref J) = false := by simp [Builtin.List.listSameRef, nTJ]
  unfold Builtin.List.listExtendWith
  refine wpAny_bind (wpAny_typeOf tyJ ?_)
  rw [if_neg (by rw [ns]; decide)]
  refine wpAny_bind (wpAny_pyIter_revIter hJ (wpAny_bind (wpAny_holding ?_)))
  unfold Builtin.List.listLengthHint
  refine wpAny_bind (wpAny_specialOf tyJ nolen_lri ?_)
  show wpAny _ A.in1 (specialOf (Value.ref J) (Str.ofString "__length_hint__") >>= _) _ _ _
  refine wpAny_bind (wpAny_specialOf tyJ hint_lri ?_)
  generalize eid : ("list_reverseiterator.__length_hint__" : String) = idz
  wp_delta
  rw [show splitId idz = some ("list_reverseiterator", "__length_hint__") from by subst eid; decide +kernel]
  subst eid
  refine wpAny_bind (wpAny_isInstance (b := true) tyJ (by rw [isSubtype_type]; kernel_rfl) (wpAny_pure ?_))
  rw [if_neg (by decide)]
  have z0 : ((vs.size : Nat) : Int) - 1 - ((0 : Nat) : Int) = (vs.size : Int) - 1 := by omega
  refine wpAny_pure ⟨plainId_quiet F.plain_extend_loop _, codeAny_extend_loopS WS hn _ nf _ vs.size 0 _ _ _ rfl (Nat.zero_le _) ⟨Nat.zero_le _, by rw [z0]; exact hJ, hl⟩ hT (ItemsOf.nil _) fun s' acc' c' hm hS' hacc => ?_⟩
  rw [Moved.eq_with hm]
  refine hR s'.heap s'.toks acc' c' (fun b o n1 n2 e => hm.heap b o (fun q => ?_) e) hS' hacc
  rcases List.mem_cons.mp q with z | z
  · exact n1 z
  · exact n2 (List.mem_singleton.mp z)
theorem revInit {J l T : Addr} {vs : Array Value} {R : Result → Shared → Prop} (hh : A.handled = none) (hJ : s.heap.IsRevIter J l ((vs.size : Int) - 1)) (hl : s.heap.IsList l vs) (nJ : l ≠ J) (hn : vs.size ≤ sizeLine)
    (nTJ : T ≠ J) (nTl : T ≠ l) (hT : s.heap.get? T = some { cls := .type "list", data := .seq #[] })
    (hR : ∀ h' tk acc' c', (∀ b o, b ≠ T → b ≠ J → s.heap.get? b = some o → h'.get? b = some o) → h'.get? T = some { cls := .type "list", dict := none, data := .seq acc' c', slots := #[] } → ItemsOf (fun i v => vs[vs.size - 1 - i]? = some v) acc' vs.size → R (.ok (.ret .none)) { s with heap := h', toks := tk }) :
    wpAny (model prog w) A.in1 (Builtin.«list.__init__» ⟨[.ref T, .ref J], []⟩)
      (fun fin s' => match fin with | .done f => R (.ok f) s' | .again c' => c'.quiet = true ∧ codeAny (model prog w) A c' R s') (fun e s' => R (.error e) s') s := by
  show wpAny _ _ (do let old ← Builtin.List.listItems (.ref T); Builtin.List.listUpdate (.ref T) (fun _ => #[]); letGo old.toList.reverse; Builtin.List.listExtendWith (.ref T) (.ref J) .none) _ _ s
  refine wpAny_bind ?_; unfold Builtin.List.listItems
  refine wpAny_bind (wpAny_seqItems hT rfl (wpAny_pure ?_))
  show wpAny _ _ (updateSeq T (fun _ => #[]) >>= fun _ => letGo (#[] : Array Value).toList.reverse >>= fun _ => Builtin.List.listExtendWith (.ref T) (.ref J) .none) _ _ s
  refine wpAny_bind (wpAny_updateSeq hT rfl ?_)
  have hT2 := Heap.get?_update_self (Obj.mapSeq (fun _ => (#[] : Array Value))) hT rfl
  have other : ∀ b o, b ≠ T → s.heap.get? b = some o → (s.heap.update T (Obj.mapSeq (fun _ => (#[] : Array Value)))).get? b = some o :=
    fun b o hb e => (Heap.get?_update_other _ _ (Ne.symm hb)).trans e
  refine wpAny_bind (wpAny_letGo (revExt hh (hJ.at fun o e => other _ o nTJ.symm e) (hl.at fun o e => other _ o nTl.symm e) nJ hn nTJ nTl hT2 fun h' tk acc' c' hk hS' hacc => ?_))
  exact hR h' tk acc' c' (fun b o n1 n2 e => hk b o n1 n2 (other b o n1 e)) hS' hacc
theorem call_list_rev {J l : Addr} {vs : Array Value} {Q : Value → Shared → Prop} (hh : A.handled = none) (hJ : s.heap.IsRevIter J l ((vs.size : Int) - 1)) (hl : s.heap.IsList l vs) (nJ : l ≠ J) (hn : vs.size ≤ sizeLine)
    (hQ : ∀ h' tk acc' c', (∀ b o, b ≠ J → s.heap.get? b = some o → h'.get? b = some o) → h'.get? s.heap.objs.size = some { cls := .type "list", dict := none, data := .seq acc' c', slots := #[] } → ItemsOf (fun i v => vs[vs.size - 1 - i]? = some v) acc' vs.size → Q (.ref s.heap.objs.size) { s with heap := h', toks := tk }) :
    wpAny (model prog w) A (call (.type "list") [.ref J]) Q E s := by
  refine callType_codes (Q₁ := fun obj s₁ => obj = .ref s.heap.objs.size ∧ s₁ = { s with heap := s.heap.push { cls := .type "list", data := .seq #[] } }) PySem.F.called_list (PySem.F.typeCall_list_1 _) PySem.F.entry_list_init
    (code_list_new _ ⟨rfl, rfl⟩) fun obj s₁ z => ?_
  obtain ⟨rfl, rfl⟩ := z
  have hT : (s.heap.push { cls := .type "list", data := .seq #[] }).get? s.heap.objs.size = some { cls := .type "list", data := .seq #[] } := Heap.get?_push_size _ rfl
  obtain ⟨oi, hoi, _⟩ := id hJ
  obtain ⟨ol, hol, _⟩ := id hl
  refine ⟨⟨_, hT, rfl⟩, PySem.F.args_list_init_2 _ _, revInit (A := A.in1) hh (hJ.at fun o e => Heap.get?_push_of_some _ e) (hl.push _) nJ hn (Nat.ne_of_gt (Heap.lt_size hoi)) (Nat.ne_of_gt (Heap.lt_size hol)) hT (fun h' tk acc' c' hk hS' hacc => ?_)⟩
  exact ⟨rfl, hQ h' tk acc' c' (fun b o n e => hk b o (Nat.ne_of_lt (Heap.lt_size e)) n (Heap.get?_push_of_some _ e)) hS' hacc⟩
end
/-- list(reversed(x)), x a list: a new list -/
def tLstRev (K : PySem.W.Frag) (te : TE) : TE := fun σ H Q => te σ H fun v H1 => ∃ (a : Addr) (xs : List V), v = .ref a ∧ SqL K H1 a xs ∧ ∀ q, H1 q = none → Q (.ref q) (upd H1 q (.lst xs.reverse))
section
variable {X : Cx}
theorem pe_lstRev {e : Expr} {te : TE} {p p2 pos pos2 : Pos} (hc : X.calm = true) (hg : Gl X "list") (hm : X.mg "list" = none) (hg2 : Gl X "reversed") (hm2 : X.mg "reversed" = none) (he : PE X e te)
    (hs : starEach [e] X.env = (false, eval e X.env) :: starEach [] X.env := by rfl)
    (hs2 : starEach [.Call (.Name "reversed" p2) [e] [] pos2] X.env = (false, eval (.Call (.Name "reversed" p2) [e] [] pos2) X.env) :: starEach [] X.env := by rfl) :
    PE X (.Call (.Name "list" p) [.Call (.Name "reversed" p2) [e] [] pos2] [] pos) (tLstRev X.K te) := by
  refine ⟨fun pins s σ H Q I h => ?_⟩
  refine Call_ (ld_blt I hg hm (show bootBuiltins "list" = some (.type "list") by decide +kernel) (PyProof.Rows.callWith_type1 (args_cons (Call_ (ld_blt I hg2 hm2 PyProof.Rows.boot_reversed (PyProof.Rows.callWith_type1 (args_cons (thn (he.run pins s σ H _ I h) fun u s1 ⟨v, H1, I1, r1, q1⟩ => args_nil ?_) hs) hs rfl))) hs2) hs2 rfl))
  obtain ⟨a, xs, ev, hq, q⟩ := q1
  subst ev; obtain rfl : u = Value.ref a := r1
  obtain ⟨its, rv, p', hz⟩ := I1.list hq
  refine call_reversed_list p'.isList (args_nil ?_)
  have k0 : ∀ b o, s1.heap.get? b = some o → (s1.heap.push (revObj a ((its.toArray.size : Int) - 1))).get? b = some o := fun b o e' => Heap.get?_push_of_some _ e'
  have I2 : Inv X pins σ H1 { s1 with heap := s1.heap.push (revObj a ((its.toArray.size : Int) - 1)) } := I1.kept (t' := s1.toks) k0
  obtain ⟨f0, f1, f2, f3, f4, f5⟩ := I1.fpOk (H' := H1) (b := s1.heap.objs.size) (Nat.le_refl _) (I1.hok.fresh (Nat.le_refl _))
  have isl := p'.isList
  obtain ⟨ol, hol, _⟩ := id isl
  have hne : a ≠ s1.heap.objs.size := Nat.ne_of_lt (Heap.lt_size hol)
  have hn : its.toArray.size ≤ sizeLine := by rw [List.size_toArray, ← rv.length]; exact hz
  refine call_list_rev (s := { s1 with heap := s1.heap.push (revObj a ((its.toArray.size : Int) - 1)) }) (I1.ok.hd hc) ⟨_, Heap.get?_push_size _ rfl, rfl, rfl⟩ (isl.push _) hne hn fun h' tk acc c' hk hT hi => ?_
  have hk' : ∀ b o, s1.heap.get? b = some o → h'.get? b = some o := fun b o e' => hk b o (Nat.ne_of_lt (Heap.lt_size e')) (k0 b o e')
  have sz : s1.heap.objs.size ≤ (s1.heap.push (revObj a ((its.toArray.size : Int) - 1))).objs.size := by
    rw [Heap.size_push]; exact Nat.le_succ _
  refine ⟨.ref _, upd H1 _ (.lst xs.reverse), I1.laid (t' := tk) hk' sz (show ObjOk X.prog X.w _ _ _ (.lst xs.reverse) from ⟨by rw [List.length_reverse]; exact hz, acc.toList, c', vals_rev rv hi, ?_⟩), rfl, q _ (I1.hok.fresh sz)⟩
  rw [Array.toArray_toList]
  exact hT
end
end Cm
namespace Cm
open PySem PySem.W L2 SX
theorem same_new {H : Hp} {p : Addr} (h : H p = none) (o : HO) : Same H (upd H p o) := fun b u q => by rw [upd_ne (ne_of_none q h)]; exact q
theorem own_new {H H' : Hp} {p : Addr} {o : HO} (s : Same H H') (h : H p = none) : Same H (upd H' p o) := fun b u q => by rw [upd_ne (ne_of_none q h)]; exact s _ _ q
theorem cut_map {α : Type} (f : α → V) (xs : List α) (lo hi : Option Int) : ∃ ys : List α, cutV (xs.map f) lo hi = ys.map f ∧ ys.length ≤ xs.length := by
  unfold cutV
  refine ⟨(xs.drop (HT.sIx (xs.map f).length 0 lo)).take (HT.sIx (xs.map f).length (xs.map f).length hi - HT.sIx (xs.map f).length 0 lo), ?_, ?_⟩
  · rw [List.map_take, List.map_drop]
  · rw [List.length_take, List.length_drop]; omega
theorem dp_ints {K : PySem.W.Frag} {H : Hp} : ∀ ns : List Int, DpAll K H (ns.map V.int) (ns.map PyData.int)
  | [] => .nil
  | n :: r => .cons (.int n) (dp_ints r)
theorem lay_ints : ∀ ns : List Int, PyData.canLayAll0 (ns.map PyData.int) = true
  | [] => rfl
  | n :: r => by
    show (PyData.canLay0 (PyData.int n) && PyData.canLayAll0 (r.map PyData.int)) = true
    rw [lay_ints r]; rfl
theorem deep_ints : ∀ ns : List Int, PyData.depthAll (ns.map PyData.int) = 0
  | [] => rfl
  | n :: r => by
    show max (PyData.depth (PyData.int n)) (PyData.depthAll (r.map PyData.int)) = 0
    rw [deep_ints r]; rfl
theorem shaped_ints (ns : List Int) : SeqAt.shaped (.list (ns.map PyData.int)) = true := by
  show (PyData.canLayAll0 (ns.map PyData.int) && decide (PyData.depthAll (ns.map PyData.int) + 1 ≤ 64)) = true
  rw [lay_ints, deep_ints]; rfl
theorem kn {H : Hp} {a t : Addr} {o o' : HO} (h : H a = some o) (n : H t = none) : upd H t o' a = some o := by rw [upd_ne (ne_of_none h n)]; exact h
/-- all but what stands at the places L is kept -/
def Kp (L : List Addr) (H H' : Hp) : Prop := ∀ b o, b ∉ L → H b = some o → H' b = some o
theorem Kp.refl (L : List Addr) (H : Hp) : Kp L H H := fun _ _ _ h => h
theorem Kp.trans {L : List Addr} {H H1 H2 : Hp} (a : Kp L H H1) (b : Kp L H1 H2) : Kp L H H2 := fun c o n h => b c o n (a c o n h)
theorem Kp.of {L : List Addr} {H H' : Hp} (s : Same H H') : Kp L H H' := fun b o _ h => s b o h
theorem Kp.new {L : List Addr} {p : Addr} {H H' : Hp} {o : HO} (a : Kp L H H') (h : H' p = none) : Kp L H (upd H' p o) := a.trans (.of (same_new h o))
theorem Kp.own {L : List Addr} {d : Addr} {H H' : Hp} {o : HO} (a : Kp L H H') (m : d ∈ L) : Kp L H (upd H' d o) := fun b u n h => by rw [upd_ne (show b ≠ d from fun z => n (by rw [z]; exact m))]; exact a b u n h
theorem Kp.mono {L M : List Addr} {H H' : Hp} (a : Kp L H H') (h : ∀ b ∈ L, b ∈ M) : Kp M H H' := fun b o n e => a b o (fun z => n (h b z)) e
theorem Kp.free {L : List Addr} {p : Addr} {H H' : Hp} (k : Kp L H H') (n : H' p = none) (m : p ∉ L) : H p = none := by
  cases e : H p with
  | none => rfl
  | some o => rw [k p o m e] at n; cases n
theorem Kp.put {L : List Addr} {p : Addr} {H H' : Hp} {o : HO} (k : Kp L H H') (n : H p = none) : Kp L H (upd H' p o) := fun b u m e => by rw [upd_ne (ne_of_none e n)]; exact k b u m e
theorem Kp.same {L : List Addr} {H0 H H' : Hp} (a : Kp L H H') (s : Same H0 H) (h : ∀ b ∈ L, H0 b = none) : Same H0 H' := fun b o e => a b o (fun z => by rw [h b z] at e; cases e) (s b o e)
theorem cutS_to {a : List Nat} {i : Int} (h : 0 ≤ i) : cutS (S a) none (some i) = S (a.take i.toNat) := by
  obtain ⟨n, rfl⟩ := Int.eq_ofNat_of_zero_le h
  unfold cutS
  rw [HT.sIx_none, HT.sIx_nat, S_len]
  show S (List.take (min n a.length - 0) (List.drop 0 a)) = S (a.take n)
  rw [List.drop_zero, Nat.sub_zero]
  by_cases h : n ≤ a.length
  · rw [Nat.min_eq_left h]
  · rw [Nat.min_eq_right (by omega), List.take_of_length_le (Nat.le_refl a.length), List.take_of_length_le (show a.length ≤ n by omega)]
/-- a comprehension over a text's signs, whose element is a plain value -/
theorem lc_txt {z : List Nat} (f : Nat → V) {g : TG} {te : TE} {vs : List Nat} {σ : St} {H1 : Hp} {D : Addr} {Qd : Hp → Prop} (hl : z.length ≤ 1000)
    (hs : ∀ c H (R : V → Hp → Prop), c ∈ z → R (f c) H → g (.str ⟨#[c]⟩) (wipe σ vs) H fun σ2 H2 => wipe σ2 vs = wipe σ vs ∧ te σ2 H2 R) (hd : Qd (upd H1 D (.lst (z.map f)))) :
    ∃ W : Nat → Nat → Hp → Prop, (∃ m, W 0 m (upd H1 D (.lst []))) ∧ ∀ i m H, W i m H →
      ((Its (S z)).stop i H ∧ Qd H) ∨ ((Its (S z)).go i H ∧ ∃ Nx : Hp → Prop, (∀ H', Nx H' → ∃ m', m' < m ∧ W (i + 1) m' H') ∧ ∀ x H', (Its (S z)).yld i H x H' → g x (wipe σ vs) H' fun σ2 H2 => wipe σ2 vs = wipe σ vs ∧ tYes σ2 H2 fun b H3 =>
        if b = true then te σ2 H3 fun y H4 => ∃ acc, H4 D = some (.lst acc) ∧ acc.length < sizeLine ∧ Nx (upd H4 D (.lst (acc ++ [y]))) else Nx H3) := by
  refine lc_it (walk_str (z := S z)) (fun i H => H = upd H1 D (.lst ((z.take i).map f))) rfl (fun _ _ _ _ => trivial) ?_ ?_
  · rintro i x H H' hi rfl ⟨rfl, c, hc, rfl⟩
    have hc' : z[i]? = some c := by
      rw [← hc]; show z[i]? = (z.toArray)[i]?; rw [List.getElem?_toArray]
    refine hs c _ (fun y H4 => ∃ acc, H4 D = some (.lst acc) ∧ acc.length < sizeLine ∧ upd H4 D (.lst (acc ++ [y])) = upd H1 D (.lst ((z.take (i + 1)).map f))) (List.mem_of_getElem? hc') ⟨_, upd_same, ?_, ?_⟩
    · rw [List.length_map, List.length_take]; exact small1000 (by omega)
    · rw [upd_upd, List.take_add_one, hc', List.map_append]; rfl
  · rintro H rfl
    have e : (S z).cps.size = z.length := by show z.toArray.size = _; rw [List.size_toArray]
    rw [e, List.take_length]
    exact hd
theorem starts_S (x y : List Nat) : Txt.startswith (S x) (S y) = decide (x.take y.length = y) := by
  unfold Txt.startswith PySem.Builtin.Str.subAt
  rw [S_len, S_len]
  show (decide (0 + y.length ≤ x.length) && ((x.toArray.extract 0 (0 + (S y).length)) == y.toArray)) = _
  rw [S_len, Nat.zero_add, List.extract_toArray]
  have e : (List.extract x 0 y.length) = x.take y.length := by unfold List.extract; rw [List.drop_zero, Nat.sub_zero]
  rw [e]
  by_cases h : x.take y.length = y
  · have hl : y.length ≤ x.length := by
      have := congrArg List.length h
      rw [List.length_take] at this; omega
    rw [decide_eq_true h, decide_eq_true hl, h, beq_self_eq_true]; rfl
  · rw [decide_eq_false h]
    have : ((x.take y.length).toArray == y.toArray) = false := by
      rw [beq_eq_false_iff_ne]; intro z; exact h (by have := congrArg Array.toList z; exact this)
    rw [this, Bool.and_false]
theorem par_len : ∀ (x acc t l : List Nat), TL.par [45] acc x = some (t, l) → l.length ≤ x.length
  | [], _, _, _, h => by cases h
  | c :: r, acc, t, l, h => by
    have h' : (if TL.pre [45] (c :: r) = true then some (acc, (c :: r).drop 1) else TL.par [45] (acc ++ [c]) r) = some (t, l) := h
    by_cases hp : TL.pre [45] (c :: r) = true
    · rw [if_pos hp] at h'
      cases h'
      show r.length ≤ r.length + 1
      omega
    · rw [if_neg hp] at h'
      have := par_len r _ _ _ h'
      show l.length ≤ r.length + 1
      omega
/-- the letters a to h -/
def abc8 : List Nat := [97, 98, 99, 100, 101, 102, 103, 104]
/-- whether signs are a shuffle's -/
def shufB (x : List Nat) : Bool := match TL.par [45] [] x with
  | none => false
  | some (t, l) => decide (abc8.take t.length = t) && (decide (l.length ≤ 12) && (l.map fun c => decide (c ∈ t)).all id)
def kStr : Value → Option Str
  | .str x _ => some x
  | _ => none
def absAll : List Value → Option (List V)
  | [] => some []
  | u :: r => match absV u, absAll r with
    | some x, some t => some (x :: t)
    | _, _ => none
def kTup (K : Frag) (t : Addr) : Option (List V) := match K.lookup t with
  | some ⟨.type c, _, .seq its _, _⟩ => if c = "tuple" ∧ its.size ≤ 1000 then absAll its.toList else none
  | _ => none
def kEnt (K : Frag) (e : DictEntry) : Option (Str × List V) := match e.val, kStr e.key with
  | .ref t, some k => (kTup K t).map fun xs => (k, xs)
  | _, _ => none
/-- the entries es: keys, each with what its tuple holds -/
def kTab (K : Frag) : List DictEntry → Option (List (Str × List V))
  | [] => some []
  | e :: r => match kEnt K e, kTab K r with
    | some x, some t => some (x :: t)
    | _, _ => none
theorem abs_rel {u : Value} {x : V} (h : absV u = some x) : RelV x u := by
  cases u <;> simp only [absV] at h <;> first | (cases h; done) | (cases h; first | exact rfl | exact ⟨_, rfl⟩) | cases h
theorem abs_all : ∀ {us : List Value} {xs : List V}, absAll us = some xs → Vals xs us
  | [], xs, h => by cases h; exact .nil
  | u :: r, xs, h => by
    unfold absAll at h
    cases e1 : absV u with
    | none => rw [e1] at h; cases h
    | some x =>
      cases e2 : absAll r with
      | none => rw [e1, e2] at h; cases h
      | some t =>
        rw [e1, e2] at h
        cases h
        exact .cons (abs_rel e1) (abs_all e2)
theorem kTup_ok {K : Frag} {t : Addr} {xs : List V} (h : kTup K t = some xs) (H : Hp) : SqT K H t xs := by
  unfold kTup at h
  cases e : K.lookup t with
  | none => rw [e] at h; cases h
  | some o =>
    rw [e] at h
    obtain ⟨oc, od, dt, sl⟩ := o
    cases oc with
    | type c =>
      cases dt with
      | seq its n =>
        have h' : (if c = "tuple" ∧ its.size ≤ 1000 then absAll its.toList else none) = some xs := h
        by_cases hc : c = "tuple" ∧ its.size ≤ 1000
        · rw [if_pos hc] at h'
          obtain ⟨rfl, hz⟩ := hc
          exact .inr ⟨_, its, n, e, rfl, rfl, Nat.le_of_lt (small1000 hz), abs_all h'⟩
        · rw [if_neg hc] at h'; cases h'
      | _ => cases h
    | _ => cases h
/-- what the table tells of a text -/
theorem tab_look {K : Frag} (z : Str) : ∀ {es : List DictEntry} {T : List (Str × List V)}, kTab K es = some T →
    (∀ xs, T.lookup z = some xs → ∃ e t, es.find? (·.key.isStr z) = some e ∧ e.val = .ref t ∧ kTup K t = some xs) ∧ (T.lookup z = none → es.find? (·.key.isStr z) = none) ∧ es.any (·.refKey) = false
  | [], T, h => by cases h; exact ⟨(fun xs q => by cases q), (fun _ => rfl), rfl⟩
  | e :: r, T, h => by
    unfold kTab at h
    cases e1 : kEnt K e with
    | none => rw [e1] at h; cases h
    | some x =>
      cases e2 : kTab K r with
      | none => rw [e1, e2] at h; cases h
      | some t =>
        rw [e1, e2] at h
        cases h
        obtain ⟨ih1, ih2, ih3⟩ := tab_look z e2
        obtain ⟨k, ys⟩ := x
        obtain ⟨a, hv, hk, ht⟩ : ∃ a, e.val = .ref a ∧ kStr e.key = some k ∧ kTup K a = some ys := by
          unfold kEnt at e1
          cases hv : e.val with
          | ref a =>
            cases hk : kStr e.key with
            | none => rw [hv, hk] at e1; cases e1
            | some k' =>
              rw [hv, hk] at e1
              have e1' : (kTup K a).map (fun xs => (k', xs)) = some (k, ys) := e1
              cases ht : kTup K a with
              | none => rw [ht] at e1'; cases e1'
              | some zs => rw [ht] at e1'; cases e1'; exact ⟨a, rfl, rfl, ht⟩
          | _ => rw [hv] at e1; cases e1
        obtain ⟨tk, hkey⟩ : ∃ tk, e.key = .str k tk := by
          unfold kStr at hk
          cases q : e.key with
          | str x' t' => rw [q] at hk; cases hk; exact ⟨_, rfl⟩
          | _ => rw [q] at hk; cases hk
        have hst : e.key.isStr z = (k == z) := by rw [hkey]; rfl
        have hrf : e.refKey = false := by unfold DictEntry.refKey; rw [hkey]
        refine ⟨fun xs q => ?_, fun q => ?_, ?_⟩
        · rw [List.lookup_cons] at q
          by_cases hz : z = k
          · subst hz
            rw [beq_self_eq_true] at q
            cases q
            exact ⟨e, a, by rw [List.find?_cons_of_pos (by rw [hst]; exact beq_self_eq_true z)], hv, ht⟩
          · rw [show (z == k) = false from beq_eq_false_iff_ne.mpr hz] at q
            obtain ⟨e', t', h1, h2, h3⟩ := ih1 xs q
            exact ⟨e', t', by rw [List.find?_cons_of_neg (by rw [hst]; intro y; exact hz (beq_iff_eq.mp y).symm)]; exact h1, h2, h3⟩
        · rw [List.lookup_cons] at q
          by_cases hz : z = k
          · subst hz
            rw [beq_self_eq_true] at q
            cases q
          · rw [show (z == k) = false from beq_eq_false_iff_ne.mpr hz] at q
            rw [List.find?_cons_of_neg (by rw [hst]; intro y; exact hz (beq_iff_eq.mp y).symm)]
            exact ih2 q
        · rw [List.any_cons, hrf, ih3]; rfl
def nn : List V := [V.str "number", V.str "number"]
def table : List (Str × List V) := [((("plus" : Str)), nn), ("minus", nn), ("times", nn), ("less", nn), ("same", nn), ("do", [V.str "row"]), ("dip", [V.str "any", V.str "row"]), ("if", [V.str "number", V.str "row", V.str "row"]), ("while", [V.str "row", V.str "row"]), ("repeat", [V.str "number", V.str "row"]), ("join", [V.str "row", V.str "row"]), ("wrap", [V.str "any"]), ("put", [V.str "list", V.str "any"]), ("part", [V.str "list", V.str "row", V.str "row"]), ("each", [V.str "list", V.str "row"])]
/-- the basic words' table stands at d -/
structure Tab (K : Frag) (w : World) (mg : Str → Option Value) (d : Addr) (es : Array DictEntry) (n : Nat) : Prop where
  kd : KDict K w d es n
  tab : kTab K es.toList = some table
  mg_ : mg "SORTS_TAKEN" = some (.ref d)
theorem Tab.ns {w : World} {K : PySem.W.Frag} {mg : Str → Option Value} {d : Addr} {es : Array DictEntry} {n : Nat} (T : Tab K w mg d es n) (z : Str) : (table.lookup z = none → nsIn K d z = some none) ∧ ∀ xs, table.lookup z = some xs → ∃ t, nsIn K d z = some (some (.ref t)) ∧ kTup K t = some xs := by
  obtain ⟨h1, h2, h3⟩ := tab_look z T.tab
  constructor
  · intro q
    unfold nsIn
    rw [T.kd.at_]
    show (match es.toList.find? (·.key.isStr z) with | some e => some (some e.val) | none => if es.toList.any (·.refKey) then none else some none) = some none
    rw [h2 q]
    show (if es.toList.any (·.refKey) = true then none else some none) = some none
    rw [h3]; rfl
  · intro xs q
    obtain ⟨e, t, e1, e2, e3⟩ := h1 xs q
    refine ⟨t, ?_, e3⟩
    unfold nsIn
    rw [T.kd.at_]
    show (match es.toList.find? (·.key.isStr z) with | some e => some (some e.val) | none => if es.toList.any (·.refKey) then none else some none) = some (some (.ref t))
    rw [e1]
    show some (some e.val) = _
    rw [e2]
theorem lookup_mem {z : Str} {xs : List V} : ∀ {T : List (Str × List V)}, T.lookup z = some xs → (z, xs) ∈ T
  | (k, ys) :: r, h => by
    rw [List.lookup_cons] at h
    by_cases hz : z = k
    · subst hz; rw [beq_self_eq_true] at h; cases h; exact List.mem_cons_self ..
    · rw [show (z == k) = false from beq_eq_false_iff_ne.mpr hz] at h
      exact List.mem_cons_of_mem _ (lookup_mem h)
end Cm
namespace Cm
open PySem PySem.W L2 SX
/-- a comprehension over a text's signs with a test -/
theorem lc_txtIf {z : List Nat} (p : Nat → Bool) (f : Nat → V) {g : TG} {tt : TT} {te : TE} {vs : List Nat} {σ : St} {H1 : Hp} {D : Addr} {Qd : Hp → Prop} (hl : z.length ≤ 1000)
    (hs : ∀ c H (R : V → Hp → Prop) (R0 : Hp → Prop), c ∈ z → (p c = true → R (f c) H) → (p c = false → R0 H) → g (.str ⟨#[c]⟩) (wipe σ vs) H fun σ2 H2 => wipe σ2 vs = wipe σ vs ∧ tt σ2 H2 fun b H3 => if b = true then te σ2 H3 R else R0 H3) (hd : Qd (upd H1 D (.lst ((z.filter p).map f)))) :
    ∃ W : Nat → Nat → Hp → Prop, (∃ m, W 0 m (upd H1 D (.lst []))) ∧ ∀ i m H, W i m H →
      ((Its (S z)).stop i H ∧ Qd H) ∨ ((Its (S z)).go i H ∧ ∃ Nx : Hp → Prop, (∀ H', Nx H' → ∃ m', m' < m ∧ W (i + 1) m' H') ∧ ∀ x H', (Its (S z)).yld i H x H' → g x (wipe σ vs) H' fun σ2 H2 => wipe σ2 vs = wipe σ vs ∧ tt σ2 H2 fun b H3 =>
        if b = true then te σ2 H3 fun y H4 => ∃ acc, H4 D = some (.lst acc) ∧ acc.length < sizeLine ∧ Nx (upd H4 D (.lst (acc ++ [y]))) else Nx H3) := by
  refine lc_it (walk_str (z := S z)) (fun i H => H = upd H1 D (.lst (((z.take i).filter p).map f))) rfl (fun _ _ _ _ => trivial) ?_ ?_
  · rintro i x H H' hi rfl ⟨rfl, c, hc, rfl⟩
    have hc' : z[i]? = some c := by
      rw [← hc]; show z[i]? = (z.toArray)[i]?; rw [List.getElem?_toArray]
    refine hs c _ (fun y H4 => ∃ acc, H4 D = some (.lst acc) ∧ acc.length < sizeLine ∧ upd H4 D (.lst (acc ++ [y])) = upd H1 D (.lst (((z.take (i + 1)).filter p).map f))) (fun H4 => H4 = upd H1 D (.lst (((z.take (i + 1)).filter p).map f))) (List.mem_of_getElem? hc') (fun hp => ⟨_, upd_same, ?_, ?_⟩) (fun hp => ?_)
    · have h1 := List.length_filter_le p (z.take i)
      rw [List.length_take] at h1
      rw [List.length_map]; exact small1000 (by omega)
    · rw [upd_upd, List.take_add_one, hc', List.filter_append, List.map_append]
      show _ = upd H1 D (HO.lst (List.map f (List.filter p (List.take i z)) ++ List.map f (List.filter p [c])))
      rw [List.filter_cons_of_pos hp]; rfl
    · show _ = _
      rw [List.take_add_one, hc', List.filter_append]
      show _ = upd H1 D (HO.lst (List.map f (List.filter p (List.take i z) ++ List.filter p [c])))
      rw [List.filter_cons_of_neg (by rw [hp]; decide), List.filter_nil, List.append_nil]
  · rintro H rfl
    have e : (S z).cps.size = z.length := by show z.toArray.size = _; rw [List.size_toArray]
    rw [e, List.take_length]
    exact hd
/-- a text, or something else that the law hands in -/
def Vl (H : Hp) (v : V) : Option (List Nat) → Prop
  | some x => v = .str (S x) ∧ x.length ≤ 1000
  | none => (v = .non ∨ (∃ b, v = .bl b) ∨ (∃ i, v = .int i) ∨ (∃ a xs, v = .ref a ∧ H a = some (.lst xs)) ∨ (∃ a kvs, v = .ref a ∧ H a = some (.dK kvs))) ∨ (∃ a xs, v = .ref a ∧ H a = some (.tup xs) ∧ (xs = [] ∨ ∃ z, xs = [.str z]))
theorem Vl.same {H H' : Hp} {v : V} {o : Option (List Nat)} (h : Vl H v o) (s : Same H H') : Vl H' v o := by
  cases o with
  | some x => exact h
  | none =>
    rcases h with (h | h | h | ⟨a, xs, e, h⟩ | ⟨a, xs, e, h⟩) | ⟨a, xs, e, h, g⟩
    · exact .inl (.inl h)
    · exact .inl (.inr (.inl h))
    · exact .inl (.inr (.inr (.inl h)))
    · exact .inl (.inr (.inr (.inr (.inl ⟨a, xs, e, s _ _ h⟩))))
    · exact .inl (.inr (.inr (.inr (.inr ⟨a, xs, e, s _ _ h⟩))))
    · exact .inr ⟨a, xs, e, s _ _ h, g⟩
theorem Vl.isStr {K : Frag} {H : Hp} {v : V} {o : Option (List Nat)} (h : Vl H v o) : ∃ t, TyX K H v t ∧ kitOne K t (.type "str") = some o.isSome := by
  cases o with
  | some x => exact ⟨_, by rw [h.1]; exact .base (.str _), kit_ty (r := true) (by decide +kernel)⟩
  | none =>
    rcases h with (h | ⟨b, h⟩ | ⟨i, h⟩ | ⟨a, xs, e, h⟩ | ⟨a, xs, e, h⟩) | ⟨a, xs, e, h, g⟩
    · exact ⟨_, by rw [h]; exact .base .non, kit_ty (r := false) (by decide +kernel)⟩
    · exact ⟨_, by rw [h]; exact .base (.bl _), kit_ty (r := false) (by decide +kernel)⟩
    · exact ⟨_, by rw [h]; exact .base (.int _), kit_ty (r := false) (by decide +kernel)⟩
    · exact ⟨_, by rw [e]; exact .base (.lst h), kit_ty (r := false) (by decide +kernel)⟩
    · exact ⟨_, by rw [e]; exact .base (.dK h), kit_ty (r := false) (by decide +kernel)⟩
    · exact ⟨_, by rw [e]; exact .base (.tup h), kit_ty (r := false) (by decide +kernel)⟩
/-- no tuple, or one without, or with one part -/
theorem Vl.isTup {K : Frag} {H : Hp} {v : V} (h : Vl H v none) : (∃ t, TyX K H v t ∧ kitOne K t (.type "tuple") = some false) ∨ (∃ a xs t, v = .ref a ∧ H a = some (.tup xs) ∧ (xs = [] ∨ ∃ z, xs = [.str z]) ∧ TyX K H v t ∧ kitOne K t (.type "tuple") = some true) := by
  rcases h with (h | ⟨b, h⟩ | ⟨i, h⟩ | ⟨a, xs, e, h⟩ | ⟨a, xs, e, h⟩) | ⟨a, xs, e, h, g⟩
  · exact .inl ⟨_, by rw [h]; exact .base .non, kit_ty (r := false) (by decide +kernel)⟩
  · exact .inl ⟨_, by rw [h]; exact .base (.bl _), kit_ty (r := false) (by decide +kernel)⟩
  · exact .inl ⟨_, by rw [h]; exact .base (.int _), kit_ty (r := false) (by decide +kernel)⟩
  · exact .inl ⟨_, by rw [e]; exact .base (.lst h), kit_ty (r := false) (by decide +kernel)⟩
  · exact .inl ⟨_, by rw [e]; exact .base (.dK h), kit_ty (r := false) (by decide +kernel)⟩
  · exact .inr ⟨a, xs, _, e, h, g, by rw [e]; exact .base (.tup h), kit_ty (r := true) (by decide +kernel)⟩
/-- the small letters -/
def az : List Nat := [97, 98, 99, 100, 101, 102, 103, 104, 105, 106, 107, 108, 109, 110, 111, 112, 113, 114, 115, 116, 117, 118, 119, 120, 121, 122]
/-- whether signs are a told word's name -/
def nameB (x : List Nat) : Bool := (decide (1 ≤ x.length) && decide (x.length ≤ 8)) && ((x.map fun c => decide (c ∈ az)).all id && !(table.lookup (S x)).isSome)
/-- whether signs are a word -/
def wordB (x : List Nat) : Bool := (table.lookup (S x)).isSome || (shufB x || nameB x)
def onT (f : List Nat → Bool) : Option (List Nat) → Bool
  | some x => f x
  | none => false
theorem par_spec : ∀ (x acc t l : List Nat), TL.par [45] acc x = some (t, l) → ∃ p, t = acc ++ p ∧ x = p ++ 45 :: l ∧ 45 ∉ p
  | [], _, _, _, h => by cases h
  | c :: r, acc, t, l, h => by
    have h' : (if TL.pre [45] (c :: r) = true then some (acc, (c :: r).drop 1) else TL.par [45] (acc ++ [c]) r) = some (t, l) := h
    by_cases hp : TL.pre [45] (c :: r) = true
    · rw [if_pos hp] at h'
      cases h'
      have hc : c = 45 := by
        have := eq_of_beq hp
        exact List.head_eq_of_cons_eq this
      exact ⟨[], by simp, by rw [hc]; rfl, by simp⟩
    · rw [if_neg hp] at h'
      obtain ⟨p, e1, e2, e3⟩ := par_spec r _ _ _ h'
      refine ⟨c :: p, by rw [e1]; simp, by rw [e2]; rfl, ?_⟩
      intro z
      rcases List.mem_cons.mp z with z | z
      · exact hp (by rw [← z]; rfl)
      · exact e3 z
theorem par_no : ∀ (x acc : List Nat), TL.par [45] acc x = none → 45 ∉ x
  | [], _, _ => by simp
  | c :: r, acc, h => by
    have h' : (if TL.pre [45] (c :: r) = true then some (acc, (c :: r).drop 1) else TL.par [45] (acc ++ [c]) r) = none := h
    by_cases hp : TL.pre [45] (c :: r) = true
    · rw [if_pos hp] at h'; cases h'
    · rw [if_neg hp] at h'
      intro z
      rcases List.mem_cons.mp z with z | z
      · exact hp (by rw [← z]; rfl)
      · exact par_no r _ h' z
theorem cnt_len (x : List Nat) : PyProof.Rows.cnt 45 x = (x.count 45 : Nat) := by
  induction x with
  | nil => rfl
  | cons n r ih =>
    rw [PyProof.Rows.cnt_cons, ih, List.count_cons]
    by_cases h : n = 45
    · rw [if_pos h, h]; simp; omega
    · rw [if_neg h]; simp [h]
/-- the first stroke -/
theorem index_dash {x p q : List Nat} (hx : x = p ++ 45 :: q) (hp : 45 ∉ p) (hq : 45 ∉ q) : Txt.index0 (S x) (S [45]) = some p.length := by
  obtain ⟨f, hc⟩ := PySem.StrLaws.occ_chain (S x) (S [45]) 1
  have hm : (!(Builtin.Str.occurrences (S x) (S [45]) 0 (S x).length 1).isEmpty) = decide (45 ∈ x) := in_one x 45
  have hx' : (45 : Nat) ∈ x := by rw [hx]; exact List.mem_append.mpr (.inr (List.mem_cons_self ..))
  rw [decide_eq_true hx'] at hm
  unfold Txt.index0
  cases ho : Builtin.Str.occurrences (S x) (S [45]) 0 (S x).length 1 with
  | nil => rw [ho] at hm; cases hm
  | cons i r =>
    rw [ho] at hc
    have h2 := (TL.at_iff (x := S x) (y := S [45]) (List.cons_ne_nil _ _) i).mp hc.2.1
    have h3 : (x.drop i).take 1 = [45] := eq_of_beq h2
    show some i = some p.length
    congr 1
    have h4 : x[i]? = some 45 := by
      have := congrArg (fun l => l[0]?) h3
      simp only [List.getElem?_take, List.getElem?_drop] at this
      simpa using this
    rw [hx] at h4
    by_cases h5 : i < p.length
    · rw [List.getElem?_append_left h5] at h4
      exact absurd (List.mem_of_getElem? h4) hp
    · rw [List.getElem?_append_right (by omega)] at h4
      by_cases h6 : i - p.length = 0
      · omega
      · obtain ⟨j, hj⟩ : ∃ j, i - p.length = j + 1 := ⟨i - p.length - 1, by omega⟩
        rw [hj, List.getElem?_cons_succ] at h4
        exact absurd (List.mem_of_getElem? h4) hq
end Cm
namespace Cm
open PySem PySem.W L2 SX
/-- a text of at most n signs that a text may have -/
structure Tx (z : Str) (n : Nat) : Prop where
  len : z.length ≤ n
  ch : ∀ c ∈ z.cps.toList, c < 1114112
theorem Tx.add {a b : Str} {m n : Nat} (h : Tx a m) (g : Tx b n) : Tx (a ++ b) (m + n) := by
  refine ⟨?_, fun c hc => ?_⟩
  · have e : (a ++ b).length = a.length + b.length := by
      rw [TL.len_tl, TL.tl_append, List.length_append, ← TL.len_tl, ← TL.len_tl]
    have := h.len; have := g.len; omega
  · have e : c ∈ TL.tl a ++ TL.tl b := by rw [← TL.tl_append]; exact hc
    rcases List.mem_append.mp e with e | e
    · exact h.ch c e
    · exact g.ch c e
theorem Tx.mono {a : Str} {m n : Nat} (h : Tx a m) (l : m ≤ n) : Tx a n := ⟨Nat.le_trans h.len l, h.ch⟩
theorem Tx.cut {z : Str} {n : Nat} (h : Tx z n) (lo hi : Option Int) : Tx (cutS z lo hi) n := by
  refine ⟨Nat.le_trans (cutS_length z lo hi) h.len, fun c hc => h.ch c ?_⟩
  have e : c ∈ (z.cps.toList.drop (HT.sIx z.length 0 lo)).take (HT.sIx z.length z.length hi - HT.sIx z.length 0 lo) := hc
  exact List.mem_of_mem_drop (List.mem_of_mem_take e)
theorem Tx.at_ {z : Str} {n : Nat} (h : Tx z n) {i : Int} {c : Nat} (e : atI z.cps.toList i = some c) : Tx ⟨#[c]⟩ 1 := by
  refine ⟨Nat.le_refl 1, fun d hd => ?_⟩
  have hd' : d ∈ [c] := hd
  rw [List.mem_singleton.mp hd']
  refine h.ch c ?_
  unfold atI at e
  cases q : ixN z.cps.toList.length i with
  | none => rw [q] at e; cases e
  | some j => rw [q] at e; exact List.mem_of_getElem? e
theorem Tx.sz {z : Str} {n : Nat} (h : Tx z n) (l : n ≤ 1000 := by decide) : z.length ≤ sizeLine := Nat.le_of_lt (small1000 (Nat.le_trans h.len l))
theorem Tx.sz2 {y z : Str} {m n : Nat} (h : Tx y m) (g : Tx z n) (l : m + n ≤ 1000 := by decide) : y.length + z.length ≤ sizeLine := by
  have := h.len; have := g.len
  exact Nat.le_of_lt (small1000 (by omega))
/-- a written text -/
def litB (z : Str) (n : Nat) : Bool := decide (z.length ≤ n) && z.cps.toList.all fun c => decide (c < 1114112)
theorem Tx.lit {z : Str} {n : Nat} (h : litB z n = true) : Tx z n := by
  unfold litB at h
  rw [Bool.and_eq_true] at h
  exact ⟨of_decide_eq_true h.1, fun c hc => of_decide_eq_true (List.all_eq_true.mp h.2 c hc)⟩
theorem joinL_nil : ∀ l : List (List Nat), TL.joinL [] l = l.flatten
  | [] => rfl
  | [x] => by show x = [x].flatten; simp
  | x :: y :: r => by
    have ih := joinL_nil (y :: r)
    show x ++ ([] ++ TL.joinL [] (y :: r)) = (x :: y :: r).flatten
    rw [ih]; simp
theorem Tx.join {ys : List Str} (h : ∀ y ∈ ys, Tx y 1) : Tx (Txt.join ("" : Str) ys) ys.length := by
  have e0 : ("" : Str) = S [] := by decide +kernel
  have e1 : ys = (ys.map TL.tl).map S := by
    rw [List.map_map]
    conv => lhs; rw [← List.map_id ys]
    exact List.map_congr_left fun y _ => (S_tl y).symm
  have e2 : Txt.join ("" : Str) ys = S ((ys.map TL.tl).flatten) := by
    rw [e0]; conv => lhs; rw [e1]
    rw [join_S, joinL_nil]
  rw [e2]
  refine ⟨?_, fun c hc => ?_⟩
  · rw [S_len, List.length_flatten]
    have : ∀ l : List Str, (∀ y ∈ l, Tx y 1) → ((l.map TL.tl).map List.length).sum ≤ l.length := by
      intro l
      induction l with
      | nil => intro _; exact Nat.le_refl 0
      | cons y r ih =>
        intro hh
        have h1 := (hh y (List.mem_cons_self ..)).len
        rw [TL.len_tl] at h1
        have h2 := ih fun z hz => hh z (List.mem_cons_of_mem _ hz)
        rw [List.map_cons, List.map_cons, List.sum_cons, List.length_cons]
        omega
    exact this ys h
  · have hc' : c ∈ (ys.map TL.tl).flatten := hc
    obtain ⟨l, hl, hcl⟩ := List.mem_flatten.mp hc'
    obtain ⟨y, hy, rfl⟩ := List.mem_map.mp hl
    exact (h y hy).ch c hcl
theorem sum_one {ys : List Str} (h : ∀ y ∈ ys, Tx y 1) (l : ys.length ≤ 1000) : (ys.map (·.length)).sum + ys.length * ("" : Str).length ≤ 16777216 := by
  have e0 : ("" : Str).length = 0 := by decide +kernel
  rw [e0, Nat.mul_zero, Nat.add_zero]
  have : ∀ l : List Str, (∀ y ∈ l, Tx y 1) → (l.map (·.length)).sum ≤ l.length := by
    intro l
    induction l with
    | nil => intro _; exact Nat.le_refl 0
    | cons y r ih =>
      intro hh
      have h1 := (hh y (List.mem_cons_self ..)).len
      have h2 := ih fun z hz => hh z (List.mem_cons_of_mem _ hz)
      rw [List.map_cons, List.sum_cons, List.length_cons]
      omega
  have := this ys h
  omega
end Cm
namespace K01
open PySem PySem.W L2 SX Cm
def top (i : Nat) : Stmt := PySem.Challenge.pw_takeleave_k01_what_is_a_word.main.body.getD i (.Pass ⟨0, 0, 0, 0⟩)
abbrev sMarked : Stmt := top 2
abbrev sForm : Stmt := top 3
abbrev sIsSh : Stmt := top 7
abbrev sBasic : Stmt := top 11
abbrev sIsWord : Stmt := top 16
abbrev sIsName : Stmt := top 17
abbrev sTextWord : Stmt := top 19
abbrev sAsked : Stmt := top 20
abbrev sAskedWord : Stmt := top 22
abbrev sMixed : Stmt := top 24
abbrev sDeck : Stmt := top 25
abbrev sTake : Stmt := top 26
abbrev sAllIn : Stmt := top 27
abbrev sBasics : Stmt := top 28
abbrev sLName : Stmt := top 29
abbrev sLShuf : Stmt := top 30
abbrev sShuffled : Stmt := top 31
abbrev sThing : Stmt := top 32
abbrev sLaw : Stmt := top 33
/-- a deck stands at d, its cells at c -/
structure Deck (H : Hp) (d c : Addr) : Prop where
  ne : d ≠ c
  at_ : ∃ (s k : Int), H d = some (.lst [.ref c, .int s, .int k])
  cells : ∃ ms : List Int, H c = some (.lst (ms.map V.int)) ∧ ms.length ≤ 1000
theorem Deck.new {H : Hp} {d c p : Addr} {o : HO} (D : Deck H d c) (h : H p = none) : Deck (upd H p o) d c := by
  obtain ⟨s, k, e⟩ := D.at_
  obtain ⟨ms, e2, l⟩ := D.cells
  exact ⟨D.ne, ⟨s, k, kn e h⟩, ms, kn e2 h, l⟩
theorem Deck.same {H H' : Hp} {d c : Addr} (D : Deck H d c) (s : Same H H') : Deck H' d c := by
  obtain ⟨a, k, e⟩ := D.at_
  obtain ⟨ms, e2, l⟩ := D.cells
  exact ⟨D.ne, ⟨a, k, s _ _ e⟩, ms, s _ _ e2, l⟩
theorem Deck.nd {H : Hp} {d c p : Addr} (D : Deck H d c) (h : H p = none) : p ∉ [d, c] := by
  obtain ⟨a, k, e⟩ := D.at_
  obtain ⟨ms, e2, l⟩ := D.cells
  intro z
  rcases List.mem_cons.mp z with z | z
  · rw [z, e] at h; cases h
  · rw [List.mem_singleton.mp z, e2] at h; cases h
theorem Deck.put {H : Hp} {d c p : Addr} {o : HO} (D : Deck H d c) (h : p ∉ [d, c]) : Deck (upd H p o) d c := by
  obtain ⟨s, k, e⟩ := D.at_
  obtain ⟨ms, e2, l⟩ := D.cells
  have h1 : d ≠ p := fun z => h (by rw [← z]; exact List.mem_cons_self ..)
  have h2 : c ≠ p := fun z => h (by rw [← z]; exact List.mem_cons_of_mem _ (List.mem_singleton.mpr rfl))
  exact ⟨D.ne, ⟨s, k, by rw [upd_ne h1]; exact e⟩, ms, by rw [upd_ne h2]; exact e2, l⟩
section
variable {P : Program} {w : World} {K : PySem.W.Frag} {mg : Str → Option Value} {base : Heap}
def spMixed : Sp := fun vs H Q _ => ∃ n k : Int, vs = [.int n, .int k] ∧ ∀ m : Int, Q (.int m) H
theorem scMixed : FnScope ["_law_cell", "_law_k", "_law_number"] ["_law_cell", "_law_k"] (defScope sMixed) := ⟨rfl, rfl, rfl, by decide +kernel, rfl, by decide +kernel, by decide +kernel⟩
theorem ok_mixed {f : Addr} {fd : FuncData} (F : Fun K "_law_mixed" "_law_mixed" sMixed f fd) : FnOk P w K mg base CX0 1 f fd ["_law_cell", "_law_k"] spMixed := by
  refine F.ok scMixed (fun vs H Q E h => ?_) (fun cdv A outer s H vs Q E hr h => ?_)
  · obtain ⟨n, k, rfl, _⟩ := h
    rfl
  obtain ⟨n, k, rfl, q⟩ := h
  refine ⟨_, pss_cons (ps_set (i := 2) scMixed.nd rfl (.inl rfl) (pe_op op_mod (pe_op op_mul (pe_op op_add (pe_op op_add (pe_op op_mod (pv 0) pe_int) (pe_op op_mul pe_int (pv 1))) pe_int) pe_int) pe_int))
    (pss_cons (ps_set (i := 2) scMixed.nd rfl (.inl rfl) (pe_op op_mod (pe_op op_add (pe_op op_add (pe_op op_mul (pv 2) (pv 2)) (pe_op op_mul pe_int (pv 1))) pe_int) pe_int))
    (pss_one (ps_ret (pe_op op_add (pe_op op_mul (pv 2) pe_int) (pe_op op_mod (pe_op op_add (pe_op op_add (pe_op op_mul (pv 2) (pv 2)) (pe_op op_mul pe_int (pv 2))) (pv 1)) pe_int))))), ?_⟩
  refine ⟨_, rfl, _, _, rfl, rfl, (by show (0 : Int) < 2147483629; decide), _, rfl, _, _, rfl, rfl, .inl ⟨by decide, by decide⟩, _, _, rfl, rfl, _, _, rfl, rfl, _, _, rfl, rfl, .inr ⟨by decide, by decide⟩, _, _, rfl, rfl, (by show (0 : Int) < 2147483647; decide), ?_⟩
  generalize e1 : ((n % 2147483629 + 7919 * k + 1) * 48271) % 2147483647 = n1
  have b1 : 0 ≤ n1 ∧ n1 < 2147483647 := by
    constructor
    · rw [← e1]; exact Int.emod_nonneg _ (by decide)
    · rw [← e1]; exact Int.emod_lt_of_pos _ (by decide)
  refine ⟨_, rfl, _, rfl, _, _, rfl, rfl, .inl ⟨by omega, by omega⟩, _, rfl, _, _, rfl, rfl, .inl ⟨by decide, by decide⟩, _, _, rfl, rfl, _, _, rfl, rfl, _, _, rfl, rfl, (by show (0 : Int) < 2147483587; decide), ?_⟩
  generalize e2 : (n1 * n1 + 69621 * k + 7) % 2147483587 = n2
  have b2 : 0 ≤ n2 ∧ n2 < 2147483587 := by
    constructor
    · rw [← e2]; exact Int.emod_nonneg _ (by decide)
    · rw [← e2]; exact Int.emod_lt_of_pos _ (by decide)
  refine ⟨_, rfl, _, _, rfl, rfl, .inr ⟨by decide, by decide⟩, _, rfl, _, rfl, _, _, rfl, rfl, .inl ⟨by omega, by omega⟩, _, rfl, _, _, rfl, rfl, .inl ⟨by decide, by decide⟩, _, _, rfl, rfl, _, rfl, _, _, rfl, rfl, _, _, rfl, rfl, (by show (0 : Int) < 2147483563; decide), _, _, rfl, rfl, ?_⟩
  exact q _
def spDeck (K : PySem.W.Frag) : Sp := fun vs H Q _ => ∃ (a : Addr) (ns : List Int), vs = [.ref a] ∧ SqL K H a (ns.map V.int) ∧ ns.length ≤ 63 ∧
  ∀ (d c : Addr) (H' : Hp), Same H H' → H d = none → H c = none → Deck H' d c → Q (.ref d) H'
theorem scDeck : FnScope ["_law_script"] ["_law_script"] (defScope sDeck) := ⟨rfl, rfl, rfl, by decide +kernel, rfl, by decide +kernel, by decide +kernel⟩
theorem ok_deck {f : Addr} {fd : FuncData} (F : Fun K "_law_deck" "_law_deck" sDeck f fd) (mlist : mg "list" = none) (mrev : mg "reversed" = none) (msum : mg "sum" = none) (mlen : mg "len" = none) : FnOk P w K mg base CX0 1 f fd ["_law_script"] (spDeck K) := by
  refine F.ok scDeck (fun vs H Q E h => ?_) (fun cdv A outer s H vs Q E hr h => ?_)
  · obtain ⟨a, ns, rfl, _⟩ := h
    rfl
  obtain ⟨a, ns, rfl, hS, h63, q⟩ := h
  refine ⟨_, pss_one (ps_ret (pe_lst (pa_cons (pe_lstRev rfl (by rfl) mlist (by rfl) mrev (pe_slice sl_list (pv 0) po_none (po_some pe_int)))
    (pa_cons (pe_op op_add (pe_callB (cr_sum rfl) (by rfl) msum PyProof.Rows.boot_sum (pa_cons (pe_slice sl_list (pv 0) po_none (po_some pe_int)) pa_nil)) (pe_callB call_len_seq (by rfl) mlen PySem.boot_len (pa_cons (pe_slice sl_list (pv 0) po_none (po_some pe_int)) pa_nil)))
    (pa_cons pe_int pa_nil))))), ?_⟩
  obtain ⟨ds, e1, l1⟩ := cut_map V.int ns none (some 63)
  refine ⟨_, rfl, 63, rfl, a, _, rfl, hS, fun p1 n1 => ?_⟩
  rw [e1]
  have s1 : Same H (upd H p1 (.lst (ds.map V.int))) := same_new n1 _
  refine ⟨p1, _, rfl, SqL.of upd_same, fun c nc => ?_⟩
  have s2 := s1.trans (same_new nc (.lst (ds.map V.int).reverse))
  refine ⟨_, rfl, 63, rfl, a, _, rfl, s2.seq hS, fun p2 n2 => ?_⟩
  rw [e1]
  have s3 := s2.trans (same_new n2 (.lst (ds.map V.int)))
  refine ⟨p2, ds, rfl, SqL.of upd_same, _, rfl, 63, rfl, a, _, rfl, s3.seq hS, fun p3 n3 => ?_⟩
  rw [e1]
  have s4 := s3.trans (same_new n3 (.lst (ds.map V.int)))
  refine ⟨p3, _, rfl, .inl (SqL.of upd_same), _, _, rfl, rfl, (by show 3 ≤ sizeLine; decide), fun d nd => ?_⟩
  have ec := kn (o' := .lst (ds.map V.int)) (kn (o' := .lst (ds.map V.int)) (upd_same (H := upd H p1 (.lst (ds.map V.int))) (a := c) (o := .lst (ds.map V.int).reverse)) n2) n3
  refine q d c _ (s4.trans (same_new nd _)) (s4.free nd) (s1.free nc) ⟨(ne_of_none ec nd).symm, ⟨_, _, upd_same⟩, ds.reverse, ?_, ?_⟩
  · rw [List.map_reverse]; exact kn ec nd
  · rw [List.length_reverse]; omega
def spTake : Sp := fun vs H Q _ => ∃ (d c : Addr) (m : Int), vs = [.ref d, .int m] ∧ Deck H d c ∧ 0 < m ∧ m < 2 ^ 64 ∧
  ∀ (r : Int) (H' : Hp), 0 ≤ r → r < m → Kp [d, c] H H' → Deck H' d c → Q (.int r) H'
theorem scTake : FnScope ["_law_deck_here", "_law_most", "_law_cells", "_law_cell"] ["_law_deck_here", "_law_most"] (defScope sTake) := ⟨rfl, rfl, rfl, by decide +kernel, rfl, by decide +kernel, by decide +kernel⟩
theorem ok_take {f g : Addr} {fd gd : FuncData} (F : Fun K "_law_take" "_law_take" sTake f fd) (G : FnOk P w K mg base CX0 1 g gd ["_law_cell", "_law_k"] spMixed) (bG : Binds K gd ["_law_cell", "_law_k"] []) (kG : PySem.W.keepIn K (.ref g) = true) (mG : mg "_law_mixed" = some (.ref g)) :
    FnOk P w K mg base CX0 2 f fd ["_law_deck_here", "_law_most"] spTake := by
  refine F.ok scTake (fun vs H Q E h => ?_) (fun cdv A outer s H vs Q E hr h => ?_)
  · obtain ⟨d, c, m, rfl, _⟩ := h
    rfl
  obtain ⟨d, c, m, rfl, D, m0, m1, q⟩ := h
  obtain ⟨sm, k, hd⟩ := D.at_
  obtain ⟨ms, hc, hl⟩ := D.cells
  have dm : d ∈ [d, c] := List.mem_cons_self ..
  have cm : c ∈ [d, c] := List.mem_cons_of_mem _ (List.mem_singleton.mpr rfl)
  refine ⟨_, pss_cons (ps_set (i := 2) scTake.nd rfl (.inl rfl) (pe_ix ix_list (pv 0) pe_int (fun _ _ => rfl)))
    (pss_cons (ps_asg (pe_op op_add (pe_ix ix_list (pv 0) pe_int (fun _ _ => rfl)) pe_int) (pg_sub (pv 0) pe_int set_list))
    (pss_cons (ps_if (pt_cmpR (op_eqD hr.units) (pv 2) (pe_lst pa_nil) (nomark _)) (pss_one (ps_ret (pe_op op_mod (pe_call G hr rfl mG kG bG .nil pass0 (pa_cons (pe_ix ix_list (pv 0) pe_int (fun _ _ => rfl)) (pa_cons (pe_ix ix_list (pv 0) pe_int (fun _ _ => rfl)) pa_nil))) (pv 1)))) pss_nil)
    (pss_cons (ps_set (i := 3) scTake.nd rfl (.inl rfl) (pe_bm0 PySem.F.plainAttrs_list PySem.F.slot_list_pop PySem.F.type_list_pop mt_pop (pv 2)))
    (pss_cons (ps_if (pt_cmpR op_lt (pv 3) (pe_op op_pow pe_int pe_int) (nomark _)) (pss_one (ps_ret (pe_op op_mod (pe_call G hr rfl mG kG bG .nil pass0 (pa_cons (pv 3) (pa_cons (pe_ix ix_list (pv 0) pe_int (fun _ _ => rfl)) pa_nil))) (pv 1)))) pss_nil)
    (pss_cons (ps_if (pt_cmpR op_gt (pe_op op_fdivW (pv 3) (pv 1)) pe_int (nomark _)) (pss_one (ps_expr (pe_bm PySem.F.plainAttrs_list PySem.F.slot_list_append PySem.F.type_list_append mt_append (pv 2) (pa_cons (pe_op op_fdivW (pv 3) (pv 1)) pa_nil)))) pss_nil)
    (pss_one (ps_ret (pe_op op_mod (pv 3) (pv 1))))))))), ?_⟩
  have ix : ∀ (j : Nat) (v : V) (k' : Int), [V.ref c, .int sm, .int k'][j]? = some v → atI [V.ref c, .int sm, .int k'] (j : Int) = some v := fun j v k' h => atI_nat h
  refine ⟨_, rfl, d, _, _, _, rfl, rfl, SqL.of hd, ix 0 _ k rfl, ?_⟩
  refine ⟨_, rfl, d, _, _, _, rfl, rfl, SqL.of hd, ix 2 _ k rfl, _, _, rfl, rfl, _, rfl, d, _, _, 2, rfl, rfl, hd, rfl, ?_⟩
  have hd1 : upd H d (.lst [.ref c, .int sm, .int (k + 1)]) d = some (.lst [.ref c, .int sm, .int (k + 1)]) := upd_same
  have hc1 : upd H d (.lst [.ref c, .int sm, .int (k + 1)]) c = some (.lst (ms.map V.int)) := by rw [upd_ne D.ne.symm]; exact hc
  have k1 : Kp [d, c] H (upd H d (.lst [.ref c, .int sm, .int (k + 1)])) := (Kp.refl _ H).own dm
  show tSeq _ _ _ _ (upd H d (.lst [.ref c, .int sm, .int (k + 1)]))
  generalize upd H d (.lst [.ref c, .int sm, .int (k + 1)]) = H1 at hd1 hc1 k1
  refine ⟨_, rfl, (by show 0 ≤ sizeLine; decide), fun p hp => ?_⟩
  have k2 : Kp [d, c] H (upd H1 p (.lst [])) := k1.new hp
  have hd2 := kn (o' := .lst []) hd1 hp
  have hc2 := kn (o' := .lst []) hc1 hp
  refine ⟨_, _, .lst (SqL.of hc2) (dp_ints ms), .lst (SqL.of upd_same) .nil, Cm.shaped_ints ms, rfl, _, rfl, ?_⟩
  generalize upd H1 p (.lst []) = H2 at hd2 hc2 k2
  rcases List.eq_nil_or_concat ms with rfl | ⟨ns, n, rfl⟩
  · refine iteT ?_
    refine ⟨_, rfl, d, _, _, _, rfl, rfl, SqL.of hd2, ix 1 _ (k + 1) rfl, _, rfl, d, _, _, _, rfl, rfl, SqL.of hd2, ix 2 _ (k + 1) rfl, _, _, rfl, fun r => ?_⟩
    refine ⟨_, rfl, _, _, rfl, rfl, m0, ?_⟩
    exact q _ _ (Int.emod_nonneg _ (by omega)) (Int.emod_lt_of_pos _ m0) k2 ⟨D.ne, ⟨_, _, hd2⟩, [], hc2, by decide⟩
  · have ne : PyData.eqv (.list ((ns.concat n).map PyData.int)) (.list []) = false := by
      cases ns with
      | nil => rfl
      | cons x r => rfl
    rw [ne]
    refine iteF ?_
    rw [List.length_concat] at hl
    have hq : (((ns.concat n).map V.int) : List V)[((ns.concat n).map V.int).length - 1]? = some (V.int n) := by
      rw [List.concat_eq_append, List.map_append, List.length_append]
      simp
    have hdl : ((ns.concat n).map V.int).dropLast = ns.map V.int := by
      rw [List.concat_eq_append, List.map_append]
      simp
    refine ⟨_, rfl, .inl ⟨rfl, _, SqL.of hc2⟩, c, _, _, rfl, rfl, hc2, hq, ?_⟩
    rw [hdl]
    have hd3 : upd H2 c (.lst (ns.map V.int)) d = some (.lst [.ref c, .int sm, .int (k + 1)]) := by rw [upd_ne D.ne]; exact hd2
    have k3 : Kp [d, c] H (upd H2 c (.lst (ns.map V.int))) := k2.own cm
    refine ⟨_, rfl, _, _, rfl, rfl, ⟨by decide, by decide, by decide⟩, _, _, rfl, rfl, _, rfl, ?_⟩
    refine ite2 (fun _ => ?_) (fun _ => ?_)
    · refine ⟨_, rfl, _, rfl, d, _, _, _, rfl, rfl, SqL.of hd3, ix 2 _ (k + 1) rfl, _, _, rfl, fun r => ?_⟩
      refine ⟨_, rfl, _, _, rfl, rfl, m0, ?_⟩
      exact q _ _ (Int.emod_nonneg _ (by omega)) (Int.emod_lt_of_pos _ m0) k3 ⟨D.ne, ⟨_, _, hd3⟩, ns, upd_same, by omega⟩
    · refine ⟨_, rfl, _, rfl, _, _, rfl, rfl, wide_div m0 (b := 64) (by omega) (by decide) (by decide), _, _, rfl, rfl, _, rfl, ?_⟩
      refine ite2 (fun _ => ?_) (fun _ => ?_)
      · refine ⟨_, rfl, .inl ⟨rfl, _, SqL.of upd_same⟩, _, rfl, _, rfl, _, _, rfl, rfl, wide_div m0 (b := 64) (by omega) (by decide) (by decide), c, _, _, rfl, rfl, upd_same, by rw [List.length_map]; exact small1000 (by omega), ?_⟩
        refine ⟨_, rfl, _, rfl, _, _, rfl, rfl, m0, ?_⟩
        refine q _ _ (Int.emod_nonneg _ (by omega)) (Int.emod_lt_of_pos _ m0) (k3.own cm) ⟨D.ne, ⟨_, _, by rw [upd_ne D.ne]; exact hd3⟩, ns ++ [n / m], ?_, ?_⟩
        · rw [upd_same, List.map_append]; rfl
        · rw [List.length_append, List.length_singleton]; omega
      · refine ⟨_, rfl, _, rfl, _, _, rfl, rfl, m0, ?_⟩
        exact q _ _ (Int.emod_nonneg _ (by omega)) (Int.emod_lt_of_pos _ m0) k3 ⟨D.ne, ⟨_, _, hd3⟩, ns, upd_same, by omega⟩
end
end K01
namespace K01
open PySem PySem.W L2 SX Cm
structure TxtS (mg : Str → Option Value) : Prop where
  isi : mg "isinstance" = none
  str : mg "str" = none
  len : mg "len" = none
  all : mg "all" = none
  tup : mg "tuple" = none
  letters : ∃ t, mg "LETTERS" = some (.str "abcdefgh" t)
  most : ∃ t, mg "MOST_LEFT" = some (.int 12 t)
  small : ∃ t, mg "SMALL_LETTERS" = some (.str "abcdefghijklmnopqrstuvwxyz" t)
  longest : ∃ t, mg "LONGEST_NAME" = some (.int 8 t)
section
variable {P : Program} {w : World} {K : PySem.W.Frag} {mg : Str → Option Value} {base : Heap} {d : Addr} {es : Array DictEntry} {n : Nat}
/-- of a value o: f of its signs, False of what is no text -/
def spT (f : List Nat → Bool) : Sp := fun vs H Q _ => ∃ (v : V) (o : Option (List Nat)), vs = [v] ∧ Vl H v o ∧ ∀ H', Same H H' → Q (.bl (onT f o)) H'
theorem hsz {y : List Nat} (h : y.length ≤ 1000) : (S y).length ≤ sizeLine := by rw [S_len]; exact Nat.le_of_lt (small1000 h)
theorem scIsSh : FnScope ["thing", "taken", "stroke", "left", "letter"] ["thing"] (defScope sIsSh) := ⟨rfl, rfl, rfl, by decide +kernel, rfl, by decide +kernel, by decide +kernel⟩
theorem ok_isSh {f : Addr} {fd : FuncData} (F : Fun K "is_shuffle" "is_shuffle" sIsSh f fd) (T : TxtS mg) : FnOk P w K mg base CX0 1 f fd ["thing"] (spT shufB) := by
  refine F.ok scIsSh (fun vs H Q E h => ?_) (fun cdv A outer s H vs Q E hr h => ?_)
  · obtain ⟨v, o, rfl, _⟩ := h
    rfl
  obtain ⟨v, o, rfl, hv, q⟩ := h
  obtain ⟨tL, mL⟩ := T.letters
  obtain ⟨tM, mM⟩ := T.most
  refine ⟨_, pss_cons (ps_if (pt_not (pt_val (pe_callB call_isi (by rfl) T.isi PyProof.Rows.boot_isinstance (pa_cons (pv 0) (pa_cons (pe_bltn (v := .ty "str") (by rfl) T.str (by decide +kernel) rfl) pa_nil))))) (pss_one (ps_ret pe_bl)) pss_nil)
    (pss_cons (ps_asg (pe_partition (pv 0) pe_str) (pg_tup rfl (pgs_cons (pg_name (i := 1) scIsSh.nd rfl (.inr rfl)) (pgs_cons (pg_name (i := 2) scIsSh.nd rfl (.inl rfl)) (pgs_cons (pg_name (i := 3) scIsSh.nd rfl (.inl rfl)) pgs_nil)))))
    (pss_cons (ps_if (PW.pt (pw_or (pt_cmpR op_eq (pv 2) pe_str (nomark _)) (pw_or1 (pt_not (pt_val (pe_m1 PySem.F.slot_str_startswith PySem.F.type_str_startswith mt_startswith (pe_glob (v := .str "abcdefgh") rfl mL ⟨_, rfl⟩) (pv 1))))))) (pss_one (ps_ret pe_bl)) pss_nil)
    (pss_one (ps_ret (pe_and (pe_cmpR op_le (pe_callB call_len_str (by rfl) T.len PySem.boot_len (pa_cons (pv 3) pa_nil)) (pe_glob (v := .int 12) rfl mM ⟨_, rfl⟩) (nomark _))
      (pe_one (pe_callB (cr_all rfl) (by rfl) T.all PyProof.Rows.boot_all (pa_cons (pe_lc (own := [("letter", 4)]) (g := gName 4) (tt := tYes) rfl scIsSh.nd (pi_str (pv 3)) (blkOk_by (own := [("letter", 4)]) (N := ["thing", "taken", "stroke", "left", "letter"]) (sc := defScope sIsSh) (by decide +kernel))
        (fun _ _ _ _ _ => pg_name (i := 4) scIsSh.nd rfl (Or.inl rfl)) (fun _ _ _ _ _ => pts_nil) (fun _ _ _ _ _ => pe_cmpR op_in_sign (pv 4) (pv 1) rfl)) pa_nil)))))))), ?_⟩
  have e1 : ("-" : Str) = S [45] := by decide +kernel
  have e2 : ("" : Str) = S [] := by decide +kernel
  have e3 : ("abcdefgh" : Str) = S abc8 := by decide +kernel
  rw [e1, e2, e3]
  obtain ⟨ty, ht, hk⟩ := hv.isStr (K := K)
  refine ⟨_, rfl, _, _, _, _, _, rfl, .ty _, ht, hk, _, rfl, ?_⟩
  cases o with
  | none => exact iteT (q H (Same.refl H))
  | some x =>
  obtain ⟨rfl, hl⟩ := hv
  refine iteF ?_
  have q : ∀ H', Same H H' → Q (.bl (shufB x)) H' := q
  refine ⟨_, rfl, ⟨_, rfl⟩, _, _, rfl, rfl, rfl, hsz hl, fun p hp => ?_⟩
  have hp' : ∀ o, Same H (upd H p o) := same_new hp
  cases hpar : TL.par [45] [] x with
  | none =>
    have hb : shufB x = false := by unfold shufB; rw [hpar]
    rw [partition_none (List.cons_ne_nil _ _) hpar]
    refine ⟨p, _, rfl, SqT.of upd_same, rfl, _, _, rfl, _, _, rfl, _, _, rfl, rfl, ?_⟩
    refine ⟨_, rfl, rfl, _, rfl, iteT (iteT ?_)⟩
    rw [hb] at q
    exact q _ (hp' _)
  | some tl =>
    obtain ⟨t, l⟩ := tl
    have hb : shufB x = (decide (abc8.take t.length = t) && (decide (l.length ≤ 12) && (l.map fun c => decide (c ∈ t)).all id)) := by unfold shufB; rw [hpar]
    rw [partition_some (List.cons_ne_nil _ _) hpar]
    have ll : l.length ≤ 1000 := Nat.le_trans (par_len _ _ _ _ hpar) hl
    refine ⟨p, _, rfl, SqT.of upd_same, rfl, _, _, rfl, _, _, rfl, _, _, rfl, rfl, ?_⟩
    refine ⟨_, rfl, rfl, _, rfl, iteF ?_⟩
    refine ⟨⟨_, rfl⟩, _, rfl, _, _, rfl, rfl, _, rfl, ?_⟩
    rw [starts_S]
    by_cases h1 : abc8.take t.length = t
    · rw [decide_eq_true h1]
      refine iteF ?_
      refine ⟨_, rfl, _, rfl, hsz ll, _, _, rfl, rfl, _, rfl, ?_⟩
      rw [S_len]
      by_cases h2 : l.length ≤ 12
      · have h2' : (l.length : Int) ≤ 12 := by omega
        rw [decide_eq_true h2']
        refine iteT ?_
        refine ⟨_, rfl, _, rfl, fun D hD => ?_⟩
        refine lc_txt (fun c => .bl (decide (c ∈ t))) ll (fun c H R hc r => ?_) ?_
        · exact ⟨rfl, _, rfl, _, rfl, c, _, rfl, rfl, r⟩
        · refine ⟨D, l.map fun c => decide (c ∈ t), rfl, ?_, ?_⟩
          · rw [List.map_map]; exact SqL.of upd_same
          · rw [decide_eq_true h1, decide_eq_true h2, Bool.true_and, Bool.true_and] at hb
            rw [hb] at q
            exact q _ ((hp' _).trans (same_new hD _))
      · have h2' : ¬ (l.length : Int) ≤ 12 := by omega
        rw [decide_eq_false h2']
        refine iteF ?_
        rw [decide_eq_false h2, Bool.false_and, Bool.and_false] at hb
        rw [hb] at q
        exact q _ (hp' _)
    · rw [decide_eq_false h1]
      refine iteT ?_
      rw [decide_eq_false h1, Bool.false_and] at hb
      rw [hb] at q
      exact q _ (hp' _)
def spBasic : Sp := fun vs H Q _ => ∃ z : Str, vs = [.str z] ∧ Q (.bl (table.lookup z).isSome) H
theorem scBasic : FnScope ["text"] ["text"] (defScope sBasic) := ⟨rfl, rfl, rfl, by decide +kernel, rfl, by decide +kernel, by decide +kernel⟩
theorem ok_basic {f : Addr} {fd : FuncData} (F : Fun K "is_basic" "is_basic" sBasic f fd) (T : Tab K w mg d es n) : FnOk P w K mg base CX0 1 f fd ["text"] spBasic := by
  refine F.ok scBasic (fun vs H Q E h => ?_) (fun cdv A outer s H vs Q E hr h => ?_)
  · obtain ⟨z, rfl, _⟩ := h
    rfl
  obtain ⟨z, rfl, q⟩ := h
  refine ⟨_, pss_one (ps_ret (pe_cmpR (op_in_kd T.kd) (pv 0) (pe_glob (v := .ref d) rfl T.mg_ rfl) rfl)), ?_⟩
  obtain ⟨h1, h2⟩ := T.ns z
  cases hz : table.lookup z with
  | none =>
    rw [hz] at q
    exact ⟨_, rfl, z, none, rfl, rfl, h1 hz, q⟩
  | some xs =>
    rw [hz] at q
    obtain ⟨t, e1, e2⟩ := h2 xs hz
    exact ⟨_, rfl, z, _, rfl, rfl, e1, q⟩
theorem scIsName : FnScope ["thing", "letter"] ["thing"] (defScope sIsName) := ⟨rfl, rfl, rfl, by decide +kernel, rfl, by decide +kernel, by decide +kernel⟩
theorem ok_isName {f gb : Addr} {fd gbd : FuncData} (F : Fun K "is_name" "is_name" sIsName f fd) (T : TxtS mg) (B : FnOk P w K mg base CX0 1 gb gbd ["text"] spBasic) (bB : L2.Binds K gbd ["text"] []) (kB : keepIn K (.ref gb) = true) (mB : mg "is_basic" = some (.ref gb)) : FnOk P w K mg base CX0 2 f fd ["thing"] (spT nameB) := by
  refine F.ok scIsName (fun vs H Q E h => ?_) (fun cdv A outer s H vs Q E hr h => ?_)
  · obtain ⟨v, o, rfl, _⟩ := h
    rfl
  obtain ⟨v, o, rfl, hv, q⟩ := h
  obtain ⟨tS, mS⟩ := T.small
  obtain ⟨tN, mN⟩ := T.longest
  refine ⟨_, pss_cons (ps_if (PW.pt (pw_or (pt_not (pt_val (pe_callB call_isi (by rfl) T.isi PyProof.Rows.boot_isinstance (pa_cons (pv 0) (pa_cons (pe_bltn (v := .ty "str") (by rfl) T.str (by decide +kernel) rfl) pa_nil)))))
      (pw_or1 (pt_not (pt_chain op_le op_le pe_int (pe_callB call_len_str (by rfl) T.len PySem.boot_len (pa_cons (pv 0) pa_nil)) (pe_glob (v := .int 8) rfl mN ⟨_, rfl⟩)))))) (pss_one (ps_ret pe_bl)) pss_nil)
    (pss_one (ps_ret (pe_and (pe_callB (cr_all rfl) (by rfl) T.all PyProof.Rows.boot_all (pa_cons (pe_lc (own := [("letter", 1)]) (g := gName 1) (tt := tYes) rfl scIsName.nd (pi_str (pv 0)) (blkOk_by (own := [("letter", 1)]) (N := ["thing", "letter"]) (sc := defScope sIsName) (by decide +kernel))
        (fun _ _ _ _ _ => pg_name (i := 1) scIsName.nd rfl (Or.inl rfl)) (fun _ _ _ _ _ => pts_nil) (fun _ _ _ _ _ => pe_cmpR op_in_sign (pv 1) (pe_glob (v := .str "abcdefghijklmnopqrstuvwxyz") rfl mS ⟨_, rfl⟩) rfl)) pa_nil))
      (pe_one (pe_not (pe_call B hr rfl mB kB bB .nil pass0 (pa_cons (pv 0) pa_nil))))))), ?_⟩
  have e3 : ("abcdefghijklmnopqrstuvwxyz" : Str) = S az := by decide +kernel
  rw [e3]
  obtain ⟨ty, ht, hk⟩ := hv.isStr (K := K)
  refine ⟨_, rfl, _, _, _, _, _, rfl, .ty _, ht, hk, _, rfl, ?_⟩
  cases o with
  | none => exact iteT (iteT (q H (Same.refl H)))
  | some x =>
  obtain ⟨rfl, hl⟩ := hv
  refine iteF ?_
  have q : ∀ H', Same H H' → Q (.bl (nameB x)) H' := q
  unfold nameB at q
  refine ⟨_, rfl, _, rfl, hsz hl, _, _, rfl, rfl, _, rfl, ?_⟩
  rw [S_len]
  have c1 : decide ((1 : Int) ≤ (x.length : Int)) = decide (1 ≤ x.length) := by congr 1; exact propext (by omega)
  have c2 : decide ((x.length : Int) ≤ (8 : Int)) = decide (x.length ≤ 8) := by congr 1; exact propext (by omega)
  rw [c1]
  by_cases h1 : 1 ≤ x.length
  · rw [decide_eq_true h1] at q ⊢
    refine iteT ?_
    refine ⟨_, _, rfl, rfl, _, rfl, ?_⟩
    rw [c2]
    by_cases h2 : x.length ≤ 8
    · rw [decide_eq_true h2] at q ⊢
      refine iteF ?_
      refine ⟨_, rfl, _, rfl, fun D hD => ?_⟩
      refine lc_txt (fun c => .bl (decide (c ∈ az))) hl (fun c H R hc r => ?_) ?_
      · exact ⟨rfl, _, rfl, c, _, rfl, rfl, r⟩
      · refine ⟨D, x.map fun c => decide (c ∈ az), rfl, ?_, _, rfl, ?_⟩
        · rw [List.map_map]; exact SqL.of upd_same
        · rw [Bool.true_and, Bool.true_and] at q
          cases h3 : (x.map fun c => decide (c ∈ az)).all id with
          | false =>
            rw [h3, Bool.false_and] at q
            exact iteF (q _ (same_new hD _))
          | true =>
            rw [h3, Bool.true_and] at q
            refine iteT ?_
            exact ⟨_, rfl, _, rfl, _, rfl, q _ (same_new hD _)⟩
    · rw [decide_eq_false h2] at q ⊢
      refine iteT ?_
      rw [Bool.and_false, Bool.false_and] at q
      exact q _ (Same.refl H)
  · rw [decide_eq_false h1] at q ⊢
    refine iteF ?_
    refine ⟨_, rfl, iteT ?_⟩
    rw [Bool.false_and, Bool.false_and] at q
    exact q _ (Same.refl H)
end
end K01
namespace K01
open PySem PySem.W L2 SX Cm
section
variable {P : Program} {w : World} {K : PySem.W.Frag} {mg : Str → Option Value} {base : Heap}
def spTW : Sp := fun vs H Q _ => ∃ x : List Nat, vs = [.str (S x)] ∧ x.length ≤ 1000 ∧ ∀ H', Same H H' → Q (.bl (wordB x)) H'
theorem scTW : FnScope ["text"] ["text"] (defScope sTextWord) := ⟨rfl, rfl, rfl, by decide +kernel, rfl, by decide +kernel, by decide +kernel⟩
theorem ok_tw {f gb gs gn : Addr} {fd gbd gsd gnd : FuncData} (F : Fun K "is_text_word" "is_text_word" sTextWord f fd) (B : FnOk P w K mg base CX0 1 gb gbd ["text"] spBasic) (bB : L2.Binds K gbd ["text"] []) (kB : keepIn K (.ref gb) = true) (mB : mg "is_basic" = some (.ref gb))
    (Z : FnOk P w K mg base CX0 1 gs gsd ["thing"] (spT shufB)) (bZ : L2.Binds K gsd ["thing"] []) (kZ : keepIn K (.ref gs) = true) (mZ : mg "is_shuffle" = some (.ref gs))
    (N : FnOk P w K mg base CX0 2 gn gnd ["thing"] (spT nameB)) (bN : L2.Binds K gnd ["thing"] []) (kN : keepIn K (.ref gn) = true) (mN : mg "is_name" = some (.ref gn)) : FnOk P w K mg base CX0 3 f fd ["text"] spTW := by
  refine F.ok scTW (fun vs H Q E h => ?_) (fun cdv A outer s H vs Q E hr h => ?_)
  · obtain ⟨x, rfl, _⟩ := h
    rfl
  obtain ⟨x, rfl, hl, q⟩ := h
  have hr1 := hr.mono (j := 1) (by decide)
  refine ⟨_, pss_one (ps_ret (pe_or (pe_call B hr1 rfl mB kB bB .nil pass0 (pa_cons (pv 0) pa_nil)) (pe_or (pe_call Z hr1 rfl mZ kZ bZ .nil pass0 (pa_cons (pv 0) pa_nil)) (pe_one (pe_call N hr rfl mN kN bN .nil pass0 (pa_cons (pv 0) pa_nil)))))), ?_⟩
  unfold wordB at q
  refine ⟨_, rfl, _, rfl, _, rfl, ?_⟩
  cases h1 : (table.lookup (S x)).isSome with
  | true =>
    rw [h1, Bool.true_or] at q
    exact iteT (q H (Same.refl H))
  | false =>
    rw [h1, Bool.false_or] at q
    refine iteF ?_
    refine ⟨_, rfl, _, some x, rfl, ⟨rfl, hl⟩, fun H1 s1 => ⟨_, rfl, ?_⟩⟩
    show if shufB x = true then _ else _
    cases h2 : shufB x with
    | true =>
      rw [h2, Bool.true_or] at q
      exact iteT (q H1 s1)
    | false =>
      rw [h2, Bool.false_or] at q
      refine iteF ?_
      exact ⟨_, rfl, _, some x, rfl, ⟨rfl, hl⟩, fun H2 s2 => q H2 (s1.trans s2)⟩
def spMarked : Sp := fun vs H Q _ => ∃ v : V, vs = [v] ∧ Vl H v none ∧ Q (.bl false) H ∧ ((∃ a z, v = .ref a ∧ H a = some (.tup [.str z])) → Q (.bl true) H)
theorem scMarked : FnScope ["thing"] ["thing"] (defScope sMarked) := ⟨rfl, rfl, rfl, by decide +kernel, rfl, by decide +kernel, by decide +kernel⟩
theorem ok_marked {f : Addr} {fd : FuncData} (F : Fun K "is_marked" "is_marked" sMarked f fd) (T : TxtS mg) : FnOk P w K mg base CX0 1 f fd ["thing"] spMarked := by
  refine F.ok scMarked (fun vs H Q E h => ?_) (fun cdv A outer s H vs Q E hr h => ?_)
  · obtain ⟨v, rfl, _⟩ := h
    rfl
  obtain ⟨v, rfl, hv, q0, q1⟩ := h
  refine ⟨_, pss_one (ps_ret (pe_and (pe_callB call_isi (by rfl) T.isi PyProof.Rows.boot_isinstance (pa_cons (pv 0) (pa_cons (pe_bltn (v := .ty "tuple") (by rfl) T.tup (by decide +kernel) rfl) pa_nil)))
    (pe_and (pe_cmpR op_gt (pe_callB call_len_seq (by rfl) T.len PySem.boot_len (pa_cons (pv 0) pa_nil)) pe_int (nomark _))
    (pe_one (pe_callB call_isi (by rfl) T.isi PyProof.Rows.boot_isinstance (pa_cons (pe_ix ix_tup (pv 0) pe_int (fun _ _ => rfl)) (pa_cons (pe_bltn (v := .ty "str") (by rfl) T.str (by decide +kernel) rfl) pa_nil))))))), ?_⟩
  rcases hv.isTup (K := K) with ⟨t, ht, hk⟩ | ⟨a, xs, t, rfl, ha, hx, ht, hk⟩
  · exact ⟨_, rfl, _, _, _, _, _, rfl, .ty _, ht, hk, _, rfl, iteF q0⟩
  · refine ⟨_, rfl, _, _, _, _, _, rfl, .ty _, ht, hk, _, rfl, iteT ?_⟩
    refine ⟨_, rfl, a, xs, rfl, .inr (SqT.of ha), _, _, rfl, rfl, _, rfl, ?_⟩
    rcases hx with rfl | ⟨z, rfl⟩
    · exact iteF q0
    · refine iteT ?_
      exact ⟨_, rfl, a, _, 0, _, rfl, rfl, SqT.of ha, atI_nat (j := 0) rfl, _, _, _, _, true, rfl, .ty _, .base (.str _), kit_ty (r := true) (by decide +kernel), q1 ⟨a, z, rfl, ha⟩⟩
def spAskW : Sp := fun vs H Q _ => ∃ (v : V) (o : Option (List Nat)), vs = [v] ∧ Vl H v o ∧ (onT wordB o = true → ∀ (p : Addr) H', Same H H' → H' p = some (.lst []) → H p = none → Q (.ref p) H') ∧ (onT wordB o = false → ∀ H', Same H H' → Q .non H')
theorem scAskW : FnScope ["part"] ["part"] (defScope sAskedWord) := ⟨rfl, rfl, rfl, by decide +kernel, rfl, by decide +kernel, by decide +kernel⟩
theorem ok_askW {f gt gm : Addr} {fd gtd gmd : FuncData} (F : Fun K "asked_of_word" "asked_of_word" sAskedWord f fd) (T : TxtS mg) (W : FnOk P w K mg base CX0 3 gt gtd ["text"] spTW) (bW : L2.Binds K gtd ["text"] []) (kW : keepIn K (.ref gt) = true) (mW : mg "is_text_word" = some (.ref gt))
    (M : FnOk P w K mg base CX0 1 gm gmd ["thing"] spMarked) (bM : L2.Binds K gmd ["thing"] []) (kM : keepIn K (.ref gm) = true) (mM : mg "is_marked" = some (.ref gm)) : FnOk P w K mg base CX0 4 f fd ["part"] spAskW := by
  refine F.ok scAskW (fun vs H Q E h => ?_) (fun cdv A outer s H vs Q E hr h => ?_)
  · obtain ⟨v, o, rfl, _⟩ := h
    rfl
  obtain ⟨v, o, rfl, hv, q1, q0⟩ := h
  refine ⟨_, pss_cons (ps_if (pt_val (pe_callB call_isi (by rfl) T.isi PyProof.Rows.boot_isinstance (pa_cons (pv 0) (pa_cons (pe_bltn (v := .ty "str") (by rfl) T.str (by decide +kernel) rfl) pa_nil))))
      (pss_one (ps_ret (pe_ifExp (pt_val (pe_call W hr rfl mW kW bW .nil pass0 (pa_cons (pv 0) pa_nil))) (pe_lst pa_nil) pe_non))) pss_nil)
    (pss_cons (ps_if (PW.pt (pw_and (pt_val (pe_call M (hr.mono (by decide)) rfl mM kM bM .nil pass0 (pa_cons (pv 0) pa_nil))) (pw_and (pt_cmpR op_eq (pe_callB call_len_seq (by rfl) T.len PySem.boot_len (pa_cons (pv 0) pa_nil)) pe_int (nomark _)) (pw_and1 (pt_cmpR op_eq (pe_ix ix_tup (pv 0) pe_int (fun _ _ => rfl)) pe_str (nomark _)))))) (pss_one ps_never) pss_nil)
    (pss_one (ps_ret pe_non))), ?_⟩
  obtain ⟨ty, ht, hk⟩ := hv.isStr (K := K)
  refine ⟨_, rfl, _, _, _, _, _, rfl, .ty _, ht, hk, _, rfl, ?_⟩
  cases o with
  | some x =>
    obtain ⟨rfl, hl⟩ := hv
    refine iteT ?_
    refine ⟨_, rfl, x, rfl, hl, fun H1 s1 => ⟨_, rfl, ?_⟩⟩
    cases hw : wordB x with
    | true => exact iteT ⟨(by show 0 ≤ sizeLine; decide), fun p hp => q1 hw p _ (s1.trans (same_new hp _)) upd_same (s1.free hp)⟩
    | false => exact iteF (q0 hw H1 s1)
  | none =>
    refine iteF ?_
    have fin := q0 rfl H (Same.refl H)
    refine ⟨_, rfl, v, rfl, hv, ⟨_, rfl, iteF (iteF fin)⟩, ?_⟩
    rintro ⟨a, z, rfl, ha⟩
    refine ⟨_, rfl, iteT ?_⟩
    refine ⟨_, rfl, a, _, rfl, .inr (SqT.of ha), rfl, _, rfl, ?_⟩
    exact iteF (iteF fin)
def spAsk : Sp := fun vs H Q _ => ∃ (v : V) (o : Option (List Nat)), vs = [.str "word", v] ∧ Vl H v o ∧ (onT wordB o = true → ∀ (p : Addr) H', Same H H' → H' p = some (.lst []) → H p = none → Q (.ref p) H') ∧ (onT wordB o = false → ∀ H', Same H H' → Q .non H')
theorem scAsk : FnScope ["sort", "part", "inner"] ["sort", "part"] (defScope sAsked) := ⟨rfl, rfl, rfl, by decide +kernel, rfl, by decide +kernel, by decide +kernel⟩
theorem ok_ask {f gt : Addr} {fd gtd : FuncData} (F : Fun K "asked_within" "asked_within" sAsked f fd) (W : FnOk P w K mg base CX0 4 gt gtd ["part"] spAskW) (bW : L2.Binds K gtd ["part"] []) (kW : keepIn K (.ref gt) = true) (mW : mg "asked_of_word" = some (.ref gt)) : FnOk P w K mg base CX0 5 f fd ["sort", "part"] spAsk := by
  refine F.ok scAsk (fun vs H Q E h => ?_) (fun cdv A outer s H vs Q E hr h => ?_)
  · obtain ⟨v, o, rfl, _⟩ := h
    rfl
  obtain ⟨v, o, rfl, hv, q1, q0⟩ := h
  refine ⟨_, pss_cons (ps_if (pt_cmpR op_eq (pv 0) pe_str (nomark _)) (pss_one ps_never) pss_nil)
    (pss_cons (ps_if (pt_cmpR op_eq (pv 0) pe_str (nomark _)) (pss_one (ps_ret (pe_call W hr rfl mW kW bW .nil pass0 (pa_cons (pv 1) pa_nil)))) pss_nil) pss_never), ?_⟩
  have n1 : decide (V.str "word" = V.str "thing") = false := by decide +kernel
  have n2 : decide (V.str "word" = V.str "word") = true := decide_eq_true rfl
  refine ⟨_, rfl, rfl, _, rfl, ?_⟩
  rw [n1]
  refine iteF ?_
  refine ⟨_, rfl, rfl, _, rfl, ?_⟩
  rw [n2]
  refine iteT ?_
  exact ⟨_, rfl, v, o, rfl, hv, q1, q0⟩
def spForm (fa : Addr) : Sp := fun vs H Q _ => ∃ (v : V) (o : Option (List Nat)), vs = [.str "word", v, .ref fa] ∧ Vl H v o ∧ ∀ H', Same H H' → Q (.bl (onT wordB o)) H'
theorem scForm : FnScope ["sort", "thing", "asked_within", "waiting", "asked", "part", "inner"] ["sort", "thing", "asked_within"] (defScope sForm) := ⟨rfl, rfl, rfl, by decide +kernel, rfl, by decide +kernel, by decide +kernel⟩
theorem ok_form {f ga : Addr} {fd gad : FuncData} (F : Fun K "has_form" "has_form" sForm f fd) (W : FnOk P w K mg base CX0 5 ga gad ["sort", "part"] spAsk) (bW : L2.Binds K gad ["sort", "part"] []) (kW : keepIn K (.ref ga) = true) : FnOk P w K mg base CX0 6 f fd ["sort", "thing", "asked_within"] (spForm ga) := by
  refine F.ok scForm (fun vs H Q E h => ?_) (fun cdv A outer s H vs Q E hr h => ?_)
  · obtain ⟨v, o, rfl, _⟩ := h
    rfl
  obtain ⟨v, o, rfl, hv, q⟩ := h
  refine ⟨_, pss_cons (ps_set (i := 3) scForm.nd rfl (.inl rfl) (pe_lst (pa_cons (pe_tup (pa_cons (pv 0) (pa_cons (pv 1) pa_nil))) pa_nil)))
    (pss_cons (ps_while PassesOwn.never (pt_truth (pv 3) (by intro _; rfl))
      (pss_cons (ps_asg (pe_bm0 PySem.F.plainAttrs_list PySem.F.slot_list_pop PySem.F.type_list_pop mt_pop (pv 3)) (pg_tup rfl (pgs_cons (pg_name (i := 4) scForm.nd rfl (.inl rfl)) (pgs_cons (pg_name (i := 5) scForm.nd rfl (.inl rfl)) pgs_nil))))
      (pss_cons (ps_set (i := 6) scForm.nd rfl (.inl rfl) (pe_callL (i := 2) W hr rfl (.inl rfl) kW bW .nil pass0 (pa_cons (pv 4) (pa_cons (pv 5) pa_nil))))
      (pss_cons (ps_if (pt_cmpR op_isN (pv 6) pe_non (nomark _)) (pss_one (ps_ret pe_bl)) pss_nil)
      (pss_one (ps_expr (pe_bm PySem.F.plainAttrs_list PySem.F.slot_list_extend PySem.F.type_list_extend mt_extend (pv 3) (pa_cons (pv 6) pa_nil))))))))
    (pss_one (ps_ret pe_bl))), ?_⟩
  refine ⟨_, rfl, _, rfl, (by show 2 ≤ sizeLine; decide), fun t nt => ⟨(by show 1 ≤ sizeLine; decide), fun l nl => ?_⟩⟩
  have s1 : Same H (upd H t (.tup [.str "word", v])) := same_new nt _
  have fl : H l = none := s1.free nl
  have s2 := s1.trans (same_new nl (.lst [.ref t]))
  have ht := kn (o' := .lst [V.ref t]) (upd_same (H := H) (a := t) (o := .tup [.str "word", v])) nl
  refine ⟨fun m σ H' => (m = 1 ∧ ∃ (x4 x5 x6 : Option V), σ = [some (.str "word"), some v, some (.ref ga), some (.ref l), x4, x5, x6] ∧ Same H H' ∧ H' l = some (.lst [.ref t]) ∧ H' t = some (.tup [.str "word", v])) ∨
    (m = 0 ∧ onT wordB o = true ∧ ∃ (x4 x5 x6 : Option V), σ = [some (.str "word"), some v, some (.ref ga), some (.ref l), x4, x5, x6] ∧ Same H H' ∧ H' l = some (.lst [])), ⟨1, .inl ⟨rfl, none, none, none, rfl, s2, upd_same, ht⟩⟩, ?_⟩
  rintro m σ H' (⟨rfl, x4, x5, x6, rfl, sm, hl, ht⟩ | ⟨rfl, ho, x4, x5, x6, rfl, sm, hl⟩)
  · refine ⟨_, rfl, true, .inl ⟨_, SqL.of hl, rfl⟩, iteT ?_⟩
    refine ⟨fun σ' H2 => onT wordB o = true ∧ ∃ (x4 x5 x6 : Option V), σ' = [some (.str "word"), some v, some (.ref ga), some (.ref l), x4, x5, x6] ∧ Same H H2 ∧ H2 l = some (.lst []), ?_, ?_⟩
    · rintro σ' H2 ⟨ho, h⟩
      exact ⟨0, by decide, .inr ⟨rfl, ho, h⟩⟩
    · refine ⟨_, rfl, .inl ⟨rfl, _, SqL.of hl⟩, l, _, _, rfl, rfl, hl, rfl, ?_⟩
      have nlt : t ≠ l := ne_of ht hl (by intro z; cases z)
      have ht' : upd H' l (.lst []) t = some (.tup [.str "word", v]) := by rw [upd_ne nlt]; exact ht
      have sm' : Same H (upd H' l (.lst [])) := own_new sm fl
      refine ⟨t, _, rfl, SqT.of ht', rfl, _, _, rfl, _, _, rfl, rfl, ?_⟩
      refine ⟨rfl, _, rfl, _, rfl, v, o, rfl, hv.same sm', fun ho p H2 s3 hp np => ?_, fun ho H2 s3 => ?_⟩
      · refine ⟨_, rfl, rfl, _, rfl, ?_⟩
        refine iteF ?_
        have hl2 : H2 l = some (.lst []) := s3 _ _ upd_same
        refine ⟨_, rfl, .inl ⟨rfl, _, SqL.of hl2⟩, _, rfl, l, p, [], [], rfl, rfl, hl2, hp, (by show 0 ≤ sizeLine; decide), ?_⟩
        exact ⟨ho, _, _, _, rfl, own_new (sm'.trans s3) fl, upd_same⟩
      · refine ⟨_, rfl, rfl, _, rfl, ?_⟩
        refine iteT ?_
        rw [ho] at q
        exact q H2 (sm'.trans s3)
  · refine ⟨_, rfl, false, .inl ⟨_, SqL.of hl, rfl⟩, iteF ?_⟩
    rw [ho] at q
    exact q H' sm
theorem scIsWord : FnScope ["thing"] ["thing"] (defScope sIsWord) := ⟨rfl, rfl, rfl, by decide +kernel, rfl, by decide +kernel, by decide +kernel⟩
theorem ok_isWord {f ga gf : Addr} {fd gfd : FuncData} (F : Fun K "is_word" "is_word" sIsWord f fd) (W : FnOk P w K mg base CX0 6 gf gfd ["sort", "thing", "asked_within"] (spForm ga)) (bW : L2.Binds K gfd ["sort", "thing", "asked_within"] []) (kW : keepIn K (.ref gf) = true) (mW : mg "has_form" = some (.ref gf)) (mA : mg "asked_within" = some (.ref ga)) : FnOk P w K mg base CX0 7 f fd ["thing"] (spT wordB) := by
  refine F.ok scIsWord (fun vs H Q E h => ?_) (fun cdv A outer s H vs Q E hr h => ?_)
  · obtain ⟨v, o, rfl, _⟩ := h
    rfl
  obtain ⟨v, o, rfl, hv, q⟩ := h
  refine ⟨_, pss_one (ps_ret (pe_call W hr rfl mW kW bW .nil pass0 (pa_cons pe_str (pa_cons (pv 0) (pa_cons (pe_glob (v := .ref ga) rfl mA rfl) pa_nil))))), ?_⟩
  exact ⟨_, rfl, v, o, rfl, hv, q⟩
end
end K01
namespace K01
open PySem PySem.W L2 SX Cm
theorem cutS_from {a : List Nat} {i : Int} (h : 0 ≤ i) : cutS (S a) (some i) none = S (a.drop i.toNat) := by
  obtain ⟨n, rfl⟩ := Int.eq_ofNat_of_zero_le h
  unfold cutS
  rw [HT.sIx_none, HT.sIx_nat, S_len]
  show S (List.take (a.length - min n a.length) (List.drop (min n a.length) a)) = S (a.drop n)
  by_cases h : n ≤ a.length
  · rw [Nat.min_eq_left h, List.take_of_length_le (by rw [List.length_drop]; omega)]
  · rw [Nat.min_eq_right (by omega), List.drop_eq_nil_of_le (Nat.le_refl a.length), List.drop_eq_nil_of_le (show a.length ≤ n by omega), List.take_nil]
/-- the signs that a text may have -/
def Ch (x : List Nat) : Prop := ∀ c ∈ x, c < 1114112
theorem dp_signs {K : Frag} {H : Hp} : ∀ x : List Nat, DpAll K H (x.map fun c => V.str ⟨#[c]⟩) (x.map fun c => PyData.str ⟨#[c]⟩)
  | [] => .nil
  | n :: r => .cons (.str _) (dp_signs r)
theorem lay_signs : ∀ x : List Nat, Ch x → PyData.canLayAll0 (x.map fun c => PyData.str ⟨#[c]⟩) = true
  | [], _ => rfl
  | n :: r, h => by
    show (PyData.canLay0 (PyData.str ⟨#[n]⟩) && PyData.canLayAll0 (r.map fun c => PyData.str ⟨#[c]⟩)) = true
    rw [lay_signs r (fun c hc => h c (List.mem_cons_of_mem _ hc)), Bool.and_true]
    show (#[n].all (· < 0x110000)) = true
    have := h n (List.mem_cons_self ..)
    simp [this]
theorem deep_signs : ∀ x : List Nat, PyData.depthAll (x.map fun c => PyData.str ⟨#[c]⟩) = 0
  | [] => rfl
  | n :: r => by
    show max (PyData.depth (PyData.str ⟨#[n]⟩)) (PyData.depthAll (r.map fun c => PyData.str ⟨#[c]⟩)) = 0
    rw [deep_signs r]; rfl
theorem shaped_signs (x : List Nat) (h : Ch x) : SeqAt.shaped (.list (x.map fun c => PyData.str ⟨#[c]⟩)) = true := by
  show (PyData.canLayAll0 (x.map fun c => PyData.str ⟨#[c]⟩) && decide (PyData.depthAll (x.map fun c => PyData.str ⟨#[c]⟩) + 1 ≤ 64)) = true
  rw [lay_signs x h, deep_signs]; rfl
theorem Ch.sub {x y : List Nat} (h : Ch x) (s : ∀ c ∈ y, c ∈ x) : Ch y := fun c hc => h c (s c hc)
section
variable {P : Program} {w : World} {K : PySem.W.Frag} {mg : Str → Option Value} {base : Heap}
def spAllIn : Sp := fun vs H Q _ => ∃ x y : List Nat, vs = [.str (S x), .str (S y)] ∧ x.length ≤ 1000 ∧ Ch x ∧ ∀ H', Same H H' → Q (.bl (x.all fun c => decide (c ∈ y))) H'
theorem scAllIn : FnScope ["_law_text", "_law_signs", "_law_sign"] ["_law_text", "_law_signs"] (defScope sAllIn) := ⟨rfl, rfl, rfl, by decide +kernel, rfl, by decide +kernel, by decide +kernel⟩
theorem ok_allIn {f : Addr} {fd : FuncData} (F : Fun K "_law_all_in" "_law_all_in" sAllIn f fd) : FnOk P w K mg base CX0 1 f fd ["_law_text", "_law_signs"] spAllIn := by
  refine F.ok scAllIn (fun vs H Q E h => ?_) (fun cdv A outer s H vs Q E hr h => ?_)
  · obtain ⟨x, y, rfl, _⟩ := h
    rfl
  obtain ⟨x, y, rfl, hl, hx, q⟩ := h
  refine ⟨_, pss_one (ps_ret (pe_cmpR (op_eqD hr.units) (pe_lc (own := [("_law_sign", 2)]) (g := gName 2) rfl scAllIn.nd (pi_str (pv 0)) (blkOk_by (own := [("_law_sign", 2)]) (N := ["_law_text", "_law_signs", "_law_sign"]) (sc := defScope sAllIn) (by decide +kernel))
        (fun _ _ _ _ _ => pg_name (i := 2) scAllIn.nd rfl (Or.inl rfl)) (fun _ _ _ _ _ => pts_one (pt_cmpR op_notIn_sign (pv 2) (pv 1) rfl)) (fun _ _ _ _ _ => pv 2)) (pe_lst pa_nil) (nomark _))), ?_⟩
  refine ⟨_, rfl, _, rfl, fun D hD => ?_⟩
  refine lc_txtIf (fun c => !decide (c ∈ y)) (fun c => .str ⟨#[c]⟩) hl (fun c H R R0 hc r1 r0 => ?_) ?_
  · refine ⟨rfl, _, rfl, _, rfl, c, _, rfl, rfl, _, rfl, ?_⟩
    show if (!decide (c ∈ y)) = true then _ else _
    cases hp : (!decide (c ∈ y)) with
    | true => exact iteT ⟨_, rfl, r1 hp⟩
    | false => exact iteF (r0 hp)
  · refine ⟨(by show 0 ≤ sizeLine; decide), fun p hp => ?_⟩
    refine ⟨_, _, .lst (SqL.of (kn upd_same hp)) (dp_signs _), .lst (SqL.of upd_same) .nil, shaped_signs _ (hx.sub fun c hc => (List.mem_filter.mp hc).1), rfl, ?_⟩
    have e : PyData.eqv (.list ((x.filter fun c => !decide (c ∈ y)).map fun c => PyData.str ⟨#[c]⟩)) (.list []) = (x.all fun c => decide (c ∈ y)) := by
      cases hf : x.filter (fun c => !decide (c ∈ y)) with
      | nil =>
        have : (x.all fun c => decide (c ∈ y)) = true := by
          rw [List.all_eq_true]
          intro c hc
          rw [List.filter_eq_nil_iff] at hf
          have := hf c hc
          simpa using this
        rw [this]; rfl
      | cons a r =>
        have : (x.all fun c => decide (c ∈ y)) = false := by
          rw [List.all_eq_false]
          have ha : a ∈ x.filter (fun c => !decide (c ∈ y)) := by rw [hf]; exact List.mem_cons_self ..
          obtain ⟨h1, h2⟩ := List.mem_filter.mp ha
          exact ⟨a, h1, by simpa using h2⟩
        rw [this]; rfl
    rw [e]
    exact q _ ((same_new hD _).trans (same_new hp _))
def basics : List Str := ["plus", "minus", "times", "less", "same", "do", "dip", "if", "while", "repeat", "join", "wrap", "put", "part", "each"]
theorem basics_split : Txt.split "plus minus times less same do dip if while repeat join wrap put part each" " " = basics := by decide +kernel
def spBasics : Sp := fun vs H Q _ => vs = [] ∧ ∀ (p : Addr) H', Same H H' → H p = none → H' p = some (.lst (basics.map V.str)) → Q (.ref p) H'
theorem scBasics : FnScope [] [] (defScope sBasics) := ⟨rfl, rfl, rfl, by decide +kernel, rfl, by decide +kernel, by decide +kernel⟩
theorem ok_basics {f : Addr} {fd : FuncData} (F : Fun K "_law_basics" "_law_basics" sBasics f fd) : FnOk P w K mg base CX0 1 f fd [] spBasics := by
  refine F.ok scBasics (fun vs H Q E h => ?_) (fun cdv A outer s H vs Q E hr h => ?_)
  · obtain ⟨rfl, _⟩ := h
    rfl
  obtain ⟨rfl, q⟩ := h
  refine ⟨_, pss_one (ps_ret (pe_split pe_str pe_str)), ?_⟩
  refine ⟨⟨_, rfl⟩, _, _, rfl, rfl, (by decide +kernel), (by decide +kernel), fun b nb => ?_⟩
  rw [basics_split]
  exact q b _ (same_new nb _) nb upd_same
theorem in_basics (z : Str) : inV (.str z) (basics.map V.str) = (table.lookup z).isSome := by
  have e : ∀ T : List (Str × List V), inV (.str z) ((T.map (·.1)).map V.str) = (T.lookup z).isSome := by
    intro T
    induction T with
    | nil => rfl
    | cons a r ih =>
      obtain ⟨k, xs⟩ := a
      rw [List.lookup_cons]
      show ((k == z) || inV (.str z) ((r.map (·.1)).map V.str)) = _
      by_cases h : z = k
      · subst h; rw [beq_self_eq_true]; rfl
      · rw [show (z == k) = false from beq_eq_false_iff_ne.mpr h, show (k == z) = false from beq_eq_false_iff_ne.mpr (Ne.symm h), Bool.false_or, ih]
  have e2 : basics = table.map (·.1) := by decide +kernel
  rw [e2]; exact e table
theorem flat_strs (l : List Str) : (l.map V.str).all flatV = true := by
  rw [List.all_eq_true]; intro v hv; obtain ⟨z, _, rfl⟩ := List.mem_map.mp hv; rfl
def spL (f : List Nat → Bool) : Sp := fun vs H Q _ => ∃ x : List Nat, vs = [.str (S x)] ∧ x.length ≤ 1000 ∧ Ch x ∧ ∀ H', Same H H' → Q (.bl (f x)) H'
theorem all_map (x : List Nat) (y : List Nat) : (x.map fun c => decide (c ∈ y)).all id = x.all fun c => decide (c ∈ y) := by rw [List.all_map]; rfl
theorem scLName : FnScope ["_law_text"] ["_law_text"] (defScope sLName) := ⟨rfl, rfl, rfl, by decide +kernel, rfl, by decide +kernel, by decide +kernel⟩
theorem ok_lname {f gb ga : Addr} {fd gbd gad : FuncData} (F : Fun K "_law_is_name" "_law_is_name" sLName f fd) (mlen : mg "len" = none) (B : FnOk P w K mg base CX0 1 gb gbd [] spBasics) (bB : L2.Binds K gbd [] []) (kB : keepIn K (.ref gb) = true) (mB : mg "_law_basics" = some (.ref gb))
    (G : FnOk P w K mg base CX0 1 ga gad ["_law_text", "_law_signs"] spAllIn) (bG : L2.Binds K gad ["_law_text", "_law_signs"] []) (kG : keepIn K (.ref ga) = true) (mG : mg "_law_all_in" = some (.ref ga)) : FnOk P w K mg base CX0 2 f fd ["_law_text"] (spL nameB) := by
  refine F.ok scLName (fun vs H Q E h => ?_) (fun cdv A outer s H vs Q E hr h => ?_)
  · obtain ⟨x, rfl, _⟩ := h
    rfl
  obtain ⟨x, rfl, hl, hx, q⟩ := h
  refine ⟨_, pss_cons (ps_if (PW.pt (pw_or (pt_cmpR op_lt (pe_callB call_len_str (by rfl) mlen PySem.boot_len (pa_cons (pv 0) pa_nil)) pe_int (nomark _)) (pw_or (pt_cmpR op_gt (pe_callB call_len_str (by rfl) mlen PySem.boot_len (pa_cons (pv 0) pa_nil)) pe_int (nomark _))
      (pw_or1 (pt_cmpR op_in_seq (pv 0) (pe_call0 B hr rfl mB kB bB .nil pass0) rfl))))) (pss_one (ps_ret pe_bl)) pss_nil)
    (pss_one (ps_ret (pe_call G hr rfl mG kG bG .nil pass0 (pa_cons (pv 0) (pa_cons pe_str pa_nil))))), ?_⟩
  have e3 : ("abcdefghijklmnopqrstuvwxyz" : Str) = S az := by decide +kernel
  rw [e3]
  unfold nameB at q
  rw [all_map] at q
  refine ⟨_, rfl, _, rfl, hsz hl, _, _, rfl, rfl, _, rfl, ?_⟩
  rw [S_len]
  refine ite2 (fun c => ?_) (fun c => ?_)
  · have c' : (x.length : Int) < 1 := of_decide_eq_true c
    rw [decide_eq_false (show ¬ 1 ≤ x.length by omega), Bool.false_and, Bool.false_and] at q
    exact iteT (q H (Same.refl H))
  have c' : ¬ (x.length : Int) < 1 := fun z => c (decide_eq_true z)
  refine ⟨_, rfl, _, rfl, hsz hl, _, _, rfl, rfl, _, rfl, ?_⟩
  rw [S_len]
  refine ite2 (fun d => ?_) (fun d => ?_)
  · have d' : (8 : Int) < (x.length : Int) := of_decide_eq_true d
    rw [decide_eq_false (show ¬ x.length ≤ 8 by omega), Bool.and_false, Bool.false_and] at q
    exact iteT (q H (Same.refl H))
  have d' : ¬ (8 : Int) < (x.length : Int) := fun z => d (decide_eq_true z)
  rw [decide_eq_true (show 1 ≤ x.length by omega), decide_eq_true (show x.length ≤ 8 by omega), Bool.true_and, Bool.true_and] at q
  refine ⟨_, rfl, rfl, fun p H1 s1 np hp => ?_⟩
  refine ⟨p, _, rfl, .inl (SqL.of hp), rfl, flat_strs _, _, rfl, ?_⟩
  show if inV (.str (S x)) (basics.map V.str) = true then _ else _
  rw [in_basics]
  cases ht : (table.lookup (S x)).isSome with
  | true =>
    rw [ht] at q
    have : ((x.all fun c => decide (c ∈ az)) && !true) = false := by rw [Bool.not_true, Bool.and_false]
    rw [this] at q
    exact iteT (q H1 s1)
  | false =>
    rw [ht, Bool.not_false, Bool.and_true] at q
    refine iteF ?_
    exact ⟨_, rfl, x, az, rfl, hl, hx, fun H2 s2 => q H2 (s1.trans s2)⟩
theorem scLShuf : FnScope ["_law_text", "_law_at"] ["_law_text"] (defScope sLShuf) := ⟨rfl, rfl, rfl, by decide +kernel, rfl, by decide +kernel, by decide +kernel⟩
theorem ok_lshuf {f ga : Addr} {fd gad : FuncData} (F : Fun K "_law_is_shuffle" "_law_is_shuffle" sLShuf f fd) (mlen : mg "len" = none)
    (G : FnOk P w K mg base CX0 1 ga gad ["_law_text", "_law_signs"] spAllIn) (bG : L2.Binds K gad ["_law_text", "_law_signs"] []) (kG : keepIn K (.ref ga) = true) (mG : mg "_law_all_in" = some (.ref ga)) : FnOk P w K mg base CX0 2 f fd ["_law_text"] (spL shufB) := by
  refine F.ok scLShuf (fun vs H Q E h => ?_) (fun cdv A outer s H vs Q E hr h => ?_)
  · obtain ⟨x, rfl, _⟩ := h
    rfl
  obtain ⟨x, rfl, hl, hx, q⟩ := h
  refine ⟨_, pss_cons (ps_if (pt_cmpR op_ne (pe_m1 PySem.F.slot_str_count PySem.F.type_str_count mt_count (pv 0) pe_str) pe_int (nomark _)) (pss_one (ps_ret pe_bl)) pss_nil)
    (pss_cons (ps_set (i := 1) scLShuf.nd rfl (.inl rfl) (pe_bmS PySem.F.plainAttrs_str PySem.F.slot_str_index PySem.F.type_str_index (mt_indexX rfl takes0) (pv 0) (pa_cons pe_str pa_nil)))
    (pss_cons (ps_if (PW.pt (pw_or (pt_cmpR op_gt (pv 1) pe_int (nomark _)) (pw_or1 (pt_cmpR op_gt (pe_op op_sub (pe_op op_sub (pe_callB call_len_str (by rfl) mlen PySem.boot_len (pa_cons (pv 0) pa_nil)) (pv 1)) pe_int) pe_int (nomark _))))) (pss_one (ps_ret pe_bl)) pss_nil)
    (pss_one (ps_ret (pe_and (pe_cmpR op_eq (pe_slice sl_str (pv 0) po_none (po_some (pv 1))) (pe_slice sl_str pe_str po_none (po_some (pv 1))) (nomark _))
      (pe_one (pe_call G hr rfl mG kG bG .nil pass0 (pa_cons (pe_slice sl_str (pv 0) (po_some (pe_op op_add (pv 1) pe_int)) po_none) (pa_cons (pe_slice sl_str (pv 0) po_none (po_some (pv 1))) pa_nil))))))))), ?_⟩
  have e1 : ("-" : Str) = S [45] := by decide +kernel
  have e3 : ("abcdefgh" : Str) = S abc8 := by decide +kernel
  rw [e1, e3]
  refine ⟨_, rfl, ⟨_, rfl⟩, _, _, rfl, rfl, rfl, _, rfl, ?_⟩
  have ec : Txt.count (S x) (S [45]) = (x.count 45 : Nat) := (PyProof.Rows.count_cnt (S x) 45).trans (cnt_len x)
  rw [ec]
  cases hpar : TL.par [45] [] x with
  | none =>
    have h0 : x.count 45 = 0 := List.count_eq_zero.mpr (par_no x [] hpar)
    have hb : shufB x = false := by unfold shufB; rw [hpar]
    rw [h0]
    rw [hb] at q
    refine iteT (q H (Same.refl H))
  | some tl =>
  obtain ⟨t, l⟩ := tl
  have hb : shufB x = (decide (abc8.take t.length = t) && (decide (l.length ≤ 12) && (l.map fun c => decide (c ∈ t)).all id)) := by unfold shufB; rw [hpar]
  rw [all_map] at hb
  obtain ⟨p, ep, ex, hp⟩ := par_spec x [] t l hpar
  rw [List.nil_append] at ep
  subst ep
  have hcount : x.count 45 = 1 + l.count 45 := by
    rw [ex, List.count_append, List.count_eq_zero.mpr hp, List.count_cons_self]; omega
  by_cases hc : l.count 45 = 0
  · have hl45 : 45 ∉ l := List.count_eq_zero.mp hc
    rw [hcount, hc]
    refine iteF ?_
    have hi := index_dash ex hp hl45
    refine ⟨_, rfl, rfl, _, _, rfl, rfl, fun k hk => ?_, fun hk => by rw [hi] at hk; cases hk⟩
    rw [hi] at hk
    cases hk
    have lx : x.length = t.length + 1 + l.length := by rw [ex, List.length_append, List.length_cons]; omega
    have tx : x.take t.length = t := by rw [ex, List.take_left']; rfl
    have dx : x.drop (t.length + 1) = l := by rw [ex, List.drop_append]; simp
    refine ⟨_, rfl, _, _, rfl, rfl, _, rfl, ?_⟩
    refine ite2 (fun c => ?_) (fun c => ?_)
    · have c' : (8 : Int) < (t.length : Int) := of_decide_eq_true c
      have hne : ¬ abc8.take t.length = t := fun z => by
        have := congrArg List.length z
        rw [List.length_take] at this
        have h8 : abc8.length = 8 := rfl
        omega
      rw [decide_eq_false hne, Bool.false_and] at hb
      rw [hb] at q
      exact iteT (q H (Same.refl H))
    have c' : ¬ (8 : Int) < (t.length : Int) := fun z => c (decide_eq_true z)
    refine ⟨_, rfl, _, rfl, hsz hl, _, rfl, _, _, rfl, rfl, _, _, rfl, rfl, _, _, rfl, rfl, _, rfl, ?_⟩
    rw [S_len]
    refine ite2 (fun d => ?_) (fun d => ?_)
    · have d' : (12 : Int) < (x.length : Int) - (t.length : Int) - 1 := of_decide_eq_true d
      rw [decide_eq_false (show ¬ l.length ≤ 12 by omega), Bool.false_and, Bool.and_false] at hb
      rw [hb] at q
      exact q H (Same.refl H)
    have d' : ¬ (12 : Int) < (x.length : Int) - (t.length : Int) - 1 := fun z => d (decide_eq_true z)
    rw [decide_eq_true (show l.length ≤ 12 by omega), Bool.true_and] at hb
    refine ⟨_, rfl, _, rfl, _, rfl, _, rfl, hsz hl, _, rfl, _, rfl, _, rfl, hsz (show abc8.length ≤ 1000 by decide), ?_⟩
    rw [cutS_to (Int.natCast_nonneg _), cutS_to (Int.natCast_nonneg _), Int.toNat_natCast, tx]
    refine ⟨rfl, _, rfl, ?_⟩
    by_cases ht : abc8.take t.length = t
    · rw [decide_eq_true ht, Bool.true_and] at hb
      rw [decide_eq_true (show V.str (S t) = V.str (S (abc8.take t.length)) by rw [ht])]
      refine iteT ?_
      refine ⟨_, rfl, _, rfl, _, _, rfl, rfl, _, rfl, _, rfl, hsz hl, _, rfl, _, rfl, _, rfl, _, rfl, hsz hl, ?_⟩
      rw [cutS_to (Int.natCast_nonneg _), cutS_from (by omega), Int.toNat_natCast, tx, show ((t.length : Int) + 1).toNat = t.length + 1 by omega, dx]
      rw [hb] at q
      exact ⟨l, t, rfl, by omega, hx.sub (fun c hc => by rw [ex]; exact List.mem_append.mpr (.inr (List.mem_cons_of_mem _ hc))), q⟩
    · rw [decide_eq_false ht, Bool.false_and] at hb
      rw [decide_eq_false (show ¬ V.str (S t) = V.str (S (abc8.take t.length)) from fun z => ht (S_inj (V.str.inj z)).symm)]
      rw [hb] at q
      exact iteF (q H (Same.refl H))
  · have hne : ¬ ((x.count 45 : Nat) : Int) = 1 := by rw [hcount]; omega
    have : (!decide (V.int ((x.count 45 : Nat) : Int) = V.int 1)) = true := by
      rw [decide_eq_false (fun z => hne (V.int.inj z))]; rfl
    rw [this]
    have h45 : 45 ∈ l := List.count_pos_iff.mp (Nat.pos_of_ne_zero hc)
    have hb2 : shufB x = false := by
      rw [hb]
      by_cases ht : abc8.take t.length = t
      · have hno : (l.all fun c => decide (c ∈ t)) = false := by
          rw [List.all_eq_false]
          exact ⟨45, h45, by simpa using hp⟩
        rw [hno, Bool.and_false, Bool.and_false]
      · rw [decide_eq_false ht, Bool.false_and]
    rw [hb2] at q
    exact iteT (q H (Same.refl H))
end
end K01
namespace K01
open PySem PySem.W L2 SX Cm
section
variable {P : Program} {w : World} {K : PySem.W.Frag} {mg : Str → Option Value} {base : Heap}
theorem Deck.kp {H : Hp} {d c p : Addr} {o : HO} {H' : Hp} (D : Deck H d c) (k : Kp [d, c] (upd H p o) H') (n : H p = none) : H' p = some o := k p o (D.nd n) upd_same
def spShuffled : Sp := fun vs H Q _ => ∃ (d c : Addr), vs = [.ref d] ∧ Deck H d c ∧ ∀ (z : Str) (H' : Hp), Tx z 100 → Kp [d, c] H H' → Deck H' d c → Q (.str z) H'
abbrev NS : List Str := ["_law_deck_here", "_law_taken", "_law_many", "_law_k", "_law_left", "_law_way"]
theorem scShuffled : FnScope NS ["_law_deck_here"] (defScope sShuffled) := ⟨rfl, rfl, rfl, by decide +kernel, rfl, by decide +kernel, by decide +kernel⟩
theorem ok_shuffled {f g : Addr} {fd gd : FuncData} (F : Fun K "_law_shuffled" "_law_shuffled" sShuffled f fd) (G : FnOk P w K mg base CX0 2 g gd ["_law_deck_here", "_law_most"] spTake) (bG : L2.Binds K gd ["_law_deck_here", "_law_most"] []) (kG : keepIn K (.ref g) = true) (mG : mg "_law_take" = some (.ref g))
    (mint : mg "int" = none) (mlen : mg "len" = none) (mrange : mg "range" = none) : FnOk P w K mg base CX0 3 f fd ["_law_deck_here"] spShuffled := by
  refine F.ok scShuffled (fun vs H Q E h => ?_) (fun cdv A outer s H vs Q E hr h => ?_)
  · obtain ⟨d, c, rfl, _⟩ := h
    rfl
  obtain ⟨d, c, rfl, D0, q⟩ := h
  refine ⟨_, pss_cons (ps_set (i := 1) scShuffled.nd rfl (.inr rfl) (pe_slice sl_str pe_str po_none (po_some (pe_call G hr rfl mG kG bG .nil pass0 (pa_cons (pv 0) (pa_cons pe_int pa_nil))))))
    (pss_cons (ps_set (i := 2) scShuffled.nd rfl (.inl rfl) (pe_op op_mul (pe_ix ix_list (pe_lst (pa_cons (pe_call G hr rfl mG kG bG .nil pass0 (pa_cons (pv 0) (pa_cons pe_int pa_nil))) (pa_cons (pe_op op_add pe_int (pe_call G hr rfl mG kG bG .nil pass0 (pa_cons (pv 0) (pa_cons pe_int pa_nil)))) pa_nil)))
        (pe_callTy call_int1 (by rfl) mint (by decide +kernel) (pa_cons (pe_cmpR op_eq (pe_call G hr rfl mG kG bG .nil pass0 (pa_cons (pv 0) (pa_cons pe_int pa_nil))) pe_int (nomark _)) pa_nil)) (fun _ _ => rfl))
      (pe_callTy call_int1 (by rfl) mint (by decide +kernel) (pa_cons (pe_cmpR op_ne (pv 1) pe_str (nomark _)) pa_nil))))
    (pss_cons (ps_set (i := 4) scShuffled.nd rfl (.inl rfl) (pe_join pe_str (pe_lc (own := [("_law_k", 3)]) (g := gName 3) (tt := tYes) rfl scShuffled.nd (pi_range1 rfl mrange (pa_cons (pv 2) pa_nil)) (blkOk_by (own := [("_law_k", 3)]) (N := NS) (sc := defScope sShuffled) (by decide +kernel))
        (fun _ _ _ _ _ => pg_name (i := 3) scShuffled.nd rfl (Or.inl rfl)) (fun _ _ _ _ _ => pts_nil) (fun _ _ _ _ _ => pe_ix ix_str (pv 1) (pe_call G hr rfl mG kG bG .nil pass0 (pa_cons (pv 0) (pa_cons (pe_callB call_len_str (by rfl) mlen PySem.boot_len (pa_cons (pv 1) pa_nil)) pa_nil))) (fun _ _ => rfl)))))
    (pss_cons (ps_set (i := 5) scShuffled.nd rfl (.inl rfl) (pe_call G hr rfl mG kG bG .nil pass0 (pa_cons (pv 0) (pa_cons pe_int pa_nil))))
    (pss_cons (ps_if (pt_cmpR op_eq (pv 5) pe_int (nomark _)) (pss_one (ps_ret (pe_op op_add_str (pv 1) (pv 4)))) pss_nil)
    (pss_cons (ps_if (pt_cmpR op_eq (pv 5) pe_int (nomark _)) (pss_one (ps_ret (pe_op op_add_str (pe_op op_add_str (pv 1) pe_str) (pv 4)))) pss_nil)
    (pss_cons (ps_if (pt_cmpR op_eq (pv 5) pe_int (nomark _)) (pss_one (ps_ret (pe_op op_add_str (pe_op op_add_str (pe_slice sl_str (pv 1) (po_some pe_int) po_none) pe_str) (pv 4)))) pss_nil)
    (pss_cons (ps_if (pt_cmpR op_eq (pv 5) pe_int (nomark _)) (pss_one (ps_ret (pe_op op_add_str (pe_op op_add_str (pe_op op_add_str (pv 1) (pe_slice sl_str (pv 1) (po_some (pe_un un_neg pe_int)) po_none)) pe_str) (pv 4)))) pss_nil)
    (pss_cons (ps_if (pt_cmpR op_eq (pv 5) pe_int (nomark _)) (pss_one (ps_ret (pe_op op_add_str (pe_op op_add_str (pe_op op_add_str (pv 1) pe_str) (pv 4)) (pe_ix ix_str pe_str (pe_call G hr rfl mG kG bG .nil pass0 (pa_cons (pv 0) (pa_cons pe_int pa_nil))) (fun _ _ => rfl))))) pss_nil)
    (pss_one (ps_ret (pe_op op_add_str (pe_op op_add_str (pv 1) pe_str) (pv 4)))))))))))), ?_⟩
  refine ⟨_, rfl, d, c, 10, rfl, D0, by decide, by decide, fun r1 H1 _ _ k1 D1 => ?_⟩
  have x9 : Tx "abcdefghi" 9 := Tx.lit (by decide +kernel)
  refine ⟨r1, rfl, _, rfl, x9.sz, ?_⟩
  have tk : Tx (cutS "abcdefghi" none (some r1)) 9 := x9.cut none (some r1)
  generalize cutS "abcdefghi" none (some r1) = tz at tk
  -- many
  refine ⟨_, rfl, d, c, 5, rfl, D1, by decide, by decide, fun a2 H2 _ b2 k2 D2 => ?_⟩
  refine ⟨_, rfl, d, c, 5, rfl, D2, by decide, by decide, fun a3 H3 a3' b3 k3 D3 => ⟨_, _, rfl, rfl, (by show 2 ≤ sizeLine; decide), fun p np => ?_⟩⟩
  refine ⟨_, rfl, d, c, 3, rfl, D3.new np, by decide, by decide, fun a4 H4 _ _ k4 D4 => ?_⟩
  refine ⟨rfl, .inr ⟨_, rfl, ?_⟩⟩
  have hp4 : H4 p = some (.lst [.int a2, .int (9 + a3)]) := D3.kp k4 np
  have kk4 : Kp [d, c] H H4 := ((k1.trans k2).trans k3).trans ((Kp.refl _ _).new np |>.trans k4)
  obtain ⟨mn, hm0, hm1, hm2⟩ : ∃ mn : Int, mn ≤ 13 ∧ 0 ≤ mn ∧ atI [V.int a2, .int (9 + a3)] (if decide (V.int a4 = V.int 0) = true then (1 : Int) else 0) = some (.int mn) := by
    by_cases h0 : decide (V.int a4 = V.int 0) = true
    · rw [if_pos h0]; exact ⟨9 + a3, by omega, by omega, atI_nat (j := 1) rfl⟩
    · rw [if_neg h0]; exact ⟨a2, by omega, by omega, atI_nat (j := 0) rfl⟩
  refine ⟨p, _, _, _, rfl, rfl, SqL.of hp4, hm2, _, rfl, rfl, .inr ⟨_, rfl, _, _, rfl, rfl, .inl ⟨by omega, by omega⟩, ?_⟩⟩
  obtain ⟨n, hn, hn1, hn2⟩ : ∃ n : Nat, mn * (if (!decide (V.str tz = V.str "")) = true then (1 : Int) else 0) = n ∧ n ≤ 13 ∧ (0 < n → tz ≠ "") := by
    by_cases h0 : tz = ""
    · refine ⟨0, ?_, by decide, fun z => absurd z (by decide)⟩
      rw [decide_eq_true (show V.str tz = V.str "" by rw [h0])]
      show mn * 0 = 0
      rw [Int.mul_zero]
    · refine ⟨mn.toNat, ?_, by omega, fun _ => h0⟩
      rw [decide_eq_false (show ¬ V.str tz = V.str "" from fun z => h0 (V.str.inj z))]
      show mn * 1 = _
      rw [Int.mul_one]; omega
  -- left
  refine ⟨⟨_, rfl⟩, _, rfl, _, rfl, by rw [hn]; omega, by rw [hn]; omega, fun L nL => lc_range (lo := 0) (n := (mn * (if (!decide (V.str tz = V.str "")) = true then (1 : Int) else 0)).toNat) (fun i H' => ∃ ys : List Str, H' L = some (.lst (ys.map V.str)) ∧ ys.length = i ∧ (∀ y ∈ ys, Tx y 1) ∧ Kp [d, c] H H' ∧ Deck H' d c)
    ⟨[], upd_same, rfl, (fun y hy => nomatch hy), kk4.new nL, D4.new nL⟩ ?_ ?_⟩
  · rintro i H5 hi ⟨ys, e1, e2, e3, k5, D5⟩
    have hi' : i < n := by rw [hn] at hi; omega
    have tz0 : tz ≠ "" := hn2 (by omega)
    have lz : 0 < tz.length := by
      rcases Nat.eq_zero_or_pos tz.length with h | h
      · exact absurd (TL.ext_tl (show TL.tl tz = TL.tl ("" : Str) from by
          have : (TL.tl tz).length = 0 := by rw [← TL.len_tl]; exact h
          rw [List.eq_nil_of_length_eq_zero this]; decide +kernel)) tz0
      · exact h
    refine ⟨rfl, _, rfl, _, rfl, _, rfl, _, rfl, tk.sz, d, c, tz.length, rfl, D5, by omega, by have := tk.len; omega, fun u H6 u0 u1 k6 D6 => ?_⟩
    obtain ⟨u, rfl⟩ := Int.eq_ofNat_of_zero_le u0
    have hu : u < tz.cps.toList.length := by rw [← TL.len_tl]; omega
    have ha : atI tz.cps.toList (u : Int) = some tz.cps.toList[u] := atI_nat (List.getElem?_eq_getElem hu)
    refine ⟨_, _, _, rfl, rfl, tk.sz, ha, ?_⟩
    have nLd : L ∉ [d, c] := D4.nd nL
    have hL : H6 L = some (.lst (ys.map V.str)) := k6 L _ nLd e1
    refine ⟨_, hL, by rw [List.length_map]; exact small1000 (by omega), ys ++ [⟨#[tz.cps.toList[u]]⟩], ?_, by rw [List.length_append, e2]; rfl, ?_, (k5.trans k6).put (kk4.free nL nLd), D6.put nLd⟩
    · rw [upd_same, List.map_append]; rfl
    · intro y hy
      rcases List.mem_append.mp hy with h | h
      · exact e3 y h
      · rw [List.mem_singleton.mp h]; exact tk.at_ ha
  · rintro H5 ⟨ys, e1, e2, e3, k5, D5⟩
    have ly : ys.length ≤ 13 := by rw [hn] at e2; omega
    refine ⟨_, L, ys, rfl, rfl, .inl (SqL.of e1), sum_one e3 (by omega), ?_⟩
    have tl := (Tx.join e3).mono ly
    generalize Txt.join ("" : Str) ys = lz at tl
    refine ⟨_, rfl, d, c, 8, rfl, D5, by decide, by decide, fun way H6 _ _ k6 D6 => ?_⟩
    have k7 := k5.trans k6
    have t1 : Tx "--" 2 := Tx.lit (by decide +kernel)
    have t2 : Tx "-" 1 := Tx.lit (by decide +kernel)
    have t3 : Tx "abcdefghijA -" 13 := Tx.lit (by decide +kernel)
    refine ⟨_, rfl, rfl, _, rfl, ite2 (fun _ => ?_) (fun _ => ?_)⟩
    · exact ⟨_, rfl, _, rfl, _, _, rfl, rfl, tk.sz2 tl, q _ _ ((tk.add tl).mono (by decide)) k7 D6⟩
    refine ⟨_, rfl, rfl, _, rfl, ite2 (fun _ => ?_) (fun _ => ?_)⟩
    · exact ⟨_, rfl, _, _, rfl, rfl, tk.sz2 t1, _, rfl, _, _, rfl, rfl, (tk.add t1).sz2 tl, q _ _ (((tk.add t1).add tl).mono (by decide)) k7 D6⟩
    refine ⟨_, rfl, rfl, _, rfl, ite2 (fun _ => ?_) (fun _ => ?_)⟩
    · have tc := tk.cut (some 1) none
      exact ⟨_, rfl, _, rfl, _, rfl, tk.sz, _, _, rfl, rfl, tc.sz2 t2, _, rfl, _, _, rfl, rfl, (tc.add t2).sz2 tl, q _ _ (((tc.add t2).add tl).mono (by decide)) k7 D6⟩
    refine ⟨_, rfl, rfl, _, rfl, ite2 (fun _ => ?_) (fun _ => ?_)⟩
    · have tc := tk.cut (some (-1)) none
      exact ⟨_, rfl, _, rfl, 1, rfl, _, rfl, _, rfl, tk.sz, _, _, rfl, rfl, tk.sz2 tc, _, _, rfl, rfl, (tk.add tc).sz2 t2, _, rfl, _, _, rfl, rfl, ((tk.add tc).add t2).sz2 tl, q _ _ ((((tk.add tc).add t2).add tl).mono (by decide)) k7 D6⟩
    refine ⟨_, rfl, rfl, _, rfl, ite2 (fun _ => ?_) (fun _ => ?_)⟩
    · refine ⟨_, rfl, _, _, rfl, rfl, tk.sz2 t2, _, rfl, _, _, rfl, rfl, (tk.add t2).sz2 tl, _, rfl, d, c, 13, rfl, D6, by decide, by decide, fun u H7 u0 u1 k8 D7 => ?_⟩
      obtain ⟨u, rfl⟩ := Int.eq_ofNat_of_zero_le u0
      have l13 : (TL.tl ("abcdefghijA -" : Str)).length = 13 := by decide +kernel
      have hu : u < (TL.tl ("abcdefghijA -" : Str)).length := by rw [l13]; omega
      have ha : atI (TL.tl ("abcdefghijA -" : Str)) (u : Int) = some (TL.tl ("abcdefghijA -" : Str))[u] := atI_nat (List.getElem?_eq_getElem hu)
      have ts := t3.at_ ha
      exact ⟨_, _, _, rfl, rfl, t3.sz, ha, _, _, rfl, rfl, ((tk.add t2).add tl).sz2 ts, q _ _ ((((tk.add t2).add tl).add ts).mono (by decide)) (k7.trans k8) D7⟩
    · exact ⟨_, rfl, _, _, rfl, rfl, tk.sz2 t2, _, rfl, _, _, rfl, rfl, (tk.add t2).sz2 tl, q _ _ (((tk.add t2).add tl).mono (by decide)) k7 D6⟩
end
end K01
namespace K01
open PySem PySem.W L2 SX Cm
section
variable {P : Program} {w : World} {K : PySem.W.Frag} {mg : Str → Option Value} {base : Heap}
/-- a text, or another thing, for the law -/
def Tv (H : Hp) (v : V) : Prop := (∃ z, v = .str z ∧ Tx z 200) ∨ Vl H v none
theorem basics_tx : ∀ z ∈ basics, litB z 6 = true := by decide +kernel
def spThing : Sp := fun vs H Q _ => ∃ (d c : Addr), vs = [.ref d] ∧ Deck H d c ∧ ∀ (v : V) (H' : Hp), Tv H' v → Kp [d, c] H H' → Deck H' d c → Q v H'
abbrev NT : List Str := ["_law_deck_here", "_law_way", "_law_word", "_law_some", "_law_letters", "_law_k", "_law_text", "_law_at"]
theorem scThing : FnScope NT ["_law_deck_here"] (defScope sThing) := ⟨rfl, rfl, rfl, by decide +kernel, rfl, by decide +kernel, by decide +kernel⟩
/-- one of a few values by a drawn number -/
theorem pick {α : Type} {xs : List α} {r : Int} {n : Nat} (h0 : 0 ≤ r) (h1 : r < n) (hl : xs.length = n) : ∃ x, x ∈ xs ∧ atI xs r = some x := by
  obtain ⟨r, rfl⟩ := Int.eq_ofNat_of_zero_le h0
  have hr : r < xs.length := by omega
  exact ⟨xs[r], List.getElem_mem hr, atI_nat (List.getElem?_eq_getElem hr)⟩
theorem ok_thing {f g gs gb : Addr} {fd gd gsd gbd : FuncData} (F : Fun K "_law_thing" "_law_thing" sThing f fd) (G : FnOk P w K mg base CX0 2 g gd ["_law_deck_here", "_law_most"] spTake) (bG : L2.Binds K gd ["_law_deck_here", "_law_most"] []) (kG : keepIn K (.ref g) = true) (mG : mg "_law_take" = some (.ref g))
    (Z : FnOk P w K mg base CX0 3 gs gsd ["_law_deck_here"] spShuffled) (bZ : L2.Binds K gsd ["_law_deck_here"] []) (kZ : keepIn K (.ref gs) = true) (mZ : mg "_law_shuffled" = some (.ref gs))
    (B : FnOk P w K mg base CX0 1 gb gbd [] spBasics) (bB : L2.Binds K gbd [] []) (kB : keepIn K (.ref gb) = true) (mB : mg "_law_basics" = some (.ref gb))
    (mlen : mg "len" = none) (mrange : mg "range" = none) : FnOk P w K mg base CX0 4 f fd ["_law_deck_here"] spThing := by
  refine F.ok scThing (fun vs H Q E h => ?_) (fun cdv A outer s H vs Q E hr h => ?_)
  · obtain ⟨d, c, rfl, _⟩ := h
    rfl
  obtain ⟨d, c, rfl, D0, q⟩ := h
  have hr2 := hr.mono (j := 2) (by decide)
  have hr1 := hr.mono (j := 1) (by decide)
  refine ⟨_, pss_cons (ps_set (i := 1) scThing.nd rfl (.inl rfl) (pe_call G hr2 rfl mG kG bG .nil pass0 (pa_cons (pv 0) (pa_cons pe_int pa_nil))))
    (pss_cons (ps_if (pt_cmpR op_eq (pv 1) pe_int (nomark _)) (pss_one (ps_ret (pe_ix ix_list (pe_lst (pa_cons pe_non (pa_cons pe_bl (pa_cons pe_int (pa_cons (pe_tup (pa_cons pe_str pa_nil)) (pa_cons (pe_lst (pa_cons pe_str pa_nil)) (pa_cons pe_dnewK (pa_cons (pe_tup pa_nil) (pa_cons pe_int (pa_cons (pe_tup (pa_cons pe_str pa_nil)) pa_nil))))))))))
        (pe_call G hr2 rfl mG kG bG .nil pass0 (pa_cons (pv 0) (pa_cons pe_int pa_nil))) (fun _ _ => rfl)))) pss_nil)
    (pss_cons (ps_if (pt_cmpR op_lt (pv 1) pe_int (nomark _)) (pss_one (ps_ret (pe_call Z hr rfl mZ kZ bZ .nil pass0 (pa_cons (pv 0) pa_nil)))) pss_nil)
    (pss_cons (ps_if (pt_cmpR op_lt (pv 1) pe_int (nomark _))
      (pss_cons (ps_set (i := 2) scThing.nd rfl (.inl rfl) (pe_ix ix_list (pe_call0 B hr1 rfl mB kB bB .nil pass0) (pe_call G hr2 rfl mG kG bG .nil pass0 (pa_cons (pv 0) (pa_cons pe_int pa_nil))) (fun _ _ => rfl)))
      (pss_cons (ps_set (i := 3) scThing.nd rfl (.inl rfl) (pe_lst (pa_cons (pv 2) (pa_cons (pe_op op_add_str (pv 2) pe_str) (pa_cons (pe_slice sl_str (pv 2) po_none (po_some (pe_un un_neg pe_int))) (pa_cons (pe_op op_add_str pe_str (pe_slice sl_str (pv 2) (po_some pe_int) po_none)) (pa_cons (pe_op op_add_str (pv 2) pe_str) (pa_cons (pe_op op_add_str pe_str (pv 2)) (pa_cons (pe_op op_add_str (pv 2) pe_str) pa_nil)))))))))
      (pss_one (ps_ret (pe_ix ix_list (pv 3) (pe_call G hr2 rfl mG kG bG .nil pass0 (pa_cons (pv 0) (pa_cons pe_int pa_nil))) (fun _ _ => rfl)))))) pss_nil)
    (pss_cons (ps_set (i := 4) scThing.nd rfl (.inr rfl) pe_str)
    (pss_cons (ps_set (i := 6) scThing.nd rfl (.inl rfl) (pe_join pe_str (pe_lc (own := [("_law_k", 5)]) (g := gName 5) (tt := tYes) rfl scThing.nd (pi_range1 rfl mrange (pa_cons (pe_call G hr2 rfl mG kG bG .nil pass0 (pa_cons (pv 0) (pa_cons pe_int pa_nil))) pa_nil)) (blkOk_by (own := [("_law_k", 5)]) (N := NT) (sc := defScope sThing) (by decide +kernel))
        (fun _ _ _ _ _ => pg_name (i := 5) scThing.nd rfl (Or.inl rfl)) (fun _ _ _ _ _ => pts_nil) (fun _ _ _ _ _ => pe_ix ix_str (pv 4) (pe_call G hr2 rfl mG kG bG .nil pass0 (pa_cons (pv 0) (pa_cons pe_int pa_nil))) (fun _ _ => rfl)))))
    (pss_cons (ps_if (PW.pt (pw_and (pt_cmpR op_eq (pv 1) pe_int (nomark _)) (pw_and1 (pt_cmpR op_ne (pv 6) pe_str (nomark _)))))
      (pss_cons (ps_set (i := 7) scThing.nd rfl (.inl rfl) (pe_call G hr2 rfl mG kG bG .nil pass0 (pa_cons (pv 0) (pa_cons (pe_callB call_len_str (by rfl) mlen PySem.boot_len (pa_cons (pv 6) pa_nil)) pa_nil))))
      (pss_cons (ps_set (i := 6) scThing.nd rfl (.inl rfl) (pe_op op_add_str (pe_op op_add_str (pe_slice sl_str (pv 6) po_none (po_some (pv 7))) (pe_ix ix_str pe_str (pe_call G hr2 rfl mG kG bG .nil pass0 (pa_cons (pv 0) (pa_cons pe_int pa_nil))) (fun _ _ => rfl))) (pe_slice sl_str (pv 6) (po_some (pe_op op_add (pv 7) pe_int)) po_none)))
      (pss_one (ps_ret (pe_op op_add_str (pe_ix ix_list (pe_lst (pa_cons pe_str (pa_cons (pe_ix ix_str pe_str (pe_call G hr2 rfl mG kG bG .nil pass0 (pa_cons (pv 0) (pa_cons pe_int pa_nil))) (fun _ _ => rfl)) pa_nil))) (pe_call G hr2 rfl mG kG bG .nil pass0 (pa_cons (pv 0) (pa_cons pe_int pa_nil))) (fun _ _ => rfl)) (pv 6)))))) pss_nil)
    (pss_one (ps_ret (pv 6))))))))), ?_⟩
  refine ⟨_, rfl, d, c, 8, rfl, D0, by decide, by decide, fun way H1 _ _ k1 D1 => ?_⟩
  refine ⟨_, rfl, rfl, _, rfl, ite2 (fun _ => ?_) (fun _ => ?_)⟩
  · -- the nine other things
    refine ⟨(by show 1 ≤ sizeLine; decide), fun t1 n1 => ⟨(by show 1 ≤ sizeLine; decide), fun l1 n2 => ?_⟩⟩
    intro e1 n3
    refine ⟨(by show 0 ≤ sizeLine; decide), fun t2 n4 => ⟨(by show 1 ≤ sizeLine; decide), fun t3 n5 => ⟨(by show 9 ≤ sizeLine; decide), fun L n6 => ?_⟩⟩⟩
    have D2 := ((((D1.new n1 (o := .tup [.str "plus"])).new n2 (o := .lst [.str "plus"])).new n3 (o := .dK [])).new n4 (o := .tup [])).new n5 (o := .tup [.str "push"])
    have k2 := ((((k1.new n1 (o := .tup [.str "plus"])).new n2 (o := .lst [.str "plus"])).new n3 (o := .dK [])).new n4 (o := .tup [])).new n5 (o := .tup [.str "push"])
    have h1 := kn (o' := .tup [.str "push"]) (kn (o' := .tup []) (kn (o' := .dK []) (kn (o' := .lst [.str "plus"]) (upd_same (H := H1) (a := t1) (o := .tup [.str "plus"])) n2) n3) n4) n5
    have h2 := kn (o' := .tup [.str "push"]) (kn (o' := .tup []) (kn (o' := .dK []) (upd_same (H := upd H1 t1 (.tup [.str "plus"])) (a := l1) (o := .lst [.str "plus"])) n3) n4) n5
    have h3 := kn (o' := .tup [.str "push"]) (kn (o' := .tup []) (upd_same (H := upd (upd H1 t1 (.tup [.str "plus"])) l1 (.lst [.str "plus"])) (a := e1) (o := .dK [])) n4) n5
    have h4 := kn (o' := .tup [.str "push"]) (upd_same (H := upd (upd (upd H1 t1 (.tup [.str "plus"])) l1 (.lst [.str "plus"])) e1 (.dK [])) (a := t2) (o := .tup [])) n5
    have h5 := upd_same (H := upd (upd (upd (upd H1 t1 (.tup [.str "plus"])) l1 (.lst [.str "plus"])) e1 (.dK [])) t2 (.tup [])) (a := t3) (o := .tup [.str "push"])
    generalize upd (upd (upd (upd (upd H1 t1 (.tup [.str "plus"])) l1 (.lst [.str "plus"])) e1 (.dK [])) t2 (.tup [])) t3 (.tup [.str "push"]) = H2 at D2 k2 h1 h2 h3 h4 h5 n6
    refine ⟨_, rfl, d, c, 9, rfl, D2.new n6, by decide, by decide, fun r H3 r0 r1 k3 D3 => ?_⟩
    obtain ⟨v, hv, ha⟩ := pick (xs := [V.non, .bl true, .int 7, .ref t1, .ref l1, .ref e1, .ref t2, .int 0, .ref t3]) (n := 9) r0 r1 rfl
    refine ⟨L, _, _, _, rfl, rfl, SqL.of (D2.kp k3 n6), ha, ?_⟩
    have up : ∀ {a : Addr} {o : HO}, H2 a = some o → a ∉ [d, c] → H3 a = some o := fun {a o} h m => k3 a o m (kn h n6)
    have nd : ∀ {a : Addr} {o : HO}, H2 a = some o → (∀ xs, o ≠ .lst xs) → a ∉ [d, c] := fun {a o} h m z => by
      rcases List.mem_cons.mp z with z | z
      · obtain ⟨_, _, e⟩ := D2.at_; rw [z, e] at h; cases h; exact m _ rfl
      · obtain ⟨_, e, _⟩ := D2.cells; rw [List.mem_singleton.mp z, e] at h; cases h; exact m _ rfl
    have kf := k2.trans ((Kp.refl _ _).new n6 |>.trans k3)
    refine q v H3 (.inr ?_) kf D3
    simp only [List.mem_cons, List.not_mem_nil, or_false] at hv
    rcases hv with rfl | rfl | rfl | rfl | rfl | rfl | rfl | rfl | rfl
    · exact .inl (.inl rfl)
    · exact .inl (.inr (.inl ⟨_, rfl⟩))
    · exact .inl (.inr (.inr (.inl ⟨_, rfl⟩)))
    · exact .inr ⟨t1, _, rfl, up h1 (nd h1 (fun _ z => by cases z)), .inr ⟨_, rfl⟩⟩
    · refine .inl (.inr (.inr (.inr (.inl ⟨l1, _, rfl, up h2 ?_⟩))))
      exact (D1.new n1 (o := .tup [.str "plus"])).nd n2
    · exact .inl (.inr (.inr (.inr (.inr ⟨e1, _, rfl, up h3 (nd h3 (fun _ z => by cases z))⟩))))
    · exact .inr ⟨t2, _, rfl, up h4 (nd h4 (fun _ z => by cases z)), .inl rfl⟩
    · exact .inl (.inr (.inr (.inl ⟨_, rfl⟩)))
    · exact .inr ⟨t3, _, rfl, up h5 (nd h5 (fun _ z => by cases z)), .inr ⟨_, rfl⟩⟩
  refine ⟨_, rfl, _, _, rfl, rfl, _, rfl, ite2 (fun _ => ?_) (fun _ => ?_)⟩
  · exact ⟨_, rfl, d, c, rfl, D1, fun z H2 tz k2 D2 => q _ H2 (.inl ⟨z, rfl, tz.mono (by decide)⟩) (k1.trans k2) D2⟩
  refine ⟨_, rfl, _, _, rfl, rfl, _, rfl, ite2 (fun _ => ?_) (fun _ => ?_)⟩
  · -- a basic word, as it is or bent
    refine ⟨rfl, fun p H2 s2 np hp => ?_⟩
    refine ⟨_, rfl, d, c, 15, rfl, D1.same s2, by decide, by decide, fun r H3 r0 r1 k3 D3 => ?_⟩
    obtain ⟨v, hv, ha⟩ := pick (xs := basics.map V.str) (n := 15) r0 r1 rfl
    have hp3 : H3 p = some (.lst (basics.map V.str)) := k3 p _ (D1.nd np) hp
    obtain ⟨z, hz, rfl⟩ := List.mem_map.mp hv
    have tz : Tx z 6 := Tx.lit (basics_tx z hz)
    refine ⟨p, _, _, _, rfl, rfl, SqL.of hp3, ha, ?_⟩
    have ts : Tx "s" 1 := Tx.lit (by decide +kernel)
    have tD : Tx "D" 1 := Tx.lit (by decide +kernel)
    have tb : Tx " " 1 := Tx.lit (by decide +kernel)
    have tm : Tx "-" 1 := Tx.lit (by decide +kernel)
    have t1 := tz.cut none (some (-1))
    have t2 := tz.cut (some 1) none
    refine ⟨_, rfl, _, rfl, _, _, rfl, rfl, tz.sz2 ts, _, rfl, 1, rfl, _, rfl, _, rfl, tz.sz, _, rfl, _, rfl, _, rfl, tz.sz, _, _, rfl, rfl, tD.sz2 t2, _, rfl, _, _, rfl, rfl, tz.sz2 tb, _, rfl, _, _, rfl, rfl, tb.sz2 tz, _, rfl, _, _, rfl, rfl, tz.sz2 tm, (by show 7 ≤ sizeLine; decide), fun L nL => ?_⟩
    refine ⟨_, rfl, _, rfl, d, c, 7, rfl, D3.new nL, by decide, by decide, fun r2 H4 r20 r21 k4 D4 => ?_⟩
    obtain ⟨v, hv, hb⟩ := pick (xs := [V.str z, .str (z ++ "s"), .str (cutS z none (some (-1))), .str ("D" ++ cutS z (some 1) none), .str (z ++ " "), .str (" " ++ z), .str (z ++ "-")]) (n := 7) r20 r21 rfl
    refine ⟨L, _, _, _, rfl, rfl, SqL.of (D3.kp k4 nL), hb, ?_⟩
    refine q v H4 (.inl ?_) (((k1.trans (.of s2)).trans k3).trans ((Kp.refl _ _).new nL |>.trans k4)) D4
    simp only [List.mem_cons, List.not_mem_nil, or_false] at hv
    rcases hv with rfl | rfl | rfl | rfl | rfl | rfl | rfl
    · exact ⟨_, rfl, tz.mono (by decide)⟩
    · exact ⟨_, rfl, (tz.add ts).mono (by decide)⟩
    · exact ⟨_, rfl, t1.mono (by decide)⟩
    · exact ⟨_, rfl, (tD.add t2).mono (by decide)⟩
    · exact ⟨_, rfl, (tz.add tb).mono (by decide)⟩
    · exact ⟨_, rfl, (tb.add tz).mono (by decide)⟩
    · exact ⟨_, rfl, (tz.add tm).mono (by decide)⟩
  have ta : Tx "abcdefghijklmnopqrstuvwxyz" 26 := Tx.lit (by decide +kernel)
  have la : (TL.tl ("abcdefghijklmnopqrstuvwxyz" : Str)).length = 26 := by decide +kernel
  refine ⟨⟨_, rfl⟩, _, rfl, d, c, 11, rfl, D1, by decide, by decide, fun r H2 r0 r1 k2 D2 => ?_⟩
  have kk := k1.trans k2
  refine ⟨_, rfl, by omega, by omega, fun L nL => lc_range (lo := 0) (n := r.toNat) (fun i H' => ∃ ys : List Str, H' L = some (.lst (ys.map V.str)) ∧ ys.length = i ∧ (∀ y ∈ ys, Tx y 1) ∧ Kp [d, c] H H' ∧ Deck H' d c)
    ⟨[], upd_same, rfl, (fun y hy => nomatch hy), kk.new nL, D2.new nL⟩ ?_ ?_⟩
  · rintro i H5 hi ⟨ys, e1, e2, e3, k5, D5⟩
    have nLd : L ∉ [d, c] := D2.nd nL
    refine ⟨rfl, _, rfl, _, rfl, d, c, 26, rfl, D5, by decide, by decide, fun u H6 u0 u1 k6 D6 => ?_⟩
    obtain ⟨x, _, ha⟩ := pick (xs := TL.tl ("abcdefghijklmnopqrstuvwxyz" : Str)) (n := 26) u0 u1 la
    refine ⟨_, _, _, rfl, rfl, ta.sz, ha, ?_⟩
    have hL : H6 L = some (.lst (ys.map V.str)) := k6 L _ nLd e1
    refine ⟨_, hL, by rw [List.length_map]; exact small1000 (by omega), ys ++ [⟨#[x]⟩], ?_, by rw [List.length_append, e2]; rfl, ?_, (k5.trans k6).put (kk.free nL nLd), D6.put nLd⟩
    · rw [upd_same, List.map_append]; rfl
    · intro y hy
      rcases List.mem_append.mp hy with h | h
      · exact e3 y h
      · rw [List.mem_singleton.mp h]; exact ta.at_ ha
  · rintro H5 ⟨ys, e1, e2, e3, k5, D5⟩
    have ly : ys.length ≤ 10 := by omega
    refine ⟨_, L, ys, rfl, rfl, .inl (SqL.of e1), sum_one e3 (by omega), ?_⟩
    have tl := (Tx.join e3).mono ly
    generalize Txt.join ("" : Str) ys = lz at tl
    have fin := q (.str lz) H5 (.inl ⟨lz, rfl, tl.mono (by decide)⟩) k5 D5
    refine ⟨_, rfl, rfl, _, rfl, ite2 (fun _ => ?_) (fun _ => ?_)⟩
    · refine ⟨_, rfl, rfl, _, rfl, ?_⟩
      by_cases h0 : lz = ""
      · rw [decide_eq_true (show V.str lz = V.str "" by rw [h0])]
        exact iteF ⟨_, rfl, fin⟩
      · rw [decide_eq_false (show ¬ V.str lz = V.str "" from fun z => h0 (V.str.inj z))]
        refine iteT ?_
        have lp : 0 < lz.length := by
          rcases Nat.eq_zero_or_pos lz.length with h | h
          · exact absurd (TL.ext_tl (show TL.tl lz = TL.tl ("" : Str) from by
              have : (TL.tl lz).length = 0 := by rw [← TL.len_tl]; exact h
              rw [List.eq_nil_of_length_eq_zero this]; decide +kernel)) h0
          · exact h
        refine ⟨_, rfl, _, rfl, _, rfl, tl.sz, d, c, lz.length, rfl, D5, by omega, by have := tl.len; omega, fun at_ H6 a0 a1 k6 D6 => ?_⟩
        have tc := tl.cut none (some at_)
        have t11 : Tx "AZ09 -_.[]\n" 11 := Tx.lit (by decide +kernel)
        have l11 : (TL.tl ("AZ09 -_.[]\n" : Str)).length = 11 := by decide +kernel
        refine ⟨_, rfl, _, rfl, _, rfl, _, rfl, tl.sz, _, rfl, d, c, 11, rfl, D6, by decide, by decide, fun u H7 u0 u1 k7 D7 => ?_⟩
        obtain ⟨x, _, ha⟩ := pick (xs := TL.tl ("AZ09 -_.[]\n" : Str)) (n := 11) u0 u1 l11
        have tx := t11.at_ ha
        have td := tl.cut (some (at_ + 1)) none
        refine ⟨_, _, _, rfl, rfl, t11.sz, ha, _, _, rfl, rfl, tc.sz2 tx, _, rfl, _, rfl, _, _, rfl, rfl, _, rfl, _, rfl, tl.sz, _, _, rfl, rfl, (tc.add tx).sz2 td, ?_⟩
        have tt := (tc.add tx).add td
        have t3 : Tx "ABZ" 3 := Tx.lit (by decide +kernel)
        have l3 : (TL.tl ("ABZ" : Str)).length = 3 := by decide +kernel
        have t0 : Tx "" 1 := Tx.lit (by decide +kernel)
        refine ⟨_, rfl, d, c, 3, rfl, D7, by decide, by decide, fun u8 H8 u80 u81 k8 D8 => ?_⟩
        obtain ⟨y, _, hy⟩ := pick (xs := TL.tl ("ABZ" : Str)) (n := 3) u80 u81 l3
        have ty := t3.at_ hy
        refine ⟨_, _, _, rfl, rfl, t3.sz, hy, (by show 2 ≤ sizeLine; decide), fun M nM => ?_⟩
        refine ⟨_, rfl, d, c, 2, rfl, D8.new nM, by decide, by decide, fun u9 H9 u90 u91 k9 D9 => ?_⟩
        obtain ⟨v, hv, hw⟩ := pick (xs := [V.str "", .str ⟨#[y]⟩]) (n := 2) u90 u91 rfl
        obtain ⟨zz, rfl, tzz⟩ : ∃ zz, v = .str zz ∧ Tx zz 1 := by
          simp only [List.mem_cons, List.not_mem_nil, or_false] at hv
          rcases hv with rfl | rfl
          · exact ⟨_, rfl, t0⟩
          · exact ⟨_, rfl, ty⟩
        refine ⟨M, _, _, _, rfl, rfl, SqL.of (D8.kp k9 nM), hw, _, rfl, _, _, rfl, rfl, tzz.sz2 tt, ?_⟩
        exact q _ H9 (.inl ⟨_, rfl, (tzz.add tt).mono (by decide)⟩) ((((k5.trans k6).trans k7).trans k8).trans ((Kp.refl _ _).new nM |>.trans k9)) D9
    · exact iteF ⟨_, rfl, fin⟩
end
end K01
namespace K01
open PySem PySem.W L2 SX Cm
section
variable {P : Program} {w : World} {K : PySem.W.Frag} {mg : Str → Option Value} {base : Heap}
theorem on_nil {f : List Nat → Bool} (h : f [] = false) (o : Option (List Nat)) : onT f o = f (o.getD []) := by
  cases o with
  | none => exact h.symm
  | some x => rfl
theorem Tv.vl {H : Hp} {v : V} (h : Tv H v) : ∃ o : Option (List Nat), Vl H v o ∧ (o.getD []).length ≤ 1000 ∧ Ch (o.getD []) ∧ (∀ x, o = some x → v = .str (S x)) := by
  rcases h with ⟨z, rfl, tz⟩ | h
  · have e : S z.cps.toList = z := S_tl z
    have hl : z.cps.toList.length ≤ 1000 := Nat.le_trans (Nat.le_of_eq (TL.len_tl z).symm) (Nat.le_trans tz.len (by decide))
    refine ⟨some z.cps.toList, ⟨by rw [e], hl⟩, hl, tz.ch, fun x hx => ?_⟩
    cases hx; rw [e]
  · exact ⟨none, h, by decide, (fun c hc => nomatch hc), (fun x hx => nomatch hx)⟩
def spLaw (K : PySem.W.Frag) : Sp := fun vs H Q _ => ∃ (a : Addr) (ns : List Int), vs = [.ref a] ∧ SqL K H a (ns.map V.int) ∧ ns.length ≤ 63 ∧ ∀ H', Q (.bl true) H'
abbrev NL : List Str := ["_law_script", "_law_deck_here", "_law_k", "_law_thing_here", "_law_text", "_law_due", "_law_found", "_law_right"]
theorem scLaw : FnScope NL ["_law_script"] (defScope sLaw) := ⟨rfl, rfl, rfl, by decide +kernel, rfl, by decide +kernel, by decide +kernel⟩
theorem ok_law {f gd gt gn gs gb hn hs hw : Addr} {fd dd td nd sd bd nd2 sd2 wd2 : FuncData} (F : Fun K "law" "law" sLaw f fd)
    (DE : FnOk P w K mg base CX0 1 gd dd ["_law_script"] (spDeck K)) (bDE : L2.Binds K dd ["_law_script"] []) (kDE : keepIn K (.ref gd) = true) (mDE : mg "_law_deck" = some (.ref gd))
    (TH : FnOk P w K mg base CX0 4 gt td ["_law_deck_here"] spThing) (bTH : L2.Binds K td ["_law_deck_here"] []) (kTH : keepIn K (.ref gt) = true) (mTH : mg "_law_thing" = some (.ref gt))
    (LN : FnOk P w K mg base CX0 2 gn nd ["_law_text"] (spL nameB)) (bLN : L2.Binds K nd ["_law_text"] []) (kLN : keepIn K (.ref gn) = true) (mLN : mg "_law_is_name" = some (.ref gn))
    (LS : FnOk P w K mg base CX0 2 gs sd ["_law_text"] (spL shufB)) (bLS : L2.Binds K sd ["_law_text"] []) (kLS : keepIn K (.ref gs) = true) (mLS : mg "_law_is_shuffle" = some (.ref gs))
    (BA : FnOk P w K mg base CX0 1 gb bd [] spBasics) (bBA : L2.Binds K bd [] []) (kBA : keepIn K (.ref gb) = true) (mBA : mg "_law_basics" = some (.ref gb))
    (IN : FnOk P w K mg base CX0 2 hn nd2 ["thing"] (spT nameB)) (bIN : L2.Binds K nd2 ["thing"] []) (kIN : keepIn K (.ref hn) = true) (mIN : mg "is_name" = some (.ref hn))
    (IS : FnOk P w K mg base CX0 1 hs sd2 ["thing"] (spT shufB)) (bIS : L2.Binds K sd2 ["thing"] []) (kIS : keepIn K (.ref hs) = true) (mIS : mg "is_shuffle" = some (.ref hs))
    (IW : FnOk P w K mg base CX0 7 hw wd2 ["thing"] (spT wordB)) (bIW : L2.Binds K wd2 ["thing"] []) (kIW : keepIn K (.ref hw) = true) (mIW : mg "is_word" = some (.ref hw))
    (mint : mg "int" = none) (mrange : mg "range" = none) (misi : mg "isinstance" = none) (mstr : mg "str" = none) (mbool : mg "bool" = none) (mzip : mg "zip" = none) : FnOk P w K mg base CX0 8 f fd ["_law_script"] (spLaw K) := by
  refine F.ok scLaw (fun vs H Q E h => ?_) (fun cdv A outer s H vs Q E hr h => ?_)
  · obtain ⟨a, ns, rfl, _⟩ := h
    rfl
  obtain ⟨a, ns, rfl, hS, h63, q⟩ := h
  have hr4 := hr.mono (j := 4) (by decide)
  have hr2 := hr.mono (j := 2) (by decide)
  have hr1 := hr.mono (j := 1) (by decide)
  refine ⟨_, pss_cons (ps_set (i := 1) scLaw.nd rfl (.inl rfl) (pe_call DE hr1 rfl mDE kDE bDE .nil pass0 (pa_cons (pv 0) pa_nil)))
    (pss_cons (ps_for PassesOwn.never rfl (pi_range1 rfl mrange (pa_cons pe_int pa_nil)) (pg_name (i := 2) scLaw.nd rfl (.inl rfl))
      (pss_cons (ps_set (i := 3) scLaw.nd rfl (.inl rfl) (pe_call TH hr4 rfl mTH kTH bTH .nil pass0 (pa_cons (pv 1) pa_nil)))
      (pss_cons (ps_set (i := 4) scLaw.nd rfl (.inl rfl) (pe_ix ix_list (pe_lst (pa_cons (pv 3) (pa_cons pe_str pa_nil))) (pe_callTy call_int1 (by rfl) mint (by decide +kernel) (pa_cons (pe_not (pe_callB call_isi (by rfl) misi PyProof.Rows.boot_isinstance (pa_cons (pv 3) (pa_cons (pe_bltn (v := .ty "str") (by rfl) mstr (by decide +kernel) rfl) pa_nil)))) pa_nil)) (fun _ _ => rfl)))
      (pss_cons (ps_set (i := 5) scLaw.nd rfl (.inl rfl) (pe_lst (pa_cons (pe_call LN hr2 rfl mLN kLN bLN .nil pass0 (pa_cons (pv 4) pa_nil)) (pa_cons (pe_call LS hr2 rfl mLS kLS bLS .nil pass0 (pa_cons (pv 4) pa_nil)) pa_nil))))
      (C8.pss_cut (ps_expr (pe_bm PySem.F.plainAttrs_list PySem.F.slot_list_append PySem.F.type_list_append mt_append (pv 5) (pa_cons (pe_or (pe_ix ix_list (pv 5) pe_int (fun _ _ => rfl)) (pe_or (pe_ix ix_list (pv 5) pe_int (fun _ _ => rfl)) (pe_one (pe_cmpR op_in_seq (pv 4) (pe_call0 BA hr1 rfl mBA kBA bBA .nil pass0) rfl)))) pa_nil)))
      (pss_one (ps_for PassesOwn.never rfl (pi_zip (by rfl) mzip (pa_cons (pe_lst (pa_cons (pe_call IN hr2 rfl mIN kIN bIN .nil pass0 (pa_cons (pv 3) pa_nil)) (pa_cons (pe_call IS hr1 rfl mIS kIS bIS .nil pass0 (pa_cons (pv 3) pa_nil)) (pa_cons (pe_call IW hr rfl mIW kIW bIW .nil pass0 (pa_cons (pv 3) pa_nil)) pa_nil)))) (pa_cons (pv 5) pa_nil)))
        (pg_tup rfl (pgs_cons (pg_name (i := 6) scLaw.nd rfl (.inl rfl)) (pgs_cons (pg_name (i := 7) scLaw.nd rfl (.inl rfl)) pgs_nil)))
        (pss_one (ps_if (PW.pt (pw_or (pt_not (pt_val (pe_callB call_isi (by rfl) misi PyProof.Rows.boot_isinstance (pa_cons (pv 6) (pa_cons (pe_bltn (v := .ty "bool") (by rfl) mbool (by decide +kernel) rfl) pa_nil))))) (pw_or1 (pt_cmpR op_ne (pv 6) (pv 7) (nomark _))))) (pss_one (ps_ret pe_bl)) pss_nil)))))))))
    (pss_one (ps_ret pe_bl))), ?_⟩
  refine ⟨_, rfl, a, ns, rfl, hS, h63, fun d c H1 s1 nd nc D1 => ?_⟩
  refine ⟨60, rfl, by decide, by decide, for_range (lo := 0) (n := 60) (fun i σ H' => ∃ (x2 x3 x4 x5 x6 x7 : Option V), σ = [some (.ref a), some (.ref d), x2, x3, x4, x5, x6, x7] ∧ Deck H' d c) ⟨_, _, _, _, _, _, rfl, D1⟩ ?_ (fun σ H' _ => q H')⟩
  rintro i σ H2 hi ⟨x2, x3, x4, x5, x6, x7, rfl, D2⟩
  refine ⟨_, rfl, d, c, rfl, D2, fun v H3 tv k3 D3 => ?_⟩
  obtain ⟨o, hv, hl, hc, hs⟩ := tv.vl
  refine ⟨_, rfl, (by show 2 ≤ sizeLine; decide), fun p np => ?_⟩
  have hv4 : Vl (upd H3 p (.lst [v, .str ""])) v o := hv.same (same_new np _)
  have D4 : Deck (upd H3 p (.lst [v, .str ""])) d c := D3.new np
  obtain ⟨ty, ht, hk⟩ := hv4.isStr (K := K)
  have hp4 : upd H3 p (.lst [v, .str ""]) p = some (.lst [v, .str ""]) := upd_same
  generalize upd H3 p (.lst [v, .str ""]) = H4 at hv4 D4 ht hk hp4
  have ee : ("" : Str) = S [] := by decide +kernel
  have hat : atI [v, .str ""] (if (!o.isSome) = true then (1 : Int) else 0) = some (.str (S (o.getD []))) := by
    cases o with
    | none => rw [ee]; exact atI_nat (j := 1) rfl
    | some x => rw [hs x rfl]; exact atI_nat (j := 0) rfl
  refine ⟨_, rfl, _, _, _, _, _, rfl, .ty _, ht, hk, _, rfl, .inr ⟨_, rfl, p, _, _, _, rfl, rfl, SqL.of hp4, hat, ?_⟩⟩
  have en := on_nil (f := nameB) (by decide +kernel) o
  have es := on_nil (f := shufB) (by decide +kernel) o
  have ew := on_nil (f := wordB) (by decide +kernel) o
  generalize o.getD [] = x at hl hc en es ew
  refine ⟨_, rfl, x, rfl, hl, hc, fun H5 s5 => ⟨_, rfl, x, rfl, hl, hc, fun H6 s6 => ⟨(by show 2 ≤ sizeLine; decide), fun l nl => ?_⟩⟩⟩
  have s46 := s5.trans s6
  have hl1 : upd H6 l (.lst [.bl (nameB x), .bl (shufB x)]) l = some (.lst [.bl (nameB x), .bl (shufB x)]) := upd_same
  have s47 : Same H4 (upd H6 l (.lst [.bl (nameB x), .bl (shufB x)])) := s46.trans (same_new nl _)
  have nl4 : H4 l = none := s46.free nl
  generalize upd H6 l (.lst [.bl (nameB x), .bl (shufB x)]) = H7 at hl1 s47
  have wq : wordB x = (nameB x || (shufB x || (table.lookup (S x)).isSome)) := by
    unfold wordB
    cases nameB x <;> cases shufB x <;> cases (table.lookup (S x)).isSome <;> rfl
  refine ⟨fun σ H8 => ∃ (x2' : Option V), σ = [some (.ref a), some (.ref d), x2', some v, some (.str (S x)), some (.ref l), x6, x7] ∧ Same H4 H8 ∧ H8 l = some (.lst [.bl (nameB x), .bl (shufB x), .bl (wordB x)]), ?_, ?_⟩
  · have put : ∀ (H8 : Hp), Same H7 H8 → Same H4 (upd H8 l (.lst [.bl (nameB x), .bl (shufB x), .bl (wordB x)])) := fun H8 s78 => own_new (s47.trans s78) nl4
    refine ⟨_, rfl, .inl ⟨rfl, _, SqL.of hl1⟩, _, rfl, l, _, 0, _, rfl, rfl, SqL.of hl1, atI_nat (j := 0) rfl, _, rfl, ?_⟩
    cases hn : nameB x with
    | true =>
      refine iteT ?_
      rw [hn] at hl1
      refine ⟨l, _, _, rfl, rfl, hl1, (by show 2 < sizeLine; decide), _, rfl, ?_, ?_⟩
      · have := put H7 (Same.refl _)
        rw [wq, hn, Bool.true_or] at this
        exact this
      · rw [upd_same, wq, hn, Bool.true_or]; rfl
    | false =>
      refine iteF ?_
      refine ⟨_, rfl, l, _, 1, _, rfl, rfl, SqL.of hl1, atI_nat (j := 1) rfl, _, rfl, ?_⟩
      cases hz : shufB x with
      | true =>
        refine iteT ?_
        rw [hn, hz] at hl1
        refine ⟨l, _, _, rfl, rfl, hl1, (by show 2 < sizeLine; decide), _, rfl, ?_, ?_⟩
        · have := put H7 (Same.refl _)
          rw [wq, hn, hz, Bool.false_or, Bool.true_or] at this
          exact this
        · rw [upd_same, wq, hn, hz, Bool.false_or, Bool.true_or]; rfl
      | false =>
        refine iteF ?_
        refine ⟨_, rfl, rfl, fun b H8 s8 nb hb => ?_⟩
        refine ⟨b, _, rfl, .inl (SqL.of hb), rfl, flat_strs _, ?_⟩
        have hl8 := s8 _ _ hl1
        rw [hn, hz] at hl8
        have ei : (if false = true then !inV (.str (S x)) (basics.map V.str) else inV (.str (S x)) (basics.map V.str)) = (table.lookup (S x)).isSome := (if_neg Bool.false_ne_true).trans (in_basics (S x))
        rw [ei]
        refine ⟨l, _, _, rfl, rfl, hl8, (by show 2 < sizeLine; decide), _, rfl, ?_, ?_⟩
        · have := put H8 s8
          rw [wq, hn, hz, Bool.false_or, Bool.false_or] at this
          exact this
        · rw [upd_same, wq, hn, hz, Bool.false_or, Bool.false_or]; rfl
  · rintro σ H8 ⟨x2', rfl, s48, hl8⟩
    have hv8 := hv4.same s48
    have D8 := D4.same s48
    refine ⟨_, rfl, v, o, rfl, hv8, fun H9 s9 => ⟨_, rfl, v, o, rfl, hv8.same s9, fun H10 s10 => ⟨_, rfl, v, o, rfl, (hv8.same s9).same s10, fun H11 s11 => ⟨(by show 3 ≤ sizeLine; decide), fun m nm => ?_⟩⟩⟩⟩
    have s811 := (s9.trans s10).trans s11
    have hl11 := kn (o' := .lst [.bl (onT nameB o), .bl (onT shufB o), .bl (onT wordB o)]) (s811 _ _ hl8) nm
    have D11 : Deck (upd H11 m (.lst [.bl (onT nameB o), .bl (onT shufB o), .bl (onT wordB o)])) d c := (D8.same s811).new nm
    rw [en, es, ew] at hl11 D11 ⊢
    have hm : upd H11 m (.lst [.bl (nameB x), .bl (shufB x), .bl (wordB x)]) m = some (.lst [.bl (nameB x), .bl (shufB x), .bl (wordB x)]) := upd_same
    refine ⟨_, rfl, m, l, _, _, rfl, SqL.of hm, SqL.of hl11, for_it (walk_zip (K := K) (a := m) (b := l) (xs := [.bl (nameB x), .bl (shufB x), .bl (wordB x)]) (ys := [.bl (nameB x), .bl (shufB x), .bl (wordB x)]) (n := 3) rfl)
      (fun i σ H' => ∃ (y2 y6 y7 : Option V), σ = [some (.ref a), some (.ref d), y2, some v, some (.str (S x)), some (.ref l), y6, y7] ∧ Deck H' d c ∧ H' m = some (.lst [.bl (nameB x), .bl (shufB x), .bl (wordB x)]) ∧ H' l = some (.lst [.bl (nameB x), .bl (shufB x), .bl (wordB x)]))
      ⟨_, _, _, rfl, D11, hm, hl11⟩ (fun i σ H' _ h => ?_) ?_ ?_⟩
    · obtain ⟨_, _, _, _, _, g1, g2⟩ := h
      exact ⟨SqL.of g1, SqL.of g2⟩
    · rintro i u σ H12 H13 hi ⟨y2, y6, y7, rfl, D12, g1, g2⟩ ⟨T, u1, u2, rfl, nT, rfl, f1, f2⟩
      obtain rfl : u1 = u2 := Option.some.inj (f1.symm.trans f2)
      obtain ⟨b, rfl⟩ : ∃ b, u1 = .bl b := by
        have := List.mem_of_getElem? f1
        simp only [List.mem_cons, List.not_mem_nil, or_false] at this
        rcases this with rfl | rfl | rfl <;> exact ⟨_, rfl⟩
      refine ⟨T, _, rfl, SqT.of upd_same, rfl, _, _, rfl, _, _, rfl, rfl, ?_⟩
      refine ⟨_, rfl, _, _, _, _, true, rfl, .ty _, .base (.bl _), kit_ty (r := true) (by decide +kernel), _, rfl, iteF ?_⟩
      refine ⟨_, rfl, _, rfl, rfl, _, rfl, ?_⟩
      rw [decide_eq_true (show V.bl b = V.bl b from rfl)]
      refine iteF ?_
      exact ⟨_, _, _, rfl, D12.new nT, kn g1 nT, kn g2 nT⟩
    · rintro σ H12 ⟨y2, y6, y7, rfl, D12, g1, g2⟩
      exact ⟨_, _, _, _, _, _, rfl, D12⟩
end
end K01
namespace K01
open PySem PySem.W L2 SX Cm
theorem all_mk {l : PySem.W.OpenLaw} {w : World} {K : PySem.W.Frag} {h : Heap} {mg : Str → Option Value} {fa f1 f2 f3 f4 f5 f6 f7 f8 f9 f10 f11 f12 f13 f14 f15 f16 f17 f18 f19 : Addr} {es : Array DictEntry} {n : Nat} (X : K.In h) (G : h.Ns mainGlobals mg) (hfa : mg "law" = some (.ref fa))
    {od1 an1 od2 an2 od3 an3 od4 an4 od5 an5 od6 an6 od7 an7 od8 an8 od9 an9 od10 an10 od11 an11 od12 an12 od13 an13 od14 an14 od15 an15 od16 an16 od17 an17 od18 an18 od19 an19 : Option Addr} {sl1 sl2 sl3 sl4 sl5 sl6 sl7 sl8 sl9 sl10 sl11 sl12 sl13 sl14 sl15 sl16 sl17 sl18 sl19 : Array (Option Value)} {oc1 kV1 dc1 pm1 cd1 ct1 oc2 kV2 dc2 pm2 cd2 ct2 oc3 kV3 dc3 pm3 cd3 ct3 oc4 kV4 dc4 pm4 cd4 ct4 oc5 kV5 dc5 pm5 cd5 ct5 oc6 kV6 dc6 pm6 cd6 ct6 oc7 kV7 dc7 pm7 cd7 ct7 oc8 kV8 dc8 pm8 cd8 ct8 oc9 kV9 dc9 pm9 cd9 ct9 oc10 kV10 dc10 pm10 cd10 ct10 oc11 kV11 dc11 pm11 cd11 ct11 oc12 kV12 dc12 pm12 cd12 ct12 oc13 kV13 dc13 pm13 cd13 ct13 oc14 kV14 dc14 pm14 cd14 ct14 oc15 kV15 dc15 pm15 cd15 ct15 oc16 kV16 dc16 pm16 cd16 ct16 oc17 kV17 dc17 pm17 cd17 ct17 oc18 kV18 dc18 pm18 cd18 ct18 oc19 kV19 dc19 pm19 cd19 ct19 : Value}
    (a1 : PySem.W.nsIn K mainGlobals "is_marked" = some (some (.ref f1))) (l1 : K.lookup f1 = some ⟨oc1, od1, .func (PySem.W.fnOf "is_marked" "is_marked" (defArgs sMarked) (defBody sMarked) (defScope sMarked) .none kV1 dc1 pm1 an1 cd1 ct1), sl1⟩) (c1 : PySem.W.codeIn K cd1 "is_marked" = true) (k1 : PySem.W.keepIn K (.ref f1) = true)
    (a2 : PySem.W.nsIn K mainGlobals "has_form" = some (some (.ref f2))) (l2 : K.lookup f2 = some ⟨oc2, od2, .func (PySem.W.fnOf "has_form" "has_form" (defArgs sForm) (defBody sForm) (defScope sForm) .none kV2 dc2 pm2 an2 cd2 ct2), sl2⟩) (c2 : PySem.W.codeIn K cd2 "has_form" = true) (k2 : PySem.W.keepIn K (.ref f2) = true)
    (a3 : PySem.W.nsIn K mainGlobals "is_shuffle" = some (some (.ref f3))) (l3 : K.lookup f3 = some ⟨oc3, od3, .func (PySem.W.fnOf "is_shuffle" "is_shuffle" (defArgs sIsSh) (defBody sIsSh) (defScope sIsSh) .none kV3 dc3 pm3 an3 cd3 ct3), sl3⟩) (c3 : PySem.W.codeIn K cd3 "is_shuffle" = true) (k3 : PySem.W.keepIn K (.ref f3) = true)
    (a4 : PySem.W.nsIn K mainGlobals "is_basic" = some (some (.ref f4))) (l4 : K.lookup f4 = some ⟨oc4, od4, .func (PySem.W.fnOf "is_basic" "is_basic" (defArgs sBasic) (defBody sBasic) (defScope sBasic) .none kV4 dc4 pm4 an4 cd4 ct4), sl4⟩) (c4 : PySem.W.codeIn K cd4 "is_basic" = true) (k4 : PySem.W.keepIn K (.ref f4) = true)
    (a5 : PySem.W.nsIn K mainGlobals "is_word" = some (some (.ref f5))) (l5 : K.lookup f5 = some ⟨oc5, od5, .func (PySem.W.fnOf "is_word" "is_word" (defArgs sIsWord) (defBody sIsWord) (defScope sIsWord) .none kV5 dc5 pm5 an5 cd5 ct5), sl5⟩) (c5 : PySem.W.codeIn K cd5 "is_word" = true) (k5 : PySem.W.keepIn K (.ref f5) = true)
    (a6 : PySem.W.nsIn K mainGlobals "is_name" = some (some (.ref f6))) (l6 : K.lookup f6 = some ⟨oc6, od6, .func (PySem.W.fnOf "is_name" "is_name" (defArgs sIsName) (defBody sIsName) (defScope sIsName) .none kV6 dc6 pm6 an6 cd6 ct6), sl6⟩) (c6 : PySem.W.codeIn K cd6 "is_name" = true) (k6 : PySem.W.keepIn K (.ref f6) = true)
    (a7 : PySem.W.nsIn K mainGlobals "is_text_word" = some (some (.ref f7))) (l7 : K.lookup f7 = some ⟨oc7, od7, .func (PySem.W.fnOf "is_text_word" "is_text_word" (defArgs sTextWord) (defBody sTextWord) (defScope sTextWord) .none kV7 dc7 pm7 an7 cd7 ct7), sl7⟩) (c7 : PySem.W.codeIn K cd7 "is_text_word" = true) (k7 : PySem.W.keepIn K (.ref f7) = true)
    (a8 : PySem.W.nsIn K mainGlobals "asked_within" = some (some (.ref f8))) (l8 : K.lookup f8 = some ⟨oc8, od8, .func (PySem.W.fnOf "asked_within" "asked_within" (defArgs sAsked) (defBody sAsked) (defScope sAsked) .none kV8 dc8 pm8 an8 cd8 ct8), sl8⟩) (c8 : PySem.W.codeIn K cd8 "asked_within" = true) (k8 : PySem.W.keepIn K (.ref f8) = true)
    (a9 : PySem.W.nsIn K mainGlobals "asked_of_word" = some (some (.ref f9))) (l9 : K.lookup f9 = some ⟨oc9, od9, .func (PySem.W.fnOf "asked_of_word" "asked_of_word" (defArgs sAskedWord) (defBody sAskedWord) (defScope sAskedWord) .none kV9 dc9 pm9 an9 cd9 ct9), sl9⟩) (c9 : PySem.W.codeIn K cd9 "asked_of_word" = true) (k9 : PySem.W.keepIn K (.ref f9) = true)
    (a10 : PySem.W.nsIn K mainGlobals "_law_mixed" = some (some (.ref f10))) (l10 : K.lookup f10 = some ⟨oc10, od10, .func (PySem.W.fnOf "_law_mixed" "_law_mixed" (defArgs sMixed) (defBody sMixed) (defScope sMixed) .none kV10 dc10 pm10 an10 cd10 ct10), sl10⟩) (c10 : PySem.W.codeIn K cd10 "_law_mixed" = true) (k10 : PySem.W.keepIn K (.ref f10) = true)
    (a11 : PySem.W.nsIn K mainGlobals "_law_deck" = some (some (.ref f11))) (l11 : K.lookup f11 = some ⟨oc11, od11, .func (PySem.W.fnOf "_law_deck" "_law_deck" (defArgs sDeck) (defBody sDeck) (defScope sDeck) .none kV11 dc11 pm11 an11 cd11 ct11), sl11⟩) (c11 : PySem.W.codeIn K cd11 "_law_deck" = true) (k11 : PySem.W.keepIn K (.ref f11) = true)
    (a12 : PySem.W.nsIn K mainGlobals "_law_take" = some (some (.ref f12))) (l12 : K.lookup f12 = some ⟨oc12, od12, .func (PySem.W.fnOf "_law_take" "_law_take" (defArgs sTake) (defBody sTake) (defScope sTake) .none kV12 dc12 pm12 an12 cd12 ct12), sl12⟩) (c12 : PySem.W.codeIn K cd12 "_law_take" = true) (k12 : PySem.W.keepIn K (.ref f12) = true)
    (a13 : PySem.W.nsIn K mainGlobals "_law_all_in" = some (some (.ref f13))) (l13 : K.lookup f13 = some ⟨oc13, od13, .func (PySem.W.fnOf "_law_all_in" "_law_all_in" (defArgs sAllIn) (defBody sAllIn) (defScope sAllIn) .none kV13 dc13 pm13 an13 cd13 ct13), sl13⟩) (c13 : PySem.W.codeIn K cd13 "_law_all_in" = true) (k13 : PySem.W.keepIn K (.ref f13) = true)
    (a14 : PySem.W.nsIn K mainGlobals "_law_basics" = some (some (.ref f14))) (l14 : K.lookup f14 = some ⟨oc14, od14, .func (PySem.W.fnOf "_law_basics" "_law_basics" (defArgs sBasics) (defBody sBasics) (defScope sBasics) .none kV14 dc14 pm14 an14 cd14 ct14), sl14⟩) (c14 : PySem.W.codeIn K cd14 "_law_basics" = true) (k14 : PySem.W.keepIn K (.ref f14) = true)
    (a15 : PySem.W.nsIn K mainGlobals "_law_is_name" = some (some (.ref f15))) (l15 : K.lookup f15 = some ⟨oc15, od15, .func (PySem.W.fnOf "_law_is_name" "_law_is_name" (defArgs sLName) (defBody sLName) (defScope sLName) .none kV15 dc15 pm15 an15 cd15 ct15), sl15⟩) (c15 : PySem.W.codeIn K cd15 "_law_is_name" = true) (k15 : PySem.W.keepIn K (.ref f15) = true)
    (a16 : PySem.W.nsIn K mainGlobals "_law_is_shuffle" = some (some (.ref f16))) (l16 : K.lookup f16 = some ⟨oc16, od16, .func (PySem.W.fnOf "_law_is_shuffle" "_law_is_shuffle" (defArgs sLShuf) (defBody sLShuf) (defScope sLShuf) .none kV16 dc16 pm16 an16 cd16 ct16), sl16⟩) (c16 : PySem.W.codeIn K cd16 "_law_is_shuffle" = true) (k16 : PySem.W.keepIn K (.ref f16) = true)
    (a17 : PySem.W.nsIn K mainGlobals "_law_shuffled" = some (some (.ref f17))) (l17 : K.lookup f17 = some ⟨oc17, od17, .func (PySem.W.fnOf "_law_shuffled" "_law_shuffled" (defArgs sShuffled) (defBody sShuffled) (defScope sShuffled) .none kV17 dc17 pm17 an17 cd17 ct17), sl17⟩) (c17 : PySem.W.codeIn K cd17 "_law_shuffled" = true) (k17 : PySem.W.keepIn K (.ref f17) = true)
    (a18 : PySem.W.nsIn K mainGlobals "_law_thing" = some (some (.ref f18))) (l18 : K.lookup f18 = some ⟨oc18, od18, .func (PySem.W.fnOf "_law_thing" "_law_thing" (defArgs sThing) (defBody sThing) (defScope sThing) .none kV18 dc18 pm18 an18 cd18 ct18), sl18⟩) (c18 : PySem.W.codeIn K cd18 "_law_thing" = true) (k18 : PySem.W.keepIn K (.ref f18) = true)
    (a19 : PySem.W.nsIn K mainGlobals "law" = some (some (.ref f19))) (l19 : K.lookup f19 = some ⟨oc19, od19, .func (PySem.W.fnOf "law" "law" (defArgs sLaw) (defBody sLaw) (defScope sLaw) .none kV19 dc19 pm19 an19 cd19 ct19), sl19⟩) (c19 : PySem.W.codeIn K cd19 "law" = true) (k19 : PySem.W.keepIn K (.ref f19) = true)
    (z_len : PySem.W.nsIn K mainGlobals "len" = some none)
    (z_list : PySem.W.nsIn K mainGlobals "list" = some none)
    (z_sum : PySem.W.nsIn K mainGlobals "sum" = some none)
    (z_range : PySem.W.nsIn K mainGlobals "range" = some none)
    (z_isinstance : PySem.W.nsIn K mainGlobals "isinstance" = some none)
    (z_str : PySem.W.nsIn K mainGlobals "str" = some none)
    (z_all : PySem.W.nsIn K mainGlobals "all" = some none)
    (z_tuple : PySem.W.nsIn K mainGlobals "tuple" = some none)
    (z_int : PySem.W.nsIn K mainGlobals "int" = some none)
    (z_bool : PySem.W.nsIn K mainGlobals "bool" = some none)
    (z_zip : PySem.W.nsIn K mainGlobals "zip" = some none)
    (z_reversed : PySem.W.nsIn K mainGlobals "reversed" = some none)
    {tL : Tok} (g_LETTERS : PySem.W.nsIn K mainGlobals "LETTERS" = some (some (.str "abcdefgh" tL)))
    {tM : Tok} (g_MOST_LEFT : PySem.W.nsIn K mainGlobals "MOST_LEFT" = some (some (.int 12 tM)))
    {tS : Tok} (g_SMALL_LETTERS : PySem.W.nsIn K mainGlobals "SMALL_LETTERS" = some (some (.str "abcdefghijklmnopqrstuvwxyz" tS)))
    {tN : Tok} (g_LONGEST_NAME : PySem.W.nsIn K mainGlobals "LONGEST_NAME" = some (some (.int 8 tN)))
    {d : Addr} (g_SORTS_TAKEN : PySem.W.nsIn K mainGlobals "SORTS_TAKEN" = some (some (.ref d)))
    (xt : K.lookup d = some ⟨.type "dict", none, .dict es n, #[]⟩)
    (xk : PySem.W.KeysLit w.params es.toList)
    (xs : (d == sysModules) = false)
    (xx : kTab K es.toList = some Cm.table)
    : ∃ fd : FuncData, (∀ (s : Shared) (v : Value), BindsTo s fd ⟨[v], []⟩ [("_law_script", v)]) ∧ ∀ base : Heap, K.In base → base.Ns mainGlobals mg → FnOk l.prog w K mg base CX0 8 fa fd ["_law_script"] (spLaw K) := by
  have e := hfa.symm.trans (PySem.W.mg_of X G a19)
  cases e
  have F1 := fun_mk (st := sMarked) l1 c1 k1
  have b1 := F1.binds (ps := ["thing"]) fun _ _ _ _ _ _ us hl => match us, hl with | [_], _ => rfl
  have m1 := PySem.W.mg_of X G a1
  have F2 := fun_mk (st := sForm) l2 c2 k2
  have b2 := F2.binds (ps := ["sort", "thing", "asked_within"]) fun _ _ _ _ _ _ us hl => match us, hl with | [_, _, _], _ => rfl
  have m2 := PySem.W.mg_of X G a2
  have F3 := fun_mk (st := sIsSh) l3 c3 k3
  have b3 := F3.binds (ps := ["thing"]) fun _ _ _ _ _ _ us hl => match us, hl with | [_], _ => rfl
  have m3 := PySem.W.mg_of X G a3
  have F4 := fun_mk (st := sBasic) l4 c4 k4
  have b4 := F4.binds (ps := ["text"]) fun _ _ _ _ _ _ us hl => match us, hl with | [_], _ => rfl
  have m4 := PySem.W.mg_of X G a4
  have F5 := fun_mk (st := sIsWord) l5 c5 k5
  have b5 := F5.binds (ps := ["thing"]) fun _ _ _ _ _ _ us hl => match us, hl with | [_], _ => rfl
  have m5 := PySem.W.mg_of X G a5
  have F6 := fun_mk (st := sIsName) l6 c6 k6
  have b6 := F6.binds (ps := ["thing"]) fun _ _ _ _ _ _ us hl => match us, hl with | [_], _ => rfl
  have m6 := PySem.W.mg_of X G a6
  have F7 := fun_mk (st := sTextWord) l7 c7 k7
  have b7 := F7.binds (ps := ["text"]) fun _ _ _ _ _ _ us hl => match us, hl with | [_], _ => rfl
  have m7 := PySem.W.mg_of X G a7
  have F8 := fun_mk (st := sAsked) l8 c8 k8
  have b8 := F8.binds (ps := ["sort", "part"]) fun _ _ _ _ _ _ us hl => match us, hl with | [_, _], _ => rfl
  have m8 := PySem.W.mg_of X G a8
  have F9 := fun_mk (st := sAskedWord) l9 c9 k9
  have b9 := F9.binds (ps := ["part"]) fun _ _ _ _ _ _ us hl => match us, hl with | [_], _ => rfl
  have m9 := PySem.W.mg_of X G a9
  have F10 := fun_mk (st := sMixed) l10 c10 k10
  have b10 := F10.binds (ps := ["_law_cell", "_law_k"]) fun _ _ _ _ _ _ us hl => match us, hl with | [_, _], _ => rfl
  have m10 := PySem.W.mg_of X G a10
  have F11 := fun_mk (st := sDeck) l11 c11 k11
  have b11 := F11.binds (ps := ["_law_script"]) fun _ _ _ _ _ _ us hl => match us, hl with | [_], _ => rfl
  have m11 := PySem.W.mg_of X G a11
  have F12 := fun_mk (st := sTake) l12 c12 k12
  have b12 := F12.binds (ps := ["_law_deck_here", "_law_most"]) fun _ _ _ _ _ _ us hl => match us, hl with | [_, _], _ => rfl
  have m12 := PySem.W.mg_of X G a12
  have F13 := fun_mk (st := sAllIn) l13 c13 k13
  have b13 := F13.binds (ps := ["_law_text", "_law_signs"]) fun _ _ _ _ _ _ us hl => match us, hl with | [_, _], _ => rfl
  have m13 := PySem.W.mg_of X G a13
  have F14 := fun_mk (st := sBasics) l14 c14 k14
  have b14 := F14.binds (ps := []) fun _ _ _ _ _ _ us hl => match us, hl with | [], _ => rfl
  have m14 := PySem.W.mg_of X G a14
  have F15 := fun_mk (st := sLName) l15 c15 k15
  have b15 := F15.binds (ps := ["_law_text"]) fun _ _ _ _ _ _ us hl => match us, hl with | [_], _ => rfl
  have m15 := PySem.W.mg_of X G a15
  have F16 := fun_mk (st := sLShuf) l16 c16 k16
  have b16 := F16.binds (ps := ["_law_text"]) fun _ _ _ _ _ _ us hl => match us, hl with | [_], _ => rfl
  have m16 := PySem.W.mg_of X G a16
  have F17 := fun_mk (st := sShuffled) l17 c17 k17
  have b17 := F17.binds (ps := ["_law_deck_here"]) fun _ _ _ _ _ _ us hl => match us, hl with | [_], _ => rfl
  have m17 := PySem.W.mg_of X G a17
  have F18 := fun_mk (st := sThing) l18 c18 k18
  have b18 := F18.binds (ps := ["_law_deck_here"]) fun _ _ _ _ _ _ us hl => match us, hl with | [_], _ => rfl
  have m18 := PySem.W.mg_of X G a18
  have F19 := fun_mk (st := sLaw) l19 c19 k19
  have y_len := PySem.W.mg_none_of X G z_len
  have y_list := PySem.W.mg_none_of X G z_list
  have y_sum := PySem.W.mg_none_of X G z_sum
  have y_range := PySem.W.mg_none_of X G z_range
  have y_isinstance := PySem.W.mg_none_of X G z_isinstance
  have y_str := PySem.W.mg_none_of X G z_str
  have y_all := PySem.W.mg_none_of X G z_all
  have y_tuple := PySem.W.mg_none_of X G z_tuple
  have y_int := PySem.W.mg_none_of X G z_int
  have y_bool := PySem.W.mg_none_of X G z_bool
  have y_zip := PySem.W.mg_none_of X G z_zip
  have y_reversed := PySem.W.mg_none_of X G z_reversed
  have v_LETTERS := PySem.W.mg_of X G g_LETTERS
  have v_MOST_LEFT := PySem.W.mg_of X G g_MOST_LEFT
  have v_SMALL_LETTERS := PySem.W.mg_of X G g_SMALL_LETTERS
  have v_LONGEST_NAME := PySem.W.mg_of X G g_LONGEST_NAME
  have v_SORTS_TAKEN := PySem.W.mg_of X G g_SORTS_TAKEN
  refine ⟨PySem.W.fnOf "law" "law" (defArgs sLaw) (defBody sLaw) (defScope sLaw) .none kV19 dc19 pm19 an19 cd19 ct19, fun s v => .of_eq rfl, fun base _ _ => ?_⟩
  have TS : TxtS mg := ⟨y_isinstance, y_str, y_len, y_all, y_tuple, ⟨_, v_LETTERS⟩, ⟨_, v_MOST_LEFT⟩, ⟨_, v_SMALL_LETTERS⟩, ⟨_, v_LONGEST_NAME⟩⟩
  have TB : Tab K w mg d es n := ⟨⟨xt, xk, xs⟩, xx, v_SORTS_TAKEN⟩
  have O1 : FnOk l.prog w K mg base CX0 1 f1 _ ["thing"] spMarked := ok_marked F1 TS
  have O3 : FnOk l.prog w K mg base CX0 1 f3 _ ["thing"] (spT shufB) := ok_isSh F3 TS
  have O4 : FnOk l.prog w K mg base CX0 1 f4 _ ["text"] spBasic := ok_basic F4 TB
  have O6 := ok_isName F6 TS O4 b4 k4 m4
  have O7 := ok_tw F7 O4 b4 k4 m4 O3 b3 k3 m3 O6 b6 k6 m6
  have O9 := ok_askW F9 TS O7 b7 k7 m7 O1 b1 k1 m1
  have O8 := ok_ask F8 O9 b9 k9 m9
  have O2 := ok_form F2 O8 b8 k8
  have O5 := ok_isWord F5 O2 b2 k2 m2 m8
  have O10 : FnOk l.prog w K mg base CX0 1 f10 _ ["_law_cell", "_law_k"] spMixed := ok_mixed F10
  have O11 : FnOk l.prog w K mg base CX0 1 f11 _ ["_law_script"] (spDeck K) := ok_deck F11 y_list y_reversed y_sum y_len
  have O12 := ok_take F12 O10 b10 k10 m10
  have O13 : FnOk l.prog w K mg base CX0 1 f13 _ ["_law_text", "_law_signs"] spAllIn := ok_allIn F13
  have O14 : FnOk l.prog w K mg base CX0 1 f14 _ [] spBasics := ok_basics F14
  have O15 := ok_lname F15 y_len O14 b14 k14 m14 O13 b13 k13 m13
  have O16 := ok_lshuf F16 y_len O13 b13 k13 m13
  have O17 := ok_shuffled F17 O12 b12 k12 m12 y_int y_len y_range
  have O18 := ok_thing F18 O12 b12 k12 m12 O17 b17 k17 m17 O14 b14 k14 m14 y_len y_range
  exact ok_law F19 O11 b11 k11 m11 O18 b18 k18 m18 O15 b15 k15 m15 O16 b16 k16 m16 O14 b14 k14 m14 O6 b6 k6 m6 O3 b3 k3 m3 O5 b5 k5 m5 y_int y_range y_isinstance y_str y_bool y_zip
theorem walk {l : PySem.W.OpenLaw} {q : Program} {loose : List Str} {XP : (Str → Option Value) → Heap → Prop} {YP : World → Heap → Prop} {d : DefRec} {K : Params → PySem.W.Frag} (hn : l.most = some 63) (hdf : d.params.defaults = [])
    (hY : ∀ (w : World) (h : Heap), YP w h → (K w.params).In h)
    (F : ∀ (w : World) (mg : Str → Option Value) (fa : Addr) (h : Heap), (K w.params).In h → h.Ns mainGlobals mg → mg d.name = some (.ref fa) →
      ∃ fd : FuncData, (∀ (s : Shared) (u : Value), BindsTo s fd ⟨[u], []⟩ [("_law_script", u)]) ∧ ∀ base : Heap, (K w.params).In base → base.Ns mainGlobals mg → FnOk l.prog w (K w.params) mg base CX0 8 fa fd ["_law_script"] (spLaw (K w.params))) :
    PySem.W.WalkO q loose XP YP l.row.toRowW d [] (fun f vs => PySem.call f vs) :=
  L2.walk_of (n := 63) (k := 8) (x := "_law_script") (CX := fun _ => CX0) (sp := fun w => spLaw (K w.params)) hn (by decide) hdf ⟨rfl, by decide, by decide⟩ hY F (fun _ _ a ns hl _ hS => ⟨a, ns, rfl, hS, hl, fun _ => rfl⟩) fun _ _ _ _ _ z => z
end K01
open PySem PySem.W PyProof.Rows
set_option maxRecDepth 100000 in
set_option maxHeartbeats 0 in
theorem PySem.Challenge.cw_takeleave_k01_what_is_a_word_holds : PySem.Challenge.rw_takeleave_k01_what_is_a_word.Holds := by
  w_on; o_law; k_head; (case hw => w_witness2)
  k_fill
  refine K01.walk (l := PySem.Challenge.rw_takeleave_k01_what_is_a_word) rfl rfl (fun w h Y => PySem.W.kIn_of Y) ?F
  case F =>
    intro w mg fa h KX G hmg
    refine' K01.all_mk (w := w) KX G hmg ?a1 ?l1 ?c1 ?k1 ?a2 ?l2 ?c2 ?k2 ?a3 ?l3 ?c3 ?k3 ?a4 ?l4 ?c4 ?k4 ?a5 ?l5 ?c5 ?k5 ?a6 ?l6 ?c6 ?k6 ?a7 ?l7 ?c7 ?k7 ?a8 ?l8 ?c8 ?k8 ?a9 ?l9 ?c9 ?k9 ?a10 ?l10 ?c10 ?k10 ?a11 ?l11 ?c11 ?k11 ?a12 ?l12 ?c12 ?k12 ?a13 ?l13 ?c13 ?k13 ?a14 ?l14 ?c14 ?k14 ?a15 ?l15 ?c15 ?k15 ?a16 ?l16 ?c16 ?k16 ?a17 ?l17 ?c17 ?k17 ?a18 ?l18 ?c18 ?k18 ?a19 ?l19 ?c19 ?k19 ?z_len ?z_list ?z_sum ?z_range ?z_isinstance ?z_str ?z_all ?z_tuple ?z_int ?z_bool ?z_zip ?z_reversed ?g_LETTERS ?g_MOST_LEFT ?g_SMALL_LETTERS ?g_LONGEST_NAME ?g_SORTS_TAKEN ?xt ?xk ?xs ?xx
    (case a1 => k_is)
    (case l1 => k_is)
    (case c1 => k_is)
    (case k1 => k_is)
    (case a2 => k_is)
    (case l2 => k_is)
    (case c2 => k_is)
    (case k2 => k_is)
    (case a3 => k_is)
    (case l3 => k_is)
    (case c3 => k_is)
    (case k3 => k_is)
    (case a4 => k_is)
    (case l4 => k_is)
    (case c4 => k_is)
    (case k4 => k_is)
    (case a5 => k_is)
    (case l5 => k_is)
    (case c5 => k_is)
    (case k5 => k_is)
    (case a6 => k_is)
    (case l6 => k_is)
    (case c6 => k_is)
    (case k6 => k_is)
    (case a7 => k_is)
    (case l7 => k_is)
    (case c7 => k_is)
    (case k7 => k_is)
    (case a8 => k_is)
    (case l8 => k_is)
    (case c8 => k_is)
    (case k8 => k_is)
    (case a9 => k_is)
    (case l9 => k_is)
    (case c9 => k_is)
    (case k9 => k_is)
    (case a10 => k_is)
    (case l10 => k_is)
    (case c10 => k_is)
    (case k10 => k_is)
    (case a11 => k_is)
    (case l11 => k_is)
    (case c11 => k_is)
    (case k11 => k_is)
    (case a12 => k_is)
    (case l12 => k_is)
    (case c12 => k_is)
    (case k12 => k_is)
    (case a13 => k_is)
    (case l13 => k_is)
    (case c13 => k_is)
    (case k13 => k_is)
    (case a14 => k_is)
    (case l14 => k_is)
    (case c14 => k_is)
    (case k14 => k_is)
    (case a15 => k_is)
    (case l15 => k_is)
    (case c15 => k_is)
    (case k15 => k_is)
    (case a16 => k_is)
    (case l16 => k_is)
    (case c16 => k_is)
    (case k16 => k_is)
    (case a17 => k_is)
    (case l17 => k_is)
    (case c17 => k_is)
    (case k17 => k_is)
    (case a18 => k_is)
    (case l18 => k_is)
    (case c18 => k_is)
    (case k18 => k_is)
    (case a19 => k_is)
    (case l19 => k_is)
    (case c19 => k_is)
    (case k19 => k_is)
    (case z_len => k_is)
    (case z_list => k_is)
    (case z_sum => k_is)
    (case z_range => k_is)
    (case z_isinstance => k_is)
    (case z_str => k_is)
    (case z_all => k_is)
    (case z_tuple => k_is)
    (case z_int => k_is)
    (case z_bool => k_is)
    (case z_zip => k_is)
    (case z_reversed => k_is)
    (case g_LETTERS => k_is)
    (case g_MOST_LEFT => k_is)
    (case g_SMALL_LETTERS => k_is)
    (case g_LONGEST_NAME => k_is)
    (case g_SORTS_TAKEN => k_is)
    (case xt => k_is)
    (case xk => first | k_is | (refine ⟨⟨_, _, rfl, rfl⟩, ⟨_, _, rfl, rfl⟩, ⟨_, _, rfl, rfl⟩, ⟨_, _, rfl, rfl⟩, ⟨_, _, rfl, rfl⟩, ⟨_, _, rfl, rfl⟩, ⟨_, _, rfl, rfl⟩, ⟨_, _, rfl, rfl⟩, ⟨_, _, rfl, rfl⟩, ⟨_, _, rfl, rfl⟩, ⟨_, _, rfl, rfl⟩, ⟨_, _, rfl, rfl⟩, ⟨_, _, rfl, rfl⟩, ⟨_, _, rfl, rfl⟩, ⟨_, _, rfl, rfl⟩, trivial⟩))
    (case xs => first | k_is | rfl | decide)
    (case xx => kernel_rfl)
