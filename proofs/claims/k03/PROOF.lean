import PyProof.Rows.All
import Wide.All
import OpenK.AllK
import Wide.FinOn
import HandS.ForMost
import HandS.Rev
import KE.KDictList
import HandS.Style
import HandS.More
import HandS.IsInst
import HandS.StrMore
import HandS.Wide
import HandS.Codes
import HandS.Walk
import HandS.NoneIn
import HandS.WordsExc
import PyProof.AutoSeq1
import HandS.TupAny
import PySem.Challenge.RW_takeleave_k03_words_in_all
set_option Elab.async false
set_option linter.all false
set_option maxRecDepth 100000
set_option maxHeartbeats 4000000
namespace Cm
open PySem PySem.Spec PyProof.Rows L2 RT
section
variable {prog : Program} {w : World} {A : Around} {E : Value → Shared → Prop} {s : Shared}
/-- list.extend over a reversed list, into the empty list at T -/
theorem revExt {J l T : Addr} {vs : Array Value} {res : Value} {c : Nat} {R : Result → Shared → Prop} (hh : A.handled = none) (hJ : s.heap.IsRevIter J l ((vs.size : Int) - 1)) (hl : s.heap.IsList l vs) (nJ : l ≠ J) (hn : vs.size ≤ sizeLine)
    (nTJ : T ≠ J) (nTl : T ≠ l) (hT : s.heap.get? T = some { cls := .type "list", data := .seq #[] c })
    (hR : ∀ h' tk acc' c', (∀ b o, b ≠ T → b ≠ J → s.heap.get? b = some o → h'.get? b = some o) → h'.get? T = some { cls := .type "list", dict := none, data := .seq acc' c', slots := #[] } → ItemsOf (fun i v => vs[vs.size - 1 - i]? = some v) acc' vs.size → R (.ok (.ret res)) { s with heap := h', toks := tk }) :
    wpAny (model prog w) A.in1 (Builtin.List.listExtendWith (.ref T) (.ref J) res)
      (fun fin s' => match fin with | .done f => R (.ok f) s' | .again c' => c'.quiet = true ∧ codeAny (model prog w) A c' R s') (fun e s' => R (.error e) s') s := by
  have WS := (Walks.listRev (prog := prog) (w := w) (A := A.in1) hh J l nJ vs).toS
  have tyJ : s.TypeIs (.ref J) "list_reverseiterator" := Heap.IsRevIter.typeIs hJ
  have nf : T ∉ [J, l] := by simp only [List.mem_cons, List.not_mem_nil, or_false, not_or]; exact And.intro nTJ nTl
  have ns : Builtin.List.listSameRef (.ref T) (.ref J) = false := by simp [Builtin.List.listSameRef, nTJ]
  unfold Builtin.List.listExtendWith
  refine wpAny_bind (wpAny_typeOf tyJ ?_)
  rw [if_neg (by rw [ns]; decide)]
  refine wpAny_bind (wpAny_pyIter_revIter hJ (wpAny_bind (wpAny_holding ?_)))
  unfold Builtin.List.listLengthHint
  refine wpAny_bind (wpAny_specialOf tyJ nolen_lri ?_)
  show wpAny _ A.in1 (specialOf (Value.ref J) (Str.ofString "__length_hint__") >>= _) _ _ _
  refine wpAny_bind (wpAny_specialOf tyJ hint_lri ?_)
  generalize eid : ("list_reverseiterator.__length_hint__" : String) = idz
  wp_delta
  rw [show splitId idz = some ("list_reverseiterator", "__length_hint__") from by subst eid; decide +kernel]
  subst eid
  refine wpAny_bind (wpAny_isInstance (b := true) tyJ (by rw [isSubtype_type]; kernel_rfl) (wpAny_pure ?_))
  rw [if_neg (by decide)]
  have z0 : ((vs.size : Nat) : Int) - 1 - ((0 : Nat) : Int) = (vs.size : Int) - 1 := by omega
  refine wpAny_pure ⟨plainId_quiet F.plain_extend_loop _, codeAny_extend_loopS WS hn _ nf _ vs.size 0 _ _ _ rfl (Nat.zero_le _) ⟨Nat.zero_le _, by rw [z0]; exact hJ, hl⟩ hT (ItemsOf.nil _) fun s' acc' c' hm hS' hacc => ?_⟩
  rw [Moved.eq_with hm]
  refine hR s'.heap s'.toks acc' c' (fun b o n1 n2 e => hm.heap b o (fun q => ?_) e) hS' hacc
  rcases List.mem_cons.mp q with z | z
  · exact n1 z
  · exact n2 (List.mem_singleton.mp z)
theorem revInit {J l T : Addr} {vs : Array Value} {R : Result → Shared → Prop} (hh : A.handled = none) (hJ : s.heap.IsRevIter J l ((vs.size : Int) - 1)) (hl : s.heap.IsList l vs) (nJ : l ≠ J) (hn : vs.size ≤ sizeLine)
    (nTJ : T ≠ J) (nTl : T ≠ l) (hT : s.heap.get? T = some { cls := .type "list", data := .seq #[] })
    (hR : ∀ h' tk acc' c', (∀ b o, b ≠ T → b ≠ J → s.heap.get? b = some o → h'.get? b = some o) → h'.get? T = some { cls := .type "list", dict := none, data := .seq acc' c', slots := #[] } → ItemsOf (fun i v => vs[vs.size - 1 - i]? = some v) acc' vs.size → R (.ok (.ret .none)) { s with heap := h', toks := tk }) :
    wpAny (model prog w) A.in1 (Builtin.«list.__init__» ⟨[.ref T, .ref J], []⟩)
      (fun fin s' => match fin with | .done f => R (.ok f) s' | .again c' => c'.quiet = true ∧ codeAny (model prog w) A c' R s') (fun e s' => R (.error e) s') s := by
  show wpAny _ _ (do let old ← Builtin.List.listItems (.ref T); Builtin.List.listUpdate (.ref T) (fun _ => #[]); letGo old.toList.reverse; Builtin.List.listExtendWith (.ref T) (.ref J) .none) _ _ s
  refine wpAny_bind ?_; unfold Builtin.List.listItems
  refine wpAny_bind (wpAny_seqItems hT rfl (wpAny_pure ?_))
  show wpAny _ _ (updateSeq T (fun _ => #[]) >>= fun _ => letGo (#[] : Array Value).toList.reverse >>= fun _ => Builtin.List.listExtendWith (.ref T) (.ref J) .none) _ _ s
  refine wpAny_bind (wpAny_updateSeq hT rfl ?_)
  have hT2 := Heap.get?_update_self (Obj.mapSeq (fun _ => (#[] : Array Value))) hT rfl
  have other : ∀ b o, b ≠ T → s.heap.get? b = some o → (s.heap.update T (Obj.mapSeq (fun _ => (#[] : Array Value)))).get? b = some o :=
    fun b o hb e => (Heap.get?_update_other _ _ (Ne.symm hb)).trans e
  refine wpAny_bind (wpAny_letGo (revExt hh (hJ.at fun o e => other _ o nTJ.symm e) (hl.at fun o e => other _ o nTl.symm e) nJ hn nTJ nTl hT2 fun h' tk acc' c' hk hS' hacc => ?_))
  exact hR h' tk acc' c' (fun b o n1 n2 e => hk b o n1 n2 (other b o n1 e)) hS' hacc
theorem call_list_rev {J l : Addr} {vs : Array Value} {Q : Value → Shared → Prop} (hh : A.handled = none) (hJ : s.heap.IsRevIter J l ((vs.size : Int) - 1)) (hl : s.heap.IsList l vs) (nJ : l ≠ J) (hn : vs.size ≤ sizeLine)
    (hQ : ∀ h' tk acc' c', (∀ b o, b ≠ J → s.heap.get? b = some o → h'.get? b = some o) → h'.get? s.heap.objs.size = some { cls := .type "list", dict := none, data := .seq acc' c', slots := #[] } → ItemsOf (fun i v => vs[vs.size - 1 - i]? = some v) acc' vs.size → Q (.ref s.heap.objs.size) { s with heap := h', toks := tk }) :
    wpAny (model prog w) A (call (.type "list") [.ref J]) Q E s := by
  refine callType_codes (Q₁ := fun obj s₁ => obj = .ref s.heap.objs.size ∧ s₁ = { s with heap := s.heap.push { cls := .type "list", data := .seq #[] } }) PySem.F.called_list (PySem.F.typeCall_list_1 _) PySem.F.entry_list_init
    (code_list_new _ ⟨rfl, rfl⟩) fun obj s₁ z => ?_
  obtain ⟨rfl, rfl⟩ := z
  have hT : (s.heap.push { cls := .type "list", data := .seq #[] }).get? s.heap.objs.size = some { cls := .type "list", data := .seq #[] } := Heap.get?_push_size _ rfl
  obtain ⟨oi, hoi, _⟩ := id hJ
  obtain ⟨ol, hol, _⟩ := id hl
  refine ⟨⟨_, hT, rfl⟩, PySem.F.args_list_init_2 _ _, revInit (A := A.in1) hh (hJ.at fun o e => Heap.get?_push_of_some _ e) (hl.push _) nJ hn (Nat.ne_of_gt (Heap.lt_size hoi)) (Nat.ne_of_gt (Heap.lt_size hol)) hT (fun h' tk acc' c' hk hS' hacc => ?_)⟩
  exact ⟨rfl, hQ h' tk acc' c' (fun b o n e => hk b o (Nat.ne_of_lt (Heap.lt_size e)) n (Heap.get?_push_of_some _ e)) hS' hacc⟩
end
/-- list(reversed(x)), x a list: a new list -/
def tLstRev (K : PySem.W.Frag) (te : TE) : TE := fun σ H Q => te σ H fun v H1 => ∃ (a : Addr) (xs : List V), v = .ref a ∧ SqL K H1 a xs ∧ ∀ q, H1 q = none → Q (.ref q) (upd H1 q (.lst xs.reverse))
section
variable {X : Cx}
theorem pe_lstRev {e : Expr} {te : TE} {p p2 pos pos2 : Pos} (hc : X.calm = true) (hg : Gl X "list") (hm : X.mg "list" = none) (hg2 : Gl X "reversed") (hm2 : X.mg "reversed" = none) (he : PE X e te)
    (hs : starEach [e] X.env = (false, eval e X.env) :: starEach [] X.env := by rfl)
    (hs2 : starEach [.Call (.Name "reversed" p2) [e] [] pos2] X.env = (false, eval (.Call (.Name "reversed" p2) [e] [] pos2) X.env) :: starEach [] X.env := by rfl) :
    PE X (.Call (.Name "list" p) [.Call (.Name "reversed" p2) [e] [] pos2] [] pos) (tLstRev X.K te) := by
  refine ⟨fun pins s σ H Q I h => ?_⟩
  refine Call_ (ld_blt I hg hm (show bootBuiltins "list" = some (.type "list") by decide +kernel) (PyProof.Rows.callWith_type1 (args_cons (Call_ (ld_blt I hg2 hm2 PyProof.Rows.boot_reversed (PyProof.Rows.callWith_type1 (args_cons (thn (he.run pins s σ H _ I h) fun u s1 ⟨v, H1, I1, r1, q1⟩ => args_nil ?_) hs) hs rfl))) hs2) hs2 rfl))
  obtain ⟨a, xs, ev, hq, q⟩ := q1
  subst ev; obtain rfl : u = Value.ref a := r1
  obtain ⟨its, rv, p', hz⟩ := I1.list hq
  refine call_reversed_list p'.isList (args_nil ?_)
  have k0 : ∀ b o, s1.heap.get? b = some o → (s1.heap.push (revObj a ((its.toArray.size : Int) - 1))).get? b = some o := fun b o e' => Heap.get?_push_of_some _ e'
  have I2 : Inv X pins σ H1 { s1 with heap := s1.heap.push (revObj a ((its.toArray.size : Int) - 1)) } := I1.kept (t' := s1.toks) k0
  obtain ⟨f0, f1, f2, f3, f4, f5⟩ := I1.fpOk (H' := H1) (b := s1.heap.objs.size) (Nat.le_refl _) (I1.hok.fresh (Nat.le_refl _))
  have isl := p'.isList
  obtain ⟨ol, hol, _⟩ := id isl
  have hne : a ≠ s1.heap.objs.size := Nat.ne_of_lt (Heap.lt_size hol)
  have hn : its.toArray.size ≤ sizeLine := by rw [List.size_toArray, ← rv.length]; exact hz
  refine call_list_rev (s := { s1 with heap := s1.heap.push (revObj a ((its.toArray.size : Int) - 1)) }) (I1.ok.hd hc) ⟨_, Heap.get?_push_size _ rfl, rfl, rfl⟩ (isl.push _) hne hn fun h' tk acc c' hk hT hi => ?_
  have hk' : ∀ b o, s1.heap.get? b = some o → h'.get? b = some o := fun b o e' => hk b o (Nat.ne_of_lt (Heap.lt_size e')) (k0 b o e')
  have sz : s1.heap.objs.size ≤ (s1.heap.push (revObj a ((its.toArray.size : Int) - 1))).objs.size := by
    rw [Heap.size_push]; exact Nat.le_succ _
  refine ⟨.ref _, upd H1 _ (.lst xs.reverse), I1.laid (t' := tk) hk' sz (show ObjOk X.prog X.w _ _ _ (.lst xs.reverse) from ⟨by rw [List.length_reverse]; exact hz, acc.toList, c', vals_rev rv hi, ?_⟩), rfl, q _ (I1.hok.fresh sz)⟩
  rw [Array.toArray_toList]
  exact hT
end
end Cm
namespace Cm
open PySem PySem.W L2 SX
theorem same_new {H : Hp} {p : Addr} (h : H p = none) (o : HO) : Same H (upd H p o) := fun b u q => by rw [upd_ne (ne_of_none q h)]; exact q
theorem own_new {H H' : Hp} {p : Addr} {o : HO} (s : Same H H') (h : H p = none) : Same H (upd H' p o) := fun b u q => by rw [upd_ne (ne_of_none q h)]; exact s _ _ q
theorem cut_map {α : Type} (f : α → V) (xs : List α) (lo hi : Option Int) : ∃ ys : List α, cutV (xs.map f) lo hi = ys.map f ∧ ys.length ≤ xs.length := by
  unfold cutV
  refine ⟨(xs.drop (HT.sIx (xs.map f).length 0 lo)).take (HT.sIx (xs.map f).length (xs.map f).length hi - HT.sIx (xs.map f).length 0 lo), ?_, ?_⟩
  · rw [List.map_take, List.map_drop]
  · rw [List.length_take, List.length_drop]; omega
theorem dp_ints {K : PySem.W.Frag} {H : Hp} : ∀ ns : List Int, DpAll K H (ns.map V.int) (ns.map PyData.int)
  | [] => .nil
  | n :: r => .cons (.int n) (dp_ints r)
theorem lay_ints : ∀ ns : List Int, PyData.canLayAll0 (ns.map PyData.int) = true
  | [] => rfl
  | n :: r => by
    show (PyData.canLay0 (PyData.int n) && PyData.canLayAll0 (r.map PyData.int)) = true
    rw [lay_ints r]; rfl
theorem deep_ints : ∀ ns : List Int, PyData.depthAll (ns.map PyData.int) = 0
  | [] => rfl
  | n :: r => by
    show max (PyData.depth (PyData.int n)) (PyData.depthAll (r.map PyData.int)) = 0
    rw [deep_ints r]; rfl
theorem shaped_ints (ns : List Int) : SeqAt.shaped (.list (ns.map PyData.int)) = true := by
  show (PyData.canLayAll0 (ns.map PyData.int) && decide (PyData.depthAll (ns.map PyData.int) + 1 ≤ 64)) = true
  rw [lay_ints, deep_ints]; rfl
theorem kn {H : Hp} {a t : Addr} {o o' : HO} (h : H a = some o) (n : H t = none) : upd H t o' a = some o := by rw [upd_ne (ne_of_none h n)]; exact h
/-- all but what stands at the places L is kept -/
def Kp (L : List Addr) (H H' : Hp) : Prop := ∀ b o, b ∉ L → H b = some o → H' b = some o
theorem Kp.refl (L : List Addr) (H : Hp) : Kp L H H := fun _ _ _ h => h
theorem Kp.trans {L : List Addr} {H H1 H2 : Hp} (a : Kp L H H1) (b : Kp L H1 H2) : Kp L H H2 := fun c o n h => b c o n (a c o n h)
theorem Kp.of {L : List Addr} {H H' : Hp} (s : Same H H') : Kp L H H' := fun b o _ h => s b o h
theorem Kp.new {L : List Addr} {p : Addr} {H H' : Hp} {o : HO} (a : Kp L H H') (h : H' p = none) : Kp L H (upd H' p o) := a.trans (.of (same_new h o))
theorem Kp.own {L : List Addr} {d : Addr} {H H' : Hp} {o : HO} (a : Kp L H H') (m : d ∈ L) : Kp L H (upd H' d o) := fun b u n h => by rw [upd_ne (show b ≠ d from fun z => n (by rw [z]; exact m))]; exact a b u n h
theorem Kp.mono {L M : List Addr} {H H' : Hp} (a : Kp L H H') (h : ∀ b ∈ L, b ∈ M) : Kp M H H' := fun b o n e => a b o (fun z => n (h b z)) e
theorem Kp.free {L : List Addr} {p : Addr} {H H' : Hp} (k : Kp L H H') (n : H' p = none) (m : p ∉ L) : H p = none := by
  cases e : H p with
  | none => rfl
  | some o => rw [k p o m e] at n; cases n
theorem Kp.put {L : List Addr} {p : Addr} {H H' : Hp} {o : HO} (k : Kp L H H') (n : H p = none) : Kp L H (upd H' p o) := fun b u m e => by rw [upd_ne (ne_of_none e n)]; exact k b u m e
theorem Kp.same {L : List Addr} {H0 H H' : Hp} (a : Kp L H H') (s : Same H0 H) (h : ∀ b ∈ L, H0 b = none) : Same H0 H' := fun b o e => a b o (fun z => by rw [h b z] at e; cases e) (s b o e)
theorem cutS_to {a : List Nat} {i : Int} (h : 0 ≤ i) : cutS (S a) none (some i) = S (a.take i.toNat) := by
  obtain ⟨n, rfl⟩ := Int.eq_ofNat_of_zero_le h
  unfold cutS
  rw [HT.sIx_none, HT.sIx_nat, S_len]
  show S (List.take (min n a.length - 0) (List.drop 0 a)) = S (a.take n)
  rw [List.drop_zero, Nat.sub_zero]
  by_cases h : n ≤ a.length
  · rw [Nat.min_eq_left h]
  · rw [Nat.min_eq_right (by omega), List.take_of_length_le (Nat.le_refl a.length), List.take_of_length_le (show a.length ≤ n by omega)]
/-- a comprehension over a text's signs, whose element is a plain value -/
theorem lc_txt {z : List Nat} (f : Nat → V) {g : TG} {te : TE} {vs : List Nat} {σ : St} {H1 : Hp} {D : Addr} {Qd : Hp → Prop} (hl : z.length ≤ 1000)
    (hs : ∀ c H (R : V → Hp → Prop), c ∈ z → R (f c) H → g (.str ⟨#[c]⟩) (wipe σ vs) H fun σ2 H2 => wipe σ2 vs = wipe σ vs ∧ te σ2 H2 R) (hd : Qd (upd H1 D (.lst (z.map f)))) :
    ∃ W : Nat → Nat → Hp → Prop, (∃ m, W 0 m (upd H1 D (.lst []))) ∧ ∀ i m H, W i m H →
      ((Its (S z)).stop i H ∧ Qd H) ∨ ((Its (S z)).go i H ∧ ∃ Nx : Hp → Prop, (∀ H', Nx H' → ∃ m', m' < m ∧ W (i + 1) m' H') ∧ ∀ x H', (Its (S z)).yld i H x H' → g x (wipe σ vs) H' fun σ2 H2 => wipe σ2 vs = wipe σ vs ∧ tYes σ2 H2 fun b H3 =>
        if b = true then te σ2 H3 fun y H4 => ∃ acc, H4 D = some (.lst acc) ∧ acc.length < sizeLine ∧ Nx (upd H4 D (.lst (acc ++ [y]))) else Nx H3) := by
  refine lc_it (walk_str (z := S z)) (fun i H => H = upd H1 D (.lst ((z.take i).map f))) rfl (fun _ _ _ _ => trivial) ?_ ?_
  · rintro i x H H' hi rfl ⟨rfl, c, hc, rfl⟩
    have hc' : z[i]? = some c := by
      rw [← hc]; show z[i]? = (z.toArray)[i]?; rw [List.getElem?_toArray]
    refine hs c _ (fun y H4 => ∃ acc, H4 D = some (.lst acc) ∧ acc.length < sizeLine ∧ upd H4 D (.lst (acc ++ [y])) = upd H1 D (.lst ((z.take (i + 1)).map f))) (List.mem_of_getElem? hc') ⟨_, upd_same, ?_, ?_⟩
    · rw [List.length_map, List.length_take]; exact small1000 (by omega)
    · rw [upd_upd, List.take_add_one, hc', List.map_append]; rfl
  · rintro H rfl
    have e : (S z).cps.size = z.length := by show z.toArray.size = _; rw [List.size_toArray]
    rw [e, List.take_length]
    exact hd
theorem starts_S (x y : List Nat) : Txt.startswith (S x) (S y) = decide (x.take y.length = y) := by
  unfold Txt.startswith PySem.Builtin.Str.subAt
  rw [S_len, S_len]
  show (decide (0 + y.length ≤ x.length) && ((x.toArray.extract 0 (0 + (S y).length)) == y.toArray)) = _
  rw [S_len, Nat.zero_add, List.extract_toArray]
  have e : (List.extract x 0 y.length) = x.take y.length := by unfold List.extract; rw [List.drop_zero, Nat.sub_zero]
  rw [e]
  by_cases h : x.take y.length = y
  · have hl : y.length ≤ x.length := by
      have := congrArg List.length h
      rw [List.length_take] at this; omega
    rw [decide_eq_true h, decide_eq_true hl, h, beq_self_eq_true]; rfl
  · rw [decide_eq_false h]
    have : ((x.take y.length).toArray == y.toArray) = false := by
      rw [beq_eq_false_iff_ne]; intro z; exact h (by have := congrArg Array.toList z; exact this)
    rw [this, Bool.and_false]
theorem par_len : ∀ (x acc t l : List Nat), TL.par [45] acc x = some (t, l) → l.length ≤ x.length
  | [], _, _, _, h => by cases h
  | c :: r, acc, t, l, h => by
    have h' : (if TL.pre [45] (c :: r) = true then some (acc, (c :: r).drop 1) else TL.par [45] (acc ++ [c]) r) = some (t, l) := h
    by_cases hp : TL.pre [45] (c :: r) = true
    · rw [if_pos hp] at h'
      cases h'
      show r.length ≤ r.length + 1
      omega
    · rw [if_neg hp] at h'
      have := par_len r _ _ _ h'
      show l.length ≤ r.length + 1
      omega
/-- the letters a to h -/
def abc8 : List Nat := [97, 98, 99, 100, 101, 102, 103, 104]
/-- whether signs are a shuffle's -/
def shufB (x : List Nat) : Bool := match TL.par [45] [] x with
  | none => false
  | some (t, l) => decide (abc8.take t.length = t) && (decide (l.length ≤ 12) && (l.map fun c => decide (c ∈ t)).all id)
def kStr : Value → Option Str
  | .str x _ => some x
  | _ => none
def absAll : List Value → Option (List V)
  | [] => some []
  | u :: r => match absV u, absAll r with
    | some x, some t => some (x :: t)
    | _, _ => none
def kTup (K : Frag) (t : Addr) : Option (List V) := match K.lookup t with
  | some ⟨.type c, _, .seq its _, _⟩ => if c = "tuple" ∧ its.size ≤ 1000 then absAll its.toList else none
  | _ => none
def kEnt (K : Frag) (e : DictEntry) : Option (Str × List V) := match e.val, kStr e.key with
  | .ref t, some k => (kTup K t).map fun xs => (k, xs)
  | _, _ => none
/-- the entries es: keys, each with what its tuple holds -/
def kTab (K : Frag) : List DictEntry → Option (List (Str × List V))
  | [] => some []
  | e :: r => match kEnt K e, kTab K r with
    | some x, some t => some (x :: t)
    | _, _ => none
theorem abs_rel {u : Value} {x : V} (h : absV u = some x) : RelV x u := by
  cases u <;> simp only [absV] at h <;> first | (cases h; done) | (cases h; first | exact rfl | exact ⟨_, rfl⟩) | cases h
theorem abs_all : ∀ {us : List Value} {xs : List V}, absAll us = some xs → Vals xs us
  | [], xs, h => by cases h; exact .nil
  | u :: r, xs, h => by
    unfold absAll at h
    cases e1 : absV u with
    | none => rw [e1] at h; cases h
    | some x =>
      cases e2 : absAll r with
      | none => rw [e1, e2] at h; cases h
      | some t =>
        rw [e1, e2] at h
        cases h
        exact .cons (abs_rel e1) (abs_all e2)
theorem kTup_ok {K : Frag} {t : Addr} {xs : List V} (h : kTup K t = some xs) (H : Hp) : SqT K H t xs := by
  unfold kTup at h
  cases e : K.lookup t with
  | none => rw [e] at h; cases h
  | some o =>
    rw [e] at h
    obtain ⟨oc, od, dt, sl⟩ := o
    cases oc with
    | type c =>
      cases dt with
      | seq its n =>
        have h' : (if c = "tuple" ∧ its.size ≤ 1000 then absAll its.toList else none) = some xs := h
        by_cases hc : c = "tuple" ∧ its.size ≤ 1000
        · rw [if_pos hc] at h'
          obtain ⟨rfl, hz⟩ := hc
          exact .inr ⟨_, its, n, e, rfl, rfl, Nat.le_of_lt (small1000 hz), abs_all h'⟩
        · rw [if_neg hc] at h'; cases h'
      | _ => cases h
    | _ => cases h
/-- what the table tells of a text -/
theorem tab_look {K : Frag} (z : Str) : ∀ {es : List DictEntry} {T : List (Str × List V)}, kTab K es = some T →
    (∀ xs, T.lookup z = some xs → ∃ e t, es.find? (·.key.isStr z) = some e ∧ e.val = .ref t ∧ kTup K t = some xs) ∧ (T.lookup z = none → es.find? (·.key.isStr z) = none) ∧ es.any (·.refKey) = false
  | [], T, h => by cases h; exact ⟨(fun xs q => by cases q), (fun _ => rfl), rfl⟩
  | e :: r, T, h => by
    unfold kTab at h
    cases e1 : kEnt K e with
    | none => rw [e1] at h; cases h
    | some x =>
      cases e2 : kTab K r with
      | none => rw [e1, e2] at h; cases h
      | some t =>
        rw [e1, e2] at h
        cases h
        obtain ⟨ih1, ih2, ih3⟩ := tab_look z e2
        obtain ⟨k, ys⟩ := x
        obtain ⟨a, hv, hk, ht⟩ : ∃ a, e.val = .ref a ∧ kStr e.key = some k ∧ kTup K a = some ys := by
          unfold kEnt at e1
          cases hv : e.val with
          | ref a =>
            cases hk : kStr e.key with
            | none => rw [hv, hk] at e1; cases e1
            | some k' =>
              rw [hv, hk] at e1
              have e1' : (kTup K a).map (fun xs => (k', xs)) = some (k, ys) := e1
              cases ht : kTup K a with
              | none => rw [ht] at e1'; cases e1'
              | some zs => rw [ht] at e1'; cases e1'; exact ⟨a, rfl, rfl, ht⟩
          | _ => rw [hv] at e1; cases e1
        obtain ⟨tk, hkey⟩ : ∃ tk, e.key = .str k tk := by
          unfold kStr at hk
          cases q : e.key with
          | str x' t' => rw [q] at hk; cases hk; exact ⟨_, rfl⟩
          | _ => rw [q] at hk; cases hk
        have hst : e.key.isStr z = (k == z) := by rw [hkey]; rfl
        have hrf : e.refKey = false := by unfold DictEntry.refKey; rw [hkey]
        refine ⟨fun xs q => ?_, fun q => ?_, ?_⟩
        · rw [List.lookup_cons] at q
          by_cases hz : z = k
          · subst hz
            rw [beq_self_eq_true] at q
            cases q
            exact ⟨e, a, by rw [List.find?_cons_of_pos (by rw [hst]; exact beq_self_eq_true z)], hv, ht⟩
          · rw [show (z == k) = false from beq_eq_false_iff_ne.mpr hz] at q
            obtain ⟨e', t', h1, h2, h3⟩ := ih1 xs q
            exact ⟨e', t', by rw [List.find?_cons_of_neg (by rw [hst]; intro y; exact hz (beq_iff_eq.mp y).symm)]; exact h1, h2, h3⟩
        · rw [List.lookup_cons] at q
          by_cases hz : z = k
          · subst hz
            rw [beq_self_eq_true] at q
            cases q
          · rw [show (z == k) = false from beq_eq_false_iff_ne.mpr hz] at q
            rw [List.find?_cons_of_neg (by rw [hst]; intro y; exact hz (beq_iff_eq.mp y).symm)]
            exact ih2 q
        · rw [List.any_cons, hrf, ih3]; rfl
def nn : List V := [V.str "number", V.str "number"]
def table : List (Str × List V) := [((("plus" : Str)), nn), ("minus", nn), ("times", nn), ("less", nn), ("same", nn), ("do", [V.str "row"]), ("dip", [V.str "any", V.str "row"]), ("if", [V.str "number", V.str "row", V.str "row"]), ("while", [V.str "row", V.str "row"]), ("repeat", [V.str "number", V.str "row"]), ("join", [V.str "row", V.str "row"]), ("wrap", [V.str "any"]), ("put", [V.str "list", V.str "any"]), ("part", [V.str "list", V.str "row", V.str "row"]), ("each", [V.str "list", V.str "row"])]
/-- the basic words' table stands at d -/
structure Tab (K : Frag) (w : World) (mg : Str → Option Value) (d : Addr) (es : Array DictEntry) (n : Nat) : Prop where
  kd : KDict K w d es n
  tab : kTab K es.toList = some table
  mg_ : mg "SORTS_TAKEN" = some (.ref d)
theorem Tab.ns {w : World} {K : PySem.W.Frag} {mg : Str → Option Value} {d : Addr} {es : Array DictEntry} {n : Nat} (T : Tab K w mg d es n) (z : Str) : (table.lookup z = none → nsIn K d z = some none) ∧ ∀ xs, table.lookup z = some xs → ∃ t, nsIn K d z = some (some (.ref t)) ∧ kTup K t = some xs := by
  obtain ⟨h1, h2, h3⟩ := tab_look z T.tab
  constructor
  · intro q
    unfold nsIn
    rw [T.kd.at_]
    show (match es.toList.find? (·.key.isStr z) with | some e => some (some e.val) | none => if es.toList.any (·.refKey) then none else some none) = some none
    rw [h2 q]
    show (if es.toList.any (·.refKey) = true then none else some none) = some none
    rw [h3]; rfl
  · intro xs q
    obtain ⟨e, t, e1, e2, e3⟩ := h1 xs q
    refine ⟨t, ?_, e3⟩
    unfold nsIn
    rw [T.kd.at_]
    show (match es.toList.find? (·.key.isStr z) with | some e => some (some e.val) | none => if es.toList.any (·.refKey) then none else some none) = some (some (.ref t))
    rw [e1]
    show some (some e.val) = _
    rw [e2]
theorem lookup_mem {z : Str} {xs : List V} : ∀ {T : List (Str × List V)}, T.lookup z = some xs → (z, xs) ∈ T
  | (k, ys) :: r, h => by
    rw [List.lookup_cons] at h
    by_cases hz : z = k
    · subst hz; rw [beq_self_eq_true] at h; cases h; exact List.mem_cons_self ..
    · rw [show (z == k) = false from beq_eq_false_iff_ne.mpr hz] at h
      exact List.mem_cons_of_mem _ (lookup_mem h)
end Cm
namespace Cm
open PySem PySem.W L2 SX
/-- a comprehension over a text's signs with a test -/
theorem lc_txtIf {z : List Nat} (p : Nat → Bool) (f : Nat → V) {g : TG} {tt : TT} {te : TE} {vs : List Nat} {σ : St} {H1 : Hp} {D : Addr} {Qd : Hp → Prop} (hl : z.length ≤ 1000)
    (hs : ∀ c H (R : V → Hp → Prop) (R0 : Hp → Prop), c ∈ z → (p c = true → R (f c) H) → (p c = false → R0 H) → g (.str ⟨#[c]⟩) (wipe σ vs) H fun σ2 H2 => wipe σ2 vs = wipe σ vs ∧ tt σ2 H2 fun b H3 => if b = true then te σ2 H3 R else R0 H3) (hd : Qd (upd H1 D (.lst ((z.filter p).map f)))) :
    ∃ W : Nat → Nat → Hp → Prop, (∃ m, W 0 m (upd H1 D (.lst []))) ∧ ∀ i m H, W i m H →
      ((Its (S z)).stop i H ∧ Qd H) ∨ ((Its (S z)).go i H ∧ ∃ Nx : Hp → Prop, (∀ H', Nx H' → ∃ m', m' < m ∧ W (i + 1) m' H') ∧ ∀ x H', (Its (S z)).yld i H x H' → g x (wipe σ vs) H' fun σ2 H2 => wipe σ2 vs = wipe σ vs ∧ tt σ2 H2 fun b H3 =>
        if b = true then te σ2 H3 fun y H4 => ∃ acc, H4 D = some (.lst acc) ∧ acc.length < sizeLine ∧ Nx (upd H4 D (.lst (acc ++ [y]))) else Nx H3) := by
  refine lc_it (walk_str (z := S z)) (fun i H => H = upd H1 D (.lst (((z.take i).filter p).map f))) rfl (fun _ _ _ _ => trivial) ?_ ?_
  · rintro i x H H' hi rfl ⟨rfl, c, hc, rfl⟩
    have hc' : z[i]? = some c := by
      rw [← hc]; show z[i]? = (z.toArray)[i]?; rw [List.getElem?_toArray]
    refine hs c _ (fun y H4 => ∃ acc, H4 D = some (.lst acc) ∧ acc.length < sizeLine ∧ upd H4 D (.lst (acc ++ [y])) = upd H1 D (.lst (((z.take (i + 1)).filter p).map f))) (fun H4 => H4 = upd H1 D (.lst (((z.take (i + 1)).filter p).map f))) (List.mem_of_getElem? hc') (fun hp => ⟨_, upd_same, ?_, ?_⟩) (fun hp => ?_)
    · have h1 := List.length_filter_le p (z.take i)
      rw [List.length_take] at h1
      rw [List.length_map]; exact small1000 (by omega)
    · rw [upd_upd, List.take_add_one, hc', List.filter_append, List.map_append]
      show _ = upd H1 D (HO.lst (List.map f (List.filter p (List.take i z)) ++ List.map f (List.filter p [c])))
      rw [List.filter_cons_of_pos hp]; rfl
    · show _ = _
      rw [List.take_add_one, hc', List.filter_append]
      show _ = upd H1 D (HO.lst (List.map f (List.filter p (List.take i z) ++ List.filter p [c])))
      rw [List.filter_cons_of_neg (by rw [hp]; decide), List.filter_nil, List.append_nil]
  · rintro H rfl
    have e : (S z).cps.size = z.length := by show z.toArray.size = _; rw [List.size_toArray]
    rw [e, List.take_length]
    exact hd
/-- a text, or something else that the law hands in -/
def Vl (H : Hp) (v : V) : Option (List Nat) → Prop
  | some x => v = .str (S x) ∧ x.length ≤ 1000
  | none => (v = .non ∨ (∃ b, v = .bl b) ∨ (∃ i, v = .int i) ∨ (∃ a xs, v = .ref a ∧ H a = some (.lst xs)) ∨ (∃ a kvs, v = .ref a ∧ H a = some (.dK kvs))) ∨ (∃ a xs, v = .ref a ∧ H a = some (.tup xs) ∧ (xs = [] ∨ ∃ z, xs = [.str z]))
theorem Vl.same {H H' : Hp} {v : V} {o : Option (List Nat)} (h : Vl H v o) (s : Same H H') : Vl H' v o := by
  cases o with
  | some x => exact h
  | none =>
    rcases h with (h | h | h | ⟨a, xs, e, h⟩ | ⟨a, xs, e, h⟩) | ⟨a, xs, e, h, g⟩
    · exact .inl (.inl h)
    · exact .inl (.inr (.inl h))
    · exact .inl (.inr (.inr (.inl h)))
    · exact .inl (.inr (.inr (.inr (.inl ⟨a, xs, e, s _ _ h⟩))))
    · exact .inl (.inr (.inr (.inr (.inr ⟨a, xs, e, s _ _ h⟩))))
    · exact .inr ⟨a, xs, e, s _ _ h, g⟩
theorem Vl.isStr {K : Frag} {H : Hp} {v : V} {o : Option (List Nat)} (h : Vl H v o) : ∃ t, TyX K H v t ∧ kitOne K t (.type "str") = some o.isSome := by
  cases o with
  | some x => exact ⟨_, by rw [h.1]; exact .base (.str _), kit_ty (r := true) (by decide +kernel)⟩
  | none =>
    rcases h with (h | ⟨b, h⟩ | ⟨i, h⟩ | ⟨a, xs, e, h⟩ | ⟨a, xs, e, h⟩) | ⟨a, xs, e, h, g⟩
    · exact ⟨_, by rw [h]; exact .base .non, kit_ty (r := false) (by decide +kernel)⟩
    · exact ⟨_, by rw [h]; exact .base (.bl _), kit_ty (r := false) (by decide +kernel)⟩
    · exact ⟨_, by rw [h]; exact .base (.int _), kit_ty (r := false) (by decide +kernel)⟩
    · exact ⟨_, by rw [e]; exact .base (.lst h), kit_ty (r := false) (by decide +kernel)⟩
    · exact ⟨_, by rw [e]; exact .base (.dK h), kit_ty (r := false) (by decide +kernel)⟩
    · exact ⟨_, by rw [e]; exact .base (.tup h), kit_ty (r := false) (by decide +kernel)⟩
/-- no tuple, or one without, or with one part -/
theorem Vl.isTup {K : Frag} {H : Hp} {v : V} (h : Vl H v none) : (∃ t, TyX K H v t ∧ kitOne K t (.type "tuple") = some false) ∨ (∃ a xs t, v = .ref a ∧ H a = some (.tup xs) ∧ (xs = [] ∨ ∃ z, xs = [.str z]) ∧ TyX K H v t ∧ kitOne K t (.type "tuple") = some true) := by
  rcases h with (h | ⟨b, h⟩ | ⟨i, h⟩ | ⟨a, xs, e, h⟩ | ⟨a, xs, e, h⟩) | ⟨a, xs, e, h, g⟩
  · exact .inl ⟨_, by rw [h]; exact .base .non, kit_ty (r := false) (by decide +kernel)⟩
  · exact .inl ⟨_, by rw [h]; exact .base (.bl _), kit_ty (r := false) (by decide +kernel)⟩
  · exact .inl ⟨_, by rw [h]; exact .base (.int _), kit_ty (r := false) (by decide +kernel)⟩
  · exact .inl ⟨_, by rw [e]; exact .base (.lst h), kit_ty (r := false) (by decide +kernel)⟩
  · exact .inl ⟨_, by rw [e]; exact .base (.dK h), kit_ty (r := false) (by decide +kernel)⟩
  · exact .inr ⟨a, xs, _, e, h, g, by rw [e]; exact .base (.tup h), kit_ty (r := true) (by decide +kernel)⟩
/-- the small letters -/
def az : List Nat := [97, 98, 99, 100, 101, 102, 103, 104, 105, 106, 107, 108, 109, 110, 111, 112, 113, 114, 115, 116, 117, 118, 119, 120, 121, 122]
/-- whether signs are a told word's name -/
def nameB (x : List Nat) : Bool := (decide (1 ≤ x.length) && decide (x.length ≤ 8)) && ((x.map fun c => decide (c ∈ az)).all id && !(table.lookup (S x)).isSome)
/-- whether signs are a word -/
def wordB (x : List Nat) : Bool := (table.lookup (S x)).isSome || (shufB x || nameB x)
def onT (f : List Nat → Bool) : Option (List Nat) → Bool
  | some x => f x
  | none => false
theorem par_spec : ∀ (x acc t l : List Nat), TL.par [45] acc x = some (t, l) → ∃ p, t = acc ++ p ∧ x = p ++ 45 :: l ∧ 45 ∉ p
  | [], _, _, _, h => by cases h
  | c :: r, acc, t, l, h => by
    have h' : (if TL.pre [45] (c :: r) = true then some (acc, (c :: r).drop 1) else TL.par [45] (acc ++ [c]) r) = some (t, l) := h
    by_cases hp : TL.pre [45] (c :: r) = true
    · rw [if_pos hp] at h'
      cases h'
      have hc : c = 45 := by
        have := eq_of_beq hp
        exact List.head_eq_of_cons_eq this
      exact ⟨[], by simp, by rw [hc]; rfl, by simp⟩
    · rw [if_neg hp] at h'
      obtain ⟨p, e1, e2, e3⟩ := par_spec r _ _ _ h'
      refine ⟨c :: p, by rw [e1]; simp, by rw [e2]; rfl, ?_⟩
      intro z
      rcases List.mem_cons.mp z with z | z
      · exact hp (by rw [← z]; rfl)
      · exact e3 z
theorem par_no : ∀ (x acc : List Nat), TL.par [45] acc x = none → 45 ∉ x
  | [], _, _ => by simp
  | c :: r, acc, h => by
    have h' : (if TL.pre [45] (c :: r) = true then some (acc, (c :: r).drop 1) else TL.par [45] (acc ++ [c]) r) = none := h
    by_cases hp : TL.pre [45] (c :: r) = true
    · rw [if_pos hp] at h'; cases h'
    · rw [if_neg hp] at h'
      intro z
      rcases List.mem_cons.mp z with z | z
      · exact hp (by rw [← z]; rfl)
      · exact par_no r _ h' z
theorem cnt_len (x : List Nat) : PyProof.Rows.cnt 45 x = (x.count 45 : Nat) := by
  induction x with
  | nil => rfl
  | cons n r ih =>
    rw [PyProof.Rows.cnt_cons, ih, List.count_cons]
    by_cases h : n = 45
    · rw [if_pos h, h]; simp; omega
    · rw [if_neg h]; simp [h]
/-- the first stroke -/
theorem index_dash {x p q : List Nat} (hx : x = p ++ 45 :: q) (hp : 45 ∉ p) (hq : 45 ∉ q) : Txt.index0 (S x) (S [45]) = some p.length := by
  obtain ⟨f, hc⟩ := PySem.StrLaws.occ_chain (S x) (S [45]) 1
  have hm : (!(Builtin.Str.occurrences (S x) (S [45]) 0 (S x).length 1).isEmpty) = decide (45 ∈ x) := in_one x 45
  have hx' : (45 : Nat) ∈ x := by rw [hx]; exact List.mem_append.mpr (.inr (List.mem_cons_self ..))
  rw [decide_eq_true hx'] at hm
  unfold Txt.index0
  cases ho : Builtin.Str.occurrences (S x) (S [45]) 0 (S x).length 1 with
  | nil => rw [ho] at hm; cases hm
  | cons i r =>
    rw [ho] at hc
    have h2 := (TL.at_iff (x := S x) (y := S [45]) (List.cons_ne_nil _ _) i).mp hc.2.1
    have h3 : (x.drop i).take 1 = [45] := eq_of_beq h2
    show some i = some p.length
    congr 1
    have h4 : x[i]? = some 45 := by
      have := congrArg (fun l => l[0]?) h3
      simp only [List.getElem?_take, List.getElem?_drop] at this
      simpa using this
    rw [hx] at h4
    by_cases h5 : i < p.length
    · rw [List.getElem?_append_left h5] at h4
      exact absurd (List.mem_of_getElem? h4) hp
    · rw [List.getElem?_append_right (by omega)] at h4
      by_cases h6 : i - p.length = 0
      · omega
      · obtain ⟨j, hj⟩ : ∃ j, i - p.length = j + 1 := ⟨i - p.length - 1, by omega⟩
        rw [hj, List.getElem?_cons_succ] at h4
        exact absurd (List.mem_of_getElem? h4) hq
end Cm
namespace Cm
open PySem PySem.W L2 SX
/-- a text of at most n signs that a text may have -/
structure Tx (z : Str) (n : Nat) : Prop where
  len : z.length ≤ n
  ch : ∀ c ∈ z.cps.toList, c < 1114112
theorem Tx.add {a b : Str} {m n : Nat} (h : Tx a m) (g : Tx b n) : Tx (a ++ b) (m + n) := by
  refine ⟨?_, fun c hc => ?_⟩
  · have e : (a ++ b).length = a.length + b.length := by
      rw [TL.len_tl, TL.tl_append, List.length_append, ← TL.len_tl, ← TL.len_tl]
    have := h.len; have := g.len; omega
  · have e : c ∈ TL.tl a ++ TL.tl b := by rw [← TL.tl_append]; exact hc
    rcases List.mem_append.mp e with e | e
    · exact h.ch c e
    · exact g.ch c e
theorem Tx.mono {a : Str} {m n : Nat} (h : Tx a m) (l : m ≤ n) : Tx a n := ⟨Nat.le_trans h.len l, h.ch⟩
theorem Tx.cut {z : Str} {n : Nat} (h : Tx z n) (lo hi : Option Int) : Tx (cutS z lo hi) n := by
  refine ⟨Nat.le_trans (cutS_length z lo hi) h.len, fun c hc => h.ch c ?_⟩
  have e : c ∈ (z.cps.toList.drop (HT.sIx z.length 0 lo)).take (HT.sIx z.length z.length hi - HT.sIx z.length 0 lo) := hc
  exact List.mem_of_mem_drop (List.mem_of_mem_take e)
theorem Tx.at_ {z : Str} {n : Nat} (h : Tx z n) {i : Int} {c : Nat} (e : atI z.cps.toList i = some c) : Tx ⟨#[c]⟩ 1 := by
  refine ⟨Nat.le_refl 1, fun d hd => ?_⟩
  have hd' : d ∈ [c] := hd
  rw [List.mem_singleton.mp hd']
  refine h.ch c ?_
  unfold atI at e
  cases q : ixN z.cps.toList.length i with
  | none => rw [q] at e; cases e
  | some j => rw [q] at e; exact List.mem_of_getElem? e
theorem Tx.sz {z : Str} {n : Nat} (h : Tx z n) (l : n ≤ 1000 := by decide) : z.length ≤ sizeLine := Nat.le_of_lt (small1000 (Nat.le_trans h.len l))
theorem Tx.sz2 {y z : Str} {m n : Nat} (h : Tx y m) (g : Tx z n) (l : m + n ≤ 1000 := by decide) : y.length + z.length ≤ sizeLine := by
  have := h.len; have := g.len
  exact Nat.le_of_lt (small1000 (by omega))
/-- a written text -/
def litB (z : Str) (n : Nat) : Bool := decide (z.length ≤ n) && z.cps.toList.all fun c => decide (c < 1114112)
theorem Tx.lit {z : Str} {n : Nat} (h : litB z n = true) : Tx z n := by
  unfold litB at h
  rw [Bool.and_eq_true] at h
  exact ⟨of_decide_eq_true h.1, fun c hc => of_decide_eq_true (List.all_eq_true.mp h.2 c hc)⟩
theorem joinL_nil : ∀ l : List (List Nat), TL.joinL [] l = l.flatten
  | [] => rfl
  | [x] => by show x = [x].flatten; simp
  | x :: y :: r => by
    have ih := joinL_nil (y :: r)
    show x ++ ([] ++ TL.joinL [] (y :: r)) = (x :: y :: r).flatten
    rw [ih]; simp
theorem Tx.join {ys : List Str} (h : ∀ y ∈ ys, Tx y 1) : Tx (Txt.join ("" : Str) ys) ys.length := by
  have e0 : ("" : Str) = S [] := by decide +kernel
  have e1 : ys = (ys.map TL.tl).map S := by
    rw [List.map_map]
    conv => lhs; rw [← List.map_id ys]
    exact List.map_congr_left fun y _ => (S_tl y).symm
  have e2 : Txt.join ("" : Str) ys = S ((ys.map TL.tl).flatten) := by
    rw [e0]; conv => lhs; rw [e1]
    rw [join_S, joinL_nil]
  rw [e2]
  refine ⟨?_, fun c hc => ?_⟩
  · rw [S_len, List.length_flatten]
    have : ∀ l : List Str, (∀ y ∈ l, Tx y 1) → ((l.map TL.tl).map List.length).sum ≤ l.length := by
      intro l
      induction l with
      | nil => intro _; exact Nat.le_refl 0
      | cons y r ih =>
        intro hh
        have h1 := (hh y (List.mem_cons_self ..)).len
        rw [TL.len_tl] at h1
        have h2 := ih fun z hz => hh z (List.mem_cons_of_mem _ hz)
        rw [List.map_cons, List.map_cons, List.sum_cons, List.length_cons]
        omega
    exact this ys h
  · have hc' : c ∈ (ys.map TL.tl).flatten := hc
    obtain ⟨l, hl, hcl⟩ := List.mem_flatten.mp hc'
    obtain ⟨y, hy, rfl⟩ := List.mem_map.mp hl
    exact (h y hy).ch c hcl
theorem sum_one {ys : List Str} (h : ∀ y ∈ ys, Tx y 1) (l : ys.length ≤ 1000) : (ys.map (·.length)).sum + ys.length * ("" : Str).length ≤ 16777216 := by
  have e0 : ("" : Str).length = 0 := by decide +kernel
  rw [e0, Nat.mul_zero, Nat.add_zero]
  have : ∀ l : List Str, (∀ y ∈ l, Tx y 1) → (l.map (·.length)).sum ≤ l.length := by
    intro l
    induction l with
    | nil => intro _; exact Nat.le_refl 0
    | cons y r ih =>
      intro hh
      have h1 := (hh y (List.mem_cons_self ..)).len
      have h2 := ih fun z hz => hh z (List.mem_cons_of_mem _ hz)
      rw [List.map_cons, List.sum_cons, List.length_cons]
      omega
  have := this ys h
  omega
end Cm
namespace Cm
open PySem PySem.Spec PyProof.Rows L2
theorem ext_tup (l : Addr) (its : Array Value) (n : Nat) (b : Addr) (js : Array Value) (m : Nat) (dd : Option Addr) (sl : Array (Option Value)) (h0 : ¬(!its.isEmpty && Builtin.List.listTooLong (its.size + js.size)) = true) (h1 : its.size ≤ sizeLine) (h2 : its.size + js.size ≤ sizeLine + 1) :
    Meets (Builtin.«list.extend» ⟨[.ref l, .ref b], []⟩) (fun _ R s => s.heap.get? l = some { cls := .type "list", dict := none, data := .seq its n, slots := #[] } ∧ s.heap.get? b = some { cls := .type "tuple", dict := dd, data := .seq js m, slots := sl } ∧ R (.ok (.ret Value.none)) { s with heap := s.heap.update l (Obj.mapSeq fun x => x ++ js), toks := s.toks }) :=
  .of_wp fun prog w A R s h => by
    obtain ⟨hp, g, d, tk, os⟩ := s
    obtain ⟨hl, hb, h⟩ := h
    have f2 := sub_tuple_tuple; have f3 := sub_list_list; have f4 := sub_tuple_list; have f5 := sub_list_tuple; have f1 := AutoSeq1.idx_int
    have hz : (its ++ js).size ≤ sizeLine + 1 := by rw [Array.size_append]; exact h2
    wp_walk using (wpAny_updateSeq hl rfl (hz := h1) (_hz' := hz)), wpAny_loadPart' hl, wpAny_loadPart' hb
    exact ⟨_, rfl, h⟩
def rExtT (K : PySem.W.Frag) : V → List V → Hp → VK → Prop := fun x vs H Q => ∃ l b xs zs, x = .ref l ∧ vs = [.ref b] ∧ H l = some (.lst xs) ∧ SqT K H b zs ∧ xs.length + zs.length ≤ sizeLine ∧ Q .non (upd H l (.lst (xs ++ zs)))
/-- xs.extend(t), t a tuple -/
theorem mt_extT {X : Cx} : MtM X "list.extend" (rExtT X.K) := by
  intro pins s σ H x vs v us Q I rx rv h
  obtain ⟨l, b, xs, zs, rfl, rfl, hH, hB, hz, q⟩ := h
  cases rx
  obtain ⟨u, rfl, ru⟩ := rv.one
  cases ru
  obtain ⟨z, its, n, r, hl, e⟩ := I.lstM hH
  obtain ⟨js, r2, ⟨ob, e2, c2, m, d2⟩, z2⟩ := I.tuple hB
  obtain ⟨oc, od, dt, sl⟩ := ob
  cases (show oc = .type "tuple" from c2)
  cases (show dt = .seq js.toArray m from d2)
  have l2 := r2.length
  have hsz : its.toArray.size + js.toArray.size ≤ sizeLine := by rw [List.size_toArray, List.size_toArray]; omega
  have hlong : ¬ (!its.toArray.isEmpty && Builtin.List.listTooLong (its.toArray.size + js.toArray.size)) = true := by
    rw [notLongL hsz, Bool.and_false]; exact Bool.false_ne_true
  refine call_meets F.slot_list_extend ⟨_, e, rfl⟩ F.entry_list_extend (F.args_list_extend_2 _ _)
    (ext_tup l its.toArray n b js.toArray m od sl hlong (by rw [List.size_toArray]; omega) (by omega)) ⟨e, e2, ?_⟩
  refine ⟨.non, _, I.lset (its' := its ++ js) hH e (by simp) (r.append r2) ?_, rfl, q⟩
  rw [List.length_append]; omega
end Cm
namespace Cm
open PySem PySem.W L2 SX
/-! ### data of tuples, texts and numbers as it lies in the heap -/
mutual
inductive Tr (K : Frag) (H : Hp) : V → PyData → Prop
  | int (i : Int) : Tr K H (.int i) (.int i)
  | str (x : Str) : Tr K H (.str x) (.str x)
  | tup {a : Addr} {xs : List V} {ds : List PyData} : SqT K H a xs → TrAll K H xs ds → Tr K H (.ref a) (.tuple ds)
inductive TrAll (K : Frag) (H : Hp) : List V → List PyData → Prop
  | nil : TrAll K H [] []
  | cons {v : V} {vs : List V} {d : PyData} {ds : List PyData} : Tr K H v d → TrAll K H vs ds → TrAll K H (v :: vs) (d :: ds)
end
/-- tuples are kept -/
def TKs (K : Frag) (H H' : Hp) : Prop := ∀ a xs, SqT K H a xs → SqT K H' a xs
theorem TKs.refl {K : Frag} (H : Hp) : TKs K H H := fun _ _ h => h
theorem TKs.trans {K : Frag} {H H1 H2 : Hp} (a : TKs K H H1) (b : TKs K H1 H2) : TKs K H H2 := fun c x h => b c x (a c x h)
theorem TKs.of {K : Frag} {H H' : Hp} (s : Same H H') : TKs K H H' := fun a xs h => by
  rcases h with (h | ⟨o, h⟩) | h
  · exact .inl (.inl (s _ _ h))
  · exact .inl (.inr ⟨o, s _ _ h⟩)
  · exact .inr h
theorem TKs.kp {K : Frag} {L : List Addr} {H H' : Hp} (k : Kp L H H') (hl : ∀ b ∈ L, ∃ xs, H b = some (.lst xs)) : TKs K H H' := fun a xs h => by
  have nm : ∀ o, H a = some o → (∀ ys, o ≠ .lst ys) → a ∉ L := fun o e n z => by
    obtain ⟨ys, ey⟩ := hl a z
    rw [ey] at e
    exact n ys (Option.some.inj e).symm
  rcases h with (h | ⟨o, h⟩) | h
  · exact .inl (.inl (k _ _ (nm _ h (fun _ z => by cases z)) h))
  · exact .inl (.inr ⟨o, k _ _ (nm _ h (fun _ z => by cases z)) h⟩)
  · exact .inr h
theorem TKs.lst {K : Frag} {H : Hp} {d : Addr} {xs ys : List V} (h : H d = some (.lst xs)) : TKs K H (upd H d (.lst ys)) :=
  TKs.kp (L := [d]) (fun b o m e => by rw [upd_ne (fun z => m (List.mem_singleton.mpr z))]; exact e) (fun b hb => by rw [List.mem_singleton.mp hb]; exact ⟨xs, h⟩)
mutual
theorem Tr.mono {K : Frag} {H H' : Hp} (k : TKs K H H') : ∀ {v : V} {d : PyData}, Tr K H v d → Tr K H' v d
  | _, _, .int i => .int i
  | _, _, .str x => .str x
  | _, _, .tup h t => .tup (k _ _ h) (TrAll.mono k t)
theorem TrAll.mono {K : Frag} {H H' : Hp} (k : TKs K H H') : ∀ {v : List V} {d : List PyData}, TrAll K H v d → TrAll K H' v d
  | _, _, .nil => .nil
  | _, _, .cons h t => .cons (Tr.mono k h) (TrAll.mono k t)
end
mutual
theorem Tr.dp {K : Frag} {H : Hp} : ∀ {v : V} {d : PyData}, Tr K H v d → Dp K H v d
  | _, _, .int i => .int i
  | _, _, .str x => .str x
  | _, _, .tup h t => .tup h (TrAll.dp t)
theorem TrAll.dp {K : Frag} {H : Hp} : ∀ {v : List V} {d : List PyData}, TrAll K H v d → DpAll K H v d
  | _, _, .nil => .nil
  | _, _, .cons h t => .cons (Tr.dp h) (TrAll.dp t)
end
theorem TrAll.len {K : Frag} {H : Hp} : ∀ {v : List V} {d : List PyData}, TrAll K H v d → v.length = d.length
  | _, _, .nil => rfl
  | _, _, .cons _ t => congrArg (· + 1) (TrAll.len t)
theorem TrAll.append {K : Frag} {H : Hp} : ∀ {v v' : List V} {d d' : List PyData}, TrAll K H v d → TrAll K H v' d' → TrAll K H (v ++ v') (d ++ d')
  | _, _, _, _, .nil, h => h
  | _, _, _, _, .cons h t, h' => .cons h (TrAll.append t h')
theorem TrAll.get {K : Frag} {H : Hp} : ∀ {v : List V} {d : List PyData} {i : Nat} {x : V}, TrAll K H v d → v[i]? = some x → ∃ y, d[i]? = some y ∧ Tr K H x y
  | _, _, i, x, .nil, h => by simp at h
  | _, _, 0, x, .cons h t, e => ⟨_, rfl, by cases e; exact h⟩
  | _, _, i + 1, x, .cons h t, e => by
    rw [List.getElem?_cons_succ] at e ⊢
    exact TrAll.get t e
theorem TrAll.snoc {K : Frag} {H : Hp} {v : List V} {d : List PyData} {x : V} (h : TrAll K H (v ++ [x]) d) : ∃ d' y, d = d' ++ [y] ∧ TrAll K H v d' ∧ Tr K H x y := by
  induction v generalizing d with
  | nil =>
    cases h with
    | cons a b => cases b; exact ⟨[], _, rfl, .nil, a⟩
  | cons u r ih =>
    cases h with
    | cons a b =>
      obtain ⟨d', y, rfl, h1, h2⟩ := ih b
      exact ⟨_ :: d', y, rfl, .cons a h1, h2⟩
/-! ### things, rows, stacks: depth, words in all, size -/
mutual
inductive Thg : Nat → Nat → Nat → PyData → Prop
  | num {k : Nat} (n : Int) (h0 : 0 ≤ n) (h1 : n < 10 ^ 12) : Thg k 0 1 (.tuple [.str "number", .int n])
  | row {k k' w m : Nat} {ws : List PyData} : Rw k w m ws → k < k' → Thg k' w (m + 1) (.tuple [.str "row", .tuple ws])
  | lst {k k' w m : Nat} {ts : List PyData} : Stk k w m ts → k < k' → Thg k' w (m + 1) (.tuple [.str "list", .tuple ts])
inductive Rw : Nat → Nat → Nat → List PyData → Prop
  | nil {k : Nat} : Rw k 0 0 []
  | txt {k w m : Nat} {z : Str} {ws : List PyData} : Tx z 100 → Rw k w m ws → Rw k (w + 1) (m + 1) (.str z :: ws)
  | push {k w m w' m' : Nat} {t : PyData} {ws : List PyData} : Thg k w m t → Rw k w' m' ws → Rw k (w + w' + 1) (m + m' + 1) (.tuple [.str "push", t] :: ws)
inductive Stk : Nat → Nat → Nat → List PyData → Prop
  | nil {k : Nat} : Stk k 0 0 []
  | cons {k w m w' m' : Nat} {t : PyData} {ts : List PyData} : Thg k w m t → Stk k w' m' ts → Stk k (w + w') (m + m') (t :: ts)
end
theorem Thg.up {k k' w m : Nat} {t : PyData} (h : Thg k w m t) (l : k ≤ k') : Thg k' w m t := by
  cases h with
  | num n h0 h1 => exact .num n h0 h1
  | row h q => exact .row h (Nat.lt_of_lt_of_le q l)
  | lst h q => exact .lst h (Nat.lt_of_lt_of_le q l)
theorem Rw.up {k k' : Nat} (l : k ≤ k') : ∀ {ws : List PyData} {w m : Nat}, Rw k w m ws → Rw k' w m ws
  | _, _, _, .nil => .nil
  | _, _, _, .txt h t => .txt h (Rw.up l t)
  | _, _, _, .push h t => .push (h.up l) (Rw.up l t)
theorem Stk.up {k k' : Nat} (l : k ≤ k') : ∀ {ws : List PyData} {w m : Nat}, Stk k w m ws → Stk k' w m ws
  | _, _, _, .nil => .nil
  | _, _, _, .cons h t => .cons (h.up l) (Stk.up l t)
theorem Rw.append {k : Nat} : ∀ {a b : List PyData} {w m w' m' : Nat}, Rw k w m a → Rw k w' m' b → Rw k (w + w') (m + m') (a ++ b)
  | _, _, _, _, _, _, .nil, h => by rw [Nat.zero_add, Nat.zero_add]; exact h
  | _, _, _, _, w', m', .txt (w := w) (m := m) h t, h' => by
    have := Rw.txt h (Rw.append t h')
    rw [show w + 1 + w' = w + w' + 1 by omega, show m + 1 + m' = m + m' + 1 by omega]
    exact this
  | _, _, _, _, w', m', .push (w := w) (m := m) (w' := x) (m' := y) h t, h' => by
    have := Rw.push h (Rw.append t h')
    rw [show w + x + 1 + w' = w + (x + w') + 1 by omega, show m + y + 1 + m' = m + (y + m') + 1 by omega]
    exact this
theorem Stk.append {k : Nat} : ∀ {a b : List PyData} {w m w' m' : Nat}, Stk k w m a → Stk k w' m' b → Stk k (w + w') (m + m') (a ++ b)
  | _, _, _, _, _, _, .nil, h => by rw [Nat.zero_add, Nat.zero_add]; exact h
  | _, _, _, _, _, _, .cons h t, h' => by
    rw [Nat.add_assoc, Nat.add_assoc]; exact .cons h (Stk.append t h')
theorem Stk.snoc {k : Nat} : ∀ {a : List PyData} {t : PyData} {w m : Nat}, Stk k w m (a ++ [t]) → ∃ w1 m1 w2 m2, Stk k w1 m1 a ∧ Thg k w2 m2 t ∧ w = w1 + w2 ∧ m = m1 + m2
  | [], t, w, m, h => by
    have h' : Stk k w m [t] := h
    cases h' with
    | cons a b => cases b; exact ⟨0, 0, _, _, .nil, a, by omega, by omega⟩
  | x :: r, t, w, m, h => by
    have h' : Stk k w m (x :: (r ++ [t])) := h
    cases h' with
    | cons a q =>
      obtain ⟨w1, m1, w2, m2, a', b, rfl, rfl⟩ := Stk.snoc q
      exact ⟨_, _, w2, m2, .cons a a', b, by omega, by omega⟩
theorem Thg.pos {k w m : Nat} {t : PyData} (h : Thg k w m t) : 1 ≤ m := by
  cases h <;> omega
theorem Stk.len {k : Nat} : ∀ {a : List PyData} {w m : Nat}, Stk k w m a → a.length ≤ m
  | _, _, _, .nil => Nat.le_refl 0
  | _, _, _, .cons h t => by
    have h1 := Stk.len t
    have h2 := h.pos
    rw [List.length_cons]; omega
theorem Rw.len {k : Nat} : ∀ {a : List PyData} {w m : Nat}, Rw k w m a → a.length ≤ m
  | _, _, _, .nil => Nat.le_refl 0
  | _, _, _, .txt h t => by have := Rw.len t; rw [List.length_cons]; omega
  | _, _, _, .push h t => by have := Rw.len t; rw [List.length_cons]; omega
/-- what a word pushes -/
def psh : PyData → Option PyData
  | .tuple [_, t] => some t
  | _ => none
theorem Rw.psh {k : Nat} : ∀ {ws : List PyData} {w m : Nat}, Rw k w m ws → ∃ w' m', Stk k w' m' (ws.filterMap psh) ∧ w = ws.length + w' ∧ m' ≤ m
  | _, _, _, .nil => ⟨0, 0, .nil, rfl, Nat.le_refl 0⟩
  | _, _, _, .txt h t => by
    obtain ⟨w', m', a, b, c⟩ := Rw.psh t
    exact ⟨w', m', a, by rw [List.length_cons]; omega, by omega⟩
  | _, _, _, .push h t => by
    obtain ⟨w', m', a, b, c⟩ := Rw.psh t
    exact ⟨_, _, .cons h a, by rw [List.length_cons]; omega, by omega⟩
theorem Rw.at_ {k : Nat} : ∀ {ws : List PyData} {w m i : Nat} {d : PyData}, Rw k w m ws → ws[i]? = some d → (∃ z, d = .str z) ∨ (∃ t, d = .tuple [.str "push", t])
  | _, _, _, i, d, .nil, h => by simp at h
  | _, _, _, 0, d, .txt (z := z) h t, e => .inl ⟨z, by cases e; rfl⟩
  | _, _, _, 0, d, .push (t := t) h _, e => .inr ⟨t, by cases e; rfl⟩
  | _, _, _, i + 1, d, .txt h t, e => Rw.at_ t e
  | _, _, _, i + 1, d, .push h t, e => Rw.at_ t e
theorem mid {n : Nat} (h : n ≤ 1000000) : n ≤ sizeLine := Nat.le_trans h (by decide)
theorem midlt {n : Nat} (h : n < 1000000) : n < sizeLine := Nat.lt_of_lt_of_le h (by decide)
theorem tyTup {K : Frag} {H : Hp} {a : Addr} {xs : List V} (h : SqT K H a xs) : TyX K H (.ref a) (.type "tuple") := by
  rcases h with (h | ⟨o, h⟩) | ⟨o, _, _, e, c, _⟩
  · exact .base (.tup h)
  · exact .fTuple h
  · exact .kTuple e c
mutual
theorem Thg.lay : ∀ {k w m : Nat} {t : PyData}, Thg k w m t → PyData.canLay0 t = true ∧ PyData.depth t ≤ 3 * k + 1
  | k, _, _, _, .num n h0 h1 => ⟨by show (PyData.canLay0 (.str "number") && (true && true)) = true; decide +kernel, Nat.le_add_left 1 _⟩
  | k', _, _, _, .row (k := k) (ws := ws) h l => by
    obtain ⟨a, b⟩ := Rw.lay h
    refine ⟨?_, ?_⟩
    · show (PyData.canLay0 (.str "row") && (PyData.canLayAll0 ws && true)) = true
      rw [a]; decide +kernel
    · show max 0 (max (PyData.depthAll ws + 1) 0) + 1 ≤ _
      omega
  | k', _, _, _, .lst (k := k) (ts := ts) h l => by
    obtain ⟨a, b⟩ := Stk.lay h
    refine ⟨?_, ?_⟩
    · show (PyData.canLay0 (.str "list") && (PyData.canLayAll0 ts && true)) = true
      rw [a]; decide +kernel
    · show max 0 (max (PyData.depthAll ts + 1) 0) + 1 ≤ _
      omega
theorem Rw.lay : ∀ {k w m : Nat} {ws : List PyData}, Rw k w m ws → PyData.canLayAll0 ws = true ∧ PyData.depthAll ws ≤ 3 * k + 2
  | k, _, _, _, .nil => ⟨rfl, Nat.zero_le _⟩
  | k, _, _, _, .txt (z := z) (ws := ws) h t => by
    obtain ⟨a, b⟩ := Rw.lay t
    refine ⟨?_, ?_⟩
    · show (z.cps.all (· < 0x110000) && PyData.canLayAll0 ws) = true
      rw [a, Bool.and_true, ← Array.all_toList, List.all_eq_true]
      intro c hc
      exact decide_eq_true (h.ch c hc)
    · show max 0 (PyData.depthAll ws) ≤ _
      omega
  | k, _, _, _, .push (t := t) (ws := ws) h r => by
    obtain ⟨a, b⟩ := Rw.lay r
    obtain ⟨a', b'⟩ := Thg.lay h
    refine ⟨?_, ?_⟩
    · show ((PyData.canLay0 (.str "push") && (PyData.canLay0 t && true)) && PyData.canLayAll0 ws) = true
      rw [a, a']; decide +kernel
    · show max (max 0 (max (PyData.depth t) 0) + 1) (PyData.depthAll ws) ≤ _
      omega
theorem Stk.lay : ∀ {k w m : Nat} {ts : List PyData}, Stk k w m ts → PyData.canLayAll0 ts = true ∧ PyData.depthAll ts ≤ 3 * k + 1
  | k, _, _, _, .nil => ⟨rfl, Nat.zero_le _⟩
  | k, _, _, _, .cons (t := t) (ts := ts) h r => by
    obtain ⟨a, b⟩ := Stk.lay r
    obtain ⟨a', b'⟩ := Thg.lay h
    refine ⟨?_, ?_⟩
    · show (PyData.canLay0 t && PyData.canLayAll0 ts) = true
      rw [a, a']; rfl
    · show max (PyData.depth t) (PyData.depthAll ts) ≤ _
      omega
end
theorem Stk.shaped {k w m : Nat} {ts : List PyData} (h : Stk k w m ts) (l : k ≤ 20) : SeqAt.shaped (.list ts) = true := by
  obtain ⟨a, b⟩ := h.lay
  show (PyData.canLayAll0 ts && decide (PyData.depthAll ts + 1 ≤ 64)) = true
  rw [a, Bool.true_and]; exact decide_eq_true (by omega)
end Cm
namespace K03
open PySem PySem.W L2 SX Cm
def top (i : Nat) : Stmt := PySem.Challenge.pw_takeleave_k03_words_in_all.main.body.getD i (.Pass ⟨0, 0, 0, 0⟩)
abbrev sWords : Stmt := top 1
abbrev sMixed : Stmt := top 3
abbrev sDeck : Stmt := top 4
abbrev sTake : Stmt := top 5
abbrev sNumber : Stmt := top 6
abbrev sName : Stmt := top 7
abbrev sShuffle : Stmt := top 8
abbrev sThing : Stmt := top 9
abbrev sStack : Stmt := top 10
abbrev sWord : Stmt := top 11
abbrev sRow : Stmt := top 12
abbrev sCount : Stmt := top 13
abbrev sLaw : Stmt := top 14
/-- a deck stands at d, its cells at c -/
structure Deck (H : Hp) (d c : Addr) : Prop where
  ne : d ≠ c
  at_ : ∃ (s k : Int), H d = some (.lst [.ref c, .int s, .int k])
  cells : ∃ ms : List Int, H c = some (.lst (ms.map V.int)) ∧ ms.length ≤ 1000
theorem Deck.new {H : Hp} {d c p : Addr} {o : HO} (D : Deck H d c) (h : H p = none) : Deck (upd H p o) d c := by
  obtain ⟨s, k, e⟩ := D.at_
  obtain ⟨ms, e2, l⟩ := D.cells
  exact ⟨D.ne, ⟨s, k, kn e h⟩, ms, kn e2 h, l⟩
theorem Deck.same {H H' : Hp} {d c : Addr} (D : Deck H d c) (s : Same H H') : Deck H' d c := by
  obtain ⟨a, k, e⟩ := D.at_
  obtain ⟨ms, e2, l⟩ := D.cells
  exact ⟨D.ne, ⟨a, k, s _ _ e⟩, ms, s _ _ e2, l⟩
theorem Deck.nd {H : Hp} {d c p : Addr} (D : Deck H d c) (h : H p = none) : p ∉ [d, c] := by
  obtain ⟨a, k, e⟩ := D.at_
  obtain ⟨ms, e2, l⟩ := D.cells
  intro z
  rcases List.mem_cons.mp z with z | z
  · rw [z, e] at h; cases h
  · rw [List.mem_singleton.mp z, e2] at h; cases h
theorem Deck.put {H : Hp} {d c p : Addr} {o : HO} (D : Deck H d c) (h : p ∉ [d, c]) : Deck (upd H p o) d c := by
  obtain ⟨s, k, e⟩ := D.at_
  obtain ⟨ms, e2, l⟩ := D.cells
  have h1 : d ≠ p := fun z => h (by rw [← z]; exact List.mem_cons_self ..)
  have h2 : c ≠ p := fun z => h (by rw [← z]; exact List.mem_cons_of_mem _ (List.mem_singleton.mpr rfl))
  exact ⟨D.ne, ⟨s, k, by rw [upd_ne h1]; exact e⟩, ms, by rw [upd_ne h2]; exact e2, l⟩
section
variable {P : Program} {w : World} {K : PySem.W.Frag} {mg : Str → Option Value} {base : Heap}
def spMixed : Sp := fun vs H Q _ => ∃ n k : Int, vs = [.int n, .int k] ∧ ∀ m : Int, Q (.int m) H
theorem scMixed : FnScope ["_law_cell", "_law_k", "_law_number_here"] ["_law_cell", "_law_k"] (defScope sMixed) := ⟨rfl, rfl, rfl, by decide +kernel, rfl, by decide +kernel, by decide +kernel⟩
theorem ok_mixed {f : Addr} {fd : FuncData} (F : Fun K "_law_mixed" "_law_mixed" sMixed f fd) : FnOk P w K mg base CX0 1 f fd ["_law_cell", "_law_k"] spMixed := by
  refine F.ok scMixed (fun vs H Q E h => ?_) (fun cdv A outer s H vs Q E hr h => ?_)
  · obtain ⟨n, k, rfl, _⟩ := h
    rfl
  obtain ⟨n, k, rfl, q⟩ := h
  refine ⟨_, pss_cons (ps_set (i := 2) scMixed.nd rfl (.inl rfl) (pe_op op_mod (pe_op op_mul (pe_op op_add (pe_op op_add (pe_op op_mod (pv 0) pe_int) (pe_op op_mul pe_int (pv 1))) pe_int) pe_int) pe_int))
    (pss_cons (ps_set (i := 2) scMixed.nd rfl (.inl rfl) (pe_op op_mod (pe_op op_add (pe_op op_add (pe_op op_mul (pv 2) (pv 2)) (pe_op op_mul pe_int (pv 1))) pe_int) pe_int))
    (pss_one (ps_ret (pe_op op_add (pe_op op_mul (pv 2) pe_int) (pe_op op_mod (pe_op op_add (pe_op op_add (pe_op op_mul (pv 2) (pv 2)) (pe_op op_mul pe_int (pv 2))) (pv 1)) pe_int))))), ?_⟩
  refine ⟨_, rfl, _, _, rfl, rfl, (by show (0 : Int) < 2147483629; decide), _, rfl, _, _, rfl, rfl, .inl ⟨by decide, by decide⟩, _, _, rfl, rfl, _, _, rfl, rfl, _, _, rfl, rfl, .inr ⟨by decide, by decide⟩, _, _, rfl, rfl, (by show (0 : Int) < 2147483647; decide), ?_⟩
  generalize e1 : ((n % 2147483629 + 7919 * k + 1) * 48271) % 2147483647 = n1
  have b1 : 0 ≤ n1 ∧ n1 < 2147483647 := by
    constructor
    · rw [← e1]; exact Int.emod_nonneg _ (by decide)
    · rw [← e1]; exact Int.emod_lt_of_pos _ (by decide)
  refine ⟨_, rfl, _, rfl, _, _, rfl, rfl, .inl ⟨by omega, by omega⟩, _, rfl, _, _, rfl, rfl, .inl ⟨by decide, by decide⟩, _, _, rfl, rfl, _, _, rfl, rfl, _, _, rfl, rfl, (by show (0 : Int) < 2147483587; decide), ?_⟩
  generalize e2 : (n1 * n1 + 69621 * k + 7) % 2147483587 = n2
  have b2 : 0 ≤ n2 ∧ n2 < 2147483587 := by
    constructor
    · rw [← e2]; exact Int.emod_nonneg _ (by decide)
    · rw [← e2]; exact Int.emod_lt_of_pos _ (by decide)
  refine ⟨_, rfl, _, _, rfl, rfl, .inr ⟨by decide, by decide⟩, _, rfl, _, rfl, _, _, rfl, rfl, .inl ⟨by omega, by omega⟩, _, rfl, _, _, rfl, rfl, .inl ⟨by decide, by decide⟩, _, _, rfl, rfl, _, rfl, _, _, rfl, rfl, _, _, rfl, rfl, (by show (0 : Int) < 2147483563; decide), _, _, rfl, rfl, ?_⟩
  exact q _
def spDeck (K : PySem.W.Frag) : Sp := fun vs H Q _ => ∃ (a : Addr) (ns : List Int), vs = [.ref a] ∧ SqL K H a (ns.map V.int) ∧ ns.length ≤ 63 ∧
  ∀ (d c : Addr) (H' : Hp), Same H H' → H d = none → H c = none → Deck H' d c → Q (.ref d) H'
theorem scDeck : FnScope ["_law_script"] ["_law_script"] (defScope sDeck) := ⟨rfl, rfl, rfl, by decide +kernel, rfl, by decide +kernel, by decide +kernel⟩
theorem ok_deck {f : Addr} {fd : FuncData} (F : Fun K "_law_deck" "_law_deck" sDeck f fd) (mlist : mg "list" = none) (mrev : mg "reversed" = none) (msum : mg "sum" = none) (mlen : mg "len" = none) : FnOk P w K mg base CX0 1 f fd ["_law_script"] (spDeck K) := by
  refine F.ok scDeck (fun vs H Q E h => ?_) (fun cdv A outer s H vs Q E hr h => ?_)
  · obtain ⟨a, ns, rfl, _⟩ := h
    rfl
  obtain ⟨a, ns, rfl, hS, h63, q⟩ := h
  refine ⟨_, pss_one (ps_ret (pe_lst (pa_cons (pe_lstRev rfl (by rfl) mlist (by rfl) mrev (pe_slice sl_list (pv 0) po_none (po_some pe_int)))
    (pa_cons (pe_op op_add (pe_callB (cr_sum rfl) (by rfl) msum PyProof.Rows.boot_sum (pa_cons (pe_slice sl_list (pv 0) po_none (po_some pe_int)) pa_nil)) (pe_callB call_len_seq (by rfl) mlen PySem.boot_len (pa_cons (pe_slice sl_list (pv 0) po_none (po_some pe_int)) pa_nil)))
    (pa_cons pe_int pa_nil))))), ?_⟩
  obtain ⟨ds, e1, l1⟩ := cut_map V.int ns none (some 63)
  refine ⟨_, rfl, 63, rfl, a, _, rfl, hS, fun p1 n1 => ?_⟩
  rw [e1]
  have s1 : Same H (upd H p1 (.lst (ds.map V.int))) := same_new n1 _
  refine ⟨p1, _, rfl, SqL.of upd_same, fun c nc => ?_⟩
  have s2 := s1.trans (same_new nc (.lst (ds.map V.int).reverse))
  refine ⟨_, rfl, 63, rfl, a, _, rfl, s2.seq hS, fun p2 n2 => ?_⟩
  rw [e1]
  have s3 := s2.trans (same_new n2 (.lst (ds.map V.int)))
  refine ⟨p2, ds, rfl, SqL.of upd_same, _, rfl, 63, rfl, a, _, rfl, s3.seq hS, fun p3 n3 => ?_⟩
  rw [e1]
  have s4 := s3.trans (same_new n3 (.lst (ds.map V.int)))
  refine ⟨p3, _, rfl, .inl (SqL.of upd_same), _, _, rfl, rfl, (by show 3 ≤ sizeLine; decide), fun d nd => ?_⟩
  have ec := kn (o' := .lst (ds.map V.int)) (kn (o' := .lst (ds.map V.int)) (upd_same (H := upd H p1 (.lst (ds.map V.int))) (a := c) (o := .lst (ds.map V.int).reverse)) n2) n3
  refine q d c _ (s4.trans (same_new nd _)) (s4.free nd) (s1.free nc) ⟨(ne_of_none ec nd).symm, ⟨_, _, upd_same⟩, ds.reverse, ?_, ?_⟩
  · rw [List.map_reverse]; exact kn ec nd
  · rw [List.length_reverse]; omega
def spTake : Sp := fun vs H Q _ => ∃ (d c : Addr) (m : Int), vs = [.ref d, .int m] ∧ Deck H d c ∧ 0 < m ∧ m < 2 ^ 64 ∧
  ∀ (r : Int) (H' : Hp), 0 ≤ r → r < m → Kp [d, c] H H' → Deck H' d c → Q (.int r) H'
theorem scTake : FnScope ["_law_deck_here", "_law_most", "_law_cells", "_law_cell"] ["_law_deck_here", "_law_most"] (defScope sTake) := ⟨rfl, rfl, rfl, by decide +kernel, rfl, by decide +kernel, by decide +kernel⟩
theorem ok_take {f g : Addr} {fd gd : FuncData} (F : Fun K "_law_take" "_law_take" sTake f fd) (G : FnOk P w K mg base CX0 1 g gd ["_law_cell", "_law_k"] spMixed) (bG : Binds K gd ["_law_cell", "_law_k"] []) (kG : PySem.W.keepIn K (.ref g) = true) (mG : mg "_law_mixed" = some (.ref g)) :
    FnOk P w K mg base CX0 2 f fd ["_law_deck_here", "_law_most"] spTake := by
  refine F.ok scTake (fun vs H Q E h => ?_) (fun cdv A outer s H vs Q E hr h => ?_)
  · obtain ⟨d, c, m, rfl, _⟩ := h
    rfl
  obtain ⟨d, c, m, rfl, D, m0, m1, q⟩ := h
  obtain ⟨sm, k, hd⟩ := D.at_
  obtain ⟨ms, hc, hl⟩ := D.cells
  have dm : d ∈ [d, c] := List.mem_cons_self ..
  have cm : c ∈ [d, c] := List.mem_cons_of_mem _ (List.mem_singleton.mpr rfl)
  refine ⟨_, pss_cons (ps_set (i := 2) scTake.nd rfl (.inl rfl) (pe_ix ix_list (pv 0) pe_int (fun _ _ => rfl)))
    (pss_cons (ps_asg (pe_op op_add (pe_ix ix_list (pv 0) pe_int (fun _ _ => rfl)) pe_int) (pg_sub (pv 0) pe_int set_list))
    (pss_cons (ps_if (pt_cmpR (op_eqD hr.units) (pv 2) (pe_lst pa_nil) (nomark _)) (pss_one (ps_ret (pe_op op_mod (pe_call G hr rfl mG kG bG .nil pass0 (pa_cons (pe_ix ix_list (pv 0) pe_int (fun _ _ => rfl)) (pa_cons (pe_ix ix_list (pv 0) pe_int (fun _ _ => rfl)) pa_nil))) (pv 1)))) pss_nil)
    (pss_cons (ps_set (i := 3) scTake.nd rfl (.inl rfl) (pe_bm0 PySem.F.plainAttrs_list PySem.F.slot_list_pop PySem.F.type_list_pop mt_pop (pv 2)))
    (pss_cons (ps_if (pt_cmpR op_lt (pv 3) (pe_op op_pow pe_int pe_int) (nomark _)) (pss_one (ps_ret (pe_op op_mod (pe_call G hr rfl mG kG bG .nil pass0 (pa_cons (pv 3) (pa_cons (pe_ix ix_list (pv 0) pe_int (fun _ _ => rfl)) pa_nil))) (pv 1)))) pss_nil)
    (pss_cons (ps_if (pt_cmpR op_gt (pe_op op_fdivW (pv 3) (pv 1)) pe_int (nomark _)) (pss_one (ps_expr (pe_bm PySem.F.plainAttrs_list PySem.F.slot_list_append PySem.F.type_list_append mt_append (pv 2) (pa_cons (pe_op op_fdivW (pv 3) (pv 1)) pa_nil)))) pss_nil)
    (pss_one (ps_ret (pe_op op_mod (pv 3) (pv 1))))))))), ?_⟩
  have ix : ∀ (j : Nat) (v : V) (k' : Int), [V.ref c, .int sm, .int k'][j]? = some v → atI [V.ref c, .int sm, .int k'] (j : Int) = some v := fun j v k' h => atI_nat h
  refine ⟨_, rfl, d, _, _, _, rfl, rfl, SqL.of hd, ix 0 _ k rfl, ?_⟩
  refine ⟨_, rfl, d, _, _, _, rfl, rfl, SqL.of hd, ix 2 _ k rfl, _, _, rfl, rfl, _, rfl, d, _, _, 2, rfl, rfl, hd, rfl, ?_⟩
  have hd1 : upd H d (.lst [.ref c, .int sm, .int (k + 1)]) d = some (.lst [.ref c, .int sm, .int (k + 1)]) := upd_same
  have hc1 : upd H d (.lst [.ref c, .int sm, .int (k + 1)]) c = some (.lst (ms.map V.int)) := by rw [upd_ne D.ne.symm]; exact hc
  have k1 : Kp [d, c] H (upd H d (.lst [.ref c, .int sm, .int (k + 1)])) := (Kp.refl _ H).own dm
  show tSeq _ _ _ _ (upd H d (.lst [.ref c, .int sm, .int (k + 1)]))
  generalize upd H d (.lst [.ref c, .int sm, .int (k + 1)]) = H1 at hd1 hc1 k1
  refine ⟨_, rfl, (by show 0 ≤ sizeLine; decide), fun p hp => ?_⟩
  have k2 : Kp [d, c] H (upd H1 p (.lst [])) := k1.new hp
  have hd2 := kn (o' := .lst []) hd1 hp
  have hc2 := kn (o' := .lst []) hc1 hp
  refine ⟨_, _, .lst (SqL.of hc2) (dp_ints ms), .lst (SqL.of upd_same) .nil, Cm.shaped_ints ms, rfl, _, rfl, ?_⟩
  generalize upd H1 p (.lst []) = H2 at hd2 hc2 k2
  rcases List.eq_nil_or_concat ms with rfl | ⟨ns, n, rfl⟩
  · refine iteT ?_
    refine ⟨_, rfl, d, _, _, _, rfl, rfl, SqL.of hd2, ix 1 _ (k + 1) rfl, _, rfl, d, _, _, _, rfl, rfl, SqL.of hd2, ix 2 _ (k + 1) rfl, _, _, rfl, fun r => ?_⟩
    refine ⟨_, rfl, _, _, rfl, rfl, m0, ?_⟩
    exact q _ _ (Int.emod_nonneg _ (by omega)) (Int.emod_lt_of_pos _ m0) k2 ⟨D.ne, ⟨_, _, hd2⟩, [], hc2, by decide⟩
  · have ne : PyData.eqv (.list ((ns.concat n).map PyData.int)) (.list []) = false := by
      cases ns with
      | nil => rfl
      | cons x r => rfl
    rw [ne]
    refine iteF ?_
    rw [List.length_concat] at hl
    have hq : (((ns.concat n).map V.int) : List V)[((ns.concat n).map V.int).length - 1]? = some (V.int n) := by
      rw [List.concat_eq_append, List.map_append, List.length_append]
      simp
    have hdl : ((ns.concat n).map V.int).dropLast = ns.map V.int := by
      rw [List.concat_eq_append, List.map_append]
      simp
    refine ⟨_, rfl, .inl ⟨rfl, _, SqL.of hc2⟩, c, _, _, rfl, rfl, hc2, hq, ?_⟩
    rw [hdl]
    have hd3 : upd H2 c (.lst (ns.map V.int)) d = some (.lst [.ref c, .int sm, .int (k + 1)]) := by rw [upd_ne D.ne]; exact hd2
    have k3 : Kp [d, c] H (upd H2 c (.lst (ns.map V.int))) := k2.own cm
    refine ⟨_, rfl, _, _, rfl, rfl, ⟨by decide, by decide, by decide⟩, _, _, rfl, rfl, _, rfl, ?_⟩
    refine ite2 (fun _ => ?_) (fun _ => ?_)
    · refine ⟨_, rfl, _, rfl, d, _, _, _, rfl, rfl, SqL.of hd3, ix 2 _ (k + 1) rfl, _, _, rfl, fun r => ?_⟩
      refine ⟨_, rfl, _, _, rfl, rfl, m0, ?_⟩
      exact q _ _ (Int.emod_nonneg _ (by omega)) (Int.emod_lt_of_pos _ m0) k3 ⟨D.ne, ⟨_, _, hd3⟩, ns, upd_same, by omega⟩
    · refine ⟨_, rfl, _, rfl, _, _, rfl, rfl, wide_div m0 (b := 64) (by omega) (by decide) (by decide), _, _, rfl, rfl, _, rfl, ?_⟩
      refine ite2 (fun _ => ?_) (fun _ => ?_)
      · refine ⟨_, rfl, .inl ⟨rfl, _, SqL.of upd_same⟩, _, rfl, _, rfl, _, _, rfl, rfl, wide_div m0 (b := 64) (by omega) (by decide) (by decide), c, _, _, rfl, rfl, upd_same, by rw [List.length_map]; exact small1000 (by omega), ?_⟩
        refine ⟨_, rfl, _, rfl, _, _, rfl, rfl, m0, ?_⟩
        refine q _ _ (Int.emod_nonneg _ (by omega)) (Int.emod_lt_of_pos _ m0) (k3.own cm) ⟨D.ne, ⟨_, _, by rw [upd_ne D.ne]; exact hd3⟩, ns ++ [n / m], ?_, ?_⟩
        · rw [upd_same, List.map_append]; rfl
        · rw [List.length_append, List.length_singleton]; omega
      · refine ⟨_, rfl, _, rfl, _, _, rfl, rfl, m0, ?_⟩
        exact q _ _ (Int.emod_nonneg _ (by omega)) (Int.emod_lt_of_pos _ m0) k3 ⟨D.ne, ⟨_, _, hd3⟩, ns, upd_same, by omega⟩
end
end K03
namespace K03
open PySem PySem.W L2 SX Cm
theorem Deck.kp {H : Hp} {d c p : Addr} {o : HO} {H' : Hp} (D : Deck H d c) (k : Kp [d, c] (upd H p o) H') (n : H p = none) : H' p = some o := k p o (D.nd n) upd_same
/-- one of a few values by a drawn number -/
theorem pick {α : Type} {xs : List α} {r : Int} {n : Nat} (h0 : 0 ≤ r) (h1 : r < n) (hl : xs.length = n) : ∃ x, x ∈ xs ∧ atI xs r = some x := by
  obtain ⟨r, rfl⟩ := Int.eq_ofNat_of_zero_le h0
  have hr : r < xs.length := by omega
  exact ⟨xs[r], List.getElem_mem hr, atI_nat (List.getElem?_eq_getElem hr)⟩
/-- one of two values by a truth -/
theorem pick2 {α : Type} {a b : α} (t : Bool) : atI [a, b] (if t = true then (1 : Int) else 0) = some (if t = true then b else a) := by
  cases t
  · exact atI_nat (j := 0) rfl
  · exact atI_nat (j := 1) rfl
section
variable {P : Program} {w : World} {K : PySem.W.Frag} {mg : Str → Option Value} {base : Heap}
def spNumber : Sp := fun vs H Q _ => ∃ (d c : Addr), vs = [.ref d] ∧ Deck H d c ∧ ∀ (n : Int) (H' : Hp), 0 ≤ n → n < 10 ^ 12 → Kp [d, c] H H' → Deck H' d c → Q (.int n) H'
theorem scNumber : FnScope ["_law_deck_here", "_law_some"] ["_law_deck_here"] (defScope sNumber) := ⟨rfl, rfl, rfl, by decide +kernel, rfl, by decide +kernel, by decide +kernel⟩
theorem ok_number {f g : Addr} {fd gd : FuncData} (F : Fun K "_law_number" "_law_number" sNumber f fd) (G : FnOk P w K mg base CX0 2 g gd ["_law_deck_here", "_law_most"] spTake) (bG : L2.Binds K gd ["_law_deck_here", "_law_most"] []) (kG : keepIn K (.ref g) = true) (mG : mg "_law_take" = some (.ref g)) : FnOk P w K mg base CX0 3 f fd ["_law_deck_here"] spNumber := by
  refine F.ok scNumber (fun vs H Q E h => ?_) (fun cdv A outer s H vs Q E hr h => ?_)
  · obtain ⟨d, c, rfl, _⟩ := h
    rfl
  obtain ⟨d, c, rfl, D0, q⟩ := h
  refine ⟨_, pss_cons (ps_set (i := 1) scNumber.nd rfl (.inl rfl) (pe_lst (pa_cons pe_int (pa_cons pe_int (pa_cons pe_int (pa_cons (pe_call G hr rfl mG kG bG .nil pass0 (pa_cons (pv 0) (pa_cons pe_int pa_nil))) (pa_cons (pe_op op_sub (pe_op op_pow pe_int pe_int) pe_int) (pa_cons (pe_call G hr rfl mG kG bG .nil pass0 (pa_cons (pv 0) (pa_cons (pe_op op_pow pe_int pe_int) pa_nil))) pa_nil))))))))
    (pss_one (ps_ret (pe_ix ix_list (pv 1) (pe_call G hr rfl mG kG bG .nil pass0 (pa_cons (pv 0) (pa_cons pe_int pa_nil))) (fun _ _ => rfl)))), ?_⟩
  refine ⟨_, rfl, d, c, 100, rfl, D0, by decide, by decide, fun r1 H1 a1 b1 k1 D1 => ?_⟩
  refine ⟨_, _, rfl, rfl, ⟨by decide, by decide, by decide⟩, _, _, rfl, rfl, _, rfl, _, _, rfl, rfl, ⟨by decide, by decide, by decide⟩, d, c, _, rfl, D1, by decide, by decide, fun r2 H2 a2 b2 k2 D2 => ⟨(by show 6 ≤ sizeLine; decide), fun L nL => ?_⟩⟩
  refine ⟨_, rfl, _, rfl, d, c, 6, rfl, D2.new nL, by decide, by decide, fun r3 H3 a3 b3 k3 D3 => ?_⟩
  have b2' : r2 < 10 ^ 12 := b2
  obtain ⟨v, hv, ha⟩ := pick (xs := [V.int 0, .int 1, .int 2, .int r1, .int ((10 : Int) ^ (12 : Int).toNat - 1), .int r2]) (n := 6) a3 b3 rfl
  refine ⟨L, _, _, _, rfl, rfl, SqL.of (D2.kp k3 nL), ha, ?_⟩
  have kf := (k1.trans k2).trans ((Kp.refl _ _).new nL |>.trans k3)
  simp only [List.mem_cons, List.not_mem_nil, or_false] at hv
  rcases hv with rfl | rfl | rfl | rfl | rfl | rfl
  · exact q _ H3 (by decide) (by decide) kf D3
  · exact q _ H3 (by decide) (by decide) kf D3
  · exact q _ H3 (by decide) (by decide) kf D3
  · exact q _ H3 a1 (by omega) kf D3
  · exact q _ H3 (by decide) (by decide) kf D3
  · exact q _ H3 a2 b2' kf D3
/-- a drawn text -/
def spTx (n : Nat) : Sp := fun vs H Q _ => ∃ (d c : Addr), vs = [.ref d] ∧ Deck H d c ∧ ∀ (z : Str) (H' : Hp), Tx z n → Kp [d, c] H H' → Deck H' d c → Q (.str z) H'
abbrev NN : List Str := ["_law_deck_here", "_law_some", "_law_letters", "_law_k"]
theorem scName : FnScope NN ["_law_deck_here"] (defScope sName) := ⟨rfl, rfl, rfl, by decide +kernel, rfl, by decide +kernel, by decide +kernel⟩
def names : List Str := ["pl", "plu", "pluss", "iff", "i", "di", "dipp", "parts", "eac", "joins", "wra", "d", "lesser", "dodo"]
theorem names_tx : ∀ z ∈ names, litB z 6 = true := by decide +kernel
theorem ok_name {f g : Addr} {fd gd : FuncData} (F : Fun K "_law_name" "_law_name" sName f fd) (G : FnOk P w K mg base CX0 2 g gd ["_law_deck_here", "_law_most"] spTake) (bG : L2.Binds K gd ["_law_deck_here", "_law_most"] []) (kG : keepIn K (.ref g) = true) (mG : mg "_law_take" = some (.ref g)) (mrange : mg "range" = none) : FnOk P w K mg base CX0 3 f fd ["_law_deck_here"] (spTx 100) := by
  refine F.ok scName (fun vs H Q E h => ?_) (fun cdv A outer s H vs Q E hr h => ?_)
  · obtain ⟨d, c, rfl, _⟩ := h
    rfl
  obtain ⟨d, c, rfl, D0, q⟩ := h
  refine ⟨_, pss_cons (ps_if (pt_cmpR op_eq (pe_call G hr rfl mG kG bG .nil pass0 (pa_cons (pv 0) (pa_cons pe_int pa_nil))) pe_int (nomark _))
      (pss_cons (ps_set (i := 1) scName.nd rfl (.inl rfl) (pe_lst (pa_cons pe_str (pa_cons pe_str (pa_cons pe_str (pa_cons pe_str (pa_cons pe_str (pa_cons pe_str (pa_cons pe_str (pa_cons pe_str (pa_cons pe_str (pa_cons pe_str (pa_cons pe_str (pa_cons pe_str (pa_cons pe_str (pa_cons pe_str pa_nil))))))))))))))))
        (pss_one (ps_ret (pe_ix ix_list (pv 1) (pe_call G hr rfl mG kG bG .nil pass0 (pa_cons (pv 0) (pa_cons pe_int pa_nil))) (fun _ _ => rfl))))) pss_nil)
    (pss_cons (ps_set (i := 2) scName.nd rfl (.inr rfl) pe_str)
    (pss_one (ps_ret (pe_op op_add_str pe_str (pe_join pe_str (pe_lc (own := [("_law_k", 3)]) (g := gName 3) (tt := tYes) rfl scName.nd (pi_range1 rfl mrange (pa_cons (pe_call G hr rfl mG kG bG .nil pass0 (pa_cons (pv 0) (pa_cons pe_int pa_nil))) pa_nil)) (blkOk_by (own := [("_law_k", 3)]) (N := NN) (sc := defScope sName) (by decide +kernel))
        (fun _ _ _ _ _ => pg_name (i := 3) scName.nd rfl (Or.inl rfl)) (fun _ _ _ _ _ => pts_nil) (fun _ _ _ _ _ => pe_ix ix_str (pv 2) (pe_call G hr rfl mG kG bG .nil pass0 (pa_cons (pv 0) (pa_cons pe_int pa_nil))) (fun _ _ => rfl)))))))), ?_⟩
  refine ⟨_, rfl, d, c, 3, rfl, D0, by decide, by decide, fun r1 H1 _ _ k1 D1 => ⟨rfl, _, rfl, ite2 (fun _ => ?_) (fun _ => ?_)⟩⟩
  · refine ⟨(by show 14 ≤ sizeLine; decide), fun L nL => ?_⟩
    refine ⟨_, rfl, _, rfl, d, c, 14, rfl, D1.new nL, by decide, by decide, fun r3 H3 a3 b3 k3 D3 => ?_⟩
    obtain ⟨v, hv, ha⟩ := pick (xs := names.map V.str) (n := 14) a3 b3 rfl
    obtain ⟨z, hz, rfl⟩ := List.mem_map.mp hv
    exact ⟨L, names.map V.str, _, _, rfl, rfl, SqL.of (D1.kp k3 nL), ha, q z H3 ((Tx.lit (names_tx z hz)).mono (by decide)) (k1.trans ((Kp.refl _ _).new nL |>.trans k3)) D3⟩
  have ta : Tx "abcdefghijklmnopqrstuvwxyz" 26 := Tx.lit (by decide +kernel)
  have la : (TL.tl ("abcdefghijklmnopqrstuvwxyz" : Str)).length = 26 := by decide +kernel
  have t0 : Tx "x" 1 := Tx.lit (by decide +kernel)
  refine ⟨⟨_, rfl⟩, _, rfl, d, c, 8, rfl, D1, by decide, by decide, fun r H2 r0 r1 k2 D2 => ?_⟩
  have kk := k1.trans k2
  refine ⟨_, rfl, by omega, by omega, fun L nL => lc_range (lo := 0) (n := r.toNat) (fun i H' => ∃ ys : List Str, H' L = some (.lst (ys.map V.str)) ∧ ys.length = i ∧ (∀ y ∈ ys, Tx y 1) ∧ Kp [d, c] H H' ∧ Deck H' d c)
    ⟨[], upd_same, rfl, (fun y hy => nomatch hy), kk.new nL, D2.new nL⟩ ?_ ?_⟩
  · rintro i H5 hi ⟨ys, e1, e2, e3, k5, D5⟩
    have nLd : L ∉ [d, c] := D2.nd nL
    refine ⟨rfl, _, rfl, _, rfl, d, c, 26, rfl, D5, by decide, by decide, fun u H6 u0 u1 k6 D6 => ?_⟩
    obtain ⟨x, _, ha⟩ := pick (xs := TL.tl ("abcdefghijklmnopqrstuvwxyz" : Str)) (n := 26) u0 u1 la
    refine ⟨_, _, _, rfl, rfl, ta.sz, ha, ?_⟩
    have hL : H6 L = some (.lst (ys.map V.str)) := k6 L _ nLd e1
    refine ⟨_, hL, by rw [List.length_map]; exact small1000 (by omega), ys ++ [⟨#[x]⟩], ?_, by rw [List.length_append, e2]; rfl, ?_, (k5.trans k6).put (kk.free nL nLd), D6.put nLd⟩
    · rw [upd_same, List.map_append]; rfl
    · intro y hy
      rcases List.mem_append.mp hy with h | h
      · exact e3 y h
      · rw [List.mem_singleton.mp h]; exact ta.at_ ha
  · rintro H5 ⟨ys, e1, e2, e3, k5, D5⟩
    have ly : ys.length ≤ 10 := by omega
    refine ⟨_, L, ys, rfl, rfl, .inl (SqL.of e1), sum_one e3 (by omega), ?_⟩
    have tl := (Tx.join e3).mono ly
    exact ⟨_, _, rfl, rfl, t0.sz2 tl, q _ H5 ((t0.add tl).mono (by decide)) k5 D5⟩
abbrev NS : List Str := ["_law_deck_here", "_law_letters", "_law_many", "_law_k"]
theorem scShuffle : FnScope NS ["_law_deck_here"] (defScope sShuffle) := ⟨rfl, rfl, rfl, by decide +kernel, rfl, by decide +kernel, by decide +kernel⟩
theorem ok_shuffle {f g : Addr} {fd gd : FuncData} (F : Fun K "_law_shuffle" "_law_shuffle" sShuffle f fd) (G : FnOk P w K mg base CX0 2 g gd ["_law_deck_here", "_law_most"] spTake) (bG : L2.Binds K gd ["_law_deck_here", "_law_most"] []) (kG : keepIn K (.ref g) = true) (mG : mg "_law_take" = some (.ref g))
    (mint : mg "int" = none) (mlen : mg "len" = none) (mrange : mg "range" = none) : FnOk P w K mg base CX0 3 f fd ["_law_deck_here"] (spTx 100) := by
  refine F.ok scShuffle (fun vs H Q E h => ?_) (fun cdv A outer s H vs Q E hr h => ?_)
  · obtain ⟨d, c, rfl, _⟩ := h
    rfl
  obtain ⟨d, c, rfl, D0, q⟩ := h
  refine ⟨_, pss_cons (ps_set (i := 1) scShuffle.nd rfl (.inr rfl) (pe_slice sl_str pe_str po_none (po_some (pe_ix ix_list (pe_lst (pa_cons (pe_call G hr rfl mG kG bG .nil pass0 (pa_cons (pv 0) (pa_cons pe_int pa_nil))) (pa_cons (pe_call G hr rfl mG kG bG .nil pass0 (pa_cons (pv 0) (pa_cons pe_int pa_nil))) pa_nil)))
        (pe_callTy call_int1 (by rfl) mint (by decide +kernel) (pa_cons (pe_cmpR op_eq (pe_call G hr rfl mG kG bG .nil pass0 (pa_cons (pv 0) (pa_cons pe_int pa_nil))) pe_int (nomark _)) pa_nil)) (fun _ _ => rfl)))))
    (pss_cons (ps_set (i := 2) scShuffle.nd rfl (.inl rfl) (pe_op op_mul (pe_ix ix_list (pe_lst (pa_cons (pe_call G hr rfl mG kG bG .nil pass0 (pa_cons (pv 0) (pa_cons pe_int pa_nil))) (pa_cons (pe_call G hr rfl mG kG bG .nil pass0 (pa_cons (pv 0) (pa_cons pe_int pa_nil))) pa_nil)))
        (pe_callTy call_int1 (by rfl) mint (by decide +kernel) (pa_cons (pe_cmpR op_eq (pe_call G hr rfl mG kG bG .nil pass0 (pa_cons (pv 0) (pa_cons pe_int pa_nil))) pe_int (nomark _)) pa_nil)) (fun _ _ => rfl))
      (pe_callTy call_int1 (by rfl) mint (by decide +kernel) (pa_cons (pe_cmpR op_ne (pv 1) pe_str (nomark _)) pa_nil))))
    (pss_one (ps_ret (pe_op op_add_str (pe_op op_add_str (pv 1) pe_str) (pe_join pe_str (pe_lc (own := [("_law_k", 3)]) (g := gName 3) (tt := tYes) rfl scShuffle.nd (pi_range1 rfl mrange (pa_cons (pv 2) pa_nil)) (blkOk_by (own := [("_law_k", 3)]) (N := NS) (sc := defScope sShuffle) (by decide +kernel))
        (fun _ _ _ _ _ => pg_name (i := 3) scShuffle.nd rfl (Or.inl rfl)) (fun _ _ _ _ _ => pts_nil) (fun _ _ _ _ _ => pe_ix ix_str (pv 1) (pe_call G hr rfl mG kG bG .nil pass0 (pa_cons (pv 0) (pa_cons (pe_callB call_len_str (by rfl) mlen PySem.boot_len (pa_cons (pv 1) pa_nil)) pa_nil))) (fun _ _ => rfl)))))))), ?_⟩
  -- letters
  refine ⟨_, rfl, d, c, 4, rfl, D0, by decide, by decide, fun a1 H1 _ _ k1 D1 => ?_⟩
  refine ⟨_, rfl, d, c, 9, rfl, D1, by decide, by decide, fun a2 H2 _ _ k2 D2 => ⟨(by show 2 ≤ sizeLine; decide), fun p np => ?_⟩⟩
  refine ⟨_, rfl, d, c, 4, rfl, D2.new np, by decide, by decide, fun a3 H3 _ _ k3 D3 => ⟨rfl, .inr ⟨_, rfl, ?_⟩⟩⟩
  have kk3 : Kp [d, c] H H3 := (k1.trans k2).trans ((Kp.refl _ _).new np |>.trans k3)
  have x8 : Tx "abcdefgh" 8 := Tx.lit (by decide +kernel)
  obtain ⟨r1, hr1⟩ : ∃ r1 : Int, atI [V.int a1, .int a2] (if decide (V.int a3 = V.int 0) = true then (1 : Int) else 0) = some (.int r1) := by
    rw [pick2]; split <;> exact ⟨_, rfl⟩
  refine ⟨p, _, _, _, rfl, rfl, SqL.of (D2.kp k3 np), hr1, _, rfl, _, rfl, x8.sz, ?_⟩
  have tk : Tx (cutS "abcdefgh" none (some r1)) 8 := x8.cut none (some r1)
  generalize cutS "abcdefgh" none (some r1) = tz at tk
  -- many
  refine ⟨_, rfl, d, c, 4, rfl, D3, by decide, by decide, fun b1 H4 c1 d1 k4 D4 => ?_⟩
  refine ⟨_, rfl, d, c, 13, rfl, D4, by decide, by decide, fun b2 H5 c2 d2 k5 D5 => ⟨(by show 2 ≤ sizeLine; decide), fun p2 np2 => ?_⟩⟩
  refine ⟨_, rfl, d, c, 4, rfl, D5.new np2, by decide, by decide, fun b3 H6 _ _ k6 D6 => ⟨rfl, .inr ⟨_, rfl, ?_⟩⟩⟩
  have kk6 : Kp [d, c] H H6 := ((kk3.trans k4).trans k5).trans ((Kp.refl _ _).new np2 |>.trans k6)
  obtain ⟨mn, hm0, hm1, hm2⟩ : ∃ mn : Int, mn ≤ 13 ∧ 0 ≤ mn ∧ atI [V.int b1, .int b2] (if decide (V.int b3 = V.int 0) = true then (1 : Int) else 0) = some (.int mn) := by
    by_cases h0 : decide (V.int b3 = V.int 0) = true
    · rw [if_pos h0]; exact ⟨b2, by omega, by omega, atI_nat (j := 1) rfl⟩
    · rw [if_neg h0]; exact ⟨b1, by omega, by omega, atI_nat (j := 0) rfl⟩
  refine ⟨p2, _, _, _, rfl, rfl, SqL.of (D5.kp k6 np2), hm2, _, rfl, rfl, .inr ⟨_, rfl, _, _, rfl, rfl, .inl ⟨by omega, by omega⟩, ?_⟩⟩
  obtain ⟨n, hn, hn1, hn2⟩ : ∃ n : Nat, mn * (if (!decide (V.str tz = V.str "")) = true then (1 : Int) else 0) = n ∧ n ≤ 13 ∧ (0 < n → tz ≠ "") := by
    by_cases h0 : tz = ""
    · refine ⟨0, ?_, by decide, fun z => absurd z (by decide)⟩
      rw [decide_eq_true (show V.str tz = V.str "" by rw [h0])]
      show mn * 0 = 0
      rw [Int.mul_zero]
    · refine ⟨mn.toNat, ?_, by omega, fun _ => h0⟩
      rw [decide_eq_false (show ¬ V.str tz = V.str "" from fun z => h0 (V.str.inj z))]
      show mn * 1 = _
      rw [Int.mul_one]; omega
  have t2 : Tx "-" 1 := Tx.lit (by decide +kernel)
  refine ⟨_, rfl, _, _, rfl, rfl, tk.sz2 t2, ⟨_, rfl⟩, _, rfl, _, rfl, by rw [hn]; omega, by rw [hn]; omega, fun L nL => lc_range (lo := 0) (n := (mn * (if (!decide (V.str tz = V.str "")) = true then (1 : Int) else 0)).toNat) (fun i H' => ∃ ys : List Str, H' L = some (.lst (ys.map V.str)) ∧ ys.length = i ∧ (∀ y ∈ ys, Tx y 1) ∧ Kp [d, c] H H' ∧ Deck H' d c)
    ⟨[], upd_same, rfl, (fun y hy => nomatch hy), kk6.new nL, D6.new nL⟩ ?_ ?_⟩
  · rintro i H7 hi ⟨ys, e1, e2, e3, k7, D7⟩
    have hi' : i < n := by rw [hn] at hi; omega
    have tz0 : tz ≠ "" := hn2 (by omega)
    have lz : 0 < tz.length := by
      rcases Nat.eq_zero_or_pos tz.length with h | h
      · exact absurd (TL.ext_tl (show TL.tl tz = TL.tl ("" : Str) from by
          have : (TL.tl tz).length = 0 := by rw [← TL.len_tl]; exact h
          rw [List.eq_nil_of_length_eq_zero this]; decide +kernel)) tz0
      · exact h
    have nLd : L ∉ [d, c] := D6.nd nL
    refine ⟨rfl, _, rfl, _, rfl, _, rfl, _, rfl, tk.sz, d, c, tz.length, rfl, D7, by omega, by have := tk.len; omega, fun u H8 u0 u1 k8 D8 => ?_⟩
    obtain ⟨x, _, ha⟩ := pick (xs := TL.tl tz) (n := tz.length) u0 u1 (TL.len_tl tz).symm
    refine ⟨_, _, _, rfl, rfl, tk.sz, ha, ?_⟩
    have hL : H8 L = some (.lst (ys.map V.str)) := k8 L _ nLd e1
    refine ⟨_, hL, by rw [List.length_map]; exact small1000 (by omega), ys ++ [⟨#[x]⟩], ?_, by rw [List.length_append, e2]; rfl, ?_, (k7.trans k8).put (kk6.free nL nLd), D8.put nLd⟩
    · rw [upd_same, List.map_append]; rfl
    · intro y hy
      rcases List.mem_append.mp hy with h | h
      · exact e3 y h
      · rw [List.mem_singleton.mp h]; exact tk.at_ ha
  · rintro H7 ⟨ys, e1, e2, e3, k7, D7⟩
    have ly : ys.length ≤ 13 := by rw [hn] at e2; omega
    refine ⟨_, L, ys, rfl, rfl, .inl (SqL.of e1), sum_one e3 (by omega), ?_⟩
    have tl := (Tx.join e3).mono ly
    exact ⟨_, _, rfl, rfl, (tk.add t2).sz2 tl, q _ H7 (((tk.add t2).add tl).mono (by decide)) k7 D7⟩
end
end K03
namespace K03
open PySem PySem.W L2 SX Cm
/-- a thing as a value: its sort and what it holds -/
theorem thing_at {K : Frag} {H : Hp} {v : V} {k w m : Nat} {t : PyData} (h : Tr K H v t) (g : Thg k w m t) :
    ∃ a u, v = .ref a ∧ ((∃ n, SqT K H a [.str "number", u] ∧ u = .int n ∧ w = 0 ∧ t = .tuple [.str "number", .int n]) ∨
      (∃ b us ws k' m', u = .ref b ∧ SqT K H a [.str "row", u] ∧ SqT K H b us ∧ TrAll K H us ws ∧ Rw k' w m' ws ∧ k' < k ∧ m = m' + 1) ∨
      (∃ b us ws k' m', u = .ref b ∧ SqT K H a [.str "list", u] ∧ SqT K H b us ∧ TrAll K H us ws ∧ Stk k' w m' ws ∧ k' < k ∧ m = m' + 1)) := by
  cases g with
  | num n h0 h1 =>
    cases h with
    | tup hs ht =>
      cases ht with
      | cons a b =>
        cases a
        cases b with
        | cons a b => cases a; cases b; exact ⟨_, _, rfl, .inl ⟨n, hs, rfl, rfl, rfl⟩⟩
  | row g l =>
    cases h with
    | tup hs ht =>
      cases ht with
      | cons a b =>
        cases a
        cases b with
        | cons a b =>
          cases b
          cases a with
          | tup h1 h2 => exact ⟨_, _, rfl, .inr (.inl ⟨_, _, _, _, _, rfl, hs, h1, h2, g, l, rfl⟩)⟩
  | lst g l =>
    cases h with
    | tup hs ht =>
      cases ht with
      | cons a b =>
        cases a
        cases b with
        | cons a b =>
          cases b
          cases a with
          | tup h1 h2 => exact ⟨_, _, rfl, .inr (.inr ⟨_, _, _, _, _, rfl, hs, h1, h2, g, l, rfl⟩)⟩
/-- a word as a value -/
theorem word_at {K : Frag} {H : Hp} {v : V} {d : PyData} (h : Tr K H v d) (g : (∃ z, d = .str z) ∨ (∃ t, d = .tuple [.str "push", t])) :
    (∃ z, v = .str z ∧ psh d = none) ∨ (∃ a u t, v = .ref a ∧ SqT K H a [.str "push", u] ∧ Tr K H u t ∧ psh d = some t) := by
  rcases g with ⟨z, rfl⟩ | ⟨t, rfl⟩
  · cases h; exact .inl ⟨z, rfl, rfl⟩
  · cases h with
    | tup hs ht =>
      cases ht with
      | cons a b =>
        cases a
        cases b with
        | cons a b => cases b; exact .inr ⟨_, _, t, rfl, hs, a, rfl⟩
section
variable {P : Program} {w : World} {K : PySem.W.Frag} {mg : Str → Option Value} {base : Heap}
def spWords (K : Frag) : Sp := fun vs H Q _ => ∃ (v : V) (ws : List PyData) (n m : Nat), vs = [v] ∧ Tr K H v (.tuple ws) ∧ Rw 9 n m ws ∧ m ≤ 100000 ∧ ∀ H', Same H H' → Q (.int n) H'
abbrev NW : List Str := ["row", "many", "waiting", "sort", "held", "word"]
theorem scWords : FnScope NW ["row"] (defScope sWords) := ⟨rfl, rfl, rfl, by decide +kernel, rfl, by decide +kernel, by decide +kernel⟩
theorem ok_words {f : Addr} {fd : FuncData} (F : Fun K "words_in" "words_in" sWords f fd) (mlen : mg "len" = none) (misi : mg "isinstance" = none) (mstr : mg "str" = none) : FnOk P w K mg base CX0 1 f fd ["row"] (spWords K) := by
  refine F.ok scWords (fun vs H Q E h => ?_) (fun cdv A outer s H vs Q E hr h => ?_)
  · obtain ⟨v, ws, n, m, rfl, _⟩ := h
    rfl
  obtain ⟨v, ws, n, m, rfl, hv, hw, hm, q⟩ := h
  refine ⟨_, pss_cons (ps_set (i := 1) scWords.nd rfl (.inl rfl) pe_int)
    (pss_cons (ps_set (i := 2) scWords.nd rfl (.inl rfl) (pe_lst (pa_cons (pe_tup (pa_cons pe_str (pa_cons (pv 0) pa_nil))) pa_nil)))
    (pss_cons (ps_while PassesOwn.never (pt_truth (pv 2) (by intro _; rfl))
      (pss_cons (ps_asg (pe_bm0 PySem.F.plainAttrs_list PySem.F.slot_list_pop PySem.F.type_list_pop mt_pop (pv 2)) (pg_tup rfl (pgs_cons (pg_name (i := 3) scWords.nd rfl (.inl rfl)) (pgs_cons (pg_name (i := 4) scWords.nd rfl (.inl rfl)) pgs_nil))))
      (pss_one (ps_if (pt_cmpR op_eq (pv 3) pe_str (nomark _))
        (pss_cons (ps_aug (i := 1) scWords.nd rfl (.inl rfl) (pe_callB call_len_seq (by rfl) mlen PySem.boot_len (pa_cons (pv 4) pa_nil)) ip_add)
          (pss_one (ps_expr (pe_bm PySem.F.plainAttrs_list PySem.F.slot_list_extend PySem.F.type_list_extend mt_extend (pv 2) (pa_cons (pe_lc (own := [("word", 5)]) (g := gName 5) (tt := tNot (tB (tCB (rIsi K) (tCons (tVar 5) (tCons (tC (V.ty "str")) tNil))))) (te := tOp (rIxT K) (tVar 5) (tC (.int 1))) rfl scWords.nd (pi_tup (pv 4)) (blkOk_by (own := [("word", 5)]) (N := NW) (sc := defScope sWords) (by decide +kernel))
            (fun _ _ _ _ _ => pg_name (i := 5) scWords.nd rfl (Or.inl rfl)) (fun _ _ _ _ _ => pts_one (pt_not (pt_val (pe_callB call_isi (by rfl) misi PyProof.Rows.boot_isinstance (pa_cons (pv 5) (pa_cons (pe_bltn (v := .ty "str") (by rfl) mstr (by decide +kernel) rfl) pa_nil)))))) (fun _ _ _ _ _ => pe_ix ix_tup (pv 5) pe_int (fun _ _ => rfl))) pa_nil)))))
        (pss_one (ps_if (pt_cmpR op_eq (pv 3) pe_str (nomark _)) (pss_one (ps_expr (pe_bm PySem.F.plainAttrs_list PySem.F.slot_list_extend PySem.F.type_list_extend mt_extT (pv 2) (pa_cons (pv 4) pa_nil)))) pss_nil))))))
    (pss_one (ps_ret (pv 1))))), ?_⟩
  refine ⟨_, rfl, (by show 2 ≤ sizeLine; decide), fun t nt => ⟨(by show 1 ≤ sizeLine; decide), fun l nl => ?_⟩⟩
  have s1 : Same H (upd H t (.tup [.str "row", v])) := same_new nt _
  have fl : H l = none := s1.free nl
  have s2 := s1.trans (same_new nl (.lst [.ref t]))
  have ht := kn (o' := .lst [V.ref t]) (upd_same (H := H) (a := t) (o := .tup [.str "row", v])) nl
  refine ⟨fun mm σ H' => ∃ (xs : List V) (ts : List PyData) (W M mn : Nat) (x3 x4 x5 : Option V), σ = [some v, some (.int mn), some (.ref l), x3, x4, x5] ∧ Same H H' ∧ H' l = some (.lst xs) ∧ TrAll K H' xs ts ∧ Stk 10 W M ts ∧ mn + W = n ∧ M ≤ 100001 ∧ mm = M,
    ⟨_, [.ref t], [.tuple [.str "row", .tuple ws]], n, m + 1, 0, none, none, none, rfl, s2, upd_same, .cons (.tup (SqT.of ht) (.cons (.str _) (.cons (hv.mono (.of s2)) .nil))) .nil, ?_, by omega, by omega, rfl⟩, ?_⟩
  · exact .cons (.row hw (by decide)) .nil
  rintro mm σ H' ⟨xs, ts, W, M, mn, x3, x4, x5, rfl, sm, hl, hx, hk, hn, hM, rfl⟩
  refine ⟨_, rfl, _, .inl ⟨_, SqL.of hl, rfl⟩, ?_⟩
  rcases List.eq_nil_or_concat xs with rfl | ⟨ys, u, rfl⟩
  · -- nothing waits
    cases hx
    cases hk
    refine iteF ?_
    refine ⟨_, rfl, ?_⟩
    rw [Nat.add_zero] at hn
    rw [hn]
    exact q H' sm
  · rw [List.concat_eq_append] at hl hx ⊢
    have ne : (!(ys ++ [u]).isEmpty) = true := by cases ys <;> rfl
    rw [ne]
    refine iteT ?_
    obtain ⟨ts', y, rfl, hy, hu⟩ := hx.snoc
    obtain ⟨w1, m1, w2, m2, g1, g2, rfl, rfl⟩ := hk.snoc
    refine ⟨fun σ' H2 => ∃ (xs : List V) (ts : List PyData) (W' M' mn' : Nat) (x3 x4 x5 : Option V), σ' = [some v, some (.int mn'), some (.ref l), x3, x4, x5] ∧ Same H H2 ∧ H2 l = some (.lst xs) ∧ TrAll K H2 xs ts ∧ Stk 10 W' M' ts ∧ mn' + W' = n ∧ M' < m1 + m2, ?_, ?_⟩
    · rintro σ' H2 ⟨xs, ts, W', M', mn', x3, x4, x5, rfl, a1, a2, a3, a4, a5, a6⟩
      exact ⟨M', a6, xs, ts, W', M', mn', x3, x4, x5, rfl, a1, a2, a3, a4, a5, by omega, rfl⟩
    have hq : (ys ++ [u])[(ys ++ [u]).length - 1]? = some u := by rw [List.length_append]; simp
    have hdl : (ys ++ [u]).dropLast = ys := by simp
    refine ⟨_, rfl, .inl ⟨rfl, _, SqL.of hl⟩, l, _, _, rfl, rfl, hl, hq, ?_⟩
    rw [hdl]
    have tk : TKs K H' (upd H' l (.lst ys)) := TKs.lst hl
    have s3 : Same H (upd H' l (.lst ys)) := own_new sm fl
    have hl3 : upd H' l (.lst ys) l = some (.lst ys) := upd_same
    have hy3 := hy.mono tk
    have hu3 := hu.mono tk
    generalize upd H' l (.lst ys) = H3 at tk s3 hl3 hy3 hu3
    have ly : ys.length ≤ m1 := by rw [hy.len]; exact g1.len
    have n1 : decide (V.str "number" = V.str "row") = false := by decide +kernel
    have n2 : decide (V.str "number" = V.str "list") = false := by decide +kernel
    have n3 : decide (V.str "list" = V.str "row") = false := by decide +kernel
    have n4 : decide (V.str "row" = V.str "row") = true := decide_eq_true rfl
    have n5 : decide (V.str "list" = V.str "list") = true := decide_eq_true rfl
    obtain ⟨a, h, rfl, hcase⟩ := thing_at hu3 g2
    rcases hcase with ⟨i, hs, rfl, rfl, _⟩ | ⟨b, us, rs, k', m', rfl, hs, hb, hbs, hr', hk', rfl⟩ | ⟨b, us, rs, k', m', rfl, hs, hb, hbs, hr', hk', rfl⟩
    · refine ⟨a, _, rfl, hs, rfl, _, _, rfl, _, _, rfl, rfl, ?_⟩
      refine ⟨_, rfl, rfl, _, rfl, ?_⟩
      rw [n1]
      refine iteF ?_
      refine ⟨_, rfl, rfl, _, rfl, ?_⟩
      rw [n2]
      refine iteF ?_
      exact ⟨ys, ts', w1, m1, mn, _, _, _, rfl, s3, hl3, hy3, g1, by omega, by have := g2.pos; omega⟩
    · refine ⟨a, _, rfl, hs, rfl, _, _, rfl, _, _, rfl, rfl, ?_⟩
      refine ⟨_, rfl, rfl, _, rfl, ?_⟩
      rw [n4]
      refine iteT ?_
      refine ⟨_, rfl, _, rfl, b, us, rfl, .inr hb, _, _, rfl, rfl, ?_⟩
      obtain ⟨w', mp, gp, ew, lp⟩ := hr'.psh
      have lus : us.length = rs.length := hbs.len
      refine ⟨_, rfl, .inl ⟨rfl, _, SqL.of hl3⟩, _, rfl, b, rfl, ⟨_, hb⟩, fun D hD => lc_tup (K := K) (a := b) (xs := us) (fun i H4 => ∃ acc, H4 = upd H3 D (.lst acc) ∧ TrAll K H3 acc ((rs.take i).filterMap psh) ∧ acc.length ≤ i) ⟨[], rfl, .nil, Nat.le_refl 0⟩ (fun i H4 _ h => ?_) ?_ ?_⟩
      · obtain ⟨acc, rfl, _⟩ := h
        exact TKs.of (same_new hD _) _ _ hb
      · rintro i x H4 hi ⟨acc, rfl, ha, hla⟩
        have sD : Same H3 (upd H3 D (.lst acc)) := same_new hD _
        obtain ⟨y, hy', hty⟩ := hbs.get hi
        have hil : i < us.length := (List.getElem?_eq_some_iff.mp hi).1
        have lr := hr'.len
        rcases word_at hty (hr'.at_ hy') with ⟨z, rfl, hp⟩ | ⟨ad, uu, tt, rfl, hsd, htt, hp⟩
        · refine ⟨rfl, _, rfl, _, _, _, _, true, rfl, .ty _, .base (.str _), kit_ty (r := true) (by decide +kernel), _, rfl, iteF ?_⟩
          refine ⟨acc, rfl, ?_, by omega⟩
          rw [List.take_add_one, hy', List.filterMap_append]
          show TrAll K H3 acc (List.filterMap psh (List.take i rs) ++ List.filterMap psh [y])
          rw [List.filterMap_cons_none hp, List.filterMap_nil, List.append_nil]
          exact ha
        · have hsd4 := TKs.of sD _ _ hsd
          refine ⟨rfl, _, rfl, _, _, _, _, false, rfl, .ty _, tyTup hsd4, kit_ty (r := false) (by decide +kernel), _, rfl, iteT ?_⟩
          refine ⟨_, rfl, ad, _, 1, _, rfl, rfl, hsd4, atI_nat (j := 1) rfl, acc, upd_same, midlt (by omega), acc ++ [uu], by rw [upd_upd], ?_, by rw [List.length_append, List.length_singleton]; omega⟩
          rw [List.take_add_one, hy', List.filterMap_append]
          show TrAll K H3 (acc ++ [uu]) (List.filterMap psh (List.take i rs) ++ List.filterMap psh [y])
          rw [List.filterMap_cons_some hp, List.filterMap_nil]
          exact ha.append (.cons htt .nil)
      · rintro H4 ⟨acc, rfl, ha, hla⟩
        rw [lus, List.take_length] at ha
        have sD : Same H3 (upd H3 D (.lst acc)) := same_new hD _
        have hl4 : upd H3 D (.lst acc) l = some (.lst ys) := kn hl3 hD
        have lr := hr'.len
        refine ⟨l, D, ys, acc, rfl, rfl, hl4, upd_same, mid (by omega), ?_⟩
        refine ⟨ys ++ acc, ts' ++ rs.filterMap psh, w1 + w', m1 + mp, mn + us.length, _, _, _, rfl, own_new (s3.trans sD) fl, upd_same, ?_, g1.append (gp.up (by omega)), by omega, by omega⟩
        exact ((hy3.append ha).mono (TKs.of sD)).mono (TKs.lst hl4)
    · refine ⟨a, _, rfl, hs, rfl, _, _, rfl, _, _, rfl, rfl, ?_⟩
      refine ⟨_, rfl, rfl, _, rfl, ?_⟩
      rw [n3]
      refine iteF ?_
      refine ⟨_, rfl, rfl, _, rfl, ?_⟩
      rw [n5]
      refine iteT ?_
      have lus : us.length = rs.length := hbs.len
      have lr := hr'.len
      refine ⟨_, rfl, .inl ⟨rfl, _, SqL.of hl3⟩, _, rfl, l, b, ys, us, rfl, rfl, hl3, hb, mid (by omega), ?_⟩
      refine ⟨ys ++ us, ts' ++ rs, w1 + w2, m1 + m', mn, _, _, _, rfl, own_new s3 fl, upd_same, ?_, g1.append (hr'.up (by omega)), by omega, by omega⟩
      exact (hy3.append hbs).mono (TKs.lst hl3)
end
end K03
namespace K03
open PySem PySem.W L2 SX Cm
section
variable {P : Program} {w : World} {K : PySem.W.Frag} {mg : Str → Option Value} {base : Heap}
abbrev NC : List Str := ["_law_row_here", "_law_many", "_law_waiting", "_law_kind", "_law_parts", "_law_word_here"]
theorem scCount : FnScope NC ["_law_row_here"] (defScope sCount) := ⟨rfl, rfl, rfl, by decide +kernel, rfl, by decide +kernel, by decide +kernel⟩
theorem ok_count {f : Addr} {fd : FuncData} (F : Fun K "_law_count" "_law_count" sCount f fd) (mlen : mg "len" = none) (misi : mg "isinstance" = none) (mtup : mg "tuple" = none) (mlist : mg "list" = none) : FnOk P w K mg base CX0 1 f fd ["_law_row_here"] (spWords K) := by
  refine F.ok scCount (fun vs H Q E h => ?_) (fun cdv A outer s H vs Q E hr h => ?_)
  · obtain ⟨v, ws, n, m, rfl, _⟩ := h
    rfl
  obtain ⟨v, ws, n, m, rfl, hv, hw, hm, q⟩ := h
  refine ⟨_, pss_cons (ps_set (i := 1) scCount.nd rfl (.inl rfl) pe_int)
    (pss_cons (ps_set (i := 2) scCount.nd rfl (.inl rfl) (pe_lst (pa_cons (pe_tup (pa_cons pe_str (pa_cons (pv 0) pa_nil))) pa_nil)))
    (pss_cons (ps_while PassesOwn.never (pt_cmpR (op_neD hr.units) (pv 2) (pe_lst pa_nil) (nomark _))
      (pss_cons (ps_asg (pe_bm0 PySem.F.plainAttrs_list PySem.F.slot_list_pop PySem.F.type_list_pop mt_pop (pv 2)) (pg_tup rfl (pgs_cons (pg_name (i := 3) scCount.nd rfl (.inl rfl)) (pgs_cons (pg_name (i := 4) scCount.nd rfl (.inl rfl)) pgs_nil))))
      (C8.pss_cut (ps_if (pt_cmpR op_eq (pv 3) pe_str (nomark _))
        (pss_cons (ps_set (i := 1) scCount.nd rfl (.inl rfl) (pe_op op_add (pv 1) (pe_callB call_len_seq (by rfl) mlen PySem.boot_len (pa_cons (pv 4) pa_nil))))
          (pss_one (ps_set (i := 2) scCount.nd rfl (.inl rfl) (pe_op op_cat (pv 2) (pe_lc (own := [("_law_word_here", 5)]) (g := gName 5) (tt := tB (tCB (rIsi K) (tCons (tVar 5) (tCons (tC (V.ty "tuple")) tNil)))) (te := tOp (rIxT K) (tVar 5) (tC (.int 1))) rfl scCount.nd (pi_tup (pv 4)) (blkOk_by (own := [("_law_word_here", 5)]) (N := NC) (sc := defScope sCount) (by decide +kernel))
            (fun _ _ _ _ _ => pg_name (i := 5) scCount.nd rfl (Or.inl rfl)) (fun _ _ _ _ _ => pts_one (pt_val (pe_callB call_isi (by rfl) misi PyProof.Rows.boot_isinstance (pa_cons (pv 5) (pa_cons (pe_bltn (v := .ty "tuple") (by rfl) mtup (by decide +kernel) rfl) pa_nil))))) (fun _ _ _ _ _ => pe_ix ix_tup (pv 5) pe_int (fun _ _ => rfl))))))) pss_nil)
      (pss_one (ps_if (pt_cmpR op_eq (pv 3) pe_str (nomark _)) (pss_one (ps_set (i := 2) scCount.nd rfl (.inl rfl) (pe_op op_cat (pv 2) (pe_callTy call_list_of (by rfl) mlist (by decide +kernel) (pa_cons (pv 4) pa_nil))))) pss_nil)))))
    (pss_one (ps_ret (pv 1))))), ?_⟩
  refine ⟨_, rfl, (by show 2 ≤ sizeLine; decide), fun t nt => ⟨(by show 1 ≤ sizeLine; decide), fun l0 nl => ?_⟩⟩
  have s1 : Same H (upd H t (.tup [.str "row", v])) := same_new nt _
  have s2 := s1.trans (same_new nl (.lst [.ref t]))
  have ht := kn (o' := .lst [V.ref t]) (upd_same (H := H) (a := t) (o := .tup [.str "row", v])) nl
  refine ⟨fun mm σ H' => ∃ (l : Addr) (xs : List V) (ts : List PyData) (W M mn : Nat) (x3 x4 x5 : Option V), σ = [some v, some (.int mn), some (.ref l), x3, x4, x5] ∧ H l = none ∧ Same H H' ∧ H' l = some (.lst xs) ∧ TrAll K H' xs ts ∧ Stk 10 W M ts ∧ mn + W = n ∧ M ≤ 100001 ∧ mm = M,
    ⟨_, l0, [.ref t], [.tuple [.str "row", .tuple ws]], n, m + 1, 0, none, none, none, rfl, s1.free nl, s2, upd_same, .cons (.tup (SqT.of ht) (.cons (.str _) (.cons (hv.mono (.of s2)) .nil))) .nil, ?_, by omega, by omega, rfl⟩, ?_⟩
  · exact .cons (.row hw (by decide)) .nil
  rintro mm σ H0 ⟨l, xs, ts, W, M, mn, x3, x4, x5, rfl, fl, sm, hl, hx, hk, hn, hM, rfl⟩
  refine ⟨_, rfl, (by show 0 ≤ sizeLine; decide), fun e ne => ?_⟩
  have sm := sm.trans (same_new ne (.lst []))
  have hx := hx.mono (TKs.of (K := K) (same_new ne (.lst [])))
  have hl := kn (o' := .lst []) hl ne
  have he : upd H0 e (.lst []) e = some (.lst []) := upd_same
  generalize upd H0 e (.lst []) = H' at sm hx hl he
  refine ⟨_, _, .lst (SqL.of hl) hx.dp, .lst (SqL.of he) .nil, hk.shaped (by decide), rfl, _, rfl, ?_⟩
  rcases List.eq_nil_or_concat xs with rfl | ⟨ys, u, rfl⟩
  · cases hx
    cases hk
    refine iteF ?_
    refine ⟨_, rfl, ?_⟩
    rw [Nat.add_zero] at hn
    rw [hn]
    exact q H' sm
  · rw [List.concat_eq_append] at hl hx
    obtain ⟨ts', y, rfl, hy, hu⟩ := hx.snoc
    have nq : (!PyData.eqv (.list (ts' ++ [y])) (.list [])) = true := by cases ts' <;> rfl
    rw [nq]
    refine iteT ?_
    obtain ⟨w1, m1, w2, m2, g1, g2, rfl, rfl⟩ := hk.snoc
    refine ⟨fun σ' H2 => ∃ (l : Addr) (xs : List V) (ts : List PyData) (W' M' mn' : Nat) (x3 x4 x5 : Option V), σ' = [some v, some (.int mn'), some (.ref l), x3, x4, x5] ∧ H l = none ∧ Same H H2 ∧ H2 l = some (.lst xs) ∧ TrAll K H2 xs ts ∧ Stk 10 W' M' ts ∧ mn' + W' = n ∧ M' < m1 + m2, ?_, ?_⟩
    · rintro σ' H2 ⟨l, xs, ts, W', M', mn', x3, x4, x5, rfl, fl, a1, a2, a3, a4, a5, a6⟩
      exact ⟨M', a6, l, xs, ts, W', M', mn', x3, x4, x5, rfl, fl, a1, a2, a3, a4, a5, by omega, rfl⟩
    have hq : (ys ++ [u])[(ys ++ [u]).length - 1]? = some u := by rw [List.length_append]; simp
    have hdl : (ys ++ [u]).dropLast = ys := by simp
    refine ⟨_, rfl, .inl ⟨rfl, _, SqL.of hl⟩, l, _, _, rfl, rfl, hl, hq, ?_⟩
    rw [hdl]
    have tk : TKs K H' (upd H' l (.lst ys)) := TKs.lst hl
    have s3 : Same H (upd H' l (.lst ys)) := own_new sm fl
    have hl3 : upd H' l (.lst ys) l = some (.lst ys) := upd_same
    have hy3 := hy.mono tk
    have hu3 := hu.mono tk
    generalize upd H' l (.lst ys) = H3 at tk s3 hl3 hy3 hu3
    have ly : ys.length ≤ m1 := by rw [hy.len]; exact g1.len
    have n1 : decide (V.str "number" = V.str "row") = false := by decide +kernel
    have n2 : decide (V.str "number" = V.str "list") = false := by decide +kernel
    have n3 : decide (V.str "list" = V.str "row") = false := by decide +kernel
    have n4 : decide (V.str "row" = V.str "row") = true := decide_eq_true rfl
    have n5 : decide (V.str "list" = V.str "list") = true := decide_eq_true rfl
    have n6 : decide (V.str "row" = V.str "list") = false := by decide +kernel
    obtain ⟨a, h, rfl, hcase⟩ := thing_at hu3 g2
    rcases hcase with ⟨i, hs, rfl, rfl, _⟩ | ⟨b, us, rs, k', m', rfl, hs, hb, hbs, hr', hk', rfl⟩ | ⟨b, us, rs, k', m', rfl, hs, hb, hbs, hr', hk', rfl⟩
    · refine ⟨a, _, rfl, hs, rfl, _, _, rfl, _, _, rfl, rfl, ?_⟩
      refine ⟨fun σ' H2 => σ' = [some v, some (.int mn), some (.ref l), some (.str "number"), some (.int i), x5] ∧ H2 = H3, ?_, ?_⟩
      · refine ⟨_, rfl, rfl, _, rfl, ?_⟩
        rw [n1]
        exact iteF ⟨rfl, rfl⟩
      · rintro σ' H2 ⟨rfl, rfl⟩
        refine ⟨_, rfl, rfl, _, rfl, ?_⟩
        rw [n2]
        refine iteF ?_
        exact ⟨l, ys, ts', w1, m1, mn, _, _, _, rfl, fl, s3, hl3, hy3, g1, by omega, by have := g2.pos; omega⟩
    · refine ⟨a, _, rfl, hs, rfl, _, _, rfl, _, _, rfl, rfl, ?_⟩
      obtain ⟨w', mp, gp, ew, lp⟩ := hr'.psh
      have lus : us.length = rs.length := hbs.len
      refine ⟨fun σ' H2 => ∃ (l : Addr) (xs : List V) (x5 : Option V), σ' = [some v, some (.int ((mn + us.length : Nat) : Int)), some (.ref l), some (.str "row"), some (.ref b), x5] ∧ H l = none ∧ Same H H2 ∧ H2 l = some (.lst xs) ∧ TrAll K H2 xs (ts' ++ rs.filterMap psh), ?_, ?_⟩
      · refine ⟨_, rfl, rfl, _, rfl, ?_⟩
        rw [n4]
        refine iteT ?_
        refine ⟨_, rfl, _, rfl, b, us, rfl, .inr hb, _, _, rfl, rfl, ?_⟩
        refine ⟨_, rfl, _, rfl, b, rfl, ⟨_, hb⟩, fun D hD => lc_tup (K := K) (a := b) (xs := us) (fun i H4 => ∃ acc, H4 = upd H3 D (.lst acc) ∧ TrAll K H3 acc ((rs.take i).filterMap psh) ∧ acc.length ≤ i) ⟨[], rfl, .nil, Nat.le_refl 0⟩ (fun i H4 _ h => ?_) ?_ ?_⟩
        · obtain ⟨acc, rfl, _⟩ := h
          exact TKs.of (same_new hD _) _ _ hb
        · rintro i x H4 hi ⟨acc, rfl, ha, hla⟩
          have sD : Same H3 (upd H3 D (.lst acc)) := same_new hD _
          obtain ⟨y, hy', hty⟩ := hbs.get hi
          have hil : i < us.length := (List.getElem?_eq_some_iff.mp hi).1
          have lr := hr'.len
          rcases word_at hty (hr'.at_ hy') with ⟨z, rfl, hp⟩ | ⟨ad, uu, tt, rfl, hsd, htt, hp⟩
          · refine ⟨rfl, _, rfl, _, _, _, _, false, rfl, .ty _, .base (.str _), kit_ty (r := false) (by decide +kernel), _, rfl, iteF ?_⟩
            refine ⟨acc, rfl, ?_, by omega⟩
            rw [List.take_add_one, hy', List.filterMap_append]
            show TrAll K H3 acc (List.filterMap psh (List.take i rs) ++ List.filterMap psh [y])
            rw [List.filterMap_cons_none hp, List.filterMap_nil, List.append_nil]
            exact ha
          · have hsd4 := TKs.of sD _ _ hsd
            refine ⟨rfl, _, rfl, _, _, _, _, true, rfl, .ty _, tyTup hsd4, kit_ty (r := true) (by decide +kernel), _, rfl, iteT ?_⟩
            refine ⟨_, rfl, ad, _, 1, _, rfl, rfl, hsd4, atI_nat (j := 1) rfl, acc, upd_same, midlt (by omega), acc ++ [uu], by rw [upd_upd], ?_, by rw [List.length_append, List.length_singleton]; omega⟩
            rw [List.take_add_one, hy', List.filterMap_append]
            show TrAll K H3 (acc ++ [uu]) (List.filterMap psh (List.take i rs) ++ List.filterMap psh [y])
            rw [List.filterMap_cons_some hp, List.filterMap_nil]
            exact ha.append (.cons htt .nil)
        · rintro H4 ⟨acc, rfl, ha, hla⟩
          rw [lus, List.take_length] at ha
          have sD : Same H3 (upd H3 D (.lst acc)) := same_new hD _
          have hl4 : upd H3 D (.lst acc) l = some (.lst ys) := kn hl3 hD
          have lr := hr'.len
          refine ⟨l, D, ys, acc, rfl, rfl, hl4, upd_same, mid (by omega), fun l2 nl2 => ?_⟩
          refine ⟨l2, ys ++ acc, _, rfl, (s3.trans sD).free nl2, (s3.trans sD).trans (same_new nl2 _), upd_same, ?_⟩
          exact ((hy3.append ha).mono (TKs.of sD)).mono (TKs.of (same_new nl2 _))
      · rintro σ' H2 ⟨l2, xs2, x5', rfl, fl2, s4, hl4, ha⟩
        refine ⟨_, rfl, rfl, _, rfl, ?_⟩
        rw [n6]
        refine iteF ?_
        exact ⟨l2, xs2, _, w1 + w', m1 + mp, mn + us.length, _, _, _, rfl, fl2, s4, hl4, ha, g1.append (gp.up (by omega)), by omega, by omega⟩
    · refine ⟨a, _, rfl, hs, rfl, _, _, rfl, _, _, rfl, rfl, ?_⟩
      refine ⟨fun σ' H2 => σ' = [some v, some (.int mn), some (.ref l), some (.str "list"), some (.ref b), x5] ∧ H2 = H3, ?_, ?_⟩
      · refine ⟨_, rfl, rfl, _, rfl, ?_⟩
        rw [n3]
        exact iteF ⟨rfl, rfl⟩
      · rintro σ' H2 ⟨rfl, rfl⟩
        refine ⟨_, rfl, rfl, _, rfl, ?_⟩
        rw [n5]
        refine iteT ?_
        have lus : us.length = rs.length := hbs.len
        have lr := hr'.len
        refine ⟨_, rfl, _, rfl, b, us, rfl, .inr hb, fun l1 nl1 => ?_⟩
        have s5 : Same H2 (upd H2 l1 (.lst us)) := same_new nl1 _
        refine ⟨l, l1, ys, us, rfl, rfl, kn hl3 nl1, upd_same, mid (by omega), fun l2 nl2 => ?_⟩
        refine ⟨l2, ys ++ us, ts' ++ rs, w1 + w2, m1 + m', mn, _, _, _, rfl, (s3.trans s5).free nl2, (s3.trans s5).trans (same_new nl2 _), upd_same, ?_, g1.append (hr'.up (by omega)), by omega, by omega⟩
        exact ((hy3.append hbs).mono (TKs.of s5)).mono (TKs.of (same_new nl2 _))
end
end K03
namespace K03
open PySem PySem.W L2 SX Cm
/-- the deck and what is left -/
structure G3 (H : Hp) (d c lf : Addr) : Prop where
  dk : Deck H d c
  left : ∃ n : Int, H lf = some (.lst [.int n])
  ne : lf ∉ [d, c]
theorem G3.sub {d c lf : Addr} : ∀ b ∈ [d, c], b ∈ [d, c, lf] := fun b h => by
  rcases List.mem_cons.mp h with h | h
  · rw [h]; exact List.mem_cons_self ..
  · rw [List.mem_singleton.mp h]; exact List.mem_cons_of_mem _ (List.mem_cons_self ..)
theorem G3.new {H : Hp} {d c lf p : Addr} {o : HO} (g : G3 H d c lf) (h : H p = none) : G3 (upd H p o) d c lf := by
  obtain ⟨n, e⟩ := g.left
  exact ⟨g.dk.new h, ⟨n, kn e h⟩, g.ne⟩
theorem G3.take {H H' : Hp} {d c lf : Addr} (g : G3 H d c lf) (k : Kp [d, c] H H') (D : Deck H' d c) : G3 H' d c lf := by
  obtain ⟨n, e⟩ := g.left
  exact ⟨D, ⟨n, k lf _ g.ne e⟩, g.ne⟩
theorem G3.nd {H : Hp} {d c lf p : Addr} (g : G3 H d c lf) (h : H p = none) : p ∉ [d, c, lf] := fun z => by
  obtain ⟨n, e⟩ := g.left
  rcases List.mem_cons.mp z with z | z
  · exact g.dk.nd h (by rw [z]; exact List.mem_cons_self ..)
  · rcases List.mem_cons.mp z with z | z
    · exact g.dk.nd h (by rw [z]; exact List.mem_cons_of_mem _ (List.mem_singleton.mpr rfl))
    · rw [List.mem_singleton.mp z, e] at h; cases h
theorem G3.put {H : Hp} {d c lf p : Addr} {o : HO} (g : G3 H d c lf) (h : p ∉ [d, c, lf]) : G3 (upd H p o) d c lf := by
  obtain ⟨n, e⟩ := g.left
  exact ⟨g.dk.put (fun z => h (G3.sub p z)), ⟨n, by rw [upd_ne (fun z => h (by rw [← z]; exact List.mem_cons_of_mem _ (List.mem_cons_of_mem _ (List.mem_singleton.mpr rfl))))]; exact e⟩, g.ne⟩
theorem G3.less {H : Hp} {d c lf : Addr} (g : G3 H d c lf) (n : Int) : G3 (upd H lf (.lst [.int n])) d c lf := ⟨g.dk.put g.ne, ⟨n, upd_same⟩, g.ne⟩
theorem G3.tks {K : Frag} {H H' : Hp} {d c lf : Addr} (g : G3 H d c lf) (k : Kp [d, c, lf] H H') : TKs K H H' := TKs.kp k fun b hb => by
  obtain ⟨n, e⟩ := g.left
  obtain ⟨_, _, e1⟩ := g.dk.at_
  obtain ⟨_, e2, _⟩ := g.dk.cells
  rcases List.mem_cons.mp hb with z | z
  · rw [z]; exact ⟨_, e1⟩
  · rcases List.mem_cons.mp z with z | z
    · rw [z]; exact ⟨_, e2⟩
    · rw [List.mem_singleton.mp z]; exact ⟨_, e⟩
theorem lfm {d c lf : Addr} : lf ∈ [d, c, lf] := List.mem_cons_of_mem _ (List.mem_cons_of_mem _ (List.mem_singleton.mpr rfl))
/-- how large a thing of this depth may be -/
def BT : Nat → Nat
  | 0 => 1
  | k + 1 => 1 + 6 * (1 + BT k)
section
variable {P : Program} {w : World} {K : PySem.W.Frag} {mg : Str → Option Value} {base : Heap}
def spThing (K : Frag) (k : Nat) : Sp := fun vs H Q _ => ∃ (d c lf : Addr), vs = [.ref d, .int k, .ref lf] ∧ G3 H d c lf ∧ ∀ (v : V) (t : PyData) (n m : Nat) (H' : Hp), Tr K H' v t → Thg k n m t → m ≤ BT k → Kp [d, c, lf] H H' → G3 H' d c lf → Q v H'
def spStack (K : Frag) (k : Nat) : Sp := fun vs H Q _ => ∃ (d c lf : Addr), vs = [.ref d, .int k, .ref lf] ∧ G3 H d c lf ∧ ∀ (v : V) (ts : List PyData) (n m : Nat) (H' : Hp), Tr K H' v (.tuple ts) → Stk k n m ts → m ≤ 6 * BT k → Kp [d, c, lf] H H' → G3 H' d c lf → Q v H'
def spRow (K : Frag) (k : Nat) : Sp := fun vs H Q _ => ∃ (d c lf : Addr), vs = [.ref d, .int k, .ref lf] ∧ G3 H d c lf ∧ ∀ (v : V) (ws : List PyData) (n m : Nat) (H' : Hp), Tr K H' v (.tuple ws) → Rw k n m ws → m ≤ 6 * (1 + BT k) → Kp [d, c, lf] H H' → G3 H' d c lf → Q v H'
/-- one word, as a row of one -/
def spWord (K : Frag) (k : Nat) : Sp := fun vs H Q _ => ∃ (d c lf : Addr), vs = [.ref d, .int k, .ref lf] ∧ G3 H d c lf ∧ ∀ (v : V) (y : PyData) (n m : Nat) (H' : Hp), Tr K H' v y → Rw k n m [y] → m ≤ 1 + BT k → Kp [d, c, lf] H H' → G3 H' d c lf → Q v H'
abbrev A3 : List Str := ["_law_deck_here", "_law_deep", "_law_left"]
theorem scThing : FnScope ["_law_deck_here", "_law_deep", "_law_left", "_law_way"] A3 (defScope sThing) := ⟨rfl, rfl, rfl, by decide +kernel, rfl, by decide +kernel, by decide +kernel⟩
theorem ok_thing0 {f g gn : Addr} {fd gd gnd : FuncData} (F : Fun K "_law_thing" "_law_thing" sThing f fd) (G : FnOk P w K mg base CX0 2 g gd ["_law_deck_here", "_law_most"] spTake) (bG : L2.Binds K gd ["_law_deck_here", "_law_most"] []) (kG : keepIn K (.ref g) = true) (mG : mg "_law_take" = some (.ref g))
    (N : FnOk P w K mg base CX0 3 gn gnd ["_law_deck_here"] spNumber) (bN : L2.Binds K gnd ["_law_deck_here"] []) (kN : keepIn K (.ref gn) = true) (mN : mg "_law_number" = some (.ref gn)) : FnOk P w K mg base CX0 4 f fd A3 (spThing K 0) := by
  refine F.ok scThing (fun vs H Q E h => ?_) (fun cdv A outer s H vs Q E hr h => ?_)
  · obtain ⟨d, c, lf, rfl, _⟩ := h
    rfl
  obtain ⟨d, c, lf, rfl, g0, q⟩ := h
  refine ⟨_, pss_cons (ps_set (i := 3) scThing.nd rfl (.inl rfl) (pe_call G (hr.mono (by decide)) rfl mG kG bG .nil pass0 (pa_cons (pv 0) (pa_cons pe_int pa_nil))))
    (pss_cons (ps_if (PW.pt (pw_or (pt_cmpR op_eq (pv 1) pe_int (nomark _)) (pw_or1 (pt_cmpR op_lt (pv 3) pe_int (nomark _))))) (pss_one (ps_ret (pe_tup (pa_cons pe_str (pa_cons (pe_call N hr rfl mN kN bN .nil pass0 (pa_cons (pv 0) pa_nil)) pa_nil))))) pss_nil) pss_never), ?_⟩
  refine ⟨_, rfl, d, c, 4, rfl, g0.dk, by decide, by decide, fun r H1 _ _ k1 D1 => ?_⟩
  refine ⟨_, rfl, rfl, _, rfl, iteT (iteT ?_)⟩
  refine ⟨_, rfl, d, c, rfl, D1, fun n H2 n0 n1 k2 D2 => ⟨(by show 2 ≤ sizeLine; decide), fun p np => ?_⟩⟩
  have g2 := (g0.take k1 D1).take k2 D2
  exact q _ _ _ _ _ (.tup (SqT.of upd_same) (.cons (.str _) (.cons (.int _) .nil))) (.num n n0 n1) (Nat.le_refl 1) (((k1.trans k2).mono G3.sub).new np) (g2.new np)
theorem ok_thingS {k : Nat} {f g gn gr gs : Addr} {fd gd gnd grd gsd : FuncData} (F : Fun K "_law_thing" "_law_thing" sThing f fd) (G : FnOk P w K mg base CX0 2 g gd ["_law_deck_here", "_law_most"] spTake) (bG : L2.Binds K gd ["_law_deck_here", "_law_most"] []) (kG : keepIn K (.ref g) = true) (mG : mg "_law_take" = some (.ref g))
    (N : FnOk P w K mg base CX0 3 gn gnd ["_law_deck_here"] spNumber) (bN : L2.Binds K gnd ["_law_deck_here"] []) (kN : keepIn K (.ref gn) = true) (mN : mg "_law_number" = some (.ref gn))
    (R : FnOk P w K mg base CX0 (6 + 3 * k) gr grd A3 (spRow K k)) (bR : L2.Binds K grd A3 []) (kR : keepIn K (.ref gr) = true) (mR : mg "_law_row" = some (.ref gr))
    (Z : FnOk P w K mg base CX0 (6 + 3 * k) gs gsd A3 (spStack K k)) (bZ : L2.Binds K gsd A3 []) (kZ : keepIn K (.ref gs) = true) (mZ : mg "_law_stack" = some (.ref gs)) : FnOk P w K mg base CX0 (6 + 3 * k + 1) f fd A3 (spThing K (k + 1)) := by
  refine F.ok scThing (fun vs H Q E h => ?_) (fun cdv A outer s H vs Q E hr h => ?_)
  · obtain ⟨d, c, lf, rfl, _⟩ := h
    rfl
  obtain ⟨d, c, lf, rfl, g0, q⟩ := h
  refine ⟨_, pss_cons (ps_set (i := 3) scThing.nd rfl (.inl rfl) (pe_call G (hr.mono (by omega)) rfl mG kG bG .nil pass0 (pa_cons (pv 0) (pa_cons pe_int pa_nil))))
    (pss_cons (ps_if (PW.pt (pw_or (pt_cmpR op_eq (pv 1) pe_int (nomark _)) (pw_or1 (pt_cmpR op_lt (pv 3) pe_int (nomark _))))) (pss_one (ps_ret (pe_tup (pa_cons pe_str (pa_cons (pe_call N (hr.mono (by omega)) rfl mN kN bN .nil pass0 (pa_cons (pv 0) pa_nil)) pa_nil))))) pss_nil)
    (pss_cons (ps_if (pt_cmpR op_eq (pv 3) pe_int (nomark _)) (pss_one (ps_ret (pe_tup (pa_cons pe_str (pa_cons (pe_call R hr rfl mR kR bR .nil pass0 (pa_cons (pv 0) (pa_cons (pe_op op_sub (pv 1) pe_int) (pa_cons (pv 2) pa_nil)))) pa_nil))))) pss_nil)
    (pss_one (ps_ret (pe_tup (pa_cons pe_str (pa_cons (pe_call Z hr rfl mZ kZ bZ .nil pass0 (pa_cons (pv 0) (pa_cons (pe_op op_sub (pv 1) pe_int) (pa_cons (pv 2) pa_nil)))) pa_nil))))))), ?_⟩
  refine ⟨_, rfl, d, c, 4, rfl, g0.dk, by decide, by decide, fun r H1 _ _ k1 D1 => ?_⟩
  have g1 := g0.take k1 D1
  have k1' : Kp [d, c, lf] H H1 := k1.mono G3.sub
  have nz : decide (V.int ((k + 1 : Nat) : Int) = V.int 0) = false := decide_eq_false (fun z => by have := V.int.inj z; omega)
  have dk : (((k + 1 : Nat) : Int) - 1) = (k : Int) := by omega
  refine ⟨_, rfl, rfl, _, rfl, ?_⟩
  rw [nz]
  refine iteF ?_
  refine ⟨_, rfl, _, _, rfl, rfl, _, rfl, ite2 (fun _ => ?_) (fun _ => ?_)⟩
  · refine ⟨_, rfl, d, c, rfl, D1, fun n H2 n0 n1 k2 D2 => ⟨(by show 2 ≤ sizeLine; decide), fun p np => ?_⟩⟩
    exact q _ _ _ _ _ (.tup (SqT.of upd_same) (.cons (.str _) (.cons (.int _) .nil))) (.num n n0 n1) (by show 1 ≤ 1 + _; omega) ((k1'.trans (k2.mono G3.sub)).new np) ((g1.take k2 D2).new np)
  refine ⟨_, rfl, rfl, _, rfl, ite2 (fun _ => ?_) (fun _ => ?_)⟩
  · refine ⟨_, rfl, _, rfl, _, _, rfl, rfl, _, rfl, d, c, lf, congrArg (fun i : Int => [V.ref d, V.int i, V.ref lf]) dk, g1, fun v ws n m H2 hv hw hm k2 g2 => ⟨(by show 2 ≤ sizeLine; decide), fun p np => ?_⟩⟩
    refine q _ _ _ _ _ (.tup (SqT.of upd_same) (.cons (.str _) (.cons (hv.mono (.of (same_new np _))) .nil))) (.row hw (Nat.lt_succ_self k)) ?_ ((k1'.trans k2).new np) (g2.new np)
    show m + 1 ≤ 1 + 6 * (1 + BT k)
    omega
  · refine ⟨_, rfl, _, rfl, _, _, rfl, rfl, _, rfl, d, c, lf, congrArg (fun i : Int => [V.ref d, V.int i, V.ref lf]) dk, g1, fun v ws n m H2 hv hw hm k2 g2 => ⟨(by show 2 ≤ sizeLine; decide), fun p np => ?_⟩⟩
    refine q _ _ _ _ _ (.tup (SqT.of upd_same) (.cons (.str _) (.cons (hv.mono (.of (same_new np _))) .nil))) (.lst hw (Nat.lt_succ_self k)) ?_ ((k1'.trans k2).new np) (g2.new np)
    show m + 1 ≤ 1 + 6 * (1 + BT k)
    omega
abbrev NK : List Str := ["_law_deck_here", "_law_deep", "_law_left", "_law_found", "_law_k"]
theorem scStack : FnScope NK A3 (defScope sStack) := ⟨rfl, rfl, rfl, by decide +kernel, rfl, by decide +kernel, by decide +kernel⟩
theorem ok_stack {k : Nat} {f g gt : Addr} {fd gd gtd : FuncData} (F : Fun K "_law_stack" "_law_stack" sStack f fd) (G : FnOk P w K mg base CX0 2 g gd ["_law_deck_here", "_law_most"] spTake) (bG : L2.Binds K gd ["_law_deck_here", "_law_most"] []) (kG : keepIn K (.ref g) = true) (mG : mg "_law_take" = some (.ref g))
    (T : FnOk P w K mg base CX0 (5 + 3 * k) gt gtd A3 (spThing K k)) (bT : L2.Binds K gtd A3 []) (kT : keepIn K (.ref gt) = true) (mT : mg "_law_thing" = some (.ref gt)) (mrange : mg "range" = none) (mint : mg "int" = none) (mtup : mg "tuple" = none) : FnOk P w K mg base CX0 (5 + 3 * k + 1) f fd A3 (spStack K k) := by
  refine F.ok scStack (fun vs H Q E h => ?_) (fun cdv A outer s H vs Q E hr h => ?_)
  · obtain ⟨d, c, lf, rfl, _⟩ := h
    rfl
  obtain ⟨d, c, lf, rfl, g0, q⟩ := h
  have hr2 := hr.mono (j := 2) (by omega)
  refine ⟨_, pss_cons (ps_set (i := 3) scStack.nd rfl (.inl rfl) (pe_lst pa_nil))
    (pss_cons (ps_for PassesOwn.never rfl (pi_range1 rfl mrange (pa_cons (pe_call G hr2 rfl mG kG bG .nil pass0 (pa_cons (pv 0) (pa_cons (pe_ix ix_list (pe_lst (pa_cons pe_int (pa_cons pe_int pa_nil))) (pe_callTy call_int1 (by rfl) mint (by decide +kernel) (pa_cons (pe_cmpR op_eq (pe_call G hr2 rfl mG kG bG .nil pass0 (pa_cons (pv 0) (pa_cons pe_int pa_nil))) pe_int (nomark _)) pa_nil)) (fun _ _ => rfl)) pa_nil))) pa_nil)) (pg_name (i := 4) scStack.nd rfl (.inl rfl))
      (pss_one (ps_if (pt_cmpR op_gt (pe_ix ix_list (pv 2) pe_int (fun _ _ => rfl)) pe_int (nomark _))
        (pss_cons (ps_asg (pe_op op_sub (pe_ix ix_list (pv 2) pe_int (fun _ _ => rfl)) pe_int) (pg_sub (pv 2) pe_int set_list))
        (pss_one (ps_expr (pe_bm PySem.F.plainAttrs_list PySem.F.slot_list_append PySem.F.type_list_append mt_append (pv 3) (pa_cons (pe_call T hr rfl mT kT bT .nil pass0 (pa_cons (pv 0) (pa_cons (pv 1) (pa_cons (pv 2) pa_nil)))) pa_nil))))) pss_nil)))
    (pss_one (ps_ret (pe_callTy call_tuple_of (by rfl) mtup (by decide +kernel) (pa_cons (pv 3) pa_nil))))), ?_⟩
  refine ⟨(by show 0 ≤ sizeLine; decide), fun fo nfo => ?_⟩
  have nfd := g0.nd nfo
  have g1 := g0.new nfo (o := .lst [])
  have k1 : Kp [d, c, lf] H (upd H fo (.lst [])) := (Kp.refl _ H).new nfo
  have hf1 : upd H fo (.lst []) fo = some (.lst []) := upd_same
  generalize upd H fo (.lst []) = H1 at g1 k1 hf1
  refine ⟨_, rfl, (by show 2 ≤ sizeLine; decide), fun p np => ?_⟩
  refine ⟨_, rfl, d, c, 8, rfl, g1.dk.new np, by decide, by decide, fun r H2 _ _ k2 D2 => ⟨rfl, .inr ⟨_, rfl, ?_⟩⟩⟩
  have hp2 : H2 p = some (.lst [.int 4, .int 7]) := g1.dk.kp k2 np
  have kk2 : Kp [d, c, lf] H H2 := (k1.new np).trans (k2.mono G3.sub)
  have g2 : G3 H2 d c lf := (g1.new np).take k2 D2
  have hf2 : H2 fo = some (.lst []) := k2 fo _ (fun z => nfd (G3.sub fo z)) (kn hf1 np)
  obtain ⟨mx, hx0, hx1, hx2⟩ : ∃ mx : Int, 0 < mx ∧ mx ≤ 7 ∧ atI [V.int 4, .int 7] (if decide (V.int r = V.int 7) = true then (1 : Int) else 0) = some (.int mx) := by
    by_cases h0 : decide (V.int r = V.int 7) = true
    · rw [if_pos h0]; exact ⟨7, by decide, by decide, atI_nat (j := 1) rfl⟩
    · rw [if_neg h0]; exact ⟨4, by decide, by decide, atI_nat (j := 0) rfl⟩
  refine ⟨p, _, _, _, rfl, rfl, SqL.of hp2, hx2, d, c, mx, rfl, g2.dk, hx0, by omega, fun r3 H3 r30 r31 k3 D3 => ?_⟩
  have kk3 := kk2.trans (k3.mono G3.sub)
  have g3 := g2.take k3 D3
  have hf3 : H3 fo = some (.lst []) := k3 fo _ (fun z => nfd (G3.sub fo z)) hf2
  refine ⟨r3, rfl, by omega, by omega, for_range (lo := 0) (n := r3.toNat) (fun i σ H' => ∃ (acc : List V) (ts : List PyData) (n m : Nat) (x4 : Option V), σ = [some (.ref d), some (.int k), some (.ref lf), some (.ref fo), x4] ∧ H' fo = some (.lst acc) ∧ TrAll K H' acc ts ∧ Stk k n m ts ∧ m ≤ i * BT k ∧ acc.length ≤ i ∧ Kp [d, c, lf] H H' ∧ G3 H' d c lf)
    ⟨[], [], 0, 0, none, rfl, hf3, .nil, .nil, by omega, Nat.le_refl 0, kk3, g3⟩ ?_ ?_⟩
  · rintro i σ H4 hi ⟨acc, ts, n, m, x4, rfl, hf, ha, hk, hm, hl, k4, g4⟩
    obtain ⟨ln, hlf⟩ := g4.left
    have mul : (i + 1) * BT k = i * BT k + BT k := Nat.succ_mul i (BT k)
    refine ⟨_, rfl, lf, _, _, _, rfl, rfl, SqL.of hlf, atI_nat (j := 0) rfl, _, _, rfl, rfl, _, rfl, ite2 (fun _ => ?_) (fun _ => ?_)⟩
    · refine ⟨_, rfl, lf, _, _, _, rfl, rfl, SqL.of hlf, atI_nat (j := 0) rfl, _, _, rfl, rfl, _, rfl, lf, _, _, 0, rfl, rfl, hlf, rfl, ?_⟩
      have tk5 : TKs K H4 (upd H4 lf (.lst [.int (ln - 1)])) := TKs.lst hlf
      have g5 : G3 (upd H4 lf (.lst [.int (ln - 1)])) d c lf := g4.less _
      have k5 : Kp [d, c, lf] H (upd H4 lf (.lst [.int (ln - 1)])) := k4.own lfm
      have hf5 : upd H4 lf (.lst [.int (ln - 1)]) fo = some (.lst acc) := by rw [upd_ne (fun z => nfd (by rw [z]; exact lfm))]; exact hf
      refine ⟨_, rfl, .inl ⟨rfl, _, SqL.of hf5⟩, _, rfl, _, rfl, _, rfl, d, c, lf, rfl, g5, fun v t n2 m2 H6 hv ht hm2 k6 g6 => ?_⟩
      have hf6 : H6 fo = some (.lst acc) := k6 fo _ nfd hf5
      have tk6 := tk5.trans (g5.tks (K := K) k6)
      refine ⟨fo, acc, v, rfl, rfl, hf6, small1000 (by omega), ?_⟩
      refine ⟨acc ++ [v], ts ++ [t], n + n2, m + m2, _, rfl, upd_same, ?_, hk.append (by have := Stk.cons ht Stk.nil; rw [Nat.add_zero, Nat.add_zero] at this; exact this), by omega, by rw [List.length_append, List.length_singleton]; omega, (k5.trans k6).put ((Kp.refl _ H).free nfo nfd), g6.put nfd⟩
      exact ((ha.mono tk6).append (.cons hv .nil)).mono (TKs.lst hf6)
    · exact ⟨acc, ts, n, m, _, rfl, hf, ha, hk, by omega, by omega, k4, g4⟩
  · rintro σ H4 ⟨acc, ts, n, m, x4, rfl, hf, ha, hk, hm, hl, k4, g4⟩
    refine ⟨_, rfl, fo, acc, rfl, .inl ⟨SqL.of hf, fun t nt => ?_⟩⟩
    refine q _ ts n m _ (.tup (SqT.of upd_same) (ha.mono (.of (same_new nt _)))) hk ?_ (k4.new nt) (g4.new nt)
    have : r3.toNat * BT k ≤ 6 * BT k := Nat.mul_le_mul_right _ (by omega)
    omega
theorem scRow : FnScope NK A3 (defScope sRow) := ⟨rfl, rfl, rfl, by decide +kernel, rfl, by decide +kernel, by decide +kernel⟩
theorem ok_row {k : Nat} {f g gt : Addr} {fd gd gtd : FuncData} (F : Fun K "_law_row" "_law_row" sRow f fd) (G : FnOk P w K mg base CX0 2 g gd ["_law_deck_here", "_law_most"] spTake) (bG : L2.Binds K gd ["_law_deck_here", "_law_most"] []) (kG : keepIn K (.ref g) = true) (mG : mg "_law_take" = some (.ref g))
    (T : FnOk P w K mg base CX0 (5 + 3 * k) gt gtd A3 (spWord K k)) (bT : L2.Binds K gtd A3 []) (kT : keepIn K (.ref gt) = true) (mT : mg "_law_word" = some (.ref gt)) (mrange : mg "range" = none) (mint : mg "int" = none) (mtup : mg "tuple" = none) : FnOk P w K mg base CX0 (5 + 3 * k + 1) f fd A3 (spRow K k) := by
  refine F.ok scRow (fun vs H Q E h => ?_) (fun cdv A outer s H vs Q E hr h => ?_)
  · obtain ⟨d, c, lf, rfl, _⟩ := h
    rfl
  obtain ⟨d, c, lf, rfl, g0, q⟩ := h
  have hr2 := hr.mono (j := 2) (by omega)
  refine ⟨_, pss_cons (ps_set (i := 3) scRow.nd rfl (.inl rfl) (pe_lst pa_nil))
    (pss_cons (ps_for PassesOwn.never rfl (pi_range1 rfl mrange (pa_cons (pe_call G hr2 rfl mG kG bG .nil pass0 (pa_cons (pv 0) (pa_cons (pe_ix ix_list (pe_lst (pa_cons pe_int (pa_cons pe_int pa_nil))) (pe_callTy call_int1 (by rfl) mint (by decide +kernel) (pa_cons (pe_cmpR op_eq (pe_call G hr2 rfl mG kG bG .nil pass0 (pa_cons (pv 0) (pa_cons pe_int pa_nil))) pe_int (nomark _)) pa_nil)) (fun _ _ => rfl)) pa_nil))) pa_nil)) (pg_name (i := 4) scRow.nd rfl (.inl rfl))
      (pss_one (ps_if (pt_cmpR op_gt (pe_ix ix_list (pv 2) pe_int (fun _ _ => rfl)) pe_int (nomark _))
        (pss_one (ps_expr (pe_bm PySem.F.plainAttrs_list PySem.F.slot_list_append PySem.F.type_list_append mt_append (pv 3) (pa_cons (pe_call T hr rfl mT kT bT .nil pass0 (pa_cons (pv 0) (pa_cons (pv 1) (pa_cons (pv 2) pa_nil)))) pa_nil)))) pss_nil)))
    (pss_one (ps_ret (pe_callTy call_tuple_of (by rfl) mtup (by decide +kernel) (pa_cons (pv 3) pa_nil))))), ?_⟩
  refine ⟨(by show 0 ≤ sizeLine; decide), fun fo nfo => ?_⟩
  have nfd := g0.nd nfo
  have g1 := g0.new nfo (o := .lst [])
  have k1 : Kp [d, c, lf] H (upd H fo (.lst [])) := (Kp.refl _ H).new nfo
  have hf1 : upd H fo (.lst []) fo = some (.lst []) := upd_same
  generalize upd H fo (.lst []) = H1 at g1 k1 hf1
  refine ⟨_, rfl, (by show 2 ≤ sizeLine; decide), fun p np => ?_⟩
  refine ⟨_, rfl, d, c, 8, rfl, g1.dk.new np, by decide, by decide, fun r H2 _ _ k2 D2 => ⟨rfl, .inr ⟨_, rfl, ?_⟩⟩⟩
  have hp2 : H2 p = some (.lst [.int 4, .int 7]) := g1.dk.kp k2 np
  have kk2 : Kp [d, c, lf] H H2 := (k1.new np).trans (k2.mono G3.sub)
  have g2 : G3 H2 d c lf := (g1.new np).take k2 D2
  have hf2 : H2 fo = some (.lst []) := k2 fo _ (fun z => nfd (G3.sub fo z)) (kn hf1 np)
  obtain ⟨mx, hx0, hx1, hx2⟩ : ∃ mx : Int, 0 < mx ∧ mx ≤ 7 ∧ atI [V.int 4, .int 7] (if decide (V.int r = V.int 7) = true then (1 : Int) else 0) = some (.int mx) := by
    by_cases h0 : decide (V.int r = V.int 7) = true
    · rw [if_pos h0]; exact ⟨7, by decide, by decide, atI_nat (j := 1) rfl⟩
    · rw [if_neg h0]; exact ⟨4, by decide, by decide, atI_nat (j := 0) rfl⟩
  refine ⟨p, _, _, _, rfl, rfl, SqL.of hp2, hx2, d, c, mx, rfl, g2.dk, hx0, by omega, fun r3 H3 r30 r31 k3 D3 => ?_⟩
  have kk3 := kk2.trans (k3.mono G3.sub)
  have g3 := g2.take k3 D3
  have hf3 : H3 fo = some (.lst []) := k3 fo _ (fun z => nfd (G3.sub fo z)) hf2
  refine ⟨r3, rfl, by omega, by omega, for_range (lo := 0) (n := r3.toNat) (fun i σ H' => ∃ (acc : List V) (ts : List PyData) (n m : Nat) (x4 : Option V), σ = [some (.ref d), some (.int k), some (.ref lf), some (.ref fo), x4] ∧ H' fo = some (.lst acc) ∧ TrAll K H' acc ts ∧ Rw k n m ts ∧ m ≤ i * (1 + BT k) ∧ acc.length ≤ i ∧ Kp [d, c, lf] H H' ∧ G3 H' d c lf)
    ⟨[], [], 0, 0, none, rfl, hf3, .nil, .nil, by omega, Nat.le_refl 0, kk3, g3⟩ ?_ ?_⟩
  · rintro i σ H4 hi ⟨acc, ts, n, m, x4, rfl, hf, ha, hk, hm, hl, k4, g4⟩
    obtain ⟨ln, hlf⟩ := g4.left
    have mul : (i + 1) * (1 + BT k) = i * (1 + BT k) + (1 + BT k) := Nat.succ_mul i (1 + BT k)
    refine ⟨_, rfl, lf, _, _, _, rfl, rfl, SqL.of hlf, atI_nat (j := 0) rfl, _, _, rfl, rfl, _, rfl, ite2 (fun _ => ?_) (fun _ => ?_)⟩
    · refine ⟨_, rfl, .inl ⟨rfl, _, SqL.of hf⟩, _, rfl, _, rfl, _, rfl, d, c, lf, rfl, g4, fun v t n2 m2 H6 hv ht hm2 k6 g6 => ?_⟩
      have hf6 : H6 fo = some (.lst acc) := k6 fo _ nfd hf
      have tk6 := g4.tks (K := K) k6
      refine ⟨fo, acc, v, rfl, rfl, hf6, small1000 (by omega), ?_⟩
      refine ⟨acc ++ [v], ts ++ [t], n + n2, m + m2, _, rfl, upd_same, ?_, hk.append ht, by omega, by rw [List.length_append, List.length_singleton]; omega, (k4.trans k6).put ((Kp.refl _ H).free nfo nfd), g6.put nfd⟩
      exact ((ha.mono tk6).append (.cons hv .nil)).mono (TKs.lst hf6)
    · exact ⟨acc, ts, n, m, _, rfl, hf, ha, hk, by omega, by omega, k4, g4⟩
  · rintro σ H4 ⟨acc, ts, n, m, x4, rfl, hf, ha, hk, hm, hl, k4, g4⟩
    refine ⟨_, rfl, fo, acc, rfl, .inl ⟨SqL.of hf, fun t nt => ?_⟩⟩
    refine q _ ts n m _ (.tup (SqT.of upd_same) (ha.mono (.of (same_new nt _)))) hk ?_ (k4.new nt) (g4.new nt)
    have : r3.toNat * (1 + BT k) ≤ 6 * (1 + BT k) := Nat.mul_le_mul_right _ (by omega)
    omega
def basics : List Str := ["plus", "minus", "times", "less", "same", "do", "dip", "if", "while", "repeat", "join", "wrap", "put", "part", "each"]
theorem basics_split : Txt.split "plus minus times less same do dip if while repeat join wrap put part each" " " = basics := by decide +kernel
theorem basics_tx : ∀ z ∈ basics, litB z 6 = true := by decide +kernel
abbrev NWd : List Str := ["_law_deck_here", "_law_deep", "_law_left", "_law_basics", "_law_way"]
theorem scWord : FnScope NWd A3 (defScope sWord) := ⟨rfl, rfl, rfl, by decide +kernel, rfl, by decide +kernel, by decide +kernel⟩
theorem ok_word {k : Nat} {f g gt gs gn : Addr} {fd gd gtd gsd gnd : FuncData} (F : Fun K "_law_word" "_law_word" sWord f fd) (G : FnOk P w K mg base CX0 2 g gd ["_law_deck_here", "_law_most"] spTake) (bG : L2.Binds K gd ["_law_deck_here", "_law_most"] []) (kG : keepIn K (.ref g) = true) (mG : mg "_law_take" = some (.ref g))
    (T : FnOk P w K mg base CX0 (4 + 3 * k) gt gtd A3 (spThing K k)) (bT : L2.Binds K gtd A3 []) (kT : keepIn K (.ref gt) = true) (mT : mg "_law_thing" = some (.ref gt))
    (Z : FnOk P w K mg base CX0 3 gs gsd ["_law_deck_here"] (spTx 100)) (bZ : L2.Binds K gsd ["_law_deck_here"] []) (kZ : keepIn K (.ref gs) = true) (mZ : mg "_law_shuffle" = some (.ref gs))
    (N : FnOk P w K mg base CX0 3 gn gnd ["_law_deck_here"] (spTx 100)) (bN : L2.Binds K gnd ["_law_deck_here"] []) (kN : keepIn K (.ref gn) = true) (mN : mg "_law_name" = some (.ref gn)) : FnOk P w K mg base CX0 (4 + 3 * k + 1) f fd A3 (spWord K k) := by
  refine F.ok scWord (fun vs H Q E h => ?_) (fun cdv A outer s H vs Q E hr h => ?_)
  · obtain ⟨d, c, lf, rfl, _⟩ := h
    rfl
  obtain ⟨d, c, lf, rfl, g0, q⟩ := h
  have hr2 := hr.mono (j := 2) (by omega)
  have hr3 := hr.mono (j := 3) (by omega)
  refine ⟨_, pss_cons (ps_set (i := 3) scWord.nd rfl (.inl rfl) (pe_split pe_str pe_str))
    (pss_cons (ps_asg (pe_op op_sub (pe_ix ix_list (pv 2) pe_int (fun _ _ => rfl)) pe_int) (pg_sub (pv 2) pe_int set_list))
    (pss_cons (ps_set (i := 4) scWord.nd rfl (.inl rfl) (pe_call G hr2 rfl mG kG bG .nil pass0 (pa_cons (pv 0) (pa_cons pe_int pa_nil))))
    (pss_cons (ps_if (pt_cmpR op_lt (pv 4) pe_int (nomark _)) (pss_one (ps_ret (pe_ix ix_list (pv 3) (pe_call G hr2 rfl mG kG bG .nil pass0 (pa_cons (pv 0) (pa_cons pe_int pa_nil))) (fun _ _ => rfl)))) pss_nil)
    (pss_cons (ps_if (pt_cmpR op_eq (pv 4) pe_int (nomark _)) (pss_one (ps_ret (pe_call Z hr3 rfl mZ kZ bZ .nil pass0 (pa_cons (pv 0) pa_nil)))) pss_nil)
    (pss_cons (ps_if (pt_cmpR op_eq (pv 4) pe_int (nomark _)) (pss_one (ps_ret (pe_call N hr3 rfl mN kN bN .nil pass0 (pa_cons (pv 0) pa_nil)))) pss_nil)
    (pss_one (ps_ret (pe_tup (pa_cons pe_str (pa_cons (pe_call T hr rfl mT kT bT .nil pass0 (pa_cons (pv 0) (pa_cons (pv 1) (pa_cons (pv 2) pa_nil)))) pa_nil)))))))))), ?_⟩
  refine ⟨⟨_, rfl⟩, _, _, rfl, rfl, (by decide +kernel), (by decide +kernel), fun b nb => ?_⟩
  rw [basics_split]
  have nbd := g0.nd nb
  have g1 := g0.new nb (o := .lst (basics.map V.str))
  have k1 : Kp [d, c, lf] H (upd H b (.lst (basics.map V.str))) := (Kp.refl _ H).new nb
  have hb1 : upd H b (.lst (basics.map V.str)) b = some (.lst (basics.map V.str)) := upd_same
  generalize upd H b (.lst (basics.map V.str)) = H1 at g1 k1 hb1
  obtain ⟨ln, hlf⟩ := g1.left
  refine ⟨_, rfl, lf, _, _, _, rfl, rfl, SqL.of hlf, atI_nat (j := 0) rfl, _, _, rfl, rfl, _, rfl, lf, _, _, 0, rfl, rfl, hlf, rfl, ?_⟩
  have g2 : G3 (upd H1 lf (.lst [.int (ln - 1)])) d c lf := g1.less _
  have k2 : Kp [d, c, lf] H (upd H1 lf (.lst [.int (ln - 1)])) := k1.own lfm
  have hb2 : upd H1 lf (.lst [.int (ln - 1)]) b = some (.lst (basics.map V.str)) := by rw [upd_ne (fun z => nbd (by rw [z]; exact lfm))]; exact hb1
  refine ⟨_, rfl, d, c, 7, rfl, g2.dk, by decide, by decide, fun r H3 _ _ k3 D3 => ?_⟩
  have g3 := g2.take k3 D3
  have kk3 := k2.trans (k3.mono G3.sub)
  have hb3 : H3 b = some (.lst (basics.map V.str)) := k3 b _ (fun z => nbd (G3.sub b z)) hb2
  have txt : ∀ (z : Str) (H' : Hp), Tx z 100 → Kp [d, c] H3 H' → Deck H' d c → Q (.str z) H' := fun z H' tz k4 D4 =>
    q _ _ _ _ H' (.str z) (.txt tz .nil) (by show 0 + 1 ≤ _; omega) (kk3.trans (k4.mono G3.sub)) (g3.take k4 D4)
  refine ⟨_, rfl, _, _, rfl, rfl, _, rfl, ite2 (fun _ => ?_) (fun _ => ?_)⟩
  · refine ⟨_, rfl, _, rfl, d, c, 15, rfl, g3.dk, by decide, by decide, fun r4 H4 r40 r41 k4 D4 => ?_⟩
    obtain ⟨v, hv, ha⟩ := pick (xs := basics.map V.str) (n := 15) r40 r41 rfl
    obtain ⟨z, hz, rfl⟩ := List.mem_map.mp hv
    exact ⟨b, _, _, _, rfl, rfl, SqL.of (k4 b _ (fun z => nbd (G3.sub b z)) hb3), ha, txt z H4 ((Tx.lit (basics_tx z hz)).mono (by decide)) k4 D4⟩
  refine ⟨_, rfl, rfl, _, rfl, ite2 (fun _ => ?_) (fun _ => ?_)⟩
  · exact ⟨_, rfl, d, c, rfl, g3.dk, fun z H4 tz k4 D4 => txt z H4 tz k4 D4⟩
  refine ⟨_, rfl, rfl, _, rfl, ite2 (fun _ => ?_) (fun _ => ?_)⟩
  · exact ⟨_, rfl, d, c, rfl, g3.dk, fun z H4 tz k4 D4 => txt z H4 tz k4 D4⟩
  refine ⟨_, rfl, _, rfl, _, rfl, d, c, lf, rfl, g3, fun v t n m H4 hv ht hm k4 g4 => ⟨(by show 2 ≤ sizeLine; decide), fun p np => ?_⟩⟩
  refine q _ _ _ _ _ (.tup (SqT.of upd_same) (.cons (.str _) (.cons (hv.mono (.of (same_new np _))) .nil))) (.push ht .nil) ?_ ((kk3.trans k4).new np) (g4.new np)
  show m + 0 + 1 ≤ 1 + BT k
  omega
end
end K03
namespace K03
open PySem PySem.W L2 SX Cm
section
variable {P : Program} {w : World} {K : PySem.W.Frag} {mg : Str → Option Value} {base : Heap}
def spLaw (K : PySem.W.Frag) : Sp := fun vs H Q _ => ∃ (a : Addr) (ns : List Int), vs = [.ref a] ∧ SqL K H a (ns.map V.int) ∧ ns.length ≤ 63 ∧ ∀ H', Q (.bl true) H'
abbrev NL : List Str := ["_law_script", "_law_deck_here", "_law_k", "_law_row_here", "_law_other", "_law_found", "_law_listed"]
theorem scLaw : FnScope NL ["_law_script"] (defScope sLaw) := ⟨rfl, rfl, rfl, by decide +kernel, rfl, by decide +kernel, by decide +kernel⟩
theorem bt4 : 6 * (1 + BT 4) ≤ 20000 := by decide
theorem ne_self (i j : Int) (h : i = j) : (!decide (V.int i = V.int j)) = false := by rw [h, decide_eq_true rfl]; rfl
theorem ok_law {f gd gr gw gc : Addr} {fd dd rd wd cd : FuncData} (F : Fun K "law" "law" sLaw f fd)
    (DE : FnOk P w K mg base CX0 1 gd dd ["_law_script"] (spDeck K)) (bDE : L2.Binds K dd ["_law_script"] []) (kDE : keepIn K (.ref gd) = true) (mDE : mg "_law_deck" = some (.ref gd))
    (RO : FnOk P w K mg base CX0 18 gr rd A3 (spRow K 4)) (bRO : L2.Binds K rd A3 []) (kRO : keepIn K (.ref gr) = true) (mRO : mg "_law_row" = some (.ref gr))
    (WO : FnOk P w K mg base CX0 1 gw wd ["row"] (spWords K)) (bWO : L2.Binds K wd ["row"] []) (kWO : keepIn K (.ref gw) = true) (mWO : mg "words_in" = some (.ref gw))
    (CO : FnOk P w K mg base CX0 1 gc cd ["_law_row_here"] (spWords K)) (bCO : L2.Binds K cd ["_law_row_here"] []) (kCO : keepIn K (.ref gc) = true) (mCO : mg "_law_count" = some (.ref gc))
    (mrange : mg "range" = none) (misi : mg "isinstance" = none) (mint : mg "int" = none) (mbool : mg "bool" = none) : FnOk P w K mg base CX0 19 f fd ["_law_script"] (spLaw K) := by
  refine F.ok scLaw (fun vs H Q E h => ?_) (fun cdv A outer s H vs Q E hr h => ?_)
  · obtain ⟨a, ns, rfl, _⟩ := h
    rfl
  obtain ⟨a, ns, rfl, hS, h63, q⟩ := h
  have hr1 := hr.mono (j := 1) (by decide)
  refine ⟨_, pss_cons (ps_set (i := 1) scLaw.nd rfl (.inl rfl) (pe_call DE hr1 rfl mDE kDE bDE .nil pass0 (pa_cons (pv 0) pa_nil)))
    (pss_cons (ps_for PassesOwn.never rfl (pi_range1 rfl mrange (pa_cons pe_int pa_nil)) (pg_name (i := 2) scLaw.nd rfl (.inl rfl))
      (pss_cons (ps_set (i := 3) scLaw.nd rfl (.inl rfl) (pe_call RO hr rfl mRO kRO bRO .nil pass0 (pa_cons (pv 1) (pa_cons pe_int (pa_cons (pe_lst (pa_cons pe_int pa_nil)) pa_nil)))))
      (pss_cons (ps_set (i := 4) scLaw.nd rfl (.inl rfl) (pe_call RO hr rfl mRO kRO bRO .nil pass0 (pa_cons (pv 1) (pa_cons pe_int (pa_cons (pe_lst (pa_cons pe_int pa_nil)) pa_nil)))))
      (pss_cons (ps_set (i := 5) scLaw.nd rfl (.inl rfl) (pe_call WO hr1 rfl mWO kWO bWO .nil pass0 (pa_cons (pv 3) pa_nil)))
      (pss_cons (ps_if (PW.pt (pw_or (pt_not (pt_val (pe_callB call_isi (by rfl) misi PyProof.Rows.boot_isinstance (pa_cons (pv 5) (pa_cons (pe_bltn (v := .ty "int") (by rfl) mint (by decide +kernel) rfl) pa_nil))))) (pw_or (pt_val (pe_callB call_isi (by rfl) misi PyProof.Rows.boot_isinstance (pa_cons (pv 5) (pa_cons (pe_bltn (v := .ty "bool") (by rfl) mbool (by decide +kernel) rfl) pa_nil)))) (pw_or1 (pt_cmpR op_ne (pv 5) (pe_call CO hr1 rfl mCO kCO bCO .nil pass0 (pa_cons (pv 3) pa_nil)) (nomark _)))))) (pss_one (ps_ret pe_bl)) pss_nil)
      (C8.pss_cut (ps_if (pt_cmpR op_ne (pe_call WO hr1 rfl mWO kWO bWO .nil pass0 (pa_cons (pe_op op_catA (pv 3) (pv 4)) pa_nil)) (pe_op op_add (pv 5) (pe_call CO hr1 rfl mCO kCO bCO .nil pass0 (pa_cons (pv 4) pa_nil))) (nomark _)) (pss_one (ps_ret pe_bl)) pss_nil)
      (pss_cons (ps_if (pt_cmpR op_ne (pe_call WO hr1 rfl mWO kWO bWO .nil pass0 (pa_cons (pe_tup (pa_cons (pe_tup (pa_cons pe_str (pa_cons (pe_tup (pa_cons pe_str (pa_cons (pv 3) pa_nil))) pa_nil))) pa_nil)) pa_nil)) (pe_op op_add (pv 5) pe_int) (nomark _)) (pss_one (ps_ret pe_bl)) pss_nil)
      (pss_cons (ps_set (i := 6) scLaw.nd rfl (.inl rfl) (pe_tup (pa_cons pe_str (pa_cons (pe_tup (pa_cons pe_str (pa_cons (pe_tup (pa_cons (pe_tup (pa_cons pe_str (pa_cons (pv 3) pa_nil))) (pa_cons (pe_tup (pa_cons pe_str (pa_cons pe_int pa_nil))) (pa_cons (pe_tup (pa_cons pe_str (pa_cons (pv 4) pa_nil))) pa_nil)))) pa_nil))) pa_nil))))
      (pss_one (ps_if (pt_cmpR op_ne (pe_call WO hr1 rfl mWO kWO bWO .nil pass0 (pa_cons (pe_tup (pa_cons (pv 6) pa_nil)) pa_nil)) (pe_op op_add (pe_op op_add pe_int (pv 5)) (pe_call CO hr1 rfl mCO kCO bCO .nil pass0 (pa_cons (pv 4) pa_nil))) (nomark _)) (pss_one (ps_ret pe_bl)) pss_nil))))))))))
    (pss_one (ps_ret (pe_cmpR op_eq (pe_call WO hr1 rfl mWO kWO bWO .nil pass0 (pa_cons (pe_tup pa_nil) pa_nil)) pe_int (nomark _))))), ?_⟩
  refine ⟨_, rfl, a, ns, rfl, hS, h63, fun d c H1 s1 nd nc D1 => ?_⟩
  refine ⟨8, rfl, by decide, by decide, for_range (lo := 0) (n := 8) (fun i σ H' => ∃ (x2 x3 x4 x5 x6 : Option V), σ = [some (.ref a), some (.ref d), x2, x3, x4, x5, x6] ∧ Deck H' d c) ⟨_, _, _, _, _, rfl, D1⟩ ?_ ?_⟩
  · rintro i σ H2 hi ⟨x2, x3, x4, x5, x6, rfl, D2⟩
    refine ⟨_, rfl, (by show 1 ≤ sizeLine; decide), fun l1 nl1 => ?_⟩
    refine ⟨d, c, l1, rfl, ⟨D2.new nl1, ⟨30, upd_same⟩, D2.nd nl1⟩, fun v1 ws1 n1 m1 H3 hv1 hw1 hm1 k3 g3 => ?_⟩
    refine ⟨_, rfl, (by show 1 ≤ sizeLine; decide), fun l2 nl2 => ?_⟩
    have g4 : G3 (upd H3 l2 (.lst [.int 28])) d c l2 := ⟨g3.dk.new nl2, ⟨28, upd_same⟩, g3.dk.nd nl2⟩
    refine ⟨d, c, l2, rfl, g4, fun v2 ws2 n2 m2 H4 hv2 hw2 hm2 k4 g5 => ?_⟩
    have t4 : TKs K H3 H4 := (TKs.of (same_new nl2 (.lst [.int 28]))).trans (g4.tks k4)
    have hv1 := hv1.mono t4
    have D4 := g5.dk
    have b4 := bt4
    clear k4 g5 g4 k3 g3 t4
    have r1 : Rw 9 n1 m1 ws1 := hw1.up (by decide)
    have r2 : Rw 9 n2 m2 ws2 := hw2.up (by decide)
    -- found
    refine ⟨_, rfl, v1, ws1, n1, m1, rfl, hv1, r1, by omega, fun H5 s5 => ?_⟩
    have hv1 := hv1.mono (TKs.of s5)
    have hv2 := hv2.mono (TKs.of s5)
    have D5 := D4.same s5
    refine ⟨_, rfl, _, _, _, _, true, rfl, .ty _, .base (.int _), kit_ty (r := true) (by decide +kernel), _, rfl, iteF ?_⟩
    refine ⟨_, rfl, _, _, _, _, false, rfl, .ty _, .base (.int _), kit_ty (r := false) (by decide +kernel), _, rfl, iteF ?_⟩
    refine ⟨_, rfl, _, rfl, v1, ws1, n1, m1, rfl, hv1, r1, by omega, fun H6 s6 => ⟨rfl, _, rfl, ?_⟩⟩
    rw [ne_self _ _ rfl]
    refine iteF ?_
    have hv1 := hv1.mono (TKs.of s6)
    have hv2 := hv2.mono (TKs.of s6)
    have D6 := D5.same s6
    clear D5 s6 s5 D4
    -- both
    obtain ⟨a1, us1, rfl, q1, h1⟩ : ∃ a1 us1, v1 = .ref a1 ∧ SqT K H6 a1 us1 ∧ TrAll K H6 us1 ws1 := by
      cases hv1 with
      | tup x y => exact ⟨_, _, rfl, x, y⟩
    obtain ⟨a2, us2, rfl, q2, h2⟩ : ∃ a2 us2, v2 = .ref a2 ∧ SqT K H6 a2 us2 ∧ TrAll K H6 us2 ws2 := by
      cases hv2 with
      | tup x y => exact ⟨_, _, rfl, x, y⟩
    have e1 := h1.len; have e2 := h2.len
    have f1 := r1.len; have f2 := r2.len
    refine ⟨fun σ H8 => ∃ x2' : Option V, σ = [some (.ref a), some (.ref d), x2', some (.ref a1), some (.ref a2), some (.int n1), x6] ∧ Same H6 H8, ?_, ?_⟩
    · refine ⟨_, rfl, _, rfl, a1, a2, us1, us2, rfl, rfl, q1, q2, mid (by omega), fun z1 => ?_, fun z1 z2 => ?_, fun z1 z2 p np => ?_⟩
      · have y1 : ws1 = [] := List.eq_nil_of_length_eq_zero (by rw [← e1, z1]; rfl)
        refine ⟨.ref a2, ws1 ++ ws2, n1 + n2, m1 + m2, rfl, by rw [y1]; exact hv2, r1.append r2, by omega, fun H8 s8 => ?_⟩
        have s68 : Same H6 H8 := s8
        refine ⟨_, rfl, _, rfl, _, ws2, n2, m2, rfl, hv2.mono (TKs.of s68), r2, by omega, fun H9 s9 => ⟨_, _, rfl, rfl, rfl, _, rfl, ?_⟩⟩
        rw [ne_self _ _ (show ((n1 + n2 : Nat) : Int) = (n1 : Int) + (n2 : Int) by omega)]
        exact iteF ⟨_, rfl, s68.trans s9⟩
      · have y2 : ws2 = [] := List.eq_nil_of_length_eq_zero (by rw [← e2, z2]; rfl)
        refine ⟨.ref a1, ws1 ++ ws2, n1 + n2, m1 + m2, rfl, by rw [y2, List.append_nil]; exact hv1, r1.append r2, by omega, fun H8 s8 => ?_⟩
        have s68 : Same H6 H8 := s8
        refine ⟨_, rfl, _, rfl, _, ws2, n2, m2, rfl, hv2.mono (TKs.of s68), r2, by omega, fun H9 s9 => ⟨_, _, rfl, rfl, rfl, _, rfl, ?_⟩⟩
        rw [ne_self _ _ (show ((n1 + n2 : Nat) : Int) = (n1 : Int) + (n2 : Int) by omega)]
        exact iteF ⟨_, rfl, s68.trans s9⟩
      · have sp6 : Same H6 (upd H6 p (.tup (us1 ++ us2))) := same_new np _
        refine ⟨.ref p, ws1 ++ ws2, n1 + n2, m1 + m2, rfl, .tup (SqT.of upd_same) ((h1.append h2).mono (TKs.of sp6)), r1.append r2, by omega, fun H8 s8 => ?_⟩
        have s68 : Same H6 H8 := sp6.trans s8
        refine ⟨_, rfl, _, rfl, _, ws2, n2, m2, rfl, hv2.mono (TKs.of s68), r2, by omega, fun H9 s9 => ⟨_, _, rfl, rfl, rfl, _, rfl, ?_⟩⟩
        rw [ne_self _ _ (show ((n1 + n2 : Nat) : Int) = (n1 : Int) + (n2 : Int) by omega)]
        exact iteF ⟨_, rfl, s68.trans s9⟩
    · rintro σ H7 ⟨x2', rfl, s67⟩
      have hv1 := hv1.mono (TKs.of s67)
      have hv2 := hv2.mono (TKs.of s67)
      have D7 := D6.same s67
      -- pushed
      refine ⟨_, rfl, (by show 2 ≤ sizeLine; decide), fun p1 np1 => ⟨(by show 2 ≤ sizeLine; decide), fun p2 np2 => ⟨(by show 1 ≤ sizeLine; decide), fun p3 np3 => ?_⟩⟩⟩
      have y1 : Tr K (upd H7 p1 (.tup [.str "row", .ref a1])) (.ref p1) (.tuple [.str "row", .tuple ws1]) := .tup (SqT.of upd_same) (.cons (.str _) (.cons (hv1.mono (TKs.of (same_new np1 _))) .nil))
      have y2 : Tr K (upd (upd H7 p1 (.tup [.str "row", .ref a1])) p2 (.tup [.str "push", .ref p1])) (.ref p2) (.tuple [.str "push", .tuple [.str "row", .tuple ws1]]) := .tup (SqT.of upd_same) (.cons (.str _) (.cons (y1.mono (TKs.of (same_new np2 _))) .nil))
      have sA : Same H7 (upd (upd (upd H7 p1 (.tup [.str "row", .ref a1])) p2 (.tup [.str "push", .ref p1])) p3 (.tup [.ref p2])) := ((same_new np1 _).trans (same_new np2 _)).trans (same_new np3 _)
      have rp : Rw 9 (n1 + 0 + 1) (m1 + 1 + 0 + 1) [.tuple [.str "push", .tuple [.str "row", .tuple ws1]]] := .push (.row (hw1.up (show 4 ≤ 8 by decide)) (by decide)) .nil
      refine ⟨_, _, _, _, rfl, .tup (SqT.of upd_same) (.cons (y2.mono (TKs.of (same_new np3 _))) .nil), rp, by omega, fun H8 s8 => ?_⟩
      have s78 := sA.trans s8
      refine ⟨_, rfl, _, _, rfl, rfl, rfl, _, rfl, ?_⟩
      rw [ne_self _ _ (show ((n1 + 0 + 1 : Nat) : Int) = (n1 : Int) + 1 by omega)]
      refine iteF ?_
      have hv1 := hv1.mono (TKs.of s78)
      have hv2 := hv2.mono (TKs.of s78)
      have D8 := D7.same s78
      -- listed
      refine ⟨_, rfl, (by show 2 ≤ sizeLine; decide), fun t1 nt1 => ⟨(by show 2 ≤ sizeLine; decide), fun t2 nt2 => ⟨_, rfl, (by show 2 ≤ sizeLine; decide), fun t3 nt3 => ⟨(by show 3 ≤ sizeLine; decide), fun t4 nt4 => ⟨(by show 2 ≤ sizeLine; decide), fun t5 nt5 => ⟨(by show 2 ≤ sizeLine; decide), fun t6 nt6 => ?_⟩⟩⟩⟩⟩⟩
      have u1 : Tr K (upd H8 t1 (.tup [.str "row", .ref a1])) (.ref t1) (.tuple [.str "row", .tuple ws1]) := .tup (SqT.of upd_same) (.cons (.str _) (.cons (hv1.mono (TKs.of (same_new nt1 _))) .nil))
      have w1 := hv2.mono (TKs.of (K := K) (same_new nt1 (.tup [.str "row", .ref a1])))
      have s81 : Same H8 (upd H8 t1 (.tup [.str "row", .ref a1])) := same_new nt1 _
      generalize upd H8 t1 (.tup [.str "row", .ref a1]) = G1 at u1 w1 s81 nt2 nt3 nt4 nt5 nt6 ⊢
      have u2 : Tr K (upd G1 t2 (.tup [.str "number", .int 7])) (.ref t2) (.tuple [.str "number", .int 7]) := .tup (SqT.of upd_same) (.cons (.str _) (.cons (.int _) .nil))
      have u1 := u1.mono (TKs.of (K := K) (same_new nt2 (.tup [.str "number", .int 7])))
      have w1 := w1.mono (TKs.of (K := K) (same_new nt2 (.tup [.str "number", .int 7])))
      have s82 := s81.trans (same_new nt2 (.tup [.str "number", .int 7]))
      generalize upd G1 t2 (.tup [.str "number", .int 7]) = G2 at u1 u2 w1 s82 nt3 nt4 nt5 nt6 ⊢
      have u3 : Tr K (upd G2 t3 (.tup [.str "row", .ref a2])) (.ref t3) (.tuple [.str "row", .tuple ws2]) := .tup (SqT.of upd_same) (.cons (.str _) (.cons (w1.mono (TKs.of (same_new nt3 _))) .nil))
      have u1 := u1.mono (TKs.of (K := K) (same_new nt3 (.tup [.str "row", .ref a2])))
      have u2 := u2.mono (TKs.of (K := K) (same_new nt3 (.tup [.str "row", .ref a2])))
      have s83 := s82.trans (same_new nt3 (.tup [.str "row", .ref a2]))
      generalize upd G2 t3 (.tup [.str "row", .ref a2]) = G3' at u1 u2 u3 s83 nt4 nt5 nt6 ⊢
      have u4 : Tr K (upd G3' t4 (.tup [.ref t1, .ref t2, .ref t3])) (.ref t4) (.tuple [.tuple [.str "row", .tuple ws1], .tuple [.str "number", .int 7], .tuple [.str "row", .tuple ws2]]) :=
        .tup (SqT.of upd_same) (.cons (u1.mono (TKs.of (same_new nt4 _))) (.cons (u2.mono (TKs.of (same_new nt4 _))) (.cons (u3.mono (TKs.of (same_new nt4 _))) .nil)))
      have s84 := s83.trans (same_new nt4 (.tup [.ref t1, .ref t2, .ref t3]))
      generalize upd G3' t4 (.tup [.ref t1, .ref t2, .ref t3]) = G4 at u4 s84 nt5 nt6 ⊢
      have u5 : Tr K (upd G4 t5 (.tup [.str "list", .ref t4])) (.ref t5) (.tuple [.str "list", .tuple [.tuple [.str "row", .tuple ws1], .tuple [.str "number", .int 7], .tuple [.str "row", .tuple ws2]]]) := .tup (SqT.of upd_same) (.cons (.str _) (.cons (u4.mono (TKs.of (same_new nt5 _))) .nil))
      have s85 := s84.trans (same_new nt5 (.tup [.str "list", .ref t4]))
      generalize upd G4 t5 (.tup [.str "list", .ref t4]) = G5 at u5 s85 nt6 ⊢
      have u6 : Tr K (upd G5 t6 (.tup [.str "push", .ref t5])) (.ref t6) (.tuple [.str "push", .tuple [.str "list", .tuple [.tuple [.str "row", .tuple ws1], .tuple [.str "number", .int 7], .tuple [.str "row", .tuple ws2]]]]) := .tup (SqT.of upd_same) (.cons (.str _) (.cons (u5.mono (TKs.of (same_new nt6 _))) .nil))
      have s86 := s85.trans (same_new nt6 (.tup [.str "push", .ref t5]))
      generalize upd G5 t6 (.tup [.str "push", .ref t5]) = G6 at u6 s86 ⊢
      refine ⟨_, rfl, (by show 1 ≤ sizeLine; decide), fun t7 nt7 => ?_⟩
      obtain ⟨nq, mq, rq, hnq, hmq⟩ : ∃ nq mq : Nat, Rw 9 nq mq [.tuple [.str "push", .tuple [.str "list", .tuple [.tuple [.str "row", .tuple ws1], .tuple [.str "number", .int 7], .tuple [.str "row", .tuple ws2]]]]] ∧ nq = 1 + n1 + n2 ∧ mq ≤ 100000 := by
        have x1 : Thg 8 n1 (m1 + 1) (.tuple [.str "row", .tuple ws1]) := .row (hw1.up (show 4 ≤ 7 by decide)) (show 7 < 8 by decide)
        have x2 : Thg 8 n2 (m2 + 1) (.tuple [.str "row", .tuple ws2]) := .row (hw2.up (show 4 ≤ 7 by decide)) (show 7 < 8 by decide)
        have x3 : Thg 8 0 1 (.tuple [.str "number", .int 7]) := .num 7 (by decide) (by decide)
        have x4 := Stk.cons x1 (Stk.cons x3 (Stk.cons x2 Stk.nil))
        have x5 := Rw.push (Thg.lst x4 (show 8 < 9 by decide)) Rw.nil
        exact ⟨_, _, x5, by omega, by omega⟩
      refine ⟨_, _, _, _, rfl, .tup (SqT.of upd_same) (.cons (u6.mono (TKs.of (same_new nt7 _))) .nil), rq, by omega, fun H9 s9 => ?_⟩
      have s89 := (s86.trans (same_new nt7 _)).trans s9
      refine ⟨_, rfl, _, _, rfl, rfl, _, rfl, _, ws2, n2, m2, rfl, hv2.mono (TKs.of s89), r2, by omega, fun H10 s10 => ⟨_, _, rfl, rfl, rfl, _, rfl, ?_⟩⟩
      rw [ne_self _ _ (show (nq : Int) = (1 : Int) + (n1 : Int) + (n2 : Int) by omega)]
      refine iteF ?_
      exact ⟨_, _, _, _, _, rfl, (D8.same s89).same s10⟩
  · rintro σ H2 ⟨x2, x3, x4, x5, x6, rfl, D2⟩
    refine ⟨(by show 0 ≤ sizeLine; decide), fun p np => ?_⟩
    refine ⟨_, [], 0, 0, rfl, .tup (SqT.of upd_same) .nil, .nil, by decide, fun H3 s3 => ⟨rfl, ?_⟩⟩
    exact q H3
/-- things of every depth -/
theorem all_things {f4 f5 f6 f7 f8 f9 f10 f11 : Addr} {d4 d5 d6 d7 d8 d9 d10 d11 : FuncData}
    (O4 : FnOk P w K mg base CX0 2 f4 d4 ["_law_deck_here", "_law_most"] spTake) (b4 : L2.Binds K d4 ["_law_deck_here", "_law_most"] []) (k4 : keepIn K (.ref f4) = true) (m4 : mg "_law_take" = some (.ref f4))
    (O5 : FnOk P w K mg base CX0 3 f5 d5 ["_law_deck_here"] spNumber) (b5 : L2.Binds K d5 ["_law_deck_here"] []) (k5 : keepIn K (.ref f5) = true) (m5 : mg "_law_number" = some (.ref f5))
    (O6 : FnOk P w K mg base CX0 3 f6 d6 ["_law_deck_here"] (spTx 100)) (b6 : L2.Binds K d6 ["_law_deck_here"] []) (k6 : keepIn K (.ref f6) = true) (m6 : mg "_law_name" = some (.ref f6))
    (O7 : FnOk P w K mg base CX0 3 f7 d7 ["_law_deck_here"] (spTx 100)) (b7 : L2.Binds K d7 ["_law_deck_here"] []) (k7 : keepIn K (.ref f7) = true) (m7 : mg "_law_shuffle" = some (.ref f7))
    (F8 : Fun K "_law_thing" "_law_thing" sThing f8 d8) (b8 : L2.Binds K d8 A3 []) (m8 : mg "_law_thing" = some (.ref f8))
    (F9 : Fun K "_law_stack" "_law_stack" sStack f9 d9) (b9 : L2.Binds K d9 A3 []) (m9 : mg "_law_stack" = some (.ref f9))
    (F10 : Fun K "_law_word" "_law_word" sWord f10 d10) (b10 : L2.Binds K d10 A3 []) (m10 : mg "_law_word" = some (.ref f10))
    (F11 : Fun K "_law_row" "_law_row" sRow f11 d11) (b11 : L2.Binds K d11 A3 []) (m11 : mg "_law_row" = some (.ref f11))
    (mrange : mg "range" = none) (mint : mg "int" = none) (mtup : mg "tuple" = none) :
    ∀ k : Nat, FnOk P w K mg base CX0 (4 + 3 * k) f8 d8 A3 (spThing K k) ∧ FnOk P w K mg base CX0 (6 + 3 * k) f11 d11 A3 (spRow K k) := by
  have up : ∀ k : Nat, FnOk P w K mg base CX0 (4 + 3 * k) f8 d8 A3 (spThing K k) → FnOk P w K mg base CX0 (6 + 3 * k) f11 d11 A3 (spRow K k) ∧ FnOk P w K mg base CX0 (6 + 3 * k) f9 d9 A3 (spStack K k) := fun k T =>
    ⟨(ok_row F11 O4 b4 k4 m4 ((ok_word F10 O4 b4 k4 m4 T b8 F8.kp m8 O7 b7 k7 m7 O6 b6 k6 m6).mono (by omega)) b10 F10.kp m10 mrange mint mtup).mono (by omega), (ok_stack F9 O4 b4 k4 m4 (T.mono (by omega)) b8 F8.kp m8 mrange mint mtup).mono (by omega)⟩
  intro k
  induction k with
  | zero =>
    have T := ok_thing0 F8 O4 b4 k4 m4 O5 b5 k5 m5
    exact ⟨T, (up 0 T).1⟩
  | succ k ih =>
    obtain ⟨R, Z⟩ := up k ih.1
    have T : FnOk P w K mg base CX0 (4 + 3 * (k + 1)) f8 d8 A3 (spThing K (k + 1)) := (ok_thingS F8 O4 b4 k4 m4 O5 b5 k5 m5 R b11 F11.kp m11 Z b9 F9.kp m9).mono (by omega)
    exact ⟨T, (up (k + 1) T).1⟩
end
end K03
namespace K03
open PySem PySem.W L2 SX Cm
theorem all_mk {l : PySem.W.OpenLaw} {w : World} {K : PySem.W.Frag} {h : Heap} {mg : Str → Option Value} {fa f1 f2 f3 f4 f5 f6 f7 f8 f9 f10 f11 f12 f13 : Addr} (X : K.In h) (G : h.Ns mainGlobals mg) (hfa : mg "law" = some (.ref fa))
    {od1 an1 od2 an2 od3 an3 od4 an4 od5 an5 od6 an6 od7 an7 od8 an8 od9 an9 od10 an10 od11 an11 od12 an12 od13 an13 : Option Addr} {sl1 sl2 sl3 sl4 sl5 sl6 sl7 sl8 sl9 sl10 sl11 sl12 sl13 : Array (Option Value)} {oc1 kV1 dc1 pm1 cd1 ct1 oc2 kV2 dc2 pm2 cd2 ct2 oc3 kV3 dc3 pm3 cd3 ct3 oc4 kV4 dc4 pm4 cd4 ct4 oc5 kV5 dc5 pm5 cd5 ct5 oc6 kV6 dc6 pm6 cd6 ct6 oc7 kV7 dc7 pm7 cd7 ct7 oc8 kV8 dc8 pm8 cd8 ct8 oc9 kV9 dc9 pm9 cd9 ct9 oc10 kV10 dc10 pm10 cd10 ct10 oc11 kV11 dc11 pm11 cd11 ct11 oc12 kV12 dc12 pm12 cd12 ct12 oc13 kV13 dc13 pm13 cd13 ct13 : Value}
    (a1 : PySem.W.nsIn K mainGlobals "words_in" = some (some (.ref f1))) (l1 : K.lookup f1 = some ⟨oc1, od1, .func (PySem.W.fnOf "words_in" "words_in" (defArgs sWords) (defBody sWords) (defScope sWords) .none kV1 dc1 pm1 an1 cd1 ct1), sl1⟩) (c1 : PySem.W.codeIn K cd1 "words_in" = true) (k1 : PySem.W.keepIn K (.ref f1) = true)
    (a2 : PySem.W.nsIn K mainGlobals "_law_mixed" = some (some (.ref f2))) (l2 : K.lookup f2 = some ⟨oc2, od2, .func (PySem.W.fnOf "_law_mixed" "_law_mixed" (defArgs sMixed) (defBody sMixed) (defScope sMixed) .none kV2 dc2 pm2 an2 cd2 ct2), sl2⟩) (c2 : PySem.W.codeIn K cd2 "_law_mixed" = true) (k2 : PySem.W.keepIn K (.ref f2) = true)
    (a3 : PySem.W.nsIn K mainGlobals "_law_deck" = some (some (.ref f3))) (l3 : K.lookup f3 = some ⟨oc3, od3, .func (PySem.W.fnOf "_law_deck" "_law_deck" (defArgs sDeck) (defBody sDeck) (defScope sDeck) .none kV3 dc3 pm3 an3 cd3 ct3), sl3⟩) (c3 : PySem.W.codeIn K cd3 "_law_deck" = true) (k3 : PySem.W.keepIn K (.ref f3) = true)
    (a4 : PySem.W.nsIn K mainGlobals "_law_take" = some (some (.ref f4))) (l4 : K.lookup f4 = some ⟨oc4, od4, .func (PySem.W.fnOf "_law_take" "_law_take" (defArgs sTake) (defBody sTake) (defScope sTake) .none kV4 dc4 pm4 an4 cd4 ct4), sl4⟩) (c4 : PySem.W.codeIn K cd4 "_law_take" = true) (k4 : PySem.W.keepIn K (.ref f4) = true)
    (a5 : PySem.W.nsIn K mainGlobals "_law_number" = some (some (.ref f5))) (l5 : K.lookup f5 = some ⟨oc5, od5, .func (PySem.W.fnOf "_law_number" "_law_number" (defArgs sNumber) (defBody sNumber) (defScope sNumber) .none kV5 dc5 pm5 an5 cd5 ct5), sl5⟩) (c5 : PySem.W.codeIn K cd5 "_law_number" = true) (k5 : PySem.W.keepIn K (.ref f5) = true)
    (a6 : PySem.W.nsIn K mainGlobals "_law_name" = some (some (.ref f6))) (l6 : K.lookup f6 = some ⟨oc6, od6, .func (PySem.W.fnOf "_law_name" "_law_name" (defArgs sName) (defBody sName) (defScope sName) .none kV6 dc6 pm6 an6 cd6 ct6), sl6⟩) (c6 : PySem.W.codeIn K cd6 "_law_name" = true) (k6 : PySem.W.keepIn K (.ref f6) = true)
    (a7 : PySem.W.nsIn K mainGlobals "_law_shuffle" = some (some (.ref f7))) (l7 : K.lookup f7 = some ⟨oc7, od7, .func (PySem.W.fnOf "_law_shuffle" "_law_shuffle" (defArgs sShuffle) (defBody sShuffle) (defScope sShuffle) .none kV7 dc7 pm7 an7 cd7 ct7), sl7⟩) (c7 : PySem.W.codeIn K cd7 "_law_shuffle" = true) (k7 : PySem.W.keepIn K (.ref f7) = true)
    (a8 : PySem.W.nsIn K mainGlobals "_law_thing" = some (some (.ref f8))) (l8 : K.lookup f8 = some ⟨oc8, od8, .func (PySem.W.fnOf "_law_thing" "_law_thing" (defArgs sThing) (defBody sThing) (defScope sThing) .none kV8 dc8 pm8 an8 cd8 ct8), sl8⟩) (c8 : PySem.W.codeIn K cd8 "_law_thing" = true) (k8 : PySem.W.keepIn K (.ref f8) = true)
    (a9 : PySem.W.nsIn K mainGlobals "_law_stack" = some (some (.ref f9))) (l9 : K.lookup f9 = some ⟨oc9, od9, .func (PySem.W.fnOf "_law_stack" "_law_stack" (defArgs sStack) (defBody sStack) (defScope sStack) .none kV9 dc9 pm9 an9 cd9 ct9), sl9⟩) (c9 : PySem.W.codeIn K cd9 "_law_stack" = true) (k9 : PySem.W.keepIn K (.ref f9) = true)
    (a10 : PySem.W.nsIn K mainGlobals "_law_word" = some (some (.ref f10))) (l10 : K.lookup f10 = some ⟨oc10, od10, .func (PySem.W.fnOf "_law_word" "_law_word" (defArgs sWord) (defBody sWord) (defScope sWord) .none kV10 dc10 pm10 an10 cd10 ct10), sl10⟩) (c10 : PySem.W.codeIn K cd10 "_law_word" = true) (k10 : PySem.W.keepIn K (.ref f10) = true)
    (a11 : PySem.W.nsIn K mainGlobals "_law_row" = some (some (.ref f11))) (l11 : K.lookup f11 = some ⟨oc11, od11, .func (PySem.W.fnOf "_law_row" "_law_row" (defArgs sRow) (defBody sRow) (defScope sRow) .none kV11 dc11 pm11 an11 cd11 ct11), sl11⟩) (c11 : PySem.W.codeIn K cd11 "_law_row" = true) (k11 : PySem.W.keepIn K (.ref f11) = true)
    (a12 : PySem.W.nsIn K mainGlobals "_law_count" = some (some (.ref f12))) (l12 : K.lookup f12 = some ⟨oc12, od12, .func (PySem.W.fnOf "_law_count" "_law_count" (defArgs sCount) (defBody sCount) (defScope sCount) .none kV12 dc12 pm12 an12 cd12 ct12), sl12⟩) (c12 : PySem.W.codeIn K cd12 "_law_count" = true) (k12 : PySem.W.keepIn K (.ref f12) = true)
    (a13 : PySem.W.nsIn K mainGlobals "law" = some (some (.ref f13))) (l13 : K.lookup f13 = some ⟨oc13, od13, .func (PySem.W.fnOf "law" "law" (defArgs sLaw) (defBody sLaw) (defScope sLaw) .none kV13 dc13 pm13 an13 cd13 ct13), sl13⟩) (c13 : PySem.W.codeIn K cd13 "law" = true) (k13 : PySem.W.keepIn K (.ref f13) = true)
    (z_len : PySem.W.nsIn K mainGlobals "len" = some none)
    (z_list : PySem.W.nsIn K mainGlobals "list" = some none)
    (z_sum : PySem.W.nsIn K mainGlobals "sum" = some none)
    (z_range : PySem.W.nsIn K mainGlobals "range" = some none)
    (z_isinstance : PySem.W.nsIn K mainGlobals "isinstance" = some none)
    (z_str : PySem.W.nsIn K mainGlobals "str" = some none)
    (z_tuple : PySem.W.nsIn K mainGlobals "tuple" = some none)
    (z_int : PySem.W.nsIn K mainGlobals "int" = some none)
    (z_bool : PySem.W.nsIn K mainGlobals "bool" = some none)
    (z_reversed : PySem.W.nsIn K mainGlobals "reversed" = some none)
    : ∃ fd : FuncData, (∀ (s : Shared) (v : Value), BindsTo s fd ⟨[v], []⟩ [("_law_script", v)]) ∧ ∀ base : Heap, K.In base → base.Ns mainGlobals mg → FnOk l.prog w K mg base CX0 19 fa fd ["_law_script"] (spLaw K) := by
  have e := hfa.symm.trans (PySem.W.mg_of X G a13)
  cases e
  have F1 := fun_mk (st := sWords) l1 c1 k1
  have b1 := F1.binds (ps := ["row"]) fun _ _ _ _ _ _ us hl => match us, hl with | [_], _ => rfl
  have m1 := PySem.W.mg_of X G a1
  have F2 := fun_mk (st := sMixed) l2 c2 k2
  have b2 := F2.binds (ps := ["_law_cell", "_law_k"]) fun _ _ _ _ _ _ us hl => match us, hl with | [_, _], _ => rfl
  have m2 := PySem.W.mg_of X G a2
  have F3 := fun_mk (st := sDeck) l3 c3 k3
  have b3 := F3.binds (ps := ["_law_script"]) fun _ _ _ _ _ _ us hl => match us, hl with | [_], _ => rfl
  have m3 := PySem.W.mg_of X G a3
  have F4 := fun_mk (st := sTake) l4 c4 k4
  have b4 := F4.binds (ps := ["_law_deck_here", "_law_most"]) fun _ _ _ _ _ _ us hl => match us, hl with | [_, _], _ => rfl
  have m4 := PySem.W.mg_of X G a4
  have F5 := fun_mk (st := sNumber) l5 c5 k5
  have b5 := F5.binds (ps := ["_law_deck_here"]) fun _ _ _ _ _ _ us hl => match us, hl with | [_], _ => rfl
  have m5 := PySem.W.mg_of X G a5
  have F6 := fun_mk (st := sName) l6 c6 k6
  have b6 := F6.binds (ps := ["_law_deck_here"]) fun _ _ _ _ _ _ us hl => match us, hl with | [_], _ => rfl
  have m6 := PySem.W.mg_of X G a6
  have F7 := fun_mk (st := sShuffle) l7 c7 k7
  have b7 := F7.binds (ps := ["_law_deck_here"]) fun _ _ _ _ _ _ us hl => match us, hl with | [_], _ => rfl
  have m7 := PySem.W.mg_of X G a7
  have F8 := fun_mk (st := sThing) l8 c8 k8
  have b8 := F8.binds (ps := ["_law_deck_here", "_law_deep", "_law_left"]) fun _ _ _ _ _ _ us hl => match us, hl with | [_, _, _], _ => rfl
  have m8 := PySem.W.mg_of X G a8
  have F9 := fun_mk (st := sStack) l9 c9 k9
  have b9 := F9.binds (ps := ["_law_deck_here", "_law_deep", "_law_left"]) fun _ _ _ _ _ _ us hl => match us, hl with | [_, _, _], _ => rfl
  have m9 := PySem.W.mg_of X G a9
  have F10 := fun_mk (st := sWord) l10 c10 k10
  have b10 := F10.binds (ps := ["_law_deck_here", "_law_deep", "_law_left"]) fun _ _ _ _ _ _ us hl => match us, hl with | [_, _, _], _ => rfl
  have m10 := PySem.W.mg_of X G a10
  have F11 := fun_mk (st := sRow) l11 c11 k11
  have b11 := F11.binds (ps := ["_law_deck_here", "_law_deep", "_law_left"]) fun _ _ _ _ _ _ us hl => match us, hl with | [_, _, _], _ => rfl
  have m11 := PySem.W.mg_of X G a11
  have F12 := fun_mk (st := sCount) l12 c12 k12
  have b12 := F12.binds (ps := ["_law_row_here"]) fun _ _ _ _ _ _ us hl => match us, hl with | [_], _ => rfl
  have m12 := PySem.W.mg_of X G a12
  have F13 := fun_mk (st := sLaw) l13 c13 k13
  have y_len := PySem.W.mg_none_of X G z_len
  have y_list := PySem.W.mg_none_of X G z_list
  have y_sum := PySem.W.mg_none_of X G z_sum
  have y_range := PySem.W.mg_none_of X G z_range
  have y_isinstance := PySem.W.mg_none_of X G z_isinstance
  have y_str := PySem.W.mg_none_of X G z_str
  have y_tuple := PySem.W.mg_none_of X G z_tuple
  have y_int := PySem.W.mg_none_of X G z_int
  have y_bool := PySem.W.mg_none_of X G z_bool
  have y_reversed := PySem.W.mg_none_of X G z_reversed
  refine ⟨PySem.W.fnOf "law" "law" (defArgs sLaw) (defBody sLaw) (defScope sLaw) .none kV13 dc13 pm13 an13 cd13 ct13, fun s v => .of_eq rfl, fun base _ _ => ?_⟩
  have O2 : FnOk l.prog w K mg base CX0 1 f2 _ ["_law_cell", "_law_k"] spMixed := ok_mixed F2
  have O3 : FnOk l.prog w K mg base CX0 1 f3 _ ["_law_script"] (spDeck K) := ok_deck F3 y_list y_reversed y_sum y_len
  have O4 := ok_take F4 O2 b2 k2 m2
  have O5 := ok_number F5 O4 b4 k4 m4
  have O6 := ok_name F6 O4 b4 k4 m4 y_range
  have O7 := ok_shuffle F7 O4 b4 k4 m4 y_int y_len y_range
  have O1 : FnOk l.prog w K mg base CX0 1 f1 _ ["row"] (spWords K) := ok_words F1 y_len y_isinstance y_str
  have O12 : FnOk l.prog w K mg base CX0 1 f12 _ ["_law_row_here"] (spWords K) := ok_count F12 y_len y_isinstance y_tuple y_list
  have R4 := (all_things O4 b4 k4 m4 O5 b5 k5 m5 O6 b6 k6 m6 O7 b7 k7 m7 F8 b8 m8 F9 b9 m9 F10 b10 m10 F11 b11 m11 y_range y_int y_tuple 4).2
  exact ok_law F13 O3 b3 k3 m3 R4 b11 k11 m11 O1 b1 k1 m1 O12 b12 k12 m12 y_range y_isinstance y_int y_bool
theorem walk {l : PySem.W.OpenLaw} {q : Program} {loose : List Str} {XP : (Str → Option Value) → Heap → Prop} {YP : World → Heap → Prop} {d : DefRec} {K : Params → PySem.W.Frag} (hn : l.most = some 63) (hdf : d.params.defaults = [])
    (hY : ∀ (w : World) (h : Heap), YP w h → (K w.params).In h)
    (F : ∀ (w : World) (mg : Str → Option Value) (fa : Addr) (h : Heap), (K w.params).In h → h.Ns mainGlobals mg → mg d.name = some (.ref fa) →
      ∃ fd : FuncData, (∀ (s : Shared) (u : Value), BindsTo s fd ⟨[u], []⟩ [("_law_script", u)]) ∧ ∀ base : Heap, (K w.params).In base → base.Ns mainGlobals mg → FnOk l.prog w (K w.params) mg base CX0 19 fa fd ["_law_script"] (spLaw (K w.params))) :
    PySem.W.WalkO q loose XP YP l.row.toRowW d [] (fun f vs => PySem.call f vs) :=
  L2.walk_of (n := 63) (k := 19) (x := "_law_script") (CX := fun _ => CX0) (sp := fun w => spLaw (K w.params)) hn (by decide) hdf ⟨rfl, by decide, by decide⟩ hY F (fun _ _ a ns hl _ hS => ⟨a, ns, rfl, hS, hl, fun _ => rfl⟩) fun _ _ _ _ _ z => z
end K03
open PySem PySem.W PyProof.Rows
set_option maxRecDepth 100000 in
set_option maxHeartbeats 0 in
theorem PySem.Challenge.cw_takeleave_k03_words_in_all_holds : PySem.Challenge.rw_takeleave_k03_words_in_all.Holds := by
  w_on; o_law; k_head; (case hw => w_witness2)
  k_fill
  refine K03.walk (l := PySem.Challenge.rw_takeleave_k03_words_in_all) rfl rfl (fun w h Y => PySem.W.kIn_of Y) ?F
  case F =>
    intro w mg fa h KX G hmg
    refine' K03.all_mk (w := w) KX G hmg ?a1 ?l1 ?c1 ?k1 ?a2 ?l2 ?c2 ?k2 ?a3 ?l3 ?c3 ?k3 ?a4 ?l4 ?c4 ?k4 ?a5 ?l5 ?c5 ?k5 ?a6 ?l6 ?c6 ?k6 ?a7 ?l7 ?c7 ?k7 ?a8 ?l8 ?c8 ?k8 ?a9 ?l9 ?c9 ?k9 ?a10 ?l10 ?c10 ?k10 ?a11 ?l11 ?c11 ?k11 ?a12 ?l12 ?c12 ?k12 ?a13 ?l13 ?c13 ?k13 ?z_len ?z_list ?z_sum ?z_range ?z_isinstance ?z_str ?z_tuple ?z_int ?z_bool ?z_reversed
    (case a1 => k_is)
    (case l1 => k_is)
    (case c1 => k_is)
    (case k1 => k_is)
    (case a2 => k_is)
    (case l2 => k_is)
    (case c2 => k_is)
    (case k2 => k_is)
    (case a3 => k_is)
    (case l3 => k_is)
    (case c3 => k_is)
    (case k3 => k_is)
    (case a4 => k_is)
    (case l4 => k_is)
    (case c4 => k_is)
    (case k4 => k_is)
    (case a5 => k_is)
    (case l5 => k_is)
    (case c5 => k_is)
    (case k5 => k_is)
    (case a6 => k_is)
    (case l6 => k_is)
    (case c6 => k_is)
    (case k6 => k_is)
    (case a7 => k_is)
    (case l7 => k_is)
    (case c7 => k_is)
    (case k7 => k_is)
    (case a8 => k_is)
    (case l8 => k_is)
    (case c8 => k_is)
    (case k8 => k_is)
    (case a9 => k_is)
    (case l9 => k_is)
    (case c9 => k_is)
    (case k9 => k_is)
    (case a10 => k_is)
    (case l10 => k_is)
    (case c10 => k_is)
    (case k10 => k_is)
    (case a11 => k_is)
    (case l11 => k_is)
    (case c11 => k_is)
    (case k11 => k_is)
    (case a12 => k_is)
    (case l12 => k_is)
    (case c12 => k_is)
    (case k12 => k_is)
    (case a13 => k_is)
    (case l13 => k_is)
    (case c13 => k_is)
    (case k13 => k_is)
    (case z_len => k_is)
    (case z_list => k_is)
    (case z_sum => k_is)
    (case z_range => k_is)
    (case z_isinstance => k_is)
    (case z_str => k_is)
    (case z_tuple => k_is)
    (case z_int => k_is)
    (case z_bool => k_is)
    (case z_reversed => k_is)
