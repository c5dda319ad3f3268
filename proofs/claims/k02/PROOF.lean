import PyProof.Rows.All
import Wide.All
import OpenK.AllK
import Wide.FinOn
import HandS.ForMost
import HandS.Rev
import KE.KDictList
import HandS.Style
import HandS.More
import HandS.IsInst
import HandS.StrMore
import HandS.Wide
import HandS.Codes
import HandS.Walk
import HandS.NoneIn
import HandS.WordsExc
import PyProof.AutoSeq1
import HandS.TupAny
import HandS.Conv
import HandS.SetFor
import HandS.ListEq
import HandS.CallLocal
import HandS.TupLe
import PySem.Challenge.RW_takeleave_k02_what_is_a_row
set_option Elab.async false
set_option linter.all false
set_option maxRecDepth 100000
set_option maxHeartbeats 4000000
namespace Cm
open PySem PySem.Spec PyProof.Rows L2 RT
section
variable {prog : Program} {w : World} {A : Around} {E : Value → Shared → Prop} {s : Shared}
/-- list.extend over a reversed list, into the empty list at T -/
theorem revExt {J l T : Addr} {vs : Array Value} {res : Value} {c : Nat} {R : Result → Shared → Prop} (hh : A.handled = none) (hJ : s.heap.IsRevIter J l ((vs.size : Int) - 1)) (hl : s.heap.IsList l vs) (nJ : l ≠ J) (hn : vs.size ≤ sizeLine)
    (nTJ : T ≠ J) (nTl : T ≠ l) (hT : s.heap.get? T = some { cls := .type "list", data := .seq #[] c })
    (hR : ∀ h' tk acc' c', (∀ b o, b ≠ T → b ≠ J → s.heap.get? b = some o → h'.get? b = some o) → h'.get? T = some { cls := .type "list", dict := none, data := .seq acc' c', slots := #[] } → ItemsOf (fun i v => vs[vs.size - 1 - i]? = some v) acc' vs.size → R (.ok (.ret res)) { s with heap := h', toks := tk }) :
    wpAny (model prog w) A.in1 (Builtin.List.listExtendWith (.ref T) (.ref J) res)
      (fun fin s' => match fin with | .done f => R (.ok f) s' | .again c' => c'.quiet = true ∧ codeAny (model prog w) A c' R s') (fun e s' => R (.error e) s') s := by
  have WS := (Walks.listRev (prog := prog) (w := w) (A := A.in1) hh J l nJ vs).toS
  have tyJ : s.TypeIs (.ref J) "list_reverseiterator" := Heap.IsRevIter.typeIs hJ
  have nf : T ∉ [J, l] := by simp only [List.mem_cons, List.not_mem_nil, or_false, not_or]; exact And.intro nTJ nTl
  have ns : Builtin.List.listSameRef (.ref T) (.ref J) = false := by simp [Builtin.List.listSameRef, nTJ]
  unfold Builtin.List.listExtendWith
  refine wpAny_bind (wpAny_typeOf tyJ ?_)
  rw [if_neg (by rw [ns]; decide)]
  refine wpAny_bind (wpAny_pyIter_revIter hJ (wpAny_bind (wpAny_holding ?_)))
  unfold Builtin.List.listLengthHint
  refine wpAny_bind (wpAny_specialOf tyJ nolen_lri ?_)
  show wpAny _ A.in1 (specialOf (Value.ref J) (Str.ofString "__length_hint__") >>= _) _ _ _
  refine wpAny_bind (wpAny_specialOf tyJ hint_lri ?_)
  generalize eid : ("list_reverseiterator.__length_hint__" : String) = idz
  wp_delta
  rw [show splitId idz = some ("list_reverseiterator", "__length_hint__") from by subst eid; decide +kernel]
  subst eid
  refine wpAny_bind (wpAny_isInstance (b := true) tyJ (by rw [isSubtype_type]; kernel_rfl) (wpAny_pure ?_))
  rw [if_neg (by decide)]
  have z0 : ((vs.size : Nat) : Int) - 1 - ((0 : Nat) : Int) = (vs.size : Int) - 1 := by omega
  refine wpAny_pure ⟨plainId_quiet F.plain_extend_loop _, codeAny_extend_loopS WS hn _ nf _ vs.size 0 _ _ _ rfl (Nat.zero_le _) ⟨Nat.zero_le _, by rw [z0]; exact hJ, hl⟩ hT (ItemsOf.nil _) fun s' acc' c' hm hS' hacc => ?_⟩
  rw [Moved.eq_with hm]
  refine hR s'.heap s'.toks acc' c' (fun b o n1 n2 e => hm.heap b o (fun q => ?_) e) hS' hacc
  rcases List.mem_cons.mp q with z | z
  · exact n1 z
  · exact n2 (List.mem_singleton.mp z)
theorem revInit {J l T : Addr} {vs : Array Value} {R : Result → Shared → Prop} (hh : A.handled = none) (hJ : s.heap.IsRevIter J l ((vs.size : Int) - 1)) (hl : s.heap.IsList l vs) (nJ : l ≠ J) (hn : vs.size ≤ sizeLine)
    (nTJ : T ≠ J) (nTl : T ≠ l) (hT : s.heap.get? T = some { cls := .type "list", data := .seq #[] })
    (hR : ∀ h' tk acc' c', (∀ b o, b ≠ T → b ≠ J → s.heap.get? b = some o → h'.get? b = some o) → h'.get? T = some { cls := .type "list", dict := none, data := .seq acc' c', slots := #[] } → ItemsOf (fun i v => vs[vs.size - 1 - i]? = some v) acc' vs.size → R (.ok (.ret .none)) { s with heap := h', toks := tk }) :
    wpAny (model prog w) A.in1 (Builtin.«list.__init__» ⟨[.ref T, .ref J], []⟩)
      (fun fin s' => match fin with | .done f => R (.ok f) s' | .again c' => c'.quiet = true ∧ codeAny (model prog w) A c' R s') (fun e s' => R (.error e) s') s := by
  show wpAny _ _ (do let old ← Builtin.List.listItems (.ref T); Builtin.List.listUpdate (.ref T) (fun _ => #[]); letGo old.toList.reverse; Builtin.List.listExtendWith (.ref T) (.ref J) .none) _ _ s
  refine wpAny_bind ?_; unfold Builtin.List.listItems
  refine wpAny_bind (wpAny_seqItems hT rfl (wpAny_pure ?_))
  show wpAny _ _ (updateSeq T (fun _ => #[]) >>= fun _ => letGo (#[] : Array Value).toList.reverse >>= fun _ => Builtin.List.listExtendWith (.ref T) (.ref J) .none) _ _ s
  refine wpAny_bind (wpAny_updateSeq hT rfl ?_)
  have hT2 := Heap.get?_update_self (Obj.mapSeq (fun _ => (#[] : Array Value))) hT rfl
  have other : ∀ b o, b ≠ T → s.heap.get? b = some o → (s.heap.update T (Obj.mapSeq (fun _ => (#[] : Array Value)))).get? b = some o :=
    fun b o hb e => (Heap.get?_update_other _ _ (Ne.symm hb)).trans e
  refine wpAny_bind (wpAny_letGo (revExt hh (hJ.at fun o e => other _ o nTJ.symm e) (hl.at fun o e => other _ o nTl.symm e) nJ hn nTJ nTl hT2 fun h' tk acc' c' hk hS' hacc => ?_))
  exact hR h' tk acc' c' (fun b o n1 n2 e => hk b o n1 n2 (other b o n1 e)) hS' hacc
theorem call_list_rev {J l : Addr} {vs : Array Value} {Q : Value → Shared → Prop} (hh : A.handled = none) (hJ : s.heap.IsRevIter J l ((vs.size : Int) - 1)) (hl : s.heap.IsList l vs) (nJ : l ≠ J) (hn : vs.size ≤ sizeLine)
    (hQ : ∀ h' tk acc' c', (∀ b o, b ≠ J → s.heap.get? b = some o → h'.get? b = some o) → h'.get? s.heap.objs.size = some { cls := .type "list", dict := none, data := .seq acc' c', slots := #[] } → ItemsOf (fun i v => vs[vs.size - 1 - i]? = some v) acc' vs.size → Q (.ref s.heap.objs.size) { s with heap := h', toks := tk }) :
    wpAny (model prog w) A (call (.type "list") [.ref J]) Q E s := by
  refine callType_codes (Q₁ := fun obj s₁ => obj = .ref s.heap.objs.size ∧ s₁ = { s with heap := s.heap.push { cls := .type "list", data := .seq #[] } }) PySem.F.called_list (PySem.F.typeCall_list_1 _) PySem.F.entry_list_init
    (code_list_new _ ⟨rfl, rfl⟩) fun obj s₁ z => ?_
  obtain ⟨rfl, rfl⟩ := z
  have hT : (s.heap.push { cls := .type "list", data := .seq #[] }).get? s.heap.objs.size = some { cls := .type "list", data := .seq #[] } := Heap.get?_push_size _ rfl
  obtain ⟨oi, hoi, _⟩ := id hJ
  obtain ⟨ol, hol, _⟩ := id hl
  refine ⟨⟨_, hT, rfl⟩, PySem.F.args_list_init_2 _ _, revInit (A := A.in1) hh (hJ.at fun o e => Heap.get?_push_of_some _ e) (hl.push _) nJ hn (Nat.ne_of_gt (Heap.lt_size hoi)) (Nat.ne_of_gt (Heap.lt_size hol)) hT (fun h' tk acc' c' hk hS' hacc => ?_)⟩
  exact ⟨rfl, hQ h' tk acc' c' (fun b o n e => hk b o (Nat.ne_of_lt (Heap.lt_size e)) n (Heap.get?_push_of_some _ e)) hS' hacc⟩
end
/-- list(reversed(x)), x a list: a new list -/
def tLstRev (K : PySem.W.Frag) (te : TE) : TE := fun σ H Q => te σ H fun v H1 => ∃ (a : Addr) (xs : List V), v = .ref a ∧ SqL K H1 a xs ∧ ∀ q, H1 q = none → Q (.ref q) (upd H1 q (.lst xs.reverse))
section
variable {X : Cx}
theorem pe_lstRev {e : Expr} {te : TE} {p p2 pos pos2 : Pos} (hc : X.calm = true) (hg : Gl X "list") (hm : X.mg "list" = none) (hg2 : Gl X "reversed") (hm2 : X.mg "reversed" = none) (he : PE X e te)
    (hs : starEach [e] X.env = (false, eval e X.env) :: starEach [] X.env := by rfl)
    (hs2 : starEach [.Call (.Name "reversed" p2) [e] [] pos2] X.env = (false, eval (.Call (.Name "reversed" p2) [e] [] pos2) X.env) :: starEach [] X.env := by rfl) :
    PE X (.Call (.Name "list" p) [.Call (.Name "reversed" p2) [e] [] pos2] [] pos) (tLstRev X.K te) := by
  refine ⟨fun pins s σ H Q I h => ?_⟩
  refine Call_ (ld_blt I hg hm (show bootBuiltins "list" = some (.type "list") by decide +kernel) (PyProof.Rows.callWith_type1 (args_cons (Call_ (ld_blt I hg2 hm2 PyProof.Rows.boot_reversed (PyProof.Rows.callWith_type1 (args_cons (thn (he.run pins s σ H _ I h) fun u s1 ⟨v, H1, I1, r1, q1⟩ => args_nil ?_) hs) hs rfl))) hs2) hs2 rfl))
  obtain ⟨a, xs, ev, hq, q⟩ := q1
  subst ev; obtain rfl : u = Value.ref a := r1
  obtain ⟨its, rv, p', hz⟩ := I1.list hq
  refine call_reversed_list p'.isList (args_nil ?_)
  have k0 : ∀ b o, s1.heap.get? b = some o → (s1.heap.push (revObj a ((its.toArray.size : Int) - 1))).get? b = some o := fun b o e' => Heap.get?_push_of_some _ e'
  have I2 : Inv X pins σ H1 { s1 with heap := s1.heap.push (revObj a ((its.toArray.size : Int) - 1)) } := I1.kept (t' := s1.toks) k0
  obtain ⟨f0, f1, f2, f3, f4, f5⟩ := I1.fpOk (H' := H1) (b := s1.heap.objs.size) (Nat.le_refl _) (I1.hok.fresh (Nat.le_refl _))
  have isl := p'.isList
  obtain ⟨ol, hol, _⟩ := id isl
  have hne : a ≠ s1.heap.objs.size := Nat.ne_of_lt (Heap.lt_size hol)
  have hn : its.toArray.size ≤ sizeLine := by rw [List.size_toArray, ← rv.length]; exact hz
  refine call_list_rev (s := { s1 with heap := s1.heap.push (revObj a ((its.toArray.size : Int) - 1)) }) (I1.ok.hd hc) ⟨_, Heap.get?_push_size _ rfl, rfl, rfl⟩ (isl.push _) hne hn fun h' tk acc c' hk hT hi => ?_
  have hk' : ∀ b o, s1.heap.get? b = some o → h'.get? b = some o := fun b o e' => hk b o (Nat.ne_of_lt (Heap.lt_size e')) (k0 b o e')
  have sz : s1.heap.objs.size ≤ (s1.heap.push (revObj a ((its.toArray.size : Int) - 1))).objs.size := by
    rw [Heap.size_push]; exact Nat.le_succ _
  refine ⟨.ref _, upd H1 _ (.lst xs.reverse), I1.laid (t' := tk) hk' sz (show ObjOk X.prog X.w _ _ _ (.lst xs.reverse) from ⟨by rw [List.length_reverse]; exact hz, acc.toList, c', vals_rev rv hi, ?_⟩), rfl, q _ (I1.hok.fresh sz)⟩
  rw [Array.toArray_toList]
  exact hT
end
end Cm
namespace Cm
open PySem PySem.W L2 SX
theorem same_new {H : Hp} {p : Addr} (h : H p = none) (o : HO) : Same H (upd H p o) := fun b u q => by rw [upd_ne (ne_of_none q h)]; exact q
theorem own_new {H H' : Hp} {p : Addr} {o : HO} (s : Same H H') (h : H p = none) : Same H (upd H' p o) := fun b u q => by rw [upd_ne (ne_of_none q h)]; exact s _ _ q
theorem cut_map {α : Type} (f : α → V) (xs : List α) (lo hi : Option Int) : ∃ ys : List α, cutV (xs.map f) lo hi = ys.map f ∧ ys.length ≤ xs.length := by
  unfold cutV
  refine ⟨(xs.drop (HT.sIx (xs.map f).length 0 lo)).take (HT.sIx (xs.map f).length (xs.map f).length hi - HT.sIx (xs.map f).length 0 lo), ?_, ?_⟩
  · rw [List.map_take, List.map_drop]
  · rw [List.length_take, List.length_drop]; omega
theorem dp_ints {K : PySem.W.Frag} {H : Hp} : ∀ ns : List Int, DpAll K H (ns.map V.int) (ns.map PyData.int)
  | [] => .nil
  | n :: r => .cons (.int n) (dp_ints r)
theorem lay_ints : ∀ ns : List Int, PyData.canLayAll0 (ns.map PyData.int) = true
  | [] => rfl
  | n :: r => by
    show (PyData.canLay0 (PyData.int n) && PyData.canLayAll0 (r.map PyData.int)) = true
    rw [lay_ints r]; rfl
theorem deep_ints : ∀ ns : List Int, PyData.depthAll (ns.map PyData.int) = 0
  | [] => rfl
  | n :: r => by
    show max (PyData.depth (PyData.int n)) (PyData.depthAll (r.map PyData.int)) = 0
    rw [deep_ints r]; rfl
theorem shaped_ints (ns : List Int) : SeqAt.shaped (.list (ns.map PyData.int)) = true := by
  show (PyData.canLayAll0 (ns.map PyData.int) && decide (PyData.depthAll (ns.map PyData.int) + 1 ≤ 64)) = true
  rw [lay_ints, deep_ints]; rfl
theorem kn {H : Hp} {a t : Addr} {o o' : HO} (h : H a = some o) (n : H t = none) : upd H t o' a = some o := by rw [upd_ne (ne_of_none h n)]; exact h
/-- all but what stands at the places L is kept -/
def Kp (L : List Addr) (H H' : Hp) : Prop := ∀ b o, b ∉ L → H b = some o → H' b = some o
theorem Kp.refl (L : List Addr) (H : Hp) : Kp L H H := fun _ _ _ h => h
theorem Kp.trans {L : List Addr} {H H1 H2 : Hp} (a : Kp L H H1) (b : Kp L H1 H2) : Kp L H H2 := fun c o n h => b c o n (a c o n h)
theorem Kp.of {L : List Addr} {H H' : Hp} (s : Same H H') : Kp L H H' := fun b o _ h => s b o h
theorem Kp.new {L : List Addr} {p : Addr} {H H' : Hp} {o : HO} (a : Kp L H H') (h : H' p = none) : Kp L H (upd H' p o) := a.trans (.of (same_new h o))
theorem Kp.own {L : List Addr} {d : Addr} {H H' : Hp} {o : HO} (a : Kp L H H') (m : d ∈ L) : Kp L H (upd H' d o) := fun b u n h => by rw [upd_ne (show b ≠ d from fun z => n (by rw [z]; exact m))]; exact a b u n h
theorem Kp.mono {L M : List Addr} {H H' : Hp} (a : Kp L H H') (h : ∀ b ∈ L, b ∈ M) : Kp M H H' := fun b o n e => a b o (fun z => n (h b z)) e
theorem Kp.free {L : List Addr} {p : Addr} {H H' : Hp} (k : Kp L H H') (n : H' p = none) (m : p ∉ L) : H p = none := by
  cases e : H p with
  | none => rfl
  | some o => rw [k p o m e] at n; cases n
theorem Kp.put {L : List Addr} {p : Addr} {H H' : Hp} {o : HO} (k : Kp L H H') (n : H p = none) : Kp L H (upd H' p o) := fun b u m e => by rw [upd_ne (ne_of_none e n)]; exact k b u m e
theorem Kp.same {L : List Addr} {H0 H H' : Hp} (a : Kp L H H') (s : Same H0 H) (h : ∀ b ∈ L, H0 b = none) : Same H0 H' := fun b o e => a b o (fun z => by rw [h b z] at e; cases e) (s b o e)
theorem cutS_to {a : List Nat} {i : Int} (h : 0 ≤ i) : cutS (S a) none (some i) = S (a.take i.toNat) := by
  obtain ⟨n, rfl⟩ := Int.eq_ofNat_of_zero_le h
  unfold cutS
  rw [HT.sIx_none, HT.sIx_nat, S_len]
  show S (List.take (min n a.length - 0) (List.drop 0 a)) = S (a.take n)
  rw [List.drop_zero, Nat.sub_zero]
  by_cases h : n ≤ a.length
  · rw [Nat.min_eq_left h]
  · rw [Nat.min_eq_right (by omega), List.take_of_length_le (Nat.le_refl a.length), List.take_of_length_le (show a.length ≤ n by omega)]
/-- a comprehension over a text's signs, whose element is a plain value -/
theorem lc_txt {z : List Nat} (f : Nat → V) {g : TG} {te : TE} {vs : List Nat} {σ : St} {H1 : Hp} {D : Addr} {Qd : Hp → Prop} (hl : z.length ≤ 1000)
    (hs : ∀ c H (R : V → Hp → Prop), c ∈ z → R (f c) H → g (.str ⟨#[c]⟩) (wipe σ vs) H fun σ2 H2 => wipe σ2 vs = wipe σ vs ∧ te σ2 H2 R) (hd : Qd (upd H1 D (.lst (z.map f)))) :
    ∃ W : Nat → Nat → Hp → Prop, (∃ m, W 0 m (upd H1 D (.lst []))) ∧ ∀ i m H, W i m H →
      ((Its (S z)).stop i H ∧ Qd H) ∨ ((Its (S z)).go i H ∧ ∃ Nx : Hp → Prop, (∀ H', Nx H' → ∃ m', m' < m ∧ W (i + 1) m' H') ∧ ∀ x H', (Its (S z)).yld i H x H' → g x (wipe σ vs) H' fun σ2 H2 => wipe σ2 vs = wipe σ vs ∧ tYes σ2 H2 fun b H3 =>
        if b = true then te σ2 H3 fun y H4 => ∃ acc, H4 D = some (.lst acc) ∧ acc.length < sizeLine ∧ Nx (upd H4 D (.lst (acc ++ [y]))) else Nx H3) := by
  refine lc_it (walk_str (z := S z)) (fun i H => H = upd H1 D (.lst ((z.take i).map f))) rfl (fun _ _ _ _ => trivial) ?_ ?_
  · rintro i x H H' hi rfl ⟨rfl, c, hc, rfl⟩
    have hc' : z[i]? = some c := by
      rw [← hc]; show z[i]? = (z.toArray)[i]?; rw [List.getElem?_toArray]
    refine hs c _ (fun y H4 => ∃ acc, H4 D = some (.lst acc) ∧ acc.length < sizeLine ∧ upd H4 D (.lst (acc ++ [y])) = upd H1 D (.lst ((z.take (i + 1)).map f))) (List.mem_of_getElem? hc') ⟨_, upd_same, ?_, ?_⟩
    · rw [List.length_map, List.length_take]; exact small1000 (by omega)
    · rw [upd_upd, List.take_add_one, hc', List.map_append]; rfl
  · rintro H rfl
    have e : (S z).cps.size = z.length := by show z.toArray.size = _; rw [List.size_toArray]
    rw [e, List.take_length]
    exact hd
theorem starts_S (x y : List Nat) : Txt.startswith (S x) (S y) = decide (x.take y.length = y) := by
  unfold Txt.startswith PySem.Builtin.Str.subAt
  rw [S_len, S_len]
  show (decide (0 + y.length ≤ x.length) && ((x.toArray.extract 0 (0 + (S y).length)) == y.toArray)) = _
  rw [S_len, Nat.zero_add, List.extract_toArray]
  have e : (List.extract x 0 y.length) = x.take y.length := by unfold List.extract; rw [List.drop_zero, Nat.sub_zero]
  rw [e]
  by_cases h : x.take y.length = y
  · have hl : y.length ≤ x.length := by
      have := congrArg List.length h
      rw [List.length_take] at this; omega
    rw [decide_eq_true h, decide_eq_true hl, h, beq_self_eq_true]; rfl
  · rw [decide_eq_false h]
    have : ((x.take y.length).toArray == y.toArray) = false := by
      rw [beq_eq_false_iff_ne]; intro z; exact h (by have := congrArg Array.toList z; exact this)
    rw [this, Bool.and_false]
theorem par_len : ∀ (x acc t l : List Nat), TL.par [45] acc x = some (t, l) → l.length ≤ x.length
  | [], _, _, _, h => by cases h
  | c :: r, acc, t, l, h => by
    have h' : (if TL.pre [45] (c :: r) = true then some (acc, (c :: r).drop 1) else TL.par [45] (acc ++ [c]) r) = some (t, l) := h
    by_cases hp : TL.pre [45] (c :: r) = true
    · rw [if_pos hp] at h'
      cases h'
      show r.length ≤ r.length + 1
      omega
    · rw [if_neg hp] at h'
      have := par_len r _ _ _ h'
      show l.length ≤ r.length + 1
      omega
/-- the letters a to h -/
def abc8 : List Nat := [97, 98, 99, 100, 101, 102, 103, 104]
/-- whether signs are a shuffle's -/
def shufB (x : List Nat) : Bool := match TL.par [45] [] x with
  | none => false
  | some (t, l) => decide (abc8.take t.length = t) && (decide (l.length ≤ 12) && (l.map fun c => decide (c ∈ t)).all id)
def kStr : Value → Option Str
  | .str x _ => some x
  | _ => none
def absAll : List Value → Option (List V)
  | [] => some []
  | u :: r => match absV u, absAll r with
    | some x, some t => some (x :: t)
    | _, _ => none
def kTup (K : Frag) (t : Addr) : Option (List V) := match K.lookup t with
  | some ⟨.type c, _, .seq its _, _⟩ => if c = "tuple" ∧ its.size ≤ 1000 then absAll its.toList else none
  | _ => none
def kEnt (K : Frag) (e : DictEntry) : Option (Str × List V) := match e.val, kStr e.key with
  | .ref t, some k => (kTup K t).map fun xs => (k, xs)
  | _, _ => none
/-- the entries es: keys, each with what its tuple holds -/
def kTab (K : Frag) : List DictEntry → Option (List (Str × List V))
  | [] => some []
  | e :: r => match kEnt K e, kTab K r with
    | some x, some t => some (x :: t)
    | _, _ => none
theorem abs_rel {u : Value} {x : V} (h : absV u = some x) : RelV x u := by
  cases u <;> simp only [absV] at h <;> first | (cases h; done) | (cases h; first | exact rfl | exact ⟨_, rfl⟩) | cases h
theorem abs_all : ∀ {us : List Value} {xs : List V}, absAll us = some xs → Vals xs us
  | [], xs, h => by cases h; exact .nil
  | u :: r, xs, h => by
    unfold absAll at h
    cases e1 : absV u with
    | none => rw [e1] at h; cases h
    | some x =>
      cases e2 : absAll r with
      | none => rw [e1, e2] at h; cases h
      | some t =>
        rw [e1, e2] at h
        cases h
        exact .cons (abs_rel e1) (abs_all e2)
theorem kTup_ok {K : Frag} {t : Addr} {xs : List V} (h : kTup K t = some xs) (H : Hp) : SqT K H t xs := by
  unfold kTup at h
  cases e : K.lookup t with
  | none => rw [e] at h; cases h
  | some o =>
    rw [e] at h
    obtain ⟨oc, od, dt, sl⟩ := o
    cases oc with
    | type c =>
      cases dt with
      | seq its n =>
        have h' : (if c = "tuple" ∧ its.size ≤ 1000 then absAll its.toList else none) = some xs := h
        by_cases hc : c = "tuple" ∧ its.size ≤ 1000
        · rw [if_pos hc] at h'
          obtain ⟨rfl, hz⟩ := hc
          exact .inr ⟨_, its, n, e, rfl, rfl, Nat.le_of_lt (small1000 hz), abs_all h'⟩
        · rw [if_neg hc] at h'; cases h'
      | _ => cases h
    | _ => cases h
/-- what the table tells of a text -/
theorem tab_look {K : Frag} (z : Str) : ∀ {es : List DictEntry} {T : List (Str × List V)}, kTab K es = some T →
    (∀ xs, T.lookup z = some xs → ∃ e t, es.find? (·.key.isStr z) = some e ∧ e.val = .ref t ∧ kTup K t = some xs) ∧ (T.lookup z = none → es.find? (·.key.isStr z) = none) ∧ es.any (·.refKey) = false
  | [], T, h => by cases h; exact ⟨(fun xs q => by cases q), (fun _ => rfl), rfl⟩
  | e :: r, T, h => by
    unfold kTab at h
    cases e1 : kEnt K e with
    | none => rw [e1] at h; cases h
    | some x =>
      cases e2 : kTab K r with
      | none => rw [e1, e2] at h; cases h
      | some t =>
        rw [e1, e2] at h
        cases h
        obtain ⟨ih1, ih2, ih3⟩ := tab_look z e2
        obtain ⟨k, ys⟩ := x
        obtain ⟨a, hv, hk, ht⟩ : ∃ a, e.val = .ref a ∧ kStr e.key = some k ∧ kTup K a = some ys := by
          unfold kEnt at e1
          cases hv : e.val with
          | ref a =>
            cases hk : kStr e.key with
            | none => rw [hv, hk] at e1; cases e1
            | some k' =>
              rw [hv, hk] at e1
              have e1' : (kTup K a).map (fun xs => (k', xs)) = some (k, ys) := e1
              cases ht : kTup K a with
              | none => rw [ht] at e1'; cases e1'
              | some zs => rw [ht] at e1'; cases e1'; exact ⟨a, rfl, rfl, ht⟩
          | _ => rw [hv] at e1; cases e1
        obtain ⟨tk, hkey⟩ : ∃ tk, e.key = .str k tk := by
          unfold kStr at hk
          cases q : e.key with
          | str x' t' => rw [q] at hk; cases hk; exact ⟨_, rfl⟩
          | _ => rw [q] at hk; cases hk
        have hst : e.key.isStr z = (k == z) := by rw [hkey]; rfl
        have hrf : e.refKey = false := by unfold DictEntry.refKey; rw [hkey]
        refine ⟨fun xs q => ?_, fun q => ?_, ?_⟩
        · rw [List.lookup_cons] at q
          by_cases hz : z = k
          · subst hz
            rw [beq_self_eq_true] at q
            cases q
            exact ⟨e, a, by rw [List.find?_cons_of_pos (by rw [hst]; exact beq_self_eq_true z)], hv, ht⟩
          · rw [show (z == k) = false from beq_eq_false_iff_ne.mpr hz] at q
            obtain ⟨e', t', h1, h2, h3⟩ := ih1 xs q
            exact ⟨e', t', by rw [List.find?_cons_of_neg (by rw [hst]; intro y; exact hz (beq_iff_eq.mp y).symm)]; exact h1, h2, h3⟩
        · rw [List.lookup_cons] at q
          by_cases hz : z = k
          · subst hz
            rw [beq_self_eq_true] at q
            cases q
          · rw [show (z == k) = false from beq_eq_false_iff_ne.mpr hz] at q
            rw [List.find?_cons_of_neg (by rw [hst]; intro y; exact hz (beq_iff_eq.mp y).symm)]
            exact ih2 q
        · rw [List.any_cons, hrf, ih3]; rfl
def nn : List V := [V.str "number", V.str "number"]
def table : List (Str × List V) := [((("plus" : Str)), nn), ("minus", nn), ("times", nn), ("less", nn), ("same", nn), ("do", [V.str "row"]), ("dip", [V.str "any", V.str "row"]), ("if", [V.str "number", V.str "row", V.str "row"]), ("while", [V.str "row", V.str "row"]), ("repeat", [V.str "number", V.str "row"]), ("join", [V.str "row", V.str "row"]), ("wrap", [V.str "any"]), ("put", [V.str "list", V.str "any"]), ("part", [V.str "list", V.str "row", V.str "row"]), ("each", [V.str "list", V.str "row"])]
/-- the basic words' table stands at d -/
structure Tab (K : Frag) (w : World) (mg : Str → Option Value) (d : Addr) (es : Array DictEntry) (n : Nat) : Prop where
  kd : KDict K w d es n
  tab : kTab K es.toList = some table
  mg_ : mg "SORTS_TAKEN" = some (.ref d)
theorem Tab.ns {w : World} {K : PySem.W.Frag} {mg : Str → Option Value} {d : Addr} {es : Array DictEntry} {n : Nat} (T : Tab K w mg d es n) (z : Str) : (table.lookup z = none → nsIn K d z = some none) ∧ ∀ xs, table.lookup z = some xs → ∃ t, nsIn K d z = some (some (.ref t)) ∧ kTup K t = some xs := by
  obtain ⟨h1, h2, h3⟩ := tab_look z T.tab
  constructor
  · intro q
    unfold nsIn
    rw [T.kd.at_]
    show (match es.toList.find? (·.key.isStr z) with | some e => some (some e.val) | none => if es.toList.any (·.refKey) then none else some none) = some none
    rw [h2 q]
    show (if es.toList.any (·.refKey) = true then none else some none) = some none
    rw [h3]; rfl
  · intro xs q
    obtain ⟨e, t, e1, e2, e3⟩ := h1 xs q
    refine ⟨t, ?_, e3⟩
    unfold nsIn
    rw [T.kd.at_]
    show (match es.toList.find? (·.key.isStr z) with | some e => some (some e.val) | none => if es.toList.any (·.refKey) then none else some none) = some (some (.ref t))
    rw [e1]
    show some (some e.val) = _
    rw [e2]
theorem lookup_mem {z : Str} {xs : List V} : ∀ {T : List (Str × List V)}, T.lookup z = some xs → (z, xs) ∈ T
  | (k, ys) :: r, h => by
    rw [List.lookup_cons] at h
    by_cases hz : z = k
    · subst hz; rw [beq_self_eq_true] at h; cases h; exact List.mem_cons_self ..
    · rw [show (z == k) = false from beq_eq_false_iff_ne.mpr hz] at h
      exact List.mem_cons_of_mem _ (lookup_mem h)
end Cm
namespace Cm
open PySem PySem.W L2 SX
/-- a comprehension over a text's signs with a test -/
theorem lc_txtIf {z : List Nat} (p : Nat → Bool) (f : Nat → V) {g : TG} {tt : TT} {te : TE} {vs : List Nat} {σ : St} {H1 : Hp} {D : Addr} {Qd : Hp → Prop} (hl : z.length ≤ 1000)
    (hs : ∀ c H (R : V → Hp → Prop) (R0 : Hp → Prop), c ∈ z → (p c = true → R (f c) H) → (p c = false → R0 H) → g (.str ⟨#[c]⟩) (wipe σ vs) H fun σ2 H2 => wipe σ2 vs = wipe σ vs ∧ tt σ2 H2 fun b H3 => if b = true then te σ2 H3 R else R0 H3) (hd : Qd (upd H1 D (.lst ((z.filter p).map f)))) :
    ∃ W : Nat → Nat → Hp → Prop, (∃ m, W 0 m (upd H1 D (.lst []))) ∧ ∀ i m H, W i m H →
      ((Its (S z)).stop i H ∧ Qd H) ∨ ((Its (S z)).go i H ∧ ∃ Nx : Hp → Prop, (∀ H', Nx H' → ∃ m', m' < m ∧ W (i + 1) m' H') ∧ ∀ x H', (Its (S z)).yld i H x H' → g x (wipe σ vs) H' fun σ2 H2 => wipe σ2 vs = wipe σ vs ∧ tt σ2 H2 fun b H3 =>
        if b = true then te σ2 H3 fun y H4 => ∃ acc, H4 D = some (.lst acc) ∧ acc.length < sizeLine ∧ Nx (upd H4 D (.lst (acc ++ [y]))) else Nx H3) := by
  refine lc_it (walk_str (z := S z)) (fun i H => H = upd H1 D (.lst (((z.take i).filter p).map f))) rfl (fun _ _ _ _ => trivial) ?_ ?_
  · rintro i x H H' hi rfl ⟨rfl, c, hc, rfl⟩
    have hc' : z[i]? = some c := by
      rw [← hc]; show z[i]? = (z.toArray)[i]?; rw [List.getElem?_toArray]
    refine hs c _ (fun y H4 => ∃ acc, H4 D = some (.lst acc) ∧ acc.length < sizeLine ∧ upd H4 D (.lst (acc ++ [y])) = upd H1 D (.lst (((z.take (i + 1)).filter p).map f))) (fun H4 => H4 = upd H1 D (.lst (((z.take (i + 1)).filter p).map f))) (List.mem_of_getElem? hc') (fun hp => ⟨_, upd_same, ?_, ?_⟩) (fun hp => ?_)
    · have h1 := List.length_filter_le p (z.take i)
      rw [List.length_take] at h1
      rw [List.length_map]; exact small1000 (by omega)
    · rw [upd_upd, List.take_add_one, hc', List.filter_append, List.map_append]
      show _ = upd H1 D (HO.lst (List.map f (List.filter p (List.take i z)) ++ List.map f (List.filter p [c])))
      rw [List.filter_cons_of_pos hp]; rfl
    · show _ = _
      rw [List.take_add_one, hc', List.filter_append]
      show _ = upd H1 D (HO.lst (List.map f (List.filter p (List.take i z) ++ List.filter p [c])))
      rw [List.filter_cons_of_neg (by rw [hp]; decide), List.filter_nil, List.append_nil]
  · rintro H rfl
    have e : (S z).cps.size = z.length := by show z.toArray.size = _; rw [List.size_toArray]
    rw [e, List.take_length]
    exact hd
/-- a text, or something else that the law hands in -/
def Vl (H : Hp) (v : V) : Option (List Nat) → Prop
  | some x => v = .str (S x) ∧ x.length ≤ 1000
  | none => (v = .non ∨ (∃ b, v = .bl b) ∨ (∃ i, v = .int i) ∨ (∃ a xs, v = .ref a ∧ H a = some (.lst xs)) ∨ (∃ a kvs, v = .ref a ∧ H a = some (.dK kvs))) ∨ (∃ a xs, v = .ref a ∧ H a = some (.tup xs) ∧ (xs = [] ∨ ∃ z, xs = [.str z]))
theorem Vl.same {H H' : Hp} {v : V} {o : Option (List Nat)} (h : Vl H v o) (s : Same H H') : Vl H' v o := by
  cases o with
  | some x => exact h
  | none =>
    rcases h with (h | h | h | ⟨a, xs, e, h⟩ | ⟨a, xs, e, h⟩) | ⟨a, xs, e, h, g⟩
    · exact .inl (.inl h)
    · exact .inl (.inr (.inl h))
    · exact .inl (.inr (.inr (.inl h)))
    · exact .inl (.inr (.inr (.inr (.inl ⟨a, xs, e, s _ _ h⟩))))
    · exact .inl (.inr (.inr (.inr (.inr ⟨a, xs, e, s _ _ h⟩))))
    · exact .inr ⟨a, xs, e, s _ _ h, g⟩
theorem Vl.isStr {K : Frag} {H : Hp} {v : V} {o : Option (List Nat)} (h : Vl H v o) : ∃ t, TyX K H v t ∧ kitOne K t (.type "str") = some o.isSome := by
  cases o with
  | some x => exact ⟨_, by rw [h.1]; exact .base (.str _), kit_ty (r := true) (by decide +kernel)⟩
  | none =>
    rcases h with (h | ⟨b, h⟩ | ⟨i, h⟩ | ⟨a, xs, e, h⟩ | ⟨a, xs, e, h⟩) | ⟨a, xs, e, h, g⟩
    · exact ⟨_, by rw [h]; exact .base .non, kit_ty (r := false) (by decide +kernel)⟩
    · exact ⟨_, by rw [h]; exact .base (.bl _), kit_ty (r := false) (by decide +kernel)⟩
    · exact ⟨_, by rw [h]; exact .base (.int _), kit_ty (r := false) (by decide +kernel)⟩
    · exact ⟨_, by rw [e]; exact .base (.lst h), kit_ty (r := false) (by decide +kernel)⟩
    · exact ⟨_, by rw [e]; exact .base (.dK h), kit_ty (r := false) (by decide +kernel)⟩
    · exact ⟨_, by rw [e]; exact .base (.tup h), kit_ty (r := false) (by decide +kernel)⟩
/-- no tuple, or one without, or with one part -/
theorem Vl.isTup {K : Frag} {H : Hp} {v : V} (h : Vl H v none) : (∃ t, TyX K H v t ∧ kitOne K t (.type "tuple") = some false) ∨ (∃ a xs t, v = .ref a ∧ H a = some (.tup xs) ∧ (xs = [] ∨ ∃ z, xs = [.str z]) ∧ TyX K H v t ∧ kitOne K t (.type "tuple") = some true) := by
  rcases h with (h | ⟨b, h⟩ | ⟨i, h⟩ | ⟨a, xs, e, h⟩ | ⟨a, xs, e, h⟩) | ⟨a, xs, e, h, g⟩
  · exact .inl ⟨_, by rw [h]; exact .base .non, kit_ty (r := false) (by decide +kernel)⟩
  · exact .inl ⟨_, by rw [h]; exact .base (.bl _), kit_ty (r := false) (by decide +kernel)⟩
  · exact .inl ⟨_, by rw [h]; exact .base (.int _), kit_ty (r := false) (by decide +kernel)⟩
  · exact .inl ⟨_, by rw [e]; exact .base (.lst h), kit_ty (r := false) (by decide +kernel)⟩
  · exact .inl ⟨_, by rw [e]; exact .base (.dK h), kit_ty (r := false) (by decide +kernel)⟩
  · exact .inr ⟨a, xs, _, e, h, g, by rw [e]; exact .base (.tup h), kit_ty (r := true) (by decide +kernel)⟩
/-- the small letters -/
def az : List Nat := [97, 98, 99, 100, 101, 102, 103, 104, 105, 106, 107, 108, 109, 110, 111, 112, 113, 114, 115, 116, 117, 118, 119, 120, 121, 122]
/-- whether signs are a told word's name -/
def nameB (x : List Nat) : Bool := (decide (1 ≤ x.length) && decide (x.length ≤ 8)) && ((x.map fun c => decide (c ∈ az)).all id && !(table.lookup (S x)).isSome)
/-- whether signs are a word -/
def wordB (x : List Nat) : Bool := (table.lookup (S x)).isSome || (shufB x || nameB x)
def onT (f : List Nat → Bool) : Option (List Nat) → Bool
  | some x => f x
  | none => false
theorem par_spec : ∀ (x acc t l : List Nat), TL.par [45] acc x = some (t, l) → ∃ p, t = acc ++ p ∧ x = p ++ 45 :: l ∧ 45 ∉ p
  | [], _, _, _, h => by cases h
  | c :: r, acc, t, l, h => by
    have h' : (if TL.pre [45] (c :: r) = true then some (acc, (c :: r).drop 1) else TL.par [45] (acc ++ [c]) r) = some (t, l) := h
    by_cases hp : TL.pre [45] (c :: r) = true
    · rw [if_pos hp] at h'
      cases h'
      have hc : c = 45 := by
        have := eq_of_beq hp
        exact List.head_eq_of_cons_eq this
      exact ⟨[], by simp, by rw [hc]; rfl, by simp⟩
    · rw [if_neg hp] at h'
      obtain ⟨p, e1, e2, e3⟩ := par_spec r _ _ _ h'
      refine ⟨c :: p, by rw [e1]; simp, by rw [e2]; rfl, ?_⟩
      intro z
      rcases List.mem_cons.mp z with z | z
      · exact hp (by rw [← z]; rfl)
      · exact e3 z
theorem par_no : ∀ (x acc : List Nat), TL.par [45] acc x = none → 45 ∉ x
  | [], _, _ => by simp
  | c :: r, acc, h => by
    have h' : (if TL.pre [45] (c :: r) = true then some (acc, (c :: r).drop 1) else TL.par [45] (acc ++ [c]) r) = none := h
    by_cases hp : TL.pre [45] (c :: r) = true
    · rw [if_pos hp] at h'; cases h'
    · rw [if_neg hp] at h'
      intro z
      rcases List.mem_cons.mp z with z | z
      · exact hp (by rw [← z]; rfl)
      · exact par_no r _ h' z
theorem cnt_len (x : List Nat) : PyProof.Rows.cnt 45 x = (x.count 45 : Nat) := by
  induction x with
  | nil => rfl
  | cons n r ih =>
    rw [PyProof.Rows.cnt_cons, ih, List.count_cons]
    by_cases h : n = 45
    · rw [if_pos h, h]; simp; omega
    · rw [if_neg h]; simp [h]
/-- the first stroke -/
theorem index_dash {x p q : List Nat} (hx : x = p ++ 45 :: q) (hp : 45 ∉ p) (hq : 45 ∉ q) : Txt.index0 (S x) (S [45]) = some p.length := by
  obtain ⟨f, hc⟩ := PySem.StrLaws.occ_chain (S x) (S [45]) 1
  have hm : (!(Builtin.Str.occurrences (S x) (S [45]) 0 (S x).length 1).isEmpty) = decide (45 ∈ x) := in_one x 45
  have hx' : (45 : Nat) ∈ x := by rw [hx]; exact List.mem_append.mpr (.inr (List.mem_cons_self ..))
  rw [decide_eq_true hx'] at hm
  unfold Txt.index0
  cases ho : Builtin.Str.occurrences (S x) (S [45]) 0 (S x).length 1 with
  | nil => rw [ho] at hm; cases hm
  | cons i r =>
    rw [ho] at hc
    have h2 := (TL.at_iff (x := S x) (y := S [45]) (List.cons_ne_nil _ _) i).mp hc.2.1
    have h3 : (x.drop i).take 1 = [45] := eq_of_beq h2
    show some i = some p.length
    congr 1
    have h4 : x[i]? = some 45 := by
      have := congrArg (fun l => l[0]?) h3
      simp only [List.getElem?_take, List.getElem?_drop] at this
      simpa using this
    rw [hx] at h4
    by_cases h5 : i < p.length
    · rw [List.getElem?_append_left h5] at h4
      exact absurd (List.mem_of_getElem? h4) hp
    · rw [List.getElem?_append_right (by omega)] at h4
      by_cases h6 : i - p.length = 0
      · omega
      · obtain ⟨j, hj⟩ : ∃ j, i - p.length = j + 1 := ⟨i - p.length - 1, by omega⟩
        rw [hj, List.getElem?_cons_succ] at h4
        exact absurd (List.mem_of_getElem? h4) hq
end Cm
namespace Cm
open PySem PySem.W L2 SX
/-- a text of at most n signs that a text may have -/
structure Tx (z : Str) (n : Nat) : Prop where
  len : z.length ≤ n
  ch : ∀ c ∈ z.cps.toList, c < 1114112
theorem Tx.add {a b : Str} {m n : Nat} (h : Tx a m) (g : Tx b n) : Tx (a ++ b) (m + n) := by
  refine ⟨?_, fun c hc => ?_⟩
  · have e : (a ++ b).length = a.length + b.length := by
      rw [TL.len_tl, TL.tl_append, List.length_append, ← TL.len_tl, ← TL.len_tl]
    have := h.len; have := g.len; omega
  · have e : c ∈ TL.tl a ++ TL.tl b := by rw [← TL.tl_append]; exact hc
    rcases List.mem_append.mp e with e | e
    · exact h.ch c e
    · exact g.ch c e
theorem Tx.mono {a : Str} {m n : Nat} (h : Tx a m) (l : m ≤ n) : Tx a n := ⟨Nat.le_trans h.len l, h.ch⟩
theorem Tx.cut {z : Str} {n : Nat} (h : Tx z n) (lo hi : Option Int) : Tx (cutS z lo hi) n := by
  refine ⟨Nat.le_trans (cutS_length z lo hi) h.len, fun c hc => h.ch c ?_⟩
  have e : c ∈ (z.cps.toList.drop (HT.sIx z.length 0 lo)).take (HT.sIx z.length z.length hi - HT.sIx z.length 0 lo) := hc
  exact List.mem_of_mem_drop (List.mem_of_mem_take e)
theorem Tx.at_ {z : Str} {n : Nat} (h : Tx z n) {i : Int} {c : Nat} (e : atI z.cps.toList i = some c) : Tx ⟨#[c]⟩ 1 := by
  refine ⟨Nat.le_refl 1, fun d hd => ?_⟩
  have hd' : d ∈ [c] := hd
  rw [List.mem_singleton.mp hd']
  refine h.ch c ?_
  unfold atI at e
  cases q : ixN z.cps.toList.length i with
  | none => rw [q] at e; cases e
  | some j => rw [q] at e; exact List.mem_of_getElem? e
theorem Tx.sz {z : Str} {n : Nat} (h : Tx z n) (l : n ≤ 1000 := by decide) : z.length ≤ sizeLine := Nat.le_of_lt (small1000 (Nat.le_trans h.len l))
theorem Tx.sz2 {y z : Str} {m n : Nat} (h : Tx y m) (g : Tx z n) (l : m + n ≤ 1000 := by decide) : y.length + z.length ≤ sizeLine := by
  have := h.len; have := g.len
  exact Nat.le_of_lt (small1000 (by omega))
/-- a written text -/
def litB (z : Str) (n : Nat) : Bool := decide (z.length ≤ n) && z.cps.toList.all fun c => decide (c < 1114112)
theorem Tx.lit {z : Str} {n : Nat} (h : litB z n = true) : Tx z n := by
  unfold litB at h
  rw [Bool.and_eq_true] at h
  exact ⟨of_decide_eq_true h.1, fun c hc => of_decide_eq_true (List.all_eq_true.mp h.2 c hc)⟩
theorem joinL_nil : ∀ l : List (List Nat), TL.joinL [] l = l.flatten
  | [] => rfl
  | [x] => by show x = [x].flatten; simp
  | x :: y :: r => by
    have ih := joinL_nil (y :: r)
    show x ++ ([] ++ TL.joinL [] (y :: r)) = (x :: y :: r).flatten
    rw [ih]; simp
theorem Tx.join {ys : List Str} (h : ∀ y ∈ ys, Tx y 1) : Tx (Txt.join ("" : Str) ys) ys.length := by
  have e0 : ("" : Str) = S [] := by decide +kernel
  have e1 : ys = (ys.map TL.tl).map S := by
    rw [List.map_map]
    conv => lhs; rw [← List.map_id ys]
    exact List.map_congr_left fun y _ => (S_tl y).symm
  have e2 : Txt.join ("" : Str) ys = S ((ys.map TL.tl).flatten) := by
    rw [e0]; conv => lhs; rw [e1]
    rw [join_S, joinL_nil]
  rw [e2]
  refine ⟨?_, fun c hc => ?_⟩
  · rw [S_len, List.length_flatten]
    have : ∀ l : List Str, (∀ y ∈ l, Tx y 1) → ((l.map TL.tl).map List.length).sum ≤ l.length := by
      intro l
      induction l with
      | nil => intro _; exact Nat.le_refl 0
      | cons y r ih =>
        intro hh
        have h1 := (hh y (List.mem_cons_self ..)).len
        rw [TL.len_tl] at h1
        have h2 := ih fun z hz => hh z (List.mem_cons_of_mem _ hz)
        rw [List.map_cons, List.map_cons, List.sum_cons, List.length_cons]
        omega
    exact this ys h
  · have hc' : c ∈ (ys.map TL.tl).flatten := hc
    obtain ⟨l, hl, hcl⟩ := List.mem_flatten.mp hc'
    obtain ⟨y, hy, rfl⟩ := List.mem_map.mp hl
    exact (h y hy).ch c hcl
theorem sum_one {ys : List Str} (h : ∀ y ∈ ys, Tx y 1) (l : ys.length ≤ 1000) : (ys.map (·.length)).sum + ys.length * ("" : Str).length ≤ 16777216 := by
  have e0 : ("" : Str).length = 0 := by decide +kernel
  rw [e0, Nat.mul_zero, Nat.add_zero]
  have : ∀ l : List Str, (∀ y ∈ l, Tx y 1) → (l.map (·.length)).sum ≤ l.length := by
    intro l
    induction l with
    | nil => intro _; exact Nat.le_refl 0
    | cons y r ih =>
      intro hh
      have h1 := (hh y (List.mem_cons_self ..)).len
      have h2 := ih fun z hz => hh z (List.mem_cons_of_mem _ hz)
      rw [List.map_cons, List.sum_cons, List.length_cons]
      omega
  have := this ys h
  omega
end Cm
namespace Cm
open PySem PySem.Spec PyProof.Rows L2
theorem ext_tup (l : Addr) (its : Array Value) (n : Nat) (b : Addr) (js : Array Value) (m : Nat) (dd : Option Addr) (sl : Array (Option Value)) (h0 : ¬(!its.isEmpty && Builtin.List.listTooLong (its.size + js.size)) = true) (h1 : its.size ≤ sizeLine) (h2 : its.size + js.size ≤ sizeLine + 1) :
    Meets (Builtin.«list.extend» ⟨[.ref l, .ref b], []⟩) (fun _ R s => s.heap.get? l = some { cls := .type "list", dict := none, data := .seq its n, slots := #[] } ∧ s.heap.get? b = some { cls := .type "tuple", dict := dd, data := .seq js m, slots := sl } ∧ R (.ok (.ret Value.none)) { s with heap := s.heap.update l (Obj.mapSeq fun x => x ++ js), toks := s.toks }) :=
  .of_wp fun prog w A R s h => by
    obtain ⟨hp, g, d, tk, os⟩ := s
    obtain ⟨hl, hb, h⟩ := h
    have f2 := sub_tuple_tuple; have f3 := sub_list_list; have f4 := sub_tuple_list; have f5 := sub_list_tuple; have f1 := AutoSeq1.idx_int
    have hz : (its ++ js).size ≤ sizeLine + 1 := by rw [Array.size_append]; exact h2
    wp_walk using (wpAny_updateSeq hl rfl (hz := h1) (_hz' := hz)), wpAny_loadPart' hl, wpAny_loadPart' hb
    exact ⟨_, rfl, h⟩
def rExtT (K : PySem.W.Frag) : V → List V → Hp → VK → Prop := fun x vs H Q => ∃ l b xs zs, x = .ref l ∧ vs = [.ref b] ∧ H l = some (.lst xs) ∧ SqT K H b zs ∧ xs.length + zs.length ≤ sizeLine ∧ Q .non (upd H l (.lst (xs ++ zs)))
/-- xs.extend(t), t a tuple -/
theorem mt_extT {X : Cx} : MtM X "list.extend" (rExtT X.K) := by
  intro pins s σ H x vs v us Q I rx rv h
  obtain ⟨l, b, xs, zs, rfl, rfl, hH, hB, hz, q⟩ := h
  cases rx
  obtain ⟨u, rfl, ru⟩ := rv.one
  cases ru
  obtain ⟨z, its, n, r, hl, e⟩ := I.lstM hH
  obtain ⟨js, r2, ⟨ob, e2, c2, m, d2⟩, z2⟩ := I.tuple hB
  obtain ⟨oc, od, dt, sl⟩ := ob
  cases (show oc = .type "tuple" from c2)
  cases (show dt = .seq js.toArray m from d2)
  have l2 := r2.length
  have hsz : its.toArray.size + js.toArray.size ≤ sizeLine := by rw [List.size_toArray, List.size_toArray]; omega
  have hlong : ¬ (!its.toArray.isEmpty && Builtin.List.listTooLong (its.toArray.size + js.toArray.size)) = true := by
    rw [notLongL hsz, Bool.and_false]; exact Bool.false_ne_true
  refine call_meets F.slot_list_extend ⟨_, e, rfl⟩ F.entry_list_extend (F.args_list_extend_2 _ _)
    (ext_tup l its.toArray n b js.toArray m od sl hlong (by rw [List.size_toArray]; omega) (by omega)) ⟨e, e2, ?_⟩
  refine ⟨.non, _, I.lset (its' := its ++ js) hH e (by simp) (r.append r2) ?_, rfl, q⟩
  rw [List.length_append]; omega
end Cm
namespace Cm
open PySem PySem.W L2 SX
/-! ### data of tuples, texts and numbers as it lies in the heap -/
mutual
inductive Tr (K : Frag) (H : Hp) : V → PyData → Prop
  | int (i : Int) : Tr K H (.int i) (.int i)
  | str (x : Str) : Tr K H (.str x) (.str x)
  | tup {a : Addr} {xs : List V} {ds : List PyData} : SqT K H a xs → TrAll K H xs ds → Tr K H (.ref a) (.tuple ds)
inductive TrAll (K : Frag) (H : Hp) : List V → List PyData → Prop
  | nil : TrAll K H [] []
  | cons {v : V} {vs : List V} {d : PyData} {ds : List PyData} : Tr K H v d → TrAll K H vs ds → TrAll K H (v :: vs) (d :: ds)
end
/-- tuples are kept -/
def TKs (K : Frag) (H H' : Hp) : Prop := ∀ a xs, SqT K H a xs → SqT K H' a xs
theorem TKs.refl {K : Frag} (H : Hp) : TKs K H H := fun _ _ h => h
theorem TKs.trans {K : Frag} {H H1 H2 : Hp} (a : TKs K H H1) (b : TKs K H1 H2) : TKs K H H2 := fun c x h => b c x (a c x h)
theorem TKs.of {K : Frag} {H H' : Hp} (s : Same H H') : TKs K H H' := fun a xs h => by
  rcases h with (h | ⟨o, h⟩) | h
  · exact .inl (.inl (s _ _ h))
  · exact .inl (.inr ⟨o, s _ _ h⟩)
  · exact .inr h
theorem TKs.kp {K : Frag} {L : List Addr} {H H' : Hp} (k : Kp L H H') (hl : ∀ b ∈ L, ∃ xs, H b = some (.lst xs)) : TKs K H H' := fun a xs h => by
  have nm : ∀ o, H a = some o → (∀ ys, o ≠ .lst ys) → a ∉ L := fun o e n z => by
    obtain ⟨ys, ey⟩ := hl a z
    rw [ey] at e
    exact n ys (Option.some.inj e).symm
  rcases h with (h | ⟨o, h⟩) | h
  · exact .inl (.inl (k _ _ (nm _ h (fun _ z => by cases z)) h))
  · exact .inl (.inr ⟨o, k _ _ (nm _ h (fun _ z => by cases z)) h⟩)
  · exact .inr h
theorem TKs.lst {K : Frag} {H : Hp} {d : Addr} {xs ys : List V} (h : H d = some (.lst xs)) : TKs K H (upd H d (.lst ys)) :=
  TKs.kp (L := [d]) (fun b o m e => by rw [upd_ne (fun z => m (List.mem_singleton.mpr z))]; exact e) (fun b hb => by rw [List.mem_singleton.mp hb]; exact ⟨xs, h⟩)
mutual
theorem Tr.mono {K : Frag} {H H' : Hp} (k : TKs K H H') : ∀ {v : V} {d : PyData}, Tr K H v d → Tr K H' v d
  | _, _, .int i => .int i
  | _, _, .str x => .str x
  | _, _, .tup h t => .tup (k _ _ h) (TrAll.mono k t)
theorem TrAll.mono {K : Frag} {H H' : Hp} (k : TKs K H H') : ∀ {v : List V} {d : List PyData}, TrAll K H v d → TrAll K H' v d
  | _, _, .nil => .nil
  | _, _, .cons h t => .cons (Tr.mono k h) (TrAll.mono k t)
end
mutual
theorem Tr.dp {K : Frag} {H : Hp} : ∀ {v : V} {d : PyData}, Tr K H v d → Dp K H v d
  | _, _, .int i => .int i
  | _, _, .str x => .str x
  | _, _, .tup h t => .tup h (TrAll.dp t)
theorem TrAll.dp {K : Frag} {H : Hp} : ∀ {v : List V} {d : List PyData}, TrAll K H v d → DpAll K H v d
  | _, _, .nil => .nil
  | _, _, .cons h t => .cons (Tr.dp h) (TrAll.dp t)
end
theorem TrAll.len {K : Frag} {H : Hp} : ∀ {v : List V} {d : List PyData}, TrAll K H v d → v.length = d.length
  | _, _, .nil => rfl
  | _, _, .cons _ t => congrArg (· + 1) (TrAll.len t)
theorem TrAll.append {K : Frag} {H : Hp} : ∀ {v v' : List V} {d d' : List PyData}, TrAll K H v d → TrAll K H v' d' → TrAll K H (v ++ v') (d ++ d')
  | _, _, _, _, .nil, h => h
  | _, _, _, _, .cons h t, h' => .cons h (TrAll.append t h')
theorem TrAll.get {K : Frag} {H : Hp} : ∀ {v : List V} {d : List PyData} {i : Nat} {x : V}, TrAll K H v d → v[i]? = some x → ∃ y, d[i]? = some y ∧ Tr K H x y
  | _, _, i, x, .nil, h => by simp at h
  | _, _, 0, x, .cons h t, e => ⟨_, rfl, by cases e; exact h⟩
  | _, _, i + 1, x, .cons h t, e => by
    rw [List.getElem?_cons_succ] at e ⊢
    exact TrAll.get t e
theorem TrAll.snoc {K : Frag} {H : Hp} {v : List V} {d : List PyData} {x : V} (h : TrAll K H (v ++ [x]) d) : ∃ d' y, d = d' ++ [y] ∧ TrAll K H v d' ∧ Tr K H x y := by
  induction v generalizing d with
  | nil =>
    cases h with
    | cons a b => cases b; exact ⟨[], _, rfl, .nil, a⟩
  | cons u r ih =>
    cases h with
    | cons a b =>
      obtain ⟨d', y, rfl, h1, h2⟩ := ih b
      exact ⟨_ :: d', y, rfl, .cons a h1, h2⟩
/-! ### things, rows, stacks: depth, words in all, size -/
mutual
inductive Thg : Nat → Nat → Nat → PyData → Prop
  | num {k : Nat} (n : Int) (h0 : 0 ≤ n) (h1 : n < 10 ^ 12) : Thg k 0 1 (.tuple [.str "number", .int n])
  | row {k k' w m : Nat} {ws : List PyData} : Rw k w m ws → k < k' → Thg k' w (m + 1) (.tuple [.str "row", .tuple ws])
  | lst {k k' w m : Nat} {ts : List PyData} : Stk k w m ts → k < k' → Thg k' w (m + 1) (.tuple [.str "list", .tuple ts])
inductive Rw : Nat → Nat → Nat → List PyData → Prop
  | nil {k : Nat} : Rw k 0 0 []
  | txt {k w m : Nat} {z : Str} {ws : List PyData} : Tx z 100 → Rw k w m ws → Rw k (w + 1) (m + 1) (.str z :: ws)
  | push {k w m w' m' : Nat} {t : PyData} {ws : List PyData} : Thg k w m t → Rw k w' m' ws → Rw k (w + w' + 1) (m + m' + 1) (.tuple [.str "push", t] :: ws)
inductive Stk : Nat → Nat → Nat → List PyData → Prop
  | nil {k : Nat} : Stk k 0 0 []
  | cons {k w m w' m' : Nat} {t : PyData} {ts : List PyData} : Thg k w m t → Stk k w' m' ts → Stk k (w + w') (m + m') (t :: ts)
end
theorem Thg.up {k k' w m : Nat} {t : PyData} (h : Thg k w m t) (l : k ≤ k') : Thg k' w m t := by
  cases h with
  | num n h0 h1 => exact .num n h0 h1
  | row h q => exact .row h (Nat.lt_of_lt_of_le q l)
  | lst h q => exact .lst h (Nat.lt_of_lt_of_le q l)
theorem Rw.up {k k' : Nat} (l : k ≤ k') : ∀ {ws : List PyData} {w m : Nat}, Rw k w m ws → Rw k' w m ws
  | _, _, _, .nil => .nil
  | _, _, _, .txt h t => .txt h (Rw.up l t)
  | _, _, _, .push h t => .push (h.up l) (Rw.up l t)
theorem Stk.up {k k' : Nat} (l : k ≤ k') : ∀ {ws : List PyData} {w m : Nat}, Stk k w m ws → Stk k' w m ws
  | _, _, _, .nil => .nil
  | _, _, _, .cons h t => .cons (h.up l) (Stk.up l t)
theorem Rw.append {k : Nat} : ∀ {a b : List PyData} {w m w' m' : Nat}, Rw k w m a → Rw k w' m' b → Rw k (w + w') (m + m') (a ++ b)
  | _, _, _, _, _, _, .nil, h => by rw [Nat.zero_add, Nat.zero_add]; exact h
  | _, _, _, _, w', m', .txt (w := w) (m := m) h t, h' => by
    have := Rw.txt h (Rw.append t h')
    rw [show w + 1 + w' = w + w' + 1 by omega, show m + 1 + m' = m + m' + 1 by omega]
    exact this
  | _, _, _, _, w', m', .push (w := w) (m := m) (w' := x) (m' := y) h t, h' => by
    have := Rw.push h (Rw.append t h')
    rw [show w + x + 1 + w' = w + (x + w') + 1 by omega, show m + y + 1 + m' = m + (y + m') + 1 by omega]
    exact this
theorem Stk.append {k : Nat} : ∀ {a b : List PyData} {w m w' m' : Nat}, Stk k w m a → Stk k w' m' b → Stk k (w + w') (m + m') (a ++ b)
  | _, _, _, _, _, _, .nil, h => by rw [Nat.zero_add, Nat.zero_add]; exact h
  | _, _, _, _, _, _, .cons h t, h' => by
    rw [Nat.add_assoc, Nat.add_assoc]; exact .cons h (Stk.append t h')
theorem Stk.snoc {k : Nat} : ∀ {a : List PyData} {t : PyData} {w m : Nat}, Stk k w m (a ++ [t]) → ∃ w1 m1 w2 m2, Stk k w1 m1 a ∧ Thg k w2 m2 t ∧ w = w1 + w2 ∧ m = m1 + m2
  | [], t, w, m, h => by
    have h' : Stk k w m [t] := h
    cases h' with
    | cons a b => cases b; exact ⟨0, 0, _, _, .nil, a, by omega, by omega⟩
  | x :: r, t, w, m, h => by
    have h' : Stk k w m (x :: (r ++ [t])) := h
    cases h' with
    | cons a q =>
      obtain ⟨w1, m1, w2, m2, a', b, rfl, rfl⟩ := Stk.snoc q
      exact ⟨_, _, w2, m2, .cons a a', b, by omega, by omega⟩
theorem Thg.pos {k w m : Nat} {t : PyData} (h : Thg k w m t) : 1 ≤ m := by
  cases h <;> omega
theorem Stk.len {k : Nat} : ∀ {a : List PyData} {w m : Nat}, Stk k w m a → a.length ≤ m
  | _, _, _, .nil => Nat.le_refl 0
  | _, _, _, .cons h t => by
    have h1 := Stk.len t
    have h2 := h.pos
    rw [List.length_cons]; omega
theorem Rw.len {k : Nat} : ∀ {a : List PyData} {w m : Nat}, Rw k w m a → a.length ≤ m
  | _, _, _, .nil => Nat.le_refl 0
  | _, _, _, .txt h t => by have := Rw.len t; rw [List.length_cons]; omega
  | _, _, _, .push h t => by have := Rw.len t; rw [List.length_cons]; omega
/-- what a word pushes -/
def psh : PyData → Option PyData
  | .tuple [_, t] => some t
  | _ => none
theorem Rw.psh {k : Nat} : ∀ {ws : List PyData} {w m : Nat}, Rw k w m ws → ∃ w' m', Stk k w' m' (ws.filterMap psh) ∧ w = ws.length + w' ∧ m' ≤ m
  | _, _, _, .nil => ⟨0, 0, .nil, rfl, Nat.le_refl 0⟩
  | _, _, _, .txt h t => by
    obtain ⟨w', m', a, b, c⟩ := Rw.psh t
    exact ⟨w', m', a, by rw [List.length_cons]; omega, by omega⟩
  | _, _, _, .push h t => by
    obtain ⟨w', m', a, b, c⟩ := Rw.psh t
    exact ⟨_, _, .cons h a, by rw [List.length_cons]; omega, by omega⟩
theorem Rw.at_ {k : Nat} : ∀ {ws : List PyData} {w m i : Nat} {d : PyData}, Rw k w m ws → ws[i]? = some d → (∃ z, d = .str z) ∨ (∃ t, d = .tuple [.str "push", t])
  | _, _, _, i, d, .nil, h => by simp at h
  | _, _, _, 0, d, .txt (z := z) h t, e => .inl ⟨z, by cases e; rfl⟩
  | _, _, _, 0, d, .push (t := t) h _, e => .inr ⟨t, by cases e; rfl⟩
  | _, _, _, i + 1, d, .txt h t, e => Rw.at_ t e
  | _, _, _, i + 1, d, .push h t, e => Rw.at_ t e
theorem mid {n : Nat} (h : n ≤ 1000000) : n ≤ sizeLine := Nat.le_trans h (by decide)
theorem midlt {n : Nat} (h : n < 1000000) : n < sizeLine := Nat.lt_of_lt_of_le h (by decide)
theorem tyTup {K : Frag} {H : Hp} {a : Addr} {xs : List V} (h : SqT K H a xs) : TyX K H (.ref a) (.type "tuple") := by
  rcases h with (h | ⟨o, h⟩) | ⟨o, _, _, e, c, _⟩
  · exact .base (.tup h)
  · exact .fTuple h
  · exact .kTuple e c
mutual
theorem Thg.lay : ∀ {k w m : Nat} {t : PyData}, Thg k w m t → PyData.canLay0 t = true ∧ PyData.depth t ≤ 3 * k + 1
  | k, _, _, _, .num n h0 h1 => ⟨by show (PyData.canLay0 (.str "number") && (true && true)) = true; decide +kernel, Nat.le_add_left 1 _⟩
  | k', _, _, _, .row (k := k) (ws := ws) h l => by
    obtain ⟨a, b⟩ := Rw.lay h
    refine ⟨?_, ?_⟩
    · show (PyData.canLay0 (.str "row") && (PyData.canLayAll0 ws && true)) = true
      rw [a]; decide +kernel
    · show max 0 (max (PyData.depthAll ws + 1) 0) + 1 ≤ _
      omega
  | k', _, _, _, .lst (k := k) (ts := ts) h l => by
    obtain ⟨a, b⟩ := Stk.lay h
    refine ⟨?_, ?_⟩
    · show (PyData.canLay0 (.str "list") && (PyData.canLayAll0 ts && true)) = true
      rw [a]; decide +kernel
    · show max 0 (max (PyData.depthAll ts + 1) 0) + 1 ≤ _
      omega
theorem Rw.lay : ∀ {k w m : Nat} {ws : List PyData}, Rw k w m ws → PyData.canLayAll0 ws = true ∧ PyData.depthAll ws ≤ 3 * k + 2
  | k, _, _, _, .nil => ⟨rfl, Nat.zero_le _⟩
  | k, _, _, _, .txt (z := z) (ws := ws) h t => by
    obtain ⟨a, b⟩ := Rw.lay t
    refine ⟨?_, ?_⟩
    · show (z.cps.all (· < 0x110000) && PyData.canLayAll0 ws) = true
      rw [a, Bool.and_true, ← Array.all_toList, List.all_eq_true]
      intro c hc
      exact decide_eq_true (h.ch c hc)
    · show max 0 (PyData.depthAll ws) ≤ _
      omega
  | k, _, _, _, .push (t := t) (ws := ws) h r => by
    obtain ⟨a, b⟩ := Rw.lay r
    obtain ⟨a', b'⟩ := Thg.lay h
    refine ⟨?_, ?_⟩
    · show ((PyData.canLay0 (.str "push") && (PyData.canLay0 t && true)) && PyData.canLayAll0 ws) = true
      rw [a, a']; decide +kernel
    · show max (max 0 (max (PyData.depth t) 0) + 1) (PyData.depthAll ws) ≤ _
      omega
theorem Stk.lay : ∀ {k w m : Nat} {ts : List PyData}, Stk k w m ts → PyData.canLayAll0 ts = true ∧ PyData.depthAll ts ≤ 3 * k + 1
  | k, _, _, _, .nil => ⟨rfl, Nat.zero_le _⟩
  | k, _, _, _, .cons (t := t) (ts := ts) h r => by
    obtain ⟨a, b⟩ := Stk.lay r
    obtain ⟨a', b'⟩ := Thg.lay h
    refine ⟨?_, ?_⟩
    · show (PyData.canLay0 t && PyData.canLayAll0 ts) = true
      rw [a, a']; rfl
    · show max (PyData.depth t) (PyData.depthAll ts) ≤ _
      omega
end
theorem Stk.shaped {k w m : Nat} {ts : List PyData} (h : Stk k w m ts) (l : k ≤ 20) : SeqAt.shaped (.list ts) = true := by
  obtain ⟨a, b⟩ := h.lay
  show (PyData.canLayAll0 ts && decide (PyData.depthAll ts + 1 ≤ 64)) = true
  rw [a, Bool.true_and]; exact decide_eq_true (by omega)
end Cm
namespace Cm
open PySem PySem.W L2 SX
theorem Tr.tupD {K : Frag} {H : Hp} {v : V} {ds : List PyData} (h : Tr K H v (.tuple ds)) : ∃ a xs, v = .ref a ∧ SqT K H a xs ∧ TrAll K H xs ds := by
  cases h with
  | tup h t => exact ⟨_, _, rfl, h, t⟩
/-- two tuples' sum, as trees -/
theorem catTr {K : Frag} {H : Hp} {u v : V} {ps qs : List PyData} {Q : VK} (hu : Tr K H u (.tuple ps)) (hv : Tr K H v (.tuple qs)) (hl : ps.length + qs.length ≤ 1000000)
    (q : ∀ (r : V) (H' : Hp), Same H H' → Tr K H' r (.tuple (ps ++ qs)) → Q r H') : rCatA K u v H Q := by
  obtain ⟨a, xs, rfl, ha, hx⟩ := hu.tupD
  obtain ⟨b, ys, rfl, hb, hy⟩ := hv.tupD
  have lx := hx.len
  have ly := hy.len
  refine ⟨a, b, xs, ys, rfl, rfl, ha, hb, mid (by omega), fun e => ?_, fun _ e => ?_, fun _ _ p np => ?_⟩
  · subst e
    cases hx
    exact q _ H (fun _ _ h => h) (.tup hb hy)
  · subst e
    cases hy
    rw [List.append_nil] at q
    exact q _ H (fun _ _ h => h) (.tup ha hx)
  · exact q _ _ (same_new np _) (.tup (SqT.of upd_same) ((hx.append hy).mono (.of (same_new np _))))
/-- all but the first of a tuple, as trees -/
theorem restTr {K : Frag} {H : Hp} {u : V} {d : PyData} {ds : List PyData} {Q : VK} (hu : Tr K H u (.tuple (d :: ds)))
    (q : ∀ (r : V) (H' : Hp), Same H H' → Tr K H' r (.tuple ds) → Q r H') : rSlA K u (some 1) none H Q := by
  obtain ⟨a, xs, rfl, ha, hx⟩ := hu.tupD
  cases hx with
  | cons hd ht =>
    rename_i x xr
    refine ⟨a, _, rfl, ha, fun c => ?_, fun _ p np => ?_⟩
    · have c1 := c.1
      rw [show (1 : Int) = ((1 : Nat) : Int) from rfl, HT.sIx_nat, List.length_cons] at c1
      omega
    · have e : cutV (x :: xr) (some 1) none = xr := by
        unfold cutV
        rw [show (1 : Int) = ((1 : Nat) : Int) from rfl, HT.sIx_nat, HT.sIx_none, List.length_cons, Nat.min_eq_left (by omega)]
        show List.take (xr.length + 1 - 1) xr = xr
        rw [Nat.add_sub_cancel, List.take_length]
      rw [e]
      exact q _ _ (same_new np _) (.tup (SqT.of upd_same) (ht.mono (.of (same_new np _))))
/-- a made tuple, as a tree -/
theorem tupTr {K : Frag} {H : Hp} {xs : List V} {ds : List PyData} (h : TrAll K H xs ds) {p : Addr} (np : H p = none) : Tr K (upd H p (.tup xs)) (.ref p) (.tuple ds) := .tup (SqT.of upd_same) (h.mono (.of (same_new np _)))
end Cm
namespace Cm
open PySem PySem.W L2 SX
/-! ### maps: what stays lowest -/
/-- the thing c stays where it is and stands nowhere behind -/
def Stays (ps : List Int) (c : Nat) : Prop := ps[c]? = some (c : Int) ∧ (c : Int) ∉ ps.drop (c + 1)
/-- as many as c may be cut -/
def IsCut (ps : List Int) (c : Nat) : Prop := (∀ j, j < c → Stays ps j) ∧ ¬ Stays ps c
def cutM (c : Nat) (ps : List Int) : List Int := (ps.drop c).map fun p => p - (c : Int)
theorem IsCut.uniq {ps : List Int} {c d : Nat} (a : IsCut ps c) (b : IsCut ps d) : c = d := by
  rcases Nat.lt_trichotomy c d with h | h | h
  · exact absurd (b.1 c h) a.2
  · exact h
  · exact absurd (a.1 d h) b.2
theorem Stays.lt {ps : List Int} {c : Nat} (h : Stays ps c) : c < ps.length := by
  have := h.1
  exact (List.getElem?_eq_some_iff.mp this).1
theorem cutM_zero (ps : List Int) : cutM 0 ps = ps := by
  unfold cutM
  rw [List.drop_zero]
  have : (fun p : Int => p - ((0 : Nat) : Int)) = id := by funext p; show p - 0 = p; omega
  rw [this, List.map_id]
theorem cutM_length (c : Nat) (ps : List Int) : (cutM c ps).length ≤ ps.length := by
  unfold cutM
  rw [List.length_map, List.length_drop]; omega
theorem mem_cutM {c : Nat} {ps : List Int} {x : Int} : x ∈ cutM c ps ↔ x + c ∈ ps.drop c := by
  unfold cutM
  rw [List.mem_map]
  constructor
  · rintro ⟨y, hy, rfl⟩
    rw [show y - (c : Int) + (c : Int) = y by omega]; exact hy
  · intro h
    exact ⟨_, h, by omega⟩
theorem IsCut.least {ps : List Int} {c : Nat} (h : IsCut ps c) : IsCut (cutM c ps) 0 := by
  refine ⟨fun j hj => absurd hj (Nat.not_lt_zero j), fun s => h.2 ?_⟩
  obtain ⟨s1, s2⟩ := s
  have e1 : (cutM c ps)[0]? = (ps[c]?).map fun p => p - (c : Int) := by
    unfold cutM
    rw [List.getElem?_map, List.getElem?_drop, Nat.add_zero]
  rw [e1] at s1
  constructor
  · cases e : ps[c]? with
    | none => rw [e] at s1; cases s1
    | some p =>
      rw [e] at s1
      have s1' : p - (c : Int) = ((0 : Nat) : Int) := Option.some.inj s1
      congr 1
      omega
  · intro m
    refine s2 ?_
    have e2 : (cutM c ps).drop (0 + 1) = (ps.drop (c + 1)).map fun p => p - (c : Int) := by
      unfold cutM
      rw [← List.map_drop, List.drop_drop]
    rw [e2, List.mem_map]
    exact ⟨_, m, by omega⟩
/-- the numbers from 0 on -/
def nums (m : Nat) : List Int := (List.range m).map fun i => ((i : Nat) : Int)
theorem nums_length (m : Nat) : (nums m).length = m := by unfold nums; rw [List.length_map, List.length_range]
theorem nums_get {m i : Nat} (h : i < m) : (nums m)[i]? = some (i : Int) := by
  unfold nums
  rw [List.getElem?_map, List.getElem?_range h]; rfl
theorem mem_nums {m : Nat} {x : Int} : x ∈ nums m ↔ 0 ≤ x ∧ x < m := by
  unfold nums
  rw [List.mem_map]
  constructor
  · rintro ⟨i, hi, rfl⟩
    have := List.mem_range.mp hi
    omega
  · rintro ⟨h1, h2⟩
    exact ⟨x.toNat, List.mem_range.mpr (by omega), by omega⟩
theorem mem_drop_nums {m c : Nat} {x : Int} (h : x ∈ (nums m).drop c) : (c : Int) ≤ x := by
  obtain ⟨i, hi⟩ := List.mem_iff_getElem?.mp h
  rw [List.getElem?_drop] at hi
  have hl := (List.getElem?_eq_some_iff.mp hi).1
  rw [nums_length] at hl
  rw [nums_get hl] at hi
  have := Option.some.inj hi
  omega
def moreM (m : Nat) (ps : List Int) : List Int := nums m ++ ps.map fun p => p + (m : Int)
theorem stays_more {m c : Nat} {ps : List Int} : Stays (moreM m ps) (m + c) ↔ Stays ps c := by
  unfold Stays moreM
  have e1 : (nums m ++ ps.map fun p => p + (m : Int))[m + c]? = (ps[c]?).map fun p => p + (m : Int) := by
    rw [List.getElem?_append_right (by rw [nums_length]; omega), nums_length, Nat.add_sub_cancel_left, List.getElem?_map]
  have e2 : (nums m ++ ps.map fun p => p + (m : Int)).drop (m + c + 1) = (ps.drop (c + 1)).map fun p => p + (m : Int) := by
    rw [List.drop_append, nums_length, List.drop_of_length_le (by rw [nums_length]; omega), List.nil_append, List.map_drop]
    congr 1; omega
  rw [e1, e2]
  constructor
  · rintro ⟨h1, h2⟩
    constructor
    · cases e : ps[c]? with
      | none => rw [e] at h1; cases h1
      | some p =>
        rw [e] at h1
        have h1' : p + (m : Int) = ((m + c : Nat) : Int) := Option.some.inj h1
        congr 1; omega
    · intro z
      exact h2 (List.mem_map.mpr ⟨_, z, by omega⟩)
  · rintro ⟨h1, h2⟩
    constructor
    · rw [h1]
      show some ((c : Int) + (m : Int)) = _
      congr 1; omega
    · intro z
      obtain ⟨y, hy, e⟩ := List.mem_map.mp z
      exact h2 (by rw [show (c : Int) = y by omega]; exact hy)
theorem IsCut.more {m c : Nat} {ps : List Int} (h : IsCut ps c) (h0 : ∀ p ∈ ps, (0 : Int) ≤ p) : IsCut (moreM m ps) (m + c) := by
  refine ⟨fun j hj => ?_, fun s => h.2 (stays_more.mp s)⟩
  by_cases hm : j < m
  · constructor
    · unfold moreM
      rw [List.getElem?_append_left (by rw [nums_length]; exact hm), nums_get hm]
    · unfold moreM
      rw [List.drop_append]
      intro z
      rcases List.mem_append.mp z with z | z
      · have := mem_drop_nums z; omega
      · obtain ⟨y, hy, e⟩ := List.mem_map.mp (List.mem_of_mem_drop z)
        have := h0 y hy
        omega
  · have : j = m + (j - m) := by omega
    rw [this]
    exact stays_more.mpr (h.1 _ (by omega))
theorem cutM_more (m c : Nat) (ps : List Int) : cutM (m + c) (moreM m ps) = cutM c ps := by
  unfold cutM moreM
  rw [List.drop_append, nums_length, List.drop_of_length_le (by rw [nums_length]; omega), List.nil_append, ← List.map_drop, List.map_map, Nat.add_sub_cancel_left]
  congr 1
  funext p
  show p + (m : Int) - ((m + c : Nat) : Int) = p - (c : Int)
  omega
theorem count_stays {ps : List Int} {c : Nat} (h : ∀ j, j < c → Stays ps j) (hc : ps[c]? = some (c : Int)) : ps.count (c : Int) = 1 ↔ (c : Int) ∉ ps.drop (c + 1) := by
  have e : ps = ps.take c ++ ((c : Int) :: ps.drop (c + 1)) := by
    obtain ⟨h1, h2⟩ := List.getElem?_eq_some_iff.mp hc
    rw [← h2, List.getElem_cons_drop, List.take_append_drop]
  have e0 : (ps.take c).count (c : Int) = 0 := by
    rw [List.count_eq_zero]
    intro z
    obtain ⟨i, hi⟩ := List.mem_iff_getElem?.mp z
    rw [List.getElem?_take] at hi
    by_cases hl : i < c
    · rw [if_pos hl, (h i hl).1] at hi
      have := Option.some.inj hi
      omega
    · rw [if_neg hl] at hi; cases hi
  have : ps.count (c : Int) = (ps.drop (c + 1)).count (c : Int) + 1 := by
    conv => lhs; rw [e]
    rw [List.count_append, e0, List.count_cons_self]; omega
  rw [this]
  constructor
  · intro q
    exact List.count_eq_zero.mp (by omega)
  · intro q
    rw [List.count_eq_zero.mpr q]
theorem in_ints (c : Int) : ∀ ns : List Int, inV (.int c) (ns.map V.int) = decide (c ∈ ns)
  | [] => rfl
  | n :: r => by
    have ih : ((r.map V.int).any fun y => eqV y (.int c)) = decide (c ∈ r) := in_ints c r
    show ((n == c) || (r.map V.int).any fun y => eqV y (.int c)) = _
    rw [ih]
    by_cases h : n = c
    · subst h
      rw [beq_self_eq_true, Bool.true_or, decide_eq_true (List.mem_cons_self ..)]
    · rw [show (n == c) = false from beq_eq_false_iff_ne.mpr h, Bool.false_or]
      congr 1
      refine propext ⟨fun m => List.mem_cons_of_mem _ m, fun m => ?_⟩
      rcases List.mem_cons.mp m with z | z
      · exact absurd z.symm h
      · exact z
theorem flat_ints : ∀ ns : List Int, (ns.map V.int).all flatV = true
  | [] => rfl
  | n :: r => by
    show (true && (r.map V.int).all flatV) = true
    rw [flat_ints r]; rfl
/-- a map as data: a number and a tuple of numbers -/
def mapD (n : Int) (ps : List Int) : PyData := .tuple [.int n, .tuple (ps.map PyData.int)]
theorem mapD_lay (n : Int) (ps : List Int) : PyData.canLay0 (mapD n ps) = true := by
  show (PyData.canLay0 (PyData.int n) && (PyData.canLayAll0 (ps.map PyData.int) && true)) = true
  rw [lay_ints]; rfl
theorem mapD_shaped (n : Int) (ps : List Int) : SeqAt.shaped (mapD n ps) = true := by
  show (PyData.canLay0 (mapD n ps) && decide (PyData.depth (mapD n ps) ≤ 64)) = true
  rw [mapD_lay]
  have : PyData.depth (mapD n ps) = 2 := by
    show max 0 (max (PyData.depthAll (ps.map PyData.int) + 1) 0) + 1 = 2
    rw [deep_ints]; rfl
  rw [this]; rfl
/-- a map stands at p -/
def MapAt (K : Frag) (H : Hp) (p : Addr) (n : Int) (ps : List Int) : Prop := ∃ t, SqT K H p [.int n, .ref t] ∧ SqT K H t (ps.map V.int)
/-! ### rules -/
theorem Same.seqT {K : PySem.W.Frag} {H H' : Hp} {a : Addr} {xs : List V} (e : Same H H') (h : SqT K H a xs) : SqT K H' a xs := by
  rcases h with (h | ⟨o, h⟩) | h
  · exact .inl (.inl (e _ _ h))
  · exact .inl (.inr ⟨o, e _ _ h⟩)
  · exact .inr h
theorem MapAt.same {K : Frag} {H H' : Hp} {p : Addr} {n : Int} {ps : List Int} (h : MapAt K H p n ps) (s : Same H H') : MapAt K H' p n ps := by
  obtain ⟨t, h1, h2⟩ := h
  exact ⟨t, Same.seqT s h1, Same.seqT s h2⟩
theorem MapAt.dp {K : Frag} {H : Hp} {p : Addr} {n : Int} {ps : List Int} (h : MapAt K H p n ps) : Dp K H (.ref p) (mapD n ps) := by
  obtain ⟨t, h1, h2⟩ := h
  exact .tup h1 (.cons (.int _) (.cons (.tup h2 (dp_ints ps)) .nil))
section
variable {X : Cx}
def rCntT (K : PySem.W.Frag) : V → List V → Hp → VK → Prop := fun x xs H Q => ∃ (p : Addr) (ns : List Int) (k : Int), x = .ref p ∧ xs = [.int k] ∧ SqT K H p (ns.map V.int) ∧ Q (.int (ns.count k : Nat)) H
theorem mt_tcount : MtR X "tuple.count" (rCntT X.K) := by
  intro pins s σ H x xs v us Q I rx rxs h
  obtain ⟨p, ns, k, rfl, rfl, hs, q⟩ := h
  cases rx
  obtain ⟨u, rfl, ru⟩ := rxs.one
  obtain ⟨t, rfl⟩ := ru
  obtain ⟨its, rv, ⟨⟨cls, dd, data, sl⟩, ho, hc, n, hd⟩, hlen⟩ := I.tuple hs
  simp only at hc hd
  subst hc hd
  have hi := ints_of_vals rv
  refine call_meets PySem.F.slot_tuple_count ⟨_, ho, rfl⟩ PySem.F.entry_tuple_count (PySem.F.args_tuple_count_2 _ _)
    (SeqAt.tuple_countAt p its.toArray n dd sl (.int k t) (eqk k)) ⟨ho, fun y hy => (eqk_gives hi y (by simpa using hy)).at _ _, ?_⟩
  have ec : its.toArray.toList.countP (eqk k) = ns.count k := eqk_count hi
  refine ⟨.int (ns.count k : Nat), H, I.tok _, ⟨s.toks, ?_⟩, q⟩
  show Value.int ((its.toArray.toList.countP (eqk k) : Nat) : Int) s.toks = Value.int ((ns.count k : Nat) : Int) s.toks
  rw [ec]
end
/-! ### a tuple's method: the tuple is kept as the object that was made, which has no dict -/
/-- a tuple of xs stands at p, as an object without a dict -/
def TupO (H : Hp) (p : Addr) (xs : List V) : Prop := ∃ o : Obj, o.dict = none ∧ H p = some (.frz o (.tup xs))
theorem TupO.sq {K : Frag} {H : Hp} {p : Addr} {xs : List V} (h : TupO H p xs) : SqT K H p xs := by
  obtain ⟨o, _, h⟩ := h
  exact .inl (.inr ⟨o, h⟩)
theorem TupO.same {H H' : Hp} {p : Addr} {xs : List V} (h : TupO H p xs) (s : Same H H') : TupO H' p xs := by
  obtain ⟨o, d, h⟩ := h
  exact ⟨o, d, s _ _ h⟩
theorem TupO.kp {H H' : Hp} {d p : Addr} {xs ys : List V} (h : TupO H p xs) (hd : H d = some (.lst ys)) (s : Kp [d] H H') : TupO H' p xs := by
  obtain ⟨o, e, h⟩ := h
  exact ⟨o, e, s p _ (fun z => by rw [List.mem_singleton.mp z, hd] at h; cases h) h⟩
section
open PySem.Spec PyProof.Rows
variable {X : Cx}
theorem call_tuple_ofD : CallR X (.type "tuple") (fun xs H Q => ∃ p ys, xs = [.ref p] ∧ SqL X.K H p ys ∧ ∀ (l : Addr) (o : Obj), H l = none → o.dict = none → Q (.ref l) (upd H l (.frz o (.tup ys)))) := by
  intro pins s σ H xs us Q I r h
  obtain ⟨p, ys, rfl, hq, q⟩ := h
  obtain ⟨u, rfl, rx⟩ := r.one
  cases rx
  obtain ⟨its, r', pl, hz⟩ := I.list hq
  have hlen := r'.length
  refine call_tuple_list pl.isList (fun h' kp => ?_) (by simp only [List.size_toArray] <;> omega)
  have I1 : Inv X pins σ H { s with heap := h' } := I.kept (t' := s.toks) kp
  have I2 : Inv X pins σ (upd H h'.objs.size (.frz { cls := .type "tuple", data := .seq its.toArray } (.tup ys))) { s with heap := h'.push { cls := .type "tuple", data := .seq its.toArray } } :=
    I1.laid (t' := s.toks) (fun b o e => Heap.get?_push_of_some _ e) (Nat.le_refl _) (show ObjOk X.prog X.w _ _ _ (.frz { cls := .type "tuple", data := .seq its.toArray } (.tup ys)) from ⟨Heap.get?_push_size _ rfl, hz, its, r', IsTup.new _ _⟩)
  exact ⟨.ref h'.objs.size, _, I2, rfl, q _ _ (I1.hok.fresh (Nat.le_refl _)) rfl⟩
def tBMT (r : V → List V → Hp → VK → Prop) (to : TE) (t : TA) : TE := fun σ H Q => to σ H fun x H1 => (∃ p ys, x = .ref p ∧ TupO H1 p ys) ∧ t σ H1 fun xs H2 => r x xs H2 Q
variable {o e : Expr} {es : List Expr} {to : TE} {t : TA} {name : Str} {apos cpos : Pos} {id : String} {r : V → List V → Hp → VK → Prop}
theorem pe_bmT (slot : Slot "tuple" name id) (hty : typeOf (.builtin id) = pure (.type "method_descriptor")) (hm : MtR X id r) (ho : PE X o to) (ha : PA X (e :: es) t)
    (hbase : attributeBase o name X.env (eval o X.env) = eval o X.env := by rfl)
    (hfew : ((backTo cpos (starEach (e :: es) X.env)).all (fun x => !x.1) && (backToKw cpos (keywordEach [] X.env)).all (fun x => x.1.isSome)
      && decide ((e :: es).length + ([] : List Keyword).length + (if ([] : List Keyword).isEmpty then 0 else 1) < 30)) = true := by rfl)
    (hline : (apos.endLine == cpos.line) = true := by rfl) (hs : starEach (e :: es) X.env = (false, eval e X.env) :: starEach es X.env := by rfl) (hplain : (backTo cpos (starEach es X.env)).any (·.1) = false := by rfl) :
    PE X (.Call (.Attribute o name apos) (e :: es) [] cpos) (tBMT r to t) := by
  refine ⟨fun pins s σ H Q I h => ?_⟩
  refine wpAny_Call_method_late hbase hfew hline rfl (thn (ho.run pins s σ H _ I h) fun v s1 ⟨x, H1, I1, r1, ty, q1⟩ => ?_)
  obtain ⟨p, ys, ex, ob, hd, hp⟩ := ty
  subst ex
  obtain rfl : v = Value.ref p := r1
  obtain ⟨hg, ho2⟩ := I1.hok p _ hp
  obtain ⟨_, its, rv, ob', hg', hc, _⟩ := ho2
  have e1 : ob = ob' := Option.some.inj (hg.symm.trans hg')
  subst e1
  refine ⟨"tuple", id, PySem.F.plainAttrs_tuple, slot, hty, ⟨ob, hg, hc⟩, fun a e => ?_, ?_⟩
  · cases e
    exact ⟨ob, hg, hd⟩
  have hA := ha.run cpos pins s1 σ H1 _ I1 q1
  rw [hs] at hA ⊢
  refine Calls.callWith_builtin (by show (false || (backTo cpos (starEach es X.env)).any (·.1)) = false; rw [hplain] <;> rfl) (Calls.evalArgs_plain ?_)
  exact thn hA fun us s2 ⟨vs, H2, I2, r2, q2⟩ => hm pins s2 σ H2 (.ref p) vs (.ref p) us Q I2 rfl r2 q2
end
/-- a comprehension over a tuple, each element a plain value, none left out -/
theorem lc_mapT {K : Frag} {a : Addr} {xs : List V} (f : V → V) {g : TG} {te : TE} {vs : List Nat} {σ : St} {H1 : Hp} {D : Addr} {Qd : Hp → Prop} (ha : SqT K H1 a xs) (hD : H1 D = none) (hl : xs.length ≤ 1000000)
    (hs : ∀ x H (R : V → Hp → Prop), x ∈ xs → Same H1 H → R (f x) H → g x (wipe σ vs) H fun σ2 H2 => wipe σ2 vs = wipe σ vs ∧ te σ2 H2 R) (hd : Qd (upd H1 D (.lst (xs.map f)))) :
    ∃ W : Nat → Nat → Hp → Prop, (∃ m, W 0 m (upd H1 D (.lst []))) ∧ ∀ i m H, W i m H →
      ((Itt K a).stop i H ∧ Qd H) ∨ ((Itt K a).go i H ∧ ∃ Nx : Hp → Prop, (∀ H', Nx H' → ∃ m', m' < m ∧ W (i + 1) m' H') ∧ ∀ x H', (Itt K a).yld i H x H' → g x (wipe σ vs) H' fun σ2 H2 => wipe σ2 vs = wipe σ vs ∧ tYes σ2 H2 fun b H3 =>
        if b = true then te σ2 H3 fun y H4 => ∃ acc, H4 D = some (.lst acc) ∧ acc.length < sizeLine ∧ Nx (upd H4 D (.lst (acc ++ [y]))) else Nx H3) := by
  refine lc_tup (K := K) (a := a) (xs := xs) (fun i H => H = upd H1 D (.lst ((xs.take i).map f))) rfl (fun i H _ e => ?_) ?_ ?_
  · rw [e]; exact Same.seqT (same_new hD _) ha
  · rintro i x H hx rfl
    refine hs x _ (fun y H4 => ∃ acc, H4 D = some (.lst acc) ∧ acc.length < sizeLine ∧ upd H4 D (.lst (acc ++ [y])) = upd H1 D (.lst ((xs.take (i + 1)).map f))) (List.mem_of_getElem? hx) (same_new hD _) ⟨_, upd_same, ?_, ?_⟩
    · rw [List.length_map, List.length_take]; rw [sizeLine_eq]; omega
    · rw [upd_upd, List.take_add_one, hx, List.map_append]; rfl
  · rintro H rfl
    rw [List.take_length]
    exact hd
/-- and over a list -/
theorem lc_mapL {K : Frag} {a : Addr} {xs : List V} (f : V → V) {g : TG} {te : TE} {vs : List Nat} {σ : St} {H1 : Hp} {D : Addr} {Qd : Hp → Prop} (ha : SqL K H1 a xs) (hD : H1 D = none) (hl : xs.length ≤ 1000000)
    (hs : ∀ x H (R : V → Hp → Prop), x ∈ xs → Same H1 H → R (f x) H → g x (wipe σ vs) H fun σ2 H2 => wipe σ2 vs = wipe σ vs ∧ te σ2 H2 R) (hd : Qd (upd H1 D (.lst (xs.map f)))) :
    ∃ W : Nat → Nat → Hp → Prop, (∃ m, W 0 m (upd H1 D (.lst []))) ∧ ∀ i m H, W i m H →
      ((Itl K a).stop i H ∧ Qd H) ∨ ((Itl K a).go i H ∧ ∃ Nx : Hp → Prop, (∀ H', Nx H' → ∃ m', m' < m ∧ W (i + 1) m' H') ∧ ∀ x H', (Itl K a).yld i H x H' → g x (wipe σ vs) H' fun σ2 H2 => wipe σ2 vs = wipe σ vs ∧ tYes σ2 H2 fun b H3 =>
        if b = true then te σ2 H3 fun y H4 => ∃ acc, H4 D = some (.lst acc) ∧ acc.length < sizeLine ∧ Nx (upd H4 D (.lst (acc ++ [y]))) else Nx H3) := by
  refine lc_list (K := K) (a := a) (xs := xs) (fun i H => H = upd H1 D (.lst ((xs.take i).map f))) rfl (fun i H _ e => ?_) ?_ ?_
  · rw [e]; exact Same.seq (same_new hD _) ha
  · rintro i x H hx rfl
    refine hs x _ (fun y H4 => ∃ acc, H4 D = some (.lst acc) ∧ acc.length < sizeLine ∧ upd H4 D (.lst (acc ++ [y])) = upd H1 D (.lst ((xs.take (i + 1)).map f))) (List.mem_of_getElem? hx) (same_new hD _) ⟨_, upd_same, ?_, ?_⟩
    · rw [List.length_map, List.length_take]; rw [sizeLine_eq]; omega
    · rw [upd_upd, List.take_add_one, hx, List.map_append]; rfl
  · rintro H rfl
    rw [List.take_length]
    exact hd
theorem cut_from {α : Type} (f : α → V) (xs : List α) (i : Nat) : cutV (xs.map f) (some (i : Int)) none = (xs.drop i).map f := by
  unfold cutV
  rw [HT.sIx_nat, HT.sIx_none, List.length_map, ← List.map_drop, ← List.map_take]
  congr 1
  by_cases h : i ≤ xs.length
  · rw [Nat.min_eq_left h, List.take_of_length_le (by rw [List.length_drop]; omega)]
  · rw [Nat.min_eq_right (by omega), List.drop_of_length_le (Nat.le_refl _), List.drop_of_length_le (by omega), List.take_nil]
theorem cut_upto {α : Type} (f : α → V) (xs : List α) (i : Nat) : cutV (xs.map f) none (some (i : Int)) = (xs.take i).map f := by
  unfold cutV
  rw [HT.sIx_nat, HT.sIx_none, List.length_map, ← List.map_drop, ← List.map_take, List.drop_zero, Nat.sub_zero]
  congr 1
  by_cases h : i ≤ xs.length
  · rw [Nat.min_eq_left h]
  · rw [Nat.min_eq_right (by omega), List.take_of_length_le (Nat.le_refl _), List.take_of_length_le (by omega)]
/-- a tuple's slice t[i:], as what it holds -/
theorem slT_from {K : Frag} {H : Hp} {a : Addr} {α : Type} {f : α → V} {xs : List α} {i : Nat} {Q : VK} (ha : SqT K H a (xs.map f)) (q : ∀ p H', Same H H' → SqT K H' p ((xs.drop i).map f) → Q (.ref p) H') : rSlA K (.ref a) (some (i : Int)) none H Q := by
  refine ⟨a, _, rfl, ha, fun c => ?_, fun _ p np => ?_⟩
  · have c1 := c.1
    rw [HT.sIx_nat, List.length_map] at c1
    have : xs.drop i = xs := by
      rcases Nat.eq_zero_or_pos i with h | h
      · rw [h, List.drop_zero]
      · have : xs.length = 0 := by omega
        rw [List.length_eq_zero_iff.mp this, List.drop_nil]
    refine q a H (Same.refl H) ?_
    rw [this]; exact ha
  · rw [cut_from]
    exact q p _ (same_new np _) (SqT.of upd_same)
theorem slT_fromP {K : Frag} {H : Hp} {a : Addr} {α : Type} {f : α → V} {xs : List α} {i : Nat} {Q : VK} {σ : St} (ha : SqT K H a (xs.map f)) (q : ∀ p H', Same H H' → SqT K H' p ((xs.drop i).map f) → Q (.ref p) H') : tNoPart σ H fun u H3 => rSlA K (.ref a) (some (i : Int)) u H3 Q := slT_from ha q
theorem slT_upto {K : Frag} {H : Hp} {a : Addr} {α : Type} {f : α → V} {xs : List α} {i : Nat} {Q : VK} (ha : SqT K H a (xs.map f)) (q : ∀ p H', Same H H' → SqT K H' p ((xs.take i).map f) → Q (.ref p) H') : rSlA K (.ref a) none (some (i : Int)) H Q := by
  refine ⟨a, _, rfl, ha, fun c => ?_, fun _ p np => ?_⟩
  · have c1 := c.2
    rw [HT.sIx_nat, List.length_map] at c1
    refine q a H (Same.refl H) ?_
    rw [List.take_of_length_le (by omega)]; exact ha
  · rw [cut_upto]
    exact q p _ (same_new np _) (SqT.of upd_same)
/-- two tuples' sum, by what they hold -/
theorem catT_map {K : Frag} {H : Hp} {a b : Addr} {xs ys : List V} {Q : VK} (ha : SqT K H a xs) (hb : SqT K H b ys) (hl : xs.length + ys.length ≤ 1000000)
    (q : ∀ p H', Same H H' → SqT K H' p (xs ++ ys) → Q (.ref p) H') : rCatA K (.ref a) (.ref b) H Q := by
  refine ⟨a, b, xs, ys, rfl, rfl, ha, hb, by rw [sizeLine_eq]; omega, fun e => ?_, fun _ e => ?_, fun _ _ p np => ?_⟩
  · subst e; exact q b H (Same.refl H) hb
  · subst e; exact q a H (Same.refl H) (by rw [List.append_nil]; exact ha)
  · exact q p _ (same_new np _) (SqT.of upd_same)
end Cm
/-! xs == [] of any list, and t[::-1] of a tuple -/
namespace PySem.SeqAt
open AutoSeq1 (wpAny_loadPart')
open MeetsSeq MeetsSeq2 MeetsSeq3 SeqRoads2
section
variable {prog : Program} {w : World}
theorem cm_list_neIn (l b : Addr) (items items2 : Array Value) (n n2 : Nat) (dd dd2 : Option Addr) (sl sl2 : Array (Option Value)) (hsz : items.size ≠ items2.size) :
    MeetsIn prog w (Builtin.«list.__eq__» ⟨[.ref l, .ref b], []⟩)
      (fun A R s => s.heap.get? l = some { cls := .type "list", dict := dd, data := .seq items n, slots := sl } ∧ s.heap.get? b = some { cls := .type "list", dict := dd2, data := .seq items2 n2, slots := sl2 } ∧
        R (.ok (.ret (.bool false))) s) := by
  intro A R s h
  obtain ⟨hp, g, d, tk, os⟩ := s; obtain ⟨hl, hb, h⟩ := h
  have f3 := AutoSeq1.sub_list_list
  have hne : (items.size != items2.size) = true := by simp [hsz]
  wp_walk using wpAny_loadPart' hl, wpAny_loadPart' hb
  exact h
theorem cm_rcP_ne {A : Around} {s : Shared} {l b : Addr} {items items2 : Array Value} (hl : s.heap.IsList l items) (hb : s.heap.IsList b items2) (hsz : items.size ≠ items2.size) (hu : A.units < cLine)
    (E Q : Value → Shared → Prop) (h : Q (.bool false) s) : wpAny (model prog w) A (richCompare .Eq (.ref l) (.ref b)) Q E s := by
  obtain ⟨⟨cls, dd, data, sl⟩, ho, hc, n, hd⟩ := id hl
  obtain ⟨⟨cls2, dd2, data2, sl2⟩, ho2, hc2, n2, hd2⟩ := id hb
  simp only at hc hd hc2 hd2
  subst hc hd hc2 hd2
  have ta : s.TypeIs (.ref l) "list" := ⟨_, ho, rfl⟩
  have tb : s.TypeIs (.ref b) "list" := ⟨_, ho2, rfl⟩
  exact wpAny_richCompare_same_room (op := .Eq) ta tb F.slot_list_eq (call_meetsIn F.slot_list_eq ta F.entry_list_eq (F.args_list_eq_2 _ _) (cm_list_neIn l b items items2 n n2 dd dd2 sl sl2 hsz)
    ⟨ho, ho2, show Value.bool false ≠ Value.notImplemented ∧ Q (.bool false) s from ⟨(fun x => nomatch x), h⟩⟩) hu
end
end PySem.SeqAt
namespace Cm
open PySem PySem.Spec PyProof.Rows PySem.W L2 SX
section
variable {X : Cx}
/-- xs == [] -/
def rEqNil (K : Frag) : R2 := fun x y H Q => ∃ a b xs, x = .ref a ∧ y = .ref b ∧ SqL K H a xs ∧ SqL K H b [] ∧ Q (.bl xs.isEmpty) H
theorem op_eqNil (hu : X.A.units + 64 < cLine) : OpR X (compareOp .Eq) (rEqNil X.K) := by
  intro pins s σ H x y v u Q I rx ry h
  obtain ⟨a, b, xs, rfl, rfl, ha, hb, q⟩ := h
  cases rx
  cases ry
  obtain ⟨us, r1, p1, _⟩ := I.list ha
  obtain ⟨ws, r2, p2, _⟩ := I.list hb
  cases r2
  cases r1 with
  | nil =>
    refine SeqAt.rcP_lists (e := fun _ => true) p1.isList p2.isList rfl (by omega) (fun j h1 h2 => ?_) _ _ ⟨.bl true, H, I, rfl, q⟩
    exact absurd h1 (Nat.not_lt_zero j)
  | cons h t =>
    refine SeqAt.cm_rcP_ne p1.isList p2.isList (by simp) (by omega) _ _ ⟨.bl false, H, I, rfl, q⟩
end
end Cm
namespace HT
open PySem PyProof.Rows
section
variable {prog : Program} {w : World} {A : Around} {E : Value → Shared → Prop} {s : Shared}
theorem cm_adjust (n : Nat) : Builtin.Slice.sliceAdjust none none (-1) (n : Int) = ((n : Int) - 1, -1) := rfl
theorem cm_places (n : Nat) : Builtin.Slice.slicePlaces ((n : Int) - 1) (-1) (-1) = n := by
  unfold Builtin.Slice.slicePlaces
  rw [if_neg (show ¬ ((-1 : Int) > 0) by omega)]
  cases n with
  | zero => rfl
  | succ n =>
    rw [if_pos (show ((n + 1 : Nat) : Int) - 1 > -1 by omega)]
    show ((((n + 1 : Nat) : Int) - 1 - -1 - 1) / 1 + 1).toNat = n + 1
    rw [Int.ediv_one]; omega
theorem cm_applied {sl : Addr} {vl vu vs : Value} {n : Nat} {Q : Int × Int × Nat → Shared → Prop} (hs : s.heap.IsSliceOf sl vl vu vs) (pl : IsPart vl none) (pu : IsPart vu none) (ps : IsPart vs (some (-1)))
    (h : Q ((n : Int) - 1, -1, n) s) : wpAny (model prog w) A (Builtin.Slice.sliceApplied (.ref sl) (pure (n : Int))) Q E s := by
  obtain ⟨os, hos, hcs, hds⟩ := id hs
  unfold Builtin.Slice.sliceApplied Builtin.Slice.sliceFields
  refine wpAny_bind (wpAny_bind (wpAny_field hos hds (x := vl) rfl (wpAny_bind (wpAny_field hos hds (x := vu) rfl (wpAny_bind (wpAny_field hos hds (x := vs) rfl (wpAny_pure ?_)))))))
  refine wpAny_bind (slicePart_ ps ?_)
  show wpAny _ _ (if ((-1 : Int) == 0) = true then _ else _) _ _ s
  rw [if_neg (by decide)]
  refine wpAny_bind (slicePart_ pl (wpAny_bind (slicePart_ pu (wpAny_bind (wpAny_pure ?_)))))
  show wpAny _ _ (match Builtin.Slice.sliceAdjust none none (-1) (n : Int) with | (lo, hi) => pure (lo, (-1 : Int), Builtin.Slice.slicePlaces lo hi (-1))) _ _ s
  rw [cm_adjust n]
  show wpAny _ _ (pure ((n : Int) - 1, (-1 : Int), Builtin.Slice.slicePlaces ((n : Int) - 1) (-1) (-1))) _ _ s
  rw [cm_places]
  exact wpAny_pure h
theorem cm_pick (xs : List Value) : ((List.range xs.length).filterMap fun (m : Nat) => xs.toArray[((xs.length : Int) - 1 + (m : Int) * -1).toNat]?).toArray = xs.reverse.toArray := by
  congr 1
  have e : ∀ m ∈ List.range xs.length, xs.toArray[((xs.length : Int) - 1 + (m : Int) * -1).toNat]? = xs.reverse[m]? := by
    intro m hm
    have hm := List.mem_range.mp hm
    rw [List.getElem?_reverse hm, show ((xs.length : Int) - 1 + (m : Int) * -1).toNat = xs.length - 1 - m by omega]
    simp
  have e2 : ∀ (l : List Nat), (∀ m ∈ l, m ∈ List.range xs.length) → (l.filterMap fun (m : Nat) => xs.toArray[((xs.length : Int) - 1 + (m : Int) * -1).toNat]?) = l.filterMap fun m => xs.reverse[m]? := by
    intro l
    induction l with
    | nil => intro _; rfl
    | cons a r ih =>
      intro h
      rw [List.filterMap_cons, List.filterMap_cons, e a (h a (List.mem_cons_self ..)), ih (fun m hm => h m (List.mem_cons_of_mem _ hm))]
  rw [e2 _ (fun _ h => h), ← List.length_reverse (as := xs)]
  generalize xs.reverse = ys
  induction ys with
  | nil => rfl
  | cons y r ih =>
    rw [List.length_cons, List.range_succ_eq_map, List.filterMap_cons]
    show y :: List.filterMap _ _ = _
    rw [List.filterMap_map]
    exact congrArg (y :: ·) ih
theorem cm_tuple_rev {t sl : Addr} {items : List Value} {vl vu vs : Value} {Q : Value → Shared → Prop} (ht : IsTup s.heap t items.toArray) (hs : s.heap.IsSliceOf sl vl vu vs) (pl : IsPart vl none) (pu : IsPart vu none) (ps : IsPart vs (some (-1)))
    (h : Q (.ref s.heap.objs.size) { s with heap := s.heap.push { cls := .type "tuple", data := .seq items.reverse.toArray } })
    (hsz : items.length ≤ sizeLine) : wpAny (model prog w) A (getItem (.ref t) (.ref sl)) Q E s := by
  have htake : sizeOk (.seq items.reverse.toArray) := by
    show items.reverse.toArray.size ≤ sizeLine
    rw [List.size_toArray, List.length_reverse]; exact hsz
  obtain ⟨os, hos, hcs, hds⟩ := id hs
  have hTs : s.TypeIs (.ref sl) "slice" := ⟨os, hos, hcs⟩
  unfold getItem
  try with_reducible refine wpAny_holding ?_
  first | refine wpAny_bind (wpAny_pure ?_) | skip
  refine wpAny_bind (wpAny_sequenceKey ht.typeIs (by decide) ?_)
  refine wpAny_bind (wpAny_callSpecial?_slot (name := Str.ofString "__getitem__") ht.typeIs PyProof.Rows.slot_tuple_getitem
    (wpAny_call_entry PyProof.Rows.slot_tuple_getitem ht.typeIs entry_tuple_getitem ?_ (args_tuple_getitem _ _)))
  show wpAny _ _ (Builtin.Tuple.tupleItemsOf (.ref t) >>= _) _ _ s
  refine wpAny_bind (tupleItemsOf_ ht ?_)
  refine wpAny_bind (wpAny_typeOf hTs ?_)
  rw [if_pos (by decide)]
  refine wpAny_bind (cm_applied (n := items.length) hs pl pu ps ?_)
  have hno : ¬ ((((items.length : Int) - 1) == 0 && (-1 : Int) == 1 && items.length == items.toArray.size) = true) := by
    intro q
    rw [Bool.and_eq_true, Bool.and_eq_true] at q
    exact absurd q.1.2 (by decide)
  show wpAny _ _ (if (((items.length : Int) - 1) == 0 && (-1 : Int) == 1 && items.length == items.toArray.size) = true then _ else _) _ _ s
  rw [if_neg hno, cm_pick]
  first
    | exact wpAny_bind (m := Builtin.Tuple.tupleExact _) (wpAny_newObj_type (wpAny_pure ⟨_, rfl, wpAny_pure h⟩) htake)
    | exact wpAny_bind (m := Builtin.Tuple.tupleExact _) (wpAny_newObj_type (wpAny_bind (wpAny_pure (wpAny_pure ⟨_, rfl, wpAny_pure h⟩))) htake)
    | exact wpAny_bind (wpAny_bind (m := Builtin.Tuple.tupleExact _) (wpAny_newObj_type (wpAny_pure (wpAny_pure ⟨_, rfl, wpAny_pure h⟩)) htake))
    | exact wpAny_bind (wpAny_bind (m := Builtin.Tuple.tupleExact _) (wpAny_newObj_type (wpAny_pure ⟨_, rfl, wpAny_pure h⟩) htake))
end
end HT
namespace Cm
open PySem PySem.Spec PyProof.Rows PySem.W L2 SX
section
variable {X : Cx}
/-- t[::-1] -/
def tRevT (K : Frag) (te : TE) : TE := fun σ H Q => te σ H fun x H1 => ∃ a xs, x = .ref a ∧ SqT K H1 a xs ∧ ∀ p, H1 p = none → Q (.ref p) (upd H1 p (.tup xs.reverse))
theorem pe_revT {e : Expr} {te : TE} {k : Nat} {p1 p2 p3 pos : Pos} (he : PE X e te) : PE X (.Subscript e (.Slice none none (some (.UnaryOp .USub (.Constant (.int 1) k p1) p2)) p3) pos) (tRevT X.K te) := by
  refine ⟨fun pins s σ H Q I h => ?_⟩
  refine Subscript_ (thn (he.run pins s σ H _ I h) fun v s1 ⟨x, H1, I1, r1, q1⟩ => ?_)
  obtain ⟨a, xs, ex, hx, q⟩ := q1
  subst ex
  cases r1
  have hst : PO X (some (.UnaryOp .USub (.Constant (.int 1) k p1) p2)) (tPart (tUn (rU fun i => .int (-i)) (tC (.int 1)))) := po_some (pe_un un_neg pe_int)
  refine wpAny_Slice (thn (po_none.run pins s1 σ H1 (fun o H2 => o = none ∧ H2 = H1) I1 ⟨rfl, rfl⟩) fun vl s2 ⟨l, H2, I2, pl, el, e2⟩ => ?_)
  subst el e2
  refine thn (po_none.run pins s2 σ H2 (fun o H3 => o = none ∧ H3 = H2) I2 ⟨rfl, rfl⟩) fun vu s3 ⟨u, H3, I3, pu, eu, e3⟩ => ?_
  subst eu e3
  refine thn (hst.run pins s3 σ H3 (fun o H4 => o = some (-1) ∧ H4 = H3) I3 ⟨1, rfl, -1, rfl, rfl, rfl⟩) fun vs s4 ⟨o, H4, I4, ps, eo, e4⟩ => ?_
  subst eo e4
  have I5 : Inv X pins σ H4 { s4 with heap := s4.heap.push { cls := .type "slice", data := .fields #[vl, vu, vs] } } := I4.kept (t' := s4.toks) fun b ob q => Heap.get?_push_of_some _ q
  obtain ⟨its, r, ht, hz⟩ := I5.tuple hx
  have hlen := r.length
  show wpAny (model X.prog X.w) X.A (subscriptTail e (.Slice none none (some (.UnaryOp .USub (.Constant (.int 1) k p1) p2)) p3) (.ref a) (.ref s4.heap.objs.size)) (EP X pins σ Q) X.xe { s4 with heap := s4.heap.push { cls := .type "slice", data := .fields #[vl, vu, vs] } }
  refine tail_any (ops := [.ref a, .ref s4.heap.objs.size]) ht.typeIs (PyProof.Rows.slot_tuple_getitem.lookup) ?_ (by with_unfolding_all rfl)
  refine HT.cm_tuple_rev ht (Heap.IsSliceOf.new _ vl vu vs) pl pu ps ?_ (by omega)
  refine ⟨.ref _, _, I5.laid (t' := s4.toks) (o := .tup xs.reverse) (fun b ob q => Heap.get?_push_of_some _ q) (Nat.le_refl _) ?_, rfl, q _ (I5.hok.fresh (Nat.le_refl _))⟩
  exact ⟨by rw [List.length_reverse]; exact hz, _, r.reverse, IsTup.new _ _⟩
end
end Cm
namespace Cm
open PySem PySem.W L2 SX
/-! ### any value: None, truths, numbers, texts, tuples of such; lists and dicts are not looked into -/
mutual
inductive Bt (K : Frag) (L : List Addr) (H : Hp) : V → PyData → Prop
  | non : Bt K L H .non .none
  | bl (b : Bool) : Bt K L H (.bl b) (.bool b)
  | int (i : Int) : Bt K L H (.int i) (.int i)
  | str {x : Str} (h : Tx x 100) : Bt K L H (.str x) (.str x)
  | lst {a : Addr} {xs : List V} : a ∉ L → H a = some (.lst xs) → Bt K L H (.ref a) (.list [])
  | dct {a : Addr} {kvs : List (Key × V)} : a ∉ L → H a = some (.dK kvs) → Bt K L H (.ref a) (.dict [])
  | tup {a : Addr} {xs : List V} {ds : List PyData} : SqT K H a xs → BtAll K L H xs ds → Bt K L H (.ref a) (.tuple ds)
inductive BtAll (K : Frag) (L : List Addr) (H : Hp) : List V → List PyData → Prop
  | nil : BtAll K L H [] []
  | cons {v : V} {vs : List V} {d : PyData} {ds : List PyData} : Bt K L H v d → BtAll K L H vs ds → BtAll K L H (v :: vs) (d :: ds)
end
/-- what such a value needs to stay -/
structure BKs (K : Frag) (L : List Addr) (H H' : Hp) : Prop where
  tk : TKs K H H'
  kp : Kp L H H'
theorem BKs.of {K : Frag} {L : List Addr} {H H' : Hp} (s : Same H H') : BKs K L H H' := ⟨TKs.of s, fun a o _ e => s a o e⟩
theorem BKs.trans {K : Frag} {L : List Addr} {H H1 H2 : Hp} (a : BKs K L H H1) (b : BKs K L H1 H2) : BKs K L H H2 := ⟨a.tk.trans b.tk, a.kp.trans b.kp⟩
mutual
theorem Bt.mono {K : Frag} {L : List Addr} {H H' : Hp} (k : BKs K L H H') : ∀ {v : V} {d : PyData}, Bt K L H v d → Bt K L H' v d
  | _, _, .non => .non
  | _, _, .bl b => .bl b
  | _, _, .int i => .int i
  | _, _, .str h => .str h
  | _, _, .lst n h => .lst n (k.kp _ _ n h)
  | _, _, .dct n h => .dct n (k.kp _ _ n h)
  | _, _, .tup h t => .tup (k.tk _ _ h) (BtAll.mono k t)
theorem BtAll.mono {K : Frag} {L : List Addr} {H H' : Hp} (k : BKs K L H H') : ∀ {v : List V} {d : List PyData}, BtAll K L H v d → BtAll K L H' v d
  | _, _, .nil => .nil
  | _, _, .cons h t => .cons (Bt.mono k h) (BtAll.mono k t)
end
theorem BtAll.len {K : Frag} {L : List Addr} {H : Hp} : ∀ {v : List V} {d : List PyData}, BtAll K L H v d → v.length = d.length
  | _, _, .nil => rfl
  | _, _, .cons _ t => congrArg (· + 1) (BtAll.len t)
theorem BtAll.append {K : Frag} {L : List Addr} {H : Hp} : ∀ {v v' : List V} {d d' : List PyData}, BtAll K L H v d → BtAll K L H v' d' → BtAll K L H (v ++ v') (d ++ d')
  | _, _, _, _, .nil, h => h
  | _, _, _, _, .cons h t, h' => .cons h (BtAll.append t h')
theorem BtAll.get {K : Frag} {L : List Addr} {H : Hp} : ∀ {v : List V} {d : List PyData} {i : Nat} {x : V}, BtAll K L H v d → v[i]? = some x → ∃ y, d[i]? = some y ∧ Bt K L H x y
  | _, _, i, x, .nil, h => by simp at h
  | _, _, 0, x, .cons h t, e => ⟨_, rfl, by cases e; exact h⟩
  | _, _, i + 1, x, .cons h t, e => by
    rw [List.getElem?_cons_succ] at e ⊢
    exact BtAll.get t e
theorem Bt.tupD {K : Frag} {L : List Addr} {H : Hp} {v : V} {ds : List PyData} (h : Bt K L H v (.tuple ds)) : ∃ a xs, v = .ref a ∧ SqT K H a xs ∧ BtAll K L H xs ds := by
  cases h with
  | tup h t => exact ⟨_, _, rfl, h, t⟩
def kTupB : PyData → Bool
  | .tuple _ => true
  | _ => false
def kStrB : PyData → Bool
  | .str _ => true
  | _ => false
def kIntB : PyData → Bool
  | .int _ => true
  | .bool _ => true
  | _ => false
def kBoolB : PyData → Bool
  | .bool _ => true
  | _ => false
theorem kTupB_of {d : PyData} (h : kTupB d = true) : ∃ ds, d = .tuple ds := by
  cases d with
  | tuple ds => exact ⟨ds, rfl⟩
  | _ => cases h
theorem kStrB_of {d : PyData} (h : kStrB d = true) : ∃ z, d = .str z := by
  cases d with
  | str z => exact ⟨z, rfl⟩
  | _ => cases h
/-- isinstance of such a value -/
theorem Bt.ty {K : Frag} {L : List Addr} {H : Hp} {v : V} {d : PyData} (h : Bt K L H v d) : ∃ t, TyX K H v t ∧ kitOne K t (.type "tuple") = some (kTupB d) ∧ kitOne K t (.type "str") = some (kStrB d) ∧ kitOne K t (.type "int") = some (kIntB d) ∧ kitOne K t (.type "bool") = some (kBoolB d) := by
  cases h with
  | non => exact ⟨_, .base .non, kit_ty (r := false) (by decide +kernel), kit_ty (r := false) (by decide +kernel), kit_ty (r := false) (by decide +kernel), kit_ty (r := false) (by decide +kernel)⟩
  | bl b => exact ⟨_, .base (.bl _), kit_ty (r := false) (by decide +kernel), kit_ty (r := false) (by decide +kernel), kit_ty (r := true) (by decide +kernel), kit_ty (r := true) (by decide +kernel)⟩
  | int i => exact ⟨_, .base (.int _), kit_ty (r := false) (by decide +kernel), kit_ty (r := false) (by decide +kernel), kit_ty (r := true) (by decide +kernel), kit_ty (r := false) (by decide +kernel)⟩
  | str h => exact ⟨_, .base (.str _), kit_ty (r := false) (by decide +kernel), kit_ty (r := true) (by decide +kernel), kit_ty (r := false) (by decide +kernel), kit_ty (r := false) (by decide +kernel)⟩
  | lst n h => exact ⟨_, .base (.lst h), kit_ty (r := false) (by decide +kernel), kit_ty (r := false) (by decide +kernel), kit_ty (r := false) (by decide +kernel), kit_ty (r := false) (by decide +kernel)⟩
  | dct n h => exact ⟨_, .base (.dK h), kit_ty (r := false) (by decide +kernel), kit_ty (r := false) (by decide +kernel), kit_ty (r := false) (by decide +kernel), kit_ty (r := false) (by decide +kernel)⟩
  | tup h t => exact ⟨_, tyTup h, kit_ty (r := true) (by decide +kernel), kit_ty (r := false) (by decide +kernel), kit_ty (r := false) (by decide +kernel), kit_ty (r := false) (by decide +kernel)⟩
/-! ### size and depth -/
mutual
def sz : PyData → Nat
  | .tuple ds => 1 + szs ds
  | _ => 1
def szs : List PyData → Nat
  | [] => 0
  | d :: r => sz d + szs r
end
mutual
def dep : PyData → Nat
  | .tuple ds => 1 + deps ds
  | _ => 0
def deps : List PyData → Nat
  | [] => 0
  | d :: r => max (dep d) (deps r)
end
theorem sz_pos (d : PyData) : 1 ≤ sz d := by
  cases d <;> first | (unfold sz; omega) | exact Nat.le_refl 1
theorem szs_mem {d : PyData} : ∀ {ds : List PyData}, d ∈ ds → sz d ≤ szs ds
  | a :: r, h => by
    unfold szs
    rcases List.mem_cons.mp h with rfl | h
    · omega
    · have := szs_mem h; omega
theorem szs_len : ∀ (ds : List PyData), ds.length ≤ szs ds
  | [] => Nat.le_refl 0
  | a :: r => by
    have h1 := szs_len r
    have h2 := sz_pos a
    unfold szs
    rw [List.length_cons]; omega
theorem deps_mem {d : PyData} : ∀ {ds : List PyData}, d ∈ ds → dep d ≤ deps ds
  | a :: r, h => by
    unfold deps
    rcases List.mem_cons.mp h with rfl | h
    · omega
    · have := deps_mem h; omega
theorem szs_append : ∀ (a b : List PyData), szs (a ++ b) = szs a + szs b
  | [], b => by show szs b = 0 + szs b; omega
  | x :: r, b => by
    show sz x + szs (r ++ b) = (sz x + szs r) + szs b
    rw [szs_append r b]; omega
theorem deps_append : ∀ (a b : List PyData), deps (a ++ b) = max (deps a) (deps b)
  | [], b => by show deps b = max 0 (deps b); omega
  | x :: r, b => by
    show max (dep x) (deps (r ++ b)) = max (max (dep x) (deps r)) (deps b)
    rw [deps_append r b]; omega
theorem sz_tuple (ds : List PyData) : sz (.tuple ds) = 1 + szs ds := by unfold sz; rfl
theorem dep_tuple (ds : List PyData) : dep (.tuple ds) = 1 + deps ds := by unfold dep; rfl
end Cm
namespace Cm
open PySem PySem.Spec PyProof.Rows PySem.W L2 SX
section
variable {X : Cx}
/-- t == () -/
def rEqNilT (K : Frag) : R2 := fun x y H Q => ∃ a b xs, x = .ref a ∧ y = .ref b ∧ SqT K H a xs ∧ SqT K H b [] ∧ Q (.bl xs.isEmpty) H
theorem op_eqNilT (hu : X.A.units + 64 < cLine) : OpR X (compareOp .Eq) (rEqNilT X.K) := by
  intro pins s σ H x y v u Q I rx ry h
  obtain ⟨a, b, xs, rfl, rfl, ha, hb, q⟩ := h
  cases rx
  cases ry
  obtain ⟨us, r1, p1, _⟩ := I.tuple ha
  obtain ⟨ws, r2, p2, _⟩ := I.tuple hb
  cases r2
  have e : xs.isEmpty = ((List.range (min us.toArray.size (#[] : Array Value).size)).all (fun _ => true) && us.toArray.size == (#[] : Array Value).size) := by
    cases r1 with
    | nil => rfl
    | cons h t => rw [List.size_toArray]; rfl
  rw [e] at q
  obtain ⟨⟨cls, dd, data, sl⟩, ho, hc, n, hd⟩ := id p1
  obtain ⟨⟨cls2, dd2, data2, sl2⟩, ho2, hc2, n2, hd2⟩ := id p2
  simp only at hc hd hc2 hd2
  subst hc hd hc2 hd2
  refine richCompare_meets_room (op := .Eq) ⟨_, ho, rfl⟩ ⟨_, ho2, rfl⟩ F.slot_tuple_eq F.entry_tuple_eq (F.args_tuple_eq_2 _ _) (SeqAt.tuple_eqAt a b us.toArray #[] n n2 dd dd2 sl sl2 (fun _ => true)) ?_ (by omega)
  exact ⟨ho, ho2, (fun j h1 h2 => absurd h2 (Nat.not_lt_zero j)), (fun z => nomatch z), ⟨.bl _, H, I, rfl, q⟩⟩
end
end Cm
namespace K02
open PySem PySem.W L2 SX Cm
def top (i : Nat) : Stmt := PySem.Challenge.pw_takeleave_k02_what_is_a_row.main.body.getD i (.Pass ⟨0, 0, 0, 0⟩)
abbrev sIsWhole : Stmt := top 1
abbrev sMarked : Stmt := top 2
abbrev sForm : Stmt := top 3
abbrev sIsSh : Stmt := top 7
abbrev sBasic : Stmt := top 11
abbrev sIsThing : Stmt := top 16
abbrev sIsWord : Stmt := top 17
abbrev sIsRow : Stmt := top 18
abbrev sIsStack : Stmt := top 19
abbrev sIsName : Stmt := top 20
abbrev sIsNum : Stmt := top 21
abbrev sTextWord : Stmt := top 22
abbrev sAsked : Stmt := top 23
abbrev sAskedThing : Stmt := top 24
abbrev sAskedWord : Stmt := top 25
abbrev sMixed : Stmt := top 27
abbrev sDeck : Stmt := top 28
abbrev sTake : Stmt := top 29
abbrev sNumber : Stmt := top 30
abbrev sName : Stmt := top 31
abbrev sShuffle : Stmt := top 32
abbrev sThing : Stmt := top 33
abbrev sStack : Stmt := top 34
abbrev sWord : Stmt := top 35
abbrev sRow : Stmt := top 36
abbrev sAllIn : Stmt := top 37
abbrev sIsText : Stmt := top 38
abbrev sLThing : Stmt := top 39
abbrev sLWord : Stmt := top 40
abbrev sOdd : Stmt := top 41
abbrev sBent : Stmt := top 42
abbrev sRight : Stmt := top 43
abbrev sLaw : Stmt := top 44
/-- a deck stands at d, its cells at c -/
structure Deck (H : Hp) (d c : Addr) : Prop where
  ne : d ≠ c
  at_ : ∃ (s k : Int), H d = some (.lst [.ref c, .int s, .int k])
  cells : ∃ ms : List Int, H c = some (.lst (ms.map V.int)) ∧ ms.length ≤ 1000
theorem Deck.new {H : Hp} {d c p : Addr} {o : HO} (D : Deck H d c) (h : H p = none) : Deck (upd H p o) d c := by
  obtain ⟨s, k, e⟩ := D.at_
  obtain ⟨ms, e2, l⟩ := D.cells
  exact ⟨D.ne, ⟨s, k, kn e h⟩, ms, kn e2 h, l⟩
theorem Deck.same {H H' : Hp} {d c : Addr} (D : Deck H d c) (s : Same H H') : Deck H' d c := by
  obtain ⟨a, k, e⟩ := D.at_
  obtain ⟨ms, e2, l⟩ := D.cells
  exact ⟨D.ne, ⟨a, k, s _ _ e⟩, ms, s _ _ e2, l⟩
theorem Deck.nd {H : Hp} {d c p : Addr} (D : Deck H d c) (h : H p = none) : p ∉ [d, c] := by
  obtain ⟨a, k, e⟩ := D.at_
  obtain ⟨ms, e2, l⟩ := D.cells
  intro z
  rcases List.mem_cons.mp z with z | z
  · rw [z, e] at h; cases h
  · rw [List.mem_singleton.mp z, e2] at h; cases h
theorem Deck.put {H : Hp} {d c p : Addr} {o : HO} (D : Deck H d c) (h : p ∉ [d, c]) : Deck (upd H p o) d c := by
  obtain ⟨s, k, e⟩ := D.at_
  obtain ⟨ms, e2, l⟩ := D.cells
  have h1 : d ≠ p := fun z => h (by rw [← z]; exact List.mem_cons_self ..)
  have h2 : c ≠ p := fun z => h (by rw [← z]; exact List.mem_cons_of_mem _ (List.mem_singleton.mpr rfl))
  exact ⟨D.ne, ⟨s, k, by rw [upd_ne h1]; exact e⟩, ms, by rw [upd_ne h2]; exact e2, l⟩
section
variable {P : Program} {w : World} {K : PySem.W.Frag} {mg : Str → Option Value} {base : Heap}
def spMixed : Sp := fun vs H Q _ => ∃ n k : Int, vs = [.int n, .int k] ∧ ∀ m : Int, Q (.int m) H
theorem scMixed : FnScope ["_law_cell", "_law_k", "_law_number_here"] ["_law_cell", "_law_k"] (defScope sMixed) := ⟨rfl, rfl, rfl, by decide +kernel, rfl, by decide +kernel, by decide +kernel⟩
theorem ok_mixed {f : Addr} {fd : FuncData} (F : Fun K "_law_mixed" "_law_mixed" sMixed f fd) : FnOk P w K mg base CX0 1 f fd ["_law_cell", "_law_k"] spMixed := by
  refine F.ok scMixed (fun vs H Q E h => ?_) (fun cdv A outer s H vs Q E hr h => ?_)
  · obtain ⟨n, k, rfl, _⟩ := h
    rfl
  obtain ⟨n, k, rfl, q⟩ := h
  refine ⟨_, pss_cons (ps_set (i := 2) scMixed.nd rfl (.inl rfl) (pe_op op_mod (pe_op op_mul (pe_op op_add (pe_op op_add (pe_op op_mod (pv 0) pe_int) (pe_op op_mul pe_int (pv 1))) pe_int) pe_int) pe_int))
    (pss_cons (ps_set (i := 2) scMixed.nd rfl (.inl rfl) (pe_op op_mod (pe_op op_add (pe_op op_add (pe_op op_mul (pv 2) (pv 2)) (pe_op op_mul pe_int (pv 1))) pe_int) pe_int))
    (pss_one (ps_ret (pe_op op_add (pe_op op_mul (pv 2) pe_int) (pe_op op_mod (pe_op op_add (pe_op op_add (pe_op op_mul (pv 2) (pv 2)) (pe_op op_mul pe_int (pv 2))) (pv 1)) pe_int))))), ?_⟩
  refine ⟨_, rfl, _, _, rfl, rfl, (by show (0 : Int) < 2147483629; decide), _, rfl, _, _, rfl, rfl, .inl ⟨by decide, by decide⟩, _, _, rfl, rfl, _, _, rfl, rfl, _, _, rfl, rfl, .inr ⟨by decide, by decide⟩, _, _, rfl, rfl, (by show (0 : Int) < 2147483647; decide), ?_⟩
  generalize e1 : ((n % 2147483629 + 7919 * k + 1) * 48271) % 2147483647 = n1
  have b1 : 0 ≤ n1 ∧ n1 < 2147483647 := by
    constructor
    · rw [← e1]; exact Int.emod_nonneg _ (by decide)
    · rw [← e1]; exact Int.emod_lt_of_pos _ (by decide)
  refine ⟨_, rfl, _, rfl, _, _, rfl, rfl, .inl ⟨by omega, by omega⟩, _, rfl, _, _, rfl, rfl, .inl ⟨by decide, by decide⟩, _, _, rfl, rfl, _, _, rfl, rfl, _, _, rfl, rfl, (by show (0 : Int) < 2147483587; decide), ?_⟩
  generalize e2 : (n1 * n1 + 69621 * k + 7) % 2147483587 = n2
  have b2 : 0 ≤ n2 ∧ n2 < 2147483587 := by
    constructor
    · rw [← e2]; exact Int.emod_nonneg _ (by decide)
    · rw [← e2]; exact Int.emod_lt_of_pos _ (by decide)
  refine ⟨_, rfl, _, _, rfl, rfl, .inr ⟨by decide, by decide⟩, _, rfl, _, rfl, _, _, rfl, rfl, .inl ⟨by omega, by omega⟩, _, rfl, _, _, rfl, rfl, .inl ⟨by decide, by decide⟩, _, _, rfl, rfl, _, rfl, _, _, rfl, rfl, _, _, rfl, rfl, (by show (0 : Int) < 2147483563; decide), _, _, rfl, rfl, ?_⟩
  exact q _
def spDeck (K : PySem.W.Frag) : Sp := fun vs H Q _ => ∃ (a : Addr) (ns : List Int), vs = [.ref a] ∧ SqL K H a (ns.map V.int) ∧ ns.length ≤ 63 ∧
  ∀ (d c : Addr) (H' : Hp), Same H H' → H d = none → H c = none → Deck H' d c → Q (.ref d) H'
theorem scDeck : FnScope ["_law_script"] ["_law_script"] (defScope sDeck) := ⟨rfl, rfl, rfl, by decide +kernel, rfl, by decide +kernel, by decide +kernel⟩
theorem ok_deck {f : Addr} {fd : FuncData} (F : Fun K "_law_deck" "_law_deck" sDeck f fd) (mlist : mg "list" = none) (mrev : mg "reversed" = none) (msum : mg "sum" = none) (mlen : mg "len" = none) : FnOk P w K mg base CX0 1 f fd ["_law_script"] (spDeck K) := by
  refine F.ok scDeck (fun vs H Q E h => ?_) (fun cdv A outer s H vs Q E hr h => ?_)
  · obtain ⟨a, ns, rfl, _⟩ := h
    rfl
  obtain ⟨a, ns, rfl, hS, h63, q⟩ := h
  refine ⟨_, pss_one (ps_ret (pe_lst (pa_cons (pe_lstRev rfl (by rfl) mlist (by rfl) mrev (pe_slice sl_list (pv 0) po_none (po_some pe_int)))
    (pa_cons (pe_op op_add (pe_callB (cr_sum rfl) (by rfl) msum PyProof.Rows.boot_sum (pa_cons (pe_slice sl_list (pv 0) po_none (po_some pe_int)) pa_nil)) (pe_callB call_len_seq (by rfl) mlen PySem.boot_len (pa_cons (pe_slice sl_list (pv 0) po_none (po_some pe_int)) pa_nil)))
    (pa_cons pe_int pa_nil))))), ?_⟩
  obtain ⟨ds, e1, l1⟩ := cut_map V.int ns none (some 63)
  refine ⟨_, rfl, 63, rfl, a, _, rfl, hS, fun p1 n1 => ?_⟩
  rw [e1]
  have s1 : Same H (upd H p1 (.lst (ds.map V.int))) := same_new n1 _
  refine ⟨p1, _, rfl, SqL.of upd_same, fun c nc => ?_⟩
  have s2 := s1.trans (same_new nc (.lst (ds.map V.int).reverse))
  refine ⟨_, rfl, 63, rfl, a, _, rfl, s2.seq hS, fun p2 n2 => ?_⟩
  rw [e1]
  have s3 := s2.trans (same_new n2 (.lst (ds.map V.int)))
  refine ⟨p2, ds, rfl, SqL.of upd_same, _, rfl, 63, rfl, a, _, rfl, s3.seq hS, fun p3 n3 => ?_⟩
  rw [e1]
  have s4 := s3.trans (same_new n3 (.lst (ds.map V.int)))
  refine ⟨p3, _, rfl, .inl (SqL.of upd_same), _, _, rfl, rfl, (by show 3 ≤ sizeLine; decide), fun d nd => ?_⟩
  have ec := kn (o' := .lst (ds.map V.int)) (kn (o' := .lst (ds.map V.int)) (upd_same (H := upd H p1 (.lst (ds.map V.int))) (a := c) (o := .lst (ds.map V.int).reverse)) n2) n3
  refine q d c _ (s4.trans (same_new nd _)) (s4.free nd) (s1.free nc) ⟨(ne_of_none ec nd).symm, ⟨_, _, upd_same⟩, ds.reverse, ?_, ?_⟩
  · rw [List.map_reverse]; exact kn ec nd
  · rw [List.length_reverse]; omega
def spTake : Sp := fun vs H Q _ => ∃ (d c : Addr) (m : Int), vs = [.ref d, .int m] ∧ Deck H d c ∧ 0 < m ∧ m < 2 ^ 64 ∧
  ∀ (r : Int) (H' : Hp), 0 ≤ r → r < m → Kp [d, c] H H' → Deck H' d c → Q (.int r) H'
theorem scTake : FnScope ["_law_deck_here", "_law_most", "_law_cells", "_law_cell"] ["_law_deck_here", "_law_most"] (defScope sTake) := ⟨rfl, rfl, rfl, by decide +kernel, rfl, by decide +kernel, by decide +kernel⟩
theorem ok_take {f g : Addr} {fd gd : FuncData} (F : Fun K "_law_take" "_law_take" sTake f fd) (G : FnOk P w K mg base CX0 1 g gd ["_law_cell", "_law_k"] spMixed) (bG : Binds K gd ["_law_cell", "_law_k"] []) (kG : PySem.W.keepIn K (.ref g) = true) (mG : mg "_law_mixed" = some (.ref g)) :
    FnOk P w K mg base CX0 2 f fd ["_law_deck_here", "_law_most"] spTake := by
  refine F.ok scTake (fun vs H Q E h => ?_) (fun cdv A outer s H vs Q E hr h => ?_)
  · obtain ⟨d, c, m, rfl, _⟩ := h
    rfl
  obtain ⟨d, c, m, rfl, D, m0, m1, q⟩ := h
  obtain ⟨sm, k, hd⟩ := D.at_
  obtain ⟨ms, hc, hl⟩ := D.cells
  have dm : d ∈ [d, c] := List.mem_cons_self ..
  have cm : c ∈ [d, c] := List.mem_cons_of_mem _ (List.mem_singleton.mpr rfl)
  refine ⟨_, pss_cons (ps_set (i := 2) scTake.nd rfl (.inl rfl) (pe_ix ix_list (pv 0) pe_int (fun _ _ => rfl)))
    (pss_cons (ps_asg (pe_op op_add (pe_ix ix_list (pv 0) pe_int (fun _ _ => rfl)) pe_int) (pg_sub (pv 0) pe_int set_list))
    (pss_cons (ps_if (pt_cmpR (op_eqD hr.units) (pv 2) (pe_lst pa_nil) (nomark _)) (pss_one (ps_ret (pe_op op_mod (pe_call G hr rfl mG kG bG .nil pass0 (pa_cons (pe_ix ix_list (pv 0) pe_int (fun _ _ => rfl)) (pa_cons (pe_ix ix_list (pv 0) pe_int (fun _ _ => rfl)) pa_nil))) (pv 1)))) pss_nil)
    (pss_cons (ps_set (i := 3) scTake.nd rfl (.inl rfl) (pe_bm0 PySem.F.plainAttrs_list PySem.F.slot_list_pop PySem.F.type_list_pop mt_pop (pv 2)))
    (pss_cons (ps_if (pt_cmpR op_lt (pv 3) (pe_op op_pow pe_int pe_int) (nomark _)) (pss_one (ps_ret (pe_op op_mod (pe_call G hr rfl mG kG bG .nil pass0 (pa_cons (pv 3) (pa_cons (pe_ix ix_list (pv 0) pe_int (fun _ _ => rfl)) pa_nil))) (pv 1)))) pss_nil)
    (pss_cons (ps_if (pt_cmpR op_gt (pe_op op_fdivW (pv 3) (pv 1)) pe_int (nomark _)) (pss_one (ps_expr (pe_bm PySem.F.plainAttrs_list PySem.F.slot_list_append PySem.F.type_list_append mt_append (pv 2) (pa_cons (pe_op op_fdivW (pv 3) (pv 1)) pa_nil)))) pss_nil)
    (pss_one (ps_ret (pe_op op_mod (pv 3) (pv 1))))))))), ?_⟩
  have ix : ∀ (j : Nat) (v : V) (k' : Int), [V.ref c, .int sm, .int k'][j]? = some v → atI [V.ref c, .int sm, .int k'] (j : Int) = some v := fun j v k' h => atI_nat h
  refine ⟨_, rfl, d, _, _, _, rfl, rfl, SqL.of hd, ix 0 _ k rfl, ?_⟩
  refine ⟨_, rfl, d, _, _, _, rfl, rfl, SqL.of hd, ix 2 _ k rfl, _, _, rfl, rfl, _, rfl, d, _, _, 2, rfl, rfl, hd, rfl, ?_⟩
  have hd1 : upd H d (.lst [.ref c, .int sm, .int (k + 1)]) d = some (.lst [.ref c, .int sm, .int (k + 1)]) := upd_same
  have hc1 : upd H d (.lst [.ref c, .int sm, .int (k + 1)]) c = some (.lst (ms.map V.int)) := by rw [upd_ne D.ne.symm]; exact hc
  have k1 : Kp [d, c] H (upd H d (.lst [.ref c, .int sm, .int (k + 1)])) := (Kp.refl _ H).own dm
  show tSeq _ _ _ _ (upd H d (.lst [.ref c, .int sm, .int (k + 1)]))
  generalize upd H d (.lst [.ref c, .int sm, .int (k + 1)]) = H1 at hd1 hc1 k1
  refine ⟨_, rfl, (by show 0 ≤ sizeLine; decide), fun p hp => ?_⟩
  have k2 : Kp [d, c] H (upd H1 p (.lst [])) := k1.new hp
  have hd2 := kn (o' := .lst []) hd1 hp
  have hc2 := kn (o' := .lst []) hc1 hp
  refine ⟨_, _, .lst (SqL.of hc2) (dp_ints ms), .lst (SqL.of upd_same) .nil, Cm.shaped_ints ms, rfl, _, rfl, ?_⟩
  generalize upd H1 p (.lst []) = H2 at hd2 hc2 k2
  rcases List.eq_nil_or_concat ms with rfl | ⟨ns, n, rfl⟩
  · refine iteT ?_
    refine ⟨_, rfl, d, _, _, _, rfl, rfl, SqL.of hd2, ix 1 _ (k + 1) rfl, _, rfl, d, _, _, _, rfl, rfl, SqL.of hd2, ix 2 _ (k + 1) rfl, _, _, rfl, fun r => ?_⟩
    refine ⟨_, rfl, _, _, rfl, rfl, m0, ?_⟩
    exact q _ _ (Int.emod_nonneg _ (by omega)) (Int.emod_lt_of_pos _ m0) k2 ⟨D.ne, ⟨_, _, hd2⟩, [], hc2, by decide⟩
  · have ne : PyData.eqv (.list ((ns.concat n).map PyData.int)) (.list []) = false := by
      cases ns with
      | nil => rfl
      | cons x r => rfl
    rw [ne]
    refine iteF ?_
    rw [List.length_concat] at hl
    have hq : (((ns.concat n).map V.int) : List V)[((ns.concat n).map V.int).length - 1]? = some (V.int n) := by
      rw [List.concat_eq_append, List.map_append, List.length_append]
      simp
    have hdl : ((ns.concat n).map V.int).dropLast = ns.map V.int := by
      rw [List.concat_eq_append, List.map_append]
      simp
    refine ⟨_, rfl, .inl ⟨rfl, _, SqL.of hc2⟩, c, _, _, rfl, rfl, hc2, hq, ?_⟩
    rw [hdl]
    have hd3 : upd H2 c (.lst (ns.map V.int)) d = some (.lst [.ref c, .int sm, .int (k + 1)]) := by rw [upd_ne D.ne]; exact hd2
    have k3 : Kp [d, c] H (upd H2 c (.lst (ns.map V.int))) := k2.own cm
    refine ⟨_, rfl, _, _, rfl, rfl, ⟨by decide, by decide, by decide⟩, _, _, rfl, rfl, _, rfl, ?_⟩
    refine ite2 (fun _ => ?_) (fun _ => ?_)
    · refine ⟨_, rfl, _, rfl, d, _, _, _, rfl, rfl, SqL.of hd3, ix 2 _ (k + 1) rfl, _, _, rfl, fun r => ?_⟩
      refine ⟨_, rfl, _, _, rfl, rfl, m0, ?_⟩
      exact q _ _ (Int.emod_nonneg _ (by omega)) (Int.emod_lt_of_pos _ m0) k3 ⟨D.ne, ⟨_, _, hd3⟩, ns, upd_same, by omega⟩
    · refine ⟨_, rfl, _, rfl, _, _, rfl, rfl, wide_div m0 (b := 64) (by omega) (by decide) (by decide), _, _, rfl, rfl, _, rfl, ?_⟩
      refine ite2 (fun _ => ?_) (fun _ => ?_)
      · refine ⟨_, rfl, .inl ⟨rfl, _, SqL.of upd_same⟩, _, rfl, _, rfl, _, _, rfl, rfl, wide_div m0 (b := 64) (by omega) (by decide) (by decide), c, _, _, rfl, rfl, upd_same, by rw [List.length_map]; exact small1000 (by omega), ?_⟩
        refine ⟨_, rfl, _, rfl, _, _, rfl, rfl, m0, ?_⟩
        refine q _ _ (Int.emod_nonneg _ (by omega)) (Int.emod_lt_of_pos _ m0) (k3.own cm) ⟨D.ne, ⟨_, _, by rw [upd_ne D.ne]; exact hd3⟩, ns ++ [n / m], ?_, ?_⟩
        · rw [upd_same, List.map_append]; rfl
        · rw [List.length_append, List.length_singleton]; omega
      · refine ⟨_, rfl, _, rfl, _, _, rfl, rfl, m0, ?_⟩
        exact q _ _ (Int.emod_nonneg _ (by omega)) (Int.emod_lt_of_pos _ m0) k3 ⟨D.ne, ⟨_, _, hd3⟩, ns, upd_same, by omega⟩
end
end K02
namespace K02
open PySem PySem.W L2 SX Cm
structure TxtS (mg : Str → Option Value) : Prop where
  isi : mg "isinstance" = none
  str : mg "str" = none
  len : mg "len" = none
  all : mg "all" = none
  tup : mg "tuple" = none
  letters : ∃ t, mg "LETTERS" = some (.str "abcdefgh" t)
  most : ∃ t, mg "MOST_LEFT" = some (.int 12 t)
  small : ∃ t, mg "SMALL_LETTERS" = some (.str "abcdefghijklmnopqrstuvwxyz" t)
  longest : ∃ t, mg "LONGEST_NAME" = some (.int 8 t)
section
variable {P : Program} {w : World} {K : PySem.W.Frag} {mg : Str → Option Value} {base : Heap} {d : Addr} {es : Array DictEntry} {n : Nat}
/-- of a value o: f of its signs, False of what is no text -/
def spT (f : List Nat → Bool) : Sp := fun vs H Q _ => ∃ (v : V) (o : Option (List Nat)), vs = [v] ∧ Vl H v o ∧ ∀ H', Same H H' → Q (.bl (onT f o)) H'
theorem hsz {y : List Nat} (h : y.length ≤ 1000) : (S y).length ≤ sizeLine := by rw [S_len]; exact Nat.le_of_lt (small1000 h)
theorem scIsSh : FnScope ["thing", "taken", "stroke", "left", "letter"] ["thing"] (defScope sIsSh) := ⟨rfl, rfl, rfl, by decide +kernel, rfl, by decide +kernel, by decide +kernel⟩
theorem ok_isSh {f : Addr} {fd : FuncData} (F : Fun K "is_shuffle" "is_shuffle" sIsSh f fd) (T : TxtS mg) : FnOk P w K mg base CX0 1 f fd ["thing"] (spT shufB) := by
  refine F.ok scIsSh (fun vs H Q E h => ?_) (fun cdv A outer s H vs Q E hr h => ?_)
  · obtain ⟨v, o, rfl, _⟩ := h
    rfl
  obtain ⟨v, o, rfl, hv, q⟩ := h
  obtain ⟨tL, mL⟩ := T.letters
  obtain ⟨tM, mM⟩ := T.most
  refine ⟨_, pss_cons (ps_if (pt_not (pt_val (pe_callB call_isi (by rfl) T.isi PyProof.Rows.boot_isinstance (pa_cons (pv 0) (pa_cons (pe_bltn (v := .ty "str") (by rfl) T.str (by decide +kernel) rfl) pa_nil))))) (pss_one (ps_ret pe_bl)) pss_nil)
    (pss_cons (ps_asg (pe_partition (pv 0) pe_str) (pg_tup rfl (pgs_cons (pg_name (i := 1) scIsSh.nd rfl (.inr rfl)) (pgs_cons (pg_name (i := 2) scIsSh.nd rfl (.inl rfl)) (pgs_cons (pg_name (i := 3) scIsSh.nd rfl (.inl rfl)) pgs_nil)))))
    (pss_cons (ps_if (PW.pt (pw_or (pt_cmpR op_eq (pv 2) pe_str (nomark _)) (pw_or1 (pt_not (pt_val (pe_m1 PySem.F.slot_str_startswith PySem.F.type_str_startswith mt_startswith (pe_glob (v := .str "abcdefgh") rfl mL ⟨_, rfl⟩) (pv 1))))))) (pss_one (ps_ret pe_bl)) pss_nil)
    (pss_one (ps_ret (pe_and (pe_cmpR op_le (pe_callB call_len_str (by rfl) T.len PySem.boot_len (pa_cons (pv 3) pa_nil)) (pe_glob (v := .int 12) rfl mM ⟨_, rfl⟩) (nomark _))
      (pe_one (pe_callB (cr_all rfl) (by rfl) T.all PyProof.Rows.boot_all (pa_cons (pe_lc (own := [("letter", 4)]) (g := gName 4) (tt := tYes) rfl scIsSh.nd (pi_str (pv 3)) (blkOk_by (own := [("letter", 4)]) (N := ["thing", "taken", "stroke", "left", "letter"]) (sc := defScope sIsSh) (by decide +kernel))
        (fun _ _ _ _ _ => pg_name (i := 4) scIsSh.nd rfl (Or.inl rfl)) (fun _ _ _ _ _ => pts_nil) (fun _ _ _ _ _ => pe_cmpR op_in_sign (pv 4) (pv 1) rfl)) pa_nil)))))))), ?_⟩
  have e1 : ("-" : Str) = S [45] := by decide +kernel
  have e2 : ("" : Str) = S [] := by decide +kernel
  have e3 : ("abcdefgh" : Str) = S abc8 := by decide +kernel
  rw [e1, e2, e3]
  obtain ⟨ty, ht, hk⟩ := hv.isStr (K := K)
  refine ⟨_, rfl, _, _, _, _, _, rfl, .ty _, ht, hk, _, rfl, ?_⟩
  cases o with
  | none => exact iteT (q H (Same.refl H))
  | some x =>
  obtain ⟨rfl, hl⟩ := hv
  refine iteF ?_
  have q : ∀ H', Same H H' → Q (.bl (shufB x)) H' := q
  refine ⟨_, rfl, ⟨_, rfl⟩, _, _, rfl, rfl, rfl, hsz hl, fun p hp => ?_⟩
  have hp' : ∀ o, Same H (upd H p o) := same_new hp
  cases hpar : TL.par [45] [] x with
  | none =>
    have hb : shufB x = false := by unfold shufB; rw [hpar]
    rw [partition_none (List.cons_ne_nil _ _) hpar]
    refine ⟨p, _, rfl, SqT.of upd_same, rfl, _, _, rfl, _, _, rfl, _, _, rfl, rfl, ?_⟩
    refine ⟨_, rfl, rfl, _, rfl, iteT (iteT ?_)⟩
    rw [hb] at q
    exact q _ (hp' _)
  | some tl =>
    obtain ⟨t, l⟩ := tl
    have hb : shufB x = (decide (abc8.take t.length = t) && (decide (l.length ≤ 12) && (l.map fun c => decide (c ∈ t)).all id)) := by unfold shufB; rw [hpar]
    rw [partition_some (List.cons_ne_nil _ _) hpar]
    have ll : l.length ≤ 1000 := Nat.le_trans (par_len _ _ _ _ hpar) hl
    refine ⟨p, _, rfl, SqT.of upd_same, rfl, _, _, rfl, _, _, rfl, _, _, rfl, rfl, ?_⟩
    refine ⟨_, rfl, rfl, _, rfl, iteF ?_⟩
    refine ⟨⟨_, rfl⟩, _, rfl, _, _, rfl, rfl, _, rfl, ?_⟩
    rw [starts_S]
    by_cases h1 : abc8.take t.length = t
    · rw [decide_eq_true h1]
      refine iteF ?_
      refine ⟨_, rfl, _, rfl, hsz ll, _, _, rfl, rfl, _, rfl, ?_⟩
      rw [S_len]
      by_cases h2 : l.length ≤ 12
      · have h2' : (l.length : Int) ≤ 12 := by omega
        rw [decide_eq_true h2']
        refine iteT ?_
        refine ⟨_, rfl, _, rfl, fun D hD => ?_⟩
        refine lc_txt (fun c => .bl (decide (c ∈ t))) ll (fun c H R hc r => ?_) ?_
        · exact ⟨rfl, _, rfl, _, rfl, c, _, rfl, rfl, r⟩
        · refine ⟨D, l.map fun c => decide (c ∈ t), rfl, ?_, ?_⟩
          · rw [List.map_map]; exact SqL.of upd_same
          · rw [decide_eq_true h1, decide_eq_true h2, Bool.true_and, Bool.true_and] at hb
            rw [hb] at q
            exact q _ ((hp' _).trans (same_new hD _))
      · have h2' : ¬ (l.length : Int) ≤ 12 := by omega
        rw [decide_eq_false h2']
        refine iteF ?_
        rw [decide_eq_false h2, Bool.false_and, Bool.and_false] at hb
        rw [hb] at q
        exact q _ (hp' _)
    · rw [decide_eq_false h1]
      refine iteT ?_
      rw [decide_eq_false h1, Bool.false_and] at hb
      rw [hb] at q
      exact q _ (hp' _)
def spBasic : Sp := fun vs H Q _ => ∃ z : Str, vs = [.str z] ∧ Q (.bl (table.lookup z).isSome) H
theorem scBasic : FnScope ["text"] ["text"] (defScope sBasic) := ⟨rfl, rfl, rfl, by decide +kernel, rfl, by decide +kernel, by decide +kernel⟩
theorem ok_basic {f : Addr} {fd : FuncData} (F : Fun K "is_basic" "is_basic" sBasic f fd) (T : Tab K w mg d es n) : FnOk P w K mg base CX0 1 f fd ["text"] spBasic := by
  refine F.ok scBasic (fun vs H Q E h => ?_) (fun cdv A outer s H vs Q E hr h => ?_)
  · obtain ⟨z, rfl, _⟩ := h
    rfl
  obtain ⟨z, rfl, q⟩ := h
  refine ⟨_, pss_one (ps_ret (pe_cmpR (op_in_kd T.kd) (pv 0) (pe_glob (v := .ref d) rfl T.mg_ rfl) rfl)), ?_⟩
  obtain ⟨h1, h2⟩ := T.ns z
  cases hz : table.lookup z with
  | none =>
    rw [hz] at q
    exact ⟨_, rfl, z, none, rfl, rfl, h1 hz, q⟩
  | some xs =>
    rw [hz] at q
    obtain ⟨t, e1, e2⟩ := h2 xs hz
    exact ⟨_, rfl, z, _, rfl, rfl, e1, q⟩
theorem scIsName : FnScope ["thing", "letter"] ["thing"] (defScope sIsName) := ⟨rfl, rfl, rfl, by decide +kernel, rfl, by decide +kernel, by decide +kernel⟩
theorem ok_isName {f gb : Addr} {fd gbd : FuncData} (F : Fun K "is_name" "is_name" sIsName f fd) (T : TxtS mg) (B : FnOk P w K mg base CX0 1 gb gbd ["text"] spBasic) (bB : L2.Binds K gbd ["text"] []) (kB : keepIn K (.ref gb) = true) (mB : mg "is_basic" = some (.ref gb)) : FnOk P w K mg base CX0 2 f fd ["thing"] (spT nameB) := by
  refine F.ok scIsName (fun vs H Q E h => ?_) (fun cdv A outer s H vs Q E hr h => ?_)
  · obtain ⟨v, o, rfl, _⟩ := h
    rfl
  obtain ⟨v, o, rfl, hv, q⟩ := h
  obtain ⟨tS, mS⟩ := T.small
  obtain ⟨tN, mN⟩ := T.longest
  refine ⟨_, pss_cons (ps_if (PW.pt (pw_or (pt_not (pt_val (pe_callB call_isi (by rfl) T.isi PyProof.Rows.boot_isinstance (pa_cons (pv 0) (pa_cons (pe_bltn (v := .ty "str") (by rfl) T.str (by decide +kernel) rfl) pa_nil)))))
      (pw_or1 (pt_not (pt_chain op_le op_le pe_int (pe_callB call_len_str (by rfl) T.len PySem.boot_len (pa_cons (pv 0) pa_nil)) (pe_glob (v := .int 8) rfl mN ⟨_, rfl⟩)))))) (pss_one (ps_ret pe_bl)) pss_nil)
    (pss_one (ps_ret (pe_and (pe_callB (cr_all rfl) (by rfl) T.all PyProof.Rows.boot_all (pa_cons (pe_lc (own := [("letter", 1)]) (g := gName 1) (tt := tYes) rfl scIsName.nd (pi_str (pv 0)) (blkOk_by (own := [("letter", 1)]) (N := ["thing", "letter"]) (sc := defScope sIsName) (by decide +kernel))
        (fun _ _ _ _ _ => pg_name (i := 1) scIsName.nd rfl (Or.inl rfl)) (fun _ _ _ _ _ => pts_nil) (fun _ _ _ _ _ => pe_cmpR op_in_sign (pv 1) (pe_glob (v := .str "abcdefghijklmnopqrstuvwxyz") rfl mS ⟨_, rfl⟩) rfl)) pa_nil))
      (pe_one (pe_not (pe_call B hr rfl mB kB bB .nil pass0 (pa_cons (pv 0) pa_nil))))))), ?_⟩
  have e3 : ("abcdefghijklmnopqrstuvwxyz" : Str) = S az := by decide +kernel
  rw [e3]
  obtain ⟨ty, ht, hk⟩ := hv.isStr (K := K)
  refine ⟨_, rfl, _, _, _, _, _, rfl, .ty _, ht, hk, _, rfl, ?_⟩
  cases o with
  | none => exact iteT (iteT (q H (Same.refl H)))
  | some x =>
  obtain ⟨rfl, hl⟩ := hv
  refine iteF ?_
  have q : ∀ H', Same H H' → Q (.bl (nameB x)) H' := q
  unfold nameB at q
  refine ⟨_, rfl, _, rfl, hsz hl, _, _, rfl, rfl, _, rfl, ?_⟩
  rw [S_len]
  have c1 : decide ((1 : Int) ≤ (x.length : Int)) = decide (1 ≤ x.length) := by congr 1; exact propext (by omega)
  have c2 : decide ((x.length : Int) ≤ (8 : Int)) = decide (x.length ≤ 8) := by congr 1; exact propext (by omega)
  rw [c1]
  by_cases h1 : 1 ≤ x.length
  · rw [decide_eq_true h1] at q ⊢
    refine iteT ?_
    refine ⟨_, _, rfl, rfl, _, rfl, ?_⟩
    rw [c2]
    by_cases h2 : x.length ≤ 8
    · rw [decide_eq_true h2] at q ⊢
      refine iteF ?_
      refine ⟨_, rfl, _, rfl, fun D hD => ?_⟩
      refine lc_txt (fun c => .bl (decide (c ∈ az))) hl (fun c H R hc r => ?_) ?_
      · exact ⟨rfl, _, rfl, c, _, rfl, rfl, r⟩
      · refine ⟨D, x.map fun c => decide (c ∈ az), rfl, ?_, _, rfl, ?_⟩
        · rw [List.map_map]; exact SqL.of upd_same
        · rw [Bool.true_and, Bool.true_and] at q
          cases h3 : (x.map fun c => decide (c ∈ az)).all id with
          | false =>
            rw [h3, Bool.false_and] at q
            exact iteF (q _ (same_new hD _))
          | true =>
            rw [h3, Bool.true_and] at q
            refine iteT ?_
            exact ⟨_, rfl, _, rfl, _, rfl, q _ (same_new hD _)⟩
    · rw [decide_eq_false h2] at q ⊢
      refine iteT ?_
      rw [Bool.and_false, Bool.false_and] at q
      exact q _ (Same.refl H)
  · rw [decide_eq_false h1] at q ⊢
    refine iteF ?_
    refine ⟨_, rfl, iteT ?_⟩
    rw [Bool.false_and, Bool.false_and] at q
    exact q _ (Same.refl H)
def spTW : Sp := fun vs H Q _ => ∃ x : List Nat, vs = [.str (S x)] ∧ x.length ≤ 1000 ∧ ∀ H', Same H H' → Q (.bl (wordB x)) H'
theorem scTW : FnScope ["text"] ["text"] (defScope sTextWord) := ⟨rfl, rfl, rfl, by decide +kernel, rfl, by decide +kernel, by decide +kernel⟩
theorem ok_tw {f gb gs gn : Addr} {fd gbd gsd gnd : FuncData} (F : Fun K "is_text_word" "is_text_word" sTextWord f fd) (B : FnOk P w K mg base CX0 1 gb gbd ["text"] spBasic) (bB : L2.Binds K gbd ["text"] []) (kB : keepIn K (.ref gb) = true) (mB : mg "is_basic" = some (.ref gb))
    (Z : FnOk P w K mg base CX0 1 gs gsd ["thing"] (spT shufB)) (bZ : L2.Binds K gsd ["thing"] []) (kZ : keepIn K (.ref gs) = true) (mZ : mg "is_shuffle" = some (.ref gs))
    (N : FnOk P w K mg base CX0 2 gn gnd ["thing"] (spT nameB)) (bN : L2.Binds K gnd ["thing"] []) (kN : keepIn K (.ref gn) = true) (mN : mg "is_name" = some (.ref gn)) : FnOk P w K mg base CX0 3 f fd ["text"] spTW := by
  refine F.ok scTW (fun vs H Q E h => ?_) (fun cdv A outer s H vs Q E hr h => ?_)
  · obtain ⟨x, rfl, _⟩ := h
    rfl
  obtain ⟨x, rfl, hl, q⟩ := h
  have hr1 := hr.mono (j := 1) (by decide)
  refine ⟨_, pss_one (ps_ret (pe_or (pe_call B hr1 rfl mB kB bB .nil pass0 (pa_cons (pv 0) pa_nil)) (pe_or (pe_call Z hr1 rfl mZ kZ bZ .nil pass0 (pa_cons (pv 0) pa_nil)) (pe_one (pe_call N hr rfl mN kN bN .nil pass0 (pa_cons (pv 0) pa_nil)))))), ?_⟩
  unfold wordB at q
  refine ⟨_, rfl, _, rfl, _, rfl, ?_⟩
  cases h1 : (table.lookup (S x)).isSome with
  | true =>
    rw [h1, Bool.true_or] at q
    exact iteT (q H (Same.refl H))
  | false =>
    rw [h1, Bool.false_or] at q
    refine iteF ?_
    refine ⟨_, rfl, _, some x, rfl, ⟨rfl, hl⟩, fun H1 s1 => ⟨_, rfl, ?_⟩⟩
    show if shufB x = true then _ else _
    cases h2 : shufB x with
    | true =>
      rw [h2, Bool.true_or] at q
      exact iteT (q H1 s1)
    | false =>
      rw [h2, Bool.false_or] at q
      refine iteF ?_
      exact ⟨_, rfl, _, some x, rfl, ⟨rfl, hl⟩, fun H2 s2 => q H2 (s1.trans s2)⟩
end
end K02
namespace K02
open PySem PySem.W L2 SX Cm
theorem cutS_from {a : List Nat} {i : Int} (h : 0 ≤ i) : cutS (S a) (some i) none = S (a.drop i.toNat) := by
  obtain ⟨n, rfl⟩ := Int.eq_ofNat_of_zero_le h
  unfold cutS
  rw [HT.sIx_none, HT.sIx_nat, S_len]
  show S (List.take (a.length - min n a.length) (List.drop (min n a.length) a)) = S (a.drop n)
  by_cases h : n ≤ a.length
  · rw [Nat.min_eq_left h, List.take_of_length_le (by rw [List.length_drop]; omega)]
  · rw [Nat.min_eq_right (by omega), List.drop_eq_nil_of_le (Nat.le_refl a.length), List.drop_eq_nil_of_le (show a.length ≤ n by omega), List.take_nil]
/-- the signs that a text may have -/
def Ch (x : List Nat) : Prop := ∀ c ∈ x, c < 1114112
theorem dp_signs {K : Frag} {H : Hp} : ∀ x : List Nat, DpAll K H (x.map fun c => V.str ⟨#[c]⟩) (x.map fun c => PyData.str ⟨#[c]⟩)
  | [] => .nil
  | n :: r => .cons (.str _) (dp_signs r)
theorem lay_signs : ∀ x : List Nat, Ch x → PyData.canLayAll0 (x.map fun c => PyData.str ⟨#[c]⟩) = true
  | [], _ => rfl
  | n :: r, h => by
    show (PyData.canLay0 (PyData.str ⟨#[n]⟩) && PyData.canLayAll0 (r.map fun c => PyData.str ⟨#[c]⟩)) = true
    rw [lay_signs r (fun c hc => h c (List.mem_cons_of_mem _ hc)), Bool.and_true]
    show (#[n].all (· < 0x110000)) = true
    have := h n (List.mem_cons_self ..)
    simp [this]
theorem deep_signs : ∀ x : List Nat, PyData.depthAll (x.map fun c => PyData.str ⟨#[c]⟩) = 0
  | [] => rfl
  | n :: r => by
    show max (PyData.depth (PyData.str ⟨#[n]⟩)) (PyData.depthAll (r.map fun c => PyData.str ⟨#[c]⟩)) = 0
    rw [deep_signs r]; rfl
theorem shaped_signs (x : List Nat) (h : Ch x) : SeqAt.shaped (.list (x.map fun c => PyData.str ⟨#[c]⟩)) = true := by
  show (PyData.canLayAll0 (x.map fun c => PyData.str ⟨#[c]⟩) && decide (PyData.depthAll (x.map fun c => PyData.str ⟨#[c]⟩) + 1 ≤ 64)) = true
  rw [lay_signs x h, deep_signs]; rfl
theorem Ch.sub {x y : List Nat} (h : Ch x) (s : ∀ c ∈ y, c ∈ x) : Ch y := fun c hc => h c (s c hc)
section
variable {P : Program} {w : World} {K : PySem.W.Frag} {mg : Str → Option Value} {base : Heap}
def spAllIn : Sp := fun vs H Q _ => ∃ x y : List Nat, vs = [.str (S x), .str (S y)] ∧ x.length ≤ 1000 ∧ Ch x ∧ ∀ H', Same H H' → Q (.bl (x.all fun c => decide (c ∈ y))) H'
theorem scAllIn : FnScope ["_law_text", "_law_signs", "_law_sign"] ["_law_text", "_law_signs"] (defScope sAllIn) := ⟨rfl, rfl, rfl, by decide +kernel, rfl, by decide +kernel, by decide +kernel⟩
theorem ok_allIn {f : Addr} {fd : FuncData} (F : Fun K "_law_all_in" "_law_all_in" sAllIn f fd) : FnOk P w K mg base CX0 1 f fd ["_law_text", "_law_signs"] spAllIn := by
  refine F.ok scAllIn (fun vs H Q E h => ?_) (fun cdv A outer s H vs Q E hr h => ?_)
  · obtain ⟨x, y, rfl, _⟩ := h
    rfl
  obtain ⟨x, y, rfl, hl, hx, q⟩ := h
  refine ⟨_, pss_one (ps_ret (pe_cmpR (op_eqD hr.units) (pe_lc (own := [("_law_sign", 2)]) (g := gName 2) rfl scAllIn.nd (pi_str (pv 0)) (blkOk_by (own := [("_law_sign", 2)]) (N := ["_law_text", "_law_signs", "_law_sign"]) (sc := defScope sAllIn) (by decide +kernel))
        (fun _ _ _ _ _ => pg_name (i := 2) scAllIn.nd rfl (Or.inl rfl)) (fun _ _ _ _ _ => pts_one (pt_cmpR op_notIn_sign (pv 2) (pv 1) rfl)) (fun _ _ _ _ _ => pv 2)) (pe_lst pa_nil) (nomark _))), ?_⟩
  refine ⟨_, rfl, _, rfl, fun D hD => ?_⟩
  refine lc_txtIf (fun c => !decide (c ∈ y)) (fun c => .str ⟨#[c]⟩) hl (fun c H R R0 hc r1 r0 => ?_) ?_
  · refine ⟨rfl, _, rfl, _, rfl, c, _, rfl, rfl, _, rfl, ?_⟩
    show if (!decide (c ∈ y)) = true then _ else _
    cases hp : (!decide (c ∈ y)) with
    | true => exact iteT ⟨_, rfl, r1 hp⟩
    | false => exact iteF (r0 hp)
  · refine ⟨(by show 0 ≤ sizeLine; decide), fun p hp => ?_⟩
    refine ⟨_, _, .lst (SqL.of (kn upd_same hp)) (dp_signs _), .lst (SqL.of upd_same) .nil, shaped_signs _ (hx.sub fun c hc => (List.mem_filter.mp hc).1), rfl, ?_⟩
    have e : PyData.eqv (.list ((x.filter fun c => !decide (c ∈ y)).map fun c => PyData.str ⟨#[c]⟩)) (.list []) = (x.all fun c => decide (c ∈ y)) := by
      cases hf : x.filter (fun c => !decide (c ∈ y)) with
      | nil =>
        have : (x.all fun c => decide (c ∈ y)) = true := by
          rw [List.all_eq_true]
          intro c hc
          rw [List.filter_eq_nil_iff] at hf
          have := hf c hc
          simpa using this
        rw [this]; rfl
      | cons a r =>
        have : (x.all fun c => decide (c ∈ y)) = false := by
          rw [List.all_eq_false]
          have ha : a ∈ x.filter (fun c => !decide (c ∈ y)) := by rw [hf]; exact List.mem_cons_self ..
          obtain ⟨h1, h2⟩ := List.mem_filter.mp ha
          exact ⟨a, h1, by simpa using h2⟩
        rw [this]; rfl
    rw [e]
    exact q _ ((same_new hD _).trans (same_new hp _))
def basics : List Str := ["plus", "minus", "times", "less", "same", "do", "dip", "if", "while", "repeat", "join", "wrap", "put", "part", "each"]
theorem basics_split : Txt.split "plus minus times less same do dip if while repeat join wrap put part each" " " = basics := by decide +kernel
theorem in_basics (z : Str) : inV (.str z) (basics.map V.str) = (table.lookup z).isSome := by
  have e : ∀ T : List (Str × List V), inV (.str z) ((T.map (·.1)).map V.str) = (T.lookup z).isSome := by
    intro T
    induction T with
    | nil => rfl
    | cons a r ih =>
      obtain ⟨k, xs⟩ := a
      rw [List.lookup_cons]
      show ((k == z) || inV (.str z) ((r.map (·.1)).map V.str)) = _
      by_cases h : z = k
      · subst h; rw [beq_self_eq_true]; rfl
      · rw [show (z == k) = false from beq_eq_false_iff_ne.mpr h, show (k == z) = false from beq_eq_false_iff_ne.mpr (Ne.symm h), Bool.false_or, ih]
  have e2 : basics = table.map (·.1) := by decide +kernel
  rw [e2]; exact e table
theorem flat_strs (l : List Str) : (l.map V.str).all flatV = true := by
  rw [List.all_eq_true]; intro v hv; obtain ⟨z, _, rfl⟩ := List.mem_map.mp hv; rfl
def spL (f : List Nat → Bool) : Sp := fun vs H Q _ => ∃ x : List Nat, vs = [.str (S x)] ∧ x.length ≤ 1000 ∧ Ch x ∧ ∀ H', Same H H' → Q (.bl (f x)) H'
theorem all_map (x : List Nat) (y : List Nat) : (x.map fun c => decide (c ∈ y)).all id = x.all fun c => decide (c ∈ y) := by rw [List.all_map]; rfl
theorem dash_name {x : List Nat} (h : 45 ∈ x) : nameB x = false := by
  unfold nameB
  have : (x.map fun c => decide (c ∈ az)).all id = false := by
    rw [List.all_eq_false]
    exact ⟨decide (45 ∈ az), List.mem_map.mpr ⟨45, h, rfl⟩, by decide⟩
  rw [this, Bool.false_and, Bool.and_false]
theorem scIsText : FnScope ["_law_text", "_law_basics", "_law_at"] ["_law_text"] (defScope sIsText) := ⟨rfl, rfl, rfl, by decide +kernel, rfl, by decide +kernel, by decide +kernel⟩
theorem ok_isText {f ga : Addr} {fd gad : FuncData} (F : Fun K "_law_is_text" "_law_is_text" sIsText f fd) (mlen : mg "len" = none)
    (G : FnOk P w K mg base CX0 1 ga gad ["_law_text", "_law_signs"] spAllIn) (bG : L2.Binds K gad ["_law_text", "_law_signs"] []) (kG : keepIn K (.ref ga) = true) (mG : mg "_law_all_in" = some (.ref ga)) : FnOk P w K mg base CX0 2 f fd ["_law_text"] (spL wordB) := by
  refine F.ok scIsText (fun vs H Q E h => ?_) (fun cdv A outer s H vs Q E hr h => ?_)
  · obtain ⟨x, rfl, _⟩ := h
    rfl
  obtain ⟨x, rfl, hl, hx, q⟩ := h
  refine ⟨_, pss_cons (ps_set (i := 1) scIsText.nd rfl (.inl rfl) (pe_split pe_str pe_str))
    (pss_cons (ps_if (pt_cmpR op_in_seq (pv 0) (pv 1) rfl) (pss_one (ps_ret pe_bl)) pss_nil)
    (pss_cons (ps_if (pt_cmpR op_ne (pe_m1 PySem.F.slot_str_count PySem.F.type_str_count mt_count (pv 0) pe_str) pe_int (nomark _)) (pss_one (ps_ret (pe_and (pe_chain op_lt op_lt pe_int (pe_callB call_len_str (by rfl) mlen PySem.boot_len (pa_cons (pv 0) pa_nil)) pe_int) (pe_one (pe_call G hr rfl mG kG bG .nil pass0 (pa_cons (pv 0) (pa_cons pe_str pa_nil))))))) pss_nil)
    (pss_cons (ps_set (i := 2) scIsText.nd rfl (.inl rfl) (pe_bmS PySem.F.plainAttrs_str PySem.F.slot_str_index PySem.F.type_str_index (mt_indexX rfl takes0) (pv 0) (pa_cons pe_str pa_nil)))
    (pss_cons (ps_if (PW.pt (pw_or (pt_cmpR op_gt (pv 2) pe_int (nomark _)) (pw_or1 (pt_cmpR op_gt (pe_op op_sub (pe_op op_sub (pe_callB call_len_str (by rfl) mlen PySem.boot_len (pa_cons (pv 0) pa_nil)) (pv 2)) pe_int) pe_int (nomark _))))) (pss_one (ps_ret pe_bl)) pss_nil)
    (pss_one (ps_ret (pe_and (pe_cmpR op_eq (pe_slice sl_str (pv 0) po_none (po_some (pv 2))) (pe_slice sl_str pe_str po_none (po_some (pv 2))) (nomark _))
      (pe_one (pe_call G hr rfl mG kG bG .nil pass0 (pa_cons (pe_slice sl_str (pv 0) (po_some (pe_op op_add (pv 2) pe_int)) po_none) (pa_cons (pe_slice sl_str (pv 0) po_none (po_some (pv 2))) pa_nil))))))))))), ?_⟩
  have e4 : ("abcdefghijklmnopqrstuvwxyz" : Str) = S az := by decide +kernel
  rw [e4]
  refine ⟨⟨_, rfl⟩, _, _, rfl, rfl, (by decide +kernel), (by decide +kernel), fun b nb => ?_⟩
  rw [basics_split]
  have sb : Same H (upd H b (.lst (basics.map V.str))) := same_new nb _
  have hb0 : upd H b (.lst (basics.map V.str)) b = some (.lst (basics.map V.str)) := upd_same
  refine ⟨_, rfl, _, rfl, b, _, rfl, .inl (SqL.of hb0), rfl, flat_strs _, _, rfl, ?_⟩
  show if inV (.str (S x)) (basics.map V.str) = true then _ else _
  rw [in_basics]
  have q : ∀ H', Same (upd H b (.lst (basics.map V.str))) H' → Q (.bl (wordB x)) H' := fun H' s => q H' (sb.trans s)
  unfold wordB at q
  cases htab : (table.lookup (S x)).isSome with
  | true =>
    rw [htab] at q
    exact iteT (q _ (Same.refl _))
  | false =>
  rw [htab, Bool.false_or] at q
  refine iteF ?_
  generalize upd H b (.lst (basics.map V.str)) = H at q sb hb0 ⊢
  have e1 : ("-" : Str) = S [45] := by decide +kernel
  have e3 : ("abcdefgh" : Str) = S abc8 := by decide +kernel
  rw [e1, e3]
  refine ⟨_, rfl, ⟨_, rfl⟩, _, _, rfl, rfl, rfl, _, rfl, ?_⟩
  have ec : Txt.count (S x) (S [45]) = (x.count 45 : Nat) := (PyProof.Rows.count_cnt (S x) 45).trans (cnt_len x)
  rw [ec]
  cases hpar : TL.par [45] [] x with
  | none =>
    have h0 : x.count 45 = 0 := List.count_eq_zero.mpr (par_no x [] hpar)
    have hb : shufB x = false := by unfold shufB; rw [hpar]
    rw [h0]
    rw [hb, Bool.false_or] at q
    refine iteT ?_
    unfold nameB at q
    rw [all_map, htab, Bool.not_false, Bool.and_true] at q
    refine ⟨_, rfl, _, rfl, hsz hl, _, _, rfl, rfl, _, rfl, ?_⟩
    rw [S_len]
    refine ite2 (fun c => ?_) (fun c => ?_)
    · have c' : (0 : Int) < (x.length : Int) := of_decide_eq_true c
      rw [decide_eq_true (show 1 ≤ x.length by omega), Bool.true_and] at q
      refine ⟨_, _, rfl, rfl, _, rfl, ?_⟩
      refine ite2 (fun d => ?_) (fun d => ?_)
      · have d' : (x.length : Int) < 9 := of_decide_eq_true d
        rw [decide_eq_true (show x.length ≤ 8 by omega), Bool.true_and] at q
        exact ⟨_, rfl, x, az, rfl, hl, hx, q⟩
      · have d' : ¬ (x.length : Int) < 9 := fun z => d (decide_eq_true z)
        rw [decide_eq_false (show ¬ x.length ≤ 8 by omega), Bool.false_and] at q
        exact q _ (Same.refl _)
    · have c' : ¬ (0 : Int) < (x.length : Int) := fun z => c (decide_eq_true z)
      rw [decide_eq_false (show ¬ 1 ≤ x.length by omega), Bool.false_and, Bool.false_and] at q
      exact ⟨_, rfl, iteF (q _ (Same.refl _))⟩
  | some tl =>
  obtain ⟨t, l⟩ := tl
  have hb : shufB x = (decide (abc8.take t.length = t) && (decide (l.length ≤ 12) && (l.map fun c => decide (c ∈ t)).all id)) := by unfold shufB; rw [hpar]
  rw [all_map] at hb
  obtain ⟨p, ep, ex, hp⟩ := par_spec x [] t l hpar
  rw [List.nil_append] at ep
  subst ep
  have hcount : x.count 45 = 1 + l.count 45 := by
    rw [ex, List.count_append, List.count_eq_zero.mpr hp, List.count_cons_self]; omega
  by_cases hc : l.count 45 = 0
  · have hl45 : 45 ∉ l := List.count_eq_zero.mp hc
    rw [hcount, hc]
    refine iteF ?_
    rw [dash_name (x := x) (by rw [ex]; exact List.mem_append.mpr (.inr (List.mem_cons_self ..))), Bool.or_false] at q
    have hi := index_dash ex hp hl45
    refine ⟨_, rfl, rfl, _, _, rfl, rfl, fun k hk => ?_, fun hk => by rw [hi] at hk; cases hk⟩
    rw [hi] at hk
    cases hk
    have lx : x.length = t.length + 1 + l.length := by rw [ex, List.length_append, List.length_cons]; omega
    have tx : x.take t.length = t := by rw [ex, List.take_left']; rfl
    have dx : x.drop (t.length + 1) = l := by rw [ex, List.drop_append]; simp
    refine ⟨_, rfl, _, _, rfl, rfl, _, rfl, ?_⟩
    refine ite2 (fun c => ?_) (fun c => ?_)
    · have c' : (8 : Int) < (t.length : Int) := of_decide_eq_true c
      have hne : ¬ abc8.take t.length = t := fun z => by
        have := congrArg List.length z
        rw [List.length_take] at this
        have h8 : abc8.length = 8 := rfl
        omega
      rw [decide_eq_false hne, Bool.false_and] at hb
      rw [hb] at q
      exact iteT (q H (Same.refl H))
    have c' : ¬ (8 : Int) < (t.length : Int) := fun z => c (decide_eq_true z)
    refine ⟨_, rfl, _, rfl, hsz hl, _, rfl, _, _, rfl, rfl, _, _, rfl, rfl, _, _, rfl, rfl, _, rfl, ?_⟩
    rw [S_len]
    refine ite2 (fun d => ?_) (fun d => ?_)
    · have d' : (12 : Int) < (x.length : Int) - (t.length : Int) - 1 := of_decide_eq_true d
      rw [decide_eq_false (show ¬ l.length ≤ 12 by omega), Bool.false_and, Bool.and_false] at hb
      rw [hb] at q
      exact q H (Same.refl H)
    have d' : ¬ (12 : Int) < (x.length : Int) - (t.length : Int) - 1 := fun z => d (decide_eq_true z)
    rw [decide_eq_true (show l.length ≤ 12 by omega), Bool.true_and] at hb
    refine ⟨_, rfl, _, rfl, _, rfl, _, rfl, hsz hl, _, rfl, _, rfl, _, rfl, hsz (show abc8.length ≤ 1000 by decide), ?_⟩
    rw [cutS_to (Int.natCast_nonneg _), cutS_to (Int.natCast_nonneg _), Int.toNat_natCast, tx]
    refine ⟨rfl, _, rfl, ?_⟩
    by_cases ht : abc8.take t.length = t
    · rw [decide_eq_true ht, Bool.true_and] at hb
      rw [decide_eq_true (show V.str (S t) = V.str (S (abc8.take t.length)) by rw [ht])]
      refine iteT ?_
      refine ⟨_, rfl, _, rfl, _, _, rfl, rfl, _, rfl, _, rfl, hsz hl, _, rfl, _, rfl, _, rfl, _, rfl, hsz hl, ?_⟩
      rw [cutS_to (Int.natCast_nonneg _), cutS_from (by omega), Int.toNat_natCast, tx, show ((t.length : Int) + 1).toNat = t.length + 1 by omega, dx]
      rw [hb] at q
      exact ⟨l, t, rfl, by omega, hx.sub (fun c hc => by rw [ex]; exact List.mem_append.mpr (.inr (List.mem_cons_of_mem _ hc))), q⟩
    · rw [decide_eq_false ht, Bool.false_and] at hb
      rw [decide_eq_false (show ¬ V.str (S t) = V.str (S (abc8.take t.length)) from fun z => ht (S_inj (V.str.inj z)).symm)]
      rw [hb] at q
      exact iteF (q H (Same.refl H))
  · have hne : ¬ ((x.count 45 : Nat) : Int) = 1 := by rw [hcount]; omega
    have : (!decide (V.int ((x.count 45 : Nat) : Int) = V.int 1)) = true := by
      rw [decide_eq_false (fun z => hne (V.int.inj z))]; rfl
    rw [this]
    have h45 : 45 ∈ l := List.count_pos_iff.mp (Nat.pos_of_ne_zero hc)
    have hb2 : shufB x = false := by
      rw [hb]
      by_cases ht : abc8.take t.length = t
      · have hno : (l.all fun c => decide (c ∈ t)) = false := by
          rw [List.all_eq_false]
          exact ⟨45, h45, by simpa using hp⟩
        rw [hno, Bool.and_false, Bool.and_false]
      · rw [decide_eq_false ht, Bool.false_and]
    rw [hb2, Bool.false_or] at q
    refine iteT ?_
    unfold nameB at q
    rw [all_map, htab, Bool.not_false, Bool.and_true] at q
    refine ⟨_, rfl, _, rfl, hsz hl, _, _, rfl, rfl, _, rfl, ?_⟩
    rw [S_len]
    refine ite2 (fun c => ?_) (fun c => ?_)
    · have c' : (0 : Int) < (x.length : Int) := of_decide_eq_true c
      rw [decide_eq_true (show 1 ≤ x.length by omega), Bool.true_and] at q
      refine ⟨_, _, rfl, rfl, _, rfl, ?_⟩
      refine ite2 (fun d => ?_) (fun d => ?_)
      · have d' : (x.length : Int) < 9 := of_decide_eq_true d
        rw [decide_eq_true (show x.length ≤ 8 by omega), Bool.true_and] at q
        exact ⟨_, rfl, x, az, rfl, hl, hx, q⟩
      · have d' : ¬ (x.length : Int) < 9 := fun z => d (decide_eq_true z)
        rw [decide_eq_false (show ¬ x.length ≤ 8 by omega), Bool.false_and] at q
        exact q _ (Same.refl _)
    · have c' : ¬ (0 : Int) < (x.length : Int) := fun z => c (decide_eq_true z)
      rw [decide_eq_false (show ¬ 1 ≤ x.length by omega), Bool.false_and, Bool.false_and] at q
      exact ⟨_, rfl, iteF (q _ (Same.refl _))⟩
end
end K02
namespace K02
open PySem PySem.W L2 SX Cm
/-- the four sorts -/
inductive So | th | wd | rw | st
def So.s : So → Str
  | .th => "thing"
  | .wd => "word"
  | .rw => "row"
  | .st => "stack"
/-- a number that a thing may hold -/
def numB : PyData → Bool
  | .int n => decide (0 ≤ n) && decide (n < 10 ^ 12)
  | _ => false
def wB (z : Str) : Bool := wordB (TL.tl z)
def askT : PyData → Option (List (So × PyData))
  | .tuple [.str z, h] => if z = "number" then (if numB h = true then some [] else none) else if z = "row" then some [(.rw, h)] else if z = "list" then some [(.st, h)] else none
  | _ => none
def askW : PyData → Option (List (So × PyData))
  | .str z => if wB z = true then some [] else none
  | .tuple [.str z, h] => if z = "push" then some [(.th, h)] else none
  | _ => none
def askP (s : So) : PyData → Option (List (So × PyData))
  | .tuple ds => some (ds.map fun d => (s, d))
  | _ => none
def ask : So → PyData → Option (List (So × PyData))
  | .th, d => askT d
  | .wd, d => askW d
  | .rw, d => askP .wd d
  | .st, d => askP .th d
def wsz (l : List (So × PyData)) : Nat := szs (l.map (·.2))
theorem ask_lt {s : So} {d : PyData} {l : List (So × PyData)} (h : ask s d = some l) : wsz l < sz d := by
  have two : ∀ (z : Str) (x : PyData), sz (.tuple [.str z, x]) = 1 + (1 + (sz x + 0)) := fun z x => by rw [sz_tuple]; rfl
  have one : ∀ (s : So) (x : PyData), wsz [(s, x)] = sz x + 0 := fun s x => rfl
  have zero : wsz [] = 0 := rfl
  cases s with
  | th =>
    have h : askT d = some l := h
    unfold askT at h
    split at h
    · rename_i z x
      rw [two]
      split at h
      · split at h
        · cases h; omega
        · cases h
      · split at h
        · cases h; rw [one]; omega
        · split at h
          · cases h; rw [one]; omega
          · cases h
    · cases h
  | wd =>
    have h : askW d = some l := h
    unfold askW at h
    split at h
    · rename_i z
      split at h
      · cases h; exact Nat.lt_of_lt_of_le (by decide) (sz_pos _)
      · cases h
    · rename_i z x
      rw [two]
      split at h
      · cases h; rw [one]; omega
      · cases h
    · cases h
  | rw =>
    cases d with
    | tuple ds =>
      cases (show some (ds.map fun d => (So.wd, d)) = some l from h)
      rw [sz_tuple]; unfold wsz; rw [List.map_map]
      show szs (ds.map id) < _
      rw [List.map_id]; omega
    | _ => cases (show (none : Option (List (So × PyData))) = some l from h)
  | st =>
    cases d with
    | tuple ds =>
      cases (show some (ds.map fun d => (So.th, d)) = some l from h)
      rw [sz_tuple]; unfold wsz; rw [List.map_map]
      show szs (ds.map id) < _
      rw [List.map_id]; omega
    | _ => cases (show (none : Option (List (So × PyData))) = some l from h)
def okF : Nat → So → PyData → Bool
  | 0, _, _ => false
  | n + 1, s, d => match ask s d with
    | none => false
    | some l => l.all fun p => okF n p.1 p.2
theorem okF_any : ∀ (n m : Nat) (s : So) (d : PyData), sz d ≤ n → sz d ≤ m → okF n s d = okF m s d
  | 0, _, _, d, h, _ => absurd h (by have := sz_pos d; omega)
  | _, 0, _, d, _, h => absurd h (by have := sz_pos d; omega)
  | n + 1, m + 1, s, d, h1, h2 => by
    show (match ask s d with | none => false | some l => l.all fun p => okF n p.1 p.2) = (match ask s d with | none => false | some l => l.all fun p => okF m p.1 p.2)
    cases hA : ask s d with
    | none => rfl
    | some l =>
      have hl := ask_lt hA
      show (l.all fun p => okF n p.1 p.2) = (l.all fun p => okF m p.1 p.2)
      have e : ∀ (l : List (So × PyData)), wsz l < sz d → (l.all fun p => okF n p.1 p.2) = (l.all fun p => okF m p.1 p.2) := by
        intro l
        induction l with
        | nil => intro _; rfl
        | cons a r ih =>
          intro h
          have h' : sz a.2 + wsz r < sz d := h
          rw [List.all_cons, List.all_cons, ih (by omega), okF_any n m a.1 a.2 (by omega) (by omega)]
      exact e l hl
/-- whether anything is of a sort -/
def ok (s : So) (d : PyData) : Bool := okF (sz d) s d
theorem ok_eq (s : So) (d : PyData) : ok s d = (match ask s d with | none => false | some l => l.all fun p => ok p.1 p.2) := by
  unfold ok
  obtain ⟨n, hn⟩ : ∃ n, sz d = n + 1 := ⟨sz d - 1, by have := sz_pos d; omega⟩
  rw [hn]
  show (match ask s d with | none => false | some l => l.all fun p => okF n p.1 p.2) = _
  cases hA : ask s d with
  | none => rfl
  | some l =>
    have hl := ask_lt hA
    show (l.all fun p => okF n p.1 p.2) = (l.all fun p => okF (sz p.2) p.1 p.2)
    have e : ∀ (l : List (So × PyData)), wsz l < sz d → (l.all fun p => okF n p.1 p.2) = (l.all fun p => okF (sz p.2) p.1 p.2) := by
      intro l
      induction l with
      | nil => intro _; rfl
      | cons a r ih =>
        intro h
        have h' : sz a.2 + wsz r < sz d := h
        rw [List.all_cons, List.all_cons, ih (by omega), okF_any n (sz a.2) a.1 a.2 (by omega) (Nat.le_refl _)]
    exact e l hl
theorem ok_none {s : So} {d : PyData} (h : ask s d = none) : ok s d = false := by rw [ok_eq, h]
theorem ok_some {s : So} {d : PyData} {l : List (So × PyData)} (h : ask s d = some l) : ok s d = l.all fun p => ok p.1 p.2 := by rw [ok_eq, h]
/-- what waits in has_form: the pairs stand in H, what they hold stood in H0 -/
inductive Wt (K : Frag) (L : List Addr) (H0 H : Hp) : List V → List (So × PyData) → Prop
  | nil : Wt K L H0 H [] []
  | cons {a : Addr} {u : V} {vs : List V} {s : So} {d : PyData} {l : List (So × PyData)} : SqT K H a [.str s.s, u] → Bt K L H0 u d → Wt K L H0 H vs l → Wt K L H0 H (.ref a :: vs) ((s, d) :: l)
theorem Wt.mono {K : Frag} {L : List Addr} {H0 H H' : Hp} (k : TKs K H H') {vs : List V} {l : List (So × PyData)} (h : Wt K L H0 H vs l) : Wt K L H0 H' vs l := by
  induction h with
  | nil => exact .nil
  | cons h1 h2 _ ih => exact .cons (k _ _ h1) h2 ih
theorem Wt.append {K : Frag} {L : List Addr} {H0 H : Hp} {vs vs' : List V} {l l' : List (So × PyData)} (h : Wt K L H0 H vs l) (h' : Wt K L H0 H vs' l') : Wt K L H0 H (vs ++ vs') (l ++ l') := by
  induction h with
  | nil => exact h'
  | cons h1 h2 _ ih => exact .cons h1 h2 ih
theorem Wt.len {K : Frag} {L : List Addr} {H0 H : Hp} {vs : List V} {l : List (So × PyData)} (h : Wt K L H0 H vs l) : vs.length = l.length := by
  induction h with
  | nil => rfl
  | cons _ _ _ ih => exact congrArg (· + 1) ih
theorem Wt.snoc {K : Frag} {L : List Addr} {H0 H : Hp} {x : V} : ∀ {v : List V} {l : List (So × PyData)}, Wt K L H0 H (v ++ [x]) l → ∃ l' a s d u, l = l' ++ [(s, d)] ∧ Wt K L H0 H v l' ∧ x = .ref a ∧ SqT K H a [.str s.s, u] ∧ Bt K L H0 u d
  | [], l, h => by
    cases h with
    | cons h1 h2 t => cases t; exact ⟨[], _, _, _, _, rfl, .nil, rfl, h1, h2⟩
  | y :: r, l, h => by
    cases h with
    | cons h1 h2 t =>
      obtain ⟨l', a, s, d, u, rfl, g1, g2, g3, g4⟩ := Wt.snoc t
      exact ⟨_ :: l', a, s, d, u, rfl, .cons h1 h2 g1, g2, g3, g4⟩
theorem wsz_append (a b : List (So × PyData)) : wsz (a ++ b) = wsz a + wsz b := by unfold wsz; rw [List.map_append, szs_append]
theorem wsz_len (l : List (So × PyData)) : l.length ≤ wsz l := by
  have := szs_len (l.map (·.2)); rw [List.length_map] at this; exact this
end K02
namespace K02
open PySem PySem.W L2 SX Cm
theorem S_tl (z : Str) : S (TL.tl z) = z := by
  obtain ⟨a⟩ := z
  show (⟨a.toList.toArray⟩ : Str) = ⟨a⟩
  rw [Array.toArray_toList]
theorem tl_len {z : Str} {n : Nat} (h : Tx z n) : (TL.tl z).length ≤ n := by rw [← TL.len_tl]; exact h.len
theorem tl_ch {z : Str} {n : Nat} (h : Tx z n) : Ch (TL.tl z) := fun c hc => h.ch c hc
theorem decS (y z : Str) : decide (V.str y = V.str z) = decide (y = z) := by
  by_cases h : y = z
  · rw [decide_eq_true h, decide_eq_true (by rw [h])]
  · rw [decide_eq_false h, decide_eq_false (fun q => h (V.str.inj q))]
def wholeB : PyData → Bool := fun d => kIntB d && !kBoolB d
def markB : PyData → Bool
  | .tuple (.str _ :: _) => true
  | _ => false
theorem markB_of {d : PyData} (h : markB d = true) : ∃ z ds, d = .tuple (.str z :: ds) := by
  unfold markB at h
  split at h
  · exact ⟨_, _, rfl⟩
  · cases h
structure Ty4 (mg : Str → Option Value) : Prop where
  isi : mg "isinstance" = none
  str : mg "str" = none
  len : mg "len" = none
  tup : mg "tuple" = none
  int : mg "int" = none
  bool : mg "bool" = none
section
variable {P : Program} {w : World} {K : PySem.W.Frag} {mg : Str → Option Value} {base : Heap} {L : List Addr}
/-- f of any value -/
def spB (K : Frag) (L : List Addr) (f : PyData → Bool) : Sp := fun vs H Q _ => ∃ (v : V) (d : PyData), vs = [v] ∧ Bt K L H v d ∧ Q (.bl (f d)) H
theorem scWhole : FnScope ["thing"] ["thing"] (defScope sIsWhole) := ⟨rfl, rfl, rfl, by decide +kernel, rfl, by decide +kernel, by decide +kernel⟩
theorem ok_whole {f : Addr} {fd : FuncData} (F : Fun K "is_whole" "is_whole" sIsWhole f fd) (T : Ty4 mg) : FnOk P w K mg base CX0 1 f fd ["thing"] (spB K L wholeB) := by
  refine F.ok scWhole (fun vs H Q E h => ?_) (fun cdv A outer s H vs Q E hr h => ?_)
  · obtain ⟨v, d, rfl, _⟩ := h
    rfl
  obtain ⟨v, d, rfl, hv, q⟩ := h
  refine ⟨_, pss_one (ps_ret (pe_and (pe_callB call_isi (by rfl) T.isi PyProof.Rows.boot_isinstance (pa_cons (pv 0) (pa_cons (pe_bltn (v := .ty "int") (by rfl) T.int (by decide +kernel) rfl) pa_nil)))
    (pe_one (pe_not (pe_callB call_isi (by rfl) T.isi PyProof.Rows.boot_isinstance (pa_cons (pv 0) (pa_cons (pe_bltn (v := .ty "bool") (by rfl) T.bool (by decide +kernel) rfl) pa_nil))))))), ?_⟩
  obtain ⟨t, ht, _, _, h3, h4⟩ := hv.ty
  unfold wholeB at q
  refine ⟨_, rfl, _, _, _, _, _, rfl, .ty _, ht, h3, _, rfl, ?_⟩
  cases hk : kIntB d with
  | false =>
    rw [hk, Bool.false_and] at q
    exact iteF q
  | true =>
    rw [hk, Bool.true_and] at q
    refine iteT ?_
    exact ⟨_, rfl, _, _, _, _, _, rfl, .ty _, ht, h4, _, rfl, q⟩
theorem scMarked : FnScope ["thing"] ["thing"] (defScope sMarked) := ⟨rfl, rfl, rfl, by decide +kernel, rfl, by decide +kernel, by decide +kernel⟩
theorem ok_marked {f : Addr} {fd : FuncData} (F : Fun K "is_marked" "is_marked" sMarked f fd) (T : Ty4 mg) : FnOk P w K mg base CX0 1 f fd ["thing"] (spB K L markB) := by
  refine F.ok scMarked (fun vs H Q E h => ?_) (fun cdv A outer s H vs Q E hr h => ?_)
  · obtain ⟨v, d, rfl, _⟩ := h
    rfl
  obtain ⟨v, d, rfl, hv, q⟩ := h
  refine ⟨_, pss_one (ps_ret (pe_and (pe_callB call_isi (by rfl) T.isi PyProof.Rows.boot_isinstance (pa_cons (pv 0) (pa_cons (pe_bltn (v := .ty "tuple") (by rfl) T.tup (by decide +kernel) rfl) pa_nil)))
    (pe_and (pe_cmpR op_gt (pe_callB call_len_seq (by rfl) T.len PySem.boot_len (pa_cons (pv 0) pa_nil)) pe_int (nomark _))
    (pe_one (pe_callB call_isi (by rfl) T.isi PyProof.Rows.boot_isinstance (pa_cons (pe_ix ix_tup (pv 0) pe_int (fun _ _ => rfl)) (pa_cons (pe_bltn (v := .ty "str") (by rfl) T.str (by decide +kernel) rfl) pa_nil))))))), ?_⟩
  obtain ⟨t, ht, h1, _⟩ := hv.ty
  refine ⟨_, rfl, _, _, _, _, _, rfl, .ty _, ht, h1, _, rfl, ?_⟩
  cases hk : kTupB d with
  | false =>
    have : markB d = false := by
      cases hm : markB d with
      | false => rfl
      | true => obtain ⟨z, ds, rfl⟩ := markB_of hm; cases hk
    rw [this] at q
    exact iteF q
  | true =>
    refine iteT ?_
    obtain ⟨ds, rfl⟩ := kTupB_of hk
    obtain ⟨a, xs, rfl, ha, hx⟩ := hv.tupD
    refine ⟨_, rfl, a, xs, rfl, .inr ha, _, _, rfl, rfl, _, rfl, ?_⟩
    cases hx with
    | nil => exact iteF q
    | @cons u us e es h t =>
      refine ite2 (fun _ => ?_) (fun z => absurd (decide_eq_true (show (0 : Int) < (((u :: us).length : Nat) : Int) by rw [List.length_cons]; omega)) z)
      obtain ⟨ty, hty, _, h2, _⟩ := h.ty
      have e2 : markB (.tuple (e :: es)) = kStrB e := by cases e <;> rfl
      rw [e2] at q
      exact ⟨_, rfl, a, _, 0, _, rfl, rfl, ha, atI_nat (j := 0) rfl, _, _, _, _, _, rfl, .ty _, hty, h2, q⟩
theorem scNum : FnScope ["thing"] ["thing"] (defScope sIsNum) := ⟨rfl, rfl, rfl, by decide +kernel, rfl, by decide +kernel, by decide +kernel⟩
theorem ok_num {f g : Addr} {fd gd : FuncData} (F : Fun K "is_number" "is_number" sIsNum f fd) (W : FnOk P w K mg base CX0 1 g gd ["thing"] (spB K L wholeB)) (bW : L2.Binds K gd ["thing"] []) (kW : keepIn K (.ref g) = true) (mW : mg "is_whole" = some (.ref g)) (mN : ∃ t, mg "NUMBERS" = some (.int 1000000000000 t)) : FnOk P w K mg base CX0 2 f fd ["thing"] (spB K L numB) := by
  refine F.ok scNum (fun vs H Q E h => ?_) (fun cdv A outer s H vs Q E hr h => ?_)
  · obtain ⟨v, d, rfl, _⟩ := h
    rfl
  obtain ⟨v, d, rfl, hv, q⟩ := h
  obtain ⟨tN, mN⟩ := mN
  refine ⟨_, pss_one (ps_ret (pe_and (pe_call W hr rfl mW kW bW .nil pass0 (pa_cons (pv 0) pa_nil)) (pe_one (pe_chain op_le op_lt pe_int (pv 0) (pe_glob (v := .int 1000000000000) rfl mN ⟨_, rfl⟩))))), ?_⟩
  refine ⟨_, rfl, v, d, rfl, hv, _, rfl, ?_⟩
  cases hk : wholeB d with
  | false =>
    have : numB d = false := by cases d <;> first | rfl | cases hk
    rw [this] at q
    exact iteF q
  | true =>
    refine iteT ?_
    obtain ⟨n, rfl⟩ : ∃ n, d = .int n := by
      cases d with
      | int n => exact ⟨n, rfl⟩
      | _ => cases hk
    cases hv
    have q : Q (.bl (decide (0 ≤ n) && decide (n < 10 ^ 12))) H := q
    refine ⟨_, rfl, _, _, rfl, rfl, _, rfl, ?_⟩
    refine ite2 (fun c => ?_) (fun c => ?_)
    · have c' : (0 : Int) ≤ n := of_decide_eq_true c
      rw [decide_eq_true c', Bool.true_and] at q
      exact ⟨_, _, rfl, rfl, q⟩
    · have c' : ¬ (0 : Int) ≤ n := fun z => c (decide_eq_true z)
      rw [decide_eq_false c', Bool.false_and] at q
      exact q
/-- what a value is asked for -/
def spAskX (K : Frag) (L : List Addr) (g : PyData → Option (List (So × PyData))) : Sp := fun vs H Q _ => ∃ (v : V) (d : PyData) (H0 : Hp), vs = [v] ∧ Same H0 H ∧ Bt K L H0 v d ∧ sz d ≤ 900000 ∧ (g d = none → ∀ H', Same H H' → Q .non H') ∧
  (∀ l, g d = some l → ∀ (p : Addr) (us : List V) (H' : Hp), Same H H' → H p = none → H' p = some (.lst us) → Wt K L H0 H' us l → Q (.ref p) H')
theorem scAskT : FnScope ["part", "sort", "held"] ["part"] (defScope sAskedThing) := ⟨rfl, rfl, rfl, by decide +kernel, rfl, by decide +kernel, by decide +kernel⟩
theorem ok_askT {f gm gn : Addr} {fd gmd gnd : FuncData} (F : Fun K "asked_of_thing" "asked_of_thing" sAskedThing f fd) (T : Ty4 mg) (M : FnOk P w K mg base CX0 1 gm gmd ["thing"] (spB K L markB)) (bM : L2.Binds K gmd ["thing"] []) (kM : keepIn K (.ref gm) = true) (mM : mg "is_marked" = some (.ref gm))
    (N : FnOk P w K mg base CX0 2 gn gnd ["thing"] (spB K L numB)) (bN : L2.Binds K gnd ["thing"] []) (kN : keepIn K (.ref gn) = true) (mN : mg "is_number" = some (.ref gn)) : FnOk P w K mg base CX0 4 f fd ["part"] (spAskX K L askT) := by
  refine F.ok scAskT (fun vs H Q E h => ?_) (fun cdv A outer s H vs Q E hr h => ?_)
  · obtain ⟨v, d, H0, rfl, _⟩ := h
    rfl
  obtain ⟨v, d, H0, rfl, s0, hv0, hz, q0, q1⟩ := h
  have hv := hv0.mono (.of s0)
  refine ⟨_, pss_cons (ps_if (PW.pt (pw_or (pt_not (pt_val (pe_call M (hr.mono (by decide)) rfl mM kM bM .nil pass0 (pa_cons (pv 0) pa_nil)))) (pw_or1 (pt_cmpR op_ne (pe_callB call_len_seq (by rfl) T.len PySem.boot_len (pa_cons (pv 0) pa_nil)) pe_int (nomark _))))) (pss_one (ps_ret pe_non)) pss_nil)
    (pss_cons (ps_asg (pv 0) (pg_tup rfl (pgs_cons (pg_name (i := 1) scAskT.nd rfl (.inl rfl)) (pgs_cons (pg_name (i := 2) scAskT.nd rfl (.inl rfl)) pgs_nil))))
    (pss_cons (ps_if (PW.pt (pw_and (pt_cmpR op_eq (pv 1) pe_str (nomark _)) (pw_and1 (pt_val (pe_call N (hr.mono (by decide)) rfl mN kN bN .nil pass0 (pa_cons (pv 2) pa_nil)))))) (pss_one (ps_ret (pe_lst pa_nil))) pss_nil)
    (pss_cons (ps_if (pt_cmpR op_eq (pv 1) pe_str (nomark _)) (pss_one (ps_ret (pe_lst (pa_cons (pe_tup (pa_cons pe_str (pa_cons (pv 2) pa_nil))) pa_nil)))) pss_nil)
    (pss_cons (ps_if (pt_cmpR op_eq (pv 1) pe_str (nomark _)) (pss_one (ps_ret (pe_lst (pa_cons (pe_tup (pa_cons pe_str (pa_cons (pv 2) pa_nil))) pa_nil)))) pss_nil)
    (pss_one (ps_ret pe_non)))))), ?_⟩
  refine ⟨_, rfl, v, d, rfl, hv, _, rfl, ?_⟩
  cases hm : markB d with
  | false =>
    have : askT d = none := by
      unfold askT
      split
      · cases hm
      · rfl
    exact iteT (iteT (q0 this H (Same.refl H)))
  | true =>
  refine iteF ?_
  obtain ⟨z, ds, rfl⟩ := markB_of hm
  obtain ⟨a, xs, rfl, ha, hx⟩ := hv0.tupD
  have ha := TKs.of s0 _ _ ha
  have lx := hx.len
  refine ⟨_, rfl, a, xs, rfl, .inr ha, rfl, _, rfl, ?_⟩
  rcases ds with _ | ⟨e, _ | ⟨e2, r⟩⟩
  · have : (!decide (V.int (xs.length : Int) = V.int 2)) = true := by rw [lx]; rfl
    rw [this]
    exact iteT (q0 rfl H (Same.refl H))
  rotate_left
  · have : (!decide (V.int (xs.length : Int) = V.int 2)) = true := by
      rw [lx, decide_eq_false (fun z => by have := V.int.inj z; simp only [List.length_cons] at this; omega)]; rfl
    rw [this]
    exact iteT (q0 rfl H (Same.refl H))
  have : (!decide (V.int (xs.length : Int) = V.int 2)) = false := by rw [lx]; rfl
  rw [this]
  refine iteF ?_
  cases hx with
  | cons hz1 hx =>
  cases hz1
  cases hx with
  | @cons u _ _ _ hu hx =>
  cases hx
  refine ⟨_, rfl, a, _, rfl, ha, rfl, _, _, rfl, _, _, rfl, rfl, ?_⟩
  have eask : askT (.tuple [.str z, e]) = if z = "number" then (if numB e = true then some [] else none) else if z = "row" then some [(.rw, e)] else if z = "list" then some [(.st, e)] else none := rfl
  rw [eask] at q0 q1
  have one : ∀ (s : So) (t : Addr), H t = none → (∀ (p : Addr) (us : List V) (H' : Hp), Same H H' → H p = none → H' p = some (.lst us) → Wt K L H0 H' us [(s, e)] → Q (.ref p) H') → ∀ p, upd H t (.tup [.str s.s, u]) p = none → Q (.ref p) (upd (upd H t (.tup [.str s.s, u])) p (.lst [.ref t])) := by
    intro s t nt q p np
    have s1 : Same H (upd H t (.tup [.str s.s, u])) := same_new nt _
    have s2 := s1.trans (same_new np (.lst [.ref t]))
    exact q p _ _ s2 (s1.free np) upd_same (.cons (SqT.of (kn upd_same np)) hu .nil)
  have fin : z ≠ "row" → z ≠ "list" → (∀ H', Same H H' → Q .non H') → ∀ (σ : St), True := fun _ _ _ _ => trivial
  refine ⟨_, rfl, rfl, _, rfl, ?_⟩
  rw [decS]
  by_cases h1 : z = "number"
  · subst h1
    rw [if_pos rfl] at q0 q1
    rw [decide_eq_true rfl]
    refine iteT ?_
    refine ⟨_, rfl, u, e, rfl, hu.mono (.of s0), _, rfl, ?_⟩
    cases hn : numB e with
    | true =>
      rw [hn, if_pos rfl] at q1
      exact iteT ⟨(by show 0 ≤ sizeLine; decide), fun p np => q1 [] rfl p [] _ (same_new np _) np upd_same .nil⟩
    | false =>
      rw [hn, if_neg (by decide)] at q0
      refine iteF ?_
      refine ⟨_, rfl, rfl, _, rfl, ?_⟩
      rw [decS, decide_eq_false (by decide)]
      refine iteF ?_
      refine ⟨_, rfl, rfl, _, rfl, ?_⟩
      rw [decS, decide_eq_false (by decide)]
      exact iteF (q0 rfl H (Same.refl H))
  · rw [if_neg h1] at q0 q1
    rw [decide_eq_false h1]
    refine iteF (iteF ?_)
    refine ⟨_, rfl, rfl, _, rfl, ?_⟩
    rw [decS]
    by_cases h2 : z = "row"
    · rw [if_pos h2] at q1
      rw [decide_eq_true h2]
      refine iteT ?_
      exact ⟨_, rfl, (by show 2 ≤ sizeLine; decide), fun t nt => ⟨(by show 1 ≤ sizeLine; decide), one .rw t nt (q1 _ rfl)⟩⟩
    · rw [if_neg h2] at q0 q1
      rw [decide_eq_false h2]
      refine iteF ?_
      refine ⟨_, rfl, rfl, _, rfl, ?_⟩
      rw [decS]
      by_cases h3 : z = "list"
      · rw [if_pos h3] at q1
        rw [decide_eq_true h3]
        refine iteT ?_
        exact ⟨_, rfl, (by show 2 ≤ sizeLine; decide), fun t nt => ⟨(by show 1 ≤ sizeLine; decide), one .st t nt (q1 _ rfl)⟩⟩
      · rw [if_neg h3] at q0
        rw [decide_eq_false h3]
        exact iteF (q0 rfl H (Same.refl H))
end
end K02
namespace K02
open PySem PySem.W L2 SX Cm
section
variable {P : Program} {w : World} {K : PySem.W.Frag} {mg : Str → Option Value} {base : Heap} {L : List Addr}
theorem scAskW : FnScope ["part"] ["part"] (defScope sAskedWord) := ⟨rfl, rfl, rfl, by decide +kernel, rfl, by decide +kernel, by decide +kernel⟩
theorem ok_askW {f gt gm : Addr} {fd gtd gmd : FuncData} (F : Fun K "asked_of_word" "asked_of_word" sAskedWord f fd) (T : Ty4 mg) (W : FnOk P w K mg base CX0 3 gt gtd ["text"] spTW) (bW : L2.Binds K gtd ["text"] []) (kW : keepIn K (.ref gt) = true) (mW : mg "is_text_word" = some (.ref gt))
    (M : FnOk P w K mg base CX0 1 gm gmd ["thing"] (spB K L markB)) (bM : L2.Binds K gmd ["thing"] []) (kM : keepIn K (.ref gm) = true) (mM : mg "is_marked" = some (.ref gm)) : FnOk P w K mg base CX0 4 f fd ["part"] (spAskX K L askW) := by
  refine F.ok scAskW (fun vs H Q E h => ?_) (fun cdv A outer s H vs Q E hr h => ?_)
  · obtain ⟨v, d, H0, rfl, _⟩ := h
    rfl
  obtain ⟨v, d, H0, rfl, s0, hv0, hz, q0, q1⟩ := h
  have hv := hv0.mono (.of s0)
  refine ⟨_, pss_cons (ps_if (pt_val (pe_callB call_isi (by rfl) T.isi PyProof.Rows.boot_isinstance (pa_cons (pv 0) (pa_cons (pe_bltn (v := .ty "str") (by rfl) T.str (by decide +kernel) rfl) pa_nil))))
      (pss_one (ps_ret (pe_ifExp (pt_val (pe_call W hr rfl mW kW bW .nil pass0 (pa_cons (pv 0) pa_nil))) (pe_lst pa_nil) pe_non))) pss_nil)
    (pss_cons (ps_if (PW.pt (pw_and (pt_val (pe_call M (hr.mono (by decide)) rfl mM kM bM .nil pass0 (pa_cons (pv 0) pa_nil))) (pw_and (pt_cmpR op_eq (pe_callB call_len_seq (by rfl) T.len PySem.boot_len (pa_cons (pv 0) pa_nil)) pe_int (nomark _)) (pw_and1 (pt_cmpR op_eq (pe_ix ix_tup (pv 0) pe_int (fun _ _ => rfl)) pe_str (nomark _))))))
      (pss_one (ps_ret (pe_lst (pa_cons (pe_tup (pa_cons pe_str (pa_cons (pe_ix ix_tup (pv 0) pe_int (fun _ _ => rfl)) pa_nil))) pa_nil)))) pss_nil)
    (pss_one (ps_ret pe_non))), ?_⟩
  obtain ⟨ty, ht, _, h2, _⟩ := hv.ty
  refine ⟨_, rfl, _, _, _, _, _, rfl, .ty _, ht, h2, _, rfl, ?_⟩
  cases hk : kStrB d with
  | true =>
    obtain ⟨z, rfl⟩ := kStrB_of hk
    cases hv0 with
    | str hz =>
    refine iteT ?_
    have e : askW (.str z) = if wB z = true then some [] else none := rfl
    rw [e] at q0 q1
    refine ⟨_, rfl, TL.tl z, by rw [S_tl]; rfl, Nat.le_trans (tl_len hz) (by decide), fun H1 s1 => ⟨_, rfl, ?_⟩⟩
    show if wB z = true then _ else _
    cases hw : wB z with
    | true =>
      rw [hw, if_pos rfl] at q1
      exact iteT ⟨(by show 0 ≤ sizeLine; decide), fun p hp => q1 [] rfl p [] _ (s1.trans (same_new hp _)) (s1.free hp) upd_same .nil⟩
    | false =>
      rw [hw, if_neg (by decide)] at q0
      exact iteF (q0 rfl H1 s1)
  | false =>
    refine iteF ?_
    refine ⟨_, rfl, v, d, rfl, hv, _, rfl, ?_⟩
    cases hm : markB d with
    | false =>
      have : askW d = none := by
        unfold askW
        split
        · cases hk
        · cases hm
        · rfl
      exact iteF (iteF (q0 this H (Same.refl H)))
    | true =>
      refine iteT ?_
      obtain ⟨z, ds, rfl⟩ := markB_of hm
      obtain ⟨a, xs, rfl, ha, hx⟩ := hv0.tupD
      have ha := TKs.of s0 _ _ ha
      have lx := hx.len
      refine ⟨_, rfl, a, xs, rfl, .inr ha, rfl, _, rfl, ?_⟩
      rcases ds with _ | ⟨e, _ | ⟨e2, r⟩⟩
      · have : decide (V.int (xs.length : Int) = V.int 2) = false := by rw [lx]; rfl
        rw [this]
        exact iteF (iteF (q0 rfl H (Same.refl H)))
      rotate_left
      · have : decide (V.int (xs.length : Int) = V.int 2) = false := by
          rw [lx, decide_eq_false (fun z => by have := V.int.inj z; simp only [List.length_cons] at this; omega)]
        rw [this]
        exact iteF (iteF (q0 rfl H (Same.refl H)))
      have : decide (V.int (xs.length : Int) = V.int 2) = true := by rw [lx]; rfl
      rw [this]
      refine iteT ?_
      cases hx with
      | cons hz1 hx =>
      cases hz1
      cases hx with
      | @cons u _ _ _ hu hx =>
      cases hx
      have eask : askW (.tuple [.str z, e]) = if z = "push" then some [(.th, e)] else none := rfl
      rw [eask] at q0 q1
      refine ⟨_, rfl, a, _, 0, _, rfl, rfl, ha, atI_nat (j := 0) rfl, rfl, _, rfl, ?_⟩
      rw [decS]
      by_cases h1 : z = "push"
      · rw [if_pos h1] at q1
        rw [decide_eq_true h1]
        refine iteT ?_
        refine ⟨_, rfl, a, _, 1, _, rfl, rfl, ha, atI_nat (j := 1) rfl, (by show 2 ≤ sizeLine; decide), fun t nt => ⟨(by show 1 ≤ sizeLine; decide), fun p np => ?_⟩⟩
        have s1 : Same H (upd H t (.tup [.str "thing", u])) := same_new nt _
        have s2 := s1.trans (same_new np (.lst [.ref t]))
        exact q1 _ rfl p _ _ s2 (s1.free np) upd_same (.cons (SqT.of (kn upd_same np)) hu .nil)
      · rw [if_neg h1] at q0
        rw [decide_eq_false h1]
        exact iteF (q0 rfl H (Same.refl H))
/-- what is asked of a value of any of the sorts -/
def spAsk (K : Frag) (L : List Addr) : Sp := fun vs H Q _ => ∃ (so : So) (v : V) (d : PyData) (H0 : Hp), vs = [.str so.s, v] ∧ Same H0 H ∧ Bt K L H0 v d ∧ sz d ≤ 900000 ∧ (ask so d = none → ∀ H', Same H H' → Q .non H') ∧
  (∀ l, ask so d = some l → ∀ (p : Addr) (us : List V) (H' : Hp), Same H H' → H p = none → H' p = some (.lst us) → Wt K L H0 H' us l → Q (.ref p) H')
abbrev NA : List Str := ["sort", "part", "inner"]
theorem scAsk : FnScope NA ["sort", "part"] (defScope sAsked) := ⟨rfl, rfl, rfl, by decide +kernel, rfl, by decide +kernel, by decide +kernel⟩
theorem ok_ask {f gt gw sp : Addr} {fd gtd gwd : FuncData} (F : Fun K "asked_within" "asked_within" sAsked f fd) (T : Ty4 mg) (mS : mg "SORT_OF_PARTS" = some (.ref sp)) (dR : KDct K w sp "row" (.str "word")) (dS : KDct K w sp "stack" (.str "thing"))
    (A1 : FnOk P w K mg base CX0 4 gt gtd ["part"] (spAskX K L askT)) (bA : L2.Binds K gtd ["part"] []) (kA : keepIn K (.ref gt) = true) (mA : mg "asked_of_thing" = some (.ref gt))
    (W : FnOk P w K mg base CX0 4 gw gwd ["part"] (spAskX K L askW)) (bW : L2.Binds K gwd ["part"] []) (kW : keepIn K (.ref gw) = true) (mW : mg "asked_of_word" = some (.ref gw)) : FnOk P w K mg base CX0 5 f fd ["sort", "part"] (spAsk K L) := by
  refine F.ok scAsk (fun vs H Q E h => ?_) (fun cdv A outer s H vs Q E hr h => ?_)
  · obtain ⟨so, v, d, H0, rfl, _⟩ := h
    rfl
  obtain ⟨so, v, d, H0, rfl, s0, hv0, hz, q0, q1⟩ := h
  refine ⟨_, pss_cons (ps_if (pt_cmpR op_eq (pv 0) pe_str (nomark _)) (pss_one (ps_ret (pe_call A1 hr rfl mA kA bA .nil pass0 (pa_cons (pv 1) pa_nil)))) pss_nil)
    (pss_cons (ps_if (pt_cmpR op_eq (pv 0) pe_str (nomark _)) (pss_one (ps_ret (pe_call W hr rfl mW kW bW .nil pass0 (pa_cons (pv 1) pa_nil)))) pss_nil)
    (pss_cons (ps_if (pt_not (pt_val (pe_callB call_isi (by rfl) T.isi PyProof.Rows.boot_isinstance (pa_cons (pv 1) (pa_cons (pe_bltn (v := .ty "tuple") (by rfl) T.tup (by decide +kernel) rfl) pa_nil))))) (pss_one (ps_ret pe_non)) pss_nil)
    (pss_one (ps_ret (pe_lc (own := [("inner", 2)]) (g := gName 2) (tt := tYes) rfl scAsk.nd (pi_tup (pv 1)) (blkOk_by (own := [("inner", 2)]) (N := NA) (sc := defScope sAsked) (by decide +kernel))
        (fun _ _ _ _ _ => pg_name (i := 2) scAsk.nd rfl (Or.inl rfl)) (fun _ _ _ _ _ => pts_nil) (fun _ _ _ _ _ => pe_tup (pa_cons (pe_ix (r := rIxD K w) ix_kdict (pe_glob (v := .ref sp) rfl mS rfl) (pv 0) (fun _ _ => rfl)) (pa_cons (pv 2) pa_nil)))))))), ?_⟩
  cases so with
  | th =>
    refine ⟨_, rfl, rfl, _, rfl, ?_⟩
    rw [show decide (V.str So.th.s = V.str "thing") = true from decide_eq_true rfl]
    refine iteT ?_
    exact ⟨_, rfl, v, d, H0, rfl, s0, hv0, hz, q0, q1⟩
  | wd =>
    refine ⟨_, rfl, rfl, _, rfl, ?_⟩
    rw [show decide (V.str So.wd.s = V.str "thing") = false by decide +kernel]
    refine iteF ?_
    refine ⟨_, rfl, rfl, _, rfl, ?_⟩
    rw [show decide (V.str So.wd.s = V.str "word") = true from decide_eq_true rfl]
    refine iteT ?_
    exact ⟨_, rfl, v, d, H0, rfl, s0, hv0, hz, q0, q1⟩
  | rw =>
    refine ⟨_, rfl, rfl, _, rfl, ?_⟩
    rw [show decide (V.str So.rw.s = V.str "thing") = false by decide +kernel]
    refine iteF ?_
    refine ⟨_, rfl, rfl, _, rfl, ?_⟩
    rw [show decide (V.str So.rw.s = V.str "word") = false by decide +kernel]
    refine iteF ?_
    have hv := hv0.mono (.of s0)
    obtain ⟨ty, ht, h1, _⟩ := hv.ty
    refine ⟨_, rfl, _, _, _, _, _, rfl, .ty _, ht, h1, _, rfl, ?_⟩
    cases hk : kTupB d with
    | false =>
      refine iteT (q0 ?_ H (Same.refl H))
      show askP .wd d = none
      cases d <;> first | rfl | cases hk
    | true =>
      refine iteF ?_
      obtain ⟨ds, rfl⟩ := kTupB_of hk
      obtain ⟨a, xs, rfl, ha0, hx⟩ := hv0.tupD
      have ha := TKs.of s0 _ _ ha0
      have lx := hx.len
      have lz := szs_len ds
      rw [sz_tuple] at hz
      refine ⟨_, rfl, a, rfl, ⟨_, ha⟩, fun D hD => lc_tup (K := K) (a := a) (xs := xs) (fun i H4 => ∃ acc, H4 D = some (.lst acc) ∧ Same H H4 ∧ Wt K L H0 H4 acc ((ds.take i).map fun d => (So.wd, d)) ∧ acc.length = i) ⟨[], upd_same, same_new hD _, .nil, rfl⟩ (fun i H4 _ h => ?_) ?_ ?_⟩
      · obtain ⟨acc, _, s4, _⟩ := h
        exact TKs.of s4 _ _ ha
      · rintro i x H4 hi ⟨acc, e4, s4, hw, hl⟩
        obtain ⟨y, hy, hty⟩ := hx.get hi
        have hil : i < xs.length := (List.getElem?_eq_some_iff.mp hi).1
        refine ⟨rfl, _, rfl, sp, _, _, rfl, rfl, dR, _, rfl, (by show 2 ≤ sizeLine; decide), fun t nt => ?_⟩
        have e5 := kn (o' := .tup [.str So.wd.s, x]) e4 nt
        have s5 := s4.trans (same_new nt (.tup [.str So.wd.s, x]))
        refine ⟨acc, e5, midlt (by omega), acc ++ [.ref t], upd_same, own_new s5 hD, ?_, by rw [List.length_append, hl]; rfl⟩
        rw [List.take_add_one, hy, List.map_append]
        have k6 : TKs K (upd H4 t (.tup [.str So.wd.s, x])) (upd (upd H4 t (.tup [.str So.wd.s, x])) D (.lst (acc ++ [.ref t]))) := TKs.lst e5
        exact ((hw.mono (TKs.of (same_new nt _))).mono k6).append (.cons (k6 _ _ (SqT.of upd_same)) hty .nil)
      · rintro H4 ⟨acc, e4, s4, hw, hl⟩
        rw [lx, List.take_length] at hw
        exact q1 _ rfl D acc H4 s4 hD e4 hw
  | st =>
    refine ⟨_, rfl, rfl, _, rfl, ?_⟩
    rw [show decide (V.str So.st.s = V.str "thing") = false by decide +kernel]
    refine iteF ?_
    refine ⟨_, rfl, rfl, _, rfl, ?_⟩
    rw [show decide (V.str So.st.s = V.str "word") = false by decide +kernel]
    refine iteF ?_
    have hv := hv0.mono (.of s0)
    obtain ⟨ty, ht, h1, _⟩ := hv.ty
    refine ⟨_, rfl, _, _, _, _, _, rfl, .ty _, ht, h1, _, rfl, ?_⟩
    cases hk : kTupB d with
    | false =>
      refine iteT (q0 ?_ H (Same.refl H))
      show askP .th d = none
      cases d <;> first | rfl | cases hk
    | true =>
      refine iteF ?_
      obtain ⟨ds, rfl⟩ := kTupB_of hk
      obtain ⟨a, xs, rfl, ha0, hx⟩ := hv0.tupD
      have ha := TKs.of s0 _ _ ha0
      have lx := hx.len
      have lz := szs_len ds
      rw [sz_tuple] at hz
      refine ⟨_, rfl, a, rfl, ⟨_, ha⟩, fun D hD => lc_tup (K := K) (a := a) (xs := xs) (fun i H4 => ∃ acc, H4 D = some (.lst acc) ∧ Same H H4 ∧ Wt K L H0 H4 acc ((ds.take i).map fun d => (So.th, d)) ∧ acc.length = i) ⟨[], upd_same, same_new hD _, .nil, rfl⟩ (fun i H4 _ h => ?_) ?_ ?_⟩
      · obtain ⟨acc, _, s4, _⟩ := h
        exact TKs.of s4 _ _ ha
      · rintro i x H4 hi ⟨acc, e4, s4, hw, hl⟩
        obtain ⟨y, hy, hty⟩ := hx.get hi
        have hil : i < xs.length := (List.getElem?_eq_some_iff.mp hi).1
        refine ⟨rfl, _, rfl, sp, _, _, rfl, rfl, dS, _, rfl, (by show 2 ≤ sizeLine; decide), fun t nt => ?_⟩
        have e5 := kn (o' := .tup [.str So.th.s, x]) e4 nt
        have s5 := s4.trans (same_new nt (.tup [.str So.th.s, x]))
        refine ⟨acc, e5, midlt (by omega), acc ++ [.ref t], upd_same, own_new s5 hD, ?_, by rw [List.length_append, hl]; rfl⟩
        rw [List.take_add_one, hy, List.map_append]
        have k6 : TKs K (upd H4 t (.tup [.str So.th.s, x])) (upd (upd H4 t (.tup [.str So.th.s, x])) D (.lst (acc ++ [.ref t]))) := TKs.lst e5
        exact ((hw.mono (TKs.of (same_new nt _))).mono k6).append (.cons (k6 _ _ (SqT.of upd_same)) hty .nil)
      · rintro H4 ⟨acc, e4, s4, hw, hl⟩
        rw [lx, List.take_length] at hw
        exact q1 _ rfl D acc H4 s4 hD e4 hw
end
end K02
namespace K02
open PySem PySem.W L2 SX Cm
section
variable {P : Program} {w : World} {K : PySem.W.Frag} {mg : Str → Option Value} {base : Heap} {L : List Addr}
def spForm (K : Frag) (L : List Addr) (fa : Addr) : Sp := fun vs H Q _ => ∃ (so : So) (v : V) (d : PyData), vs = [.str so.s, v, .ref fa] ∧ Bt K L H v d ∧ sz d ≤ 900000 ∧ ∀ H', Same H H' → Q (.bl (ok so d)) H'
theorem scForm : FnScope ["sort", "thing", "asked_within", "waiting", "asked", "part", "inner"] ["sort", "thing", "asked_within"] (defScope sForm) := ⟨rfl, rfl, rfl, by decide +kernel, rfl, by decide +kernel, by decide +kernel⟩
theorem ok_form {f ga : Addr} {fd gad : FuncData} (F : Fun K "has_form" "has_form" sForm f fd) (W : FnOk P w K mg base CX0 5 ga gad ["sort", "part"] (spAsk K L)) (bW : L2.Binds K gad ["sort", "part"] []) (kW : keepIn K (.ref ga) = true) : FnOk P w K mg base CX0 6 f fd ["sort", "thing", "asked_within"] (spForm K L ga) := by
  refine F.ok scForm (fun vs H Q E h => ?_) (fun cdv A outer s H vs Q E hr h => ?_)
  · obtain ⟨so, v, d, rfl, _⟩ := h
    rfl
  obtain ⟨so, v, d, rfl, hv, hz, q⟩ := h
  refine ⟨_, pss_cons (ps_set (i := 3) scForm.nd rfl (.inl rfl) (pe_lst (pa_cons (pe_tup (pa_cons (pv 0) (pa_cons (pv 1) pa_nil))) pa_nil)))
    (pss_cons (ps_while PassesOwn.never (pt_truth (pv 3) (by intro _; rfl))
      (pss_cons (ps_asg (pe_bm0 PySem.F.plainAttrs_list PySem.F.slot_list_pop PySem.F.type_list_pop mt_pop (pv 3)) (pg_tup rfl (pgs_cons (pg_name (i := 4) scForm.nd rfl (.inl rfl)) (pgs_cons (pg_name (i := 5) scForm.nd rfl (.inl rfl)) pgs_nil))))
      (pss_cons (ps_set (i := 6) scForm.nd rfl (.inl rfl) (pe_callL (i := 2) W hr rfl (.inl rfl) kW bW .nil pass0 (pa_cons (pv 4) (pa_cons (pv 5) pa_nil))))
      (pss_cons (ps_if (pt_cmpR op_isN (pv 6) pe_non (nomark _)) (pss_one (ps_ret pe_bl)) pss_nil)
      (pss_one (ps_expr (pe_bm PySem.F.plainAttrs_list PySem.F.slot_list_extend PySem.F.type_list_extend mt_extend (pv 3) (pa_cons (pv 6) pa_nil))))))))
    (pss_one (ps_ret pe_bl))), ?_⟩
  refine ⟨_, rfl, _, rfl, (by show 2 ≤ sizeLine; decide), fun t nt => ⟨(by show 1 ≤ sizeLine; decide), fun l nl => ?_⟩⟩
  have s1 : Same H (upd H t (.tup [.str so.s, v])) := same_new nt _
  have fl : H l = none := s1.free nl
  have s2 := s1.trans (same_new nl (.lst [.ref t]))
  have ht := kn (o' := .lst [V.ref t]) (upd_same (H := H) (a := t) (o := .tup [.str so.s, v])) nl
  have ok1 : ok so d = [(so, d)].all (fun p => ok p.1 p.2) := by
    show _ = (ok so d && true); rw [Bool.and_true]
  refine ⟨fun m σ H' => ∃ (xs : List V) (W : List (So × PyData)) (x4 x5 x6 : Option V), σ = [some (.str so.s), some v, some (.ref ga), some (.ref l), x4, x5, x6] ∧ Same H H' ∧ H' l = some (.lst xs) ∧ Wt K L H H' xs W ∧ ok so d = W.all (fun p => ok p.1 p.2) ∧ wsz W ≤ 900000 ∧ m = wsz W,
    ⟨_, _, _, none, none, none, rfl, s2, upd_same, .cons (SqT.of ht) hv .nil, ok1, (by show sz d + 0 ≤ _; omega), rfl⟩, ?_⟩
  rintro m σ H' ⟨xs, W, x4, x5, x6, rfl, sm, hl, hW, hok, hs, rfl⟩
  refine ⟨_, rfl, _, .inl ⟨_, SqL.of hl, rfl⟩, ?_⟩
  rcases List.eq_nil_or_concat xs with rfl | ⟨ys, u, rfl⟩
  · cases hW
    refine iteF ?_
    rw [hok] at q
    exact q H' sm
  · rw [List.concat_eq_append] at hl hW ⊢
    have ne : (!(ys ++ [u]).isEmpty) = true := by cases ys <;> rfl
    rw [ne]
    refine iteT ?_
    obtain ⟨W', a, s1', d1, u1, rfl, hW', rfl, ha, hu⟩ := hW.snoc
    rw [wsz_append] at hs
    have hs1 : wsz [(s1', d1)] = sz d1 := by show sz d1 + 0 = _; omega
    rw [hs1] at hs
    rw [List.all_append] at hok
    refine ⟨fun σ' H2 => ∃ (xs : List V) (W2 : List (So × PyData)) (x4 x5 x6 : Option V), σ' = [some (.str so.s), some v, some (.ref ga), some (.ref l), x4, x5, x6] ∧ Same H H2 ∧ H2 l = some (.lst xs) ∧ Wt K L H H2 xs W2 ∧ ok so d = W2.all (fun p => ok p.1 p.2) ∧ wsz W2 < wsz W' + sz d1, ?_, ?_⟩
    · rintro σ' H2 ⟨xs, W2, x4, x5, x6, rfl, a1, a2, a3, a4, a5⟩
      exact ⟨wsz W2, by rw [wsz_append, hs1]; exact a5, xs, W2, x4, x5, x6, rfl, a1, a2, a3, a4, by omega, rfl⟩
    have hq : (ys ++ [V.ref a])[(ys ++ [V.ref a]).length - 1]? = some (V.ref a) := by rw [List.length_append]; simp
    have hdl : (ys ++ [V.ref a]).dropLast = ys := by simp
    refine ⟨_, rfl, .inl ⟨rfl, _, SqL.of hl⟩, l, _, _, rfl, rfl, hl, hq, ?_⟩
    rw [hdl]
    have tk : TKs K H' (upd H' l (.lst ys)) := TKs.lst hl
    have s3 : Same H (upd H' l (.lst ys)) := own_new sm fl
    have hl3 : upd H' l (.lst ys) l = some (.lst ys) := upd_same
    have hW3 := hW'.mono tk
    have ha3 := tk _ _ ha
    generalize upd H' l (.lst ys) = H3 at tk s3 hl3 hW3 ha3
    refine ⟨a, _, rfl, ha3, rfl, _, _, rfl, _, _, rfl, rfl, ?_⟩
    refine ⟨rfl, _, rfl, _, rfl, s1', u1, d1, H, rfl, s3, hu, by omega, fun hn H4 s4 => ?_, fun l2 hn p us H4 s4 np hp hw2 => ?_⟩
    · refine ⟨_, rfl, rfl, _, rfl, ?_⟩
      refine iteT ?_
      have : ok so d = false := by
        rw [hok]
        show (_ && (ok s1' d1 && true)) = false
        rw [ok_none hn, Bool.false_and, Bool.and_false]
      rw [this] at q
      exact q H4 (s3.trans s4)
    · refine ⟨_, rfl, rfl, _, rfl, ?_⟩
      refine iteF ?_
      have hl4 : H4 l = some (.lst ys) := s4 _ _ hl3
      have ly := hW3.len
      have l1 := wsz_len W'
      have l2' := wsz_len l2
      have lt := ask_lt hn
      have lu := hw2.len
      refine ⟨_, rfl, .inl ⟨rfl, _, SqL.of hl4⟩, _, rfl, l, p, ys, us, rfl, rfl, hl4, hp, mid (by omega), ?_⟩
      refine ⟨_, W' ++ l2, _, _, _, rfl, own_new (s3.trans s4) fl, upd_same, ((hW3.mono (TKs.of s4)).append hw2).mono (TKs.lst hl4), ?_, by rw [wsz_append]; omega⟩
      rw [hok, List.all_append]
      congr 1
      show (ok s1' d1 && true) = _
      rw [Bool.and_true, ok_some hn]
/-- whether a value is of a sort -/
def spIs (K : Frag) (so : So) : Sp := fun vs H Q _ => ∃ (L : List Addr) (v : V) (d : PyData), vs = [v] ∧ Bt K L H v d ∧ sz d ≤ 900000 ∧ ∀ H', Same H H' → Q (.bl (ok so d)) H'
theorem scIsThing : FnScope ["thing"] ["thing"] (defScope sIsThing) := ⟨rfl, rfl, rfl, by decide +kernel, rfl, by decide +kernel, by decide +kernel⟩
theorem scIsWord : FnScope ["thing"] ["thing"] (defScope sIsWord) := ⟨rfl, rfl, rfl, by decide +kernel, rfl, by decide +kernel, by decide +kernel⟩
theorem scIsRow : FnScope ["thing"] ["thing"] (defScope sIsRow) := ⟨rfl, rfl, rfl, by decide +kernel, rfl, by decide +kernel, by decide +kernel⟩
theorem scIsStack : FnScope ["thing"] ["thing"] (defScope sIsStack) := ⟨rfl, rfl, rfl, by decide +kernel, rfl, by decide +kernel, by decide +kernel⟩
theorem ok_isThing {f ga gf : Addr} {fd gfd : FuncData} (F : Fun K "is_thing" "is_thing" sIsThing f fd) (W : ∀ L, FnOk P w K mg base CX0 6 gf gfd ["sort", "thing", "asked_within"] (spForm K L ga)) (bW : L2.Binds K gfd ["sort", "thing", "asked_within"] []) (kW : keepIn K (.ref gf) = true) (mW : mg "has_form" = some (.ref gf)) (mA : mg "asked_within" = some (.ref ga)) : FnOk P w K mg base CX0 7 f fd ["thing"] (spIs K .th) := by
  refine F.ok scIsThing (fun vs H Q E h => ?_) (fun cdv A outer s H vs Q E hr h => ?_)
  · obtain ⟨L, v, d, rfl, _⟩ := h
    rfl
  obtain ⟨L, v, d, rfl, hv, hz, q⟩ := h
  refine ⟨_, pss_one (ps_ret (pe_call (W L) hr rfl mW kW bW .nil pass0 (pa_cons pe_str (pa_cons (pv 0) (pa_cons (pe_glob (v := .ref ga) rfl mA rfl) pa_nil))))), ?_⟩
  exact ⟨_, rfl, .th, v, d, rfl, hv, hz, q⟩
theorem ok_isWord {f ga gf : Addr} {fd gfd : FuncData} (F : Fun K "is_word" "is_word" sIsWord f fd) (W : ∀ L, FnOk P w K mg base CX0 6 gf gfd ["sort", "thing", "asked_within"] (spForm K L ga)) (bW : L2.Binds K gfd ["sort", "thing", "asked_within"] []) (kW : keepIn K (.ref gf) = true) (mW : mg "has_form" = some (.ref gf)) (mA : mg "asked_within" = some (.ref ga)) : FnOk P w K mg base CX0 7 f fd ["thing"] (spIs K .wd) := by
  refine F.ok scIsWord (fun vs H Q E h => ?_) (fun cdv A outer s H vs Q E hr h => ?_)
  · obtain ⟨L, v, d, rfl, _⟩ := h
    rfl
  obtain ⟨L, v, d, rfl, hv, hz, q⟩ := h
  refine ⟨_, pss_one (ps_ret (pe_call (W L) hr rfl mW kW bW .nil pass0 (pa_cons pe_str (pa_cons (pv 0) (pa_cons (pe_glob (v := .ref ga) rfl mA rfl) pa_nil))))), ?_⟩
  exact ⟨_, rfl, .wd, v, d, rfl, hv, hz, q⟩
theorem ok_isRow {f ga gf : Addr} {fd gfd : FuncData} (F : Fun K "is_row" "is_row" sIsRow f fd) (W : ∀ L, FnOk P w K mg base CX0 6 gf gfd ["sort", "thing", "asked_within"] (spForm K L ga)) (bW : L2.Binds K gfd ["sort", "thing", "asked_within"] []) (kW : keepIn K (.ref gf) = true) (mW : mg "has_form" = some (.ref gf)) (mA : mg "asked_within" = some (.ref ga)) : FnOk P w K mg base CX0 7 f fd ["thing"] (spIs K .rw) := by
  refine F.ok scIsRow (fun vs H Q E h => ?_) (fun cdv A outer s H vs Q E hr h => ?_)
  · obtain ⟨L, v, d, rfl, _⟩ := h
    rfl
  obtain ⟨L, v, d, rfl, hv, hz, q⟩ := h
  refine ⟨_, pss_one (ps_ret (pe_call (W L) hr rfl mW kW bW .nil pass0 (pa_cons pe_str (pa_cons (pv 0) (pa_cons (pe_glob (v := .ref ga) rfl mA rfl) pa_nil))))), ?_⟩
  exact ⟨_, rfl, .rw, v, d, rfl, hv, hz, q⟩
theorem ok_isStack {f ga gf : Addr} {fd gfd : FuncData} (F : Fun K "is_stack" "is_stack" sIsStack f fd) (W : ∀ L, FnOk P w K mg base CX0 6 gf gfd ["sort", "thing", "asked_within"] (spForm K L ga)) (bW : L2.Binds K gfd ["sort", "thing", "asked_within"] []) (kW : keepIn K (.ref gf) = true) (mW : mg "has_form" = some (.ref gf)) (mA : mg "asked_within" = some (.ref ga)) : FnOk P w K mg base CX0 7 f fd ["thing"] (spIs K .st) := by
  refine F.ok scIsStack (fun vs H Q E h => ?_) (fun cdv A outer s H vs Q E hr h => ?_)
  · obtain ⟨L, v, d, rfl, _⟩ := h
    rfl
  obtain ⟨L, v, d, rfl, hv, hz, q⟩ := h
  refine ⟨_, pss_one (ps_ret (pe_call (W L) hr rfl mW kW bW .nil pass0 (pa_cons pe_str (pa_cons (pv 0) (pa_cons (pe_glob (v := .ref ga) rfl mA rfl) pa_nil))))), ?_⟩
  exact ⟨_, rfl, .st, v, d, rfl, hv, hz, q⟩
end
end K02
namespace K02
open PySem PySem.W L2 SX Cm
theorem ok_rw (ds : List PyData) : ok .rw (.tuple ds) = ds.all (ok .wd) := by
  rw [ok_some (s := .rw) (d := .tuple ds) (l := ds.map fun d => (.wd, d)) rfl, List.all_map]; rfl
theorem ok_st (ds : List PyData) : ok .st (.tuple ds) = ds.all (ok .th) := by
  rw [ok_some (s := .st) (d := .tuple ds) (l := ds.map fun d => (.th, d)) rfl, List.all_map]; rfl
theorem ok_rw0 {d : PyData} (h : kTupB d = false) : ok .rw d = false := ok_none (by show askP .wd d = none; cases d <;> first | rfl | cases h)
theorem ok_st0 {d : PyData} (h : kTupB d = false) : ok .st d = false := ok_none (by show askP .th d = none; cases d <;> first | rfl | cases h)
theorem ok_th2 (z : Str) (e : PyData) : ok .th (.tuple [.str z, e]) = if z = "number" then numB e else if z = "row" then ok .rw e else if z = "list" then ok .st e else false := by
  have h : ask .th (.tuple [.str z, e]) = if z = "number" then (if numB e = true then some [] else none) else if z = "row" then some [(.rw, e)] else if z = "list" then some [(.st, e)] else none := rfl
  rw [ok_eq, h]
  by_cases h1 : z = "number"
  · rw [if_pos h1, if_pos h1]
    cases numB e <;> rfl
  · rw [if_neg h1, if_neg h1]
    by_cases h2 : z = "row"
    · rw [if_pos h2, if_pos h2]
      show (ok .rw e && true) = _
      rw [Bool.and_true]
    · rw [if_neg h2, if_neg h2]
      by_cases h3 : z = "list"
      · rw [if_pos h3, if_pos h3]
        show (ok .st e && true) = _
        rw [Bool.and_true]
      · rw [if_neg h3, if_neg h3]
theorem ok_wd2 (z : Str) (e : PyData) : ok .wd (.tuple [.str z, e]) = if z = "push" then ok .th e else false := by
  have h : ask .wd (.tuple [.str z, e]) = if z = "push" then some [(.th, e)] else none := rfl
  rw [ok_eq, h]
  by_cases h1 : z = "push"
  · rw [if_pos h1, if_pos h1]
    show (ok .th e && true) = _
    rw [Bool.and_true]
  · rw [if_neg h1, if_neg h1]
theorem ok_wdS (z : Str) : ok .wd (.str z) = wB z := by
  have h : ask .wd (.str z) = if wB z = true then some [] else none := rfl
  rw [ok_eq, h]
  cases wB z <;> rfl
/-- a pair with a text ahead -/
def pairB : PyData → Bool
  | .tuple [.str _, _] => true
  | _ => false
theorem pairB_of {d : PyData} (h : pairB d = true) : ∃ z e, d = .tuple [.str z, e] := by
  unfold pairB at h
  split at h
  · exact ⟨_, _, rfl⟩
  · cases h
theorem ok_th0 {d : PyData} (h : pairB d = false) : ok .th d = false := ok_none (by
  show askT d = none
  unfold askT
  split
  · cases h
  · rfl)
theorem ok_wd0 {d : PyData} (h : pairB d = false) (h2 : kStrB d = false) : ok .wd d = false := ok_none (by
  show askW d = none
  unfold askW
  split
  · cases h2
  · cases h
  · rfl)
section
variable {P : Program} {w : World} {K : PySem.W.Frag} {mg : Str → Option Value} {base : Heap}
def spLS (K : Frag) (so : So) (n : Nat) : Sp := fun vs H Q _ => ∃ (L : List Addr) (v : V) (d : PyData), vs = [v] ∧ Bt K L H v d ∧ sz d ≤ 900000 ∧ dep d < n ∧ ∀ H', Same H H' → Q (.bl (ok so d)) H'
abbrev NLT : List Str := ["_law_thing_here", "_law_word_here", "_law_one"]
theorem scLThing : FnScope NLT ["_law_thing_here"] (defScope sLThing) := ⟨rfl, rfl, rfl, by decide +kernel, rfl, by decide +kernel, by decide +kernel⟩
theorem scLWord : FnScope ["_law_word_here"] ["_law_word_here"] (defScope sLWord) := ⟨rfl, rfl, rfl, by decide +kernel, rfl, by decide +kernel, by decide +kernel⟩
theorem ok_lthing0 {f : Addr} {fd : FuncData} (F : Fun K "_law_is_thing" "_law_is_thing" sLThing f fd) : FnOk P w K mg base CX0 3 f fd ["_law_thing_here"] (spLS K .th 0) := by
  refine F.ok scLThing (fun vs H Q E h => ?_) (fun cdv A outer s H vs Q E hr h => ?_)
  · obtain ⟨L, v, d, rfl, _⟩ := h
    rfl
  · obtain ⟨L, v, d, rfl, _, _, h, _⟩ := h
    exact absurd h (Nat.not_lt_zero _)
theorem ok_lword0 {f : Addr} {fd : FuncData} (F : Fun K "_law_is_word" "_law_is_word" sLWord f fd) : FnOk P w K mg base CX0 3 f fd ["_law_word_here"] (spLS K .wd 0) := by
  refine F.ok scLWord (fun vs H Q E h => ?_) (fun cdv A outer s H vs Q E hr h => ?_)
  · obtain ⟨L, v, d, rfl, _⟩ := h
    rfl
  · obtain ⟨L, v, d, rfl, _, _, h, _⟩ := h
    exact absurd h (Nat.not_lt_zero _)
theorem ok_lword {n : Nat} {f gt gx : Addr} {fd gtd gxd : FuncData} (F : Fun K "_law_is_word" "_law_is_word" sLWord f fd) (T : Ty4 mg)
    (X : FnOk P w K mg base CX0 2 gx gxd ["_law_text"] (spL wordB)) (bX : L2.Binds K gxd ["_law_text"] []) (kX : keepIn K (.ref gx) = true) (mX : mg "_law_is_text" = some (.ref gx))
    (G : FnOk P w K mg base CX0 (3 + n) gt gtd ["_law_thing_here"] (spLS K .th n)) (bG : L2.Binds K gtd ["_law_thing_here"] []) (kG : keepIn K (.ref gt) = true) (mG : mg "_law_is_thing" = some (.ref gt)) : FnOk P w K mg base CX0 (3 + n + 1) f fd ["_law_word_here"] (spLS K .wd (n + 1)) := by
  refine F.ok scLWord (fun vs H Q E h => ?_) (fun cdv A outer s H vs Q E hr h => ?_)
  · obtain ⟨L, v, d, rfl, _⟩ := h
    rfl
  obtain ⟨L, v, d, rfl, hv, hz, hd, q⟩ := h
  refine ⟨_, pss_cons (ps_if (pt_val (pe_callB call_isi (by rfl) T.isi PyProof.Rows.boot_isinstance (pa_cons (pv 0) (pa_cons (pe_bltn (v := .ty "str") (by rfl) T.str (by decide +kernel) rfl) pa_nil)))) (pss_one (ps_ret (pe_call X (hr.mono (by omega)) rfl mX kX bX .nil pass0 (pa_cons (pv 0) pa_nil)))) pss_nil)
    (pss_cons (ps_if (PW.pt (pw_or (pt_not (pt_val (pe_callB call_isi (by rfl) T.isi PyProof.Rows.boot_isinstance (pa_cons (pv 0) (pa_cons (pe_bltn (v := .ty "tuple") (by rfl) T.tup (by decide +kernel) rfl) pa_nil))))) (pw_or (pt_cmpR op_ne (pe_callB call_len_seq (by rfl) T.len PySem.boot_len (pa_cons (pv 0) pa_nil)) pe_int (nomark _))
      (pw_or1 (pt_not (pt_val (pe_callB call_isi (by rfl) T.isi PyProof.Rows.boot_isinstance (pa_cons (pe_ix ix_tup (pv 0) pe_int (fun _ _ => rfl)) (pa_cons (pe_bltn (v := .ty "str") (by rfl) T.str (by decide +kernel) rfl) pa_nil))))))))) (pss_one (ps_ret pe_bl)) pss_nil)
    (pss_one (ps_ret (pe_and (pe_cmpR op_eq (pe_ix ix_tup (pv 0) pe_int (fun _ _ => rfl)) pe_str (nomark _)) (pe_one (pe_call G hr rfl mG kG bG .nil pass0 (pa_cons (pe_ix ix_tup (pv 0) pe_int (fun _ _ => rfl)) pa_nil))))))), ?_⟩
  obtain ⟨ty, ht, h1, h2, _⟩ := hv.ty
  refine ⟨_, rfl, _, _, _, _, _, rfl, .ty _, ht, h2, _, rfl, ?_⟩
  cases hk : kStrB d with
  | true =>
    obtain ⟨z, rfl⟩ := kStrB_of hk
    cases hv with
    | str hz =>
    rw [ok_wdS] at q
    refine iteT ?_
    exact ⟨_, rfl, TL.tl z, by rw [S_tl]; rfl, Nat.le_trans (tl_len hz) (by decide), tl_ch hz, q⟩
  | false =>
  refine iteF ?_
  refine ⟨_, rfl, _, _, _, _, _, rfl, .ty _, ht, h1, _, rfl, ?_⟩
  cases hT : kTupB d with
  | false =>
    rw [ok_wd0 (by cases d <;> first | rfl | cases hT) hk] at q
    exact iteT (iteT (q H (Same.refl H)))
  | true =>
  refine iteF ?_
  obtain ⟨ds, rfl⟩ := kTupB_of hT
  obtain ⟨a, xs, rfl, ha, hx⟩ := hv.tupD
  have lx := hx.len
  refine ⟨_, rfl, a, xs, rfl, .inr ha, rfl, _, rfl, ?_⟩
  rcases ds with _ | ⟨e1, _ | ⟨e, _ | ⟨e2, r⟩⟩⟩
  · have : (!decide (V.int (xs.length : Int) = V.int 2)) = true := by rw [lx]; rfl
    rw [this]
    rw [ok_wd0 rfl hk] at q
    exact iteT (iteT (q H (Same.refl H)))
  · have : (!decide (V.int (xs.length : Int) = V.int 2)) = true := by rw [lx]; rfl
    rw [this]
    rw [ok_wd0 (by cases e1 <;> rfl) hk] at q
    exact iteT (iteT (q H (Same.refl H)))
  rotate_left
  · have : (!decide (V.int (xs.length : Int) = V.int 2)) = true := by
      rw [lx, decide_eq_false (fun z => by have := V.int.inj z; simp only [List.length_cons] at this; omega)]; rfl
    rw [this]
    rw [ok_wd0 (by cases e1 <;> rfl) hk] at q
    exact iteT (iteT (q H (Same.refl H)))
  have : (!decide (V.int (xs.length : Int) = V.int 2)) = false := by rw [lx]; rfl
  rw [this]
  refine iteF ?_
  cases hx with
  | @cons u1 _ _ _ hu1 hx =>
  cases hx with
  | @cons u _ _ _ hu hx =>
  cases hx
  obtain ⟨ty1, ht1, _, h21, _⟩ := hu1.ty
  refine ⟨_, rfl, a, _, 0, _, rfl, rfl, ha, atI_nat (j := 0) rfl, _, _, _, _, _, rfl, .ty _, ht1, h21, _, rfl, ?_⟩
  cases hk1 : kStrB e1 with
  | false =>
    rw [ok_wd0 (by cases e1 <;> first | rfl | cases hk1) hk] at q
    exact iteT (q H (Same.refl H))
  | true =>
  obtain ⟨z, rfl⟩ := kStrB_of hk1
  cases hu1
  refine iteF ?_
  rw [ok_wd2] at q
  refine ⟨_, rfl, a, _, 0, _, rfl, rfl, ha, atI_nat (j := 0) rfl, rfl, _, rfl, ?_⟩
  rw [decS]
  by_cases hp : z = "push"
  · rw [if_pos hp] at q
    rw [decide_eq_true hp]
    refine iteT ?_
    have hd' : 1 + max 0 (max (dep e) 0) < n + 1 := by rw [dep_tuple] at hd; exact hd
    have hz' : 1 + (1 + (sz e + 0)) ≤ 900000 := by rw [sz_tuple] at hz; exact hz
    exact ⟨_, rfl, a, _, 1, _, rfl, rfl, ha, atI_nat (j := 1) rfl, L, u, e, rfl, hu, by omega, by omega, q⟩
  · rw [if_neg hp] at q
    rw [decide_eq_false hp]
    exact iteF (q H (Same.refl H))
end
end K02
namespace K02
open PySem PySem.W L2 SX Cm
section
variable {P : Program} {w : World} {K : PySem.W.Frag} {mg : Str → Option Value} {base : Heap}
theorem ok_lthing {n : Nat} {f gw : Addr} {fd gwd : FuncData} (F : Fun K "_law_is_thing" "_law_is_thing" sLThing f fd) (T : Ty4 mg)
    (G : FnOk P w K mg base CX0 (3 + n) f fd ["_law_thing_here"] (spLS K .th n)) (bG : L2.Binds K fd ["_law_thing_here"] []) (kG : keepIn K (.ref f) = true) (mG : mg "_law_is_thing" = some (.ref f))
    (W : FnOk P w K mg base CX0 (3 + n) gw gwd ["_law_word_here"] (spLS K .wd n)) (bW : L2.Binds K gwd ["_law_word_here"] []) (kW : keepIn K (.ref gw) = true) (mW : mg "_law_is_word" = some (.ref gw)) : FnOk P w K mg base CX0 (3 + n + 1) f fd ["_law_thing_here"] (spLS K .th (n + 1)) := by
  refine F.ok scLThing (fun vs H Q E h => ?_) (fun cdv A outer s H vs Q E hr h => ?_)
  · obtain ⟨L, v, d, rfl, _⟩ := h
    rfl
  obtain ⟨L, v, d, rfl, hv, hz, hd, q⟩ := h
  refine ⟨_, pss_cons (ps_if (PW.pt (pw_or (pt_not (pt_val (pe_callB call_isi (by rfl) T.isi PyProof.Rows.boot_isinstance (pa_cons (pv 0) (pa_cons (pe_bltn (v := .ty "tuple") (by rfl) T.tup (by decide +kernel) rfl) pa_nil))))) (pw_or (pt_cmpR op_ne (pe_callB call_len_seq (by rfl) T.len PySem.boot_len (pa_cons (pv 0) pa_nil)) pe_int (nomark _))
      (pw_or1 (pt_not (pt_val (pe_callB call_isi (by rfl) T.isi PyProof.Rows.boot_isinstance (pa_cons (pe_ix ix_tup (pv 0) pe_int (fun _ _ => rfl)) (pa_cons (pe_bltn (v := .ty "str") (by rfl) T.str (by decide +kernel) rfl) pa_nil))))))))) (pss_one (ps_ret pe_bl)) pss_nil)
    (pss_cons (ps_if (pt_cmpR op_eq (pe_ix ix_tup (pv 0) pe_int (fun _ _ => rfl)) pe_str (nomark _))
      (pss_one (ps_ret (pe_and (pe_callB call_isi (by rfl) T.isi PyProof.Rows.boot_isinstance (pa_cons (pe_ix ix_tup (pv 0) pe_int (fun _ _ => rfl)) (pa_cons (pe_bltn (v := .ty "int") (by rfl) T.int (by decide +kernel) rfl) pa_nil)))
        (pe_and (pe_not (pe_callB call_isi (by rfl) T.isi PyProof.Rows.boot_isinstance (pa_cons (pe_ix ix_tup (pv 0) pe_int (fun _ _ => rfl)) (pa_cons (pe_bltn (v := .ty "bool") (by rfl) T.bool (by decide +kernel) rfl) pa_nil))))
        (pe_one (pe_chain op_le op_lt pe_int (pe_ix ix_tup (pv 0) pe_int (fun _ _ => rfl)) (pe_op op_pow pe_int pe_int))))))) pss_nil)
    (pss_cons (ps_if (PW.pt (pw_and (pt_cmpR op_eq (pe_ix ix_tup (pv 0) pe_int (fun _ _ => rfl)) pe_str (nomark _)) (pw_and1 (pt_val (pe_callB call_isi (by rfl) T.isi PyProof.Rows.boot_isinstance (pa_cons (pe_ix ix_tup (pv 0) pe_int (fun _ _ => rfl)) (pa_cons (pe_bltn (v := .ty "tuple") (by rfl) T.tup (by decide +kernel) rfl) pa_nil)))))))
      (pss_one (ps_ret (pe_cmpR (op_eqNil hr.units) (pe_lc (own := [("_law_word_here", 1)]) (g := gName 1) rfl scLThing.nd (pi_tup (pe_ix ix_tup (pv 0) pe_int (fun _ _ => rfl))) (blkOk_by (own := [("_law_word_here", 1)]) (N := NLT) (sc := defScope sLThing) (by decide +kernel))
        (fun _ _ _ _ _ => pg_name (i := 1) scLThing.nd rfl (Or.inl rfl)) (fun _ _ _ _ _ => pts_one (pt_not (pt_val (pe_call W hr rfl mW kW bW .nil pass0 (pa_cons (pv 1) pa_nil))))) (fun _ _ _ _ _ => pv 1)) (pe_lst pa_nil) (nomark _)))) pss_nil)
    (pss_cons (ps_if (PW.pt (pw_and (pt_cmpR op_eq (pe_ix ix_tup (pv 0) pe_int (fun _ _ => rfl)) pe_str (nomark _)) (pw_and1 (pt_val (pe_callB call_isi (by rfl) T.isi PyProof.Rows.boot_isinstance (pa_cons (pe_ix ix_tup (pv 0) pe_int (fun _ _ => rfl)) (pa_cons (pe_bltn (v := .ty "tuple") (by rfl) T.tup (by decide +kernel) rfl) pa_nil)))))))
      (pss_one (ps_ret (pe_cmpR (op_eqNil hr.units) (pe_lc (own := [("_law_one", 2)]) (g := gName 2) rfl scLThing.nd (pi_tup (pe_ix ix_tup (pv 0) pe_int (fun _ _ => rfl))) (blkOk_by (own := [("_law_one", 2)]) (N := NLT) (sc := defScope sLThing) (by decide +kernel))
        (fun _ _ _ _ _ => pg_name (i := 2) scLThing.nd rfl (Or.inl rfl)) (fun _ _ _ _ _ => pts_one (pt_not (pt_val (pe_call G hr rfl mG kG bG .nil pass0 (pa_cons (pv 2) pa_nil))))) (fun _ _ _ _ _ => pv 2)) (pe_lst pa_nil) (nomark _)))) pss_nil)
    (pss_one (ps_ret pe_bl))))), ?_⟩
  obtain ⟨ty, ht, h1, h2, _⟩ := hv.ty
  refine ⟨_, rfl, _, _, _, _, _, rfl, .ty _, ht, h1, _, rfl, ?_⟩
  cases hT : kTupB d with
  | false =>
    rw [ok_th0 (by cases d <;> first | rfl | cases hT)] at q
    exact iteT (iteT (q H (Same.refl H)))
  | true =>
  refine iteF ?_
  obtain ⟨ds, rfl⟩ := kTupB_of hT
  obtain ⟨a, xs, rfl, ha, hx⟩ := hv.tupD
  have lx := hx.len
  refine ⟨_, rfl, a, xs, rfl, .inr ha, rfl, _, rfl, ?_⟩
  rcases ds with _ | ⟨e1, _ | ⟨e, _ | ⟨e2, r⟩⟩⟩
  · have : (!decide (V.int (xs.length : Int) = V.int 2)) = true := by rw [lx]; rfl
    rw [this]
    rw [ok_th0 rfl] at q
    exact iteT (iteT (q H (Same.refl H)))
  · have : (!decide (V.int (xs.length : Int) = V.int 2)) = true := by rw [lx]; rfl
    rw [this]
    rw [ok_th0 (by cases e1 <;> rfl)] at q
    exact iteT (iteT (q H (Same.refl H)))
  rotate_left
  · have : (!decide (V.int (xs.length : Int) = V.int 2)) = true := by
      rw [lx, decide_eq_false (fun z => by have := V.int.inj z; simp only [List.length_cons] at this; omega)]; rfl
    rw [this]
    rw [ok_th0 (by cases e1 <;> rfl)] at q
    exact iteT (iteT (q H (Same.refl H)))
  have : (!decide (V.int (xs.length : Int) = V.int 2)) = false := by rw [lx]; rfl
  rw [this]
  refine iteF ?_
  cases hx with
  | @cons u1 _ _ _ hu1 hx =>
  cases hx with
  | @cons u _ _ _ hu hx =>
  cases hx
  obtain ⟨ty1, ht1, _, h21, _⟩ := hu1.ty
  refine ⟨_, rfl, a, _, 0, _, rfl, rfl, ha, atI_nat (j := 0) rfl, _, _, _, _, _, rfl, .ty _, ht1, h21, _, rfl, ?_⟩
  cases hk1 : kStrB e1 with
  | false =>
    rw [ok_th0 (by cases e1 <;> first | rfl | cases hk1)] at q
    exact iteT (q H (Same.refl H))
  | true =>
  obtain ⟨z, rfl⟩ := kStrB_of hk1
  cases hu1
  refine iteF ?_
  rw [ok_th2] at q
  have i0 : atI [V.str z, u] (0 : Int) = some (.str z) := atI_nat (j := 0) rfl
  have i1 : atI [V.str z, u] (1 : Int) = some u := atI_nat (j := 1) rfl
  have hd' : 1 + max 0 (max (dep e) 0) < n + 1 := by rw [dep_tuple] at hd; exact hd
  have hz' : 1 + (1 + (sz e + 0)) ≤ 900000 := by rw [sz_tuple] at hz; exact hz
  obtain ⟨tyu, htu, g1, g2, g3, g4⟩ := hu.ty
  refine ⟨_, rfl, a, _, 0, _, rfl, rfl, ha, i0, rfl, _, rfl, ?_⟩
  rw [decS]
  by_cases hp : z = "number"
  · rw [if_pos hp] at q
    rw [decide_eq_true hp]
    refine iteT ?_
    refine ⟨_, rfl, a, _, 1, _, rfl, rfl, ha, i1, _, _, _, _, _, rfl, .ty _, htu, g3, _, rfl, ?_⟩
    cases hI : kIntB e with
    | false =>
      have : numB e = false := by cases e <;> first | rfl | cases hI
      rw [this] at q
      exact iteF (q H (Same.refl H))
    | true =>
    refine iteT ?_
    refine ⟨_, rfl, a, _, 1, _, rfl, rfl, ha, i1, _, _, _, _, _, rfl, .ty _, htu, g4, _, rfl, _, rfl, ?_⟩
    cases hB : kBoolB e with
    | true =>
      have : numB e = false := by cases e <;> first | rfl | cases hB
      rw [this] at q
      exact iteF (q H (Same.refl H))
    | false =>
    refine iteT ?_
    obtain ⟨m, rfl⟩ : ∃ m, e = .int m := by
      cases e with
      | int m => exact ⟨m, rfl⟩
      | bool b => cases hB
      | _ => cases hI
    cases hu
    have q : ∀ H', Same H H' → Q (.bl (decide (0 ≤ m) && decide (m < 10 ^ 12))) H' := q
    refine ⟨_, rfl, a, _, 1, _, rfl, rfl, ha, i1, _, _, rfl, rfl, _, rfl, ?_⟩
    refine ite2 (fun c => ?_) (fun c => ?_)
    · have c' : (0 : Int) ≤ m := of_decide_eq_true c
      rw [decide_eq_true c'] at q
      exact ⟨_, _, rfl, rfl, ⟨by decide, by decide, by decide⟩, _, _, rfl, rfl, q H (Same.refl H)⟩
    · have c' : ¬ (0 : Int) ≤ m := fun z => c (decide_eq_true z)
      rw [decide_eq_false c', Bool.false_and] at q
      exact q H (Same.refl H)
  rw [if_neg hp] at q
  rw [decide_eq_false hp]
  refine iteF ?_
  refine ⟨_, rfl, a, _, 0, _, rfl, rfl, ha, i0, rfl, _, rfl, ?_⟩
  rw [decS]
  by_cases hrow : z = "row"
  · rw [if_pos hrow] at q
    rw [decide_eq_true hrow]
    refine iteT ?_
    refine ⟨_, rfl, a, _, 1, _, rfl, rfl, ha, i1, _, _, _, _, _, rfl, .ty _, htu, g1, _, rfl, ?_⟩
    cases hK : kTupB e with
    | false =>
      rw [ok_rw0 hK] at q
      refine iteF ?_
      refine ⟨_, rfl, a, _, 0, _, rfl, rfl, ha, i0, rfl, _, rfl, ?_⟩
      rw [decS, decide_eq_false (by rw [hrow]; decide)]
      exact iteF (iteF (q H (Same.refl H)))
    | true =>
    refine iteT ?_
    obtain ⟨es, rfl⟩ := kTupB_of hK
    obtain ⟨b, ys, rfl, hb, hy⟩ := hu.tupD
    have ly := hy.len
    have lz := szs_len es
    rw [ok_rw] at q
    rw [sz_tuple] at hz'
    rw [dep_tuple] at hd'
    refine ⟨_, rfl, a, _, 1, _, rfl, rfl, ha, i1, b, rfl, ⟨_, hb⟩, fun D hD => lc_tup (K := K) (a := b) (xs := ys) (fun i H4 => ∃ acc, H4 D = some (.lst acc) ∧ Same H H4 ∧ acc.isEmpty = (es.take i).all (ok .wd) ∧ acc.length ≤ i) ⟨[], upd_same, same_new hD _, rfl, Nat.le_refl 0⟩ (fun i H4 _ h => ?_) ?_ ?_⟩
    · obtain ⟨acc, _, s4, _⟩ := h
      exact TKs.of s4 _ _ hb
    · rintro i x H4 hi ⟨acc, e4, s4, hw, hl⟩
      obtain ⟨y, hy', hty⟩ := hy.get hi
      have hil : i < ys.length := (List.getElem?_eq_some_iff.mp hi).1
      have ym : y ∈ es := List.mem_of_getElem? hy'
      have m1 := szs_mem ym
      have m2 := deps_mem ym
      refine ⟨rfl, _, rfl, L, x, y, rfl, hty.mono (.of s4), by omega, by omega, fun H5 s5 => ⟨_, rfl, ?_⟩⟩
      have e5 := s5 _ _ e4
      have htk : (es.take (i + 1)).all (ok .wd) = ((es.take i).all (ok .wd) && ok .wd y) := by
        rw [List.take_add_one, hy', List.all_append]
        show (_ && (ok .wd y && true)) = _
        rw [Bool.and_true]
      cases ho : ok .wd y with
      | true =>
        refine iteF ?_
        rw [ho, Bool.and_true] at htk
        exact ⟨acc, e5, s4.trans s5, by rw [hw, htk], by omega⟩
      | false =>
        refine iteT ?_
        rw [ho, Bool.and_false] at htk
        refine ⟨_, rfl, acc, e5, midlt (by omega), acc ++ [x], upd_same, own_new (s4.trans s5) hD, ?_, by rw [List.length_append, List.length_singleton]; omega⟩
        rw [htk]
        cases acc <;> rfl
    · rintro H4 ⟨acc, e4, s4, hw, hl⟩
      rw [ly, List.take_length] at hw
      refine ⟨(by show 0 ≤ sizeLine; decide), fun p np => ?_⟩
      refine ⟨D, p, acc, rfl, rfl, SqL.of (kn e4 np), SqL.of upd_same, ?_⟩
      rw [hw]
      exact q _ (s4.trans (same_new np _))
  rw [if_neg hrow] at q
  rw [decide_eq_false hrow]
  refine iteF (iteF ?_)
  refine ⟨_, rfl, a, _, 0, _, rfl, rfl, ha, i0, rfl, _, rfl, ?_⟩
  rw [decS]
  by_cases hlst : z = "list"
  · rw [if_pos hlst] at q
    rw [decide_eq_true hlst]
    refine iteT ?_
    refine ⟨_, rfl, a, _, 1, _, rfl, rfl, ha, i1, _, _, _, _, _, rfl, .ty _, htu, g1, _, rfl, ?_⟩
    cases hK : kTupB e with
    | false =>
      rw [ok_st0 hK] at q
      refine iteF ?_
      exact q H (Same.refl H)
    | true =>
    refine iteT ?_
    obtain ⟨es, rfl⟩ := kTupB_of hK
    obtain ⟨b, ys, rfl, hb, hy⟩ := hu.tupD
    have ly := hy.len
    have lz := szs_len es
    rw [ok_st] at q
    rw [sz_tuple] at hz'
    rw [dep_tuple] at hd'
    refine ⟨_, rfl, a, _, 1, _, rfl, rfl, ha, i1, b, rfl, ⟨_, hb⟩, fun D hD => lc_tup (K := K) (a := b) (xs := ys) (fun i H4 => ∃ acc, H4 D = some (.lst acc) ∧ Same H H4 ∧ acc.isEmpty = (es.take i).all (ok .th) ∧ acc.length ≤ i) ⟨[], upd_same, same_new hD _, rfl, Nat.le_refl 0⟩ (fun i H4 _ h => ?_) ?_ ?_⟩
    · obtain ⟨acc, _, s4, _⟩ := h
      exact TKs.of s4 _ _ hb
    · rintro i x H4 hi ⟨acc, e4, s4, hw, hl⟩
      obtain ⟨y, hy', hty⟩ := hy.get hi
      have hil : i < ys.length := (List.getElem?_eq_some_iff.mp hi).1
      have ym : y ∈ es := List.mem_of_getElem? hy'
      have m1 := szs_mem ym
      have m2 := deps_mem ym
      refine ⟨rfl, _, rfl, L, x, y, rfl, hty.mono (.of s4), by omega, by omega, fun H5 s5 => ⟨_, rfl, ?_⟩⟩
      have e5 := s5 _ _ e4
      have htk : (es.take (i + 1)).all (ok .th) = ((es.take i).all (ok .th) && ok .th y) := by
        rw [List.take_add_one, hy', List.all_append]
        show (_ && (ok .th y && true)) = _
        rw [Bool.and_true]
      cases ho : ok .th y with
      | true =>
        refine iteF ?_
        rw [ho, Bool.and_true] at htk
        exact ⟨acc, e5, s4.trans s5, by rw [hw, htk], by omega⟩
      | false =>
        refine iteT ?_
        rw [ho, Bool.and_false] at htk
        refine ⟨_, rfl, acc, e5, midlt (by omega), acc ++ [x], upd_same, own_new (s4.trans s5) hD, ?_, by rw [List.length_append, List.length_singleton]; omega⟩
        rw [htk]
        cases acc <;> rfl
    · rintro H4 ⟨acc, e4, s4, hw, hl⟩
      rw [ly, List.take_length] at hw
      refine ⟨(by show 0 ≤ sizeLine; decide), fun p np => ?_⟩
      refine ⟨D, p, acc, rfl, rfl, SqL.of (kn e4 np), SqL.of upd_same, ?_⟩
      rw [hw]
      exact q _ (s4.trans (same_new np _))
  rw [if_neg hlst] at q
  rw [decide_eq_false hlst]
  refine iteF (iteF ?_)
  exact q H (Same.refl H)
end
end K02
namespace K02
open PySem PySem.W L2 SX Cm
theorem Deck.kp {H : Hp} {d c p : Addr} {o : HO} {H' : Hp} (D : Deck H d c) (k : Kp [d, c] (upd H p o) H') (n : H p = none) : H' p = some o := k p o (D.nd n) upd_same
/-- one of a few values by a drawn number -/
theorem pick {α : Type} {xs : List α} {r : Int} {n : Nat} (h0 : 0 ≤ r) (h1 : r < n) (hl : xs.length = n) : ∃ x, x ∈ xs ∧ atI xs r = some x := by
  obtain ⟨r, rfl⟩ := Int.eq_ofNat_of_zero_le h0
  have hr : r < xs.length := by omega
  exact ⟨xs[r], List.getElem_mem hr, atI_nat (List.getElem?_eq_getElem hr)⟩
/-- one of two values by a truth -/
theorem pick2 {α : Type} {a b : α} (t : Bool) : atI [a, b] (if t = true then (1 : Int) else 0) = some (if t = true then b else a) := by
  cases t
  · exact atI_nat (j := 0) rfl
  · exact atI_nat (j := 1) rfl
/-- signs that stand between -/
theorem par_of : ∀ (p acc l : List Nat), 45 ∉ p → TL.par [45] acc (p ++ 45 :: l) = some (acc ++ p, l)
  | [], acc, l, _ => by
    show (if TL.pre [45] (45 :: l) = true then some (acc, (45 :: l).drop 1) else TL.par [45] (acc ++ [45]) l) = _
    rw [if_pos (by show ([45] == [45]) = true; rfl), List.append_nil]; rfl
  | c :: r, acc, l, h => by
    have hc : ¬ TL.pre [45] (c :: (r ++ 45 :: l)) = true := fun z => by
      have := eq_of_beq z
      exact h (by rw [List.head_eq_of_cons_eq this]; exact List.mem_cons_self ..)
    show (if TL.pre [45] (c :: (r ++ 45 :: l)) = true then some (acc, (c :: (r ++ 45 :: l)).drop 1) else TL.par [45] (acc ++ [c]) (r ++ 45 :: l)) = _
    rw [if_neg hc, par_of r _ l (fun z => h (List.mem_cons_of_mem _ z)), List.append_assoc]; rfl
theorem flat_one (l : List Nat) : (l.map fun c => [c]).flatten = l := by
  induction l with
  | nil => rfl
  | cons c r ih => rw [List.map_cons, List.flatten_cons, ih]; rfl
theorem join_lets (l : List Nat) : Txt.join ("" : Str) (l.map fun c => S [c]) = S l := by
  have e0 : ("" : Str) = S [] := by decide +kernel
  have e1 : (l.map fun c => S [c]) = (l.map fun c => [c]).map S := by rw [List.map_map]; rfl
  rw [e0, e1, join_S, joinL_nil, flat_one]
theorem tl_S (x : List Nat) : TL.tl (S x) = x := rfl
theorem wB_S (x : List Nat) : wB (S x) = wordB x := rfl
theorem word_name {x : List Nat} (h : ∀ c ∈ x, c ∈ az) (h1 : 1 ≤ x.length) (h2 : x.length ≤ 8) : wordB x = true := by
  unfold wordB nameB
  have : (x.map fun c => decide (c ∈ az)).all id = true := by
    rw [List.all_eq_true]
    intro b hb
    obtain ⟨c, hc, rfl⟩ := List.mem_map.mp hb
    exact decide_eq_true (h c hc)
  rw [this, decide_eq_true h1, decide_eq_true h2]
  cases (table.lookup (S x)).isSome
  · cases shufB x <;> rfl
  · rfl
theorem abc8_no : 45 ∉ abc8 := by decide
theorem word_shuf {t l : List Nat} (ht : abc8.take t.length = t) (hl : l.length ≤ 12) (h : ∀ c ∈ l, c ∈ t) : wordB (t ++ 45 :: l) = true := by
  have hs : shufB (t ++ 45 :: l) = true := by
    unfold shufB
    rw [par_of t [] l (fun z => abc8_no (List.mem_of_mem_take (by rw [ht]; exact z)))]
    show (decide (abc8.take t.length = t) && (decide (l.length ≤ 12) && (l.map fun c => decide (c ∈ t)).all id)) = true
    rw [decide_eq_true ht, decide_eq_true hl]
    have : (l.map fun c => decide (c ∈ t)).all id = true := by
      rw [List.all_eq_true]
      intro b hb
      obtain ⟨c, hc, rfl⟩ := List.mem_map.mp hb
      exact decide_eq_true (h c hc)
    rw [this]; rfl
  unfold wordB
  rw [hs]
  cases (table.lookup (S (t ++ 45 :: l))).isSome <;> rfl
section
variable {P : Program} {w : World} {K : PySem.W.Frag} {mg : Str → Option Value} {base : Heap}
def spNumber : Sp := fun vs H Q _ => ∃ (d c : Addr), vs = [.ref d] ∧ Deck H d c ∧ ∀ (n : Int) (H' : Hp), 0 ≤ n → n < 10 ^ 12 → Kp [d, c] H H' → Deck H' d c → Q (.int n) H'
theorem scNumber : FnScope ["_law_deck_here", "_law_some"] ["_law_deck_here"] (defScope sNumber) := ⟨rfl, rfl, rfl, by decide +kernel, rfl, by decide +kernel, by decide +kernel⟩
theorem ok_number {f g : Addr} {fd gd : FuncData} (F : Fun K "_law_number" "_law_number" sNumber f fd) (G : FnOk P w K mg base CX0 2 g gd ["_law_deck_here", "_law_most"] spTake) (bG : L2.Binds K gd ["_law_deck_here", "_law_most"] []) (kG : keepIn K (.ref g) = true) (mG : mg "_law_take" = some (.ref g)) : FnOk P w K mg base CX0 3 f fd ["_law_deck_here"] spNumber := by
  refine F.ok scNumber (fun vs H Q E h => ?_) (fun cdv A outer s H vs Q E hr h => ?_)
  · obtain ⟨d, c, rfl, _⟩ := h
    rfl
  obtain ⟨d, c, rfl, D0, q⟩ := h
  refine ⟨_, pss_cons (ps_set (i := 1) scNumber.nd rfl (.inl rfl) (pe_lst (pa_cons pe_int (pa_cons pe_int (pa_cons pe_int (pa_cons (pe_call G hr rfl mG kG bG .nil pass0 (pa_cons (pv 0) (pa_cons pe_int pa_nil))) (pa_cons (pe_op op_sub (pe_op op_pow pe_int pe_int) pe_int) (pa_cons (pe_call G hr rfl mG kG bG .nil pass0 (pa_cons (pv 0) (pa_cons (pe_op op_pow pe_int pe_int) pa_nil))) pa_nil))))))))
    (pss_one (ps_ret (pe_ix ix_list (pv 1) (pe_call G hr rfl mG kG bG .nil pass0 (pa_cons (pv 0) (pa_cons pe_int pa_nil))) (fun _ _ => rfl)))), ?_⟩
  refine ⟨_, rfl, d, c, 100, rfl, D0, by decide, by decide, fun r1 H1 a1 b1 k1 D1 => ?_⟩
  refine ⟨_, _, rfl, rfl, ⟨by decide, by decide, by decide⟩, _, _, rfl, rfl, _, rfl, _, _, rfl, rfl, ⟨by decide, by decide, by decide⟩, d, c, _, rfl, D1, by decide, by decide, fun r2 H2 a2 b2 k2 D2 => ⟨(by show 6 ≤ sizeLine; decide), fun L nL => ?_⟩⟩
  refine ⟨_, rfl, _, rfl, d, c, 6, rfl, D2.new nL, by decide, by decide, fun r3 H3 a3 b3 k3 D3 => ?_⟩
  have b2' : r2 < 10 ^ 12 := b2
  obtain ⟨v, hv, ha⟩ := pick (xs := [V.int 0, .int 1, .int 2, .int r1, .int ((10 : Int) ^ (12 : Int).toNat - 1), .int r2]) (n := 6) a3 b3 rfl
  refine ⟨L, _, _, _, rfl, rfl, SqL.of (D2.kp k3 nL), ha, ?_⟩
  have kf := (k1.trans k2).trans ((Kp.refl _ _).new nL |>.trans k3)
  simp only [List.mem_cons, List.not_mem_nil, or_false] at hv
  rcases hv with rfl | rfl | rfl | rfl | rfl | rfl
  · exact q _ H3 (by decide) (by decide) kf D3
  · exact q _ H3 (by decide) (by decide) kf D3
  · exact q _ H3 (by decide) (by decide) kf D3
  · exact q _ H3 a1 (by omega) kf D3
  · exact q _ H3 (by decide) (by decide) kf D3
  · exact q _ H3 a2 b2' kf D3
/-- a drawn text -/
def spTx (n : Nat) : Sp := fun vs H Q _ => ∃ (d c : Addr), vs = [.ref d] ∧ Deck H d c ∧ ∀ (z : Str) (H' : Hp), Tx z n → wB z = true → Kp [d, c] H H' → Deck H' d c → Q (.str z) H'
abbrev NN : List Str := ["_law_deck_here", "_law_some", "_law_letters", "_law_k"]
theorem scName : FnScope NN ["_law_deck_here"] (defScope sName) := ⟨rfl, rfl, rfl, by decide +kernel, rfl, by decide +kernel, by decide +kernel⟩
def names : List Str := ["pl", "plu", "pluss", "iff", "i", "di", "dipp", "parts", "eac", "joins", "wra", "d", "lesser", "dodo"]
theorem names_tx : ∀ z ∈ names, litB z 6 = true := by decide +kernel
theorem names_wB : ∀ z ∈ names, wB z = true := by decide +kernel
theorem tl_az : TL.tl ("abcdefghijklmnopqrstuvwxyz" : Str) = az := by decide +kernel
theorem ok_name {f g : Addr} {fd gd : FuncData} (F : Fun K "_law_name" "_law_name" sName f fd) (G : FnOk P w K mg base CX0 2 g gd ["_law_deck_here", "_law_most"] spTake) (bG : L2.Binds K gd ["_law_deck_here", "_law_most"] []) (kG : keepIn K (.ref g) = true) (mG : mg "_law_take" = some (.ref g)) (mrange : mg "range" = none) : FnOk P w K mg base CX0 3 f fd ["_law_deck_here"] (spTx 100) := by
  refine F.ok scName (fun vs H Q E h => ?_) (fun cdv A outer s H vs Q E hr h => ?_)
  · obtain ⟨d, c, rfl, _⟩ := h
    rfl
  obtain ⟨d, c, rfl, D0, q⟩ := h
  refine ⟨_, pss_cons (ps_if (pt_cmpR op_eq (pe_call G hr rfl mG kG bG .nil pass0 (pa_cons (pv 0) (pa_cons pe_int pa_nil))) pe_int (nomark _))
      (pss_cons (ps_set (i := 1) scName.nd rfl (.inl rfl) (pe_lst (pa_cons pe_str (pa_cons pe_str (pa_cons pe_str (pa_cons pe_str (pa_cons pe_str (pa_cons pe_str (pa_cons pe_str (pa_cons pe_str (pa_cons pe_str (pa_cons pe_str (pa_cons pe_str (pa_cons pe_str (pa_cons pe_str (pa_cons pe_str pa_nil))))))))))))))))
        (pss_one (ps_ret (pe_ix ix_list (pv 1) (pe_call G hr rfl mG kG bG .nil pass0 (pa_cons (pv 0) (pa_cons pe_int pa_nil))) (fun _ _ => rfl))))) pss_nil)
    (pss_cons (ps_set (i := 2) scName.nd rfl (.inr rfl) pe_str)
    (pss_one (ps_ret (pe_op op_add_str pe_str (pe_join pe_str (pe_lc (own := [("_law_k", 3)]) (g := gName 3) (tt := tYes) rfl scName.nd (pi_range1 rfl mrange (pa_cons (pe_call G hr rfl mG kG bG .nil pass0 (pa_cons (pv 0) (pa_cons pe_int pa_nil))) pa_nil)) (blkOk_by (own := [("_law_k", 3)]) (N := NN) (sc := defScope sName) (by decide +kernel))
        (fun _ _ _ _ _ => pg_name (i := 3) scName.nd rfl (Or.inl rfl)) (fun _ _ _ _ _ => pts_nil) (fun _ _ _ _ _ => pe_ix ix_str (pv 2) (pe_call G hr rfl mG kG bG .nil pass0 (pa_cons (pv 0) (pa_cons pe_int pa_nil))) (fun _ _ => rfl)))))))), ?_⟩
  refine ⟨_, rfl, d, c, 3, rfl, D0, by decide, by decide, fun r1 H1 _ _ k1 D1 => ⟨rfl, _, rfl, ite2 (fun _ => ?_) (fun _ => ?_)⟩⟩
  · refine ⟨(by show 14 ≤ sizeLine; decide), fun L nL => ?_⟩
    refine ⟨_, rfl, _, rfl, d, c, 14, rfl, D1.new nL, by decide, by decide, fun r3 H3 a3 b3 k3 D3 => ?_⟩
    obtain ⟨v, hv, ha⟩ := pick (xs := names.map V.str) (n := 14) a3 b3 rfl
    obtain ⟨z, hz, rfl⟩ := List.mem_map.mp hv
    exact ⟨L, names.map V.str, _, _, rfl, rfl, SqL.of (D1.kp k3 nL), ha, q z H3 ((Tx.lit (names_tx z hz)).mono (by decide)) (names_wB z hz) (k1.trans ((Kp.refl _ _).new nL |>.trans k3)) D3⟩
  have ta : Tx "abcdefghijklmnopqrstuvwxyz" 26 := Tx.lit (by decide +kernel)
  have la : (TL.tl ("abcdefghijklmnopqrstuvwxyz" : Str)).length = 26 := by decide +kernel
  have t0 : Tx "x" 1 := Tx.lit (by decide +kernel)
  refine ⟨⟨_, rfl⟩, _, rfl, d, c, 8, rfl, D1, by decide, by decide, fun r H2 r0 r1 k2 D2 => ?_⟩
  have kk := k1.trans k2
  refine ⟨_, rfl, by omega, by omega, fun L nL => lc_range (lo := 0) (n := r.toNat) (fun i H' => ∃ ys : List Str, H' L = some (.lst (ys.map V.str)) ∧ ys.length = i ∧ (∀ y ∈ ys, Tx y 1) ∧ (∃ cs : List Nat, ys = cs.map (fun c => S [c]) ∧ ∀ c ∈ cs, c ∈ az) ∧ Kp [d, c] H H' ∧ Deck H' d c)
    ⟨[], upd_same, rfl, (fun y hy => nomatch hy), ⟨[], rfl, (fun c hc => nomatch hc)⟩, kk.new nL, D2.new nL⟩ ?_ ?_⟩
  · rintro i H5 hi ⟨ys, e1, e2, e3, ⟨cs, ec, hcs⟩, k5, D5⟩
    have nLd : L ∉ [d, c] := D2.nd nL
    refine ⟨rfl, _, rfl, _, rfl, d, c, 26, rfl, D5, by decide, by decide, fun u H6 u0 u1 k6 D6 => ?_⟩
    obtain ⟨x, hxm, ha⟩ := pick (xs := TL.tl ("abcdefghijklmnopqrstuvwxyz" : Str)) (n := 26) u0 u1 la
    refine ⟨_, _, _, rfl, rfl, ta.sz, ha, ?_⟩
    have hL : H6 L = some (.lst (ys.map V.str)) := k6 L _ nLd e1
    refine ⟨_, hL, by rw [List.length_map]; exact small1000 (by omega), ys ++ [⟨#[x]⟩], ?_, by rw [List.length_append, e2]; rfl, ?_, ⟨cs ++ [x], by rw [ec, List.map_append]; rfl, fun c hc => ?_⟩, (k5.trans k6).put (kk.free nL nLd), D6.put nLd⟩
    · rw [upd_same, List.map_append]; rfl
    · intro y hy
      rcases List.mem_append.mp hy with h | h
      · exact e3 y h
      · rw [List.mem_singleton.mp h]; exact ta.at_ ha
    · rcases List.mem_append.mp hc with h | h
      · exact hcs c h
      · rw [List.mem_singleton.mp h, ← tl_az]; exact hxm
  · rintro H5 ⟨ys, e1, e2, e3, ⟨cs, ec, hcs⟩, k5, D5⟩
    have ly : ys.length ≤ 10 := by omega
    refine ⟨_, L, ys, rfl, rfl, .inl (SqL.of e1), sum_one e3 (by omega), ?_⟩
    have tl := (Tx.join e3).mono ly
    refine ⟨_, _, rfl, rfl, t0.sz2 tl, q _ H5 ((t0.add tl).mono (by decide)) ?_ k5 D5⟩
    have ex : ("x" : Str) = S [120] := by decide +kernel
    rw [ec, join_lets, ex, S_cat, wB_S]
    have lc : cs.length = ys.length := by rw [ec, List.length_map]
    refine word_name (fun c hc => ?_) (by rw [List.length_append]; exact Nat.le_add_right 1 _) (by rw [List.length_append]; show 1 + cs.length ≤ 8; omega)
    rcases List.mem_append.mp hc with h | h
    · rw [List.mem_singleton.mp h]; decide
    · exact hcs c h
abbrev NS : List Str := ["_law_deck_here", "_law_letters", "_law_many", "_law_k"]
theorem scShuffle : FnScope NS ["_law_deck_here"] (defScope sShuffle) := ⟨rfl, rfl, rfl, by decide +kernel, rfl, by decide +kernel, by decide +kernel⟩
theorem ok_shuffle {f g : Addr} {fd gd : FuncData} (F : Fun K "_law_shuffle" "_law_shuffle" sShuffle f fd) (G : FnOk P w K mg base CX0 2 g gd ["_law_deck_here", "_law_most"] spTake) (bG : L2.Binds K gd ["_law_deck_here", "_law_most"] []) (kG : keepIn K (.ref g) = true) (mG : mg "_law_take" = some (.ref g))
    (mint : mg "int" = none) (mlen : mg "len" = none) (mrange : mg "range" = none) : FnOk P w K mg base CX0 3 f fd ["_law_deck_here"] (spTx 100) := by
  refine F.ok scShuffle (fun vs H Q E h => ?_) (fun cdv A outer s H vs Q E hr h => ?_)
  · obtain ⟨d, c, rfl, _⟩ := h
    rfl
  obtain ⟨d, c, rfl, D0, q⟩ := h
  refine ⟨_, pss_cons (ps_set (i := 1) scShuffle.nd rfl (.inr rfl) (pe_slice sl_str pe_str po_none (po_some (pe_ix ix_list (pe_lst (pa_cons (pe_call G hr rfl mG kG bG .nil pass0 (pa_cons (pv 0) (pa_cons pe_int pa_nil))) (pa_cons (pe_call G hr rfl mG kG bG .nil pass0 (pa_cons (pv 0) (pa_cons pe_int pa_nil))) pa_nil)))
        (pe_callTy call_int1 (by rfl) mint (by decide +kernel) (pa_cons (pe_cmpR op_eq (pe_call G hr rfl mG kG bG .nil pass0 (pa_cons (pv 0) (pa_cons pe_int pa_nil))) pe_int (nomark _)) pa_nil)) (fun _ _ => rfl)))))
    (pss_cons (ps_set (i := 2) scShuffle.nd rfl (.inl rfl) (pe_op op_mul (pe_ix ix_list (pe_lst (pa_cons (pe_call G hr rfl mG kG bG .nil pass0 (pa_cons (pv 0) (pa_cons pe_int pa_nil))) (pa_cons (pe_call G hr rfl mG kG bG .nil pass0 (pa_cons (pv 0) (pa_cons pe_int pa_nil))) pa_nil)))
        (pe_callTy call_int1 (by rfl) mint (by decide +kernel) (pa_cons (pe_cmpR op_eq (pe_call G hr rfl mG kG bG .nil pass0 (pa_cons (pv 0) (pa_cons pe_int pa_nil))) pe_int (nomark _)) pa_nil)) (fun _ _ => rfl))
      (pe_callTy call_int1 (by rfl) mint (by decide +kernel) (pa_cons (pe_cmpR op_ne (pv 1) pe_str (nomark _)) pa_nil))))
    (pss_one (ps_ret (pe_op op_add_str (pe_op op_add_str (pv 1) pe_str) (pe_join pe_str (pe_lc (own := [("_law_k", 3)]) (g := gName 3) (tt := tYes) rfl scShuffle.nd (pi_range1 rfl mrange (pa_cons (pv 2) pa_nil)) (blkOk_by (own := [("_law_k", 3)]) (N := NS) (sc := defScope sShuffle) (by decide +kernel))
        (fun _ _ _ _ _ => pg_name (i := 3) scShuffle.nd rfl (Or.inl rfl)) (fun _ _ _ _ _ => pts_nil) (fun _ _ _ _ _ => pe_ix ix_str (pv 1) (pe_call G hr rfl mG kG bG .nil pass0 (pa_cons (pv 0) (pa_cons (pe_callB call_len_str (by rfl) mlen PySem.boot_len (pa_cons (pv 1) pa_nil)) pa_nil))) (fun _ _ => rfl)))))))), ?_⟩
  -- letters
  refine ⟨_, rfl, d, c, 4, rfl, D0, by decide, by decide, fun a1 H1 a10 a11 k1 D1 => ?_⟩
  refine ⟨_, rfl, d, c, 9, rfl, D1, by decide, by decide, fun a2 H2 a20 a21 k2 D2 => ⟨(by show 2 ≤ sizeLine; decide), fun p np => ?_⟩⟩
  refine ⟨_, rfl, d, c, 4, rfl, D2.new np, by decide, by decide, fun a3 H3 _ _ k3 D3 => ⟨rfl, .inr ⟨_, rfl, ?_⟩⟩⟩
  have kk3 : Kp [d, c] H H3 := (k1.trans k2).trans ((Kp.refl _ _).new np |>.trans k3)
  have x8 : Tx "abcdefgh" 8 := Tx.lit (by decide +kernel)
  obtain ⟨r1, hr0, hr1⟩ : ∃ r1 : Int, 0 ≤ r1 ∧ atI [V.int a1, .int a2] (if decide (V.int a3 = V.int 0) = true then (1 : Int) else 0) = some (.int r1) := by
    rw [pick2]; split
    · exact ⟨_, a20, rfl⟩
    · exact ⟨_, a10, rfl⟩
  refine ⟨p, _, _, _, rfl, rfl, SqL.of (D2.kp k3 np), hr1, _, rfl, _, rfl, x8.sz, ?_⟩
  have tk : Tx (cutS "abcdefgh" none (some r1)) 8 := x8.cut none (some r1)
  obtain ⟨t, et, ht⟩ : ∃ t : List Nat, cutS "abcdefgh" none (some r1) = S t ∧ abc8.take t.length = t := by
    have e8 : ("abcdefgh" : Str) = S abc8 := by decide +kernel
    refine ⟨abc8.take r1.toNat, by rw [e8, cutS_to hr0], ?_⟩
    rw [List.length_take, ← List.take_take, List.take_length]
  generalize cutS "abcdefgh" none (some r1) = tz at tk et
  -- many
  refine ⟨_, rfl, d, c, 4, rfl, D3, by decide, by decide, fun b1 H4 c1 d1 k4 D4 => ?_⟩
  refine ⟨_, rfl, d, c, 13, rfl, D4, by decide, by decide, fun b2 H5 c2 d2 k5 D5 => ⟨(by show 2 ≤ sizeLine; decide), fun p2 np2 => ?_⟩⟩
  refine ⟨_, rfl, d, c, 4, rfl, D5.new np2, by decide, by decide, fun b3 H6 _ _ k6 D6 => ⟨rfl, .inr ⟨_, rfl, ?_⟩⟩⟩
  have kk6 : Kp [d, c] H H6 := ((kk3.trans k4).trans k5).trans ((Kp.refl _ _).new np2 |>.trans k6)
  obtain ⟨mn, hm0, hm1, hm2⟩ : ∃ mn : Int, mn ≤ 12 ∧ 0 ≤ mn ∧ atI [V.int b1, .int b2] (if decide (V.int b3 = V.int 0) = true then (1 : Int) else 0) = some (.int mn) := by
    by_cases h0 : decide (V.int b3 = V.int 0) = true
    · rw [if_pos h0]; exact ⟨b2, by omega, by omega, atI_nat (j := 1) rfl⟩
    · rw [if_neg h0]; exact ⟨b1, by omega, by omega, atI_nat (j := 0) rfl⟩
  refine ⟨p2, _, _, _, rfl, rfl, SqL.of (D5.kp k6 np2), hm2, _, rfl, rfl, .inr ⟨_, rfl, _, _, rfl, rfl, .inl ⟨by omega, by omega⟩, ?_⟩⟩
  obtain ⟨n, hn, hn1, hn2⟩ : ∃ n : Nat, mn * (if (!decide (V.str tz = V.str "")) = true then (1 : Int) else 0) = n ∧ n ≤ 12 ∧ (0 < n → tz ≠ "") := by
    by_cases h0 : tz = ""
    · refine ⟨0, ?_, by decide, fun z => absurd z (by decide)⟩
      rw [decide_eq_true (show V.str tz = V.str "" by rw [h0])]
      show mn * 0 = 0
      rw [Int.mul_zero]
    · refine ⟨mn.toNat, ?_, by omega, fun _ => h0⟩
      rw [decide_eq_false (show ¬ V.str tz = V.str "" from fun z => h0 (V.str.inj z))]
      show mn * 1 = _
      rw [Int.mul_one]; omega
  have t2 : Tx "-" 1 := Tx.lit (by decide +kernel)
  refine ⟨_, rfl, _, _, rfl, rfl, tk.sz2 t2, ⟨_, rfl⟩, _, rfl, _, rfl, by rw [hn]; omega, by rw [hn]; omega, fun L nL => lc_range (lo := 0) (n := (mn * (if (!decide (V.str tz = V.str "")) = true then (1 : Int) else 0)).toNat) (fun i H' => ∃ ys : List Str, H' L = some (.lst (ys.map V.str)) ∧ ys.length = i ∧ (∀ y ∈ ys, Tx y 1) ∧ (∃ cs : List Nat, ys = cs.map (fun c => S [c]) ∧ ∀ c ∈ cs, c ∈ t) ∧ Kp [d, c] H H' ∧ Deck H' d c)
    ⟨[], upd_same, rfl, (fun y hy => nomatch hy), ⟨[], rfl, (fun c hc => nomatch hc)⟩, kk6.new nL, D6.new nL⟩ ?_ ?_⟩
  · rintro i H7 hi ⟨ys, e1, e2, e3, ⟨cs, ec, hcs⟩, k7, D7⟩
    have hi' : i < n := by rw [hn] at hi; omega
    have tz0 : tz ≠ "" := hn2 (by omega)
    have lz : 0 < tz.length := by
      rcases Nat.eq_zero_or_pos tz.length with h | h
      · exact absurd (TL.ext_tl (show TL.tl tz = TL.tl ("" : Str) from by
          have : (TL.tl tz).length = 0 := by rw [← TL.len_tl]; exact h
          rw [List.eq_nil_of_length_eq_zero this]; decide +kernel)) tz0
      · exact h
    have nLd : L ∉ [d, c] := D6.nd nL
    refine ⟨rfl, _, rfl, _, rfl, _, rfl, _, rfl, tk.sz, d, c, tz.length, rfl, D7, by omega, by have := tk.len; omega, fun u H8 u0 u1 k8 D8 => ?_⟩
    obtain ⟨x, hxm, ha⟩ := pick (xs := TL.tl tz) (n := tz.length) u0 u1 (TL.len_tl tz).symm
    refine ⟨_, _, _, rfl, rfl, tk.sz, ha, ?_⟩
    have hL : H8 L = some (.lst (ys.map V.str)) := k8 L _ nLd e1
    refine ⟨_, hL, by rw [List.length_map]; exact small1000 (by omega), ys ++ [⟨#[x]⟩], ?_, by rw [List.length_append, e2]; rfl, ?_, ⟨cs ++ [x], by rw [ec, List.map_append]; rfl, fun c hc => ?_⟩, (k7.trans k8).put (kk6.free nL nLd), D8.put nLd⟩
    · rw [upd_same, List.map_append]; rfl
    · intro y hy
      rcases List.mem_append.mp hy with h | h
      · exact e3 y h
      · rw [List.mem_singleton.mp h]; exact tk.at_ ha
    · rcases List.mem_append.mp hc with h | h
      · exact hcs c h
      · rw [List.mem_singleton.mp h]; rw [et] at hxm; exact hxm
  · rintro H7 ⟨ys, e1, e2, e3, ⟨cs, ec, hcs⟩, k7, D7⟩
    have ly : ys.length ≤ 12 := by rw [hn] at e2; omega
    refine ⟨_, L, ys, rfl, rfl, .inl (SqL.of e1), sum_one e3 (by omega), ?_⟩
    have tl := (Tx.join e3).mono ly
    refine ⟨_, _, rfl, rfl, (tk.add t2).sz2 tl, q _ H7 (((tk.add t2).add tl).mono (by decide)) ?_ k7 D7⟩
    have ex : ("-" : Str) = S [45] := by decide +kernel
    have lc : cs.length = ys.length := by rw [ec, List.length_map]
    rw [ec, join_lets, ex, et, S_cat, S_cat, wB_S, List.append_assoc]
    have lc12 : cs.length ≤ 12 := by omega
    exact word_shuf ht lc12 hcs
end
end K02
namespace K02
open PySem PySem.W L2 SX Cm
/-! ### things, rows, stacks that are drawn: depth, words in all, size -/
mutual
inductive Thg : Nat → Nat → Nat → PyData → Prop
  | num {k : Nat} (n : Int) (h0 : 0 ≤ n) (h1 : n < 10 ^ 12) : Thg k 0 1 (.tuple [.str "number", .int n])
  | row {k k' w m : Nat} {ws : List PyData} : Rw k w m ws → k < k' → Thg k' w (m + 1) (.tuple [.str "row", .tuple ws])
  | lst {k k' w m : Nat} {ts : List PyData} : Stk k w m ts → k < k' → Thg k' w (m + 1) (.tuple [.str "list", .tuple ts])
inductive Rw : Nat → Nat → Nat → List PyData → Prop
  | nil {k : Nat} : Rw k 0 0 []
  | txt {k w m : Nat} {z : Str} {ws : List PyData} : Tx z 100 → wB z = true → Rw k w m ws → Rw k (w + 1) (m + 1) (.str z :: ws)
  | push {k w m w' m' : Nat} {t : PyData} {ws : List PyData} : Thg k w m t → Rw k w' m' ws → Rw k (w + w' + 1) (m + m' + 1) (.tuple [.str "push", t] :: ws)
inductive Stk : Nat → Nat → Nat → List PyData → Prop
  | nil {k : Nat} : Stk k 0 0 []
  | cons {k w m w' m' : Nat} {t : PyData} {ts : List PyData} : Thg k w m t → Stk k w' m' ts → Stk k (w + w') (m + m') (t :: ts)
end
theorem Rw.append {k : Nat} : ∀ {a b : List PyData} {w m w' m' : Nat}, Rw k w m a → Rw k w' m' b → Rw k (w + w') (m + m') (a ++ b)
  | _, _, _, _, _, _, .nil, h => by rw [Nat.zero_add, Nat.zero_add]; exact h
  | _, _, _, _, w', m', .txt (w := w) (m := m) h hw t, h' => by
    have := Rw.txt h hw (Rw.append t h')
    rw [show w + 1 + w' = w + w' + 1 by omega, show m + 1 + m' = m + m' + 1 by omega]
    exact this
  | _, _, _, _, w', m', .push (w := w) (m := m) (w' := x) (m' := y) h t, h' => by
    have := Rw.push h (Rw.append t h')
    rw [show w + x + 1 + w' = w + (x + w') + 1 by omega, show m + y + 1 + m' = m + (y + m') + 1 by omega]
    exact this
theorem Stk.append {k : Nat} : ∀ {a b : List PyData} {w m w' m' : Nat}, Stk k w m a → Stk k w' m' b → Stk k (w + w') (m + m') (a ++ b)
  | _, _, _, _, _, _, .nil, h => by rw [Nat.zero_add, Nat.zero_add]; exact h
  | _, _, _, _, _, _, .cons h t, h' => by
    rw [Nat.add_assoc, Nat.add_assoc]; exact .cons h (Stk.append t h')
mutual
theorem Thg.ok : ∀ {k w m : Nat} {t : PyData}, Thg k w m t → ok .th t = true ∧ sz t ≤ 3 * m ∧ dep t ≤ 3 * k + 1
  | k, _, _, _, .num n h0 h1 => by
    refine ⟨?_, by show 1 + (1 + (1 + 0)) ≤ 3 * 1; omega, by show 1 + max 0 (max 0 0) ≤ _; omega⟩
    rw [ok_th2, if_pos rfl]
    show (decide (0 ≤ n) && decide (n < 10 ^ 12)) = true
    rw [decide_eq_true h0, decide_eq_true h1]; rfl
  | k', _, _, _, .row (k := k) (m := m) (ws := ws) h l => by
    obtain ⟨a, b, c⟩ := Rw.ok h
    refine ⟨?_, ?_, ?_⟩
    · rw [ok_th2, if_neg (by decide), if_pos rfl, ok_rw]; exact a
    · show 1 + (1 + (1 + szs ws + 0)) ≤ 3 * (m + 1)
      omega
    · show 1 + max 0 (max (1 + deps ws) 0) ≤ _
      omega
  | k', _, _, _, .lst (k := k) (m := m) (ts := ts) h l => by
    obtain ⟨a, b, c⟩ := Stk.ok h
    refine ⟨?_, ?_, ?_⟩
    · rw [ok_th2, if_neg (by decide), if_neg (by decide), if_pos rfl, ok_st]; exact a
    · show 1 + (1 + (1 + szs ts + 0)) ≤ 3 * (m + 1)
      omega
    · show 1 + max 0 (max (1 + deps ts) 0) ≤ _
      omega
theorem Rw.ok : ∀ {k w m : Nat} {ws : List PyData}, Rw k w m ws → ws.all (ok .wd) = true ∧ szs ws ≤ 3 * m ∧ deps ws ≤ 3 * k + 2
  | k, _, _, _, .nil => ⟨rfl, Nat.zero_le _, Nat.zero_le _⟩
  | k, _, _, _, .txt (m := m) (z := z) (ws := ws) h hw t => by
    obtain ⟨a, b, c⟩ := Rw.ok t
    refine ⟨?_, ?_, ?_⟩
    · rw [List.all_cons, a, ok_wdS, hw]; rfl
    · show 1 + szs ws ≤ 3 * (m + 1)
      omega
    · show max 0 (deps ws) ≤ _
      omega
  | k, _, _, _, .push (m := m) (m' := m') (t := t) (ws := ws) h r => by
    obtain ⟨a, b, c⟩ := Rw.ok r
    obtain ⟨a', b', c'⟩ := Thg.ok h
    refine ⟨?_, ?_, ?_⟩
    · rw [List.all_cons, a, ok_wd2, if_pos rfl, a']; rfl
    · show (1 + (1 + (sz t + 0))) + szs ws ≤ 3 * (m + m' + 1)
      omega
    · show max (1 + max 0 (max (dep t) 0)) (deps ws) ≤ _
      omega
theorem Stk.ok : ∀ {k w m : Nat} {ts : List PyData}, Stk k w m ts → ts.all (ok .th) = true ∧ szs ts ≤ 3 * m ∧ deps ts ≤ 3 * k + 1
  | k, _, _, _, .nil => ⟨rfl, Nat.zero_le _, Nat.zero_le _⟩
  | k, _, _, _, .cons (m := m) (m' := m') (t := t) (ts := ts) h r => by
    obtain ⟨a, b, c⟩ := Stk.ok r
    obtain ⟨a', b', c'⟩ := Thg.ok h
    refine ⟨?_, ?_, ?_⟩
    · rw [List.all_cons, a, a']; rfl
    · show sz t + szs ts ≤ 3 * (m + m')
      omega
    · show max (dep t) (deps ts) ≤ _
      omega
end
theorem tx_num : Tx "number" 100 := Tx.lit (by decide +kernel)
theorem tx_row : Tx "row" 100 := Tx.lit (by decide +kernel)
theorem tx_list : Tx "list" 100 := Tx.lit (by decide +kernel)
theorem tx_push : Tx "push" 100 := Tx.lit (by decide +kernel)
theorem pair_tr {K : Frag} {H : Hp} {v : V} {z : Str} {e : PyData} (h : Tr K H v (.tuple [.str z, e])) : ∃ a u, v = .ref a ∧ SqT K H a [.str z, u] ∧ Tr K H u e := by
  cases h with
  | tup hs ht =>
    cases ht with
    | cons a b =>
      cases a
      cases b with
      | cons a b => cases b; exact ⟨_, _, rfl, hs, a⟩
mutual
theorem Thg.bt {K : Frag} {L : List Addr} {H : Hp} {k w m : Nat} {t : PyData} (g : Thg k w m t) (v : V) (h : Tr K H v t) : Bt K L H v t := by
  cases g with
  | num n h0 h1 =>
    obtain ⟨a, u, rfl, hs, hu⟩ := pair_tr h
    cases hu
    exact .tup hs (.cons (.str tx_num) (.cons (.int _) .nil))
  | row g l =>
    obtain ⟨a, u, rfl, hs, hu⟩ := pair_tr h
    obtain ⟨b, xs, rfl, h1, h2⟩ := hu.tupD
    exact .tup hs (.cons (.str tx_row) (.cons (.tup h1 (Rw.bt g xs h2)) .nil))
  | lst g l =>
    obtain ⟨a, u, rfl, hs, hu⟩ := pair_tr h
    obtain ⟨b, xs, rfl, h1, h2⟩ := hu.tupD
    exact .tup hs (.cons (.str tx_list) (.cons (.tup h1 (Stk.bt g xs h2)) .nil))
theorem Rw.bt {K : Frag} {L : List Addr} {H : Hp} {k w m : Nat} {ws : List PyData} (g : Rw k w m ws) (vs : List V) (h : TrAll K H vs ws) : BtAll K L H vs ws := by
  cases g with
  | nil => cases h; exact .nil
  | txt g gw t =>
    cases h with
    | cons a b => cases a; exact .cons (.str g) (Rw.bt t _ b)
  | push g t =>
    cases h with
    | cons a b =>
      obtain ⟨c, u, rfl, hs, hu⟩ := pair_tr a
      exact .cons (.tup hs (.cons (.str tx_push) (.cons (Thg.bt g u hu) .nil))) (Rw.bt t _ b)
theorem Stk.bt {K : Frag} {L : List Addr} {H : Hp} {k w m : Nat} {ts : List PyData} (g : Stk k w m ts) (vs : List V) (h : TrAll K H vs ts) : BtAll K L H vs ts := by
  cases g with
  | nil => cases h; exact .nil
  | cons g t =>
    cases h with
    | cons a b => exact .cons (Thg.bt g _ a) (Stk.bt t _ b)
end
end K02
namespace K02
open PySem PySem.W L2 SX Cm
/-- the deck and what is left -/
structure G3 (H : Hp) (d c lf : Addr) : Prop where
  dk : Deck H d c
  left : ∃ n : Int, H lf = some (.lst [.int n])
  ne : lf ∉ [d, c]
theorem G3.sub {d c lf : Addr} : ∀ b ∈ [d, c], b ∈ [d, c, lf] := fun b h => by
  rcases List.mem_cons.mp h with h | h
  · rw [h]; exact List.mem_cons_self ..
  · rw [List.mem_singleton.mp h]; exact List.mem_cons_of_mem _ (List.mem_cons_self ..)
theorem G3.new {H : Hp} {d c lf p : Addr} {o : HO} (g : G3 H d c lf) (h : H p = none) : G3 (upd H p o) d c lf := by
  obtain ⟨n, e⟩ := g.left
  exact ⟨g.dk.new h, ⟨n, kn e h⟩, g.ne⟩
theorem G3.take {H H' : Hp} {d c lf : Addr} (g : G3 H d c lf) (k : Kp [d, c] H H') (D : Deck H' d c) : G3 H' d c lf := by
  obtain ⟨n, e⟩ := g.left
  exact ⟨D, ⟨n, k lf _ g.ne e⟩, g.ne⟩
theorem G3.nd {H : Hp} {d c lf p : Addr} (g : G3 H d c lf) (h : H p = none) : p ∉ [d, c, lf] := fun z => by
  obtain ⟨n, e⟩ := g.left
  rcases List.mem_cons.mp z with z | z
  · exact g.dk.nd h (by rw [z]; exact List.mem_cons_self ..)
  · rcases List.mem_cons.mp z with z | z
    · exact g.dk.nd h (by rw [z]; exact List.mem_cons_of_mem _ (List.mem_singleton.mpr rfl))
    · rw [List.mem_singleton.mp z, e] at h; cases h
theorem G3.put {H : Hp} {d c lf p : Addr} {o : HO} (g : G3 H d c lf) (h : p ∉ [d, c, lf]) : G3 (upd H p o) d c lf := by
  obtain ⟨n, e⟩ := g.left
  exact ⟨g.dk.put (fun z => h (G3.sub p z)), ⟨n, by rw [upd_ne (fun z => h (by rw [← z]; exact List.mem_cons_of_mem _ (List.mem_cons_of_mem _ (List.mem_singleton.mpr rfl))))]; exact e⟩, g.ne⟩
theorem G3.less {H : Hp} {d c lf : Addr} (g : G3 H d c lf) (n : Int) : G3 (upd H lf (.lst [.int n])) d c lf := ⟨g.dk.put g.ne, ⟨n, upd_same⟩, g.ne⟩
theorem G3.tks {K : Frag} {H H' : Hp} {d c lf : Addr} (g : G3 H d c lf) (k : Kp [d, c, lf] H H') : TKs K H H' := TKs.kp k fun b hb => by
  obtain ⟨n, e⟩ := g.left
  obtain ⟨_, _, e1⟩ := g.dk.at_
  obtain ⟨_, e2, _⟩ := g.dk.cells
  rcases List.mem_cons.mp hb with z | z
  · rw [z]; exact ⟨_, e1⟩
  · rcases List.mem_cons.mp z with z | z
    · rw [z]; exact ⟨_, e2⟩
    · rw [List.mem_singleton.mp z]; exact ⟨_, e⟩
theorem lfm {d c lf : Addr} : lf ∈ [d, c, lf] := List.mem_cons_of_mem _ (List.mem_cons_of_mem _ (List.mem_singleton.mpr rfl))
/-- how large a thing of this depth may be -/
def BT : Nat → Nat
  | 0 => 1
  | k + 1 => 1 + 6 * (1 + BT k)
section
variable {P : Program} {w : World} {K : PySem.W.Frag} {mg : Str → Option Value} {base : Heap}
def spThing (K : Frag) (k : Nat) : Sp := fun vs H Q _ => ∃ (d c lf : Addr), vs = [.ref d, .int k, .ref lf] ∧ G3 H d c lf ∧ ∀ (v : V) (t : PyData) (n m : Nat) (H' : Hp), Tr K H' v t → Thg k n m t → m ≤ BT k → Kp [d, c, lf] H H' → G3 H' d c lf → Q v H'
def spStack (K : Frag) (k : Nat) : Sp := fun vs H Q _ => ∃ (d c lf : Addr), vs = [.ref d, .int k, .ref lf] ∧ G3 H d c lf ∧ ∀ (v : V) (ts : List PyData) (n m : Nat) (H' : Hp), Tr K H' v (.tuple ts) → Stk k n m ts → m ≤ 6 * BT k → Kp [d, c, lf] H H' → G3 H' d c lf → Q v H'
def spRow (K : Frag) (k : Nat) : Sp := fun vs H Q _ => ∃ (d c lf : Addr), vs = [.ref d, .int k, .ref lf] ∧ G3 H d c lf ∧ ∀ (v : V) (ws : List PyData) (n m : Nat) (H' : Hp), Tr K H' v (.tuple ws) → Rw k n m ws → m ≤ 6 * (1 + BT k) → Kp [d, c, lf] H H' → G3 H' d c lf → Q v H'
/-- one word, as a row of one -/
def spWord (K : Frag) (k : Nat) : Sp := fun vs H Q _ => ∃ (d c lf : Addr), vs = [.ref d, .int k, .ref lf] ∧ G3 H d c lf ∧ ∀ (v : V) (y : PyData) (n m : Nat) (H' : Hp), Tr K H' v y → Rw k n m [y] → m ≤ 1 + BT k → Kp [d, c, lf] H H' → G3 H' d c lf → Q v H'
abbrev A3 : List Str := ["_law_deck_here", "_law_deep", "_law_left"]
theorem scThing : FnScope ["_law_deck_here", "_law_deep", "_law_left", "_law_way"] A3 (defScope sThing) := ⟨rfl, rfl, rfl, by decide +kernel, rfl, by decide +kernel, by decide +kernel⟩
theorem ok_thing0 {f g gn : Addr} {fd gd gnd : FuncData} (F : Fun K "_law_thing" "_law_thing" sThing f fd) (G : FnOk P w K mg base CX0 2 g gd ["_law_deck_here", "_law_most"] spTake) (bG : L2.Binds K gd ["_law_deck_here", "_law_most"] []) (kG : keepIn K (.ref g) = true) (mG : mg "_law_take" = some (.ref g))
    (N : FnOk P w K mg base CX0 3 gn gnd ["_law_deck_here"] spNumber) (bN : L2.Binds K gnd ["_law_deck_here"] []) (kN : keepIn K (.ref gn) = true) (mN : mg "_law_number" = some (.ref gn)) : FnOk P w K mg base CX0 4 f fd A3 (spThing K 0) := by
  refine F.ok scThing (fun vs H Q E h => ?_) (fun cdv A outer s H vs Q E hr h => ?_)
  · obtain ⟨d, c, lf, rfl, _⟩ := h
    rfl
  obtain ⟨d, c, lf, rfl, g0, q⟩ := h
  refine ⟨_, pss_cons (ps_set (i := 3) scThing.nd rfl (.inl rfl) (pe_call G (hr.mono (by decide)) rfl mG kG bG .nil pass0 (pa_cons (pv 0) (pa_cons pe_int pa_nil))))
    (pss_cons (ps_if (PW.pt (pw_or (pt_cmpR op_eq (pv 1) pe_int (nomark _)) (pw_or1 (pt_cmpR op_lt (pv 3) pe_int (nomark _))))) (pss_one (ps_ret (pe_tup (pa_cons pe_str (pa_cons (pe_call N hr rfl mN kN bN .nil pass0 (pa_cons (pv 0) pa_nil)) pa_nil))))) pss_nil) pss_never), ?_⟩
  refine ⟨_, rfl, d, c, 4, rfl, g0.dk, by decide, by decide, fun r H1 _ _ k1 D1 => ?_⟩
  refine ⟨_, rfl, rfl, _, rfl, iteT (iteT ?_)⟩
  refine ⟨_, rfl, d, c, rfl, D1, fun n H2 n0 n1 k2 D2 => ⟨(by show 2 ≤ sizeLine; decide), fun p np => ?_⟩⟩
  have g2 := (g0.take k1 D1).take k2 D2
  exact q _ _ _ _ _ (.tup (SqT.of upd_same) (.cons (.str _) (.cons (.int _) .nil))) (.num n n0 n1) (Nat.le_refl 1) (((k1.trans k2).mono G3.sub).new np) (g2.new np)
theorem ok_thingS {k : Nat} {f g gn gr gs : Addr} {fd gd gnd grd gsd : FuncData} (F : Fun K "_law_thing" "_law_thing" sThing f fd) (G : FnOk P w K mg base CX0 2 g gd ["_law_deck_here", "_law_most"] spTake) (bG : L2.Binds K gd ["_law_deck_here", "_law_most"] []) (kG : keepIn K (.ref g) = true) (mG : mg "_law_take" = some (.ref g))
    (N : FnOk P w K mg base CX0 3 gn gnd ["_law_deck_here"] spNumber) (bN : L2.Binds K gnd ["_law_deck_here"] []) (kN : keepIn K (.ref gn) = true) (mN : mg "_law_number" = some (.ref gn))
    (R : FnOk P w K mg base CX0 (6 + 3 * k) gr grd A3 (spRow K k)) (bR : L2.Binds K grd A3 []) (kR : keepIn K (.ref gr) = true) (mR : mg "_law_row" = some (.ref gr))
    (Z : FnOk P w K mg base CX0 (6 + 3 * k) gs gsd A3 (spStack K k)) (bZ : L2.Binds K gsd A3 []) (kZ : keepIn K (.ref gs) = true) (mZ : mg "_law_stack" = some (.ref gs)) : FnOk P w K mg base CX0 (6 + 3 * k + 1) f fd A3 (spThing K (k + 1)) := by
  refine F.ok scThing (fun vs H Q E h => ?_) (fun cdv A outer s H vs Q E hr h => ?_)
  · obtain ⟨d, c, lf, rfl, _⟩ := h
    rfl
  obtain ⟨d, c, lf, rfl, g0, q⟩ := h
  refine ⟨_, pss_cons (ps_set (i := 3) scThing.nd rfl (.inl rfl) (pe_call G (hr.mono (by omega)) rfl mG kG bG .nil pass0 (pa_cons (pv 0) (pa_cons pe_int pa_nil))))
    (pss_cons (ps_if (PW.pt (pw_or (pt_cmpR op_eq (pv 1) pe_int (nomark _)) (pw_or1 (pt_cmpR op_lt (pv 3) pe_int (nomark _))))) (pss_one (ps_ret (pe_tup (pa_cons pe_str (pa_cons (pe_call N (hr.mono (by omega)) rfl mN kN bN .nil pass0 (pa_cons (pv 0) pa_nil)) pa_nil))))) pss_nil)
    (pss_cons (ps_if (pt_cmpR op_eq (pv 3) pe_int (nomark _)) (pss_one (ps_ret (pe_tup (pa_cons pe_str (pa_cons (pe_call R hr rfl mR kR bR .nil pass0 (pa_cons (pv 0) (pa_cons (pe_op op_sub (pv 1) pe_int) (pa_cons (pv 2) pa_nil)))) pa_nil))))) pss_nil)
    (pss_one (ps_ret (pe_tup (pa_cons pe_str (pa_cons (pe_call Z hr rfl mZ kZ bZ .nil pass0 (pa_cons (pv 0) (pa_cons (pe_op op_sub (pv 1) pe_int) (pa_cons (pv 2) pa_nil)))) pa_nil))))))), ?_⟩
  refine ⟨_, rfl, d, c, 4, rfl, g0.dk, by decide, by decide, fun r H1 _ _ k1 D1 => ?_⟩
  have g1 := g0.take k1 D1
  have k1' : Kp [d, c, lf] H H1 := k1.mono G3.sub
  have nz : decide (V.int ((k + 1 : Nat) : Int) = V.int 0) = false := decide_eq_false (fun z => by have := V.int.inj z; omega)
  have dk : (((k + 1 : Nat) : Int) - 1) = (k : Int) := by omega
  refine ⟨_, rfl, rfl, _, rfl, ?_⟩
  rw [nz]
  refine iteF ?_
  refine ⟨_, rfl, _, _, rfl, rfl, _, rfl, ite2 (fun _ => ?_) (fun _ => ?_)⟩
  · refine ⟨_, rfl, d, c, rfl, D1, fun n H2 n0 n1 k2 D2 => ⟨(by show 2 ≤ sizeLine; decide), fun p np => ?_⟩⟩
    exact q _ _ _ _ _ (.tup (SqT.of upd_same) (.cons (.str _) (.cons (.int _) .nil))) (.num n n0 n1) (by show 1 ≤ 1 + _; omega) ((k1'.trans (k2.mono G3.sub)).new np) ((g1.take k2 D2).new np)
  refine ⟨_, rfl, rfl, _, rfl, ite2 (fun _ => ?_) (fun _ => ?_)⟩
  · refine ⟨_, rfl, _, rfl, _, _, rfl, rfl, _, rfl, d, c, lf, congrArg (fun i : Int => [V.ref d, V.int i, V.ref lf]) dk, g1, fun v ws n m H2 hv hw hm k2 g2 => ⟨(by show 2 ≤ sizeLine; decide), fun p np => ?_⟩⟩
    refine q _ _ _ _ _ (.tup (SqT.of upd_same) (.cons (.str _) (.cons (hv.mono (.of (same_new np _))) .nil))) (.row hw (Nat.lt_succ_self k)) ?_ ((k1'.trans k2).new np) (g2.new np)
    show m + 1 ≤ 1 + 6 * (1 + BT k)
    omega
  · refine ⟨_, rfl, _, rfl, _, _, rfl, rfl, _, rfl, d, c, lf, congrArg (fun i : Int => [V.ref d, V.int i, V.ref lf]) dk, g1, fun v ws n m H2 hv hw hm k2 g2 => ⟨(by show 2 ≤ sizeLine; decide), fun p np => ?_⟩⟩
    refine q _ _ _ _ _ (.tup (SqT.of upd_same) (.cons (.str _) (.cons (hv.mono (.of (same_new np _))) .nil))) (.lst hw (Nat.lt_succ_self k)) ?_ ((k1'.trans k2).new np) (g2.new np)
    show m + 1 ≤ 1 + 6 * (1 + BT k)
    omega
abbrev NK : List Str := ["_law_deck_here", "_law_deep", "_law_left", "_law_found", "_law_k"]
theorem scStack : FnScope NK A3 (defScope sStack) := ⟨rfl, rfl, rfl, by decide +kernel, rfl, by decide +kernel, by decide +kernel⟩
theorem ok_stack {k : Nat} {f g gt : Addr} {fd gd gtd : FuncData} (F : Fun K "_law_stack" "_law_stack" sStack f fd) (G : FnOk P w K mg base CX0 2 g gd ["_law_deck_here", "_law_most"] spTake) (bG : L2.Binds K gd ["_law_deck_here", "_law_most"] []) (kG : keepIn K (.ref g) = true) (mG : mg "_law_take" = some (.ref g))
    (T : FnOk P w K mg base CX0 (5 + 3 * k) gt gtd A3 (spThing K k)) (bT : L2.Binds K gtd A3 []) (kT : keepIn K (.ref gt) = true) (mT : mg "_law_thing" = some (.ref gt)) (mrange : mg "range" = none) (mint : mg "int" = none) (mtup : mg "tuple" = none) : FnOk P w K mg base CX0 (5 + 3 * k + 1) f fd A3 (spStack K k) := by
  refine F.ok scStack (fun vs H Q E h => ?_) (fun cdv A outer s H vs Q E hr h => ?_)
  · obtain ⟨d, c, lf, rfl, _⟩ := h
    rfl
  obtain ⟨d, c, lf, rfl, g0, q⟩ := h
  have hr2 := hr.mono (j := 2) (by omega)
  refine ⟨_, pss_cons (ps_set (i := 3) scStack.nd rfl (.inl rfl) (pe_lst pa_nil))
    (pss_cons (ps_for PassesOwn.never rfl (pi_range1 rfl mrange (pa_cons (pe_call G hr2 rfl mG kG bG .nil pass0 (pa_cons (pv 0) (pa_cons (pe_ix ix_list (pe_lst (pa_cons pe_int (pa_cons pe_int pa_nil))) (pe_callTy call_int1 (by rfl) mint (by decide +kernel) (pa_cons (pe_cmpR op_eq (pe_call G hr2 rfl mG kG bG .nil pass0 (pa_cons (pv 0) (pa_cons pe_int pa_nil))) pe_int (nomark _)) pa_nil)) (fun _ _ => rfl)) pa_nil))) pa_nil)) (pg_name (i := 4) scStack.nd rfl (.inl rfl))
      (pss_one (ps_if (pt_cmpR op_gt (pe_ix ix_list (pv 2) pe_int (fun _ _ => rfl)) pe_int (nomark _))
        (pss_cons (ps_asg (pe_op op_sub (pe_ix ix_list (pv 2) pe_int (fun _ _ => rfl)) pe_int) (pg_sub (pv 2) pe_int set_list))
        (pss_one (ps_expr (pe_bm PySem.F.plainAttrs_list PySem.F.slot_list_append PySem.F.type_list_append mt_append (pv 3) (pa_cons (pe_call T hr rfl mT kT bT .nil pass0 (pa_cons (pv 0) (pa_cons (pv 1) (pa_cons (pv 2) pa_nil)))) pa_nil))))) pss_nil)))
    (pss_one (ps_ret (pe_callTy call_tuple_of (by rfl) mtup (by decide +kernel) (pa_cons (pv 3) pa_nil))))), ?_⟩
  refine ⟨(by show 0 ≤ sizeLine; decide), fun fo nfo => ?_⟩
  have nfd := g0.nd nfo
  have g1 := g0.new nfo (o := .lst [])
  have k1 : Kp [d, c, lf] H (upd H fo (.lst [])) := (Kp.refl _ H).new nfo
  have hf1 : upd H fo (.lst []) fo = some (.lst []) := upd_same
  generalize upd H fo (.lst []) = H1 at g1 k1 hf1
  refine ⟨_, rfl, (by show 2 ≤ sizeLine; decide), fun p np => ?_⟩
  refine ⟨_, rfl, d, c, 8, rfl, g1.dk.new np, by decide, by decide, fun r H2 _ _ k2 D2 => ⟨rfl, .inr ⟨_, rfl, ?_⟩⟩⟩
  have hp2 : H2 p = some (.lst [.int 4, .int 7]) := g1.dk.kp k2 np
  have kk2 : Kp [d, c, lf] H H2 := (k1.new np).trans (k2.mono G3.sub)
  have g2 : G3 H2 d c lf := (g1.new np).take k2 D2
  have hf2 : H2 fo = some (.lst []) := k2 fo _ (fun z => nfd (G3.sub fo z)) (kn hf1 np)
  obtain ⟨mx, hx0, hx1, hx2⟩ : ∃ mx : Int, 0 < mx ∧ mx ≤ 7 ∧ atI [V.int 4, .int 7] (if decide (V.int r = V.int 7) = true then (1 : Int) else 0) = some (.int mx) := by
    by_cases h0 : decide (V.int r = V.int 7) = true
    · rw [if_pos h0]; exact ⟨7, by decide, by decide, atI_nat (j := 1) rfl⟩
    · rw [if_neg h0]; exact ⟨4, by decide, by decide, atI_nat (j := 0) rfl⟩
  refine ⟨p, _, _, _, rfl, rfl, SqL.of hp2, hx2, d, c, mx, rfl, g2.dk, hx0, by omega, fun r3 H3 r30 r31 k3 D3 => ?_⟩
  have kk3 := kk2.trans (k3.mono G3.sub)
  have g3 := g2.take k3 D3
  have hf3 : H3 fo = some (.lst []) := k3 fo _ (fun z => nfd (G3.sub fo z)) hf2
  refine ⟨r3, rfl, by omega, by omega, for_range (lo := 0) (n := r3.toNat) (fun i σ H' => ∃ (acc : List V) (ts : List PyData) (n m : Nat) (x4 : Option V), σ = [some (.ref d), some (.int k), some (.ref lf), some (.ref fo), x4] ∧ H' fo = some (.lst acc) ∧ TrAll K H' acc ts ∧ Stk k n m ts ∧ m ≤ i * BT k ∧ acc.length ≤ i ∧ Kp [d, c, lf] H H' ∧ G3 H' d c lf)
    ⟨[], [], 0, 0, none, rfl, hf3, .nil, .nil, by omega, Nat.le_refl 0, kk3, g3⟩ ?_ ?_⟩
  · rintro i σ H4 hi ⟨acc, ts, n, m, x4, rfl, hf, ha, hk, hm, hl, k4, g4⟩
    obtain ⟨ln, hlf⟩ := g4.left
    have mul : (i + 1) * BT k = i * BT k + BT k := Nat.succ_mul i (BT k)
    refine ⟨_, rfl, lf, _, _, _, rfl, rfl, SqL.of hlf, atI_nat (j := 0) rfl, _, _, rfl, rfl, _, rfl, ite2 (fun _ => ?_) (fun _ => ?_)⟩
    · refine ⟨_, rfl, lf, _, _, _, rfl, rfl, SqL.of hlf, atI_nat (j := 0) rfl, _, _, rfl, rfl, _, rfl, lf, _, _, 0, rfl, rfl, hlf, rfl, ?_⟩
      have tk5 : TKs K H4 (upd H4 lf (.lst [.int (ln - 1)])) := TKs.lst hlf
      have g5 : G3 (upd H4 lf (.lst [.int (ln - 1)])) d c lf := g4.less _
      have k5 : Kp [d, c, lf] H (upd H4 lf (.lst [.int (ln - 1)])) := k4.own lfm
      have hf5 : upd H4 lf (.lst [.int (ln - 1)]) fo = some (.lst acc) := by rw [upd_ne (fun z => nfd (by rw [z]; exact lfm))]; exact hf
      refine ⟨_, rfl, .inl ⟨rfl, _, SqL.of hf5⟩, _, rfl, _, rfl, _, rfl, d, c, lf, rfl, g5, fun v t n2 m2 H6 hv ht hm2 k6 g6 => ?_⟩
      have hf6 : H6 fo = some (.lst acc) := k6 fo _ nfd hf5
      have tk6 := tk5.trans (g5.tks (K := K) k6)
      refine ⟨fo, acc, v, rfl, rfl, hf6, small1000 (by omega), ?_⟩
      refine ⟨acc ++ [v], ts ++ [t], n + n2, m + m2, _, rfl, upd_same, ?_, hk.append (by have := Stk.cons ht Stk.nil; rw [Nat.add_zero, Nat.add_zero] at this; exact this), by omega, by rw [List.length_append, List.length_singleton]; omega, (k5.trans k6).put ((Kp.refl _ H).free nfo nfd), g6.put nfd⟩
      exact ((ha.mono tk6).append (.cons hv .nil)).mono (TKs.lst hf6)
    · exact ⟨acc, ts, n, m, _, rfl, hf, ha, hk, by omega, by omega, k4, g4⟩
  · rintro σ H4 ⟨acc, ts, n, m, x4, rfl, hf, ha, hk, hm, hl, k4, g4⟩
    refine ⟨_, rfl, fo, acc, rfl, .inl ⟨SqL.of hf, fun t nt => ?_⟩⟩
    refine q _ ts n m _ (.tup (SqT.of upd_same) (ha.mono (.of (same_new nt _)))) hk ?_ (k4.new nt) (g4.new nt)
    have : r3.toNat * BT k ≤ 6 * BT k := Nat.mul_le_mul_right _ (by omega)
    omega
theorem scRow : FnScope NK A3 (defScope sRow) := ⟨rfl, rfl, rfl, by decide +kernel, rfl, by decide +kernel, by decide +kernel⟩
theorem ok_row {k : Nat} {f g gt : Addr} {fd gd gtd : FuncData} (F : Fun K "_law_row" "_law_row" sRow f fd) (G : FnOk P w K mg base CX0 2 g gd ["_law_deck_here", "_law_most"] spTake) (bG : L2.Binds K gd ["_law_deck_here", "_law_most"] []) (kG : keepIn K (.ref g) = true) (mG : mg "_law_take" = some (.ref g))
    (T : FnOk P w K mg base CX0 (5 + 3 * k) gt gtd A3 (spWord K k)) (bT : L2.Binds K gtd A3 []) (kT : keepIn K (.ref gt) = true) (mT : mg "_law_word" = some (.ref gt)) (mrange : mg "range" = none) (mint : mg "int" = none) (mtup : mg "tuple" = none) : FnOk P w K mg base CX0 (5 + 3 * k + 1) f fd A3 (spRow K k) := by
  refine F.ok scRow (fun vs H Q E h => ?_) (fun cdv A outer s H vs Q E hr h => ?_)
  · obtain ⟨d, c, lf, rfl, _⟩ := h
    rfl
  obtain ⟨d, c, lf, rfl, g0, q⟩ := h
  have hr2 := hr.mono (j := 2) (by omega)
  refine ⟨_, pss_cons (ps_set (i := 3) scRow.nd rfl (.inl rfl) (pe_lst pa_nil))
    (pss_cons (ps_for PassesOwn.never rfl (pi_range1 rfl mrange (pa_cons (pe_call G hr2 rfl mG kG bG .nil pass0 (pa_cons (pv 0) (pa_cons (pe_ix ix_list (pe_lst (pa_cons pe_int (pa_cons pe_int pa_nil))) (pe_callTy call_int1 (by rfl) mint (by decide +kernel) (pa_cons (pe_cmpR op_eq (pe_call G hr2 rfl mG kG bG .nil pass0 (pa_cons (pv 0) (pa_cons pe_int pa_nil))) pe_int (nomark _)) pa_nil)) (fun _ _ => rfl)) pa_nil))) pa_nil)) (pg_name (i := 4) scRow.nd rfl (.inl rfl))
      (pss_one (ps_if (pt_cmpR op_gt (pe_ix ix_list (pv 2) pe_int (fun _ _ => rfl)) pe_int (nomark _))
        (pss_one (ps_expr (pe_bm PySem.F.plainAttrs_list PySem.F.slot_list_append PySem.F.type_list_append mt_append (pv 3) (pa_cons (pe_call T hr rfl mT kT bT .nil pass0 (pa_cons (pv 0) (pa_cons (pv 1) (pa_cons (pv 2) pa_nil)))) pa_nil)))) pss_nil)))
    (pss_one (ps_ret (pe_callTy call_tuple_of (by rfl) mtup (by decide +kernel) (pa_cons (pv 3) pa_nil))))), ?_⟩
  refine ⟨(by show 0 ≤ sizeLine; decide), fun fo nfo => ?_⟩
  have nfd := g0.nd nfo
  have g1 := g0.new nfo (o := .lst [])
  have k1 : Kp [d, c, lf] H (upd H fo (.lst [])) := (Kp.refl _ H).new nfo
  have hf1 : upd H fo (.lst []) fo = some (.lst []) := upd_same
  generalize upd H fo (.lst []) = H1 at g1 k1 hf1
  refine ⟨_, rfl, (by show 2 ≤ sizeLine; decide), fun p np => ?_⟩
  refine ⟨_, rfl, d, c, 8, rfl, g1.dk.new np, by decide, by decide, fun r H2 _ _ k2 D2 => ⟨rfl, .inr ⟨_, rfl, ?_⟩⟩⟩
  have hp2 : H2 p = some (.lst [.int 4, .int 7]) := g1.dk.kp k2 np
  have kk2 : Kp [d, c, lf] H H2 := (k1.new np).trans (k2.mono G3.sub)
  have g2 : G3 H2 d c lf := (g1.new np).take k2 D2
  have hf2 : H2 fo = some (.lst []) := k2 fo _ (fun z => nfd (G3.sub fo z)) (kn hf1 np)
  obtain ⟨mx, hx0, hx1, hx2⟩ : ∃ mx : Int, 0 < mx ∧ mx ≤ 7 ∧ atI [V.int 4, .int 7] (if decide (V.int r = V.int 7) = true then (1 : Int) else 0) = some (.int mx) := by
    by_cases h0 : decide (V.int r = V.int 7) = true
    · rw [if_pos h0]; exact ⟨7, by decide, by decide, atI_nat (j := 1) rfl⟩
    · rw [if_neg h0]; exact ⟨4, by decide, by decide, atI_nat (j := 0) rfl⟩
  refine ⟨p, _, _, _, rfl, rfl, SqL.of hp2, hx2, d, c, mx, rfl, g2.dk, hx0, by omega, fun r3 H3 r30 r31 k3 D3 => ?_⟩
  have kk3 := kk2.trans (k3.mono G3.sub)
  have g3 := g2.take k3 D3
  have hf3 : H3 fo = some (.lst []) := k3 fo _ (fun z => nfd (G3.sub fo z)) hf2
  refine ⟨r3, rfl, by omega, by omega, for_range (lo := 0) (n := r3.toNat) (fun i σ H' => ∃ (acc : List V) (ts : List PyData) (n m : Nat) (x4 : Option V), σ = [some (.ref d), some (.int k), some (.ref lf), some (.ref fo), x4] ∧ H' fo = some (.lst acc) ∧ TrAll K H' acc ts ∧ Rw k n m ts ∧ m ≤ i * (1 + BT k) ∧ acc.length ≤ i ∧ Kp [d, c, lf] H H' ∧ G3 H' d c lf)
    ⟨[], [], 0, 0, none, rfl, hf3, .nil, .nil, by omega, Nat.le_refl 0, kk3, g3⟩ ?_ ?_⟩
  · rintro i σ H4 hi ⟨acc, ts, n, m, x4, rfl, hf, ha, hk, hm, hl, k4, g4⟩
    obtain ⟨ln, hlf⟩ := g4.left
    have mul : (i + 1) * (1 + BT k) = i * (1 + BT k) + (1 + BT k) := Nat.succ_mul i (1 + BT k)
    refine ⟨_, rfl, lf, _, _, _, rfl, rfl, SqL.of hlf, atI_nat (j := 0) rfl, _, _, rfl, rfl, _, rfl, ite2 (fun _ => ?_) (fun _ => ?_)⟩
    · refine ⟨_, rfl, .inl ⟨rfl, _, SqL.of hf⟩, _, rfl, _, rfl, _, rfl, d, c, lf, rfl, g4, fun v t n2 m2 H6 hv ht hm2 k6 g6 => ?_⟩
      have hf6 : H6 fo = some (.lst acc) := k6 fo _ nfd hf
      have tk6 := g4.tks (K := K) k6
      refine ⟨fo, acc, v, rfl, rfl, hf6, small1000 (by omega), ?_⟩
      refine ⟨acc ++ [v], ts ++ [t], n + n2, m + m2, _, rfl, upd_same, ?_, hk.append ht, by omega, by rw [List.length_append, List.length_singleton]; omega, (k4.trans k6).put ((Kp.refl _ H).free nfo nfd), g6.put nfd⟩
      exact ((ha.mono tk6).append (.cons hv .nil)).mono (TKs.lst hf6)
    · exact ⟨acc, ts, n, m, _, rfl, hf, ha, hk, by omega, by omega, k4, g4⟩
  · rintro σ H4 ⟨acc, ts, n, m, x4, rfl, hf, ha, hk, hm, hl, k4, g4⟩
    refine ⟨_, rfl, fo, acc, rfl, .inl ⟨SqL.of hf, fun t nt => ?_⟩⟩
    refine q _ ts n m _ (.tup (SqT.of upd_same) (ha.mono (.of (same_new nt _)))) hk ?_ (k4.new nt) (g4.new nt)
    have : r3.toNat * (1 + BT k) ≤ 6 * (1 + BT k) := Nat.mul_le_mul_right _ (by omega)
    omega
theorem basics_tx : ∀ z ∈ basics, litB z 6 = true := by decide +kernel
theorem basics_wB : ∀ z ∈ basics, wB z = true := by decide +kernel
abbrev NWd : List Str := ["_law_deck_here", "_law_deep", "_law_left", "_law_basics", "_law_way"]
theorem scWord : FnScope NWd A3 (defScope sWord) := ⟨rfl, rfl, rfl, by decide +kernel, rfl, by decide +kernel, by decide +kernel⟩
theorem ok_word {k : Nat} {f g gt gs gn : Addr} {fd gd gtd gsd gnd : FuncData} (F : Fun K "_law_word" "_law_word" sWord f fd) (G : FnOk P w K mg base CX0 2 g gd ["_law_deck_here", "_law_most"] spTake) (bG : L2.Binds K gd ["_law_deck_here", "_law_most"] []) (kG : keepIn K (.ref g) = true) (mG : mg "_law_take" = some (.ref g))
    (T : FnOk P w K mg base CX0 (4 + 3 * k) gt gtd A3 (spThing K k)) (bT : L2.Binds K gtd A3 []) (kT : keepIn K (.ref gt) = true) (mT : mg "_law_thing" = some (.ref gt))
    (Z : FnOk P w K mg base CX0 3 gs gsd ["_law_deck_here"] (spTx 100)) (bZ : L2.Binds K gsd ["_law_deck_here"] []) (kZ : keepIn K (.ref gs) = true) (mZ : mg "_law_shuffle" = some (.ref gs))
    (N : FnOk P w K mg base CX0 3 gn gnd ["_law_deck_here"] (spTx 100)) (bN : L2.Binds K gnd ["_law_deck_here"] []) (kN : keepIn K (.ref gn) = true) (mN : mg "_law_name" = some (.ref gn)) : FnOk P w K mg base CX0 (4 + 3 * k + 1) f fd A3 (spWord K k) := by
  refine F.ok scWord (fun vs H Q E h => ?_) (fun cdv A outer s H vs Q E hr h => ?_)
  · obtain ⟨d, c, lf, rfl, _⟩ := h
    rfl
  obtain ⟨d, c, lf, rfl, g0, q⟩ := h
  have hr2 := hr.mono (j := 2) (by omega)
  have hr3 := hr.mono (j := 3) (by omega)
  refine ⟨_, pss_cons (ps_set (i := 3) scWord.nd rfl (.inl rfl) (pe_split pe_str pe_str))
    (pss_cons (ps_asg (pe_op op_sub (pe_ix ix_list (pv 2) pe_int (fun _ _ => rfl)) pe_int) (pg_sub (pv 2) pe_int set_list))
    (pss_cons (ps_set (i := 4) scWord.nd rfl (.inl rfl) (pe_call G hr2 rfl mG kG bG .nil pass0 (pa_cons (pv 0) (pa_cons pe_int pa_nil))))
    (pss_cons (ps_if (pt_cmpR op_lt (pv 4) pe_int (nomark _)) (pss_one (ps_ret (pe_ix ix_list (pv 3) (pe_call G hr2 rfl mG kG bG .nil pass0 (pa_cons (pv 0) (pa_cons pe_int pa_nil))) (fun _ _ => rfl)))) pss_nil)
    (pss_cons (ps_if (pt_cmpR op_eq (pv 4) pe_int (nomark _)) (pss_one (ps_ret (pe_call Z hr3 rfl mZ kZ bZ .nil pass0 (pa_cons (pv 0) pa_nil)))) pss_nil)
    (pss_cons (ps_if (pt_cmpR op_eq (pv 4) pe_int (nomark _)) (pss_one (ps_ret (pe_call N hr3 rfl mN kN bN .nil pass0 (pa_cons (pv 0) pa_nil)))) pss_nil)
    (pss_one (ps_ret (pe_tup (pa_cons pe_str (pa_cons (pe_call T hr rfl mT kT bT .nil pass0 (pa_cons (pv 0) (pa_cons (pv 1) (pa_cons (pv 2) pa_nil)))) pa_nil)))))))))), ?_⟩
  refine ⟨⟨_, rfl⟩, _, _, rfl, rfl, (by decide +kernel), (by decide +kernel), fun b nb => ?_⟩
  rw [basics_split]
  have nbd := g0.nd nb
  have g1 := g0.new nb (o := .lst (basics.map V.str))
  have k1 : Kp [d, c, lf] H (upd H b (.lst (basics.map V.str))) := (Kp.refl _ H).new nb
  have hb1 : upd H b (.lst (basics.map V.str)) b = some (.lst (basics.map V.str)) := upd_same
  generalize upd H b (.lst (basics.map V.str)) = H1 at g1 k1 hb1
  obtain ⟨ln, hlf⟩ := g1.left
  refine ⟨_, rfl, lf, _, _, _, rfl, rfl, SqL.of hlf, atI_nat (j := 0) rfl, _, _, rfl, rfl, _, rfl, lf, _, _, 0, rfl, rfl, hlf, rfl, ?_⟩
  have g2 : G3 (upd H1 lf (.lst [.int (ln - 1)])) d c lf := g1.less _
  have k2 : Kp [d, c, lf] H (upd H1 lf (.lst [.int (ln - 1)])) := k1.own lfm
  have hb2 : upd H1 lf (.lst [.int (ln - 1)]) b = some (.lst (basics.map V.str)) := by rw [upd_ne (fun z => nbd (by rw [z]; exact lfm))]; exact hb1
  refine ⟨_, rfl, d, c, 7, rfl, g2.dk, by decide, by decide, fun r H3 _ _ k3 D3 => ?_⟩
  have g3 := g2.take k3 D3
  have kk3 := k2.trans (k3.mono G3.sub)
  have hb3 : H3 b = some (.lst (basics.map V.str)) := k3 b _ (fun z => nbd (G3.sub b z)) hb2
  have txt : ∀ (z : Str) (H' : Hp), Tx z 100 → wB z = true → Kp [d, c] H3 H' → Deck H' d c → Q (.str z) H' := fun z H' tz wz k4 D4 =>
    q _ _ _ _ H' (.str z) (.txt tz wz .nil) (by show 0 + 1 ≤ _; omega) (kk3.trans (k4.mono G3.sub)) (g3.take k4 D4)
  refine ⟨_, rfl, _, _, rfl, rfl, _, rfl, ite2 (fun _ => ?_) (fun _ => ?_)⟩
  · refine ⟨_, rfl, _, rfl, d, c, 15, rfl, g3.dk, by decide, by decide, fun r4 H4 r40 r41 k4 D4 => ?_⟩
    obtain ⟨v, hv, ha⟩ := pick (xs := basics.map V.str) (n := 15) r40 r41 rfl
    obtain ⟨z, hz, rfl⟩ := List.mem_map.mp hv
    exact ⟨b, _, _, _, rfl, rfl, SqL.of (k4 b _ (fun z => nbd (G3.sub b z)) hb3), ha, txt z H4 ((Tx.lit (basics_tx z hz)).mono (by decide)) (basics_wB z hz) k4 D4⟩
  refine ⟨_, rfl, rfl, _, rfl, ite2 (fun _ => ?_) (fun _ => ?_)⟩
  · exact ⟨_, rfl, d, c, rfl, g3.dk, fun z H4 tz wz k4 D4 => txt z H4 tz wz k4 D4⟩
  refine ⟨_, rfl, rfl, _, rfl, ite2 (fun _ => ?_) (fun _ => ?_)⟩
  · exact ⟨_, rfl, d, c, rfl, g3.dk, fun z H4 tz wz k4 D4 => txt z H4 tz wz k4 D4⟩
  refine ⟨_, rfl, _, rfl, _, rfl, d, c, lf, rfl, g3, fun v t n m H4 hv ht hm k4 g4 => ⟨(by show 2 ≤ sizeLine; decide), fun p np => ?_⟩⟩
  refine q _ _ _ _ _ (.tup (SqT.of upd_same) (.cons (.str _) (.cons (hv.mono (.of (same_new np _))) .nil))) (.push ht .nil) ?_ ((kk3.trans k4).new np) (g4.new np)
  show m + 0 + 1 ≤ 1 + BT k
  omega
/-- things of every depth -/
theorem all_things {f4 f5 f6 f7 f8 f9 f10 f11 : Addr} {d4 d5 d6 d7 d8 d9 d10 d11 : FuncData}
    (O4 : FnOk P w K mg base CX0 2 f4 d4 ["_law_deck_here", "_law_most"] spTake) (b4 : L2.Binds K d4 ["_law_deck_here", "_law_most"] []) (k4 : keepIn K (.ref f4) = true) (m4 : mg "_law_take" = some (.ref f4))
    (O5 : FnOk P w K mg base CX0 3 f5 d5 ["_law_deck_here"] spNumber) (b5 : L2.Binds K d5 ["_law_deck_here"] []) (k5 : keepIn K (.ref f5) = true) (m5 : mg "_law_number" = some (.ref f5))
    (O6 : FnOk P w K mg base CX0 3 f6 d6 ["_law_deck_here"] (spTx 100)) (b6 : L2.Binds K d6 ["_law_deck_here"] []) (k6 : keepIn K (.ref f6) = true) (m6 : mg "_law_name" = some (.ref f6))
    (O7 : FnOk P w K mg base CX0 3 f7 d7 ["_law_deck_here"] (spTx 100)) (b7 : L2.Binds K d7 ["_law_deck_here"] []) (k7 : keepIn K (.ref f7) = true) (m7 : mg "_law_shuffle" = some (.ref f7))
    (F8 : Fun K "_law_thing" "_law_thing" sThing f8 d8) (b8 : L2.Binds K d8 A3 []) (m8 : mg "_law_thing" = some (.ref f8))
    (F9 : Fun K "_law_stack" "_law_stack" sStack f9 d9) (b9 : L2.Binds K d9 A3 []) (m9 : mg "_law_stack" = some (.ref f9))
    (F10 : Fun K "_law_word" "_law_word" sWord f10 d10) (b10 : L2.Binds K d10 A3 []) (m10 : mg "_law_word" = some (.ref f10))
    (F11 : Fun K "_law_row" "_law_row" sRow f11 d11) (b11 : L2.Binds K d11 A3 []) (m11 : mg "_law_row" = some (.ref f11))
    (mrange : mg "range" = none) (mint : mg "int" = none) (mtup : mg "tuple" = none) :
    ∀ k : Nat, FnOk P w K mg base CX0 (4 + 3 * k) f8 d8 A3 (spThing K k) ∧ FnOk P w K mg base CX0 (6 + 3 * k) f11 d11 A3 (spRow K k) ∧ FnOk P w K mg base CX0 (6 + 3 * k) f9 d9 A3 (spStack K k) := by
  have up : ∀ k : Nat, FnOk P w K mg base CX0 (4 + 3 * k) f8 d8 A3 (spThing K k) → FnOk P w K mg base CX0 (6 + 3 * k) f11 d11 A3 (spRow K k) ∧ FnOk P w K mg base CX0 (6 + 3 * k) f9 d9 A3 (spStack K k) := fun k T =>
    ⟨(ok_row F11 O4 b4 k4 m4 ((ok_word F10 O4 b4 k4 m4 T b8 F8.kp m8 O7 b7 k7 m7 O6 b6 k6 m6).mono (by omega)) b10 F10.kp m10 mrange mint mtup).mono (by omega), (ok_stack F9 O4 b4 k4 m4 (T.mono (by omega)) b8 F8.kp m8 mrange mint mtup).mono (by omega)⟩
  intro k
  induction k with
  | zero =>
    have T := ok_thing0 F8 O4 b4 k4 m4 O5 b5 k5 m5
    exact ⟨T, up 0 T⟩
  | succ k ih =>
    obtain ⟨R, Z⟩ := up k ih.1
    have T : FnOk P w K mg base CX0 (4 + 3 * (k + 1)) f8 d8 A3 (spThing K (k + 1)) := (ok_thingS F8 O4 b4 k4 m4 O5 b5 k5 m5 R b11 F11.kp m11 Z b9 F9.kp m9).mono (by omega)
    exact ⟨T, up (k + 1) T⟩
end
end K02
namespace K02
open PySem PySem.W L2 SX Cm
theorem btDrop {K : Frag} {L : List Addr} {H : Hp} : ∀ (n : Nat) {xs : List V} {ds : List PyData}, BtAll K L H xs ds → BtAll K L H (xs.drop n) (ds.drop n)
  | 0, _, _, h => h
  | _ + 1, _, _, .nil => .nil
  | n + 1, _, _, .cons _ t => btDrop n t
theorem btTake {K : Frag} {L : List Addr} {H : Hp} : ∀ (n : Nat) {xs : List V} {ds : List PyData}, BtAll K L H xs ds → BtAll K L H (xs.take n) (ds.take n)
  | 0, _, _, _ => .nil
  | _ + 1, _, _, .nil => .nil
  | n + 1, _, _, .cons h t => .cons h (btTake n t)
theorem szDrop : ∀ (n : Nat) (ds : List PyData), szs (ds.drop n) ≤ szs ds ∧ deps (ds.drop n) ≤ deps ds
  | 0, ds => ⟨Nat.le_refl _, Nat.le_refl _⟩
  | _ + 1, [] => ⟨Nat.le_refl _, Nat.le_refl _⟩
  | n + 1, d :: r => by
    obtain ⟨a, b⟩ := szDrop n r
    refine ⟨?_, ?_⟩
    · show szs (r.drop n) ≤ sz d + szs r
      omega
    · show deps (r.drop n) ≤ max (dep d) (deps r)
      omega
theorem szTake : ∀ (n : Nat) (ds : List PyData), szs (ds.take n) ≤ szs ds ∧ deps (ds.take n) ≤ deps ds
  | 0, ds => ⟨Nat.zero_le _, Nat.zero_le _⟩
  | _ + 1, [] => ⟨Nat.le_refl _, Nat.le_refl _⟩
  | n + 1, d :: r => by
    obtain ⟨a, b⟩ := szTake n r
    refine ⟨?_, ?_⟩
    · show sz d + szs (r.take n) ≤ sz d + szs r
      omega
    · show max (dep d) (deps (r.take n)) ≤ max (dep d) (deps r)
      omega
theorem btRev {K : Frag} {L : List Addr} {H : Hp} : ∀ {xs : List V} {ds : List PyData}, BtAll K L H xs ds → BtAll K L H xs.reverse ds.reverse
  | _, _, .nil => .nil
  | _, _, .cons h t => by
    rw [List.reverse_cons, List.reverse_cons]
    exact (btRev t).append (.cons h .nil)
theorem szRev : ∀ (ds : List PyData), szs ds.reverse = szs ds ∧ deps ds.reverse = deps ds
  | [] => ⟨rfl, rfl⟩
  | d :: r => by
    obtain ⟨a, b⟩ := szRev r
    rw [List.reverse_cons, szs_append, deps_append, a, b]
    refine ⟨?_, ?_⟩
    · show szs r + (sz d + 0) = sz d + szs r
      omega
    · show max (deps r) (max (dep d) 0) = max (dep d) (deps r)
      omega
theorem btCut {K : Frag} {L : List Addr} {H : Hp} {xs : List V} {ds : List PyData} (h : BtAll K L H xs ds) (lo hi : Option Int) : ∃ es, BtAll K L H (cutV xs lo hi) es ∧ szs es ≤ szs ds ∧ deps es ≤ deps ds := by
  unfold cutV
  refine ⟨_, btTake _ (btDrop _ h), ?_, ?_⟩
  · exact Nat.le_trans (szTake _ _).1 (szDrop _ _).1
  · exact Nat.le_trans (szTake _ _).2 (szDrop _ _).2
/-- a slice of a tuple of any values -/
theorem slB {K : Frag} {L : List Addr} {H : Hp} {a : Addr} {xs : List V} {ds : List PyData} {lo hi : Option Int} {Q : VK} (ha : SqT K H a xs) (hx : BtAll K L H xs ds)
    (q : ∀ (b : Addr) (ys : List V) (es : List PyData) (H' : Hp), Same H H' → SqT K H' b ys → BtAll K L H' ys es → szs es ≤ szs ds → deps es ≤ deps ds → Q (.ref b) H') : rSlA K (.ref a) lo hi H Q := by
  refine ⟨a, xs, rfl, ha, fun _ => q a xs ds H (Same.refl H) ha hx (Nat.le_refl _) (Nat.le_refl _), fun _ p np => ?_⟩
  obtain ⟨es, h1, h2, h3⟩ := btCut hx lo hi
  exact q p _ es _ (same_new np _) (SqT.of upd_same) (h1.mono (.of (same_new np _))) h2 h3
/-- the sum of two tuples of any values -/
theorem catB {K : Frag} {L : List Addr} {H : Hp} {a b : Addr} {xs ys : List V} {ds es : List PyData} {Q : VK} (ha : SqT K H a xs) (hx : BtAll K L H xs ds) (hb : SqT K H b ys) (hy : BtAll K L H ys es) (hl : szs ds + szs es ≤ 1000000)
    (q : ∀ (r : Addr) (zs : List V) (H' : Hp), Same H H' → SqT K H' r zs → BtAll K L H' zs (ds ++ es) → Q (.ref r) H') : rCatA K (.ref a) (.ref b) H Q := by
  have l1 := hx.len
  have l2 := hy.len
  have l3 := szs_len ds
  have l4 := szs_len es
  refine ⟨a, b, xs, ys, rfl, rfl, ha, hb, mid (by omega), fun e => ?_, fun _ e => ?_, fun _ _ p np => ?_⟩
  · subst e
    cases hx
    exact q b ys H (Same.refl H) hb hy
  · subst e
    cases hy
    rw [List.append_nil] at q
    exact q a xs H (Same.refl H) ha hx
  · exact q p _ _ (same_new np _) (SqT.of upd_same) ((hx.append hy).mono (.of (same_new np _)))
/-- an expression that makes a value anew, of this size and depth -/
def Gd (K : Frag) (L : List Addr) (H0 : Hp) (te : TE) (n m : Nat) : Prop := ∀ (σ : St) (H : Hp) (Q : VK), Same H0 H → (∀ (v : V) (e : PyData) (H' : Hp), Same H H' → Bt K L H' v e → sz e ≤ n → dep e ≤ m → Q v H') → te σ H Q
def GdA (K : Frag) (L : List Addr) (H0 : Hp) (ta : TA) (n m k : Nat) : Prop := ∀ (σ : St) (H : Hp) (Q : List V → Hp → Prop), Same H0 H → (∀ (vs : List V) (es : List PyData) (H' : Hp), Same H H' → BtAll K L H' vs es → szs es ≤ n → deps es ≤ m → vs.length = k → Q vs H') → ta σ H Q
section
variable {K : Frag} {L : List Addr} {H0 : Hp}
theorem gd_c {v : V} {e : PyData} (h : ∀ H, Bt K L H v e) (hs : sz e ≤ 1) (hd : dep e ≤ 0) : Gd K L H0 (tC v) 1 0 := fun _ H Q _ q => q v e H (Same.refl H) (h H) hs hd
theorem gd_int (i : Int) : Gd K L H0 (tC (.int i)) 1 0 := gd_c (fun _ => .int i) (Nat.le_refl 1) (Nat.le_refl 0)
theorem gd_bl (b : Bool) : Gd K L H0 (tC (.bl b)) 1 0 := gd_c (fun _ => .bl b) (Nat.le_refl 1) (Nat.le_refl 0)
theorem gd_non : Gd K L H0 (tC .non) 1 0 := gd_c (fun _ => .non) (Nat.le_refl 1) (Nat.le_refl 0)
theorem gd_str {z : Str} (h : litB z 100 = true) : Gd K L H0 (tC (.str z)) 1 0 := gd_c (fun _ => .str (Tx.lit h)) (Nat.le_refl 1) (Nat.le_refl 0)
theorem gd_neg (i : Int) : Gd K L H0 (tUn (rU fun i => .int (-i)) (tC (.int i))) 1 0 := fun _ H Q _ q => ⟨_, rfl, q _ _ H (Same.refl H) (.int _) (Nat.le_refl 1) (Nat.le_refl 0)⟩
theorem gda_nil : GdA K L H0 tNil 0 0 0 := fun _ H Q _ q => q [] [] H (Same.refl H) .nil (Nat.le_refl 0) (Nat.le_refl 0) rfl
theorem gda_cons {te : TE} {ta : TA} {n m n' m' k : Nat} (h : Gd K L H0 te n m) (t : GdA K L H0 ta n' m' k) : GdA K L H0 (tCons te ta) (n + n') (max m m') (k + 1) := fun σ H Q s q =>
  h σ H _ s fun v e H1 s1 b1 z1 d1 => t σ H1 _ (s.trans s1) fun vs es H2 s2 b2 z2 d2 l2 => q (v :: vs) (e :: es) H2 (s1.trans s2) (.cons (b1.mono (.of s2)) b2) (by show sz e + szs es ≤ _; omega) (by show max (dep e) (deps es) ≤ _; omega) (by rw [List.length_cons, l2])
theorem gd_tup {ta : TA} {n m k : Nat} (h : GdA K L H0 ta n m k) (hk : k ≤ 100) : Gd K L H0 (tTup ta) (n + 1) (m + 1) := fun σ H Q s q =>
  h σ H _ s fun vs es H1 s1 b1 z1 d1 l1 => ⟨mid (by omega), fun p np => q _ (.tuple es) _ (s1.trans (same_new np _)) (.tup (SqT.of upd_same) (b1.mono (.of (same_new np _)))) (by rw [sz_tuple]; omega) (by rw [dep_tuple]; omega)⟩
theorem gd_lst {ta : TA} {n m k : Nat} (hL : ∀ p, H0 p = none → p ∉ L) (h : GdA K L H0 ta n m k) (hk : k ≤ 100) : Gd K L H0 (tLst ta) 1 0 := fun σ H Q s q =>
  h σ H _ s fun vs es H1 s1 b1 z1 d1 l1 => ⟨mid (by omega), fun p np => q _ (.list []) _ (s1.trans (same_new np _)) (.lst (hL p ((s.trans s1).free np)) upd_same) (Nat.le_refl 1) (Nat.le_refl 0)⟩
theorem gd_dct (hL : ∀ p, H0 p = none → p ∉ L) : Gd K L H0 tDNewK 1 0 := fun σ H Q s q p np => q _ (.dict []) _ (same_new np _) (.dct (hL p (s.free np)) upd_same) (Nat.le_refl 1) (Nat.le_refl 0)
end
end K02
namespace K02
open PySem PySem.W L2 SX Cm
theorem Deck.bks {K : Frag} {H H' : Hp} {d c : Addr} (D : Deck H d c) (k : Kp [d, c] H H') : BKs K [d, c] H H' := ⟨TKs.kp k fun b hb => by
  obtain ⟨_, _, e1⟩ := D.at_
  obtain ⟨_, e2, _⟩ := D.cells
  rcases List.mem_cons.mp hb with z | z
  · rw [z]; exact ⟨_, e1⟩
  · rw [List.mem_singleton.mp z]; exact ⟨_, e2⟩, k⟩
theorem BtAll.mem {K : Frag} {L : List Addr} {H : Hp} : ∀ {vs : List V} {es : List PyData} {v : V}, BtAll K L H vs es → v ∈ vs → ∃ e, e ∈ es ∧ Bt K L H v e
  | _, _, v, .nil, h => nomatch h
  | _, _, v, .cons h t, m => by
    rcases List.mem_cons.mp m with rfl | m
    · exact ⟨_, List.mem_cons_self .., h⟩
    · obtain ⟨e, h1, h2⟩ := BtAll.mem t m
      exact ⟨e, List.mem_cons_of_mem _ h1, h2⟩
theorem slBP {K : Frag} {L : List Addr} {H : Hp} {a : Addr} {xs : List V} {ds : List PyData} {lo : Option Int} {Q : VK} {σ : St} (ha : SqT K H a xs) (hx : BtAll K L H xs ds)
    (q : ∀ (b : Addr) (ys : List V) (es : List PyData) (H' : Hp), Same H H' → SqT K H' b ys → BtAll K L H' ys es → szs es ≤ szs ds → deps es ≤ deps ds → Q (.ref b) H') : tNoPart σ H fun u H3 => rSlA K (.ref a) lo u H3 Q := slB (hi := none) ha hx q
theorem gd_pow {K : Frag} {L : List Addr} {H0 : Hp} : Gd K L H0 (tOp (rI CPow fun i j => V.int (i ^ j.toNat)) (tC (.int 10)) (tC (.int 12))) 1 0 := fun σ H Q _ q => ⟨_, _, rfl, rfl, ⟨by decide, by decide, by decide⟩, q _ _ H (Same.refl H) (.int _) (Nat.le_refl 1) (Nat.le_refl 0)⟩
theorem gd_pow1 {K : Frag} {L : List Addr} {H0 : Hp} : Gd K L H0 (tOp (rI0 fun i j => V.int (i - j)) (tOp (rI CPow fun i j => V.int (i ^ j.toNat)) (tC (.int 10)) (tC (.int 12))) (tC (.int 1))) 1 0 := fun σ H Q _ q => ⟨_, _, rfl, rfl, ⟨by decide, by decide, by decide⟩, _, _, rfl, rfl, q _ _ H (Same.refl H) (.int _) (Nat.le_refl 1) (Nat.le_refl 0)⟩
theorem at_lst {K : Frag} {L : List Addr} {H0 H : Hp} {ta : TA} {n m k : Nat} {σ : St} {Q : VK} (h : GdA K L H0 ta n m k) (hk : k ≤ 100) (s : Same H0 H)
    (q : ∀ (vs : List V) (es : List PyData) (H1 : Hp) (p : Addr), Same H H1 → BtAll K L H1 vs es → szs es ≤ n → deps es ≤ m → vs.length = k → H0 p = none → H1 p = some (.lst vs) → Q (.ref p) H1) : tLst ta σ H Q :=
  h σ H _ s fun vs es H1 s1 b1 z1 d1 l1 => ⟨mid (by omega), fun p np => q vs es _ p (s1.trans (same_new np _)) (b1.mono (.of (same_new np _))) z1 d1 l1 ((s.trans s1).free np) upd_same⟩
section
variable {P : Program} {w : World} {K : PySem.W.Frag} {mg : Str → Option Value} {base : Heap}
def spBent (K : Frag) (n : Nat) : Sp := fun vs H Q _ => ∃ (d c : Addr) (v : V) (e : PyData), vs = [.ref d, v] ∧ Deck H d c ∧ Bt K [d, c] H v e ∧ sz e ≤ 400000 ∧ dep e < n ∧
  ∀ (r : V) (e' : PyData) (H' : Hp), Bt K [d, c] H' r e' → sz e' ≤ 2 * sz e + 60 → dep e' ≤ dep e + 3 → Kp [d, c] H H' → Deck H' d c → Q r H'
abbrev NO : List Str := ["_law_deck_here", "_law_thing_here", "_law_some"]
abbrev A2 : List Str := ["_law_deck_here", "_law_thing_here"]
theorem scOdd : FnScope NO A2 (defScope sOdd) := ⟨rfl, rfl, rfl, by decide +kernel, rfl, by decide +kernel, by decide +kernel⟩
theorem ok_odd {n : Nat} {f g : Addr} {fd gd : FuncData} (F : Fun K "_law_odd" "_law_odd" sOdd f fd) (T : Ty4 mg) (G : FnOk P w K mg base CX0 2 g gd ["_law_deck_here", "_law_most"] spTake) (bG : L2.Binds K gd ["_law_deck_here", "_law_most"] []) (kG : keepIn K (.ref g) = true) (mG : mg "_law_take" = some (.ref g)) (mlist : mg "list" = none) : FnOk P w K mg base CX0 3 f fd A2 (spBent K n) := by
  refine F.ok scOdd (fun vs H Q E h => ?_) (fun cdv A outer s H vs Q E hr h => ?_)
  · obtain ⟨d, c, v, e, rfl, _⟩ := h
    rfl
  obtain ⟨d, c, v, e, rfl, D, hv, hz, _, q⟩ := h
  refine ⟨_, pss_cons (ps_set (i := 2) scOdd.nd rfl (.inl rfl) (pe_lst (pa_cons pe_non (pa_cons pe_bl (pa_cons pe_bl (pa_cons (pe_un un_neg pe_int) (pa_cons pe_int (pa_cons (pe_op op_pow pe_int pe_int) (pa_cons (pe_op op_sub (pe_op op_pow pe_int pe_int) pe_int) (pa_cons pe_str (pa_cons pe_str (pa_cons pe_str (pa_cons pe_str (pa_cons pe_str (pa_cons pe_str (pa_cons pe_str pa_nil))))))))))))))))
    (pss_cons (ps_set (i := 2) scOdd.nd rfl (.inl rfl) (pe_op op_cat (pv 2) (pe_lst (pa_cons pe_str (pa_cons (pe_tup pa_nil) (pa_cons (pe_lst pa_nil) (pa_cons pe_dnewK pa_nil)))))))
    (pss_cons (ps_set (i := 2) scOdd.nd rfl (.inl rfl) (pe_op op_cat (pv 2) (pe_lst (pa_cons (pe_tup (pa_cons pe_str pa_nil)) (pa_cons (pe_tup (pa_cons pe_str (pa_cons pe_int pa_nil))) (pa_cons (pe_tup (pa_cons pe_str (pa_cons (pe_tup pa_nil) pa_nil))) (pa_cons (pe_tup (pa_cons pe_str (pa_cons (pe_tup pa_nil) pa_nil))) (pa_cons (pe_tup (pa_cons pe_str (pa_cons pe_int pa_nil))) (pa_cons (pe_tup (pa_cons pe_str (pa_cons pe_bl pa_nil))) pa_nil)))))))))
    (pss_cons (ps_set (i := 2) scOdd.nd rfl (.inl rfl) (pe_op op_cat (pv 2) (pe_lst (pa_cons (pe_tup (pa_cons pe_str (pa_cons (pe_un un_neg pe_int) pa_nil))) (pa_cons (pe_tup (pa_cons pe_str (pa_cons (pe_tup (pa_cons pe_str (pa_cons pe_int pa_nil))) pa_nil))) (pa_cons (pe_tup (pa_cons pe_str (pa_cons pe_str pa_nil))) (pa_cons (pe_tup (pa_cons pe_str (pa_cons pe_str pa_nil))) (pa_cons (pe_tup (pa_cons pe_str (pa_cons (pe_lst (pa_cons pe_str pa_nil)) pa_nil))) pa_nil))))))))
    (pss_cons (ps_if (PW.pt (pw_and (pt_val (pe_callB call_isi (by rfl) T.isi PyProof.Rows.boot_isinstance (pa_cons (pv 1) (pa_cons (pe_bltn (v := .ty "tuple") (by rfl) T.tup (by decide +kernel) rfl) pa_nil)))) (pw_and1 (pt_cmpR op_eq (pe_call G hr rfl mG kG bG .nil pass0 (pa_cons (pv 0) (pa_cons pe_int pa_nil))) pe_int (nomark _))))) (pss_one (ps_ret (pe_ix ix_list (pe_lst (pa_cons (pe_callTy call_list_of (by rfl) mlist (by decide +kernel) (pa_cons (pv 1) pa_nil)) (pa_cons (pe_op op_catA (pv 1) (pe_slice sl_tupA (pv 1) (po_some (pe_un un_neg pe_int)) po_none)) (pa_cons (pe_slice sl_tupA (pv 1) (po_some pe_int) po_none) (pa_cons (pe_revT (pv 1)) (pa_cons (pe_slice sl_tupA (pv 1) po_none (po_some (pe_un un_neg pe_int))) pa_nil)))))) (pe_call G hr rfl mG kG bG .nil pass0 (pa_cons (pv 0) (pa_cons pe_int pa_nil))) (fun _ _ => rfl)))) pss_nil)
    (pss_one (ps_ret (pe_ix ix_list (pv 2) (pe_call G hr rfl mG kG bG .nil pass0 (pa_cons (pv 0) (pa_cons (pe_callB call_len_seq (by rfl) T.len PySem.boot_len (pa_cons (pv 2) pa_nil)) pa_nil))) (fun _ _ => rfl)))))))), ?_⟩
  have hL : ∀ p, H p = none → p ∉ [d, c] := fun p np => D.nd np
  unfold tSeq tAsg
  refine at_lst (K := K) (L := [d, c]) (H0 := H) (gda_cons gd_non (gda_cons (gd_bl _) (gda_cons (gd_bl _) (gda_cons (gd_neg _) (gda_cons (gd_int _) (gda_cons gd_pow (gda_cons gd_pow1 (gda_cons (gd_str (z := "") (by decide +kernel)) (gda_cons (gd_str (z := "plus") (by decide +kernel)) (gda_cons (gd_str (z := "push") (by decide +kernel)) (gda_cons (gd_str (z := "row") (by decide +kernel)) (gda_cons (gd_str (z := "list") (by decide +kernel)) (gda_cons (gd_str (z := "number") (by decide +kernel)) (gda_cons (gd_str (z := "Plus") (by decide +kernel)) gda_nil)))))))))))))) (by decide) (Same.refl H) ?_
  refine fun vs0 es0 H0 p0 s0 b0 z0 d0 l0 f0 e0 => ?_
  refine ⟨_, rfl, at_lst (K := K) (L := [d, c]) (H0 := H) (gda_cons (gd_str (z := "a-b") (by decide +kernel)) (gda_cons (gd_tup gda_nil (by decide)) (gda_cons (gd_lst hL gda_nil (by decide)) (gda_cons (gd_dct hL) gda_nil)))) (by decide) s0 ?_⟩
  refine fun us es tH1 tp1 ts1 tb1 tz1 td1 tl1 _ te1 => ?_
  have ep := ts1 _ _ e0
  have lm' := b0.len
  have lz' := szs_len es0
  refine ⟨p0, tp1, vs0, us, rfl, rfl, ep, te1, mid (by omega), fun p1 n1 => ?_⟩
  have s1 := (s0.trans ts1).trans (same_new n1 (.lst (vs0 ++ us)))
  have b1 := ((b0.mono (.of ts1)).append tb1).mono (.of (same_new n1 (.lst (vs0 ++ us))))
  have e1 : upd tH1 p1 (.lst (vs0 ++ us)) p1 = some (.lst (vs0 ++ us)) := upd_same
  have f1 : H p1 = none := (s0.trans ts1).free n1
  have z1 : szs (es0 ++ es) ≤ 18 := by rw [szs_append]; omega
  have d1 : deps (es0 ++ es) ≤ 3 := by rw [deps_append]; omega
  have l1 : (vs0 ++ us).length = 18 := by rw [List.length_append]; omega
  clear tb1 tz1 td1 tl1 te1 ep
  generalize upd tH1 p1 (.lst (vs0 ++ us)) = H1 at s1 b1 e1
  generalize vs0 ++ us = vs1 at b1 e1 l1
  generalize es0 ++ es = es1 at b1 z1 d1
  refine ⟨_, rfl, at_lst (K := K) (L := [d, c]) (H0 := H) (gda_cons (gd_tup (gda_cons (gd_str (z := "push") (by decide +kernel)) gda_nil) (by decide)) (gda_cons (gd_tup (gda_cons (gd_str (z := "push") (by decide +kernel)) (gda_cons (gd_int _) gda_nil)) (by decide)) (gda_cons (gd_tup (gda_cons (gd_str (z := "row") (by decide +kernel)) (gda_cons (gd_tup gda_nil (by decide)) gda_nil)) (by decide)) (gda_cons (gd_tup (gda_cons (gd_str (z := "list") (by decide +kernel)) (gda_cons (gd_tup gda_nil (by decide)) gda_nil)) (by decide)) (gda_cons (gd_tup (gda_cons (gd_str (z := "number") (by decide +kernel)) (gda_cons (gd_int _) gda_nil)) (by decide)) (gda_cons (gd_tup (gda_cons (gd_str (z := "number") (by decide +kernel)) (gda_cons (gd_bl _) gda_nil)) (by decide)) gda_nil)))))) (by decide) s1 ?_⟩
  refine fun us es tH1 tp1 ts1 tb1 tz1 td1 tl1 _ te1 => ?_
  have ep := ts1 _ _ e1
  have lm' := b1.len
  have lz' := szs_len es1
  refine ⟨p1, tp1, vs1, us, rfl, rfl, ep, te1, mid (by omega), fun p2 n2 => ?_⟩
  have s2 := (s1.trans ts1).trans (same_new n2 (.lst (vs1 ++ us)))
  have b2 := ((b1.mono (.of ts1)).append tb1).mono (.of (same_new n2 (.lst (vs1 ++ us))))
  have e2 : upd tH1 p2 (.lst (vs1 ++ us)) p2 = some (.lst (vs1 ++ us)) := upd_same
  have f2 : H p2 = none := (s1.trans ts1).free n2
  have z2 : szs (es1 ++ es) ≤ 36 := by rw [szs_append]; omega
  have d2 : deps (es1 ++ es) ≤ 3 := by rw [deps_append]; omega
  have l2 : (vs1 ++ us).length = 24 := by rw [List.length_append]; omega
  clear tb1 tz1 td1 tl1 te1 ep
  generalize upd tH1 p2 (.lst (vs1 ++ us)) = H2 at s2 b2 e2
  generalize vs1 ++ us = vs2 at b2 e2 l2
  generalize es1 ++ es = es2 at b2 z2 d2
  refine ⟨_, rfl, at_lst (K := K) (L := [d, c]) (H0 := H) (gda_cons (gd_tup (gda_cons (gd_str (z := "number") (by decide +kernel)) (gda_cons (gd_neg _) gda_nil)) (by decide)) (gda_cons (gd_tup (gda_cons (gd_str (z := "push") (by decide +kernel)) (gda_cons (gd_tup (gda_cons (gd_str (z := "number") (by decide +kernel)) (gda_cons (gd_int _) gda_nil)) (by decide)) gda_nil)) (by decide)) (gda_cons (gd_tup (gda_cons (gd_str (z := "row") (by decide +kernel)) (gda_cons (gd_str (z := "plus") (by decide +kernel)) gda_nil)) (by decide)) (gda_cons (gd_tup (gda_cons (gd_str (z := "list") (by decide +kernel)) (gda_cons (gd_str (z := "plus") (by decide +kernel)) gda_nil)) (by decide)) (gda_cons (gd_tup (gda_cons (gd_str (z := "row") (by decide +kernel)) (gda_cons (gd_lst hL (gda_cons (gd_str (z := "plus") (by decide +kernel)) gda_nil) (by decide)) gda_nil)) (by decide)) gda_nil))))) (by decide) s2 ?_⟩
  refine fun us es tH1 tp1 ts1 tb1 tz1 td1 tl1 _ te1 => ?_
  have ep := ts1 _ _ e2
  have lm' := b2.len
  have lz' := szs_len es2
  refine ⟨p2, tp1, vs2, us, rfl, rfl, ep, te1, mid (by omega), fun p3 n3 => ?_⟩
  have s3 := (s2.trans ts1).trans (same_new n3 (.lst (vs2 ++ us)))
  have b3 := ((b2.mono (.of ts1)).append tb1).mono (.of (same_new n3 (.lst (vs2 ++ us))))
  have e3 : upd tH1 p3 (.lst (vs2 ++ us)) p3 = some (.lst (vs2 ++ us)) := upd_same
  have f3 : H p3 = none := (s2.trans ts1).free n3
  have z3 : szs (es2 ++ es) ≤ 60 := by rw [szs_append]; omega
  have d3 : deps (es2 ++ es) ≤ 3 := by rw [deps_append]; omega
  have l3 : (vs2 ++ us).length = 29 := by rw [List.length_append]; omega
  clear tb1 tz1 td1 tl1 te1 ep
  generalize upd tH1 p3 (.lst (vs2 ++ us)) = H3 at s3 b3 e3
  generalize vs2 ++ us = vs3 at b3 e3 l3
  generalize es2 ++ es = es3 at b3 z3 d3
  -- the thing itself
  have D4 : Deck H3 d c := D.same s3
  have hv4 := hv.mono (.of s3)
  obtain ⟨ty, ht, g1, _⟩ := hv4.ty
  have kk : Kp [d, c] H H3 := fun a o _ e => s3 a o e
  have fin : ∀ (H4 : Hp), Kp [d, c] H3 H4 → Deck H4 d c → ∀ (H5 : Hp) (r : Int), 0 ≤ r → r < vs3.length → Kp [d, c] H4 H5 → Deck H5 d c → ∃ x, atI vs3 r = some x ∧ Q x H5 := by
    intro H4 k4 D4' H5 r r0 r1 k5 D5
    obtain ⟨x, hx, ha⟩ := pick (xs := vs3) (n := vs3.length) r0 r1 rfl
    obtain ⟨e', he, hb⟩ := BtAll.mem b3 hx
    have m1 := szs_mem he
    have m2 := deps_mem he
    have k45 := k4.trans k5
    exact ⟨x, ha, q x e' H5 (hb.mono (D4.bks k45)) (by omega) (by omega) (kk.trans k45) D5⟩
  have rest : ∀ (H4 : Hp), Kp [d, c] H3 H4 → Deck H4 d c → (∃ x, (some (V.ref p3) : Option V) = some x ∧ ∃ x0, (some (V.ref d) : Option V) = some x0 ∧ True) := fun _ _ _ => ⟨_, rfl, _, rfl, trivial⟩
  have ne3 : p3 ∉ [d, c] := hL p3 f3
  refine ⟨_, rfl, _, _, _, _, _, rfl, .ty _, ht, g1, _, rfl, ?_⟩
  cases hT : kTupB e with
  | false =>
    refine iteF (iteF ?_)
    refine ⟨_, rfl, _, rfl, _, rfl, p3, vs3, rfl, .inl (SqL.of e3), d, c, _, rfl, D4, by omega, by omega, fun r H5 r0 r1 k5 D5 => ?_⟩
    obtain ⟨x, ha, hq⟩ := fin H3 (Kp.refl _ _) D4 H5 r r0 r1 k5 D5
    exact ⟨p3, vs3, _, _, rfl, rfl, SqL.of (k5 p3 _ ne3 e3), ha, hq⟩
  | true =>
  refine iteT ?_
  obtain ⟨ds, rfl⟩ := kTupB_of hT
  obtain ⟨a, xs, rfl, ha, hx⟩ := hv4.tupD
  refine ⟨_, rfl, d, c, 2, rfl, D4, by decide, by decide, fun w0 H4 _ _ k4 D4' => ⟨rfl, _, rfl, ite2 (fun _ => ?_) (fun _ => ?_)⟩⟩
  rotate_left
  · refine ⟨_, rfl, _, rfl, _, rfl, p3, vs3, rfl, .inl (SqL.of (k4 p3 _ ne3 e3)), d, c, _, rfl, D4', by omega, by omega, fun r H5 r0 r1 k5 D5 => ?_⟩
    obtain ⟨x, ha, hq⟩ := fin H4 k4 D4' H5 r r0 r1 k5 D5
    exact ⟨p3, vs3, _, _, rfl, rfl, SqL.of (k5 p3 _ ne3 (k4 p3 _ ne3 e3)), ha, hq⟩
  have bk4 : BKs K [d, c] H3 H4 := D4.bks k4
  have ha := bk4.tk _ _ ha
  have hx := hx.mono bk4
  rw [sz_tuple] at hz q
  rw [dep_tuple] at q
  have kk4 := kk.trans k4
  -- list(thing)
  refine ⟨_, rfl, a, xs, rfl, .inr ha, fun la nla => ?_⟩
  have sa : Same H4 (upd H4 la (.lst xs)) := same_new nla _
  have na : la ∉ [d, c] := D4'.nd nla
  have ea : upd H4 la (.lst xs) la = some (.lst xs) := upd_same
  have ta := TKs.of (K := K) sa
  generalize upd H4 la (.lst xs) = Ha at sa ea ta
  -- thing + thing[-1:]
  refine ⟨_, rfl, _, rfl, _, rfl, _, rfl, slBP (L := [d, c]) (ta _ _ ha) (hx.mono (.of sa)) fun b1 ys1 es1 Hb sb hb1 hy1 zb db => ?_⟩
  have sab := sa.trans sb
  refine catB (L := [d, c]) (TKs.of sab _ _ ha) (hx.mono (.of sab)) hb1 hy1 (by omega) fun b2 ys2 Hc sc hb2 hy2 => ?_
  have sac := sab.trans sc
  -- thing[1:]
  refine ⟨_, rfl, _, rfl, slBP (L := [d, c]) (TKs.of sac _ _ ha) (hx.mono (.of sac)) fun b3' ys3 es3' Hd sd hb3 hy3 zd dd => ?_⟩
  have sad := sac.trans sd
  -- thing[::-1]
  refine ⟨_, rfl, a, xs, rfl, TKs.of sad _ _ ha, fun b4 n4 => ?_⟩
  have se : Same Hd (upd Hd b4 (.tup xs.reverse)) := same_new n4 _
  have hb4 : SqT K (upd Hd b4 (.tup xs.reverse)) b4 xs.reverse := SqT.of upd_same
  generalize upd Hd b4 (.tup xs.reverse) = He at se hb4
  have sae := sad.trans se
  -- thing[:-1]
  refine ⟨_, rfl, _, rfl, _, rfl, slB (L := [d, c]) (TKs.of sae _ _ ha) (hx.mono (.of sae)) fun b5 ys5 es5 Hf sf hb5 hy5 zf df => ?_⟩
  have saf := sae.trans sf
  refine ⟨(by show 5 ≤ sizeLine; decide), fun p5 n5 => ?_⟩
  have sg : Same Hf (upd Hf p5 (.lst [.ref la, .ref b2, .ref b3', .ref b4, .ref b5])) := same_new n5 _
  have e5 : upd Hf p5 (.lst [.ref la, .ref b2, .ref b3', .ref b4, .ref b5]) p5 = some (.lst [.ref la, .ref b2, .ref b3', .ref b4, .ref b5]) := upd_same
  have ne5 : p5 ∉ [d, c] := (D4'.same saf).nd n5
  generalize upd Hf p5 (.lst [.ref la, .ref b2, .ref b3', .ref b4, .ref b5]) = Hg at sg e5
  have sag := saf.trans sg
  have Dg : Deck Hg d c := D4'.same sag
  refine ⟨_, rfl, d, c, 5, rfl, Dg, by decide, by decide, fun r H6 r0 r1 k6 D6 => ?_⟩
  have bk6 : BKs K [d, c] Hg H6 := Dg.bks k6
  have kf : Kp [d, c] H H6 := (kk4.trans (fun a o _ e => sag a o e)).trans k6
  obtain ⟨x, hxm, hat⟩ := pick (xs := [V.ref la, .ref b2, .ref b3', .ref b4, .ref b5]) (n := 5) r0 r1 rfl
  refine ⟨p5, _, _, _, rfl, rfl, SqL.of (k6 p5 _ ne5 e5), hat, ?_⟩
  simp only [List.mem_cons, List.not_mem_nil, or_false] at hxm
  rcases hxm with rfl | rfl | rfl | rfl | rfl
  · exact q _ (.list []) H6 (.lst na (k6 la _ na (sg _ _ (sf _ _ (se _ _ (sd _ _ (sc _ _ (sb _ _ ea)))))))) (by show 1 ≤ _; omega) (by show 0 ≤ _; omega) kf D6
  · exact q _ (.tuple (ds ++ es1)) H6 ((Bt.tup hb2 hy2).mono ((BKs.of (((sd.trans se).trans sf).trans sg)).trans bk6)) (by rw [sz_tuple, szs_append]; omega) (by rw [dep_tuple, deps_append]; omega) kf D6
  · exact q _ (.tuple es3') H6 ((Bt.tup hb3 hy3).mono ((BKs.of ((se.trans sf).trans sg)).trans bk6)) (by rw [sz_tuple]; omega) (by rw [dep_tuple]; omega) kf D6
  · exact q _ (.tuple ds.reverse) H6 ((Bt.tup hb4 (btRev (hx.mono (.of sae)))).mono ((BKs.of (sf.trans sg)).trans bk6)) (by rw [sz_tuple, (szRev ds).1]; omega) (by rw [dep_tuple, (szRev ds).2]; omega) kf D6
  · exact q _ (.tuple es5) H6 ((Bt.tup hb5 hy5).mono ((BKs.of sg).trans bk6)) (by rw [sz_tuple]; omega) (by rw [dep_tuple]; omega) kf D6
end
end K02
namespace K02
open PySem PySem.W L2 SX Cm
theorem split_at {ds : List PyData} {i : Nat} {x : PyData} (h : ds[i]? = some x) : ds = ds.take i ++ x :: ds.drop (i + 1) := by
  obtain ⟨hi, rfl⟩ := List.getElem?_eq_some_iff.mp h
  rw [List.getElem_cons_drop, List.take_append_drop]
theorem sz_split {ds : List PyData} {i : Nat} {x : PyData} (h : ds[i]? = some x) : szs ds = szs (ds.take i) + (sz x + szs (ds.drop (i + 1))) ∧ deps ds = max (deps (ds.take i)) (max (dep x) (deps (ds.drop (i + 1)))) := by
  have e := split_at h
  refine ⟨?_, ?_⟩
  · conv => lhs; rw [e]
    rw [szs_append]; rfl
  · conv => lhs; rw [e]
    rw [deps_append]; rfl
theorem slUpto {K : Frag} {H : Hp} {a : Addr} {xs : List V} {i : Nat} {Q : VK} (ha : SqT K H a xs) (q : ∀ p H', Same H H' → SqT K H' p (xs.take i) → Q (.ref p) H') : rSlA K (.ref a) none (some (i : Int)) H Q :=
  slT_upto (f := fun v : V => v) (xs := xs) (by rw [List.map_id']; exact ha) (fun p H' s h => q p H' s (by rw [List.map_id'] at h; exact h))
theorem slFrom {K : Frag} {H : Hp} {a : Addr} {xs : List V} {i : Nat} {Q : VK} {σ : St} (ha : SqT K H a xs) (q : ∀ p H', Same H H' → SqT K H' p (xs.drop i) → Q (.ref p) H') : tNoPart σ H fun u H3 => rSlA K (.ref a) (some (i : Int)) u H3 Q :=
  slT_fromP (f := fun v : V => v) (xs := xs) (by rw [List.map_id']; exact ha) (fun p H' s h => q p H' s (by rw [List.map_id'] at h; exact h))
section
variable {P : Program} {w : World} {K : PySem.W.Frag} {mg : Str → Option Value} {base : Heap}
theorem scBent : FnScope ["_law_deck_here", "_law_thing_here", "_law_at"] A2 (defScope sBent) := ⟨rfl, rfl, rfl, by decide +kernel, rfl, by decide +kernel, by decide +kernel⟩
theorem ok_bent0 {f : Addr} {fd : FuncData} (F : Fun K "_law_bent" "_law_bent" sBent f fd) : FnOk P w K mg base CX0 3 f fd A2 (spBent K 0) := by
  refine F.ok scBent (fun vs H Q E h => ?_) (fun cdv A outer s H vs Q E hr h => ?_)
  · obtain ⟨d, c, v, e, rfl, _⟩ := h
    rfl
  · obtain ⟨d, c, v, e, rfl, _, _, _, h, _⟩ := h
    exact absurd h (Nat.not_lt_zero _)
theorem ok_bent {n : Nat} {f g go : Addr} {fd gd god : FuncData} (F : Fun K "_law_bent" "_law_bent" sBent f fd) (T : Ty4 mg) (G : FnOk P w K mg base CX0 2 g gd ["_law_deck_here", "_law_most"] spTake) (bG : L2.Binds K gd ["_law_deck_here", "_law_most"] []) (kG : keepIn K (.ref g) = true) (mG : mg "_law_take" = some (.ref g))
    (O : FnOk P w K mg base CX0 3 go god A2 (spBent K (n + 1))) (bO : L2.Binds K god A2 []) (kO : keepIn K (.ref go) = true) (mO : mg "_law_odd" = some (.ref go))
    (B : FnOk P w K mg base CX0 (3 + n) f fd A2 (spBent K n)) (bB : L2.Binds K fd A2 []) (kB : keepIn K (.ref f) = true) (mB : mg "_law_bent" = some (.ref f)) : FnOk P w K mg base CX0 (3 + n + 1) f fd A2 (spBent K (n + 1)) := by
  refine F.ok scBent (fun vs H Q E h => ?_) (fun cdv A outer s H vs Q E hr h => ?_)
  · obtain ⟨d, c, v, e, rfl, _⟩ := h
    rfl
  obtain ⟨d, c, v, e, rfl, D, hv, hz, hd, q⟩ := h
  have hr2 := hr.mono (j := 2) (by omega)
  have hr3 := hr.mono (j := 3) (by omega)
  refine ⟨_, pss_cons (ps_if (PW.pt (pw_or (pt_not (pt_val (pe_callB call_isi (by rfl) T.isi PyProof.Rows.boot_isinstance (pa_cons (pv 1) (pa_cons (pe_bltn (v := .ty "tuple") (by rfl) T.tup (by decide +kernel) rfl) pa_nil)))))
      (pw_or (pt_cmpR (op_eqNilT hr.units) (pv 1) (pe_tup pa_nil) (nomark _)) (pw_or1 (pt_cmpR op_eq (pe_call G hr2 rfl mG kG bG .nil pass0 (pa_cons (pv 0) (pa_cons pe_int pa_nil))) pe_int (nomark _))))))
      (pss_one (ps_ret (pe_call O hr3 rfl mO kO bO .nil pass0 (pa_cons (pv 0) (pa_cons (pv 1) pa_nil))))) pss_nil)
    (pss_cons (ps_set (i := 2) scBent.nd rfl (.inl rfl) (pe_call G hr2 rfl mG kG bG .nil pass0 (pa_cons (pv 0) (pa_cons (pe_callB call_len_seq (by rfl) T.len PySem.boot_len (pa_cons (pv 1) pa_nil)) pa_nil))))
    (pss_one (ps_ret (pe_op op_catA (pe_op op_catA (pe_slice sl_tupA (pv 1) po_none (po_some (pv 2))) (pe_tup (pa_cons (pe_call B hr rfl mB kB bB .nil pass0 (pa_cons (pv 0) (pa_cons (pe_ix ix_tup (pv 1) (pv 2) (fun _ _ => rfl)) pa_nil))) pa_nil))) (pe_slice sl_tupA (pv 1) (po_some (pe_op op_add (pv 2) pe_int)) po_none))))), ?_⟩
  obtain ⟨ty, ht, g1, _⟩ := hv.ty
  refine ⟨_, rfl, _, _, _, _, _, rfl, .ty _, ht, g1, _, rfl, ?_⟩
  cases hT : kTupB e with
  | false =>
    refine iteT (iteT ?_)
    exact ⟨_, rfl, _, rfl, d, c, v, e, rfl, D, hv, hz, hd, q⟩
  | true =>
  refine iteF ?_
  obtain ⟨ds, rfl⟩ := kTupB_of hT
  obtain ⟨a, xs, rfl, ha, hx⟩ := hv.tupD
  have lx := hx.len
  refine ⟨_, rfl, (by show 0 ≤ sizeLine; decide), fun p0 n0 => ?_⟩
  have s0 : Same H (upd H p0 (.tup [])) := same_new n0 _
  refine ⟨a, p0, xs, rfl, rfl, TKs.of s0 _ _ ha, SqT.of upd_same, _, rfl, ?_⟩
  generalize upd H p0 (.tup []) = H0 at s0
  have k0 : Kp [d, c] H H0 := fun a o _ e => s0 a o e
  have D0 := D.same s0
  have hv0 := hv.mono (.of s0)
  have back : ∀ H1, Kp [d, c] H0 H1 → Deck H1 d c → ∀ (σ : St), σ = [some (.ref d), some (.ref a), none] → True := fun _ _ _ _ _ => trivial
  have odd : ∀ H1, Kp [d, c] H0 H1 → Deck H1 d c → spBent K (n + 1) [.ref d, .ref a] H1 Q (fun _ _ _ => False) := fun H1 k1 D1 =>
    ⟨d, c, .ref a, .tuple ds, rfl, D1, hv0.mono (D0.bks k1), hz, hd, fun r e' H' h1 h2 h3 h4 h5 => q r e' H' h1 h2 h3 ((k0.trans k1).trans h4) h5⟩
  rcases ds with _ | ⟨d1, dr⟩
  · have : xs.isEmpty = true := by cases hx; rfl
    rw [this]
    refine iteT (iteT ?_)
    obtain ⟨d', c', v', e', x1, x2, x3, x4, x5, x6⟩ := odd H0 (Kp.refl _ _) D0
    exact ⟨_, rfl, _, rfl, d', c', v', e', x1, x2, x3, x4, x5, x6⟩
  have : xs.isEmpty = false := by cases hx; rfl
  rw [this]
  refine iteF ?_
  refine ⟨_, rfl, d, c, 4, rfl, D0, by decide, by decide, fun w0 H1 _ _ k1 D1 => ⟨rfl, _, rfl, ite2 (fun _ => ?_) (fun _ => ?_)⟩⟩
  · obtain ⟨d', c', v', e', x1, x2, x3, x4, x5, x6⟩ := odd H1 k1 D1
    exact ⟨_, rfl, _, rfl, d', c', v', e', x1, x2, x3, x4, x5, x6⟩
  have bk1 : BKs K [d, c] H H1 := (BKs.of s0).trans (D0.bks k1)
  have ha1 := bk1.tk _ _ ha
  have hx1 := hx.mono bk1
  have lpos : 0 < xs.length := by rw [lx]; exact Nat.succ_pos _
  have lz := szs_len (d1 :: dr)
  generalize d1 :: dr = ds at *
  rw [sz_tuple] at hz
  rw [dep_tuple] at hd
  refine ⟨_, rfl, _, rfl, a, xs, rfl, .inr ha1, d, c, _, rfl, D1, by omega, by omega, fun at' H2 a0 a1 k2 D2 => ?_⟩
  obtain ⟨i, rfl⟩ := Int.eq_ofNat_of_zero_le a0
  have hi : i < xs.length := by omega
  have bk2 := bk1.trans (D1.bks (K := K) k2)
  have ha2 := bk2.tk _ _ ha
  have hx2 := hx.mono bk2
  obtain ⟨y, hy, hby⟩ := hx2.get (List.getElem?_eq_getElem hi)
  obtain ⟨e1, e2⟩ := sz_split hy
  refine ⟨_, rfl, _, rfl, _, rfl, slUpto (xs := xs) ha2 fun pl Hl sl hl => ?_⟩
  have hll : BtAll K [d, c] Hl (xs.take i) (ds.take i) := (btTake i hx2).mono (.of sl)
  have Dl := D2.same sl
  refine ⟨_, rfl, _, rfl, _, rfl, a, xs, i, _, rfl, rfl, TKs.of sl _ _ ha2, atI_nat (List.getElem?_eq_getElem hi), d, c, _, y, rfl, Dl, hby.mono (.of sl), by omega, by omega, fun r e' H3 hr3' z3 d3 k3 D3 => ?_⟩
  have bk3 : BKs K [d, c] Hl H3 := Dl.bks k3
  refine ⟨(by show 1 ≤ sizeLine; decide), fun pm nm => ?_⟩
  have sm : Same H3 (upd H3 pm (.tup [r])) := same_new nm _
  have hm : SqT K (upd H3 pm (.tup [r])) pm [r] := SqT.of upd_same
  generalize upd H3 pm (.tup [r]) = H4 at sm hm
  have bk4 := bk3.trans (BKs.of sm)
  refine catB (L := [d, c]) (bk4.tk _ _ hl) (hll.mono bk4) hm (.cons (hr3'.mono (.of sm)) .nil) (by show _ + (sz e' + 0) ≤ _; omega) fun pq zq H5 s5 hq5 bq5 => ?_
  have bk5 := (BKs.of (K := K) (L := [d, c]) sl).trans (bk4.trans (BKs.of s5))
  have ei : ((i : Int) + 1) = ((i + 1 : Nat) : Int) := by omega
  refine ⟨_, rfl, _, rfl, _, _, rfl, rfl, _, rfl, ?_⟩
  rw [ei]
  refine slFrom (xs := xs) (bk5.tk _ _ ha2) fun pr Hr sr hr' => ?_
  have hrr : BtAll K [d, c] Hr (xs.drop (i + 1)) (ds.drop (i + 1)) := ((btDrop (i + 1) hx2).mono bk5).mono (.of sr)
  refine catB (L := [d, c]) (TKs.of sr _ _ hq5) (bq5.mono (.of sr)) hr' hrr (by rw [szs_append]; show _ + (sz e' + 0) + _ ≤ _; omega) fun pz zz H6 s6 hz6 bz6 => ?_
  have s36 : Same H3 H6 := ((sm.trans s5).trans sr).trans s6
  have k2l : Kp [d, c] H2 Hl := fun a o _ e => sl a o e
  have kf : Kp [d, c] H H6 := (((k0.trans k1).trans k2).trans (k2l.trans k3)).trans (fun a o _ e => s36 a o e)
  refine q _ (.tuple _) H6 (.tup hz6 bz6) ?_ ?_ kf (D3.same s36)
  · rw [sz_tuple, sz_tuple, szs_append, szs_append]
    show 1 + (_ + (sz e' + 0) + _) ≤ _
    omega
  · rw [dep_tuple, dep_tuple, deps_append, deps_append]
    show 1 + max (max _ (max (dep e') 0)) _ ≤ _
    omega
end
end K02
namespace K02
open PySem PySem.W L2 SX Cm
theorem ok_rwT (d : PyData) : (if kTupB d = true then ok .rw d else false) = ok .rw d := by
  cases h : kTupB d with
  | true => rw [if_pos rfl]
  | false => rw [if_neg (by decide), ok_rw0 h]
theorem dpBl {K : Frag} {H : Hp} : ∀ bs : List Bool, DpAll K H (bs.map V.bl) (bs.map PyData.bool)
  | [] => .nil
  | b :: r => .cons (.bl b) (dpBl r)
section
variable {P : Program} {w : World} {K : PySem.W.Frag} {mg : Str → Option Value} {base : Heap}
def spRight (K : Frag) (n : Nat) : Sp := fun vs H Q _ => ∃ (L : List Addr) (v : V) (d : PyData), vs = [v] ∧ Bt K L H v d ∧ sz d ≤ 900000 ∧ dep d < n ∧ ∀ H', Same H H' → Q (.bl true) H'
abbrev NR : List Str := ["_law_thing_here", "_law_due", "_law_word_here", "_law_one", "_law_found"]
theorem scRight : FnScope NR ["_law_thing_here"] (defScope sRight) := ⟨rfl, rfl, rfl, by decide +kernel, rfl, by decide +kernel, by decide +kernel⟩
theorem ok_right {n : Nat} {f gt gw g1 g2 g3 g4 : Addr} {fd gtd gwd d1 d2 d3 d4 : FuncData} (F : Fun K "_law_right" "_law_right" sRight f fd) (T : Ty4 mg) (h7 : 7 ≤ 3 + n)
    (G : FnOk P w K mg base CX0 (3 + n) gt gtd ["_law_thing_here"] (spLS K .th n)) (bG : L2.Binds K gtd ["_law_thing_here"] []) (kG : keepIn K (.ref gt) = true) (mG : mg "_law_is_thing" = some (.ref gt))
    (W : FnOk P w K mg base CX0 (3 + n) gw gwd ["_law_word_here"] (spLS K .wd n)) (bW : L2.Binds K gwd ["_law_word_here"] []) (kW : keepIn K (.ref gw) = true) (mW : mg "_law_is_word" = some (.ref gw))
    (I1 : FnOk P w K mg base CX0 7 g1 d1 ["thing"] (spIs K .rw)) (b1 : L2.Binds K d1 ["thing"] []) (k1 : keepIn K (.ref g1) = true) (m1 : mg "is_row" = some (.ref g1))
    (I2 : FnOk P w K mg base CX0 7 g2 d2 ["thing"] (spIs K .st)) (b2 : L2.Binds K d2 ["thing"] []) (k2 : keepIn K (.ref g2) = true) (m2 : mg "is_stack" = some (.ref g2))
    (I3 : FnOk P w K mg base CX0 7 g3 d3 ["thing"] (spIs K .th)) (b3 : L2.Binds K d3 ["thing"] []) (k3 : keepIn K (.ref g3) = true) (m3 : mg "is_thing" = some (.ref g3))
    (I4 : FnOk P w K mg base CX0 7 g4 d4 ["thing"] (spIs K .wd)) (b4 : L2.Binds K d4 ["thing"] []) (k4 : keepIn K (.ref g4) = true) (m4 : mg "is_word" = some (.ref g4)) : FnOk P w K mg base CX0 (3 + n + 1) f fd ["_law_thing_here"] (spRight K n) := by
  refine F.ok scRight (fun vs H Q E h => ?_) (fun cdv A outer s H vs Q E hr h => ?_)
  · obtain ⟨L, v, d, rfl, _⟩ := h
    rfl
  obtain ⟨L, v, d, rfl, hv, hz, hd, q⟩ := h
  have hr7 := hr.mono (j := 7) h7
  refine ⟨_, pss_cons (ps_set (i := 1) scRight.nd rfl (.inl rfl) (pe_lst (pa_cons pe_bl (pa_cons pe_bl (pa_cons (pe_call G hr rfl mG kG bG .nil pass0 (pa_cons (pv 0) pa_nil)) (pa_cons (pe_call W hr rfl mW kW bW .nil pass0 (pa_cons (pv 0) pa_nil)) pa_nil))))))
    (C8.pss_cut (ps_if (pt_val (pe_callB call_isi (by rfl) T.isi PyProof.Rows.boot_isinstance (pa_cons (pv 0) (pa_cons (pe_bltn (v := .ty "tuple") (by rfl) T.tup (by decide +kernel) rfl) pa_nil))))
      (pss_cons (ps_asg (pe_cmpR (op_eqNil hr.units) (pe_lc (own := [("_law_word_here", 2)]) (g := gName 2) rfl scRight.nd (pi_tup (pv 0)) (blkOk_by (own := [("_law_word_here", 2)]) (N := NR) (sc := defScope sRight) (by decide +kernel))
        (fun _ _ _ _ _ => pg_name (i := 2) scRight.nd rfl (Or.inl rfl)) (fun _ _ _ _ _ => pts_one (pt_not (pt_val (pe_call W hr rfl mW kW bW .nil pass0 (pa_cons (pv 2) pa_nil))))) (fun _ _ _ _ _ => pv 2)) (pe_lst pa_nil) (nomark _)) (pg_sub (pv 1) pe_int set_list))
      (pss_one (ps_asg (pe_cmpR (op_eqNil hr.units) (pe_lc (own := [("_law_one", 3)]) (g := gName 3) rfl scRight.nd (pi_tup (pv 0)) (blkOk_by (own := [("_law_one", 3)]) (N := NR) (sc := defScope sRight) (by decide +kernel))
        (fun _ _ _ _ _ => pg_name (i := 3) scRight.nd rfl (Or.inl rfl)) (fun _ _ _ _ _ => pts_one (pt_not (pt_val (pe_call G hr rfl mG kG bG .nil pass0 (pa_cons (pv 3) pa_nil))))) (fun _ _ _ _ _ => pv 3)) (pe_lst pa_nil) (nomark _)) (pg_sub (pv 1) pe_int set_list)))) pss_nil)
    (pss_cons (ps_set (i := 4) scRight.nd rfl (.inl rfl) (pe_lst (pa_cons (pe_call I1 hr7 rfl m1 k1 b1 .nil pass0 (pa_cons (pv 0) pa_nil)) (pa_cons (pe_call I2 hr7 rfl m2 k2 b2 .nil pass0 (pa_cons (pv 0) pa_nil)) (pa_cons (pe_call I3 hr7 rfl m3 k3 b3 .nil pass0 (pa_cons (pv 0) pa_nil)) (pa_cons (pe_call I4 hr7 rfl m4 k4 b4 .nil pass0 (pa_cons (pv 0) pa_nil)) pa_nil))))))
    (pss_one (ps_ret (pe_and (pe_cmpR (op_eqNil hr.units) (pe_lc (own := [("_law_one", 3)]) (g := gName 3) (tt := tNot (tB (tCB (rIsi K) (tCons (tVar 3) (tCons (tC (V.ty "bool")) tNil))))) rfl scRight.nd (pi_list (pv 4)) (blkOk_by (own := [("_law_one", 3)]) (N := NR) (sc := defScope sRight) (by decide +kernel))
        (fun _ _ _ _ _ => pg_name (i := 3) scRight.nd rfl (Or.inl rfl)) (fun _ _ _ _ _ => pts_one (pt_not (pt_val (pe_callB call_isi (by rfl) T.isi PyProof.Rows.boot_isinstance (pa_cons (pv 3) (pa_cons (pe_bltn (v := .ty "bool") (by rfl) T.bool (by decide +kernel) rfl) pa_nil)))))) (fun _ _ _ _ _ => pv 3)) (pe_lst pa_nil) (nomark _)) (pe_one (pe_cmpR (op_eqD hr.units) (pv 4) (pv 1) (nomark _)))))))), ?_⟩
  refine ⟨_, rfl, L, v, d, rfl, hv, hz, hd, fun H1 s1 => ⟨_, rfl, L, v, d, rfl, hv.mono (.of s1), hz, hd, fun H2 s2 => ⟨(by show 4 ≤ sizeLine; decide), fun pd nd => ?_⟩⟩⟩
  have s12 := s1.trans s2
  have fd0 : H pd = none := s12.free nd
  have s3 := s12.trans (same_new nd (.lst [.bl false, .bl false, .bl (ok .th d), .bl (ok .wd d)]))
  have e3 : upd H2 pd (.lst [.bl false, .bl false, .bl (ok .th d), .bl (ok .wd d)]) pd = some (.lst [.bl false, .bl false, .bl (ok .th d), .bl (ok .wd d)]) := upd_same
  generalize upd H2 pd (.lst [.bl false, .bl false, .bl (ok .th d), .bl (ok .wd d)]) = H3 at s3 e3
  refine ⟨fun σ H4 => ∃ x2 x3 x4 : Option V, σ = [some v, some (.ref pd), x2, x3, x4] ∧ Same H H4 ∧ H4 pd = some (.lst [.bl (ok .rw d), .bl (ok .st d), .bl (ok .th d), .bl (ok .wd d)]), ?_, ?_⟩
  · obtain ⟨ty, ht, gt1, _⟩ := (hv.mono (.of s3)).ty
    refine ⟨_, rfl, _, _, _, _, _, rfl, .ty _, ht, gt1, _, rfl, ?_⟩
    cases hT : kTupB d with
    | false =>
      refine iteF ⟨_, _, _, rfl, s3, ?_⟩
      rw [ok_rw0 hT, ok_st0 hT]
      exact e3
    | true =>
    refine iteT ?_
    obtain ⟨ds, rfl⟩ := kTupB_of hT
    obtain ⟨a, xs, rfl, ha, hx⟩ := hv.tupD
    have lx := hx.len
    have lz := szs_len ds
    have hz' := hz
    have hd' := hd
    rw [sz_tuple] at hz'
    rw [dep_tuple] at hd'
    refine ⟨_, rfl, a, rfl, ⟨_, TKs.of s3 _ _ ha⟩, fun D hD => lc_tup (K := K) (a := a) (xs := xs) (fun i H4 => ∃ acc, H4 D = some (.lst acc) ∧ Same H3 H4 ∧ acc.isEmpty = (ds.take i).all (ok .wd) ∧ acc.length ≤ i) ⟨[], upd_same, same_new hD _, rfl, Nat.le_refl 0⟩ (fun i H4 _ h => ?_) ?_ ?_⟩
    · obtain ⟨acc, _, s4, _⟩ := h
      exact TKs.of (s3.trans s4) _ _ ha
    · rintro i x H4 hi ⟨acc, e4, s4, hw, hl⟩
      obtain ⟨y, hy', hty⟩ := hx.get hi
      have hil : i < xs.length := (List.getElem?_eq_some_iff.mp hi).1
      have ym : y ∈ ds := List.mem_of_getElem? hy'
      have mm1 := szs_mem ym
      have mm2 := deps_mem ym
      refine ⟨rfl, _, rfl, L, x, y, rfl, hty.mono (.of (s3.trans s4)), by omega, by omega, fun H5 s5 => ⟨_, rfl, ?_⟩⟩
      have e5 := s5 _ _ e4
      have htk : (ds.take (i + 1)).all (ok .wd) = ((ds.take i).all (ok .wd) && ok .wd y) := by
        rw [List.take_add_one, hy', List.all_append]
        show (_ && (ok .wd y && true)) = _
        rw [Bool.and_true]
      cases ho : ok .wd y with
      | true =>
        refine iteF ?_
        rw [ho, Bool.and_true] at htk
        exact ⟨acc, e5, s4.trans s5, by rw [hw, htk], by omega⟩
      | false =>
        refine iteT ?_
        rw [ho, Bool.and_false] at htk
        refine ⟨_, rfl, acc, e5, midlt (by omega), acc ++ [x], upd_same, own_new (s4.trans s5) hD, ?_, by rw [List.length_append, List.length_singleton]; omega⟩
        rw [htk]
        cases acc <;> rfl
    · rintro H4 ⟨acc, e4, s4, hw, hl⟩
      rw [lx, List.take_length, ← ok_rw] at hw
      refine ⟨(by show 0 ≤ sizeLine; decide), fun p np => ?_⟩
      have s5 := s4.trans (same_new np (.lst []))
      refine ⟨D, p, acc, rfl, rfl, SqL.of (kn e4 np), SqL.of upd_same, ?_⟩
      rw [hw]
      have ep := s5 _ _ e3
      generalize upd H4 p (.lst []) = H5 at s5 ep
      refine ⟨_, rfl, pd, _, _, 0, rfl, rfl, ep, rfl, ?_⟩
      have s6 : Same H (upd H5 pd (.lst ([V.bl false, V.bl false, V.bl (ok .th (.tuple ds)), V.bl (ok .wd (.tuple ds))].set 0 (V.bl (ok .rw (.tuple ds)))))) := own_new (s3.trans s5) fd0
      have e6 : upd H5 pd (.lst ([V.bl false, V.bl false, V.bl (ok .th (.tuple ds)), V.bl (ok .wd (.tuple ds))].set 0 (V.bl (ok .rw (.tuple ds))))) pd = some (.lst [.bl (ok .rw (.tuple ds)), .bl false, .bl (ok .th (.tuple ds)), .bl (ok .wd (.tuple ds))]) := upd_same
      generalize upd H5 pd (.lst ([V.bl false, V.bl false, V.bl (ok .th (.tuple ds)), V.bl (ok .wd (.tuple ds))].set 0 (V.bl (ok .rw (.tuple ds))))) = H6 at s6 e6 ⊢
      refine ⟨_, rfl, a, rfl, ⟨_, TKs.of s6 _ _ ha⟩, fun D hD => lc_tup (K := K) (a := a) (xs := xs) (fun i H4 => ∃ acc, H4 D = some (.lst acc) ∧ Same H6 H4 ∧ acc.isEmpty = (ds.take i).all (ok .th) ∧ acc.length ≤ i) ⟨[], upd_same, same_new hD _, rfl, Nat.le_refl 0⟩ (fun i H4 _ h => ?_) ?_ ?_⟩
      · obtain ⟨acc, _, s4, _⟩ := h
        exact TKs.of (s6.trans s4) _ _ ha
      · rintro i x H4 hi ⟨acc, e4, s4, hw, hl⟩
        obtain ⟨y, hy', hty⟩ := hx.get hi
        have hil : i < xs.length := (List.getElem?_eq_some_iff.mp hi).1
        have ym : y ∈ ds := List.mem_of_getElem? hy'
        have mm1 := szs_mem ym
        have mm2 := deps_mem ym
        refine ⟨rfl, _, rfl, L, x, y, rfl, hty.mono (.of (s6.trans s4)), by omega, by omega, fun H5 s5 => ⟨_, rfl, ?_⟩⟩
        have e5 := s5 _ _ e4
        have htk : (ds.take (i + 1)).all (ok .th) = ((ds.take i).all (ok .th) && ok .th y) := by
          rw [List.take_add_one, hy', List.all_append]
          show (_ && (ok .th y && true)) = _
          rw [Bool.and_true]
        cases ho : ok .th y with
        | true =>
          refine iteF ?_
          rw [ho, Bool.and_true] at htk
          exact ⟨acc, e5, s4.trans s5, by rw [hw, htk], by omega⟩
        | false =>
          refine iteT ?_
          rw [ho, Bool.and_false] at htk
          refine ⟨_, rfl, acc, e5, midlt (by omega), acc ++ [x], upd_same, own_new (s4.trans s5) hD, ?_, by rw [List.length_append, List.length_singleton]; omega⟩
          rw [htk]
          cases acc <;> rfl
      · rintro H4 ⟨acc, e4, s4, hw, hl⟩
        rw [lx, List.take_length, ← ok_st] at hw
        refine ⟨(by show 0 ≤ sizeLine; decide), fun p np => ?_⟩
        have s5 := s4.trans (same_new np (.lst []))
        refine ⟨D, p, acc, rfl, rfl, SqL.of (kn e4 np), SqL.of upd_same, ?_⟩
        rw [hw]
        have ep := s5 _ _ e6
        generalize upd H4 p (.lst []) = H5 at s5 ep
        refine ⟨_, rfl, pd, _, _, 1, rfl, rfl, ep, rfl, ?_⟩
        exact ⟨_, _, _, rfl, own_new (s6.trans s5) fd0, upd_same⟩
  · rintro σ H4 ⟨x2, x3, x4, rfl, s4, e4⟩
    have hv4 := hv.mono (.of s4)
    refine ⟨_, rfl, L, v, d, rfl, hv4, hz, fun H5 s5 => ⟨_, rfl, L, v, d, rfl, hv4.mono (.of s5), hz, fun H6 s6 => ⟨_, rfl, L, v, d, rfl, hv4.mono (.of (s5.trans s6)), hz, fun H7 s7 => ⟨_, rfl, L, v, d, rfl, hv4.mono (.of ((s5.trans s6).trans s7)), hz, fun H8 s8 => ⟨(by show 4 ≤ sizeLine; decide), fun pf nf => ?_⟩⟩⟩⟩⟩
    have s48 := ((s5.trans s6).trans s7).trans s8
    have s9 := s48.trans (same_new nf (.lst [.bl (ok .rw d), .bl (ok .st d), .bl (ok .th d), .bl (ok .wd d)]))
    have e9 : upd H8 pf (.lst [.bl (ok .rw d), .bl (ok .st d), .bl (ok .th d), .bl (ok .wd d)]) pf = some (.lst [.bl (ok .rw d), .bl (ok .st d), .bl (ok .th d), .bl (ok .wd d)]) := upd_same
    generalize upd H8 pf (.lst [.bl (ok .rw d), .bl (ok .st d), .bl (ok .th d), .bl (ok .wd d)]) = H9 at s9 e9
    have ed := s9 _ _ e4
    refine ⟨_, rfl, pf, rfl, ⟨_, SqL.of e9⟩, fun D hD => lc_list (K := K) (a := pf) (xs := [.bl (ok .rw d), .bl (ok .st d), .bl (ok .th d), .bl (ok .wd d)]) (fun i H5 => H5 D = some (.lst []) ∧ Same H9 H5) ⟨upd_same, same_new hD _⟩ (fun i H5 _ h => SqL.of (h.2 _ _ e9)) ?_ ?_⟩
    · rintro i x H5 hi ⟨a5, b5⟩
      obtain ⟨b, rfl⟩ : ∃ b, x = .bl b := by
        have := List.mem_of_getElem? hi
        simp only [List.mem_cons, List.not_mem_nil, or_false] at this
        rcases this with rfl | rfl | rfl | rfl <;> exact ⟨_, rfl⟩
      exact ⟨rfl, _, rfl, _, _, _, _, true, rfl, .ty _, .base (.bl _), kit_ty (r := true) (by decide +kernel), _, rfl, iteF ⟨a5, b5⟩⟩
    · rintro H5 ⟨a5, b5⟩
      refine ⟨(by show 0 ≤ sizeLine; decide), fun p np => ?_⟩
      have b6 := b5.trans (same_new np (.lst []))
      refine ⟨D, p, [], rfl, rfl, SqL.of (kn a5 np), SqL.of upd_same, _, rfl, iteT ?_⟩
      generalize upd H5 p (.lst []) = H6 at b6
      refine ⟨_, rfl, _, rfl, _, _, .lst (SqL.of (b6 _ _ e9)) (dpBl [ok .rw d, ok .st d, ok .th d, ok .wd d]), .lst (SqL.of (b6 _ _ ed)) (dpBl [ok .rw d, ok .st d, ok .th d, ok .wd d]), rfl, rfl, ?_⟩
      have : PyData.eqv (.list ([ok .rw d, ok .st d, ok .th d, ok .wd d].map PyData.bool)) (.list ([ok .rw d, ok .st d, ok .th d, ok .wd d].map PyData.bool)) = true := by
        cases ok .rw d <;> cases ok .st d <;> cases ok .th d <;> cases ok .wd d <;> rfl
      rw [this]
      exact q _ ((s4.trans s9).trans b6)
end
end K02
namespace K02
open PySem PySem.W L2 SX Cm
theorem bt5 : 6 * (1 + BT 5) ≤ 120000 := by decide
theorem bt5' : 6 * BT 5 ≤ 120000 := by decide
section
variable {P : Program} {w : World} {K : PySem.W.Frag} {mg : Str → Option Value} {base : Heap}
def spLaw (K : PySem.W.Frag) : Sp := fun vs H Q _ => ∃ (a : Addr) (ns : List Int), vs = [.ref a] ∧ SqL K H a (ns.map V.int) ∧ ns.length ≤ 63 ∧ ∀ H', Q (.bl true) H'
abbrev NL : List Str := ["_law_script", "_law_deck_here", "_law_k", "_law_row_here", "_law_stack_here", "_law_thing_here", "_law_part"]
theorem scLaw : FnScope NL ["_law_script"] (defScope sLaw) := ⟨rfl, rfl, rfl, by decide +kernel, rfl, by decide +kernel, by decide +kernel⟩
theorem ok_law {f gd gr gs gb gi g1 g2 : Addr} {fd dd rd sd bd id' d1 d2 : FuncData} (F : Fun K "law" "law" sLaw f fd)
    (DE : FnOk P w K mg base CX0 1 gd dd ["_law_script"] (spDeck K)) (bDE : L2.Binds K dd ["_law_script"] []) (kDE : keepIn K (.ref gd) = true) (mDE : mg "_law_deck" = some (.ref gd))
    (RO : FnOk P w K mg base CX0 21 gr rd A3 (spRow K 5)) (bRO : L2.Binds K rd A3 []) (kRO : keepIn K (.ref gr) = true) (mRO : mg "_law_row" = some (.ref gr))
    (ST : FnOk P w K mg base CX0 21 gs sd A3 (spStack K 5)) (bST : L2.Binds K sd A3 []) (kST : keepIn K (.ref gs) = true) (mST : mg "_law_stack" = some (.ref gs))
    (B : FnOk P w K mg base CX0 22 gb bd A2 (spBent K 19)) (bB : L2.Binds K bd A2 []) (kB : keepIn K (.ref gb) = true) (mB : mg "_law_bent" = some (.ref gb))
    (R : FnOk P w K mg base CX0 28 gi id' ["_law_thing_here"] (spRight K 24)) (bR : L2.Binds K id' ["_law_thing_here"] []) (kR : keepIn K (.ref gi) = true) (mR : mg "_law_right" = some (.ref gi))
    (I1 : FnOk P w K mg base CX0 7 g1 d1 ["thing"] (spIs K .rw)) (b1 : L2.Binds K d1 ["thing"] []) (k1 : keepIn K (.ref g1) = true) (m1 : mg "is_row" = some (.ref g1))
    (I2 : FnOk P w K mg base CX0 7 g2 d2 ["thing"] (spIs K .st)) (b2 : L2.Binds K d2 ["thing"] []) (k2 : keepIn K (.ref g2) = true) (m2 : mg "is_stack" = some (.ref g2))
    (mrange : mg "range" = none) (mlist : mg "list" = none) : FnOk P w K mg base CX0 29 f fd ["_law_script"] (spLaw K) := by
  refine F.ok scLaw (fun vs H Q E h => ?_) (fun cdv A outer s H vs Q E hr h => ?_)
  · obtain ⟨a, ns, rfl, _⟩ := h
    rfl
  obtain ⟨a, ns, rfl, hS, h63, q⟩ := h
  have hr1 := hr.mono (j := 1) (by decide)
  have hr7 := hr.mono (j := 7) (by decide)
  have hr21 := hr.mono (j := 21) (by decide)
  have hr22 := hr.mono (j := 22) (by decide)
  refine ⟨_, pss_cons (ps_set (i := 1) scLaw.nd rfl (.inl rfl) (pe_call DE hr1 rfl mDE kDE bDE .nil pass0 (pa_cons (pv 0) pa_nil)))
    (pss_cons (ps_for PassesOwn.never rfl (pi_range1 rfl mrange (pa_cons pe_int pa_nil)) (pg_name (i := 2) scLaw.nd rfl (.inl rfl))
      (pss_cons (ps_set (i := 3) scLaw.nd rfl (.inl rfl) (pe_call RO hr21 rfl mRO kRO bRO .nil pass0 (pa_cons (pv 1) (pa_cons pe_int (pa_cons (pe_lst (pa_cons pe_int pa_nil)) pa_nil)))))
      (pss_cons (ps_set (i := 4) scLaw.nd rfl (.inl rfl) (pe_call ST hr21 rfl mST kST bST .nil pass0 (pa_cons (pv 1) (pa_cons pe_int (pa_cons (pe_lst (pa_cons pe_int pa_nil)) pa_nil)))))
      (pss_cons (ps_if (PW.pt (pw_or (pt_cmpR op_isnot_bl (pe_call I1 hr7 rfl m1 k1 b1 .nil pass0 (pa_cons (pv 3) pa_nil)) pe_bl (nomark _)) (pw_or (pt_cmpR op_isnot_bl (pe_call I2 hr7 rfl m2 k2 b2 .nil pass0 (pa_cons (pv 4) pa_nil)) pe_bl (nomark _))
        (pw_or (pt_not (pt_val (pe_call R hr rfl mR kR bR .nil pass0 (pa_cons (pv 3) pa_nil)))) (pw_or1 (pt_not (pt_val (pe_call R hr rfl mR kR bR .nil pass0 (pa_cons (pv 4) pa_nil))))))))) (pss_one (ps_ret pe_bl)) pss_nil)
      (pss_cons (ps_for PassesOwn.never rfl (pi_list (pe_lst (pa_cons (pe_call B hr22 rfl mB kB bB .nil pass0 (pa_cons (pv 1) (pa_cons (pv 3) pa_nil))) (pa_cons (pe_call B hr22 rfl mB kB bB .nil pass0 (pa_cons (pv 1) (pa_cons (pv 3) pa_nil))) (pa_cons (pe_call B hr22 rfl mB kB bB .nil pass0 (pa_cons (pv 1) (pa_cons (pv 4) pa_nil))) (pa_cons (pe_call B hr22 rfl mB kB bB .nil pass0 (pa_cons (pv 1) (pa_cons (pv 4) pa_nil))) pa_nil)))))) (pg_name (i := 5) scLaw.nd rfl (.inl rfl))
        (pss_one (ps_if (pt_not (pt_val (pe_call R hr rfl mR kR bR .nil pass0 (pa_cons (pv 5) pa_nil)))) (pss_one (ps_ret pe_bl)) pss_nil)))
      (pss_one (ps_for PassesOwn.never rfl (pi_list (pe_op op_cat (pe_callTy call_list_of (by rfl) mlist (by decide +kernel) (pa_cons (pv 3) pa_nil)) (pe_callTy call_list_of (by rfl) mlist (by decide +kernel) (pa_cons (pv 4) pa_nil)))) (pg_name (i := 6) scLaw.nd rfl (.inl rfl))
        (pss_one (ps_if (PW.pt (pw_or (pt_not (pt_val (pe_call R hr rfl mR kR bR .nil pass0 (pa_cons (pv 6) pa_nil)))) (pw_or1 (pt_not (pt_val (pe_call R hr rfl mR kR bR .nil pass0 (pa_cons (pe_call B hr22 rfl mB kB bB .nil pass0 (pa_cons (pv 1) (pa_cons (pv 6) pa_nil))) pa_nil))))))) (pss_one (ps_ret pe_bl)) pss_nil)))))))))
    (pss_one (ps_ret pe_bl))), ?_⟩
  refine ⟨_, rfl, a, ns, rfl, hS, h63, fun d c H1 s1 nd nc D1 => ?_⟩
  refine ⟨5, rfl, by decide, by decide, for_range (lo := 0) (n := 5) (fun i σ H' => ∃ (x2 x3 x4 x5 x6 : Option V), σ = [some (.ref a), some (.ref d), x2, x3, x4, x5, x6] ∧ Deck H' d c) ⟨_, _, _, _, _, rfl, D1⟩ ?_ ?_⟩
  · rintro i σ H2 hi ⟨x2, x3, x4, x5, x6, rfl, D2⟩
    refine ⟨_, rfl, (by show 1 ≤ sizeLine; decide), fun l1 nl1 => ?_⟩
    refine ⟨d, c, l1, rfl, ⟨D2.new nl1, ⟨60, upd_same⟩, D2.nd nl1⟩, fun v1 ws n1 m1' H3 hv1 hw1 hm1 k3 g3 => ?_⟩
    refine ⟨_, rfl, (by show 1 ≤ sizeLine; decide), fun l2 nl2 => ?_⟩
    have g4 : G3 (upd H3 l2 (.lst [.int 60])) d c l2 := ⟨g3.dk.new nl2, ⟨60, upd_same⟩, g3.dk.nd nl2⟩
    refine ⟨d, c, l2, rfl, g4, fun v2 ts n2 m2' H4 hv2 hw2 hm2 k4 g5 => ?_⟩
    have t4 : TKs K H3 H4 := (TKs.of (same_new nl2 (.lst [.int 60]))).trans (g4.tks k4)
    have hv1 := hv1.mono t4
    have D4 := g5.dk
    have c5 := bt5
    have c5' := bt5'
    clear k4 g5 g4 k3 g3 t4
    obtain ⟨o1, z1, p1⟩ := hw1.ok
    obtain ⟨o2, z2, p2⟩ := hw2.ok
    obtain ⟨a1, xs, rfl, ha1, hx1⟩ := hv1.tupD
    obtain ⟨a2, ys, rfl, ha2, hx2⟩ := hv2.tupD
    have bx1 : BtAll K [d, c] H4 xs ws := hw1.bt xs hx1
    have bx2 : BtAll K [d, c] H4 ys ts := hw2.bt ys hx2
    have B1 : Bt K [d, c] H4 (.ref a1) (.tuple ws) := .tup ha1 bx1
    have B2 : Bt K [d, c] H4 (.ref a2) (.tuple ts) := .tup ha2 bx2
    have e1 : sz (.tuple ws) ≤ 400000 := by rw [sz_tuple]; omega
    have e2 : sz (.tuple ts) ≤ 400000 := by rw [sz_tuple]; omega
    have f1 : dep (.tuple ws) ≤ 18 := by rw [dep_tuple]; omega
    have f2 : dep (.tuple ts) ≤ 18 := by rw [dep_tuple]; omega
    have y1 : ok .rw (.tuple ws) = true := by rw [ok_rw]; exact o1
    have y2 : ok .st (.tuple ts) = true := by rw [ok_st]; exact o2
    -- both are what they are
    refine ⟨_, rfl, [d, c], _, _, rfl, B1, by omega, fun H5 s5 => ?_⟩
    rw [y1]
    refine ⟨_, _, rfl, rfl, _, rfl, iteF ?_⟩
    refine ⟨_, rfl, [d, c], _, _, rfl, B2.mono (.of s5), by omega, fun H6 s6 => ?_⟩
    rw [y2]
    refine ⟨_, _, rfl, rfl, _, rfl, iteF ?_⟩
    refine ⟨_, rfl, [d, c], _, _, rfl, B1.mono (.of (s5.trans s6)), by omega, by omega, fun H7 s7 => ⟨_, rfl, iteF ?_⟩⟩
    refine ⟨_, rfl, [d, c], _, _, rfl, B2.mono (.of ((s5.trans s6).trans s7)), by omega, by omega, fun H8 s8 => ⟨_, rfl, iteF ?_⟩⟩
    have s48 := ((s5.trans s6).trans s7).trans s8
    have D8 := D4.same s48
    have B1 := B1.mono (.of s48)
    have B2 := B2.mono (.of s48)
    have ha1 := TKs.of s48 _ _ ha1
    have ha2 := TKs.of s48 _ _ ha2
    have bx1 := bx1.mono (.of s48)
    have bx2 := bx2.mono (.of s48)
    clear s48 s5 s6 s7 s8 D4
    -- bent ones
    refine ⟨_, rfl, _, rfl, d, c, _, _, rfl, D8, B1, e1, by omega, fun r1 t1 H9 w1 w1z w1d k9 D9 => ?_⟩
    have bk9 : BKs K [d, c] H8 H9 := D8.bks k9
    refine ⟨_, rfl, _, rfl, d, c, _, _, rfl, D9, B1.mono bk9, e1, by omega, fun r2 t2 H10 w2 w2z w2d k10 D10 => ?_⟩
    have bk10' : BKs K [d, c] H9 H10 := D9.bks k10
    have bk10 := bk9.trans bk10'
    refine ⟨_, rfl, _, rfl, d, c, _, _, rfl, D10, B2.mono bk10, e2, by omega, fun r3 t3 H11 w3 w3z w3d k11 D11 => ?_⟩
    have bk11' : BKs K [d, c] H10 H11 := D10.bks k11
    have bk11 := bk10.trans bk11'
    refine ⟨_, rfl, _, rfl, d, c, _, _, rfl, D11, B2.mono bk11, e2, by omega, fun r4 t4 H12 w4 w4z w4d k12 D12 => ?_⟩
    have bk12' : BKs K [d, c] H11 H12 := D11.bks k12
    have bk12 := bk11.trans bk12'
    have w3 := w3.mono bk12'
    have w2 := w2.mono (bk11'.trans bk12')
    have w1 := w1.mono ((bk10'.trans bk11').trans bk12')
    refine ⟨(by show 4 ≤ sizeLine; decide), fun pl npl => ?_⟩
    have s13 : Same H12 (upd H12 pl (.lst [r1, r2, r3, r4])) := same_new npl _
    have e13 : upd H12 pl (.lst [r1, r2, r3, r4]) pl = some (.lst [r1, r2, r3, r4]) := upd_same
    generalize upd H12 pl (.lst [r1, r2, r3, r4]) = H13 at s13 e13
    refine ⟨pl, rfl, ⟨_, SqL.of e13⟩, for_list (K := K) (a := pl) (xs := [r1, r2, r3, r4]) (fun j σ H' => ∃ (x5 x6 : Option V), σ = [some (.ref a), some (.ref d), some (.int ((0 : Int) + (i : Int))), some (.ref a1), some (.ref a2), x5, x6] ∧ Same H13 H') ⟨_, _, rfl, Same.refl _⟩ (fun j σ H' _ h => ?_) ?_ ?_⟩
    · obtain ⟨_, _, _, hs⟩ := h
      exact SqL.of (hs _ _ e13)
    · rintro j x σ H' hj ⟨y5, y6, rfl, hs⟩
      obtain ⟨t, ht, htz, htd⟩ : ∃ t, Bt K [d, c] H12 x t ∧ sz t ≤ 900000 ∧ dep t < 24 := by
        have := List.mem_of_getElem? hj
        simp only [List.mem_cons, List.not_mem_nil, or_false] at this
        rcases this with rfl | rfl | rfl | rfl
        · exact ⟨t1, w1, by omega, by omega⟩
        · exact ⟨t2, w2, by omega, by omega⟩
        · exact ⟨t3, w3, by omega, by omega⟩
        · exact ⟨t4, w4, by omega, by omega⟩
      exact ⟨_, rfl, [d, c], x, t, rfl, ht.mono (.of (s13.trans hs)), htz, htd, fun H14 s14 => ⟨_, rfl, iteF ⟨_, _, rfl, hs.trans s14⟩⟩⟩
    · rintro σ H14 ⟨y5, y6, rfl, hs⟩
      have bk14 := bk12.trans (BKs.of (s13.trans hs))
      have D14 := D12.same (s13.trans hs)
      have ha1 := bk14.tk _ _ ha1
      have ha2 := bk14.tk _ _ ha2
      have bx1 := bx1.mono bk14
      have bx2 := bx2.mono bk14
      have lx := bx1.len
      have ly := bx2.len
      have lw := szs_len ws
      have lt := szs_len ts
      refine ⟨_, rfl, a1, xs, rfl, .inr ha1, fun p3 np3 => ?_⟩
      have s15 : Same H14 (upd H14 p3 (.lst xs)) := same_new np3 _
      have e15 : upd H14 p3 (.lst xs) p3 = some (.lst xs) := upd_same
      generalize upd H14 p3 (.lst xs) = H15 at s15 e15
      refine ⟨_, rfl, a2, ys, rfl, .inr (TKs.of s15 _ _ ha2), fun p4 np4 => ?_⟩
      have e15 := kn (o' := .lst ys) e15 np4
      have s16 := s15.trans (same_new np4 (.lst ys))
      have e16 : upd H15 p4 (.lst ys) p4 = some (.lst ys) := upd_same
      generalize upd H15 p4 (.lst ys) = H16 at s16 e16 e15
      refine ⟨p3, p4, xs, ys, rfl, rfl, e15, e16, mid (by omega), fun pp npp => ?_⟩
      have nd17 : pp ∉ [d, c] := (D14.same s16).nd npp
      have s17 := s16.trans (same_new npp (.lst (xs ++ ys)))
      have e17 : upd H16 pp (.lst (xs ++ ys)) pp = some (.lst (xs ++ ys)) := upd_same
      generalize upd H16 pp (.lst (xs ++ ys)) = H17 at s17 e17
      have D17 := D14.same s17
      have bz : BtAll K [d, c] H17 (xs ++ ys) (ws ++ ts) := (bx1.append bx2).mono (.of s17)
      refine ⟨pp, rfl, ⟨_, SqL.of e17⟩, for_list (K := K) (a := pp) (xs := xs ++ ys) (fun j σ H' => ∃ (x5 x6 : Option V), σ = [some (.ref a), some (.ref d), some (.int ((0 : Int) + (i : Int))), some (.ref a1), some (.ref a2), x5, x6] ∧ Kp [d, c] H17 H' ∧ Deck H' d c) ⟨_, _, rfl, Kp.refl _ _, D17⟩ (fun j σ H' _ h => ?_) ?_ ?_⟩
      · obtain ⟨_, _, _, hk, _⟩ := h
        exact SqL.of (hk pp _ nd17 e17)
      · rintro j x σ H' hj ⟨y5, y6, rfl, hk, DD⟩
        obtain ⟨t, htg, ht⟩ := bz.get hj
        have tm : t ∈ ws ++ ts := List.mem_of_getElem? htg
        have tz : sz t ≤ 400000 ∧ dep t ≤ 17 := by
          rcases List.mem_append.mp tm with h | h
          · have := szs_mem h; have := deps_mem h; omega
          · have := szs_mem h; have := deps_mem h; omega
        have ht' := ht.mono (D17.bks hk)
        refine ⟨_, rfl, [d, c], x, t, rfl, ht', by omega, by omega, fun H18 s18 => ⟨_, rfl, iteF ?_⟩⟩
        have k18 : Kp [d, c] H' H18 := fun a o _ e => s18 a o e
        refine ⟨_, rfl, _, rfl, d, c, x, t, rfl, DD.same s18, ht'.mono (.of s18), by omega, by omega, fun r t' H19 w19 wz wd k19 D19 => ?_⟩
        refine ⟨[d, c], r, t', rfl, w19, by omega, by omega, fun H20 s20 => ⟨_, rfl, iteF ?_⟩⟩
        exact ⟨_, _, rfl, ((hk.trans k18).trans k19).trans (fun a o _ e => s20 a o e), D19.same s20⟩
      · rintro σ H18 ⟨y5, y6, rfl, hk, DD⟩
        exact ⟨_, _, _, _, _, rfl, DD⟩
  · rintro σ H2 ⟨x2, x3, x4, x5, x6, rfl, D2⟩
    exact q H2
/-- things and words looked at, of every depth -/
theorem all_looks {ft fw gx : Addr} {dt dw dx : FuncData} (Ft : Fun K "_law_is_thing" "_law_is_thing" sLThing ft dt) (bt : L2.Binds K dt ["_law_thing_here"] []) (mt : mg "_law_is_thing" = some (.ref ft))
    (Fw : Fun K "_law_is_word" "_law_is_word" sLWord fw dw) (bw : L2.Binds K dw ["_law_word_here"] []) (mw : mg "_law_is_word" = some (.ref fw)) (T : Ty4 mg)
    (X : FnOk P w K mg base CX0 2 gx dx ["_law_text"] (spL wordB)) (bX : L2.Binds K dx ["_law_text"] []) (kX : keepIn K (.ref gx) = true) (mX : mg "_law_is_text" = some (.ref gx)) :
    ∀ n : Nat, FnOk P w K mg base CX0 (3 + n) ft dt ["_law_thing_here"] (spLS K .th n) ∧ FnOk P w K mg base CX0 (3 + n) fw dw ["_law_word_here"] (spLS K .wd n) := by
  intro n
  induction n with
  | zero => exact ⟨ok_lthing0 Ft, ok_lword0 Fw⟩
  | succ n ih => exact ⟨ok_lthing Ft T ih.1 bt Ft.kp mt ih.2 bw Fw.kp mw, ok_lword Fw T X bX kX mX ih.1 bt Ft.kp mt⟩
theorem all_bent {fb g go : Addr} {db gd god : FuncData} (F : Fun K "_law_bent" "_law_bent" sBent fb db) (bB : L2.Binds K db A2 []) (mB : mg "_law_bent" = some (.ref fb)) (T : Ty4 mg) (G : FnOk P w K mg base CX0 2 g gd ["_law_deck_here", "_law_most"] spTake) (bG : L2.Binds K gd ["_law_deck_here", "_law_most"] []) (kG : keepIn K (.ref g) = true) (mG : mg "_law_take" = some (.ref g))
    (O : ∀ n, FnOk P w K mg base CX0 3 go god A2 (spBent K n)) (bO : L2.Binds K god A2 []) (kO : keepIn K (.ref go) = true) (mO : mg "_law_odd" = some (.ref go)) : ∀ n : Nat, FnOk P w K mg base CX0 (3 + n) fb db A2 (spBent K n) := by
  intro n
  induction n with
  | zero => exact ok_bent0 F
  | succ n ih => exact ok_bent F T G bG kG mG (O (n + 1)) bO kO mO ih bB F.kp mB
end
end K02
namespace K02
open PySem PySem.W L2 SX Cm
theorem all_mk {l : PySem.W.OpenLaw} {w : World} {K : PySem.W.Frag} {h : Heap} {mg : Str → Option Value} {fa f1 f2 f3 f4 f5 f6 f7 f8 f9 f10 f11 f12 f13 f14 f15 f16 f17 f18 f19 f20 f21 f22 f23 f24 f25 f26 f27 f28 f29 f30 f31 f32 f33 : Addr} {es es2 : Array DictEntry} {n n2 : Nat} {t1 t2 : Tok} (X : K.In h) (G : h.Ns mainGlobals mg) (hfa : mg "law" = some (.ref fa))
    {od1 an1 od2 an2 od3 an3 od4 an4 od5 an5 od6 an6 od7 an7 od8 an8 od9 an9 od10 an10 od11 an11 od12 an12 od13 an13 od14 an14 od15 an15 od16 an16 od17 an17 od18 an18 od19 an19 od20 an20 od21 an21 od22 an22 od23 an23 od24 an24 od25 an25 od26 an26 od27 an27 od28 an28 od29 an29 od30 an30 od31 an31 od32 an32 od33 an33 : Option Addr} {sl1 sl2 sl3 sl4 sl5 sl6 sl7 sl8 sl9 sl10 sl11 sl12 sl13 sl14 sl15 sl16 sl17 sl18 sl19 sl20 sl21 sl22 sl23 sl24 sl25 sl26 sl27 sl28 sl29 sl30 sl31 sl32 sl33 : Array (Option Value)} {oc1 kV1 dc1 pm1 cd1 ct1 oc2 kV2 dc2 pm2 cd2 ct2 oc3 kV3 dc3 pm3 cd3 ct3 oc4 kV4 dc4 pm4 cd4 ct4 oc5 kV5 dc5 pm5 cd5 ct5 oc6 kV6 dc6 pm6 cd6 ct6 oc7 kV7 dc7 pm7 cd7 ct7 oc8 kV8 dc8 pm8 cd8 ct8 oc9 kV9 dc9 pm9 cd9 ct9 oc10 kV10 dc10 pm10 cd10 ct10 oc11 kV11 dc11 pm11 cd11 ct11 oc12 kV12 dc12 pm12 cd12 ct12 oc13 kV13 dc13 pm13 cd13 ct13 oc14 kV14 dc14 pm14 cd14 ct14 oc15 kV15 dc15 pm15 cd15 ct15 oc16 kV16 dc16 pm16 cd16 ct16 oc17 kV17 dc17 pm17 cd17 ct17 oc18 kV18 dc18 pm18 cd18 ct18 oc19 kV19 dc19 pm19 cd19 ct19 oc20 kV20 dc20 pm20 cd20 ct20 oc21 kV21 dc21 pm21 cd21 ct21 oc22 kV22 dc22 pm22 cd22 ct22 oc23 kV23 dc23 pm23 cd23 ct23 oc24 kV24 dc24 pm24 cd24 ct24 oc25 kV25 dc25 pm25 cd25 ct25 oc26 kV26 dc26 pm26 cd26 ct26 oc27 kV27 dc27 pm27 cd27 ct27 oc28 kV28 dc28 pm28 cd28 ct28 oc29 kV29 dc29 pm29 cd29 ct29 oc30 kV30 dc30 pm30 cd30 ct30 oc31 kV31 dc31 pm31 cd31 ct31 oc32 kV32 dc32 pm32 cd32 ct32 oc33 kV33 dc33 pm33 cd33 ct33 : Value}
    (a1 : PySem.W.nsIn K mainGlobals "is_whole" = some (some (.ref f1))) (l1 : K.lookup f1 = some ⟨oc1, od1, .func (PySem.W.fnOf "is_whole" "is_whole" (defArgs sIsWhole) (defBody sIsWhole) (defScope sIsWhole) .none kV1 dc1 pm1 an1 cd1 ct1), sl1⟩) (c1 : PySem.W.codeIn K cd1 "is_whole" = true) (k1 : PySem.W.keepIn K (.ref f1) = true)
    (a2 : PySem.W.nsIn K mainGlobals "is_marked" = some (some (.ref f2))) (l2 : K.lookup f2 = some ⟨oc2, od2, .func (PySem.W.fnOf "is_marked" "is_marked" (defArgs sMarked) (defBody sMarked) (defScope sMarked) .none kV2 dc2 pm2 an2 cd2 ct2), sl2⟩) (c2 : PySem.W.codeIn K cd2 "is_marked" = true) (k2 : PySem.W.keepIn K (.ref f2) = true)
    (a3 : PySem.W.nsIn K mainGlobals "has_form" = some (some (.ref f3))) (l3 : K.lookup f3 = some ⟨oc3, od3, .func (PySem.W.fnOf "has_form" "has_form" (defArgs sForm) (defBody sForm) (defScope sForm) .none kV3 dc3 pm3 an3 cd3 ct3), sl3⟩) (c3 : PySem.W.codeIn K cd3 "has_form" = true) (k3 : PySem.W.keepIn K (.ref f3) = true)
    (a4 : PySem.W.nsIn K mainGlobals "is_shuffle" = some (some (.ref f4))) (l4 : K.lookup f4 = some ⟨oc4, od4, .func (PySem.W.fnOf "is_shuffle" "is_shuffle" (defArgs sIsSh) (defBody sIsSh) (defScope sIsSh) .none kV4 dc4 pm4 an4 cd4 ct4), sl4⟩) (c4 : PySem.W.codeIn K cd4 "is_shuffle" = true) (k4 : PySem.W.keepIn K (.ref f4) = true)
    (a5 : PySem.W.nsIn K mainGlobals "is_basic" = some (some (.ref f5))) (l5 : K.lookup f5 = some ⟨oc5, od5, .func (PySem.W.fnOf "is_basic" "is_basic" (defArgs sBasic) (defBody sBasic) (defScope sBasic) .none kV5 dc5 pm5 an5 cd5 ct5), sl5⟩) (c5 : PySem.W.codeIn K cd5 "is_basic" = true) (k5 : PySem.W.keepIn K (.ref f5) = true)
    (a6 : PySem.W.nsIn K mainGlobals "is_thing" = some (some (.ref f6))) (l6 : K.lookup f6 = some ⟨oc6, od6, .func (PySem.W.fnOf "is_thing" "is_thing" (defArgs sIsThing) (defBody sIsThing) (defScope sIsThing) .none kV6 dc6 pm6 an6 cd6 ct6), sl6⟩) (c6 : PySem.W.codeIn K cd6 "is_thing" = true) (k6 : PySem.W.keepIn K (.ref f6) = true)
    (a7 : PySem.W.nsIn K mainGlobals "is_word" = some (some (.ref f7))) (l7 : K.lookup f7 = some ⟨oc7, od7, .func (PySem.W.fnOf "is_word" "is_word" (defArgs sIsWord) (defBody sIsWord) (defScope sIsWord) .none kV7 dc7 pm7 an7 cd7 ct7), sl7⟩) (c7 : PySem.W.codeIn K cd7 "is_word" = true) (k7 : PySem.W.keepIn K (.ref f7) = true)
    (a8 : PySem.W.nsIn K mainGlobals "is_row" = some (some (.ref f8))) (l8 : K.lookup f8 = some ⟨oc8, od8, .func (PySem.W.fnOf "is_row" "is_row" (defArgs sIsRow) (defBody sIsRow) (defScope sIsRow) .none kV8 dc8 pm8 an8 cd8 ct8), sl8⟩) (c8 : PySem.W.codeIn K cd8 "is_row" = true) (k8 : PySem.W.keepIn K (.ref f8) = true)
    (a9 : PySem.W.nsIn K mainGlobals "is_stack" = some (some (.ref f9))) (l9 : K.lookup f9 = some ⟨oc9, od9, .func (PySem.W.fnOf "is_stack" "is_stack" (defArgs sIsStack) (defBody sIsStack) (defScope sIsStack) .none kV9 dc9 pm9 an9 cd9 ct9), sl9⟩) (c9 : PySem.W.codeIn K cd9 "is_stack" = true) (k9 : PySem.W.keepIn K (.ref f9) = true)
    (a10 : PySem.W.nsIn K mainGlobals "is_name" = some (some (.ref f10))) (l10 : K.lookup f10 = some ⟨oc10, od10, .func (PySem.W.fnOf "is_name" "is_name" (defArgs sIsName) (defBody sIsName) (defScope sIsName) .none kV10 dc10 pm10 an10 cd10 ct10), sl10⟩) (c10 : PySem.W.codeIn K cd10 "is_name" = true) (k10 : PySem.W.keepIn K (.ref f10) = true)
    (a11 : PySem.W.nsIn K mainGlobals "is_number" = some (some (.ref f11))) (l11 : K.lookup f11 = some ⟨oc11, od11, .func (PySem.W.fnOf "is_number" "is_number" (defArgs sIsNum) (defBody sIsNum) (defScope sIsNum) .none kV11 dc11 pm11 an11 cd11 ct11), sl11⟩) (c11 : PySem.W.codeIn K cd11 "is_number" = true) (k11 : PySem.W.keepIn K (.ref f11) = true)
    (a12 : PySem.W.nsIn K mainGlobals "is_text_word" = some (some (.ref f12))) (l12 : K.lookup f12 = some ⟨oc12, od12, .func (PySem.W.fnOf "is_text_word" "is_text_word" (defArgs sTextWord) (defBody sTextWord) (defScope sTextWord) .none kV12 dc12 pm12 an12 cd12 ct12), sl12⟩) (c12 : PySem.W.codeIn K cd12 "is_text_word" = true) (k12 : PySem.W.keepIn K (.ref f12) = true)
    (a13 : PySem.W.nsIn K mainGlobals "asked_within" = some (some (.ref f13))) (l13 : K.lookup f13 = some ⟨oc13, od13, .func (PySem.W.fnOf "asked_within" "asked_within" (defArgs sAsked) (defBody sAsked) (defScope sAsked) .none kV13 dc13 pm13 an13 cd13 ct13), sl13⟩) (c13 : PySem.W.codeIn K cd13 "asked_within" = true) (k13 : PySem.W.keepIn K (.ref f13) = true)
    (a14 : PySem.W.nsIn K mainGlobals "asked_of_thing" = some (some (.ref f14))) (l14 : K.lookup f14 = some ⟨oc14, od14, .func (PySem.W.fnOf "asked_of_thing" "asked_of_thing" (defArgs sAskedThing) (defBody sAskedThing) (defScope sAskedThing) .none kV14 dc14 pm14 an14 cd14 ct14), sl14⟩) (c14 : PySem.W.codeIn K cd14 "asked_of_thing" = true) (k14 : PySem.W.keepIn K (.ref f14) = true)
    (a15 : PySem.W.nsIn K mainGlobals "asked_of_word" = some (some (.ref f15))) (l15 : K.lookup f15 = some ⟨oc15, od15, .func (PySem.W.fnOf "asked_of_word" "asked_of_word" (defArgs sAskedWord) (defBody sAskedWord) (defScope sAskedWord) .none kV15 dc15 pm15 an15 cd15 ct15), sl15⟩) (c15 : PySem.W.codeIn K cd15 "asked_of_word" = true) (k15 : PySem.W.keepIn K (.ref f15) = true)
    (a16 : PySem.W.nsIn K mainGlobals "_law_mixed" = some (some (.ref f16))) (l16 : K.lookup f16 = some ⟨oc16, od16, .func (PySem.W.fnOf "_law_mixed" "_law_mixed" (defArgs sMixed) (defBody sMixed) (defScope sMixed) .none kV16 dc16 pm16 an16 cd16 ct16), sl16⟩) (c16 : PySem.W.codeIn K cd16 "_law_mixed" = true) (k16 : PySem.W.keepIn K (.ref f16) = true)
    (a17 : PySem.W.nsIn K mainGlobals "_law_deck" = some (some (.ref f17))) (l17 : K.lookup f17 = some ⟨oc17, od17, .func (PySem.W.fnOf "_law_deck" "_law_deck" (defArgs sDeck) (defBody sDeck) (defScope sDeck) .none kV17 dc17 pm17 an17 cd17 ct17), sl17⟩) (c17 : PySem.W.codeIn K cd17 "_law_deck" = true) (k17 : PySem.W.keepIn K (.ref f17) = true)
    (a18 : PySem.W.nsIn K mainGlobals "_law_take" = some (some (.ref f18))) (l18 : K.lookup f18 = some ⟨oc18, od18, .func (PySem.W.fnOf "_law_take" "_law_take" (defArgs sTake) (defBody sTake) (defScope sTake) .none kV18 dc18 pm18 an18 cd18 ct18), sl18⟩) (c18 : PySem.W.codeIn K cd18 "_law_take" = true) (k18 : PySem.W.keepIn K (.ref f18) = true)
    (a19 : PySem.W.nsIn K mainGlobals "_law_number" = some (some (.ref f19))) (l19 : K.lookup f19 = some ⟨oc19, od19, .func (PySem.W.fnOf "_law_number" "_law_number" (defArgs sNumber) (defBody sNumber) (defScope sNumber) .none kV19 dc19 pm19 an19 cd19 ct19), sl19⟩) (c19 : PySem.W.codeIn K cd19 "_law_number" = true) (k19 : PySem.W.keepIn K (.ref f19) = true)
    (a20 : PySem.W.nsIn K mainGlobals "_law_name" = some (some (.ref f20))) (l20 : K.lookup f20 = some ⟨oc20, od20, .func (PySem.W.fnOf "_law_name" "_law_name" (defArgs sName) (defBody sName) (defScope sName) .none kV20 dc20 pm20 an20 cd20 ct20), sl20⟩) (c20 : PySem.W.codeIn K cd20 "_law_name" = true) (k20 : PySem.W.keepIn K (.ref f20) = true)
    (a21 : PySem.W.nsIn K mainGlobals "_law_shuffle" = some (some (.ref f21))) (l21 : K.lookup f21 = some ⟨oc21, od21, .func (PySem.W.fnOf "_law_shuffle" "_law_shuffle" (defArgs sShuffle) (defBody sShuffle) (defScope sShuffle) .none kV21 dc21 pm21 an21 cd21 ct21), sl21⟩) (c21 : PySem.W.codeIn K cd21 "_law_shuffle" = true) (k21 : PySem.W.keepIn K (.ref f21) = true)
    (a22 : PySem.W.nsIn K mainGlobals "_law_thing" = some (some (.ref f22))) (l22 : K.lookup f22 = some ⟨oc22, od22, .func (PySem.W.fnOf "_law_thing" "_law_thing" (defArgs sThing) (defBody sThing) (defScope sThing) .none kV22 dc22 pm22 an22 cd22 ct22), sl22⟩) (c22 : PySem.W.codeIn K cd22 "_law_thing" = true) (k22 : PySem.W.keepIn K (.ref f22) = true)
    (a23 : PySem.W.nsIn K mainGlobals "_law_stack" = some (some (.ref f23))) (l23 : K.lookup f23 = some ⟨oc23, od23, .func (PySem.W.fnOf "_law_stack" "_law_stack" (defArgs sStack) (defBody sStack) (defScope sStack) .none kV23 dc23 pm23 an23 cd23 ct23), sl23⟩) (c23 : PySem.W.codeIn K cd23 "_law_stack" = true) (k23 : PySem.W.keepIn K (.ref f23) = true)
    (a24 : PySem.W.nsIn K mainGlobals "_law_word" = some (some (.ref f24))) (l24 : K.lookup f24 = some ⟨oc24, od24, .func (PySem.W.fnOf "_law_word" "_law_word" (defArgs sWord) (defBody sWord) (defScope sWord) .none kV24 dc24 pm24 an24 cd24 ct24), sl24⟩) (c24 : PySem.W.codeIn K cd24 "_law_word" = true) (k24 : PySem.W.keepIn K (.ref f24) = true)
    (a25 : PySem.W.nsIn K mainGlobals "_law_row" = some (some (.ref f25))) (l25 : K.lookup f25 = some ⟨oc25, od25, .func (PySem.W.fnOf "_law_row" "_law_row" (defArgs sRow) (defBody sRow) (defScope sRow) .none kV25 dc25 pm25 an25 cd25 ct25), sl25⟩) (c25 : PySem.W.codeIn K cd25 "_law_row" = true) (k25 : PySem.W.keepIn K (.ref f25) = true)
    (a26 : PySem.W.nsIn K mainGlobals "_law_all_in" = some (some (.ref f26))) (l26 : K.lookup f26 = some ⟨oc26, od26, .func (PySem.W.fnOf "_law_all_in" "_law_all_in" (defArgs sAllIn) (defBody sAllIn) (defScope sAllIn) .none kV26 dc26 pm26 an26 cd26 ct26), sl26⟩) (c26 : PySem.W.codeIn K cd26 "_law_all_in" = true) (k26 : PySem.W.keepIn K (.ref f26) = true)
    (a27 : PySem.W.nsIn K mainGlobals "_law_is_text" = some (some (.ref f27))) (l27 : K.lookup f27 = some ⟨oc27, od27, .func (PySem.W.fnOf "_law_is_text" "_law_is_text" (defArgs sIsText) (defBody sIsText) (defScope sIsText) .none kV27 dc27 pm27 an27 cd27 ct27), sl27⟩) (c27 : PySem.W.codeIn K cd27 "_law_is_text" = true) (k27 : PySem.W.keepIn K (.ref f27) = true)
    (a28 : PySem.W.nsIn K mainGlobals "_law_is_thing" = some (some (.ref f28))) (l28 : K.lookup f28 = some ⟨oc28, od28, .func (PySem.W.fnOf "_law_is_thing" "_law_is_thing" (defArgs sLThing) (defBody sLThing) (defScope sLThing) .none kV28 dc28 pm28 an28 cd28 ct28), sl28⟩) (c28 : PySem.W.codeIn K cd28 "_law_is_thing" = true) (k28 : PySem.W.keepIn K (.ref f28) = true)
    (a29 : PySem.W.nsIn K mainGlobals "_law_is_word" = some (some (.ref f29))) (l29 : K.lookup f29 = some ⟨oc29, od29, .func (PySem.W.fnOf "_law_is_word" "_law_is_word" (defArgs sLWord) (defBody sLWord) (defScope sLWord) .none kV29 dc29 pm29 an29 cd29 ct29), sl29⟩) (c29 : PySem.W.codeIn K cd29 "_law_is_word" = true) (k29 : PySem.W.keepIn K (.ref f29) = true)
    (a30 : PySem.W.nsIn K mainGlobals "_law_odd" = some (some (.ref f30))) (l30 : K.lookup f30 = some ⟨oc30, od30, .func (PySem.W.fnOf "_law_odd" "_law_odd" (defArgs sOdd) (defBody sOdd) (defScope sOdd) .none kV30 dc30 pm30 an30 cd30 ct30), sl30⟩) (c30 : PySem.W.codeIn K cd30 "_law_odd" = true) (k30 : PySem.W.keepIn K (.ref f30) = true)
    (a31 : PySem.W.nsIn K mainGlobals "_law_bent" = some (some (.ref f31))) (l31 : K.lookup f31 = some ⟨oc31, od31, .func (PySem.W.fnOf "_law_bent" "_law_bent" (defArgs sBent) (defBody sBent) (defScope sBent) .none kV31 dc31 pm31 an31 cd31 ct31), sl31⟩) (c31 : PySem.W.codeIn K cd31 "_law_bent" = true) (k31 : PySem.W.keepIn K (.ref f31) = true)
    (a32 : PySem.W.nsIn K mainGlobals "_law_right" = some (some (.ref f32))) (l32 : K.lookup f32 = some ⟨oc32, od32, .func (PySem.W.fnOf "_law_right" "_law_right" (defArgs sRight) (defBody sRight) (defScope sRight) .none kV32 dc32 pm32 an32 cd32 ct32), sl32⟩) (c32 : PySem.W.codeIn K cd32 "_law_right" = true) (k32 : PySem.W.keepIn K (.ref f32) = true)
    (a33 : PySem.W.nsIn K mainGlobals "law" = some (some (.ref f33))) (l33 : K.lookup f33 = some ⟨oc33, od33, .func (PySem.W.fnOf "law" "law" (defArgs sLaw) (defBody sLaw) (defScope sLaw) .none kV33 dc33 pm33 an33 cd33 ct33), sl33⟩) (c33 : PySem.W.codeIn K cd33 "law" = true) (k33 : PySem.W.keepIn K (.ref f33) = true)
    (z_len : PySem.W.nsIn K mainGlobals "len" = some none)
    (z_list : PySem.W.nsIn K mainGlobals "list" = some none)
    (z_sum : PySem.W.nsIn K mainGlobals "sum" = some none)
    (z_range : PySem.W.nsIn K mainGlobals "range" = some none)
    (z_isinstance : PySem.W.nsIn K mainGlobals "isinstance" = some none)
    (z_str : PySem.W.nsIn K mainGlobals "str" = some none)
    (z_all : PySem.W.nsIn K mainGlobals "all" = some none)
    (z_tuple : PySem.W.nsIn K mainGlobals "tuple" = some none)
    (z_int : PySem.W.nsIn K mainGlobals "int" = some none)
    (z_bool : PySem.W.nsIn K mainGlobals "bool" = some none)
    (z_reversed : PySem.W.nsIn K mainGlobals "reversed" = some none)
    {tL : Tok} (g_LETTERS : PySem.W.nsIn K mainGlobals "LETTERS" = some (some (.str "abcdefgh" tL)))
    {tM : Tok} (g_MOST_LEFT : PySem.W.nsIn K mainGlobals "MOST_LEFT" = some (some (.int 12 tM)))
    {tS : Tok} (g_SMALL_LETTERS : PySem.W.nsIn K mainGlobals "SMALL_LETTERS" = some (some (.str "abcdefghijklmnopqrstuvwxyz" tS)))
    {tN : Tok} (g_LONGEST_NAME : PySem.W.nsIn K mainGlobals "LONGEST_NAME" = some (some (.int 8 tN)))
    {tB : Tok} (g_NUMBERS : PySem.W.nsIn K mainGlobals "NUMBERS" = some (some (.int 1000000000000 tB)))
    {d : Addr} (g_SORTS_TAKEN : PySem.W.nsIn K mainGlobals "SORTS_TAKEN" = some (some (.ref d)))
    {sp : Addr} (g_SORT_OF_PARTS : PySem.W.nsIn K mainGlobals "SORT_OF_PARTS" = some (some (.ref sp)))
    (xt : K.lookup d = some ⟨.type "dict", none, .dict es n, #[]⟩)
    (xk : PySem.W.KeysLit w.params es.toList)
    (xs : (d == sysModules) = false)
    (xx : kTab K es.toList = some Cm.table)
    (xt2 : K.lookup sp = some ⟨.type "dict", none, .dict es2 n2, #[]⟩)
    (xk2 : PySem.W.KeysLit w.params es2.toList)
    (xr : PySem.W.nsIn K sp "row" = some (some (.str "word" t1)))
    (xq : PySem.W.nsIn K sp "stack" = some (some (.str "thing" t2)))
    : ∃ fd : FuncData, (∀ (s : Shared) (v : Value), BindsTo s fd ⟨[v], []⟩ [("_law_script", v)]) ∧ ∀ base : Heap, K.In base → base.Ns mainGlobals mg → FnOk l.prog w K mg base CX0 29 fa fd ["_law_script"] (spLaw K) := by
  have e := hfa.symm.trans (PySem.W.mg_of X G a33)
  cases e
  have F1 := fun_mk (st := sIsWhole) l1 c1 k1
  have b1 := F1.binds (ps := ["thing"]) fun _ _ _ _ _ _ us hl => match us, hl with | [_], _ => rfl
  have m1 := PySem.W.mg_of X G a1
  have F2 := fun_mk (st := sMarked) l2 c2 k2
  have b2 := F2.binds (ps := ["thing"]) fun _ _ _ _ _ _ us hl => match us, hl with | [_], _ => rfl
  have m2 := PySem.W.mg_of X G a2
  have F3 := fun_mk (st := sForm) l3 c3 k3
  have b3 := F3.binds (ps := ["sort", "thing", "asked_within"]) fun _ _ _ _ _ _ us hl => match us, hl with | [_, _, _], _ => rfl
  have m3 := PySem.W.mg_of X G a3
  have F4 := fun_mk (st := sIsSh) l4 c4 k4
  have b4 := F4.binds (ps := ["thing"]) fun _ _ _ _ _ _ us hl => match us, hl with | [_], _ => rfl
  have m4 := PySem.W.mg_of X G a4
  have F5 := fun_mk (st := sBasic) l5 c5 k5
  have b5 := F5.binds (ps := ["text"]) fun _ _ _ _ _ _ us hl => match us, hl with | [_], _ => rfl
  have m5 := PySem.W.mg_of X G a5
  have F6 := fun_mk (st := sIsThing) l6 c6 k6
  have b6 := F6.binds (ps := ["thing"]) fun _ _ _ _ _ _ us hl => match us, hl with | [_], _ => rfl
  have m6 := PySem.W.mg_of X G a6
  have F7 := fun_mk (st := sIsWord) l7 c7 k7
  have b7 := F7.binds (ps := ["thing"]) fun _ _ _ _ _ _ us hl => match us, hl with | [_], _ => rfl
  have m7 := PySem.W.mg_of X G a7
  have F8 := fun_mk (st := sIsRow) l8 c8 k8
  have b8 := F8.binds (ps := ["thing"]) fun _ _ _ _ _ _ us hl => match us, hl with | [_], _ => rfl
  have m8 := PySem.W.mg_of X G a8
  have F9 := fun_mk (st := sIsStack) l9 c9 k9
  have b9 := F9.binds (ps := ["thing"]) fun _ _ _ _ _ _ us hl => match us, hl with | [_], _ => rfl
  have m9 := PySem.W.mg_of X G a9
  have F10 := fun_mk (st := sIsName) l10 c10 k10
  have b10 := F10.binds (ps := ["thing"]) fun _ _ _ _ _ _ us hl => match us, hl with | [_], _ => rfl
  have m10 := PySem.W.mg_of X G a10
  have F11 := fun_mk (st := sIsNum) l11 c11 k11
  have b11 := F11.binds (ps := ["thing"]) fun _ _ _ _ _ _ us hl => match us, hl with | [_], _ => rfl
  have m11 := PySem.W.mg_of X G a11
  have F12 := fun_mk (st := sTextWord) l12 c12 k12
  have b12 := F12.binds (ps := ["text"]) fun _ _ _ _ _ _ us hl => match us, hl with | [_], _ => rfl
  have m12 := PySem.W.mg_of X G a12
  have F13 := fun_mk (st := sAsked) l13 c13 k13
  have b13 := F13.binds (ps := ["sort", "part"]) fun _ _ _ _ _ _ us hl => match us, hl with | [_, _], _ => rfl
  have m13 := PySem.W.mg_of X G a13
  have F14 := fun_mk (st := sAskedThing) l14 c14 k14
  have b14 := F14.binds (ps := ["part"]) fun _ _ _ _ _ _ us hl => match us, hl with | [_], _ => rfl
  have m14 := PySem.W.mg_of X G a14
  have F15 := fun_mk (st := sAskedWord) l15 c15 k15
  have b15 := F15.binds (ps := ["part"]) fun _ _ _ _ _ _ us hl => match us, hl with | [_], _ => rfl
  have m15 := PySem.W.mg_of X G a15
  have F16 := fun_mk (st := sMixed) l16 c16 k16
  have b16 := F16.binds (ps := ["_law_cell", "_law_k"]) fun _ _ _ _ _ _ us hl => match us, hl with | [_, _], _ => rfl
  have m16 := PySem.W.mg_of X G a16
  have F17 := fun_mk (st := sDeck) l17 c17 k17
  have b17 := F17.binds (ps := ["_law_script"]) fun _ _ _ _ _ _ us hl => match us, hl with | [_], _ => rfl
  have m17 := PySem.W.mg_of X G a17
  have F18 := fun_mk (st := sTake) l18 c18 k18
  have b18 := F18.binds (ps := ["_law_deck_here", "_law_most"]) fun _ _ _ _ _ _ us hl => match us, hl with | [_, _], _ => rfl
  have m18 := PySem.W.mg_of X G a18
  have F19 := fun_mk (st := sNumber) l19 c19 k19
  have b19 := F19.binds (ps := ["_law_deck_here"]) fun _ _ _ _ _ _ us hl => match us, hl with | [_], _ => rfl
  have m19 := PySem.W.mg_of X G a19
  have F20 := fun_mk (st := sName) l20 c20 k20
  have b20 := F20.binds (ps := ["_law_deck_here"]) fun _ _ _ _ _ _ us hl => match us, hl with | [_], _ => rfl
  have m20 := PySem.W.mg_of X G a20
  have F21 := fun_mk (st := sShuffle) l21 c21 k21
  have b21 := F21.binds (ps := ["_law_deck_here"]) fun _ _ _ _ _ _ us hl => match us, hl with | [_], _ => rfl
  have m21 := PySem.W.mg_of X G a21
  have F22 := fun_mk (st := sThing) l22 c22 k22
  have b22 := F22.binds (ps := ["_law_deck_here", "_law_deep", "_law_left"]) fun _ _ _ _ _ _ us hl => match us, hl with | [_, _, _], _ => rfl
  have m22 := PySem.W.mg_of X G a22
  have F23 := fun_mk (st := sStack) l23 c23 k23
  have b23 := F23.binds (ps := ["_law_deck_here", "_law_deep", "_law_left"]) fun _ _ _ _ _ _ us hl => match us, hl with | [_, _, _], _ => rfl
  have m23 := PySem.W.mg_of X G a23
  have F24 := fun_mk (st := sWord) l24 c24 k24
  have b24 := F24.binds (ps := ["_law_deck_here", "_law_deep", "_law_left"]) fun _ _ _ _ _ _ us hl => match us, hl with | [_, _, _], _ => rfl
  have m24 := PySem.W.mg_of X G a24
  have F25 := fun_mk (st := sRow) l25 c25 k25
  have b25 := F25.binds (ps := ["_law_deck_here", "_law_deep", "_law_left"]) fun _ _ _ _ _ _ us hl => match us, hl with | [_, _, _], _ => rfl
  have m25 := PySem.W.mg_of X G a25
  have F26 := fun_mk (st := sAllIn) l26 c26 k26
  have b26 := F26.binds (ps := ["_law_text", "_law_signs"]) fun _ _ _ _ _ _ us hl => match us, hl with | [_, _], _ => rfl
  have m26 := PySem.W.mg_of X G a26
  have F27 := fun_mk (st := sIsText) l27 c27 k27
  have b27 := F27.binds (ps := ["_law_text"]) fun _ _ _ _ _ _ us hl => match us, hl with | [_], _ => rfl
  have m27 := PySem.W.mg_of X G a27
  have F28 := fun_mk (st := sLThing) l28 c28 k28
  have b28 := F28.binds (ps := ["_law_thing_here"]) fun _ _ _ _ _ _ us hl => match us, hl with | [_], _ => rfl
  have m28 := PySem.W.mg_of X G a28
  have F29 := fun_mk (st := sLWord) l29 c29 k29
  have b29 := F29.binds (ps := ["_law_word_here"]) fun _ _ _ _ _ _ us hl => match us, hl with | [_], _ => rfl
  have m29 := PySem.W.mg_of X G a29
  have F30 := fun_mk (st := sOdd) l30 c30 k30
  have b30 := F30.binds (ps := ["_law_deck_here", "_law_thing_here"]) fun _ _ _ _ _ _ us hl => match us, hl with | [_, _], _ => rfl
  have m30 := PySem.W.mg_of X G a30
  have F31 := fun_mk (st := sBent) l31 c31 k31
  have b31 := F31.binds (ps := ["_law_deck_here", "_law_thing_here"]) fun _ _ _ _ _ _ us hl => match us, hl with | [_, _], _ => rfl
  have m31 := PySem.W.mg_of X G a31
  have F32 := fun_mk (st := sRight) l32 c32 k32
  have b32 := F32.binds (ps := ["_law_thing_here"]) fun _ _ _ _ _ _ us hl => match us, hl with | [_], _ => rfl
  have m32 := PySem.W.mg_of X G a32
  have F33 := fun_mk (st := sLaw) l33 c33 k33
  have y_len := PySem.W.mg_none_of X G z_len
  have y_list := PySem.W.mg_none_of X G z_list
  have y_sum := PySem.W.mg_none_of X G z_sum
  have y_range := PySem.W.mg_none_of X G z_range
  have y_isinstance := PySem.W.mg_none_of X G z_isinstance
  have y_str := PySem.W.mg_none_of X G z_str
  have y_all := PySem.W.mg_none_of X G z_all
  have y_tuple := PySem.W.mg_none_of X G z_tuple
  have y_int := PySem.W.mg_none_of X G z_int
  have y_bool := PySem.W.mg_none_of X G z_bool
  have y_reversed := PySem.W.mg_none_of X G z_reversed
  have v_LETTERS := PySem.W.mg_of X G g_LETTERS
  have v_MOST_LEFT := PySem.W.mg_of X G g_MOST_LEFT
  have v_SMALL_LETTERS := PySem.W.mg_of X G g_SMALL_LETTERS
  have v_LONGEST_NAME := PySem.W.mg_of X G g_LONGEST_NAME
  have v_NUMBERS := PySem.W.mg_of X G g_NUMBERS
  have v_SORTS_TAKEN := PySem.W.mg_of X G g_SORTS_TAKEN
  have v_SORT_OF_PARTS := PySem.W.mg_of X G g_SORT_OF_PARTS
  refine ⟨PySem.W.fnOf "law" "law" (defArgs sLaw) (defBody sLaw) (defScope sLaw) .none kV33 dc33 pm33 an33 cd33 ct33, fun s v => .of_eq rfl, fun base _ _ => ?_⟩
  have TS : TxtS mg := ⟨y_isinstance, y_str, y_len, y_all, y_tuple, ⟨_, v_LETTERS⟩, ⟨_, v_MOST_LEFT⟩, ⟨_, v_SMALL_LETTERS⟩, ⟨_, v_LONGEST_NAME⟩⟩
  have T4 : Ty4 mg := ⟨y_isinstance, y_str, y_len, y_tuple, y_int, y_bool⟩
  have TB : Tab K w mg d es n := ⟨⟨xt, xk, xs⟩, xx, v_SORTS_TAKEN⟩
  have dR : KDct K w sp "row" (.str "word") := ⟨es2, n2, _, xt2, xk2, xr, ⟨_, rfl⟩⟩
  have dS : KDct K w sp "stack" (.str "thing") := ⟨es2, n2, _, xt2, xk2, xq, ⟨_, rfl⟩⟩
  have O4 : FnOk l.prog w K mg base CX0 1 f4 _ ["thing"] (spT shufB) := ok_isSh F4 TS
  have O5 : FnOk l.prog w K mg base CX0 1 f5 _ ["text"] spBasic := ok_basic F5 TB
  have O10 := ok_isName F10 TS O5 b5 k5 m5
  have O12 := ok_tw F12 O5 b5 k5 m5 O4 b4 k4 m4 O10 b10 k10 m10
  have OF : ∀ L, FnOk l.prog w K mg base CX0 6 f3 _ ["sort", "thing", "asked_within"] (spForm K L f13) := fun L => by
    have O1 : FnOk l.prog w K mg base CX0 1 f1 _ ["thing"] (spB K L wholeB) := ok_whole F1 T4
    have O2 : FnOk l.prog w K mg base CX0 1 f2 _ ["thing"] (spB K L markB) := ok_marked F2 T4
    have O11 := ok_num F11 O1 b1 k1 m1 ⟨_, v_NUMBERS⟩
    have O14 := ok_askT F14 T4 O2 b2 k2 m2 O11 b11 k11 m11
    have O15 := ok_askW F15 T4 O12 b12 k12 m12 O2 b2 k2 m2
    have O13 := ok_ask F13 T4 v_SORT_OF_PARTS dR dS O14 b14 k14 m14 O15 b15 k15 m15
    exact ok_form F3 O13 b13 k13
  have O6 := ok_isThing F6 OF b3 k3 m3 m13
  have O7 := ok_isWord F7 OF b3 k3 m3 m13
  have O8 := ok_isRow F8 OF b3 k3 m3 m13
  have O9 := ok_isStack F9 OF b3 k3 m3 m13
  have O16 : FnOk l.prog w K mg base CX0 1 f16 _ ["_law_cell", "_law_k"] spMixed := ok_mixed F16
  have O17 : FnOk l.prog w K mg base CX0 1 f17 _ ["_law_script"] (spDeck K) := ok_deck F17 y_list y_reversed y_sum y_len
  have O18 := ok_take F18 O16 b16 k16 m16
  have O19 := ok_number F19 O18 b18 k18 m18
  have O20 := ok_name F20 O18 b18 k18 m18 y_range
  have O21 := ok_shuffle F21 O18 b18 k18 m18 y_int y_len y_range
  have AT := all_things O18 b18 k18 m18 O19 b19 k19 m19 O20 b20 k20 m20 O21 b21 k21 m21 F22 b22 m22 F23 b23 m23 F24 b24 m24 F25 b25 m25 y_range y_int y_tuple 5
  have O26 : FnOk l.prog w K mg base CX0 1 f26 _ ["_law_text", "_law_signs"] spAllIn := ok_allIn F26
  have O27 := ok_isText F27 y_len O26 b26 k26 m26
  have AL := all_looks F28 b28 m28 F29 b29 m29 T4 O27 b27 k27 m27 24
  have O30 : ∀ n, FnOk l.prog w K mg base CX0 3 f30 _ A2 (spBent K n) := fun n => ok_odd F30 T4 O18 b18 k18 m18 y_list
  have O31 := all_bent F31 b31 m31 T4 O18 b18 k18 m18 O30 b30 k30 m30 19
  have O32 := ok_right F32 T4 (by decide) AL.1 b28 k28 m28 AL.2 b29 k29 m29 O8 b8 k8 m8 O9 b9 k9 m9 O6 b6 k6 m6 O7 b7 k7 m7
  exact ok_law F33 O17 b17 k17 m17 AT.2.1 b25 k25 m25 AT.2.2 b23 k23 m23 O31 b31 k31 m31 O32 b32 k32 m32 O8 b8 k8 m8 O9 b9 k9 m9 y_range y_list
theorem walk {l : PySem.W.OpenLaw} {q : Program} {loose : List Str} {XP : (Str → Option Value) → Heap → Prop} {YP : World → Heap → Prop} {d : DefRec} {K : Params → PySem.W.Frag} (hn : l.most = some 63) (hdf : d.params.defaults = [])
    (hY : ∀ (w : World) (h : Heap), YP w h → (K w.params).In h)
    (F : ∀ (w : World) (mg : Str → Option Value) (fa : Addr) (h : Heap), (K w.params).In h → h.Ns mainGlobals mg → mg d.name = some (.ref fa) →
      ∃ fd : FuncData, (∀ (s : Shared) (u : Value), BindsTo s fd ⟨[u], []⟩ [("_law_script", u)]) ∧ ∀ base : Heap, (K w.params).In base → base.Ns mainGlobals mg → FnOk l.prog w (K w.params) mg base CX0 29 fa fd ["_law_script"] (spLaw (K w.params))) :
    PySem.W.WalkO q loose XP YP l.row.toRowW d [] (fun f vs => PySem.call f vs) :=
  L2.walk_of (n := 63) (k := 29) (x := "_law_script") (CX := fun _ => CX0) (sp := fun w => spLaw (K w.params)) hn (by decide) hdf ⟨rfl, by decide, by decide⟩ hY F (fun _ _ a ns hl _ hS => ⟨a, ns, rfl, hS, hl, fun _ => rfl⟩) fun _ _ _ _ _ z => z
end K02
open PySem PySem.W PyProof.Rows
set_option maxRecDepth 100000 in
set_option maxHeartbeats 0 in
theorem PySem.Challenge.cw_takeleave_k02_what_is_a_row_holds : PySem.Challenge.rw_takeleave_k02_what_is_a_row.Holds := by
  w_on; o_law; k_head; (case hw => w_witness2)
  k_fill
  refine K02.walk (l := PySem.Challenge.rw_takeleave_k02_what_is_a_row) rfl rfl (fun w h Y => PySem.W.kIn_of Y) ?F
  case F =>
    intro w mg fa h KX G hmg
    refine' K02.all_mk (w := w) KX G hmg ?a1 ?l1 ?c1 ?k1 ?a2 ?l2 ?c2 ?k2 ?a3 ?l3 ?c3 ?k3 ?a4 ?l4 ?c4 ?k4 ?a5 ?l5 ?c5 ?k5 ?a6 ?l6 ?c6 ?k6 ?a7 ?l7 ?c7 ?k7 ?a8 ?l8 ?c8 ?k8 ?a9 ?l9 ?c9 ?k9 ?a10 ?l10 ?c10 ?k10 ?a11 ?l11 ?c11 ?k11 ?a12 ?l12 ?c12 ?k12 ?a13 ?l13 ?c13 ?k13 ?a14 ?l14 ?c14 ?k14 ?a15 ?l15 ?c15 ?k15 ?a16 ?l16 ?c16 ?k16 ?a17 ?l17 ?c17 ?k17 ?a18 ?l18 ?c18 ?k18 ?a19 ?l19 ?c19 ?k19 ?a20 ?l20 ?c20 ?k20 ?a21 ?l21 ?c21 ?k21 ?a22 ?l22 ?c22 ?k22 ?a23 ?l23 ?c23 ?k23 ?a24 ?l24 ?c24 ?k24 ?a25 ?l25 ?c25 ?k25 ?a26 ?l26 ?c26 ?k26 ?a27 ?l27 ?c27 ?k27 ?a28 ?l28 ?c28 ?k28 ?a29 ?l29 ?c29 ?k29 ?a30 ?l30 ?c30 ?k30 ?a31 ?l31 ?c31 ?k31 ?a32 ?l32 ?c32 ?k32 ?a33 ?l33 ?c33 ?k33 ?z_len ?z_list ?z_sum ?z_range ?z_isinstance ?z_str ?z_all ?z_tuple ?z_int ?z_bool ?z_reversed ?g_LETTERS ?g_MOST_LEFT ?g_SMALL_LETTERS ?g_LONGEST_NAME ?g_NUMBERS ?g_SORTS_TAKEN ?g_SORT_OF_PARTS ?xt ?xk ?xs ?xx ?xt2 ?xk2 ?xr ?xq
    (case a1 => k_is)
    (case l1 => k_is)
    (case c1 => k_is)
    (case k1 => k_is)
    (case a2 => k_is)
    (case l2 => k_is)
    (case c2 => k_is)
    (case k2 => k_is)
    (case a3 => k_is)
    (case l3 => k_is)
    (case c3 => k_is)
    (case k3 => k_is)
    (case a4 => k_is)
    (case l4 => k_is)
    (case c4 => k_is)
    (case k4 => k_is)
    (case a5 => k_is)
    (case l5 => k_is)
    (case c5 => k_is)
    (case k5 => k_is)
    (case a6 => k_is)
    (case l6 => k_is)
    (case c6 => k_is)
    (case k6 => k_is)
    (case a7 => k_is)
    (case l7 => k_is)
    (case c7 => k_is)
    (case k7 => k_is)
    (case a8 => k_is)
    (case l8 => k_is)
    (case c8 => k_is)
    (case k8 => k_is)
    (case a9 => k_is)
    (case l9 => k_is)
    (case c9 => k_is)
    (case k9 => k_is)
    (case a10 => k_is)
    (case l10 => k_is)
    (case c10 => k_is)
    (case k10 => k_is)
    (case a11 => k_is)
    (case l11 => k_is)
    (case c11 => k_is)
    (case k11 => k_is)
    (case a12 => k_is)
    (case l12 => k_is)
    (case c12 => k_is)
    (case k12 => k_is)
    (case a13 => k_is)
    (case l13 => k_is)
    (case c13 => k_is)
    (case k13 => k_is)
    (case a14 => k_is)
    (case l14 => k_is)
    (case c14 => k_is)
    (case k14 => k_is)
    (case a15 => k_is)
    (case l15 => k_is)
    (case c15 => k_is)
    (case k15 => k_is)
    (case a16 => k_is)
    (case l16 => k_is)
    (case c16 => k_is)
    (case k16 => k_is)
    (case a17 => k_is)
    (case l17 => k_is)
    (case c17 => k_is)
    (case k17 => k_is)
    (case a18 => k_is)
    (case l18 => k_is)
    (case c18 => k_is)
    (case k18 => k_is)
    (case a19 => k_is)
    (case l19 => k_is)
    (case c19 => k_is)
    (case k19 => k_is)
    (case a20 => k_is)
    (case l20 => k_is)
    (case c20 => k_is)
    (case k20 => k_is)
    (case a21 => k_is)
    (case l21 => k_is)
    (case c21 => k_is)
    (case k21 => k_is)
    (case a22 => k_is)
    (case l22 => k_is)
    (case c22 => k_is)
    (case k22 => k_is)
    (case a23 => k_is)
    (case l23 => k_is)
    (case c23 => k_is)
    (case k23 => k_is)
    (case a24 => k_is)
    (case l24 => k_is)
    (case c24 => k_is)
    (case k24 => k_is)
    (case a25 => k_is)
    (case l25 => k_is)
    (case c25 => k_is)
    (case k25 => k_is)
    (case a26 => k_is)
    (case l26 => k_is)
    (case c26 => k_is)
    (case k26 => k_is)
    (case a27 => k_is)
    (case l27 => k_is)
    (case c27 => k_is)
    (case k27 => k_is)
    (case a28 => k_is)
    (case l28 => k_is)
    (case c28 => k_is)
    (case k28 => k_is)
    (case a29 => k_is)
    (case l29 => k_is)
    (case c29 => k_is)
    (case k29 => k_is)
    (case a30 => k_is)
    (case l30 => k_is)
    (case c30 => k_is)
    (case k30 => k_is)
    (case a31 => k_is)
    (case l31 => k_is)
    (case c31 => k_is)
    (case k31 => k_is)
    (case a32 => k_is)
    (case l32 => k_is)
    (case c32 => k_is)
    (case k32 => k_is)
    (case a33 => k_is)
    (case l33 => k_is)
    (case c33 => k_is)
    (case k33 => k_is)
    (case z_len => k_is)
    (case z_list => k_is)
    (case z_sum => k_is)
    (case z_range => k_is)
    (case z_isinstance => k_is)
    (case z_str => k_is)
    (case z_all => k_is)
    (case z_tuple => k_is)
    (case z_int => k_is)
    (case z_bool => k_is)
    (case z_reversed => k_is)
    (case g_LETTERS => k_is)
    (case g_MOST_LEFT => k_is)
    (case g_SMALL_LETTERS => k_is)
    (case g_LONGEST_NAME => k_is)
    (case g_NUMBERS => k_is)
    (case g_SORTS_TAKEN => k_is)
    (case g_SORT_OF_PARTS => k_is)
    (case xt => k_is)
    (case xk => first | k_is | (refine ⟨⟨_, _, rfl, rfl⟩, ⟨_, _, rfl, rfl⟩, ⟨_, _, rfl, rfl⟩, ⟨_, _, rfl, rfl⟩, ⟨_, _, rfl, rfl⟩, ⟨_, _, rfl, rfl⟩, ⟨_, _, rfl, rfl⟩, ⟨_, _, rfl, rfl⟩, ⟨_, _, rfl, rfl⟩, ⟨_, _, rfl, rfl⟩, ⟨_, _, rfl, rfl⟩, ⟨_, _, rfl, rfl⟩, ⟨_, _, rfl, rfl⟩, ⟨_, _, rfl, rfl⟩, ⟨_, _, rfl, rfl⟩, trivial⟩))
    (case xs => first | k_is | rfl | decide)
    (case xx => kernel_rfl)
    (case xt2 => k_is)
    (case xk2 => first | k_is | (refine ⟨⟨_, _, rfl, rfl⟩, ⟨_, _, rfl, rfl⟩, trivial⟩))
    (case xr => k_is)
    (case xq => k_is)
