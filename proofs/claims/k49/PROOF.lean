import PyProof.Rows.All
import Wide.All
import OpenK.AllK
import Wide.FinOn
import HandS.ForMost
import HandS.Rev
import KE.KDictList
import HandS.Style
import HandS.More
import HandS.IsInst
import HandS.StrMore
import HandS.Wide
import HandS.Codes
import HandS.Walk
import HandS.NoneIn
import HandS.WordsExc
import PyProof.AutoSeq1
import HandS.TupAny
import HandS.Deep
import HandS.Strs
import HandS.Conv
import HandS.SetFor
import HandS.Small
import HandS.TupLe
import PySem.Challenge.RW_takeleave_k49_rows_that_are_entered
set_option Elab.async false
set_option linter.all false
set_option maxRecDepth 100000
set_option maxHeartbeats 4000000
namespace Cm
open PySem PySem.Spec PyProof.Rows L2 RT
section
variable {prog : Program} {w : World} {A : Around} {E : Value → Shared → Prop} {s : Shared}
/-- list.extend over a reversed list, into the empty list at T -/
theorem revExt {J l T : Addr} {vs : Array Value} {res : Value} {c : Nat} {R : Result → Shared → Prop} (hh : A.handled = none) (hJ : s.heap.IsRevIter J l ((vs.size : Int) - 1)) (hl : s.heap.IsList l vs) (nJ : l ≠ J) (hn : vs.size ≤ sizeLine)
    (nTJ : T ≠ J) (nTl : T ≠ l) (hT : s.heap.get? T = some { cls := .type "list", data := .seq #[] c })
    (hR : ∀ h' tk acc' c', (∀ b o, b ≠ T → b ≠ J → s.heap.get? b = some o → h'.get? b = some o) → h'.get? T = some { cls := .type "list", dict := none, data := .seq acc' c', slots := #[] } → ItemsOf (fun i v => vs[vs.size - 1 - i]? = some v) acc' vs.size → R (.ok (.ret res)) { s with heap := h', toks := tk }) :
    wpAny (model prog w) A.in1 (Builtin.List.listExtendWith (.ref T) (.ref J) res)
      (fun fin s' => match fin with | .done f => R (.ok f) s' | .again c' => c'.quiet = true ∧ codeAny (model prog w) A c' R s') (fun e s' => R (.error e) s') s := by
  have WS := (Walks.listRev (prog := prog) (w := w) (A := A.in1) hh J l nJ vs).toS
  have tyJ : s.TypeIs (.ref J) "list_reverseiterator" := Heap.IsRevIter.typeIs hJ
  have nf : T ∉ [J, l] := by simp only [List.mem_cons, List.not_mem_nil, or_false, not_or]; exact And.intro nTJ nTl
  have ns : Builtin.List.listSameRef (.ref T) (.ref J) = false := by simp [Builtin.List.listSameRef, nTJ]
  unfold Builtin.List.listExtendWith
  refine wpAny_bind (wpAny_typeOf tyJ ?_)
  rw [if_neg (by rw [ns]; decide)]
  refine wpAny_bind (wpAny_pyIter_revIter hJ (wpAny_bind (wpAny_holding ?_)))
  unfold Builtin.List.listLengthHint
  refine wpAny_bind (wpAny_specialOf tyJ nolen_lri ?_)
  show wpAny _ A.in1 (specialOf (Value.ref J) (Str.ofString "__length_hint__") >>= _) _ _ _
  refine wpAny_bind (wpAny_specialOf tyJ hint_lri ?_)
  generalize eid : ("list_reverseiterator.__length_hint__" : String) = idz
  wp_delta
  rw [show splitId idz = some ("list_reverseiterator", "__length_hint__") from by subst eid; decide +kernel]
  subst eid
  refine wpAny_bind (wpAny_isInstance (b := true) tyJ (by rw [isSubtype_type]; kernel_rfl) (wpAny_pure ?_))
  rw [if_neg (by decide)]
  have z0 : ((vs.size : Nat) : Int) - 1 - ((0 : Nat) : Int) = (vs.size : Int) - 1 := by omega
  refine wpAny_pure ⟨plainId_quiet F.plain_extend_loop _, codeAny_extend_loopS WS hn _ nf _ vs.size 0 _ _ _ rfl (Nat.zero_le _) ⟨Nat.zero_le _, by rw [z0]; exact hJ, hl⟩ hT (ItemsOf.nil _) fun s' acc' c' hm hS' hacc => ?_⟩
  rw [Moved.eq_with hm]
  refine hR s'.heap s'.toks acc' c' (fun b o n1 n2 e => hm.heap b o (fun q => ?_) e) hS' hacc
  rcases List.mem_cons.mp q with z | z
  · exact n1 z
  · exact n2 (List.mem_singleton.mp z)
theorem revInit {J l T : Addr} {vs : Array Value} {R : Result → Shared → Prop} (hh : A.handled = none) (hJ : s.heap.IsRevIter J l ((vs.size : Int) - 1)) (hl : s.heap.IsList l vs) (nJ : l ≠ J) (hn : vs.size ≤ sizeLine)
    (nTJ : T ≠ J) (nTl : T ≠ l) (hT : s.heap.get? T = some { cls := .type "list", data := .seq #[] })
    (hR : ∀ h' tk acc' c', (∀ b o, b ≠ T → b ≠ J → s.heap.get? b = some o → h'.get? b = some o) → h'.get? T = some { cls := .type "list", dict := none, data := .seq acc' c', slots := #[] } → ItemsOf (fun i v => vs[vs.size - 1 - i]? = some v) acc' vs.size → R (.ok (.ret .none)) { s with heap := h', toks := tk }) :
    wpAny (model prog w) A.in1 (Builtin.«list.__init__» ⟨[.ref T, .ref J], []⟩)
      (fun fin s' => match fin with | .done f => R (.ok f) s' | .again c' => c'.quiet = true ∧ codeAny (model prog w) A c' R s') (fun e s' => R (.error e) s') s := by
  show wpAny _ _ (do let old ← Builtin.List.listItems (.ref T); Builtin.List.listUpdate (.ref T) (fun _ => #[]); letGo old.toList.reverse; Builtin.List.listExtendWith (.ref T) (.ref J) .none) _ _ s
  refine wpAny_bind ?_; unfold Builtin.List.listItems
  refine wpAny_bind (wpAny_seqItems hT rfl (wpAny_pure ?_))
  show wpAny _ _ (updateSeq T (fun _ => #[]) >>= fun _ => letGo (#[] : Array Value).toList.reverse >>= fun _ => Builtin.List.listExtendWith (.ref T) (.ref J) .none) _ _ s
  refine wpAny_bind (wpAny_updateSeq hT rfl ?_)
  have hT2 := Heap.get?_update_self (Obj.mapSeq (fun _ => (#[] : Array Value))) hT rfl
  have other : ∀ b o, b ≠ T → s.heap.get? b = some o → (s.heap.update T (Obj.mapSeq (fun _ => (#[] : Array Value)))).get? b = some o :=
    fun b o hb e => (Heap.get?_update_other _ _ (Ne.symm hb)).trans e
  refine wpAny_bind (wpAny_letGo (revExt hh (hJ.at fun o e => other _ o nTJ.symm e) (hl.at fun o e => other _ o nTl.symm e) nJ hn nTJ nTl hT2 fun h' tk acc' c' hk hS' hacc => ?_))
  exact hR h' tk acc' c' (fun b o n1 n2 e => hk b o n1 n2 (other b o n1 e)) hS' hacc
theorem call_list_rev {J l : Addr} {vs : Array Value} {Q : Value → Shared → Prop} (hh : A.handled = none) (hJ : s.heap.IsRevIter J l ((vs.size : Int) - 1)) (hl : s.heap.IsList l vs) (nJ : l ≠ J) (hn : vs.size ≤ sizeLine)
    (hQ : ∀ h' tk acc' c', (∀ b o, b ≠ J → s.heap.get? b = some o → h'.get? b = some o) → h'.get? s.heap.objs.size = some { cls := .type "list", dict := none, data := .seq acc' c', slots := #[] } → ItemsOf (fun i v => vs[vs.size - 1 - i]? = some v) acc' vs.size → Q (.ref s.heap.objs.size) { s with heap := h', toks := tk }) :
    wpAny (model prog w) A (call (.type "list") [.ref J]) Q E s := by
  refine callType_codes (Q₁ := fun obj s₁ => obj = .ref s.heap.objs.size ∧ s₁ = { s with heap := s.heap.push { cls := .type "list", data := .seq #[] } }) PySem.F.called_list (PySem.F.typeCall_list_1 _) PySem.F.entry_list_init
    (code_list_new _ ⟨rfl, rfl⟩) fun obj s₁ z => ?_
  obtain ⟨rfl, rfl⟩ := z
  have hT : (s.heap.push { cls := .type "list", data := .seq #[] }).get? s.heap.objs.size = some { cls := .type "list", data := .seq #[] } := Heap.get?_push_size _ rfl
  obtain ⟨oi, hoi, _⟩ := id hJ
  obtain ⟨ol, hol, _⟩ := id hl
  refine ⟨⟨_, hT, rfl⟩, PySem.F.args_list_init_2 _ _, revInit (A := A.in1) hh (hJ.at fun o e => Heap.get?_push_of_some _ e) (hl.push _) nJ hn (Nat.ne_of_gt (Heap.lt_size hoi)) (Nat.ne_of_gt (Heap.lt_size hol)) hT (fun h' tk acc' c' hk hS' hacc => ?_)⟩
  exact ⟨rfl, hQ h' tk acc' c' (fun b o n e => hk b o (Nat.ne_of_lt (Heap.lt_size e)) n (Heap.get?_push_of_some _ e)) hS' hacc⟩
end
/-- list(reversed(x)), x a list: a new list -/
def tLstRev (K : PySem.W.Frag) (te : TE) : TE := fun σ H Q => te σ H fun v H1 => ∃ (a : Addr) (xs : List V), v = .ref a ∧ SqL K H1 a xs ∧ ∀ q, H1 q = none → Q (.ref q) (upd H1 q (.lst xs.reverse))
section
variable {X : Cx}
theorem pe_lstRev {e : Expr} {te : TE} {p p2 pos pos2 : Pos} (hc : X.calm = true) (hg : Gl X "list") (hm : X.mg "list" = none) (hg2 : Gl X "reversed") (hm2 : X.mg "reversed" = none) (he : PE X e te)
    (hs : starEach [e] X.env = (false, eval e X.env) :: starEach [] X.env := by rfl)
    (hs2 : starEach [.Call (.Name "reversed" p2) [e] [] pos2] X.env = (false, eval (.Call (.Name "reversed" p2) [e] [] pos2) X.env) :: starEach [] X.env := by rfl) :
    PE X (.Call (.Name "list" p) [.Call (.Name "reversed" p2) [e] [] pos2] [] pos) (tLstRev X.K te) := by
  refine ⟨fun pins s σ H Q I h => ?_⟩
  refine Call_ (ld_blt I hg hm (show bootBuiltins "list" = some (.type "list") by decide +kernel) (PyProof.Rows.callWith_type1 (args_cons (Call_ (ld_blt I hg2 hm2 PyProof.Rows.boot_reversed (PyProof.Rows.callWith_type1 (args_cons (thn (he.run pins s σ H _ I h) fun u s1 ⟨v, H1, I1, r1, q1⟩ => args_nil ?_) hs) hs rfl))) hs2) hs2 rfl))
  obtain ⟨a, xs, ev, hq, q⟩ := q1
  subst ev; obtain rfl : u = Value.ref a := r1
  obtain ⟨its, rv, p', hz⟩ := I1.list hq
  refine call_reversed_list p'.isList (args_nil ?_)
  have k0 : ∀ b o, s1.heap.get? b = some o → (s1.heap.push (revObj a ((its.toArray.size : Int) - 1))).get? b = some o := fun b o e' => Heap.get?_push_of_some _ e'
  have I2 : Inv X pins σ H1 { s1 with heap := s1.heap.push (revObj a ((its.toArray.size : Int) - 1)) } := I1.kept (t' := s1.toks) k0
  obtain ⟨f0, f1, f2, f3, f4, f5⟩ := I1.fpOk (H' := H1) (b := s1.heap.objs.size) (Nat.le_refl _) (I1.hok.fresh (Nat.le_refl _))
  have isl := p'.isList
  obtain ⟨ol, hol, _⟩ := id isl
  have hne : a ≠ s1.heap.objs.size := Nat.ne_of_lt (Heap.lt_size hol)
  have hn : its.toArray.size ≤ sizeLine := by rw [List.size_toArray, ← rv.length]; exact hz
  refine call_list_rev (s := { s1 with heap := s1.heap.push (revObj a ((its.toArray.size : Int) - 1)) }) (I1.ok.hd hc) ⟨_, Heap.get?_push_size _ rfl, rfl, rfl⟩ (isl.push _) hne hn fun h' tk acc c' hk hT hi => ?_
  have hk' : ∀ b o, s1.heap.get? b = some o → h'.get? b = some o := fun b o e' => hk b o (Nat.ne_of_lt (Heap.lt_size e')) (k0 b o e')
  have sz : s1.heap.objs.size ≤ (s1.heap.push (revObj a ((its.toArray.size : Int) - 1))).objs.size := by
    rw [Heap.size_push]; exact Nat.le_succ _
  refine ⟨.ref _, upd H1 _ (.lst xs.reverse), I1.laid (t' := tk) hk' sz (show ObjOk X.prog X.w _ _ _ (.lst xs.reverse) from ⟨by rw [List.length_reverse]; exact hz, acc.toList, c', vals_rev rv hi, ?_⟩), rfl, q _ (I1.hok.fresh sz)⟩
  rw [Array.toArray_toList]
  exact hT
end
end Cm
namespace Cm
open PySem PySem.W L2 SX
theorem same_new {H : Hp} {p : Addr} (h : H p = none) (o : HO) : Same H (upd H p o) := fun b u q => by rw [upd_ne (ne_of_none q h)]; exact q
theorem own_new {H H' : Hp} {p : Addr} {o : HO} (s : Same H H') (h : H p = none) : Same H (upd H' p o) := fun b u q => by rw [upd_ne (ne_of_none q h)]; exact s _ _ q
theorem cut_map {α : Type} (f : α → V) (xs : List α) (lo hi : Option Int) : ∃ ys : List α, cutV (xs.map f) lo hi = ys.map f ∧ ys.length ≤ xs.length := by
  unfold cutV
  refine ⟨(xs.drop (HT.sIx (xs.map f).length 0 lo)).take (HT.sIx (xs.map f).length (xs.map f).length hi - HT.sIx (xs.map f).length 0 lo), ?_, ?_⟩
  · rw [List.map_take, List.map_drop]
  · rw [List.length_take, List.length_drop]; omega
theorem dp_ints {K : PySem.W.Frag} {H : Hp} : ∀ ns : List Int, DpAll K H (ns.map V.int) (ns.map PyData.int)
  | [] => .nil
  | n :: r => .cons (.int n) (dp_ints r)
theorem lay_ints : ∀ ns : List Int, PyData.canLayAll0 (ns.map PyData.int) = true
  | [] => rfl
  | n :: r => by
    show (PyData.canLay0 (PyData.int n) && PyData.canLayAll0 (r.map PyData.int)) = true
    rw [lay_ints r]; rfl
theorem deep_ints : ∀ ns : List Int, PyData.depthAll (ns.map PyData.int) = 0
  | [] => rfl
  | n :: r => by
    show max (PyData.depth (PyData.int n)) (PyData.depthAll (r.map PyData.int)) = 0
    rw [deep_ints r]; rfl
theorem shaped_ints (ns : List Int) : SeqAt.shaped (.list (ns.map PyData.int)) = true := by
  show (PyData.canLayAll0 (ns.map PyData.int) && decide (PyData.depthAll (ns.map PyData.int) + 1 ≤ 64)) = true
  rw [lay_ints, deep_ints]; rfl
theorem kn {H : Hp} {a t : Addr} {o o' : HO} (h : H a = some o) (n : H t = none) : upd H t o' a = some o := by rw [upd_ne (ne_of_none h n)]; exact h
/-- all but what stands at the places L is kept -/
def Kp (L : List Addr) (H H' : Hp) : Prop := ∀ b o, b ∉ L → H b = some o → H' b = some o
theorem Kp.refl (L : List Addr) (H : Hp) : Kp L H H := fun _ _ _ h => h
theorem Kp.trans {L : List Addr} {H H1 H2 : Hp} (a : Kp L H H1) (b : Kp L H1 H2) : Kp L H H2 := fun c o n h => b c o n (a c o n h)
theorem Kp.of {L : List Addr} {H H' : Hp} (s : Same H H') : Kp L H H' := fun b o _ h => s b o h
theorem Kp.new {L : List Addr} {p : Addr} {H H' : Hp} {o : HO} (a : Kp L H H') (h : H' p = none) : Kp L H (upd H' p o) := a.trans (.of (same_new h o))
theorem Kp.own {L : List Addr} {d : Addr} {H H' : Hp} {o : HO} (a : Kp L H H') (m : d ∈ L) : Kp L H (upd H' d o) := fun b u n h => by rw [upd_ne (show b ≠ d from fun z => n (by rw [z]; exact m))]; exact a b u n h
theorem Kp.mono {L M : List Addr} {H H' : Hp} (a : Kp L H H') (h : ∀ b ∈ L, b ∈ M) : Kp M H H' := fun b o n e => a b o (fun z => n (h b z)) e
theorem Kp.free {L : List Addr} {p : Addr} {H H' : Hp} (k : Kp L H H') (n : H' p = none) (m : p ∉ L) : H p = none := by
  cases e : H p with
  | none => rfl
  | some o => rw [k p o m e] at n; cases n
theorem Kp.put {L : List Addr} {p : Addr} {H H' : Hp} {o : HO} (k : Kp L H H') (n : H p = none) : Kp L H (upd H' p o) := fun b u m e => by rw [upd_ne (ne_of_none e n)]; exact k b u m e
theorem Kp.same {L : List Addr} {H0 H H' : Hp} (a : Kp L H H') (s : Same H0 H) (h : ∀ b ∈ L, H0 b = none) : Same H0 H' := fun b o e => a b o (fun z => by rw [h b z] at e; cases e) (s b o e)
theorem cutS_to {a : List Nat} {i : Int} (h : 0 ≤ i) : cutS (S a) none (some i) = S (a.take i.toNat) := by
  obtain ⟨n, rfl⟩ := Int.eq_ofNat_of_zero_le h
  unfold cutS
  rw [HT.sIx_none, HT.sIx_nat, S_len]
  show S (List.take (min n a.length - 0) (List.drop 0 a)) = S (a.take n)
  rw [List.drop_zero, Nat.sub_zero]
  by_cases h : n ≤ a.length
  · rw [Nat.min_eq_left h]
  · rw [Nat.min_eq_right (by omega), List.take_of_length_le (Nat.le_refl a.length), List.take_of_length_le (show a.length ≤ n by omega)]
/-- a comprehension over a text's signs, whose element is a plain value -/
theorem lc_txt {z : List Nat} (f : Nat → V) {g : TG} {te : TE} {vs : List Nat} {σ : St} {H1 : Hp} {D : Addr} {Qd : Hp → Prop} (hl : z.length ≤ 1000)
    (hs : ∀ c H (R : V → Hp → Prop), c ∈ z → R (f c) H → g (.str ⟨#[c]⟩) (wipe σ vs) H fun σ2 H2 => wipe σ2 vs = wipe σ vs ∧ te σ2 H2 R) (hd : Qd (upd H1 D (.lst (z.map f)))) :
    ∃ W : Nat → Nat → Hp → Prop, (∃ m, W 0 m (upd H1 D (.lst []))) ∧ ∀ i m H, W i m H →
      ((Its (S z)).stop i H ∧ Qd H) ∨ ((Its (S z)).go i H ∧ ∃ Nx : Hp → Prop, (∀ H', Nx H' → ∃ m', m' < m ∧ W (i + 1) m' H') ∧ ∀ x H', (Its (S z)).yld i H x H' → g x (wipe σ vs) H' fun σ2 H2 => wipe σ2 vs = wipe σ vs ∧ tYes σ2 H2 fun b H3 =>
        if b = true then te σ2 H3 fun y H4 => ∃ acc, H4 D = some (.lst acc) ∧ acc.length < sizeLine ∧ Nx (upd H4 D (.lst (acc ++ [y]))) else Nx H3) := by
  refine lc_it (walk_str (z := S z)) (fun i H => H = upd H1 D (.lst ((z.take i).map f))) rfl (fun _ _ _ _ => trivial) ?_ ?_
  · rintro i x H H' hi rfl ⟨rfl, c, hc, rfl⟩
    have hc' : z[i]? = some c := by
      rw [← hc]; show z[i]? = (z.toArray)[i]?; rw [List.getElem?_toArray]
    refine hs c _ (fun y H4 => ∃ acc, H4 D = some (.lst acc) ∧ acc.length < sizeLine ∧ upd H4 D (.lst (acc ++ [y])) = upd H1 D (.lst ((z.take (i + 1)).map f))) (List.mem_of_getElem? hc') ⟨_, upd_same, ?_, ?_⟩
    · rw [List.length_map, List.length_take]; exact small1000 (by omega)
    · rw [upd_upd, List.take_add_one, hc', List.map_append]; rfl
  · rintro H rfl
    have e : (S z).cps.size = z.length := by show z.toArray.size = _; rw [List.size_toArray]
    rw [e, List.take_length]
    exact hd
theorem starts_S (x y : List Nat) : Txt.startswith (S x) (S y) = decide (x.take y.length = y) := by
  unfold Txt.startswith PySem.Builtin.Str.subAt
  rw [S_len, S_len]
  show (decide (0 + y.length ≤ x.length) && ((x.toArray.extract 0 (0 + (S y).length)) == y.toArray)) = _
  rw [S_len, Nat.zero_add, List.extract_toArray]
  have e : (List.extract x 0 y.length) = x.take y.length := by unfold List.extract; rw [List.drop_zero, Nat.sub_zero]
  rw [e]
  by_cases h : x.take y.length = y
  · have hl : y.length ≤ x.length := by
      have := congrArg List.length h
      rw [List.length_take] at this; omega
    rw [decide_eq_true h, decide_eq_true hl, h, beq_self_eq_true]; rfl
  · rw [decide_eq_false h]
    have : ((x.take y.length).toArray == y.toArray) = false := by
      rw [beq_eq_false_iff_ne]; intro z; exact h (by have := congrArg Array.toList z; exact this)
    rw [this, Bool.and_false]
theorem par_len : ∀ (x acc t l : List Nat), TL.par [45] acc x = some (t, l) → l.length ≤ x.length
  | [], _, _, _, h => by cases h
  | c :: r, acc, t, l, h => by
    have h' : (if TL.pre [45] (c :: r) = true then some (acc, (c :: r).drop 1) else TL.par [45] (acc ++ [c]) r) = some (t, l) := h
    by_cases hp : TL.pre [45] (c :: r) = true
    · rw [if_pos hp] at h'
      cases h'
      show r.length ≤ r.length + 1
      omega
    · rw [if_neg hp] at h'
      have := par_len r _ _ _ h'
      show l.length ≤ r.length + 1
      omega
/-- the letters a to h -/
def abc8 : List Nat := [97, 98, 99, 100, 101, 102, 103, 104]
/-- whether signs are a shuffle's -/
def shufB (x : List Nat) : Bool := match TL.par [45] [] x with
  | none => false
  | some (t, l) => decide (abc8.take t.length = t) && (decide (l.length ≤ 12) && (l.map fun c => decide (c ∈ t)).all id)
def kStr : Value → Option Str
  | .str x _ => some x
  | _ => none
def absAll : List Value → Option (List V)
  | [] => some []
  | u :: r => match absV u, absAll r with
    | some x, some t => some (x :: t)
    | _, _ => none
def kTup (K : Frag) (t : Addr) : Option (List V) := match K.lookup t with
  | some ⟨.type c, _, .seq its _, _⟩ => if c = "tuple" ∧ its.size ≤ 1000 then absAll its.toList else none
  | _ => none
def kEnt (K : Frag) (e : DictEntry) : Option (Str × List V) := match e.val, kStr e.key with
  | .ref t, some k => (kTup K t).map fun xs => (k, xs)
  | _, _ => none
/-- the entries es: keys, each with what its tuple holds -/
def kTab (K : Frag) : List DictEntry → Option (List (Str × List V))
  | [] => some []
  | e :: r => match kEnt K e, kTab K r with
    | some x, some t => some (x :: t)
    | _, _ => none
theorem abs_rel {u : Value} {x : V} (h : absV u = some x) : RelV x u := by
  cases u <;> simp only [absV] at h <;> first | (cases h; done) | (cases h; first | exact rfl | exact ⟨_, rfl⟩) | cases h
theorem abs_all : ∀ {us : List Value} {xs : List V}, absAll us = some xs → Vals xs us
  | [], xs, h => by cases h; exact .nil
  | u :: r, xs, h => by
    unfold absAll at h
    cases e1 : absV u with
    | none => rw [e1] at h; cases h
    | some x =>
      cases e2 : absAll r with
      | none => rw [e1, e2] at h; cases h
      | some t =>
        rw [e1, e2] at h
        cases h
        exact .cons (abs_rel e1) (abs_all e2)
theorem kTup_ok {K : Frag} {t : Addr} {xs : List V} (h : kTup K t = some xs) (H : Hp) : SqT K H t xs := by
  unfold kTup at h
  cases e : K.lookup t with
  | none => rw [e] at h; cases h
  | some o =>
    rw [e] at h
    obtain ⟨oc, od, dt, sl⟩ := o
    cases oc with
    | type c =>
      cases dt with
      | seq its n =>
        have h' : (if c = "tuple" ∧ its.size ≤ 1000 then absAll its.toList else none) = some xs := h
        by_cases hc : c = "tuple" ∧ its.size ≤ 1000
        · rw [if_pos hc] at h'
          obtain ⟨rfl, hz⟩ := hc
          exact .inr ⟨_, its, n, e, rfl, rfl, Nat.le_of_lt (small1000 hz), abs_all h'⟩
        · rw [if_neg hc] at h'; cases h'
      | _ => cases h
    | _ => cases h
/-- what the table tells of a text -/
theorem tab_look {K : Frag} (z : Str) : ∀ {es : List DictEntry} {T : List (Str × List V)}, kTab K es = some T →
    (∀ xs, T.lookup z = some xs → ∃ e t, es.find? (·.key.isStr z) = some e ∧ e.val = .ref t ∧ kTup K t = some xs) ∧ (T.lookup z = none → es.find? (·.key.isStr z) = none) ∧ es.any (·.refKey) = false
  | [], T, h => by cases h; exact ⟨(fun xs q => by cases q), (fun _ => rfl), rfl⟩
  | e :: r, T, h => by
    unfold kTab at h
    cases e1 : kEnt K e with
    | none => rw [e1] at h; cases h
    | some x =>
      cases e2 : kTab K r with
      | none => rw [e1, e2] at h; cases h
      | some t =>
        rw [e1, e2] at h
        cases h
        obtain ⟨ih1, ih2, ih3⟩ := tab_look z e2
        obtain ⟨k, ys⟩ := x
        obtain ⟨a, hv, hk, ht⟩ : ∃ a, e.val = .ref a ∧ kStr e.key = some k ∧ kTup K a = some ys := by
          unfold kEnt at e1
          cases hv : e.val with
          | ref a =>
            cases hk : kStr e.key with
            | none => rw [hv, hk] at e1; cases e1
            | some k' =>
              rw [hv, hk] at e1
              have e1' : (kTup K a).map (fun xs => (k', xs)) = some (k, ys) := e1
              cases ht : kTup K a with
              | none => rw [ht] at e1'; cases e1'
              | some zs => rw [ht] at e1'; cases e1'; exact ⟨a, rfl, rfl, ht⟩
          | _ => rw [hv] at e1; cases e1
        obtain ⟨tk, hkey⟩ : ∃ tk, e.key = .str k tk := by
          unfold kStr at hk
          cases q : e.key with
          | str x' t' => rw [q] at hk; cases hk; exact ⟨_, rfl⟩
          | _ => rw [q] at hk; cases hk
        have hst : e.key.isStr z = (k == z) := by rw [hkey]; rfl
        have hrf : e.refKey = false := by unfold DictEntry.refKey; rw [hkey]
        refine ⟨fun xs q => ?_, fun q => ?_, ?_⟩
        · rw [List.lookup_cons] at q
          by_cases hz : z = k
          · subst hz
            rw [beq_self_eq_true] at q
            cases q
            exact ⟨e, a, by rw [List.find?_cons_of_pos (by rw [hst]; exact beq_self_eq_true z)], hv, ht⟩
          · rw [show (z == k) = false from beq_eq_false_iff_ne.mpr hz] at q
            obtain ⟨e', t', h1, h2, h3⟩ := ih1 xs q
            exact ⟨e', t', by rw [List.find?_cons_of_neg (by rw [hst]; intro y; exact hz (beq_iff_eq.mp y).symm)]; exact h1, h2, h3⟩
        · rw [List.lookup_cons] at q
          by_cases hz : z = k
          · subst hz
            rw [beq_self_eq_true] at q
            cases q
          · rw [show (z == k) = false from beq_eq_false_iff_ne.mpr hz] at q
            rw [List.find?_cons_of_neg (by rw [hst]; intro y; exact hz (beq_iff_eq.mp y).symm)]
            exact ih2 q
        · rw [List.any_cons, hrf, ih3]; rfl
def nn : List V := [V.str "number", V.str "number"]
def table : List (Str × List V) := [((("plus" : Str)), nn), ("minus", nn), ("times", nn), ("less", nn), ("same", nn), ("do", [V.str "row"]), ("dip", [V.str "any", V.str "row"]), ("if", [V.str "number", V.str "row", V.str "row"]), ("while", [V.str "row", V.str "row"]), ("repeat", [V.str "number", V.str "row"]), ("join", [V.str "row", V.str "row"]), ("wrap", [V.str "any"]), ("put", [V.str "list", V.str "any"]), ("part", [V.str "list", V.str "row", V.str "row"]), ("each", [V.str "list", V.str "row"])]
/-- the basic words' table stands at d -/
structure Tab (K : Frag) (w : World) (mg : Str → Option Value) (d : Addr) (es : Array DictEntry) (n : Nat) : Prop where
  kd : KDict K w d es n
  tab : kTab K es.toList = some table
  mg_ : mg "SORTS_TAKEN" = some (.ref d)
theorem Tab.ns {w : World} {K : PySem.W.Frag} {mg : Str → Option Value} {d : Addr} {es : Array DictEntry} {n : Nat} (T : Tab K w mg d es n) (z : Str) : (table.lookup z = none → nsIn K d z = some none) ∧ ∀ xs, table.lookup z = some xs → ∃ t, nsIn K d z = some (some (.ref t)) ∧ kTup K t = some xs := by
  obtain ⟨h1, h2, h3⟩ := tab_look z T.tab
  constructor
  · intro q
    unfold nsIn
    rw [T.kd.at_]
    show (match es.toList.find? (·.key.isStr z) with | some e => some (some e.val) | none => if es.toList.any (·.refKey) then none else some none) = some none
    rw [h2 q]
    show (if es.toList.any (·.refKey) = true then none else some none) = some none
    rw [h3]; rfl
  · intro xs q
    obtain ⟨e, t, e1, e2, e3⟩ := h1 xs q
    refine ⟨t, ?_, e3⟩
    unfold nsIn
    rw [T.kd.at_]
    show (match es.toList.find? (·.key.isStr z) with | some e => some (some e.val) | none => if es.toList.any (·.refKey) then none else some none) = some (some (.ref t))
    rw [e1]
    show some (some e.val) = _
    rw [e2]
theorem lookup_mem {z : Str} {xs : List V} : ∀ {T : List (Str × List V)}, T.lookup z = some xs → (z, xs) ∈ T
  | (k, ys) :: r, h => by
    rw [List.lookup_cons] at h
    by_cases hz : z = k
    · subst hz; rw [beq_self_eq_true] at h; cases h; exact List.mem_cons_self ..
    · rw [show (z == k) = false from beq_eq_false_iff_ne.mpr hz] at h
      exact List.mem_cons_of_mem _ (lookup_mem h)
end Cm
namespace Cm
open PySem PySem.W L2 SX
/-- a comprehension over a text's signs with a test -/
theorem lc_txtIf {z : List Nat} (p : Nat → Bool) (f : Nat → V) {g : TG} {tt : TT} {te : TE} {vs : List Nat} {σ : St} {H1 : Hp} {D : Addr} {Qd : Hp → Prop} (hl : z.length ≤ 1000)
    (hs : ∀ c H (R : V → Hp → Prop) (R0 : Hp → Prop), c ∈ z → (p c = true → R (f c) H) → (p c = false → R0 H) → g (.str ⟨#[c]⟩) (wipe σ vs) H fun σ2 H2 => wipe σ2 vs = wipe σ vs ∧ tt σ2 H2 fun b H3 => if b = true then te σ2 H3 R else R0 H3) (hd : Qd (upd H1 D (.lst ((z.filter p).map f)))) :
    ∃ W : Nat → Nat → Hp → Prop, (∃ m, W 0 m (upd H1 D (.lst []))) ∧ ∀ i m H, W i m H →
      ((Its (S z)).stop i H ∧ Qd H) ∨ ((Its (S z)).go i H ∧ ∃ Nx : Hp → Prop, (∀ H', Nx H' → ∃ m', m' < m ∧ W (i + 1) m' H') ∧ ∀ x H', (Its (S z)).yld i H x H' → g x (wipe σ vs) H' fun σ2 H2 => wipe σ2 vs = wipe σ vs ∧ tt σ2 H2 fun b H3 =>
        if b = true then te σ2 H3 fun y H4 => ∃ acc, H4 D = some (.lst acc) ∧ acc.length < sizeLine ∧ Nx (upd H4 D (.lst (acc ++ [y]))) else Nx H3) := by
  refine lc_it (walk_str (z := S z)) (fun i H => H = upd H1 D (.lst (((z.take i).filter p).map f))) rfl (fun _ _ _ _ => trivial) ?_ ?_
  · rintro i x H H' hi rfl ⟨rfl, c, hc, rfl⟩
    have hc' : z[i]? = some c := by
      rw [← hc]; show z[i]? = (z.toArray)[i]?; rw [List.getElem?_toArray]
    refine hs c _ (fun y H4 => ∃ acc, H4 D = some (.lst acc) ∧ acc.length < sizeLine ∧ upd H4 D (.lst (acc ++ [y])) = upd H1 D (.lst (((z.take (i + 1)).filter p).map f))) (fun H4 => H4 = upd H1 D (.lst (((z.take (i + 1)).filter p).map f))) (List.mem_of_getElem? hc') (fun hp => ⟨_, upd_same, ?_, ?_⟩) (fun hp => ?_)
    · have h1 := List.length_filter_le p (z.take i)
      rw [List.length_take] at h1
      rw [List.length_map]; exact small1000 (by omega)
    · rw [upd_upd, List.take_add_one, hc', List.filter_append, List.map_append]
      show _ = upd H1 D (HO.lst (List.map f (List.filter p (List.take i z)) ++ List.map f (List.filter p [c])))
      rw [List.filter_cons_of_pos hp]; rfl
    · show _ = _
      rw [List.take_add_one, hc', List.filter_append]
      show _ = upd H1 D (HO.lst (List.map f (List.filter p (List.take i z) ++ List.filter p [c])))
      rw [List.filter_cons_of_neg (by rw [hp]; decide), List.filter_nil, List.append_nil]
  · rintro H rfl
    have e : (S z).cps.size = z.length := by show z.toArray.size = _; rw [List.size_toArray]
    rw [e, List.take_length]
    exact hd
/-- a text, or something else that the law hands in -/
def Vl (H : Hp) (v : V) : Option (List Nat) → Prop
  | some x => v = .str (S x) ∧ x.length ≤ 1000
  | none => (v = .non ∨ (∃ b, v = .bl b) ∨ (∃ i, v = .int i) ∨ (∃ a xs, v = .ref a ∧ H a = some (.lst xs)) ∨ (∃ a kvs, v = .ref a ∧ H a = some (.dK kvs))) ∨ (∃ a xs, v = .ref a ∧ H a = some (.tup xs) ∧ (xs = [] ∨ ∃ z, xs = [.str z]))
theorem Vl.same {H H' : Hp} {v : V} {o : Option (List Nat)} (h : Vl H v o) (s : Same H H') : Vl H' v o := by
  cases o with
  | some x => exact h
  | none =>
    rcases h with (h | h | h | ⟨a, xs, e, h⟩ | ⟨a, xs, e, h⟩) | ⟨a, xs, e, h, g⟩
    · exact .inl (.inl h)
    · exact .inl (.inr (.inl h))
    · exact .inl (.inr (.inr (.inl h)))
    · exact .inl (.inr (.inr (.inr (.inl ⟨a, xs, e, s _ _ h⟩))))
    · exact .inl (.inr (.inr (.inr (.inr ⟨a, xs, e, s _ _ h⟩))))
    · exact .inr ⟨a, xs, e, s _ _ h, g⟩
theorem Vl.isStr {K : Frag} {H : Hp} {v : V} {o : Option (List Nat)} (h : Vl H v o) : ∃ t, TyX K H v t ∧ kitOne K t (.type "str") = some o.isSome := by
  cases o with
  | some x => exact ⟨_, by rw [h.1]; exact .base (.str _), kit_ty (r := true) (by decide +kernel)⟩
  | none =>
    rcases h with (h | ⟨b, h⟩ | ⟨i, h⟩ | ⟨a, xs, e, h⟩ | ⟨a, xs, e, h⟩) | ⟨a, xs, e, h, g⟩
    · exact ⟨_, by rw [h]; exact .base .non, kit_ty (r := false) (by decide +kernel)⟩
    · exact ⟨_, by rw [h]; exact .base (.bl _), kit_ty (r := false) (by decide +kernel)⟩
    · exact ⟨_, by rw [h]; exact .base (.int _), kit_ty (r := false) (by decide +kernel)⟩
    · exact ⟨_, by rw [e]; exact .base (.lst h), kit_ty (r := false) (by decide +kernel)⟩
    · exact ⟨_, by rw [e]; exact .base (.dK h), kit_ty (r := false) (by decide +kernel)⟩
    · exact ⟨_, by rw [e]; exact .base (.tup h), kit_ty (r := false) (by decide +kernel)⟩
/-- no tuple, or one without, or with one part -/
theorem Vl.isTup {K : Frag} {H : Hp} {v : V} (h : Vl H v none) : (∃ t, TyX K H v t ∧ kitOne K t (.type "tuple") = some false) ∨ (∃ a xs t, v = .ref a ∧ H a = some (.tup xs) ∧ (xs = [] ∨ ∃ z, xs = [.str z]) ∧ TyX K H v t ∧ kitOne K t (.type "tuple") = some true) := by
  rcases h with (h | ⟨b, h⟩ | ⟨i, h⟩ | ⟨a, xs, e, h⟩ | ⟨a, xs, e, h⟩) | ⟨a, xs, e, h, g⟩
  · exact .inl ⟨_, by rw [h]; exact .base .non, kit_ty (r := false) (by decide +kernel)⟩
  · exact .inl ⟨_, by rw [h]; exact .base (.bl _), kit_ty (r := false) (by decide +kernel)⟩
  · exact .inl ⟨_, by rw [h]; exact .base (.int _), kit_ty (r := false) (by decide +kernel)⟩
  · exact .inl ⟨_, by rw [e]; exact .base (.lst h), kit_ty (r := false) (by decide +kernel)⟩
  · exact .inl ⟨_, by rw [e]; exact .base (.dK h), kit_ty (r := false) (by decide +kernel)⟩
  · exact .inr ⟨a, xs, _, e, h, g, by rw [e]; exact .base (.tup h), kit_ty (r := true) (by decide +kernel)⟩
/-- the small letters -/
def az : List Nat := [97, 98, 99, 100, 101, 102, 103, 104, 105, 106, 107, 108, 109, 110, 111, 112, 113, 114, 115, 116, 117, 118, 119, 120, 121, 122]
/-- whether signs are a told word's name -/
def nameB (x : List Nat) : Bool := (decide (1 ≤ x.length) && decide (x.length ≤ 8)) && ((x.map fun c => decide (c ∈ az)).all id && !(table.lookup (S x)).isSome)
/-- whether signs are a word -/
def wordB (x : List Nat) : Bool := (table.lookup (S x)).isSome || (shufB x || nameB x)
def onT (f : List Nat → Bool) : Option (List Nat) → Bool
  | some x => f x
  | none => false
theorem par_spec : ∀ (x acc t l : List Nat), TL.par [45] acc x = some (t, l) → ∃ p, t = acc ++ p ∧ x = p ++ 45 :: l ∧ 45 ∉ p
  | [], _, _, _, h => by cases h
  | c :: r, acc, t, l, h => by
    have h' : (if TL.pre [45] (c :: r) = true then some (acc, (c :: r).drop 1) else TL.par [45] (acc ++ [c]) r) = some (t, l) := h
    by_cases hp : TL.pre [45] (c :: r) = true
    · rw [if_pos hp] at h'
      cases h'
      have hc : c = 45 := by
        have := eq_of_beq hp
        exact List.head_eq_of_cons_eq this
      exact ⟨[], by simp, by rw [hc]; rfl, by simp⟩
    · rw [if_neg hp] at h'
      obtain ⟨p, e1, e2, e3⟩ := par_spec r _ _ _ h'
      refine ⟨c :: p, by rw [e1]; simp, by rw [e2]; rfl, ?_⟩
      intro z
      rcases List.mem_cons.mp z with z | z
      · exact hp (by rw [← z]; rfl)
      · exact e3 z
theorem par_no : ∀ (x acc : List Nat), TL.par [45] acc x = none → 45 ∉ x
  | [], _, _ => by simp
  | c :: r, acc, h => by
    have h' : (if TL.pre [45] (c :: r) = true then some (acc, (c :: r).drop 1) else TL.par [45] (acc ++ [c]) r) = none := h
    by_cases hp : TL.pre [45] (c :: r) = true
    · rw [if_pos hp] at h'; cases h'
    · rw [if_neg hp] at h'
      intro z
      rcases List.mem_cons.mp z with z | z
      · exact hp (by rw [← z]; rfl)
      · exact par_no r _ h' z
theorem cnt_len (x : List Nat) : PyProof.Rows.cnt 45 x = (x.count 45 : Nat) := by
  induction x with
  | nil => rfl
  | cons n r ih =>
    rw [PyProof.Rows.cnt_cons, ih, List.count_cons]
    by_cases h : n = 45
    · rw [if_pos h, h]; simp; omega
    · rw [if_neg h]; simp [h]
/-- the first stroke -/
theorem index_dash {x p q : List Nat} (hx : x = p ++ 45 :: q) (hp : 45 ∉ p) (hq : 45 ∉ q) : Txt.index0 (S x) (S [45]) = some p.length := by
  obtain ⟨f, hc⟩ := PySem.StrLaws.occ_chain (S x) (S [45]) 1
  have hm : (!(Builtin.Str.occurrences (S x) (S [45]) 0 (S x).length 1).isEmpty) = decide (45 ∈ x) := in_one x 45
  have hx' : (45 : Nat) ∈ x := by rw [hx]; exact List.mem_append.mpr (.inr (List.mem_cons_self ..))
  rw [decide_eq_true hx'] at hm
  unfold Txt.index0
  cases ho : Builtin.Str.occurrences (S x) (S [45]) 0 (S x).length 1 with
  | nil => rw [ho] at hm; cases hm
  | cons i r =>
    rw [ho] at hc
    have h2 := (TL.at_iff (x := S x) (y := S [45]) (List.cons_ne_nil _ _) i).mp hc.2.1
    have h3 : (x.drop i).take 1 = [45] := eq_of_beq h2
    show some i = some p.length
    congr 1
    have h4 : x[i]? = some 45 := by
      have := congrArg (fun l => l[0]?) h3
      simp only [List.getElem?_take, List.getElem?_drop] at this
      simpa using this
    rw [hx] at h4
    by_cases h5 : i < p.length
    · rw [List.getElem?_append_left h5] at h4
      exact absurd (List.mem_of_getElem? h4) hp
    · rw [List.getElem?_append_right (by omega)] at h4
      by_cases h6 : i - p.length = 0
      · omega
      · obtain ⟨j, hj⟩ : ∃ j, i - p.length = j + 1 := ⟨i - p.length - 1, by omega⟩
        rw [hj, List.getElem?_cons_succ] at h4
        exact absurd (List.mem_of_getElem? h4) hq
end Cm
namespace Cm
open PySem PySem.W L2 SX
/-- a text of at most n signs that a text may have -/
structure Tx (z : Str) (n : Nat) : Prop where
  len : z.length ≤ n
  ch : ∀ c ∈ z.cps.toList, c < 1114112
theorem Tx.add {a b : Str} {m n : Nat} (h : Tx a m) (g : Tx b n) : Tx (a ++ b) (m + n) := by
  refine ⟨?_, fun c hc => ?_⟩
  · have e : (a ++ b).length = a.length + b.length := by
      rw [TL.len_tl, TL.tl_append, List.length_append, ← TL.len_tl, ← TL.len_tl]
    have := h.len; have := g.len; omega
  · have e : c ∈ TL.tl a ++ TL.tl b := by rw [← TL.tl_append]; exact hc
    rcases List.mem_append.mp e with e | e
    · exact h.ch c e
    · exact g.ch c e
theorem Tx.mono {a : Str} {m n : Nat} (h : Tx a m) (l : m ≤ n) : Tx a n := ⟨Nat.le_trans h.len l, h.ch⟩
theorem Tx.cut {z : Str} {n : Nat} (h : Tx z n) (lo hi : Option Int) : Tx (cutS z lo hi) n := by
  refine ⟨Nat.le_trans (cutS_length z lo hi) h.len, fun c hc => h.ch c ?_⟩
  have e : c ∈ (z.cps.toList.drop (HT.sIx z.length 0 lo)).take (HT.sIx z.length z.length hi - HT.sIx z.length 0 lo) := hc
  exact List.mem_of_mem_drop (List.mem_of_mem_take e)
theorem Tx.at_ {z : Str} {n : Nat} (h : Tx z n) {i : Int} {c : Nat} (e : atI z.cps.toList i = some c) : Tx ⟨#[c]⟩ 1 := by
  refine ⟨Nat.le_refl 1, fun d hd => ?_⟩
  have hd' : d ∈ [c] := hd
  rw [List.mem_singleton.mp hd']
  refine h.ch c ?_
  unfold atI at e
  cases q : ixN z.cps.toList.length i with
  | none => rw [q] at e; cases e
  | some j => rw [q] at e; exact List.mem_of_getElem? e
theorem Tx.sz {z : Str} {n : Nat} (h : Tx z n) (l : n ≤ 1000 := by decide) : z.length ≤ sizeLine := Nat.le_of_lt (small1000 (Nat.le_trans h.len l))
theorem Tx.sz2 {y z : Str} {m n : Nat} (h : Tx y m) (g : Tx z n) (l : m + n ≤ 1000 := by decide) : y.length + z.length ≤ sizeLine := by
  have := h.len; have := g.len
  exact Nat.le_of_lt (small1000 (by omega))
/-- a written text -/
def litB (z : Str) (n : Nat) : Bool := decide (z.length ≤ n) && z.cps.toList.all fun c => decide (c < 1114112)
theorem Tx.lit {z : Str} {n : Nat} (h : litB z n = true) : Tx z n := by
  unfold litB at h
  rw [Bool.and_eq_true] at h
  exact ⟨of_decide_eq_true h.1, fun c hc => of_decide_eq_true (List.all_eq_true.mp h.2 c hc)⟩
theorem joinL_nil : ∀ l : List (List Nat), TL.joinL [] l = l.flatten
  | [] => rfl
  | [x] => by show x = [x].flatten; simp
  | x :: y :: r => by
    have ih := joinL_nil (y :: r)
    show x ++ ([] ++ TL.joinL [] (y :: r)) = (x :: y :: r).flatten
    rw [ih]; simp
theorem Tx.join {ys : List Str} (h : ∀ y ∈ ys, Tx y 1) : Tx (Txt.join ("" : Str) ys) ys.length := by
  have e0 : ("" : Str) = S [] := by decide +kernel
  have e1 : ys = (ys.map TL.tl).map S := by
    rw [List.map_map]
    conv => lhs; rw [← List.map_id ys]
    exact List.map_congr_left fun y _ => (S_tl y).symm
  have e2 : Txt.join ("" : Str) ys = S ((ys.map TL.tl).flatten) := by
    rw [e0]; conv => lhs; rw [e1]
    rw [join_S, joinL_nil]
  rw [e2]
  refine ⟨?_, fun c hc => ?_⟩
  · rw [S_len, List.length_flatten]
    have : ∀ l : List Str, (∀ y ∈ l, Tx y 1) → ((l.map TL.tl).map List.length).sum ≤ l.length := by
      intro l
      induction l with
      | nil => intro _; exact Nat.le_refl 0
      | cons y r ih =>
        intro hh
        have h1 := (hh y (List.mem_cons_self ..)).len
        rw [TL.len_tl] at h1
        have h2 := ih fun z hz => hh z (List.mem_cons_of_mem _ hz)
        rw [List.map_cons, List.map_cons, List.sum_cons, List.length_cons]
        omega
    exact this ys h
  · have hc' : c ∈ (ys.map TL.tl).flatten := hc
    obtain ⟨l, hl, hcl⟩ := List.mem_flatten.mp hc'
    obtain ⟨y, hy, rfl⟩ := List.mem_map.mp hl
    exact (h y hy).ch c hcl
theorem sum_one {ys : List Str} (h : ∀ y ∈ ys, Tx y 1) (l : ys.length ≤ 1000) : (ys.map (·.length)).sum + ys.length * ("" : Str).length ≤ 16777216 := by
  have e0 : ("" : Str).length = 0 := by decide +kernel
  rw [e0, Nat.mul_zero, Nat.add_zero]
  have : ∀ l : List Str, (∀ y ∈ l, Tx y 1) → (l.map (·.length)).sum ≤ l.length := by
    intro l
    induction l with
    | nil => intro _; exact Nat.le_refl 0
    | cons y r ih =>
      intro hh
      have h1 := (hh y (List.mem_cons_self ..)).len
      have h2 := ih fun z hz => hh z (List.mem_cons_of_mem _ hz)
      rw [List.map_cons, List.sum_cons, List.length_cons]
      omega
  have := this ys h
  omega
end Cm
namespace Cm
open PySem PySem.Spec PyProof.Rows L2
theorem ext_tup (l : Addr) (its : Array Value) (n : Nat) (b : Addr) (js : Array Value) (m : Nat) (dd : Option Addr) (sl : Array (Option Value)) (h0 : ¬(!its.isEmpty && Builtin.List.listTooLong (its.size + js.size)) = true) (h1 : its.size ≤ sizeLine) (h2 : its.size + js.size ≤ sizeLine + 1) :
    Meets (Builtin.«list.extend» ⟨[.ref l, .ref b], []⟩) (fun _ R s => s.heap.get? l = some { cls := .type "list", dict := none, data := .seq its n, slots := #[] } ∧ s.heap.get? b = some { cls := .type "tuple", dict := dd, data := .seq js m, slots := sl } ∧ R (.ok (.ret Value.none)) { s with heap := s.heap.update l (Obj.mapSeq fun x => x ++ js), toks := s.toks }) :=
  .of_wp fun prog w A R s h => by
    obtain ⟨hp, g, d, tk, os⟩ := s
    obtain ⟨hl, hb, h⟩ := h
    have f2 := sub_tuple_tuple; have f3 := sub_list_list; have f4 := sub_tuple_list; have f5 := sub_list_tuple; have f1 := AutoSeq1.idx_int
    have hz : (its ++ js).size ≤ sizeLine + 1 := by rw [Array.size_append]; exact h2
    wp_walk using (wpAny_updateSeq hl rfl (hz := h1) (_hz' := hz)), wpAny_loadPart' hl, wpAny_loadPart' hb
    exact ⟨_, rfl, h⟩
def rExtT (K : PySem.W.Frag) : V → List V → Hp → VK → Prop := fun x vs H Q => ∃ l b xs zs, x = .ref l ∧ vs = [.ref b] ∧ H l = some (.lst xs) ∧ SqT K H b zs ∧ xs.length + zs.length ≤ sizeLine ∧ Q .non (upd H l (.lst (xs ++ zs)))
/-- xs.extend(t), t a tuple -/
theorem mt_extT {X : Cx} : MtM X "list.extend" (rExtT X.K) := by
  intro pins s σ H x vs v us Q I rx rv h
  obtain ⟨l, b, xs, zs, rfl, rfl, hH, hB, hz, q⟩ := h
  cases rx
  obtain ⟨u, rfl, ru⟩ := rv.one
  cases ru
  obtain ⟨z, its, n, r, hl, e⟩ := I.lstM hH
  obtain ⟨js, r2, ⟨ob, e2, c2, m, d2⟩, z2⟩ := I.tuple hB
  obtain ⟨oc, od, dt, sl⟩ := ob
  cases (show oc = .type "tuple" from c2)
  cases (show dt = .seq js.toArray m from d2)
  have l2 := r2.length
  have hsz : its.toArray.size + js.toArray.size ≤ sizeLine := by rw [List.size_toArray, List.size_toArray]; omega
  have hlong : ¬ (!its.toArray.isEmpty && Builtin.List.listTooLong (its.toArray.size + js.toArray.size)) = true := by
    rw [notLongL hsz, Bool.and_false]; exact Bool.false_ne_true
  refine call_meets F.slot_list_extend ⟨_, e, rfl⟩ F.entry_list_extend (F.args_list_extend_2 _ _)
    (ext_tup l its.toArray n b js.toArray m od sl hlong (by rw [List.size_toArray]; omega) (by omega)) ⟨e, e2, ?_⟩
  refine ⟨.non, _, I.lset (its' := its ++ js) hH e (by simp) (r.append r2) ?_, rfl, q⟩
  rw [List.length_append]; omega
end Cm
namespace Cm
open PySem PySem.W L2 SX
/-! ### data of tuples, texts and numbers as it lies in the heap -/
mutual
inductive Tr (K : Frag) (H : Hp) : V → PyData → Prop
  | int (i : Int) : Tr K H (.int i) (.int i)
  | str (x : Str) : Tr K H (.str x) (.str x)
  | tup {a : Addr} {xs : List V} {ds : List PyData} : SqT K H a xs → TrAll K H xs ds → Tr K H (.ref a) (.tuple ds)
inductive TrAll (K : Frag) (H : Hp) : List V → List PyData → Prop
  | nil : TrAll K H [] []
  | cons {v : V} {vs : List V} {d : PyData} {ds : List PyData} : Tr K H v d → TrAll K H vs ds → TrAll K H (v :: vs) (d :: ds)
end
/-- tuples are kept -/
def TKs (K : Frag) (H H' : Hp) : Prop := ∀ a xs, SqT K H a xs → SqT K H' a xs
theorem TKs.refl {K : Frag} (H : Hp) : TKs K H H := fun _ _ h => h
theorem TKs.trans {K : Frag} {H H1 H2 : Hp} (a : TKs K H H1) (b : TKs K H1 H2) : TKs K H H2 := fun c x h => b c x (a c x h)
theorem TKs.of {K : Frag} {H H' : Hp} (s : Same H H') : TKs K H H' := fun a xs h => by
  rcases h with (h | ⟨o, h⟩) | h
  · exact .inl (.inl (s _ _ h))
  · exact .inl (.inr ⟨o, s _ _ h⟩)
  · exact .inr h
theorem TKs.kp {K : Frag} {L : List Addr} {H H' : Hp} (k : Kp L H H') (hl : ∀ b ∈ L, ∃ xs, H b = some (.lst xs)) : TKs K H H' := fun a xs h => by
  have nm : ∀ o, H a = some o → (∀ ys, o ≠ .lst ys) → a ∉ L := fun o e n z => by
    obtain ⟨ys, ey⟩ := hl a z
    rw [ey] at e
    exact n ys (Option.some.inj e).symm
  rcases h with (h | ⟨o, h⟩) | h
  · exact .inl (.inl (k _ _ (nm _ h (fun _ z => by cases z)) h))
  · exact .inl (.inr ⟨o, k _ _ (nm _ h (fun _ z => by cases z)) h⟩)
  · exact .inr h
theorem TKs.lst {K : Frag} {H : Hp} {d : Addr} {xs ys : List V} (h : H d = some (.lst xs)) : TKs K H (upd H d (.lst ys)) :=
  TKs.kp (L := [d]) (fun b o m e => by rw [upd_ne (fun z => m (List.mem_singleton.mpr z))]; exact e) (fun b hb => by rw [List.mem_singleton.mp hb]; exact ⟨xs, h⟩)
mutual
theorem Tr.mono {K : Frag} {H H' : Hp} (k : TKs K H H') : ∀ {v : V} {d : PyData}, Tr K H v d → Tr K H' v d
  | _, _, .int i => .int i
  | _, _, .str x => .str x
  | _, _, .tup h t => .tup (k _ _ h) (TrAll.mono k t)
theorem TrAll.mono {K : Frag} {H H' : Hp} (k : TKs K H H') : ∀ {v : List V} {d : List PyData}, TrAll K H v d → TrAll K H' v d
  | _, _, .nil => .nil
  | _, _, .cons h t => .cons (Tr.mono k h) (TrAll.mono k t)
end
mutual
theorem Tr.dp {K : Frag} {H : Hp} : ∀ {v : V} {d : PyData}, Tr K H v d → Dp K H v d
  | _, _, .int i => .int i
  | _, _, .str x => .str x
  | _, _, .tup h t => .tup h (TrAll.dp t)
theorem TrAll.dp {K : Frag} {H : Hp} : ∀ {v : List V} {d : List PyData}, TrAll K H v d → DpAll K H v d
  | _, _, .nil => .nil
  | _, _, .cons h t => .cons (Tr.dp h) (TrAll.dp t)
end
theorem TrAll.len {K : Frag} {H : Hp} : ∀ {v : List V} {d : List PyData}, TrAll K H v d → v.length = d.length
  | _, _, .nil => rfl
  | _, _, .cons _ t => congrArg (· + 1) (TrAll.len t)
theorem TrAll.append {K : Frag} {H : Hp} : ∀ {v v' : List V} {d d' : List PyData}, TrAll K H v d → TrAll K H v' d' → TrAll K H (v ++ v') (d ++ d')
  | _, _, _, _, .nil, h => h
  | _, _, _, _, .cons h t, h' => .cons h (TrAll.append t h')
theorem TrAll.get {K : Frag} {H : Hp} : ∀ {v : List V} {d : List PyData} {i : Nat} {x : V}, TrAll K H v d → v[i]? = some x → ∃ y, d[i]? = some y ∧ Tr K H x y
  | _, _, i, x, .nil, h => by simp at h
  | _, _, 0, x, .cons h t, e => ⟨_, rfl, by cases e; exact h⟩
  | _, _, i + 1, x, .cons h t, e => by
    rw [List.getElem?_cons_succ] at e ⊢
    exact TrAll.get t e
theorem TrAll.snoc {K : Frag} {H : Hp} {v : List V} {d : List PyData} {x : V} (h : TrAll K H (v ++ [x]) d) : ∃ d' y, d = d' ++ [y] ∧ TrAll K H v d' ∧ Tr K H x y := by
  induction v generalizing d with
  | nil =>
    cases h with
    | cons a b => cases b; exact ⟨[], _, rfl, .nil, a⟩
  | cons u r ih =>
    cases h with
    | cons a b =>
      obtain ⟨d', y, rfl, h1, h2⟩ := ih b
      exact ⟨_ :: d', y, rfl, .cons a h1, h2⟩
/-! ### things, rows, stacks: depth, words in all, size -/
mutual
inductive Thg : Nat → Nat → Nat → PyData → Prop
  | num {k : Nat} (n : Int) (h0 : 0 ≤ n) (h1 : n < 10 ^ 12) : Thg k 0 1 (.tuple [.str "number", .int n])
  | row {k k' w m : Nat} {ws : List PyData} : Rw k w m ws → k < k' → Thg k' w (m + 1) (.tuple [.str "row", .tuple ws])
  | lst {k k' w m : Nat} {ts : List PyData} : Stk k w m ts → k < k' → Thg k' w (m + 1) (.tuple [.str "list", .tuple ts])
inductive Rw : Nat → Nat → Nat → List PyData → Prop
  | nil {k : Nat} : Rw k 0 0 []
  | txt {k w m : Nat} {z : Str} {ws : List PyData} : Tx z 100 → Rw k w m ws → Rw k (w + 1) (m + 1) (.str z :: ws)
  | push {k w m w' m' : Nat} {t : PyData} {ws : List PyData} : Thg k w m t → Rw k w' m' ws → Rw k (w + w' + 1) (m + m' + 1) (.tuple [.str "push", t] :: ws)
inductive Stk : Nat → Nat → Nat → List PyData → Prop
  | nil {k : Nat} : Stk k 0 0 []
  | cons {k w m w' m' : Nat} {t : PyData} {ts : List PyData} : Thg k w m t → Stk k w' m' ts → Stk k (w + w') (m + m') (t :: ts)
end
theorem Thg.up {k k' w m : Nat} {t : PyData} (h : Thg k w m t) (l : k ≤ k') : Thg k' w m t := by
  cases h with
  | num n h0 h1 => exact .num n h0 h1
  | row h q => exact .row h (Nat.lt_of_lt_of_le q l)
  | lst h q => exact .lst h (Nat.lt_of_lt_of_le q l)
theorem Rw.up {k k' : Nat} (l : k ≤ k') : ∀ {ws : List PyData} {w m : Nat}, Rw k w m ws → Rw k' w m ws
  | _, _, _, .nil => .nil
  | _, _, _, .txt h t => .txt h (Rw.up l t)
  | _, _, _, .push h t => .push (h.up l) (Rw.up l t)
theorem Stk.up {k k' : Nat} (l : k ≤ k') : ∀ {ws : List PyData} {w m : Nat}, Stk k w m ws → Stk k' w m ws
  | _, _, _, .nil => .nil
  | _, _, _, .cons h t => .cons (h.up l) (Stk.up l t)
theorem Rw.append {k : Nat} : ∀ {a b : List PyData} {w m w' m' : Nat}, Rw k w m a → Rw k w' m' b → Rw k (w + w') (m + m') (a ++ b)
  | _, _, _, _, _, _, .nil, h => by rw [Nat.zero_add, Nat.zero_add]; exact h
  | _, _, _, _, w', m', .txt (w := w) (m := m) h t, h' => by
    have := Rw.txt h (Rw.append t h')
    rw [show w + 1 + w' = w + w' + 1 by omega, show m + 1 + m' = m + m' + 1 by omega]
    exact this
  | _, _, _, _, w', m', .push (w := w) (m := m) (w' := x) (m' := y) h t, h' => by
    have := Rw.push h (Rw.append t h')
    rw [show w + x + 1 + w' = w + (x + w') + 1 by omega, show m + y + 1 + m' = m + (y + m') + 1 by omega]
    exact this
theorem Stk.append {k : Nat} : ∀ {a b : List PyData} {w m w' m' : Nat}, Stk k w m a → Stk k w' m' b → Stk k (w + w') (m + m') (a ++ b)
  | _, _, _, _, _, _, .nil, h => by rw [Nat.zero_add, Nat.zero_add]; exact h
  | _, _, _, _, _, _, .cons h t, h' => by
    rw [Nat.add_assoc, Nat.add_assoc]; exact .cons h (Stk.append t h')
theorem Stk.snoc {k : Nat} : ∀ {a : List PyData} {t : PyData} {w m : Nat}, Stk k w m (a ++ [t]) → ∃ w1 m1 w2 m2, Stk k w1 m1 a ∧ Thg k w2 m2 t ∧ w = w1 + w2 ∧ m = m1 + m2
  | [], t, w, m, h => by
    have h' : Stk k w m [t] := h
    cases h' with
    | cons a b => cases b; exact ⟨0, 0, _, _, .nil, a, by omega, by omega⟩
  | x :: r, t, w, m, h => by
    have h' : Stk k w m (x :: (r ++ [t])) := h
    cases h' with
    | cons a q =>
      obtain ⟨w1, m1, w2, m2, a', b, rfl, rfl⟩ := Stk.snoc q
      exact ⟨_, _, w2, m2, .cons a a', b, by omega, by omega⟩
theorem Thg.pos {k w m : Nat} {t : PyData} (h : Thg k w m t) : 1 ≤ m := by
  cases h <;> omega
theorem Stk.len {k : Nat} : ∀ {a : List PyData} {w m : Nat}, Stk k w m a → a.length ≤ m
  | _, _, _, .nil => Nat.le_refl 0
  | _, _, _, .cons h t => by
    have h1 := Stk.len t
    have h2 := h.pos
    rw [List.length_cons]; omega
theorem Rw.len {k : Nat} : ∀ {a : List PyData} {w m : Nat}, Rw k w m a → a.length ≤ m
  | _, _, _, .nil => Nat.le_refl 0
  | _, _, _, .txt h t => by have := Rw.len t; rw [List.length_cons]; omega
  | _, _, _, .push h t => by have := Rw.len t; rw [List.length_cons]; omega
/-- what a word pushes -/
def psh : PyData → Option PyData
  | .tuple [_, t] => some t
  | _ => none
theorem Rw.psh {k : Nat} : ∀ {ws : List PyData} {w m : Nat}, Rw k w m ws → ∃ w' m', Stk k w' m' (ws.filterMap psh) ∧ w = ws.length + w' ∧ m' ≤ m
  | _, _, _, .nil => ⟨0, 0, .nil, rfl, Nat.le_refl 0⟩
  | _, _, _, .txt h t => by
    obtain ⟨w', m', a, b, c⟩ := Rw.psh t
    exact ⟨w', m', a, by rw [List.length_cons]; omega, by omega⟩
  | _, _, _, .push h t => by
    obtain ⟨w', m', a, b, c⟩ := Rw.psh t
    exact ⟨_, _, .cons h a, by rw [List.length_cons]; omega, by omega⟩
theorem Rw.at_ {k : Nat} : ∀ {ws : List PyData} {w m i : Nat} {d : PyData}, Rw k w m ws → ws[i]? = some d → (∃ z, d = .str z) ∨ (∃ t, d = .tuple [.str "push", t])
  | _, _, _, i, d, .nil, h => by simp at h
  | _, _, _, 0, d, .txt (z := z) h t, e => .inl ⟨z, by cases e; rfl⟩
  | _, _, _, 0, d, .push (t := t) h _, e => .inr ⟨t, by cases e; rfl⟩
  | _, _, _, i + 1, d, .txt h t, e => Rw.at_ t e
  | _, _, _, i + 1, d, .push h t, e => Rw.at_ t e
theorem mid {n : Nat} (h : n ≤ 1000000) : n ≤ sizeLine := Nat.le_trans h (by decide)
theorem midlt {n : Nat} (h : n < 1000000) : n < sizeLine := Nat.lt_of_lt_of_le h (by decide)
theorem tyTup {K : Frag} {H : Hp} {a : Addr} {xs : List V} (h : SqT K H a xs) : TyX K H (.ref a) (.type "tuple") := by
  rcases h with (h | ⟨o, h⟩) | ⟨o, _, _, e, c, _⟩
  · exact .base (.tup h)
  · exact .fTuple h
  · exact .kTuple e c
mutual
theorem Thg.lay : ∀ {k w m : Nat} {t : PyData}, Thg k w m t → PyData.canLay0 t = true ∧ PyData.depth t ≤ 3 * k + 1
  | k, _, _, _, .num n h0 h1 => ⟨by show (PyData.canLay0 (.str "number") && (true && true)) = true; decide +kernel, Nat.le_add_left 1 _⟩
  | k', _, _, _, .row (k := k) (ws := ws) h l => by
    obtain ⟨a, b⟩ := Rw.lay h
    refine ⟨?_, ?_⟩
    · show (PyData.canLay0 (.str "row") && (PyData.canLayAll0 ws && true)) = true
      rw [a]; decide +kernel
    · show max 0 (max (PyData.depthAll ws + 1) 0) + 1 ≤ _
      omega
  | k', _, _, _, .lst (k := k) (ts := ts) h l => by
    obtain ⟨a, b⟩ := Stk.lay h
    refine ⟨?_, ?_⟩
    · show (PyData.canLay0 (.str "list") && (PyData.canLayAll0 ts && true)) = true
      rw [a]; decide +kernel
    · show max 0 (max (PyData.depthAll ts + 1) 0) + 1 ≤ _
      omega
theorem Rw.lay : ∀ {k w m : Nat} {ws : List PyData}, Rw k w m ws → PyData.canLayAll0 ws = true ∧ PyData.depthAll ws ≤ 3 * k + 2
  | k, _, _, _, .nil => ⟨rfl, Nat.zero_le _⟩
  | k, _, _, _, .txt (z := z) (ws := ws) h t => by
    obtain ⟨a, b⟩ := Rw.lay t
    refine ⟨?_, ?_⟩
    · show (z.cps.all (· < 0x110000) && PyData.canLayAll0 ws) = true
      rw [a, Bool.and_true, ← Array.all_toList, List.all_eq_true]
      intro c hc
      exact decide_eq_true (h.ch c hc)
    · show max 0 (PyData.depthAll ws) ≤ _
      omega
  | k, _, _, _, .push (t := t) (ws := ws) h r => by
    obtain ⟨a, b⟩ := Rw.lay r
    obtain ⟨a', b'⟩ := Thg.lay h
    refine ⟨?_, ?_⟩
    · show ((PyData.canLay0 (.str "push") && (PyData.canLay0 t && true)) && PyData.canLayAll0 ws) = true
      rw [a, a']; decide +kernel
    · show max (max 0 (max (PyData.depth t) 0) + 1) (PyData.depthAll ws) ≤ _
      omega
theorem Stk.lay : ∀ {k w m : Nat} {ts : List PyData}, Stk k w m ts → PyData.canLayAll0 ts = true ∧ PyData.depthAll ts ≤ 3 * k + 1
  | k, _, _, _, .nil => ⟨rfl, Nat.zero_le _⟩
  | k, _, _, _, .cons (t := t) (ts := ts) h r => by
    obtain ⟨a, b⟩ := Stk.lay r
    obtain ⟨a', b'⟩ := Thg.lay h
    refine ⟨?_, ?_⟩
    · show (PyData.canLay0 t && PyData.canLayAll0 ts) = true
      rw [a, a']; rfl
    · show max (PyData.depth t) (PyData.depthAll ts) ≤ _
      omega
end
theorem Stk.shaped {k w m : Nat} {ts : List PyData} (h : Stk k w m ts) (l : k ≤ 20) : SeqAt.shaped (.list ts) = true := by
  obtain ⟨a, b⟩ := h.lay
  show (PyData.canLayAll0 ts && decide (PyData.depthAll ts + 1 ≤ 64)) = true
  rw [a, Bool.true_and]; exact decide_eq_true (by omega)
end Cm
namespace Cm
open PySem PySem.W L2 SX
theorem Tr.tupD {K : Frag} {H : Hp} {v : V} {ds : List PyData} (h : Tr K H v (.tuple ds)) : ∃ a xs, v = .ref a ∧ SqT K H a xs ∧ TrAll K H xs ds := by
  cases h with
  | tup h t => exact ⟨_, _, rfl, h, t⟩
/-- two tuples' sum, as trees -/
theorem catTr {K : Frag} {H : Hp} {u v : V} {ps qs : List PyData} {Q : VK} (hu : Tr K H u (.tuple ps)) (hv : Tr K H v (.tuple qs)) (hl : ps.length + qs.length ≤ 1000000)
    (q : ∀ (r : V) (H' : Hp), Same H H' → Tr K H' r (.tuple (ps ++ qs)) → Q r H') : rCatA K u v H Q := by
  obtain ⟨a, xs, rfl, ha, hx⟩ := hu.tupD
  obtain ⟨b, ys, rfl, hb, hy⟩ := hv.tupD
  have lx := hx.len
  have ly := hy.len
  refine ⟨a, b, xs, ys, rfl, rfl, ha, hb, mid (by omega), fun e => ?_, fun _ e => ?_, fun _ _ p np => ?_⟩
  · subst e
    cases hx
    exact q _ H (fun _ _ h => h) (.tup hb hy)
  · subst e
    cases hy
    rw [List.append_nil] at q
    exact q _ H (fun _ _ h => h) (.tup ha hx)
  · exact q _ _ (same_new np _) (.tup (SqT.of upd_same) ((hx.append hy).mono (.of (same_new np _))))
/-- all but the first of a tuple, as trees -/
theorem restTr {K : Frag} {H : Hp} {u : V} {d : PyData} {ds : List PyData} {Q : VK} (hu : Tr K H u (.tuple (d :: ds)))
    (q : ∀ (r : V) (H' : Hp), Same H H' → Tr K H' r (.tuple ds) → Q r H') : rSlA K u (some 1) none H Q := by
  obtain ⟨a, xs, rfl, ha, hx⟩ := hu.tupD
  cases hx with
  | cons hd ht =>
    rename_i x xr
    refine ⟨a, _, rfl, ha, fun c => ?_, fun _ p np => ?_⟩
    · have c1 := c.1
      rw [show (1 : Int) = ((1 : Nat) : Int) from rfl, HT.sIx_nat, List.length_cons] at c1
      omega
    · have e : cutV (x :: xr) (some 1) none = xr := by
        unfold cutV
        rw [show (1 : Int) = ((1 : Nat) : Int) from rfl, HT.sIx_nat, HT.sIx_none, List.length_cons, Nat.min_eq_left (by omega)]
        show List.take (xr.length + 1 - 1) xr = xr
        rw [Nat.add_sub_cancel, List.take_length]
      rw [e]
      exact q _ _ (same_new np _) (.tup (SqT.of upd_same) (ht.mono (.of (same_new np _))))
/-- a made tuple, as a tree -/
theorem tupTr {K : Frag} {H : Hp} {xs : List V} {ds : List PyData} (h : TrAll K H xs ds) {p : Addr} (np : H p = none) : Tr K (upd H p (.tup xs)) (.ref p) (.tuple ds) := .tup (SqT.of upd_same) (h.mono (.of (same_new np _)))
end Cm
namespace Cm
open PySem PySem.W L2 SX PySem.Spec PyProof.Rows
section
variable {X : Cx}
/-- x in t, t a tuple of data of any depth -/
def rInTD (K : PySem.W.Frag) : R2 := fun x y H Q => ∃ d ds, Dp K H x d ∧ Dp K H y (.tuple ds) ∧ SeqAt.shaped d = true ∧ SeqAt.shaped (.tuple ds) = true ∧ Q (.bl (ds.any fun z => PyData.eqv z d)) H
def rNotInTD (K : PySem.W.Frag) : R2 := fun x y H Q => ∃ d ds, Dp K H x d ∧ Dp K H y (.tuple ds) ∧ SeqAt.shaped d = true ∧ SeqAt.shaped (.tuple ds) = true ∧ Q (.bl (!ds.any fun z => PyData.eqv z d)) H
theorem op_inTD (hu : X.A.units + 65 < cLine) : OpR X (compareOp .In) (rInTD X.K) := by
  intro pins s σ H x y v u Q I rx ry h
  obtain ⟨d, ds, hd, he, sd, se, q⟩ := h
  obtain ⟨as, r1⟩ := Dp.reads I d x v hd rx
  obtain ⟨bs, r2⟩ := Dp.reads I (.tuple ds) y u he ry
  exact SeqAt.in_tuple_reads r2 r1 (SeqAt.canLay_of_shaped se) (SeqAt.canLay_of_shaped sd) (room_in_shaped sd hu) ⟨.bl _, H, I, rfl, q⟩
theorem op_notInTD (hu : X.A.units + 65 < cLine) : OpR X (compareOp .NotIn) (rNotInTD X.K) := by
  intro pins s σ H x y v u Q I rx ry h
  obtain ⟨d, ds, hd, he, sd, se, q⟩ := h
  obtain ⟨as, r1⟩ := Dp.reads I d x v hd rx
  obtain ⟨bs, r2⟩ := Dp.reads I (.tuple ds) y u he ry
  exact SeqAt.notIn_tuple_reads r2 r1 (SeqAt.canLay_of_shaped se) (SeqAt.canLay_of_shaped sd) (room_in_shaped sd hu) ⟨.bl _, H, I, rfl, q⟩
/-- t.index(x) of a tuple of data -/
def rIndexTD (K : PySem.W.Frag) : V → List V → Hp → VK → Prop := fun x xs H Q => ∃ (a : Addr) (y : V) (d : PyData) (ds : List PyData) (j : Nat) (z : PyData), x = V.ref a ∧ xs = [y] ∧ Dp K H (V.ref a) (.tuple ds) ∧ Dp K H y d ∧
  SeqAt.shaped (.tuple ds) = true ∧ SeqAt.shaped d = true ∧ ds[j]? = some z ∧ PyData.eqv z d = true ∧ (∀ (m : Nat) (z' : PyData), m < j → ds[m]? = some z' → PyData.eqv z' d = false) ∧ Q (.int (j : Nat)) H
theorem mt_tindexD (hu : X.A.units + 65 < cLine) : MtR X "tuple.index" (rIndexTD X.K) := by
  intro pins s σ H x xs v us Q I rx rxs h
  obtain ⟨a, y, d, ds, j, z, rfl, rfl, hl, hy, sl, sd, hz, hzj, hno, q⟩ := h
  cases rx
  cases rxs with
  | cons ry rt =>
    rename_i uy ut
    cases rt
    obtain ⟨bs, r1⟩ := Dp.reads I d y uy hy ry
    have hxs : PyData.canLayAll0 ds = true := SeqAt.canLay_of_shaped sl
    have hroom : X.A.units + 1 + min (PyData.depthAll ds) d.depth < cLine := room_in_shaped sd hu
    cases hl with
    | tup hs ha =>
      obtain ⟨its, rv, pl, hlen⟩ := I.tuple hs
      obtain ⟨⟨cls, dd, dt, sls⟩, ho, hc, n, hd⟩ := pl
      simp only at hc hd
      subst hc
      subst hd
      obtain ⟨as, h4⟩ := Dp.readsAll I ds _ its ha rv
      have hn : its.length = ds.length := SeqAt.ReadsAll.length ds its as h4
      have hmap : its.map (SeqAt.readOf s.heap) = ds := SeqAt.readsAll_map ds its as hxs h4
      obtain ⟨hjd, _⟩ := List.getElem?_eq_some_iff.mp hz
      have hjl : j < its.length := by omega
      have hj : j < its.toArray.size := by simpa using hjl
      have at_ : ∀ (m : Nat) (hm : m < its.toArray.size) (z' : PyData), ds[m]? = some z' → SeqAt.readOf s.heap its.toArray[m] = z' := by
        intro m hm z' hz'
        have hml : m < its.length := by simpa using hm
        rw [← hmap, List.getElem?_map, List.getElem?_eq_getElem hml] at hz'
        have e1 : SeqAt.readOf s.heap its[m] = z' := Option.some.inj (show some (SeqAt.readOf s.heap its[m]) = some z' from hz')
        simpa using e1
      refine call_meets PySem.F.slot_tuple_index ⟨_, ho, rfl⟩ PySem.F.entry_tuple_index (PySem.F.args_tuple_index_2 _ _)
        (TI.tuple_indexAt a its.toArray n dd sls uy (fun u => PyData.eqv (SeqAt.readOf s.heap u) d) j hj ?_ ?_) ⟨ho, SeqAt.items_eqAt (vs := its.toArray) (show ReadsAll s.heap its.toArray.toList ds as from h4) r1 hxs (SeqAt.canLay_of_shaped sd) hroom, ?_⟩
      · show PyData.eqv (SeqAt.readOf s.heap its.toArray[j]) d = true
        rw [at_ j hj z hz]
        exact hzj
      · intro m hm hmj
        have hmd : m < ds.length := by omega
        have hz' : ds[m]? = some ds[m] := List.getElem?_eq_getElem hmd
        show PyData.eqv (SeqAt.readOf s.heap its.toArray[m]) d = false
        rw [at_ m hm _ hz']
        exact hno m _ hmj hz'
      · exact ⟨.int (j : Nat), H, I.tok _, ⟨_, rfl⟩, q⟩
end
end Cm
namespace Cm
open PySem PySem.W L2 SX
/-! ### maps: what stays lowest -/
/-- the thing c stays where it is and stands nowhere behind -/
def Stays (ps : List Int) (c : Nat) : Prop := ps[c]? = some (c : Int) ∧ (c : Int) ∉ ps.drop (c + 1)
/-- as many as c may be cut -/
def IsCut (ps : List Int) (c : Nat) : Prop := (∀ j, j < c → Stays ps j) ∧ ¬ Stays ps c
def cutM (c : Nat) (ps : List Int) : List Int := (ps.drop c).map fun p => p - (c : Int)
theorem IsCut.uniq {ps : List Int} {c d : Nat} (a : IsCut ps c) (b : IsCut ps d) : c = d := by
  rcases Nat.lt_trichotomy c d with h | h | h
  · exact absurd (b.1 c h) a.2
  · exact h
  · exact absurd (a.1 d h) b.2
theorem Stays.lt {ps : List Int} {c : Nat} (h : Stays ps c) : c < ps.length := by
  have := h.1
  exact (List.getElem?_eq_some_iff.mp this).1
theorem cutM_zero (ps : List Int) : cutM 0 ps = ps := by
  unfold cutM
  rw [List.drop_zero]
  have : (fun p : Int => p - ((0 : Nat) : Int)) = id := by funext p; show p - 0 = p; omega
  rw [this, List.map_id]
theorem cutM_length (c : Nat) (ps : List Int) : (cutM c ps).length ≤ ps.length := by
  unfold cutM
  rw [List.length_map, List.length_drop]; omega
theorem mem_cutM {c : Nat} {ps : List Int} {x : Int} : x ∈ cutM c ps ↔ x + c ∈ ps.drop c := by
  unfold cutM
  rw [List.mem_map]
  constructor
  · rintro ⟨y, hy, rfl⟩
    rw [show y - (c : Int) + (c : Int) = y by omega]; exact hy
  · intro h
    exact ⟨_, h, by omega⟩
theorem IsCut.least {ps : List Int} {c : Nat} (h : IsCut ps c) : IsCut (cutM c ps) 0 := by
  refine ⟨fun j hj => absurd hj (Nat.not_lt_zero j), fun s => h.2 ?_⟩
  obtain ⟨s1, s2⟩ := s
  have e1 : (cutM c ps)[0]? = (ps[c]?).map fun p => p - (c : Int) := by
    unfold cutM
    rw [List.getElem?_map, List.getElem?_drop, Nat.add_zero]
  rw [e1] at s1
  constructor
  · cases e : ps[c]? with
    | none => rw [e] at s1; cases s1
    | some p =>
      rw [e] at s1
      have s1' : p - (c : Int) = ((0 : Nat) : Int) := Option.some.inj s1
      congr 1
      omega
  · intro m
    refine s2 ?_
    have e2 : (cutM c ps).drop (0 + 1) = (ps.drop (c + 1)).map fun p => p - (c : Int) := by
      unfold cutM
      rw [← List.map_drop, List.drop_drop]
    rw [e2, List.mem_map]
    exact ⟨_, m, by omega⟩
/-- the numbers from 0 on -/
def nums (m : Nat) : List Int := (List.range m).map fun i => ((i : Nat) : Int)
theorem nums_length (m : Nat) : (nums m).length = m := by unfold nums; rw [List.length_map, List.length_range]
theorem nums_get {m i : Nat} (h : i < m) : (nums m)[i]? = some (i : Int) := by
  unfold nums
  rw [List.getElem?_map, List.getElem?_range h]; rfl
theorem mem_nums {m : Nat} {x : Int} : x ∈ nums m ↔ 0 ≤ x ∧ x < m := by
  unfold nums
  rw [List.mem_map]
  constructor
  · rintro ⟨i, hi, rfl⟩
    have := List.mem_range.mp hi
    omega
  · rintro ⟨h1, h2⟩
    exact ⟨x.toNat, List.mem_range.mpr (by omega), by omega⟩
theorem mem_drop_nums {m c : Nat} {x : Int} (h : x ∈ (nums m).drop c) : (c : Int) ≤ x := by
  obtain ⟨i, hi⟩ := List.mem_iff_getElem?.mp h
  rw [List.getElem?_drop] at hi
  have hl := (List.getElem?_eq_some_iff.mp hi).1
  rw [nums_length] at hl
  rw [nums_get hl] at hi
  have := Option.some.inj hi
  omega
def moreM (m : Nat) (ps : List Int) : List Int := nums m ++ ps.map fun p => p + (m : Int)
theorem stays_more {m c : Nat} {ps : List Int} : Stays (moreM m ps) (m + c) ↔ Stays ps c := by
  unfold Stays moreM
  have e1 : (nums m ++ ps.map fun p => p + (m : Int))[m + c]? = (ps[c]?).map fun p => p + (m : Int) := by
    rw [List.getElem?_append_right (by rw [nums_length]; omega), nums_length, Nat.add_sub_cancel_left, List.getElem?_map]
  have e2 : (nums m ++ ps.map fun p => p + (m : Int)).drop (m + c + 1) = (ps.drop (c + 1)).map fun p => p + (m : Int) := by
    rw [List.drop_append, nums_length, List.drop_of_length_le (by rw [nums_length]; omega), List.nil_append, List.map_drop]
    congr 1; omega
  rw [e1, e2]
  constructor
  · rintro ⟨h1, h2⟩
    constructor
    · cases e : ps[c]? with
      | none => rw [e] at h1; cases h1
      | some p =>
        rw [e] at h1
        have h1' : p + (m : Int) = ((m + c : Nat) : Int) := Option.some.inj h1
        congr 1; omega
    · intro z
      exact h2 (List.mem_map.mpr ⟨_, z, by omega⟩)
  · rintro ⟨h1, h2⟩
    constructor
    · rw [h1]
      show some ((c : Int) + (m : Int)) = _
      congr 1; omega
    · intro z
      obtain ⟨y, hy, e⟩ := List.mem_map.mp z
      exact h2 (by rw [show (c : Int) = y by omega]; exact hy)
theorem IsCut.more {m c : Nat} {ps : List Int} (h : IsCut ps c) (h0 : ∀ p ∈ ps, (0 : Int) ≤ p) : IsCut (moreM m ps) (m + c) := by
  refine ⟨fun j hj => ?_, fun s => h.2 (stays_more.mp s)⟩
  by_cases hm : j < m
  · constructor
    · unfold moreM
      rw [List.getElem?_append_left (by rw [nums_length]; exact hm), nums_get hm]
    · unfold moreM
      rw [List.drop_append]
      intro z
      rcases List.mem_append.mp z with z | z
      · have := mem_drop_nums z; omega
      · obtain ⟨y, hy, e⟩ := List.mem_map.mp (List.mem_of_mem_drop z)
        have := h0 y hy
        omega
  · have : j = m + (j - m) := by omega
    rw [this]
    exact stays_more.mpr (h.1 _ (by omega))
theorem cutM_more (m c : Nat) (ps : List Int) : cutM (m + c) (moreM m ps) = cutM c ps := by
  unfold cutM moreM
  rw [List.drop_append, nums_length, List.drop_of_length_le (by rw [nums_length]; omega), List.nil_append, ← List.map_drop, List.map_map, Nat.add_sub_cancel_left]
  congr 1
  funext p
  show p + (m : Int) - ((m + c : Nat) : Int) = p - (c : Int)
  omega
theorem count_stays {ps : List Int} {c : Nat} (h : ∀ j, j < c → Stays ps j) (hc : ps[c]? = some (c : Int)) : ps.count (c : Int) = 1 ↔ (c : Int) ∉ ps.drop (c + 1) := by
  have e : ps = ps.take c ++ ((c : Int) :: ps.drop (c + 1)) := by
    obtain ⟨h1, h2⟩ := List.getElem?_eq_some_iff.mp hc
    rw [← h2, List.getElem_cons_drop, List.take_append_drop]
  have e0 : (ps.take c).count (c : Int) = 0 := by
    rw [List.count_eq_zero]
    intro z
    obtain ⟨i, hi⟩ := List.mem_iff_getElem?.mp z
    rw [List.getElem?_take] at hi
    by_cases hl : i < c
    · rw [if_pos hl, (h i hl).1] at hi
      have := Option.some.inj hi
      omega
    · rw [if_neg hl] at hi; cases hi
  have : ps.count (c : Int) = (ps.drop (c + 1)).count (c : Int) + 1 := by
    conv => lhs; rw [e]
    rw [List.count_append, e0, List.count_cons_self]; omega
  rw [this]
  constructor
  · intro q
    exact List.count_eq_zero.mp (by omega)
  · intro q
    rw [List.count_eq_zero.mpr q]
theorem in_ints (c : Int) : ∀ ns : List Int, inV (.int c) (ns.map V.int) = decide (c ∈ ns)
  | [] => rfl
  | n :: r => by
    have ih : ((r.map V.int).any fun y => eqV y (.int c)) = decide (c ∈ r) := in_ints c r
    show ((n == c) || (r.map V.int).any fun y => eqV y (.int c)) = _
    rw [ih]
    by_cases h : n = c
    · subst h
      rw [beq_self_eq_true, Bool.true_or, decide_eq_true (List.mem_cons_self ..)]
    · rw [show (n == c) = false from beq_eq_false_iff_ne.mpr h, Bool.false_or]
      congr 1
      refine propext ⟨fun m => List.mem_cons_of_mem _ m, fun m => ?_⟩
      rcases List.mem_cons.mp m with z | z
      · exact absurd z.symm h
      · exact z
theorem flat_ints : ∀ ns : List Int, (ns.map V.int).all flatV = true
  | [] => rfl
  | n :: r => by
    show (true && (r.map V.int).all flatV) = true
    rw [flat_ints r]; rfl
/-- a map as data: a number and a tuple of numbers -/
def mapD (n : Int) (ps : List Int) : PyData := .tuple [.int n, .tuple (ps.map PyData.int)]
theorem mapD_lay (n : Int) (ps : List Int) : PyData.canLay0 (mapD n ps) = true := by
  show (PyData.canLay0 (PyData.int n) && (PyData.canLayAll0 (ps.map PyData.int) && true)) = true
  rw [lay_ints]; rfl
theorem mapD_shaped (n : Int) (ps : List Int) : SeqAt.shaped (mapD n ps) = true := by
  show (PyData.canLay0 (mapD n ps) && decide (PyData.depth (mapD n ps) ≤ 64)) = true
  rw [mapD_lay]
  have : PyData.depth (mapD n ps) = 2 := by
    show max 0 (max (PyData.depthAll (ps.map PyData.int) + 1) 0) + 1 = 2
    rw [deep_ints]; rfl
  rw [this]; rfl
/-- a map stands at p -/
def MapAt (K : Frag) (H : Hp) (p : Addr) (n : Int) (ps : List Int) : Prop := ∃ t, SqT K H p [.int n, .ref t] ∧ SqT K H t (ps.map V.int)
/-! ### rules -/
theorem Same.seqT {K : PySem.W.Frag} {H H' : Hp} {a : Addr} {xs : List V} (e : Same H H') (h : SqT K H a xs) : SqT K H' a xs := by
  rcases h with (h | ⟨o, h⟩) | h
  · exact .inl (.inl (e _ _ h))
  · exact .inl (.inr ⟨o, e _ _ h⟩)
  · exact .inr h
theorem MapAt.same {K : Frag} {H H' : Hp} {p : Addr} {n : Int} {ps : List Int} (h : MapAt K H p n ps) (s : Same H H') : MapAt K H' p n ps := by
  obtain ⟨t, h1, h2⟩ := h
  exact ⟨t, Same.seqT s h1, Same.seqT s h2⟩
theorem MapAt.dp {K : Frag} {H : Hp} {p : Addr} {n : Int} {ps : List Int} (h : MapAt K H p n ps) : Dp K H (.ref p) (mapD n ps) := by
  obtain ⟨t, h1, h2⟩ := h
  exact .tup h1 (.cons (.int _) (.cons (.tup h2 (dp_ints ps)) .nil))
section
variable {X : Cx}
def rCntT (K : PySem.W.Frag) : V → List V → Hp → VK → Prop := fun x xs H Q => ∃ (p : Addr) (ns : List Int) (k : Int), x = .ref p ∧ xs = [.int k] ∧ SqT K H p (ns.map V.int) ∧ Q (.int (ns.count k : Nat)) H
theorem mt_tcount : MtR X "tuple.count" (rCntT X.K) := by
  intro pins s σ H x xs v us Q I rx rxs h
  obtain ⟨p, ns, k, rfl, rfl, hs, q⟩ := h
  cases rx
  obtain ⟨u, rfl, ru⟩ := rxs.one
  obtain ⟨t, rfl⟩ := ru
  obtain ⟨its, rv, ⟨⟨cls, dd, data, sl⟩, ho, hc, n, hd⟩, hlen⟩ := I.tuple hs
  simp only at hc hd
  subst hc hd
  have hi := ints_of_vals rv
  refine call_meets PySem.F.slot_tuple_count ⟨_, ho, rfl⟩ PySem.F.entry_tuple_count (PySem.F.args_tuple_count_2 _ _)
    (SeqAt.tuple_countAt p its.toArray n dd sl (.int k t) (eqk k)) ⟨ho, fun y hy => (eqk_gives hi y (by simpa using hy)).at _ _, ?_⟩
  have ec : its.toArray.toList.countP (eqk k) = ns.count k := eqk_count hi
  refine ⟨.int (ns.count k : Nat), H, I.tok _, ⟨s.toks, ?_⟩, q⟩
  show Value.int ((its.toArray.toList.countP (eqk k) : Nat) : Int) s.toks = Value.int ((ns.count k : Nat) : Int) s.toks
  rw [ec]
end
/-! ### a tuple's method: the tuple is kept as the object that was made, which has no dict -/
/-- a tuple of xs stands at p, as an object without a dict -/
def TupO (H : Hp) (p : Addr) (xs : List V) : Prop := ∃ o : Obj, o.dict = none ∧ H p = some (.frz o (.tup xs))
theorem TupO.sq {K : Frag} {H : Hp} {p : Addr} {xs : List V} (h : TupO H p xs) : SqT K H p xs := by
  obtain ⟨o, _, h⟩ := h
  exact .inl (.inr ⟨o, h⟩)
theorem TupO.same {H H' : Hp} {p : Addr} {xs : List V} (h : TupO H p xs) (s : Same H H') : TupO H' p xs := by
  obtain ⟨o, d, h⟩ := h
  exact ⟨o, d, s _ _ h⟩
theorem TupO.kp {H H' : Hp} {d p : Addr} {xs ys : List V} (h : TupO H p xs) (hd : H d = some (.lst ys)) (s : Kp [d] H H') : TupO H' p xs := by
  obtain ⟨o, e, h⟩ := h
  exact ⟨o, e, s p _ (fun z => by rw [List.mem_singleton.mp z, hd] at h; cases h) h⟩
section
open PySem.Spec PyProof.Rows
variable {X : Cx}
theorem call_tuple_ofD : CallR X (.type "tuple") (fun xs H Q => ∃ p ys, xs = [.ref p] ∧ SqL X.K H p ys ∧ ∀ (l : Addr) (o : Obj), H l = none → o.dict = none → Q (.ref l) (upd H l (.frz o (.tup ys)))) := by
  intro pins s σ H xs us Q I r h
  obtain ⟨p, ys, rfl, hq, q⟩ := h
  obtain ⟨u, rfl, rx⟩ := r.one
  cases rx
  obtain ⟨its, r', pl, hz⟩ := I.list hq
  have hlen := r'.length
  refine call_tuple_list pl.isList (fun h' kp => ?_) (by simp only [List.size_toArray] <;> omega)
  have I1 : Inv X pins σ H { s with heap := h' } := I.kept (t' := s.toks) kp
  have I2 : Inv X pins σ (upd H h'.objs.size (.frz { cls := .type "tuple", data := .seq its.toArray } (.tup ys))) { s with heap := h'.push { cls := .type "tuple", data := .seq its.toArray } } :=
    I1.laid (t' := s.toks) (fun b o e => Heap.get?_push_of_some _ e) (Nat.le_refl _) (show ObjOk X.prog X.w _ _ _ (.frz { cls := .type "tuple", data := .seq its.toArray } (.tup ys)) from ⟨Heap.get?_push_size _ rfl, hz, its, r', IsTup.new _ _⟩)
  exact ⟨.ref h'.objs.size, _, I2, rfl, q _ _ (I1.hok.fresh (Nat.le_refl _)) rfl⟩
def tBMT (r : V → List V → Hp → VK → Prop) (to : TE) (t : TA) : TE := fun σ H Q => to σ H fun x H1 => (∃ p ys, x = .ref p ∧ TupO H1 p ys) ∧ t σ H1 fun xs H2 => r x xs H2 Q
variable {o e : Expr} {es : List Expr} {to : TE} {t : TA} {name : Str} {apos cpos : Pos} {id : String} {r : V → List V → Hp → VK → Prop}
theorem pe_bmT (slot : Slot "tuple" name id) (hty : typeOf (.builtin id) = pure (.type "method_descriptor")) (hm : MtR X id r) (ho : PE X o to) (ha : PA X (e :: es) t)
    (hbase : attributeBase o name X.env (eval o X.env) = eval o X.env := by rfl)
    (hfew : ((backTo cpos (starEach (e :: es) X.env)).all (fun x => !x.1) && (backToKw cpos (keywordEach [] X.env)).all (fun x => x.1.isSome)
      && decide ((e :: es).length + ([] : List Keyword).length + (if ([] : List Keyword).isEmpty then 0 else 1) < 30)) = true := by rfl)
    (hline : (apos.endLine == cpos.line) = true := by rfl) (hs : starEach (e :: es) X.env = (false, eval e X.env) :: starEach es X.env := by rfl) (hplain : (backTo cpos (starEach es X.env)).any (·.1) = false := by rfl) :
    PE X (.Call (.Attribute o name apos) (e :: es) [] cpos) (tBMT r to t) := by
  refine ⟨fun pins s σ H Q I h => ?_⟩
  refine wpAny_Call_method_late hbase hfew hline rfl (thn (ho.run pins s σ H _ I h) fun v s1 ⟨x, H1, I1, r1, ty, q1⟩ => ?_)
  obtain ⟨p, ys, ex, ob, hd, hp⟩ := ty
  subst ex
  obtain rfl : v = Value.ref p := r1
  obtain ⟨hg, ho2⟩ := I1.hok p _ hp
  obtain ⟨_, its, rv, ob', hg', hc, _⟩ := ho2
  have e1 : ob = ob' := Option.some.inj (hg.symm.trans hg')
  subst e1
  refine ⟨"tuple", id, PySem.F.plainAttrs_tuple, slot, hty, ⟨ob, hg, hc⟩, fun a e => ?_, ?_⟩
  · cases e
    exact ⟨ob, hg, hd⟩
  have hA := ha.run cpos pins s1 σ H1 _ I1 q1
  rw [hs] at hA ⊢
  refine Calls.callWith_builtin (by show (false || (backTo cpos (starEach es X.env)).any (·.1)) = false; rw [hplain] <;> rfl) (Calls.evalArgs_plain ?_)
  exact thn hA fun us s2 ⟨vs, H2, I2, r2, q2⟩ => hm pins s2 σ H2 (.ref p) vs (.ref p) us Q I2 rfl r2 q2
end
/-- a comprehension over a tuple, each element a plain value, none left out -/
theorem lc_mapT {K : Frag} {a : Addr} {xs : List V} (f : V → V) {g : TG} {te : TE} {vs : List Nat} {σ : St} {H1 : Hp} {D : Addr} {Qd : Hp → Prop} (ha : SqT K H1 a xs) (hD : H1 D = none) (hl : xs.length ≤ 1000000)
    (hs : ∀ x H (R : V → Hp → Prop), x ∈ xs → Same H1 H → R (f x) H → g x (wipe σ vs) H fun σ2 H2 => wipe σ2 vs = wipe σ vs ∧ te σ2 H2 R) (hd : Qd (upd H1 D (.lst (xs.map f)))) :
    ∃ W : Nat → Nat → Hp → Prop, (∃ m, W 0 m (upd H1 D (.lst []))) ∧ ∀ i m H, W i m H →
      ((Itt K a).stop i H ∧ Qd H) ∨ ((Itt K a).go i H ∧ ∃ Nx : Hp → Prop, (∀ H', Nx H' → ∃ m', m' < m ∧ W (i + 1) m' H') ∧ ∀ x H', (Itt K a).yld i H x H' → g x (wipe σ vs) H' fun σ2 H2 => wipe σ2 vs = wipe σ vs ∧ tYes σ2 H2 fun b H3 =>
        if b = true then te σ2 H3 fun y H4 => ∃ acc, H4 D = some (.lst acc) ∧ acc.length < sizeLine ∧ Nx (upd H4 D (.lst (acc ++ [y]))) else Nx H3) := by
  refine lc_tup (K := K) (a := a) (xs := xs) (fun i H => H = upd H1 D (.lst ((xs.take i).map f))) rfl (fun i H _ e => ?_) ?_ ?_
  · rw [e]; exact Same.seqT (same_new hD _) ha
  · rintro i x H hx rfl
    refine hs x _ (fun y H4 => ∃ acc, H4 D = some (.lst acc) ∧ acc.length < sizeLine ∧ upd H4 D (.lst (acc ++ [y])) = upd H1 D (.lst ((xs.take (i + 1)).map f))) (List.mem_of_getElem? hx) (same_new hD _) ⟨_, upd_same, ?_, ?_⟩
    · rw [List.length_map, List.length_take]; rw [sizeLine_eq]; omega
    · rw [upd_upd, List.take_add_one, hx, List.map_append]; rfl
  · rintro H rfl
    rw [List.take_length]
    exact hd
/-- and over a list -/
theorem lc_mapL {K : Frag} {a : Addr} {xs : List V} (f : V → V) {g : TG} {te : TE} {vs : List Nat} {σ : St} {H1 : Hp} {D : Addr} {Qd : Hp → Prop} (ha : SqL K H1 a xs) (hD : H1 D = none) (hl : xs.length ≤ 1000000)
    (hs : ∀ x H (R : V → Hp → Prop), x ∈ xs → Same H1 H → R (f x) H → g x (wipe σ vs) H fun σ2 H2 => wipe σ2 vs = wipe σ vs ∧ te σ2 H2 R) (hd : Qd (upd H1 D (.lst (xs.map f)))) :
    ∃ W : Nat → Nat → Hp → Prop, (∃ m, W 0 m (upd H1 D (.lst []))) ∧ ∀ i m H, W i m H →
      ((Itl K a).stop i H ∧ Qd H) ∨ ((Itl K a).go i H ∧ ∃ Nx : Hp → Prop, (∀ H', Nx H' → ∃ m', m' < m ∧ W (i + 1) m' H') ∧ ∀ x H', (Itl K a).yld i H x H' → g x (wipe σ vs) H' fun σ2 H2 => wipe σ2 vs = wipe σ vs ∧ tYes σ2 H2 fun b H3 =>
        if b = true then te σ2 H3 fun y H4 => ∃ acc, H4 D = some (.lst acc) ∧ acc.length < sizeLine ∧ Nx (upd H4 D (.lst (acc ++ [y]))) else Nx H3) := by
  refine lc_list (K := K) (a := a) (xs := xs) (fun i H => H = upd H1 D (.lst ((xs.take i).map f))) rfl (fun i H _ e => ?_) ?_ ?_
  · rw [e]; exact Same.seq (same_new hD _) ha
  · rintro i x H hx rfl
    refine hs x _ (fun y H4 => ∃ acc, H4 D = some (.lst acc) ∧ acc.length < sizeLine ∧ upd H4 D (.lst (acc ++ [y])) = upd H1 D (.lst ((xs.take (i + 1)).map f))) (List.mem_of_getElem? hx) (same_new hD _) ⟨_, upd_same, ?_, ?_⟩
    · rw [List.length_map, List.length_take]; rw [sizeLine_eq]; omega
    · rw [upd_upd, List.take_add_one, hx, List.map_append]; rfl
  · rintro H rfl
    rw [List.take_length]
    exact hd
theorem cut_from {α : Type} (f : α → V) (xs : List α) (i : Nat) : cutV (xs.map f) (some (i : Int)) none = (xs.drop i).map f := by
  unfold cutV
  rw [HT.sIx_nat, HT.sIx_none, List.length_map, ← List.map_drop, ← List.map_take]
  congr 1
  by_cases h : i ≤ xs.length
  · rw [Nat.min_eq_left h, List.take_of_length_le (by rw [List.length_drop]; omega)]
  · rw [Nat.min_eq_right (by omega), List.drop_of_length_le (Nat.le_refl _), List.drop_of_length_le (by omega), List.take_nil]
theorem cut_upto {α : Type} (f : α → V) (xs : List α) (i : Nat) : cutV (xs.map f) none (some (i : Int)) = (xs.take i).map f := by
  unfold cutV
  rw [HT.sIx_nat, HT.sIx_none, List.length_map, ← List.map_drop, ← List.map_take, List.drop_zero, Nat.sub_zero]
  congr 1
  by_cases h : i ≤ xs.length
  · rw [Nat.min_eq_left h]
  · rw [Nat.min_eq_right (by omega), List.take_of_length_le (Nat.le_refl _), List.take_of_length_le (by omega)]
/-- a tuple's slice t[i:], as what it holds -/
theorem slT_from {K : Frag} {H : Hp} {a : Addr} {α : Type} {f : α → V} {xs : List α} {i : Nat} {Q : VK} (ha : SqT K H a (xs.map f)) (q : ∀ p H', Same H H' → SqT K H' p ((xs.drop i).map f) → Q (.ref p) H') : rSlA K (.ref a) (some (i : Int)) none H Q := by
  refine ⟨a, _, rfl, ha, fun c => ?_, fun _ p np => ?_⟩
  · have c1 := c.1
    rw [HT.sIx_nat, List.length_map] at c1
    have : xs.drop i = xs := by
      rcases Nat.eq_zero_or_pos i with h | h
      · rw [h, List.drop_zero]
      · have : xs.length = 0 := by omega
        rw [List.length_eq_zero_iff.mp this, List.drop_nil]
    refine q a H (Same.refl H) ?_
    rw [this]; exact ha
  · rw [cut_from]
    exact q p _ (same_new np _) (SqT.of upd_same)
theorem slT_fromP {K : Frag} {H : Hp} {a : Addr} {α : Type} {f : α → V} {xs : List α} {i : Nat} {Q : VK} {σ : St} (ha : SqT K H a (xs.map f)) (q : ∀ p H', Same H H' → SqT K H' p ((xs.drop i).map f) → Q (.ref p) H') : tNoPart σ H fun u H3 => rSlA K (.ref a) (some (i : Int)) u H3 Q := slT_from ha q
theorem slT_upto {K : Frag} {H : Hp} {a : Addr} {α : Type} {f : α → V} {xs : List α} {i : Nat} {Q : VK} (ha : SqT K H a (xs.map f)) (q : ∀ p H', Same H H' → SqT K H' p ((xs.take i).map f) → Q (.ref p) H') : rSlA K (.ref a) none (some (i : Int)) H Q := by
  refine ⟨a, _, rfl, ha, fun c => ?_, fun _ p np => ?_⟩
  · have c1 := c.2
    rw [HT.sIx_nat, List.length_map] at c1
    refine q a H (Same.refl H) ?_
    rw [List.take_of_length_le (by omega)]; exact ha
  · rw [cut_upto]
    exact q p _ (same_new np _) (SqT.of upd_same)
/-- two tuples' sum, by what they hold -/
theorem catT_map {K : Frag} {H : Hp} {a b : Addr} {xs ys : List V} {Q : VK} (ha : SqT K H a xs) (hb : SqT K H b ys) (hl : xs.length + ys.length ≤ 1000000)
    (q : ∀ p H', Same H H' → SqT K H' p (xs ++ ys) → Q (.ref p) H') : rCatA K (.ref a) (.ref b) H Q := by
  refine ⟨a, b, xs, ys, rfl, rfl, ha, hb, by rw [sizeLine_eq]; omega, fun e => ?_, fun _ e => ?_, fun _ _ p np => ?_⟩
  · subst e; exact q b H (Same.refl H) hb
  · subst e; exact q a H (Same.refl H) (by rw [List.append_nil]; exact ha)
  · exact q p _ (same_new np _) (SqT.of upd_same)
end Cm
namespace Cm
open PySem PySem.W L2 SX PySem.Spec PyProof.Rows
/-- a tuple display, the tuple kept as the object that was made -/
def tTupD (t : TA) : TE := fun σ H Q => t σ H fun xs H1 => xs.length ≤ sizeLine ∧ ∀ (p : Addr) (o : Obj), H1 p = none → o.dict = none → Q (.ref p) (upd H1 p (.frz o (.tup xs)))
theorem pe_tupD {X : Cx} {es : List Expr} {t : TA} {pos : Pos} {x1} (h : PA X es t) : PE X (.Tuple es x1 pos) (tTupD t) := by
  refine ⟨fun pins s σ H Q I hq => ?_⟩
  refine wpAny_Tuple_spliced (thn (h.run pos pins s σ H _ I hq) fun us s1 ⟨xs, H1, I1, r, z, q⟩ => ⟨by rw [← r.length]; exact z, ?_⟩)
  have hf : H1 s1.heap.objs.size = none := I1.hok.fresh (Nat.le_refl _)
  refine ⟨.ref s1.heap.objs.size, upd H1 s1.heap.objs.size (.frz { cls := .type "tuple", data := .seq us.toArray } (.tup xs)), I1.laid (t' := s1.toks) (fun b u e => Heap.get?_push_of_some _ e) (Nat.le_refl _) ?_, rfl, q _ _ hf rfl⟩
  exact ⟨Heap.get?_push_size _ rfl, z, us, r, ⟨_, Heap.get?_push_size _ rfl, rfl, _, rfl⟩⟩
end Cm
namespace K49
open PySem PySem.W L2 SX Cm
def top (i : Nat) : Stmt := PySem.Challenge.pw_takeleave_k49_rows_that_are_entered.main.body.getD i (.Pass ⟨0, 0, 0, 0⟩)
abbrev sIsWhole : Stmt := top 1
abbrev sIsPush : Stmt := top 3
abbrev sIsRP : Stmt := top 4
abbrev sMay : Stmt := top 8
abbrev sPair : Stmt := top 9
abbrev sDeck : Stmt := top 11
abbrev sNext : Stmt := top 12
abbrev sBasic : Stmt := top 13
abbrev sShuffle : Stmt := top 14
abbrev sNumber : Stmt := top 15
abbrev sThing : Stmt := top 16
abbrev sWord : Stmt := top 17
abbrev sRow : Stmt := top 18
abbrev sNames : Stmt := top 19
abbrev sLMay : Stmt := top 21
abbrev sAround : Stmt := top 22
abbrev sMixedRow : Stmt := top 23
abbrev sUnlike : Stmt := top 24
abbrev sLaw : Stmt := top 25
def dkV (c : Addr) (s k : Int) : List (Key × V) := [(.inr "cells", .ref c), (.inr "seed", .int s), (.inr "count", .int k)]
/-- a deck stands at d, its cells at c -/
def Dk (H : Hp) (d c : Addr) : Prop := ∃ (s k : Int) (ms : List Int), H d = some (.dK (dkV c s k)) ∧ H c = some (.lst (ms.map V.int)) ∧ ms.length ≤ 63
theorem Dk.same {d c : Addr} {H H' : Hp} (a : Dk H d c) (h : Same H H') : Dk H' d c := by
  obtain ⟨s, k, ms, e, e2, l⟩ := a
  exact ⟨s, k, ms, h _ _ e, h _ _ e2, l⟩
theorem Dk.new {d c p : Addr} {H : Hp} {o : HO} (a : Dk H d c) (h : H p = none) : Dk (upd H p o) d c := a.same (same_new h o)
theorem Dk.put {d c p : Addr} {H : Hp} {o : HO} (a : Dk H d c) (h : p ∉ [d, c]) : Dk (upd H p o) d c := by
  obtain ⟨s, k, ms, e, e2, l⟩ := a
  have h1 : d ≠ p := fun z => h (by rw [z]; exact List.mem_cons_self ..)
  have h2 : c ≠ p := fun z => h (by rw [z]; exact List.mem_cons_of_mem _ (List.mem_cons_self ..))
  exact ⟨s, k, ms, by rw [upd_ne h1]; exact e, by rw [upd_ne h2]; exact e2, l⟩
theorem Dk.nd {d c p : Addr} {H : Hp} (a : Dk H d c) (h : H p = none) : p ∉ [d, c] := fun z => by
  obtain ⟨s, k, ms, e, e2, l⟩ := a
  simp only [List.mem_cons, List.not_mem_nil, or_false] at z
  rcases z with rfl | rfl
  · rw [e] at h; cases h
  · rw [e2] at h; cases h
theorem Dk.tks {K : Frag} {d c : Addr} {H H' : Hp} (a : Dk H d c) (k : Kp [d, c] H H') : TKs K H H' := fun b xs h => by
  obtain ⟨s, kk, ms, e, e2, l⟩ := a
  have nm : ∀ o, H b = some o → (∀ ys, o ≠ .lst ys) → (∀ ys, o ≠ .dK ys) → b ∉ [d, c] := fun o eo n1 n2 z => by
    simp only [List.mem_cons, List.not_mem_nil, or_false] at z
    rcases z with rfl | rfl
    · rw [e] at eo; exact n2 _ (Option.some.inj eo).symm
    · rw [e2] at eo; exact n1 _ (Option.some.inj eo).symm
  rcases h with (h | ⟨o, h⟩) | h
  · exact .inl (.inl (k _ _ (nm _ h (fun _ z => by cases z) (fun _ z => by cases z)) h))
  · exact .inl (.inr ⟨o, k _ _ (nm _ h (fun _ z => by cases z) (fun _ z => by cases z)) h⟩)
  · exact .inr h
theorem m1 {d c : Addr} : d ∈ [d, c] := List.mem_cons_self ..
theorem m2 {d c : Addr} : c ∈ [d, c] := List.mem_cons_of_mem _ (List.mem_cons_self ..)
theorem gC (c : Addr) (s k : Int) : valV (dkV c s k) (.inr "cells") = some (.ref c) := rfl
theorem gS (c : Addr) (s k : Int) : valV (dkV c s k) (.inr "seed") = some (.int s) := rfl
theorem gK (c : Addr) (s k : Int) : valV (dkV c s k) (.inr "count") = some (.int k) := rfl
theorem pS (c : Addr) (s k n : Int) : putK (dkV c s k) (.inr "seed") (.int n) = dkV c n k := rfl
theorem pK (c : Addr) (s k n : Int) : putK (dkV c s k) (.inr "count") (.int n) = dkV c s n := rfl
section
variable {P : Program} {w : World} {K : PySem.W.Frag} {mg : Str → Option Value} {base : Heap}
theorem sameL {K : PySem.W.Frag} {H H' : Hp} {a : Addr} {xs : List V} (s : Same H H') (h : SqL K H a xs) : SqL K H' a xs := by
  rcases h with (h | ⟨o, h⟩) | h
  · exact .inl (.inl (s _ _ h))
  · exact .inl (.inr ⟨o, s _ _ h⟩)
  · exact .inr h
def spDeck (K : PySem.W.Frag) : Sp := fun vs H Q _ => ∃ (a : Addr) (ns : List Int), vs = [.ref a] ∧ SqL K H a (ns.map V.int) ∧ ns.length ≤ 63 ∧
  ∀ (p c : Addr) (H' : Hp), Same H H' → H p = none → H c = none → Dk H' p c → Q (.ref p) H'
theorem scDeck : FnScope ["_law_script"] ["_law_script"] (defScope sDeck) := ⟨rfl, rfl, rfl, by decide +kernel, rfl, by decide +kernel, by decide +kernel⟩
theorem ok_deck {f : Addr} {fd : FuncData} (F : Fun K "_law_deck" "_law_deck" sDeck f fd) (mlist : mg "list" = none) (msum : mg "sum" = none) : FnOk P w K mg base CX0 1 f fd ["_law_script"] (spDeck K) := by
  refine F.ok scDeck (fun vs H Q E h => ?_) (fun cdv A outer s H vs Q E hr h => ?_)
  · obtain ⟨a, ns, rfl, _⟩ := h
    rfl
  obtain ⟨a, ns, rfl, hS, h63, q⟩ := h
  refine ⟨_, pss_one (ps_ret (pe_disp (pps_cons pe_str (pe_callTy call_list_of (by rfl) mlist (by decide +kernel) (pa_cons (pe_slice sl_list (pv 0) po_none (po_some pe_int)) pa_nil)) (pps_cons pe_str (pe_op op_add (pe_op op_mod (pe_callB (cr_sum rfl) (by rfl) msum PyProof.Rows.boot_sum (pa_cons (pv 0) pa_nil)) pe_int) pe_int) (pps_cons pe_str pe_int pps_nil))) (by rfl) (by rfl) (fun z => by cases z) (by decide))), ?_⟩
  refine fun p n0 => ?_
  have s0 : Same H (upd H p (.dK [])) := same_new n0 _
  refine ⟨_, rfl, 63, rfl, a, _, rfl, sameL s0 hS, fun p1 n1 => ?_⟩
  obtain ⟨ds, e1, l1⟩ := cut_map V.int ns none (some 63)
  rw [e1]
  have s1 := s0.trans (same_new n1 (.lst (ds.map V.int)))
  refine ⟨p1, _, rfl, .inl (SqL.of upd_same), fun p2 n2 => ?_⟩
  have s2 := s1.trans (same_new n2 (.lst (ds.map V.int)))
  refine ⟨_, rfl, a, ns, rfl, sameL s2 hS, _, _, rfl, rfl, (by show (0 : Int) < 2147483629; decide), _, _, rfl, rfl, ?_⟩
  refine ⟨kn (kn upd_same n1) n2, dkV p2 (ns.sum % 2147483629 + 7919) 0, rfl, (by show 3 ≤ 15; decide), ?_⟩
  refine q p p2 _ (own_new s2 n0) n0 (s1.free n2) ⟨ns.sum % 2147483629 + 7919, 0, ds, ?_, ?_, by omega⟩
  · rw [upd_same]; rfl
  · rw [upd_ne (fun z => by rw [z] at n2; rw [kn upd_same n1] at n2; cases n2), upd_same]
def spNext : Sp := fun vs H Q _ => ∃ (d c : Addr) (m : Int), vs = [.ref d, .int m] ∧ Dk H d c ∧ 0 < m ∧ m < 2 ^ 64 ∧
  ∀ (r : Int) (H' : Hp), 0 ≤ r → r < m → Kp [d, c] H H' → Dk H' d c → Q (.int r) H'
abbrev NX : List Str := ["_law_deck_here", "_law_most", "_law_cells", "_law_number_here", "_law_seed"]
theorem scNext : FnScope NX ["_law_deck_here", "_law_most"] (defScope sNext) := ⟨rfl, rfl, rfl, by decide +kernel, rfl, by decide +kernel, by decide +kernel⟩
theorem ok_next {f : Addr} {fd : FuncData} (F : Fun K "_law_next" "_law_next" sNext f fd) : FnOk P w K mg base CX0 2 f fd ["_law_deck_here", "_law_most"] spNext := by
  refine F.ok scNext (fun vs H Q E h => ?_) (fun cdv A outer s H vs Q E hr h => ?_)
  · obtain ⟨d, c, m, rfl, _⟩ := h
    rfl
  obtain ⟨d, c, m, rfl, ⟨sd, k, ms, hd, hc, hl⟩, m0, m1', q⟩ := h
  have hu : (A.deeper (PyProof.Rows.envOfC "_law_next" (defScope sNext) s.heap.objs.size f cdv)).units + 1 < cLine := by have := hr.units; omega
  have hu4 : (A.deeper (PyProof.Rows.envOfC "_law_next" (defScope sNext) s.heap.objs.size f cdv)).units + 64 < cLine := by have := hr.units; omega
  refine ⟨_, pss_cons (ps_asg (pe_op op_add (pe_dget hu (pv 0) pe_str (fun _ _ => rfl)) pe_int) (pg_sub (pv 0) pe_str (L2.set_dict hu)))
    (pss_cons (ps_set (i := 2) scNext.nd rfl (.inl rfl) (pe_dget hu (pv 0) pe_str (fun _ _ => rfl)))
    (pss_cons (ps_set (i := 3) scNext.nd rfl (.inl rfl) pe_int)
    (C8.pss_cut (ps_if (PW.pt (pw_and (pt_cmpR (op_neD hu4) (pv 2) (pe_lst pa_nil) (nomark _)) (pw_and1 (pt_cmpR op_ge (pe_ix ix_list (pv 2) pe_int (fun _ _ => rfl)) (pe_op op_pow pe_int pe_int) (nomark _)))))
      (pss_cons (ps_set (i := 3) scNext.nd rfl (.inl rfl) (pe_op op_mod (pe_ix ix_list (pv 2) pe_int (fun _ _ => rfl)) (pv 1)))
      (pss_cons (ps_asg (pe_op op_fdivW (pe_ix ix_list (pv 2) pe_int (fun _ _ => rfl)) (pv 1)) (pg_sub (pv 2) pe_int set_list))
      (pss_one (ps_ret (pv 3))))) pss_nil)
    (C8.pss_cut (ps_if (pt_cmpR (op_neD hu4) (pv 2) (pe_lst pa_nil) (nomark _))
      (pss_one (ps_set (i := 3) scNext.nd rfl (.inl rfl) (pe_bm PySem.F.plainAttrs_list PySem.F.slot_list_pop PySem.F.type_list_pop mt_popAt (pv 2) (pa_cons pe_int pa_nil)))) pss_nil)
    (pss_cons (ps_set (i := 4) scNext.nd rfl (.inl rfl) (pe_op op_mod (pe_op op_add (pe_op op_add (pe_op op_mul (pe_dget hu (pv 0) pe_str (fun _ _ => rfl)) pe_int) (pe_op op_mul pe_int (pe_dget hu (pv 0) pe_str (fun _ _ => rfl)))) (pv 3)) pe_int))
    (pss_cons (ps_asg (pv 4) (pg_sub (pv 0) pe_str (L2.set_dict hu)))
    (pss_one (ps_ret (pe_op op_mod (pe_op op_mod (pe_op op_mul (pv 4) (pe_op op_add (pe_op op_fdiv (pv 4) pe_int) pe_int)) pe_int) (pv 1)))))))))), ?_⟩
  have hdc : d ≠ c := fun z => by rw [z, hc] at hd; cases hd
  have g0 : DGet H d (.str "count") (some (.int k)) := by rw [← gK c sd k]; exact DGet.k (k := Sum.inr "count") hd
  refine ⟨_, rfl, d, _, rfl, g0, _, _, rfl, rfl, _, rfl, d, _, rfl, DPut.k (k := Sum.inr "count") hd (by show 3 < sizeLine; decide), ?_⟩
  rw [pK]
  have hd1 : upd H d (.dK (dkV c sd (k + 1))) d = some (.dK (dkV c sd (k + 1))) := upd_same
  have hc1 : upd H d (.dK (dkV c sd (k + 1))) c = some (.lst (ms.map V.int)) := by rw [upd_ne hdc.symm]; exact hc
  have k1 : Kp [d, c] H (upd H d (.dK (dkV c sd (k + 1)))) := (Kp.refl _ H).own m1
  generalize upd H d (.dK (dkV c sd (k + 1))) = H1 at hd1 hc1 k1
  have g1 : DGet H1 d (.str "cells") (some (.ref c)) := by rw [← gC c sd (k + 1)]; exact DGet.k (k := Sum.inr "cells") hd1
  refine ⟨_, rfl, d, _, rfl, g1, ?_⟩
  have emp : ∀ (H2 : Hp) (L : Addr), H2 L = some (.lst []) → Dp K H2 (.ref L) (.list []) := fun H2 L e => .lst (SqL.of e) .nil
  have ne0 : (!PyData.eqv (.list (ms.map PyData.int)) (.list [])) = decide (ms ≠ []) := by
    cases ms with
    | nil => rfl
    | cons x r => rfl
  refine ⟨fun σ H' => σ = [some (.ref d), some (.int m), some (.ref c), some (.int 0), none] ∧ Kp [d, c] H H' ∧ H' d = some (.dK (dkV c sd (k + 1))) ∧ H' c = some (.lst (ms.map V.int)), ?_, ?_⟩
  · refine ⟨_, rfl, (by show 0 ≤ sizeLine; decide), fun L nL => ⟨.list (ms.map PyData.int), .list [], .lst (SqL.of (kn hc1 nL)) (dp_ints ms), emp _ _ upd_same, Cm.shaped_ints ms, (by decide +kernel), _, rfl, ?_⟩⟩
    have k2 : Kp [d, c] H (upd H1 L (.lst [])) := k1.new nL
    have hd2 := kn (o' := .lst []) hd1 nL
    have hc2 := kn (o' := .lst []) hc1 nL
    generalize upd H1 L (.lst []) = H2 at k2 hd2 hc2
    rw [ne0]
    by_cases hne : ms ≠ []
    · rw [decide_eq_true hne]
      refine iteT ?_
      obtain ⟨x, r, rfl⟩ := List.exists_cons_of_ne_nil hne
      have a0 : atI ((x :: r).map V.int) 0 = some (V.int x) := atI_nat (j := 0) rfl
      refine ⟨_, rfl, c, _, _, _, rfl, rfl, SqL.of hc2, a0, _, _, rfl, rfl, ⟨by decide, by decide, by decide⟩, _, _, rfl, rfl, _, rfl, ?_⟩
      refine ite2 (fun _ => ?_) (fun _ => ?_)
      · refine ⟨_, rfl, c, _, _, _, rfl, rfl, SqL.of hc2, a0, _, rfl, _, _, rfl, rfl, m0, ?_⟩
        refine ⟨_, rfl, c, _, _, _, rfl, rfl, SqL.of hc2, a0, _, rfl, _, _, rfl, rfl, wide_div m0 (b := 64) (by omega) (by decide) (by decide), _, rfl, c, _, _, 0, rfl, rfl, hc2, (by unfold ixN; simp), ?_⟩
        refine ⟨_, rfl, ?_⟩
        refine q _ _ (Int.emod_nonneg _ (by omega)) (Int.emod_lt_of_pos _ m0) (k2.own m2) ⟨sd, k + 1, x / m :: r, ?_, ?_, ?_⟩
        · rw [upd_ne hdc]; exact hd2
        · rw [upd_same]; rfl
        · rw [List.length_cons] at hl ⊢; exact hl
      · exact ⟨rfl, k2, hd2, hc2⟩
    · rw [decide_eq_false hne]
      refine iteF (iteF ?_)
      exact ⟨rfl, k2, hd2, hc2⟩
  rintro σ H3 ⟨rfl, k3, hd3, hc3⟩
  refine ⟨fun σ H' => ∃ (n : Int) (ms' : List Int), σ = [some (.ref d), some (.int m), some (.ref c), some (.int n), none] ∧ Kp [d, c] H H' ∧ H' d = some (.dK (dkV c sd (k + 1))) ∧ H' c = some (.lst (ms'.map V.int)) ∧ ms'.length ≤ 63, ?_, ?_⟩
  · refine ⟨_, rfl, (by show 0 ≤ sizeLine; decide), fun L nL => ⟨.list (ms.map PyData.int), .list [], .lst (SqL.of (kn hc3 nL)) (dp_ints ms), emp _ _ upd_same, Cm.shaped_ints ms, (by decide +kernel), _, rfl, ?_⟩⟩
    have k2 : Kp [d, c] H (upd H3 L (.lst [])) := k3.new nL
    have hd2 := kn (o' := .lst []) hd3 nL
    have hc2 := kn (o' := .lst []) hc3 nL
    generalize upd H3 L (.lst []) = H2 at k2 hd2 hc2
    rw [ne0]
    by_cases hne : ms ≠ []
    · rw [decide_eq_true hne]
      refine iteT ?_
      obtain ⟨x, r, rfl⟩ := List.exists_cons_of_ne_nil hne
      refine ⟨_, rfl, .inl ⟨rfl, _, SqL.of hc2⟩, c, _, 0, 0, _, rfl, rfl, hc2, by decide, by decide, (by unfold seqIndex?; simp), rfl, ?_⟩
      refine ⟨x, r, rfl, k2.own m2, ?_, ?_, ?_⟩
      · rw [upd_ne hdc]; exact hd2
      · rw [upd_same]; rfl
      · rw [List.length_cons] at hl; omega
    · rw [decide_eq_false hne]
      refine iteF ?_
      exact ⟨0, ms, rfl, k2, hd2, hc2, hl⟩
  rintro σ H4 ⟨n, ms', rfl, k4, hd4, hc4, hl4⟩
  have g2 : DGet H4 d (.str "seed") (some (.int sd)) := by rw [← gS c sd (k + 1)]; exact DGet.k (k := Sum.inr "seed") hd4
  have g3 : DGet H4 d (.str "count") (some (.int (k + 1))) := by rw [← gK c sd (k + 1)]; exact DGet.k (k := Sum.inr "count") hd4
  refine ⟨_, rfl, d, _, rfl, g2, _, _, rfl, rfl, .inr ⟨by decide, by decide⟩, _, rfl, d, _, rfl, g3, _, _, rfl, rfl, .inl ⟨by decide, by decide⟩, _, _, rfl, rfl, _, rfl, _, _, rfl, rfl, _, _, rfl, rfl, (by show (0 : Int) < 2147483587; decide), ?_⟩
  generalize e1 : (sd * 48271 + 69621 * (k + 1) + n) % 2147483587 = n1
  have b1 : 0 ≤ n1 ∧ n1 < 2147483587 := by
    constructor
    · rw [← e1]; exact Int.emod_nonneg _ (by decide)
    · rw [← e1]; exact Int.emod_lt_of_pos _ (by decide)
  refine ⟨_, rfl, _, rfl, d, _, rfl, DPut.k (k := Sum.inr "seed") hd4 (by show 3 < sizeLine; decide), ?_⟩
  rw [pS]
  refine ⟨_, rfl, _, rfl, _, _, rfl, rfl, ⟨by decide, by decide⟩, _, _, rfl, rfl, _, _, rfl, rfl, .inl ⟨by omega, by omega⟩, _, _, rfl, rfl, (by show (0 : Int) < 2147483563; decide), _, rfl, _, _, rfl, rfl, m0, ?_⟩
  refine q _ _ (Int.emod_nonneg _ (by omega)) (Int.emod_lt_of_pos _ m0) (k4.own m1) ⟨_, k + 1, ms', upd_same, ?_, hl4⟩
  rw [upd_ne hdc.symm]; exact hc4
end
end K49
namespace K49
open PySem PySem.W L2 SX Cm
theorem Dk.kp {H : Hp} {d c p : Addr} {o : HO} {H' : Hp} (D : Dk H d c) (k : Kp [d, c] (upd H p o) H') (n : H p = none) : H' p = some o := k p o (D.nd n) upd_same
/-- one of a few values by a drawn number -/
theorem pick {α : Type} {xs : List α} {r : Int} {n : Nat} (h0 : 0 ≤ r) (h1 : r < n) (hl : xs.length = n) : ∃ x, x ∈ xs ∧ atI xs r = some x := by
  obtain ⟨r, rfl⟩ := Int.eq_ofNat_of_zero_le h0
  have hr : r < xs.length := by omega
  exact ⟨xs[r], List.getElem_mem hr, atI_nat (List.getElem?_eq_getElem hr)⟩
/-- one of two values by a truth -/
theorem pick2 {α : Type} {a b : α} (t : Bool) : atI [a, b] (if t = true then (1 : Int) else 0) = some (if t = true then b else a) := by
  cases t
  · exact atI_nat (j := 0) rfl
  · exact atI_nat (j := 1) rfl
section
variable {P : Program} {w : World} {K : PySem.W.Frag} {mg : Str → Option Value} {base : Heap}
def basics : List Str := ["plus", "minus", "times", "less", "same", "do", "dip", "if", "while", "repeat", "join", "wrap", "put", "part", "each"]
theorem basics_split : Txt.split "plus minus times less same do dip if while repeat join wrap put part each" " " = basics := by decide +kernel
theorem basics_tx : ∀ z ∈ basics, litB z 6 = true := by decide +kernel
def spBasic : Sp := fun vs H Q _ => vs = [] ∧ ∀ p H', H p = none → H' = upd H p (.lst (basics.map V.str)) → Q (.ref p) H'
theorem scBasic : FnScope ["_law_some"] [] (defScope sBasic) := ⟨rfl, rfl, rfl, by decide +kernel, rfl, by decide +kernel, by decide +kernel⟩
theorem ok_basic {f : Addr} {fd : FuncData} (F : Fun K "_law_basic" "_law_basic" sBasic f fd) : FnOk P w K mg base CX0 1 f fd [] spBasic := by
  refine F.ok scBasic (fun vs H Q E h => ?_) (fun cdv A outer s H vs Q E hr h => ?_)
  · obtain ⟨rfl, _⟩ := h
    rfl
  obtain ⟨rfl, q⟩ := h
  refine ⟨_, pss_cons (ps_set (i := 0) scBasic.nd rfl (.inl rfl) pe_str) (pss_one (ps_ret (pe_split (pv 0) pe_str))), ?_⟩
  refine ⟨_, rfl, ⟨_, rfl⟩, _, _, rfl, rfl, (by decide +kernel), (by decide +kernel), fun p np => ?_⟩
  rw [basics_split]
  exact q p _ np rfl
def spNumber (K : Frag) : Sp := fun vs H Q _ => ∃ (d c : Addr), vs = [.ref d] ∧ Dk H d c ∧ ∀ (v : V) (n : Int) (H' : Hp), 0 ≤ n → n < 10 ^ 12 → Kp [d, c] H H' → Dk H' d c → Tr K H' v (.tuple [.str "number", .int n]) → Q v H'
theorem scNumber : FnScope ["_law_deck_here", "_law_some"] ["_law_deck_here"] (defScope sNumber) := ⟨rfl, rfl, rfl, by decide +kernel, rfl, by decide +kernel, by decide +kernel⟩
theorem ok_number {f g : Addr} {fd gd : FuncData} (F : Fun K "_law_number" "_law_number" sNumber f fd) (G : FnOk P w K mg base CX0 2 g gd ["_law_deck_here", "_law_most"] spNext) (bG : L2.Binds K gd ["_law_deck_here", "_law_most"] []) (kG : keepIn K (.ref g) = true) (mG : mg "_law_next" = some (.ref g)) : FnOk P w K mg base CX0 3 f fd ["_law_deck_here"] (spNumber K) := by
  refine F.ok scNumber (fun vs H Q E h => ?_) (fun cdv A outer s H vs Q E hr h => ?_)
  · obtain ⟨d, c, rfl, _⟩ := h
    rfl
  obtain ⟨d, c, rfl, D0, q⟩ := h
  refine ⟨_, pss_cons (ps_set (i := 1) scNumber.nd rfl (.inl rfl) (pe_lst (pa_cons pe_int (pa_cons pe_int (pa_cons pe_int (pa_cons (pe_op op_sub (pe_op op_pow pe_int pe_int) pe_int) (pa_cons (pe_call G hr rfl mG kG bG .nil pass0 (pa_cons (pv 0) (pa_cons pe_int pa_nil))) (pa_cons (pe_call G hr rfl mG kG bG .nil pass0 (pa_cons (pv 0) (pa_cons (pe_op op_pow pe_int pe_int) pa_nil))) pa_nil))))))))
    (pss_one (ps_ret (pe_tup (pa_cons pe_str (pa_cons (pe_ix ix_list (pv 1) (pe_call G hr rfl mG kG bG .nil pass0 (pa_cons (pv 0) (pa_cons pe_int pa_nil))) (fun _ _ => rfl)) pa_nil))))), ?_⟩
  refine ⟨_, _, rfl, rfl, ⟨by decide, by decide, by decide⟩, _, _, rfl, rfl, _, rfl, d, c, 10, rfl, D0, by decide, by decide, fun r1 H1 a1 b1 k1 D1 => ?_⟩
  refine ⟨_, rfl, _, _, rfl, rfl, ⟨by decide, by decide, by decide⟩, d, c, _, rfl, D1, by decide, by decide, fun r2 H2 a2 b2 k2 D2 => ⟨(by show 6 ≤ sizeLine; decide), fun L nL => ?_⟩⟩
  refine ⟨_, rfl, _, rfl, d, c, 6, rfl, D2.new nL, by decide, by decide, fun r3 H3 a3 b3 k3 D3 => ?_⟩
  have b2' : r2 < 10 ^ 12 := b2
  obtain ⟨v, hv, ha⟩ := pick (xs := [V.int 0, .int 1, .int 2, .int ((10 : Int) ^ (12 : Int).toNat - 1), .int r1, .int r2]) (n := 6) a3 b3 rfl
  refine ⟨L, _, _, _, rfl, rfl, SqL.of (D2.kp k3 nL), ha, ?_⟩
  have kf := (k1.trans k2).trans ((Kp.refl _ _).new nL |>.trans k3)
  have fin : ∀ n : Int, 0 ≤ n → n < 10 ^ 12 → tTup (tCons (tC (.str "number")) (tCons (tC (.int n)) tNil)) [] H3 Q := fun n n0 n1 => ⟨(by show 2 ≤ sizeLine; decide), fun p np => q _ n _ n0 n1 (kf.new np) (D3.new np) (.tup (SqT.of upd_same) (.cons (.str _) (.cons (.int n) .nil)))⟩
  simp only [List.mem_cons, List.not_mem_nil, or_false] at hv
  rcases hv with rfl | rfl | rfl | rfl | rfl | rfl
  · exact fin _ (by decide) (by decide)
  · exact fin _ (by decide) (by decide)
  · exact fin _ (by decide) (by decide)
  · exact fin _ (by decide) (by decide)
  · exact fin _ a1 (by omega)
  · exact fin _ a2 b2'
/-- a drawn text -/
def spTx (n : Nat) : Sp := fun vs H Q _ => ∃ (d c : Addr), vs = [.ref d] ∧ Dk H d c ∧ ∀ (z : Str) (H' : Hp), Tx z n → Kp [d, c] H H' → Dk H' d c → Q (.str z) H'
abbrev NS : List Str := ["_law_deck_here", "_law_letters", "_law_n", "_law_many", "_law_k"]
theorem scShuffle : FnScope NS ["_law_deck_here"] (defScope sShuffle) := ⟨rfl, rfl, rfl, by decide +kernel, rfl, by decide +kernel, by decide +kernel⟩
theorem ok_shuffle {f g : Addr} {fd gd : FuncData} (F : Fun K "_law_shuffle" "_law_shuffle" sShuffle f fd) (G : FnOk P w K mg base CX0 2 g gd ["_law_deck_here", "_law_most"] spNext) (bG : L2.Binds K gd ["_law_deck_here", "_law_most"] []) (kG : keepIn K (.ref g) = true) (mG : mg "_law_next" = some (.ref g))
    (mint : mg "int" = none) (mlen : mg "len" = none) (mrange : mg "range" = none) : FnOk P w K mg base CX0 3 f fd ["_law_deck_here"] (spTx 100) := by
  refine F.ok scShuffle (fun vs H Q E h => ?_) (fun cdv A outer s H vs Q E hr h => ?_)
  · obtain ⟨d, c, rfl, _⟩ := h
    rfl
  obtain ⟨d, c, rfl, D0, q⟩ := h
  refine ⟨_, pss_cons (ps_set (i := 1) scShuffle.nd rfl (.inr rfl) pe_str)
    (pss_cons (ps_set (i := 2) scShuffle.nd rfl (.inr rfl) (pe_ix ix_list (pe_lst (pa_cons (pe_call G hr rfl mG kG bG .nil pass0 (pa_cons (pv 0) (pa_cons pe_int pa_nil))) (pa_cons (pe_call G hr rfl mG kG bG .nil pass0 (pa_cons (pv 0) (pa_cons pe_int pa_nil))) pa_nil))) (pe_callTy call_int1 (by rfl) mint (by decide +kernel) (pa_cons (pe_cmpR op_eq (pe_call G hr rfl mG kG bG .nil pass0 (pa_cons (pv 0) (pa_cons pe_int pa_nil))) pe_int (nomark _)) pa_nil)) (fun _ _ => rfl)))
    (pss_cons (ps_set (i := 3) scShuffle.nd rfl (.inl rfl) (pe_op op_mul (pe_ix ix_list (pe_lst (pa_cons (pe_call G hr rfl mG kG bG .nil pass0 (pa_cons (pv 0) (pa_cons pe_int pa_nil))) (pa_cons (pe_call G hr rfl mG kG bG .nil pass0 (pa_cons (pv 0) (pa_cons pe_int pa_nil))) pa_nil))) (pe_callTy call_int1 (by rfl) mint (by decide +kernel) (pa_cons (pe_cmpR op_eq (pe_call G hr rfl mG kG bG .nil pass0 (pa_cons (pv 0) (pa_cons pe_int pa_nil))) pe_int (nomark _)) pa_nil)) (fun _ _ => rfl)) (pe_callTy call_int1 (by rfl) mint (by decide +kernel) (pa_cons (pe_cmpR op_gt (pv 2) pe_int (nomark _)) pa_nil))))
    (pss_one (ps_ret (pe_op op_add_str (pe_op op_add_str (pe_slice sl_str (pv 1) po_none (po_some (pv 2))) pe_str) (pe_join pe_str (pe_lc (own := [("_law_k", 4)]) (g := gName 4) (tt := tYes) rfl scShuffle.nd (pi_range1 rfl mrange (pa_cons (pv 3) pa_nil)) (blkOk_by (own := [("_law_k", 4)]) (N := NS) (sc := defScope sShuffle) (by decide +kernel))
        (fun _ _ _ _ _ => pg_name (i := 4) scShuffle.nd rfl (Or.inl rfl)) (fun _ _ _ _ _ => pts_nil) (fun _ _ _ _ _ => pe_ix ix_str (pv 1) (pe_call G hr rfl mG kG bG .nil pass0 (pa_cons (pv 0) (pa_cons (pv 2) pa_nil))) (fun _ _ => rfl))))))))), ?_⟩
  refine ⟨_, rfl, d, c, 4, rfl, D0, by decide, by decide, fun a1 H1 p1 q1 k1 D1 => ?_⟩
  refine ⟨_, rfl, d, c, 9, rfl, D1, by decide, by decide, fun a2 H2 p2 q2 k2 D2 => ⟨(by show 2 ≤ sizeLine; decide), fun p np => ?_⟩⟩
  refine ⟨_, rfl, d, c, 4, rfl, D2.new np, by decide, by decide, fun a3 H3 _ _ k3 D3 => ⟨rfl, .inr ⟨_, rfl, ?_⟩⟩⟩
  have kk3 : Kp [d, c] H H3 := (k1.trans k2).trans ((Kp.refl _ _).new np |>.trans k3)
  have x8 : Tx "abcdefgh" 8 := Tx.lit (by decide +kernel)
  have l8 : (TL.tl ("abcdefgh" : Str)).length = 8 := by decide +kernel
  obtain ⟨r1, r0, r8, hr1⟩ : ∃ r1 : Int, 0 ≤ r1 ∧ r1 ≤ 8 ∧ atI [V.int a1, .int a2] (if decide (V.int a3 = V.int 0) = true then (1 : Int) else 0) = some (.int r1) := by
    rw [pick2]; split
    · exact ⟨a2, by omega, by omega, rfl⟩
    · exact ⟨a1, by omega, by omega, rfl⟩
  refine ⟨p, _, _, _, rfl, rfl, SqL.of (D2.kp k3 np), hr1, ?_⟩
  refine ⟨_, rfl, d, c, 5, rfl, D3, by decide, by decide, fun b1 H4 c1 d1 k4 D4 => ?_⟩
  refine ⟨_, rfl, d, c, 13, rfl, D4, by decide, by decide, fun b2 H5 c2 d2 k5 D5 => ⟨(by show 2 ≤ sizeLine; decide), fun p2 np2 => ?_⟩⟩
  refine ⟨_, rfl, d, c, 4, rfl, D5.new np2, by decide, by decide, fun b3 H6 _ _ k6 D6 => ⟨rfl, .inr ⟨_, rfl, ?_⟩⟩⟩
  have kk6 : Kp [d, c] H H6 := ((kk3.trans k4).trans k5).trans ((Kp.refl _ _).new np2 |>.trans k6)
  obtain ⟨mn, hm0, hm1, hm2⟩ : ∃ mn : Int, mn ≤ 13 ∧ 0 ≤ mn ∧ atI [V.int b1, .int b2] (if decide (V.int b3 = V.int 0) = true then (1 : Int) else 0) = some (.int mn) := by
    rw [pick2]; split
    · exact ⟨b2, by omega, by omega, rfl⟩
    · exact ⟨b1, by omega, by omega, rfl⟩
  refine ⟨p2, _, _, _, rfl, rfl, SqL.of (D5.kp k6 np2), hm2, _, rfl, _, _, rfl, rfl, .inr ⟨_, rfl, _, _, rfl, rfl, .inl ⟨by omega, by omega⟩, ?_⟩⟩
  obtain ⟨n, hn, hn1, hn2⟩ : ∃ n : Nat, mn * (if decide (0 < r1) = true then (1 : Int) else 0) = n ∧ n ≤ 13 ∧ (0 < n → 0 < r1) := by
    by_cases h0 : 0 < r1
    · refine ⟨mn.toNat, ?_, by omega, fun _ => h0⟩
      rw [decide_eq_true h0]
      show mn * 1 = _
      rw [Int.mul_one]; omega
    · refine ⟨0, ?_, by decide, fun z => absurd z (by decide)⟩
      rw [decide_eq_false h0]
      show mn * 0 = 0
      rw [Int.mul_zero]
  have t2 : Tx "-" 1 := Tx.lit (by decide +kernel)
  have tk : Tx (cutS "abcdefgh" none (some r1)) 8 := x8.cut none (some r1)
  refine ⟨_, rfl, _, rfl, _, rfl, _, rfl, x8.sz, _, _, rfl, rfl, tk.sz2 t2, ⟨_, rfl⟩, _, rfl, _, rfl, by rw [hn]; omega, by rw [hn]; omega, fun L nL => lc_range (lo := 0) (n := (mn * (if decide (0 < r1) = true then (1 : Int) else 0)).toNat) (fun i H' => ∃ ys : List Str, H' L = some (.lst (ys.map V.str)) ∧ ys.length = i ∧ (∀ y ∈ ys, Tx y 1) ∧ Kp [d, c] H H' ∧ Dk H' d c)
    ⟨[], upd_same, rfl, (fun y hy => nomatch hy), kk6.new nL, D6.new nL⟩ ?_ ?_⟩
  · rintro i H7 hi ⟨ys, e1, e2, e3, k7, D7⟩
    have hi' : i < n := by rw [hn] at hi; omega
    have r1' : 0 < r1 := hn2 (by omega)
    have nLd : L ∉ [d, c] := D6.nd nL
    refine ⟨rfl, _, rfl, _, rfl, _, rfl, d, c, r1, rfl, D7, r1', by omega, fun u H8 u0 u1 k8 D8 => ?_⟩
    obtain ⟨x, _, ha⟩ := pick (xs := TL.tl ("abcdefgh" : Str)) (r := u) (n := 8) u0 (by omega) l8
    refine ⟨_, _, _, rfl, rfl, x8.sz, ha, ?_⟩
    have hL : H8 L = some (.lst (ys.map V.str)) := k8 L _ nLd e1
    refine ⟨_, hL, by rw [List.length_map]; exact small1000 (by omega), ys ++ [⟨#[x]⟩], ?_, by rw [List.length_append, e2]; rfl, ?_, (k7.trans k8).put (kk6.free nL nLd), D8.put nLd⟩
    · rw [upd_same, List.map_append]; rfl
    · intro y hy
      rcases List.mem_append.mp hy with h | h
      · exact e3 y h
      · rw [List.mem_singleton.mp h]; exact x8.at_ ha
  · rintro H7 ⟨ys, e1, e2, e3, k7, D7⟩
    have ly : ys.length ≤ 13 := by rw [hn] at e2; omega
    refine ⟨_, L, ys, rfl, rfl, .inl (SqL.of e1), sum_one e3 (by omega), ?_⟩
    have tl := (Tx.join e3).mono ly
    exact ⟨_, _, rfl, rfl, (tk.add t2).sz2 tl, q _ H7 (((tk.add t2).add tl).mono (by decide)) k7 D7⟩
end
end K49
namespace K49
open PySem PySem.W L2 SX Cm
/-- names stand at n -/
def Nm (H : Hp) (n : Addr) : Prop := ∃ ns : List Str, H n = some (.lst (ns.map V.str)) ∧ (∀ z ∈ ns, Tx z 100) ∧ ns.length ≤ 5
/-- a row of bounded size -/
def RwB (k b : Nat) (ws : List PyData) : Prop := ∃ w m, Rw k w m ws ∧ m ≤ b
theorem RwB.nil {k b : Nat} : RwB k b [] := ⟨0, 0, .nil, Nat.zero_le _⟩
theorem RwB.txt {k : Nat} {z : Str} (h : Tx z 100) : RwB k 1 [.str z] := ⟨1, 1, .txt h .nil, Nat.le_refl _⟩
theorem RwB.push {k w m : Nat} {t : PyData} (h : Thg k w m t) : RwB k (m + 1) [.tuple [.str "push", t]] := ⟨_, _, .push h .nil, Nat.le_refl _⟩
theorem RwB.app {k a b : Nat} {x y : List PyData} (h : RwB k a x) (g : RwB k b y) : RwB k (a + b) (x ++ y) := by
  obtain ⟨w, m, h1, h2⟩ := h
  obtain ⟨w', m', g1, g2⟩ := g
  exact ⟨_, _, h1.append g1, by omega⟩
theorem RwB.mono {k a b : Nat} {x : List PyData} (h : RwB k a x) (l : a ≤ b) : RwB k b x := by
  obtain ⟨w, m, h1, h2⟩ := h
  exact ⟨w, m, h1, by omega⟩
theorem RwB.up {k k' a : Nat} {x : List PyData} (h : RwB k a x) (l : k ≤ k') : RwB k' a x := by
  obtain ⟨w, m, h1, h2⟩ := h
  exact ⟨w, m, h1.up l, h2⟩
section
variable {P : Program} {w : World} {K : PySem.W.Frag} {mg : Str → Option Value} {base : Heap}
def spThing (K : Frag) : Sp := fun vs H Q _ => ∃ (d c : Addr) (nv : V), vs = [.ref d, nv, .int 0] ∧ Dk H d c ∧ ∀ (v : V) (n : Int) (H' : Hp), 0 ≤ n → n < 10 ^ 12 → Kp [d, c] H H' → Dk H' d c → Tr K H' v (.tuple [.str "number", .int n]) → Q v H'
abbrev NT : List Str := ["_law_deck_here", "_law_names_here", "_law_deep", "_law_way", "_law_k"]
theorem scThing : FnScope NT ["_law_deck_here", "_law_names_here", "_law_deep"] (defScope sThing) := ⟨rfl, rfl, rfl, by decide +kernel, rfl, by decide +kernel, by decide +kernel⟩
theorem ok_thing {f g gn : Addr} {fd gd gnd : FuncData} (F : Fun K "_law_thing" "_law_thing" sThing f fd) (G : FnOk P w K mg base CX0 2 g gd ["_law_deck_here", "_law_most"] spNext) (bG : L2.Binds K gd ["_law_deck_here", "_law_most"] []) (kG : keepIn K (.ref g) = true) (mG : mg "_law_next" = some (.ref g))
    (N : FnOk P w K mg base CX0 3 gn gnd ["_law_deck_here"] (spNumber K)) (bN : L2.Binds K gnd ["_law_deck_here"] []) (kN : keepIn K (.ref gn) = true) (mN : mg "_law_number" = some (.ref gn)) :
    FnOk P w K mg base CX0 4 f fd ["_law_deck_here", "_law_names_here", "_law_deep"] (spThing K) := by
  refine F.ok scThing (fun vs H Q E h => ?_) (fun cdv A outer s H vs Q E hr h => ?_)
  · obtain ⟨d, c, nv, rfl, _⟩ := h
    rfl
  obtain ⟨d, c, nv, rfl, D0, q⟩ := h
  have hr2 := hr.mono (show 2 ≤ 3 by decide)
  refine ⟨_, pss_cons (ps_set (i := 3) scThing.nd rfl (.inl rfl) (pe_call G hr2 rfl mG kG bG .nil pass0 (pa_cons (pv 0) (pa_cons pe_int pa_nil))))
    (pss_cons (ps_if (PW.pt (pw_or (pt_cmpR op_lt (pv 3) pe_int (nomark _)) (pw_or1 (pt_cmpR op_eq (pv 2) pe_int (nomark _))))) (pss_one (ps_ret (pe_call N hr rfl mN kN bN .nil pass0 (pa_cons (pv 0) pa_nil)))) pss_nil) pss_never), ?_⟩
  refine ⟨_, rfl, d, c, 6, rfl, D0, by decide, by decide, fun r H1 _ _ k1 D1 => ?_⟩
  refine ⟨_, rfl, _, _, rfl, rfl, _, rfl, ?_⟩
  refine ite2 (fun _ => iteT ?_) (fun _ => ?_)
  · exact ⟨_, rfl, d, c, rfl, D1, fun v n H2 n0 n1 k2 D2 t => q v n H2 n0 n1 (k1.trans k2) D2 t⟩
  · refine ⟨_, rfl, rfl, _, rfl, ?_⟩
    refine iteT ?_
    exact ⟨_, rfl, d, c, rfl, D1, fun v n H2 n0 n1 k2 D2 t => q v n H2 n0 n1 (k1.trans k2) D2 t⟩
def spWord (K : Frag) : Sp := fun vs H Q _ => ∃ (d c n : Addr), vs = [.ref d, .ref n, .int 0] ∧ Dk H d c ∧ Nm H n ∧ n ∉ [d, c] ∧ ∀ (v : V) (y : PyData) (H' : Hp), Kp [d, c] H H' → Dk H' d c → Tr K H' v y → RwB 1 2 [y] → Q v H'
abbrev NWd : List Str := ["_law_deck_here", "_law_names_here", "_law_deep", "_law_way", "_law_some"]
theorem scWord : FnScope NWd ["_law_deck_here", "_law_names_here", "_law_deep"] (defScope sWord) := ⟨rfl, rfl, rfl, by decide +kernel, rfl, by decide +kernel, by decide +kernel⟩
theorem ok_word {f g gt gs gb : Addr} {fd gd gtd gsd gbd : FuncData} (F : Fun K "_law_word" "_law_word" sWord f fd) (G : FnOk P w K mg base CX0 2 g gd ["_law_deck_here", "_law_most"] spNext) (bG : L2.Binds K gd ["_law_deck_here", "_law_most"] []) (kG : keepIn K (.ref g) = true) (mG : mg "_law_next" = some (.ref g))
    (T : FnOk P w K mg base CX0 4 gt gtd ["_law_deck_here", "_law_names_here", "_law_deep"] (spThing K)) (bT : L2.Binds K gtd ["_law_deck_here", "_law_names_here", "_law_deep"] []) (kT : keepIn K (.ref gt) = true) (mT : mg "_law_thing" = some (.ref gt))
    (Z : FnOk P w K mg base CX0 3 gs gsd ["_law_deck_here"] (spTx 100)) (bZ : L2.Binds K gsd ["_law_deck_here"] []) (kZ : keepIn K (.ref gs) = true) (mZ : mg "_law_shuffle" = some (.ref gs))
    (B : FnOk P w K mg base CX0 1 gb gbd [] spBasic) (bB : L2.Binds K gbd [] []) (kB : keepIn K (.ref gb) = true) (mB : mg "_law_basic" = some (.ref gb)) (mlen : mg "len" = none) :
    FnOk P w K mg base CX0 5 f fd ["_law_deck_here", "_law_names_here", "_law_deep"] (spWord K) := by
  refine F.ok scWord (fun vs H Q E h => ?_) (fun cdv A outer s H vs Q E hr h => ?_)
  · obtain ⟨d, c, n, rfl, _⟩ := h
    rfl
  obtain ⟨d, c, n, rfl, D0, ⟨ns, hn, hT, hl⟩, nd, q⟩ := h
  have hr2 := hr.mono (show 2 ≤ 4 by decide)
  have hr3 := hr.mono (show 3 ≤ 4 by decide)
  have hr1 := hr.mono (show 1 ≤ 4 by decide)
  refine ⟨_, pss_cons (ps_set (i := 3) scWord.nd rfl (.inl rfl) (pe_call G hr2 rfl mG kG bG .nil pass0 (pa_cons (pv 0) (pa_cons pe_int pa_nil))))
    (pss_cons (ps_if (pt_cmpR op_lt (pv 3) pe_int (nomark _)) (pss_one (ps_ret (pe_tup (pa_cons pe_str (pa_cons (pe_call T hr rfl mT kT bT .nil pass0 (pa_cons (pv 0) (pa_cons (pv 1) (pa_cons (pv 2) pa_nil)))) pa_nil))))) pss_nil)
    (pss_cons (ps_if (pt_cmpR op_lt (pv 3) pe_int (nomark _)) (pss_one (ps_ret (pe_call Z hr3 rfl mZ kZ bZ .nil pass0 (pa_cons (pv 0) pa_nil)))) pss_nil)
    (pss_cons (ps_set (i := 4) scWord.nd rfl (.inl rfl) (pe_op op_cat (pe_call0 B hr1 rfl mB kB bB .nil pass0) (pe_op op_rep (pv 1) pe_int)))
    (pss_one (ps_ret (pe_ix ix_list (pv 4) (pe_call G hr2 rfl mG kG bG .nil pass0 (pa_cons (pv 0) (pa_cons (pe_callB call_len_seq (by rfl) mlen PySem.boot_len (pa_cons (pv 4) pa_nil)) pa_nil))) (fun _ _ => rfl))))))), ?_⟩
  refine ⟨_, rfl, d, c, 8, rfl, D0, by decide, by decide, fun r H1 _ _ k1 D1 => ?_⟩
  refine ⟨_, rfl, _, _, rfl, rfl, _, rfl, ite2 (fun _ => ?_) (fun _ => ?_)⟩
  · refine ⟨_, rfl, _, rfl, _, rfl, d, c, _, rfl, D1, fun v x H2 n0 n1 k2 D2 t => ?_⟩
    refine ⟨(by show 2 ≤ sizeLine; decide), fun p np => ?_⟩
    exact q _ _ _ ((k1.trans k2).new np) (D2.new np) (.tup (SqT.of upd_same) (.cons (.str _) (.cons (t.mono (.of (same_new np _))) .nil))) (RwB.push (.num x n0 n1))
  refine ⟨_, rfl, _, _, rfl, rfl, _, rfl, ite2 (fun _ => ?_) (fun _ => ?_)⟩
  · exact ⟨_, rfl, d, c, rfl, D1, fun z H2 tz k2 D2 => q _ _ H2 (k1.trans k2) D2 (.str z) ((RwB.txt tz).mono (by decide))⟩
  refine ⟨rfl, fun p1 H2 np1 e2 => ?_⟩
  subst e2
  have hn1 : upd H1 p1 (.lst (basics.map V.str)) n = some (.lst (ns.map V.str)) := kn (k1 _ _ nd hn) np1
  refine ⟨_, rfl, n, 2, _, rfl, rfl, hn1, by decide, by decide, ?_, fun p2 np2 => ?_⟩
  · rw [List.length_map]; exact mid (by show ns.length * 2 ≤ 1000000; omega)
  have er : (List.replicate (2 : Int).toNat (ns.map V.str)).flatten = (ns ++ ns).map V.str := by
    rw [List.map_append]; show ns.map V.str ++ (ns.map V.str ++ []) = _; rw [List.append_nil]
  rw [er]
  refine ⟨p1, p2, _, _, rfl, rfl, kn upd_same np2, upd_same, ?_, fun p3 np3 => ?_⟩
  · rw [List.length_map, List.length_map, List.length_append]; exact mid (by show 15 + (ns.length + ns.length) ≤ 1000000; omega)
  rw [← List.map_append]
  have kk := ((k1.new (o := .lst (basics.map V.str)) np1).new (o := .lst ((ns ++ ns).map V.str)) np2).new (o := .lst ((basics ++ (ns ++ ns)).map V.str)) np3
  have DD := ((D1.new (o := .lst (basics.map V.str)) np1).new (o := .lst ((ns ++ ns).map V.str)) np2).new (o := .lst ((basics ++ (ns ++ ns)).map V.str)) np3
  have h3 : upd (upd (upd H1 p1 (.lst (basics.map V.str))) p2 (.lst ((ns ++ ns).map V.str))) p3 (.lst ((basics ++ (ns ++ ns)).map V.str)) p3 = some (.lst ((basics ++ (ns ++ ns)).map V.str)) := upd_same
  have n3 : p3 ∉ [d, c] := ((D1.new (o := .lst (basics.map V.str)) np1).new (o := .lst ((ns ++ ns).map V.str)) np2).nd np3
  have ty : ∀ z ∈ basics ++ (ns ++ ns), Tx z 100 := fun z hz => by
    rcases List.mem_append.mp hz with h | h
    · exact (Tx.lit (basics_tx z h)).mono (by decide)
    · rcases List.mem_append.mp h with h | h
      · exact hT z h
      · exact hT z h
  have lb : (basics ++ (ns ++ ns)).length = 15 + (ns.length + ns.length) := by rw [List.length_append, List.length_append]; rfl
  generalize basics ++ (ns ++ ns) = ys at kk DD h3 ty lb
  generalize upd (upd (upd H1 p1 (.lst (basics.map V.str))) p2 (.lst ((ns ++ ns).map V.str))) p3 (.lst (ys.map V.str)) = H3 at kk DD h3
  refine ⟨_, rfl, _, rfl, _, rfl, p3, _, rfl, .inl (SqL.of h3), d, c, _, rfl, DD, ?_, ?_, fun u H4 u0 u1 k4 D4 => ?_⟩
  · rw [List.length_map]; omega
  · rw [List.length_map]; omega
  rw [List.length_map] at u1
  obtain ⟨x, hx, ha⟩ := pick (xs := ys.map V.str) (n := ys.length) u0 u1 (by rw [List.length_map])
  obtain ⟨z, hz, rfl⟩ := List.mem_map.mp hx
  exact ⟨p3, _, _, _, rfl, rfl, SqL.of (k4 _ _ n3 h3), ha, q _ _ H4 (kk.trans k4) D4 (.str z) ((RwB.txt (ty z hz)).mono (by decide))⟩
def spRow (K : Frag) : Sp := fun vs H Q _ => ∃ (d c n : Addr) (t : Int), vs = [.ref d, .ref n, .int 0, .int t] ∧ 0 ≤ t ∧ t ≤ 3 ∧ Dk H d c ∧ Nm H n ∧ n ∉ [d, c] ∧ ∀ (v : V) (ws : List PyData) (H' : Hp), Kp [d, c] H H' → Dk H' d c → Tr K H' v (.tuple ws) → RwB 1 6 ws → Q v H'
abbrev NR : List Str := ["_law_deck_here", "_law_names_here", "_law_deep", "_law_many", "_law_k"]
abbrev A4 : List Str := ["_law_deck_here", "_law_names_here", "_law_deep", "_law_many"]
theorem scRow : FnScope NR A4 (defScope sRow) := ⟨rfl, rfl, rfl, by decide +kernel, rfl, by decide +kernel, by decide +kernel⟩
theorem ok_row {f g : Addr} {fd gd : FuncData} (F : Fun K "_law_row" "_law_row" sRow f fd) (W : FnOk P w K mg base CX0 5 g gd ["_law_deck_here", "_law_names_here", "_law_deep"] (spWord K)) (bW : L2.Binds K gd ["_law_deck_here", "_law_names_here", "_law_deep"] []) (kW : keepIn K (.ref g) = true) (mW : mg "_law_word" = some (.ref g)) (mtup : mg "tuple" = none) (mrange : mg "range" = none) :
    FnOk P w K mg base CX0 6 f fd A4 (spRow K) := by
  refine F.ok scRow (fun vs H Q E h => ?_) (fun cdv A outer s H vs Q E hr h => ?_)
  · obtain ⟨d, c, n, t, rfl, _⟩ := h
    rfl
  obtain ⟨d, c, n, t, rfl, t0, t1, D0, N0, nd, q⟩ := h
  refine ⟨_, pss_one (ps_ret (pe_callTy call_tuple_of (by rfl) mtup (by decide +kernel) (pa_cons
      (pe_lc (own := [("_law_k", 4)]) (g := gName 4) (tt := tYes) rfl scRow.nd (pi_range1 rfl mrange (pa_cons (pv 3) pa_nil)) (blkOk_by (own := [("_law_k", 4)]) (N := NR) (sc := defScope sRow) (by decide +kernel))
        (fun _ _ _ _ _ => pg_name (i := 4) scRow.nd rfl (Or.inl rfl)) (fun _ _ _ _ _ => pts_nil) (fun _ _ _ _ _ => pe_call W hr rfl mW kW bW .nil pass0 (pa_cons (pv 0) (pa_cons (pv 1) (pa_cons (pv 2) pa_nil))))) pa_nil))), ?_⟩
  refine ⟨_, rfl, _, rfl, by omega, by omega, fun L nL => lc_range (lo := 0) (n := t.toNat) (fun i H' => ∃ (xs : List V) (ds : List PyData), H' L = some (.lst xs) ∧ xs.length = i ∧ TrAll K H' xs ds ∧ RwB 1 (2 * i) ds ∧ Kp [d, c] H H' ∧ Dk H' d c)
    ⟨[], [], upd_same, rfl, .nil, .nil, (Kp.refl _ H).new nL, D0.new nL⟩ ?_ ?_⟩
  · rintro i H5 hi ⟨xs, ds, e1, e2, e3, e4, k5, D5⟩
    have nLd : L ∉ [d, c] := D0.nd nL
    have N5 : Nm H5 n := by
      obtain ⟨ns, hn, r⟩ := N0
      exact ⟨ns, k5 _ _ nd hn, r⟩
    refine ⟨rfl, _, rfl, _, rfl, _, rfl, d, c, n, rfl, D5, N5, nd, fun v y H6 k6 D6 tv rv => ?_⟩
    have hL : H6 L = some (.lst xs) := k6 L _ nLd e1
    have tk : TKs K H6 (upd H6 L (.lst (xs ++ [v]))) := TKs.lst hL
    refine ⟨_, hL, by exact small1000 (by omega), xs ++ [v], ds ++ [y], upd_same, by rw [List.length_append, e2]; rfl, ((e3.mono (D5.tks k6)).append (.cons tv .nil)).mono tk, e4.app rv, (k5.trans k6).put nL, D6.put nLd⟩
  · rintro H5 ⟨xs, ds, e1, e2, e3, e4, k5, D5⟩
    refine ⟨L, _, rfl, .inl ⟨SqL.of e1, fun p np => ?_⟩⟩
    exact q _ ds _ (k5.new np) (D5.new np) (.tup (SqT.of upd_same) (e3.mono (.of (same_new np _)))) (e4.mono (by omega))
end
end K49
namespace K49
open PySem PySem.W L2 SX Cm
theorem flat_strs' (ys : List Str) : (ys.map V.str).all flatV = true := by
  rw [List.all_map]
  exact List.all_eq_true.mpr fun _ _ => rfl
theorem cut_mem {α : Type} (f : α → V) (xs : List α) (lo hi : Option Int) : ∃ ys : List α, cutV (xs.map f) lo hi = ys.map f ∧ (∀ y ∈ ys, y ∈ xs) ∧ ys.length ≤ xs.length := by
  refine ⟨(xs.drop (HT.sIx (xs.map f).length 0 lo)).take (HT.sIx (xs.map f).length (xs.map f).length hi - HT.sIx (xs.map f).length 0 lo), ?_, fun y hy => List.mem_of_mem_drop (List.mem_of_mem_take hy), ?_⟩
  · unfold cutV
    rw [List.map_take, List.map_drop]
  · rw [List.length_take, List.length_drop]; omega
/-- a list of texts stands at n -/
def TxL (H : Hp) (n : Addr) (b : Nat) : Prop := ∃ ns : List Str, H n = some (.lst (ns.map V.str)) ∧ (∀ z ∈ ns, Tx z 100) ∧ ns.length ≤ b
section
variable {P : Program} {w : World} {K : PySem.W.Frag} {mg : Str → Option Value} {base : Heap}
def spNames : Sp := fun vs H Q _ => ∃ (d c : Addr), vs = [.ref d, .int 3] ∧ Dk H d c ∧ ∀ (n : Addr) (H' : Hp), Kp [d, c] H H' → Dk H' d c → H n = none → Nm H' n → Q (.ref n) H'
abbrev NN : List Str := ["_law_deck_here", "_law_many", "_law_letters", "_law_some", "_law_k", "_law_word_here", "_law_name"]
theorem scNames : FnScope NN ["_law_deck_here", "_law_many"] (defScope sNames) := ⟨rfl, rfl, rfl, by decide +kernel, rfl, by decide +kernel, by decide +kernel⟩
theorem ok_names {f g gb : Addr} {fd gd gbd : FuncData} (F : Fun K "_law_names" "_law_names" sNames f fd) (G : FnOk P w K mg base CX0 2 g gd ["_law_deck_here", "_law_most"] spNext) (bG : L2.Binds K gd ["_law_deck_here", "_law_most"] []) (kG : keepIn K (.ref g) = true) (mG : mg "_law_next" = some (.ref g))
    (B : FnOk P w K mg base CX0 1 gb gbd [] spBasic) (bB : L2.Binds K gbd [] []) (kB : keepIn K (.ref gb) = true) (mB : mg "_law_basic" = some (.ref gb)) (mrange : mg "range" = none) :
    FnOk P w K mg base CX0 3 f fd ["_law_deck_here", "_law_many"] spNames := by
  refine F.ok scNames (fun vs H Q E h => ?_) (fun cdv A outer s H vs Q E hr h => ?_)
  · obtain ⟨d, c, rfl, _⟩ := h
    rfl
  obtain ⟨d, c, rfl, D0, q⟩ := h
  have hr1 := hr.mono (show 1 ≤ 2 by decide)
  refine ⟨_, pss_cons (ps_set (i := 2) scNames.nd rfl (.inr rfl) pe_str)
    (C8.pss_cut (ps_set (i := 3) scNames.nd rfl (.inl rfl) (pe_ix ix_list (pe_lst (pa_cons (pe_lst (pa_cons pe_str (pa_cons pe_str pa_nil))) (pa_cons (pe_lst (pa_cons pe_str (pa_cons pe_str pa_nil))) (pa_cons (pe_lst (pa_cons pe_str (pa_cons pe_str pa_nil))) (pa_cons (pe_lst (pa_cons pe_str (pa_cons pe_str pa_nil))) (pa_cons (pe_lst (pa_cons pe_str (pa_cons pe_str pa_nil))) pa_nil)))))) (pe_call G hr rfl mG kG bG .nil pass0 (pa_cons (pv 0) (pa_cons pe_int pa_nil))) (fun _ _ => rfl)))
    (pss_cons (ps_set (i := 5) scNames.nd rfl (.inl rfl) (pe_join pe_str (pe_lc (own := [("_law_k", 4)]) (g := gName 4) (tt := tYes) rfl scNames.nd (pi_range1 rfl mrange (pa_cons (pe_op op_add pe_int (pe_call G hr rfl mG kG bG .nil pass0 (pa_cons (pv 0) (pa_cons pe_int pa_nil)))) pa_nil)) (blkOk_by (own := [("_law_k", 4)]) (N := NN) (sc := defScope sNames) (by decide +kernel))
        (fun _ _ _ _ _ => pg_name (i := 4) scNames.nd rfl (Or.inl rfl)) (fun _ _ _ _ _ => pts_nil) (fun _ _ _ _ _ => pe_ix ix_str (pv 2) (pe_call G hr rfl mG kG bG .nil pass0 (pa_cons (pv 0) (pa_cons pe_int pa_nil))) (fun _ _ => rfl)))))
    (pss_cons (ps_for PassesOwn.never rfl (pi_list (pe_lst (pa_cons (pv 5) (pa_cons (pe_op op_add_str (pe_slice sl_str (pv 5) po_none (po_some pe_int)) pe_str) (pa_cons (pe_op op_add_str (pe_slice sl_str (pv 5) po_none (po_some pe_int)) pe_str) pa_nil))))) (pg_name (i := 6) scNames.nd rfl (.inl rfl))
      (pss_one (ps_if (PW.pt (pw_and (pt_cmpR op_notIn_seq (pv 6) (pv 3) rfl) (pw_and1 (pt_cmpR op_notIn_seq (pv 6) (pe_call0 B hr1 rfl mB kB bB .nil pass0) rfl))))
        (pss_one (ps_expr (pe_bm PySem.F.plainAttrs_list PySem.F.slot_list_append PySem.F.type_list_append mt_append (pv 3) (pa_cons (pv 6) pa_nil)))) pss_nil)))
    (pss_one (ps_ret (pe_slice sl_list (pv 3) po_none (po_some (pv 1)))))))), ?_⟩
  refine ⟨fun σ H' => ∃ n, σ = [some (.ref d), some (.int 3), some (.str "abcdefghijklmnopqrstuvwxyz"), some (.ref n), none, none, none] ∧ Kp [d, c] H H' ∧ Dk H' d c ∧ H n = none ∧ TxL H' n 2, ?_, ?_⟩
  · refine ⟨(by show 2 ≤ sizeLine; decide), fun a1 n1 => ⟨(by show 2 ≤ sizeLine; decide), fun a2 n2 => ⟨(by show 2 ≤ sizeLine; decide), fun a3 n3 => ⟨(by show 2 ≤ sizeLine; decide), fun a4 n4 => ⟨(by show 2 ≤ sizeLine; decide), fun a5 n5 => ⟨(by show 5 ≤ sizeLine; decide), fun L nL => ?_⟩⟩⟩⟩⟩⟩
    have m1' := (Kp.refl [d, c] H).new (o := .lst [.str "pl", .str "plu"]) n1
    have h1 : ∀ Z, Same (upd H a1 (.lst [.str "pl", .str "plu"])) Z → Z a1 = some (.lst ([(("pl" : Str)), "plu"].map V.str)) := fun Z s => s _ _ upd_same
    have s1 := same_new n1 (.lst [.str "pl", .str "plu"])
    generalize upd H a1 (.lst [.str "pl", .str "plu"]) = H1 at n2 n3 n4 n5 nL h1 s1 m1' ⊢
    have s2 := same_new n2 (.lst [.str "iff", .str "i"])
    have h2 : ∀ Z, Same (upd H1 a2 (.lst [.str "iff", .str "i"])) Z → Z a2 = some (.lst ([(("iff" : Str)), "i"].map V.str)) := fun Z s => s _ _ upd_same
    generalize upd H1 a2 (.lst [.str "iff", .str "i"]) = H2 at n3 n4 n5 nL h2 s2 ⊢
    have s3 := same_new n3 (.lst [.str "eac", .str "e"])
    have h3 : ∀ Z, Same (upd H2 a3 (.lst [.str "eac", .str "e"])) Z → Z a3 = some (.lst ([(("eac" : Str)), "e"].map V.str)) := fun Z s => s _ _ upd_same
    generalize upd H2 a3 (.lst [.str "eac", .str "e"]) = H3 at n4 n5 nL h3 s3 ⊢
    have s4 := same_new n4 (.lst [.str "whiles", .str "wh"])
    have h4 : ∀ Z, Same (upd H3 a4 (.lst [.str "whiles", .str "wh"])) Z → Z a4 = some (.lst ([(("whiles" : Str)), "wh"].map V.str)) := fun Z s => s _ _ upd_same
    generalize upd H3 a4 (.lst [.str "whiles", .str "wh"]) = H4 at n5 nL h4 s4 ⊢
    have s5 := same_new n5 (.lst [.str "d", .str "di"])
    have h5 : ∀ Z, Same (upd H4 a5 (.lst [.str "d", .str "di"])) Z → Z a5 = some (.lst ([(("d" : Str)), "di"].map V.str)) := fun Z s => s _ _ upd_same
    generalize upd H4 a5 (.lst [.str "d", .str "di"]) = H5 at nL h5 s5 ⊢
    have s6 := same_new nL (.lst [.ref a1, .ref a2, .ref a3, .ref a4, .ref a5])
    have h6 : upd H5 L (.lst [.ref a1, .ref a2, .ref a3, .ref a4, .ref a5]) L = some (.lst [.ref a1, .ref a2, .ref a3, .ref a4, .ref a5]) := upd_same
    generalize upd H5 L (.lst [.ref a1, .ref a2, .ref a3, .ref a4, .ref a5]) = H6 at h6 s6 ⊢
    have sa := s1.trans (s2.trans (s3.trans (s4.trans (s5.trans s6))))
    refine ⟨_, rfl, d, c, 5, rfl, D0.same sa, by decide, by decide, fun r H7 r0 r1 k7 D7 => ?_⟩
    have f1 := n1
    have f2 := s1.free n2
    have f3 := (s1.trans s2).free n3
    have f4 := (s1.trans (s2.trans s3)).free n4
    have f5 := (s1.trans (s2.trans (s3.trans s4))).free n5
    have f6 := (s1.trans (s2.trans (s3.trans (s4.trans s5)))).free nL
    have kp : ∀ x o, H x = none → H6 x = some o → H7 x = some o := fun x o n e => k7 _ _ (D0.nd n) e
    obtain ⟨v, hv, ha⟩ := pick (xs := [V.ref a1, .ref a2, .ref a3, .ref a4, .ref a5]) (n := 5) r0 r1 rfl
    refine ⟨L, _, _, _, rfl, rfl, SqL.of (kp _ _ f6 h6), ha, ?_⟩
    have kk : Kp [d, c] H H7 := (Kp.of sa).trans k7
    simp only [List.mem_cons, List.not_mem_nil, or_false] at hv
    have lit : ∀ a b : Str, litB a 100 = true → litB b 100 = true → ∀ z ∈ [a, b], Tx z 100 := fun a b ha hb z hz => by
      simp only [List.mem_cons, List.not_mem_nil, or_false] at hz
      rcases hz with rfl | rfl
      · exact Tx.lit ha
      · exact Tx.lit hb
    rcases hv with rfl | rfl | rfl | rfl | rfl
    · exact ⟨a1, rfl, kk, D7, f1, _, kp _ _ f1 (h1 _ (s2.trans (s3.trans (s4.trans (s5.trans s6))))), lit _ _ (by decide +kernel) (by decide +kernel), by decide⟩
    · exact ⟨a2, rfl, kk, D7, f2, _, kp _ _ f2 (h2 _ (s3.trans (s4.trans (s5.trans s6)))), lit _ _ (by decide +kernel) (by decide +kernel), by decide⟩
    · exact ⟨a3, rfl, kk, D7, f3, _, kp _ _ f3 (h3 _ (s4.trans (s5.trans s6))), lit _ _ (by decide +kernel) (by decide +kernel), by decide⟩
    · exact ⟨a4, rfl, kk, D7, f4, _, kp _ _ f4 (h4 _ (s5.trans s6)), lit _ _ (by decide +kernel) (by decide +kernel), by decide⟩
    · exact ⟨a5, rfl, kk, D7, f5, _, kp _ _ f5 (h5 _ s6), lit _ _ (by decide +kernel) (by decide +kernel), by decide⟩
  rintro σ H1 ⟨n, rfl, k1, D1, fn, T1⟩
  have nnd : n ∉ [d, c] := D0.nd fn
  have ta : Tx "abcdefghijklmnopqrstuvwxyz" 26 := Tx.lit (by decide +kernel)
  have la : (TL.tl ("abcdefghijklmnopqrstuvwxyz" : Str)).length = 26 := by decide +kernel
  refine ⟨⟨_, rfl⟩, _, rfl, d, c, 8, rfl, D1, by decide, by decide, fun r H2 r0 r1 k2 D2 => ?_⟩
  have kk := k1.trans k2
  have T2 : TxL H2 n 2 := by
    obtain ⟨ns, h, r⟩ := T1
    exact ⟨ns, k2 _ _ nnd h, r⟩
  refine ⟨_, _, rfl, rfl, _, rfl, by omega, by omega, fun L nL => lc_range (lo := 0) (n := (1 + r).toNat) (fun i H' => ∃ ys : List Str, H' L = some (.lst (ys.map V.str)) ∧ ys.length = i ∧ (∀ y ∈ ys, Tx y 1) ∧ Kp [d, c] H H' ∧ Dk H' d c ∧ TxL H' n 2)
    ⟨[], upd_same, rfl, (fun y hy => nomatch hy), kk.new nL, D2.new nL, ?_⟩ ?_ ?_⟩
  · obtain ⟨ns, h, r⟩ := T2
    exact ⟨ns, kn h nL, r⟩
  · rintro i H5 hi ⟨ys, e1, e2, e3, k5, D5, T5⟩
    have nLd : L ∉ [d, c] := D2.nd nL
    have nLn : n ≠ L := fun z => by
      obtain ⟨ns, h, _⟩ := T2
      rw [z, nL] at h; cases h
    refine ⟨rfl, _, rfl, _, rfl, d, c, 26, rfl, D5, by decide, by decide, fun u H6 u0 u1 k6 D6 => ?_⟩
    obtain ⟨x, _, ha⟩ := pick (xs := TL.tl ("abcdefghijklmnopqrstuvwxyz" : Str)) (n := 26) u0 u1 la
    refine ⟨_, _, _, rfl, rfl, ta.sz, ha, ?_⟩
    have hL : H6 L = some (.lst (ys.map V.str)) := k6 L _ nLd e1
    refine ⟨_, hL, by rw [List.length_map]; exact small1000 (by omega), ys ++ [⟨#[x]⟩], ?_, by rw [List.length_append, e2]; rfl, ?_, (k5.trans k6).put (kk.free nL nLd), D6.put nLd, ?_⟩
    · rw [upd_same, List.map_append]; rfl
    · intro y hy
      rcases List.mem_append.mp hy with h | h
      · exact e3 y h
      · rw [List.mem_singleton.mp h]; exact ta.at_ ha
    · obtain ⟨ns, h, r⟩ := T5
      exact ⟨ns, by rw [upd_ne nLn]; exact k6 _ _ nnd h, r⟩
  rintro H5 ⟨ys, e1, e2, e3, k5, D5, T5⟩
  have ly : ys.length ≤ 10 := by omega
  refine ⟨_, L, ys, rfl, rfl, .inl (SqL.of e1), sum_one e3 (by omega), ?_⟩
  have tz := (Tx.join e3).mono ly
  generalize Txt.join "" ys = z at tz
  have tq : Tx "q" 1 := Tx.lit (by decide +kernel)
  have t2 : Tx "zz" 2 := Tx.lit (by decide +kernel)
  refine ⟨_, rfl, _, rfl, 7, rfl, _, rfl, tz.sz, _, _, rfl, rfl, (tz.cut none (some 7)).sz2 tq, _, rfl, 1, rfl, _, rfl, tz.sz, _, _, rfl, rfl, (tz.cut none (some 1)).sz2 t2, (by show 3 ≤ sizeLine; decide), fun M nM => ?_⟩
  have t7 := ((tz.cut none (some 7)).add tq).mono (show 10 + 1 ≤ 100 by decide)
  have t1 := ((tz.cut none (some 1)).add t2).mono (show 10 + 2 ≤ 100 by decide)
  have t0 := tz.mono (show 10 ≤ 100 by decide)
  generalize cutS z none (some 7) ++ "q" = z7 at t7 ⊢
  generalize cutS z none (some 1) ++ "zz" = z1 at t1 ⊢
  have nMn : n ≠ M := fun e => by
    obtain ⟨ns, h, _⟩ := T5
    rw [e, nM] at h; cases h
  have fM : H M = none := k5.free nM (D5.nd nM)
  refine ⟨M, rfl, ⟨_, SqL.of upd_same⟩, for_list (K := K) (a := M) (xs := [.str z, .str z7, .str z1]) (fun i σ H' => ∃ x6, σ = [some (.ref d), some (.int 3), some (.str "abcdefghijklmnopqrstuvwxyz"), some (.ref n), none, some (.str z), x6] ∧ H' M = some (.lst [.str z, .str z7, .str z1]) ∧ Kp [d, c] H H' ∧ Dk H' d c ∧ TxL H' n (2 + i))
    ⟨none, rfl, upd_same, k5.new nM, D5.new nM, ?_⟩ (fun i σ H' _ h => by obtain ⟨_, _, e, _⟩ := h; exact SqL.of e) ?_ ?_⟩
  · obtain ⟨ns, h, r⟩ := T5
    exact ⟨ns, kn h nM, r⟩
  · rintro i x σ H6 hx ⟨x6, rfl, hM6, k6, D6, ns, hn6, tn6, ln6⟩
    have hz : ∃ u, x = .str u ∧ Tx u 100 := by
      have hm := List.mem_of_getElem? hx
      simp only [List.mem_cons, List.not_mem_nil, or_false] at hm
      rcases hm with rfl | rfl | rfl
      · exact ⟨_, rfl, t0⟩
      · exact ⟨_, rfl, t7⟩
      · exact ⟨_, rfl, t1⟩
    have hi : i < 3 := (List.getElem?_eq_some_iff.mp hx).1
    obtain ⟨u, rfl, tu⟩ := hz
    refine ⟨_, rfl, _, rfl, n, _, rfl, .inl (SqL.of hn6), rfl, flat_strs' ns, _, rfl, ?_⟩
    refine ite2 (fun _ => ?_) (fun _ => iteF ?_)
    · refine ⟨_, rfl, rfl, fun p H7 np e7 => ?_⟩
      subst e7
      refine ⟨p, _, rfl, .inl (SqL.of upd_same), rfl, flat_strs' basics, _, rfl, ?_⟩
      have hn7 := kn (o' := .lst (basics.map V.str)) hn6 np
      have hM7 := kn (o' := .lst (basics.map V.str)) hM6 np
      have k7 := k6.new (o := .lst (basics.map V.str)) np
      have D7 := D6.new (o := .lst (basics.map V.str)) np
      generalize upd H6 p (.lst (basics.map V.str)) = H7 at hn7 hM7 k7 D7
      refine ite2 (fun _ => ?_) (fun _ => ?_)
      · refine ⟨_, rfl, .inl ⟨rfl, _, SqL.of hn7⟩, _, rfl, n, _, _, rfl, rfl, hn7, ?_, ?_⟩
        · rw [List.length_map]; exact small1000 (by omega)
        refine ⟨_, rfl, by rw [upd_ne nMn.symm]; exact hM7, k7.put fn, D7.put nnd, ns ++ [u], ?_, ?_, ?_⟩
        · rw [upd_same, List.map_append]; rfl
        · intro y hy
          rcases List.mem_append.mp hy with h | h
          · exact tn6 y h
          · rw [List.mem_singleton.mp h]; exact tu
        · rw [List.length_append, List.length_singleton]; omega
      · exact ⟨_, rfl, hM7, k7, D7, ns, hn7, tn6, by omega⟩
    · exact ⟨_, rfl, hM6, k6, D6, ns, hn6, tn6, by omega⟩
  · rintro σ H6 ⟨x6, rfl, hM6, k6, D6, ns, hn6, tn6, ln6⟩
    refine ⟨_, rfl, _, rfl, 3, rfl, n, _, rfl, SqL.of hn6, fun p np => ?_⟩
    obtain ⟨ds, e, l⟩ := cut_mem V.str ns none (some 3)
    rw [e]
    exact q p _ (k6.new np) (D6.new np) (k6.free np (D6.nd np)) ⟨ds, upd_same, fun z hz => tn6 z (l.1 z hz), Nat.le_trans l.2 ln6⟩
end
end K49
namespace K49
open PySem PySem.W L2 SX Cm
/-! ### what may be entered -/
def isRP : PyData → Bool
  | .tuple [_, .tuple (.str s :: _)] => decide (s = "row")
  | _ => false
def isS : PyData → Bool
  | .str _ => true
  | _ => false
def ones : List Str := ["do", "dip", "repeat", "each"]
def twos : List Str := ["if", "while", "part"]
/-- a word of a row -/
def Wd (y : PyData) : Prop := ((∃ z, y = .str z) ∨ ∃ (s : Str) (e : PyData), y = .tuple [.str "push", .tuple [.str s, e]]) ∧ PyData.canLay0 y = true ∧ PyData.depth y ≤ 50
theorem lay_of : ∀ {ws : List PyData}, (∀ y ∈ ws, PyData.canLay0 y = true ∧ PyData.depth y ≤ 50) → PyData.canLayAll0 ws = true ∧ PyData.depthAll ws ≤ 50
  | [], _ => ⟨rfl, Nat.zero_le _⟩
  | y :: r, h => by
    obtain ⟨a, b⟩ := lay_of (ws := r) fun z hz => h z (List.mem_cons_of_mem _ hz)
    obtain ⟨a', b'⟩ := h y (List.mem_cons_self ..)
    refine ⟨?_, ?_⟩
    · show (PyData.canLay0 y && PyData.canLayAll0 r) = true
      rw [a, a']; rfl
    · show max (PyData.depth y) (PyData.depthAll r) ≤ _
      omega
theorem shaped_l {ws : List PyData} (h : ∀ y ∈ ws, PyData.canLay0 y = true ∧ PyData.depth y ≤ 50) : SeqAt.shaped (.list ws) = true := by
  obtain ⟨a, b⟩ := lay_of h
  show (PyData.canLayAll0 ws && decide (PyData.depthAll ws + 1 ≤ 64)) = true
  rw [a, Bool.true_and]; exact decide_eq_true (by omega)
theorem shaped_t {ws : List PyData} (h : ∀ y ∈ ws, PyData.canLay0 y = true ∧ PyData.depth y ≤ 50) : SeqAt.shaped (.tuple ws) = true := by
  obtain ⟨a, b⟩ := lay_of h
  show (PyData.canLayAll0 ws && decide (PyData.depthAll ws + 1 ≤ 64)) = true
  rw [a, Bool.true_and]; exact decide_eq_true (by omega)
def anyOf (zs : List Str) (y : PyData) : Bool := (zs.map PyData.str).any fun z => PyData.eqv z y
def at1 (f : PyData → Bool) (ws : List PyData) (j : Nat) : Bool := match ws[j]? with
  | some y => f y
  | none => false
def pr (ws : List PyData) (j : Nat) : Bool := at1 (anyOf twos) ws (j + 2) && (at1 isRP ws j && at1 isRP ws (j + 1))
def may (ws : List PyData) (i : Nat) : Bool := at1 isRP ws i && (at1 (anyOf ones) ws (i + 1) || (pr ws i || (decide (0 < i) && pr ws (i - 1))))
/-- a row in the heap -/
structure Ro (K : Frag) (H : Hp) (v : V) (ws : List PyData) : Prop where
  tr : Tr K H v (.tuple ws)
  wd : ∀ y ∈ ws, Wd y
  len : ws.length ≤ 500
theorem Ro.mono {K : Frag} {H H' : Hp} {v : V} {ws : List PyData} (r : Ro K H v ws) (k : TKs K H H') : Ro K H' v ws := ⟨r.tr.mono k, r.wd, r.len⟩
theorem Ro.at_ {K : Frag} {H : Hp} {v : V} {ws : List PyData} (r : Ro K H v ws) {i : Nat} (h : i < ws.length) : ∃ (a : Addr) (xs : List V) (x : V) (y : PyData), v = .ref a ∧ SqT K H a xs ∧ xs.length = ws.length ∧ atI xs (i : Int) = some x ∧ ws[i]? = some y ∧ Tr K H x y ∧ Wd y := by
  obtain ⟨a, xs, rfl, h1, h2⟩ := r.tr.tupD
  have hx : i < xs.length := by rw [h2.len]; exact h
  obtain ⟨y, hy, ty⟩ := h2.get (List.getElem?_eq_getElem hx)
  exact ⟨a, xs, xs[i], y, rfl, h1, h2.len, atI_nat (List.getElem?_eq_getElem hx), hy, ty, r.wd y (List.mem_of_getElem? hy)⟩
theorem Wd.shaped {y : PyData} (h : Wd y) : SeqAt.shaped y = true := by
  obtain ⟨_, a, b⟩ := h
  show (PyData.canLay0 y && decide (PyData.depth y ≤ 64)) = true
  rw [a, Bool.true_and]; exact decide_eq_true (by omega)
theorem isStrOf {K : Frag} {H : Hp} {v : V} {y : PyData} (h : Tr K H v y) (g : Wd y) : ∃ t, TyX K H v t ∧ kitOne K t (.type "str") = some (isS y) := by
  rcases g.1 with ⟨z, rfl⟩ | ⟨s, e, rfl⟩
  · cases h
    exact ⟨_, .base (.str _), kit_ty (r := true) (by decide +kernel)⟩
  · obtain ⟨a, xs, rfl, h1, h2⟩ := h.tupD
    exact ⟨_, tyTup h1, kit_ty (r := false) (by decide +kernel)⟩
theorem isTupOf {K : Frag} {H : Hp} {v : V} {y : PyData} (h : Tr K H v y) (g : Wd y) : ∃ t, TyX K H v t ∧ kitOne K t (.type "tuple") = some (!isS y) := by
  rcases g.1 with ⟨z, rfl⟩ | ⟨s, e, rfl⟩
  · cases h
    exact ⟨_, .base (.str _), kit_ty (r := false) (by decide +kernel)⟩
  · obtain ⟨a, xs, rfl, h1, h2⟩ := h.tupD
    exact ⟨_, tyTup h1, kit_ty (r := true) (by decide +kernel)⟩
theorem secTr {K : Frag} {H : Hp} {v : V} {x y : PyData} {t : List PyData} (h : Tr K H v (.tuple (x :: y :: t))) : ∃ (a : Addr) (xs : List V) (u : V), v = .ref a ∧ SqT K H a xs ∧ atI xs 1 = some u ∧ Tr K H u y := by
  obtain ⟨a, xs, e, h1, h2⟩ := h.tupD
  cases h2 with
  | cons hu h3 => cases h3 with
    | cons hv _ => exact ⟨a, _, _, e, h1, atI_nat (j := 1) rfl, hv⟩
theorem fstTr {K : Frag} {H : Hp} {v : V} {x : PyData} {t : List PyData} (h : Tr K H v (.tuple (x :: t))) : ∃ (a : Addr) (xs : List V) (u : V), v = .ref a ∧ SqT K H a xs ∧ atI xs 0 = some u ∧ Tr K H u x := by
  obtain ⟨a, xs, e, h1, h2⟩ := h.tupD
  cases h2 with
  | cons hu _ => exact ⟨a, _, _, e, h1, atI_nat (j := 0) rfl, hu⟩
theorem eqs (a b : Str) : (decide (V.str a = V.str b)) = decide (a = b) := by
  by_cases h : a = b
  · rw [h, decide_eq_true rfl, decide_eq_true rfl]
  · rw [decide_eq_false h, decide_eq_false fun z => h (V.str.inj z)]
section
variable {P : Program} {w : World} {K : PySem.W.Frag} {mg : Str → Option Value} {base : Heap}
def spIsWhole : Sp := fun vs H Q _ => ∃ i : Int, vs = [.int i] ∧ Q (.bl true) H
theorem scIsWhole : FnScope ["thing"] ["thing"] (defScope sIsWhole) := ⟨rfl, rfl, rfl, by decide +kernel, rfl, by decide +kernel, by decide +kernel⟩
theorem ok_isWhole {f : Addr} {fd : FuncData} (F : Fun K "is_whole" "is_whole" sIsWhole f fd) (misi : mg "isinstance" = none) (mint : mg "int" = none) (mbool : mg "bool" = none) : FnOk P w K mg base CX0 1 f fd ["thing"] spIsWhole := by
  refine F.ok scIsWhole (fun vs H Q E h => ?_) (fun cdv A outer s H vs Q E hr h => ?_)
  · obtain ⟨z, rfl, _⟩ := h
    rfl
  obtain ⟨i, rfl, q⟩ := h
  refine ⟨_, pss_one (ps_ret (pe_and (pe_callB call_isi (by rfl) misi PyProof.Rows.boot_isinstance (pa_cons (pv 0) (pa_cons (pe_bltn (v := .ty "int") (by rfl) mint (by decide +kernel) rfl) pa_nil)))
    (pe_one (pe_not (pe_callB call_isi (by rfl) misi PyProof.Rows.boot_isinstance (pa_cons (pv 0) (pa_cons (pe_bltn (v := .ty "bool") (by rfl) mbool (by decide +kernel) rfl) pa_nil))))))), ?_⟩
  refine ⟨_, rfl, _, _, _, _, true, rfl, .ty _, .base (.int _), kit_ty (r := true) (by decide +kernel), _, rfl, iteT ?_⟩
  exact ⟨_, rfl, _, _, _, _, false, rfl, .ty _, .base (.int _), kit_ty (r := false) (by decide +kernel), _, rfl, q⟩
def spIsPush (K : Frag) : Sp := fun vs H Q _ => ∃ (v : V) (y : PyData), vs = [v] ∧ Tr K H v y ∧ Wd y ∧ Q (.bl (!isS y)) H
theorem scIsPush : FnScope ["word"] ["word"] (defScope sIsPush) := ⟨rfl, rfl, rfl, by decide +kernel, rfl, by decide +kernel, by decide +kernel⟩
theorem ok_isPush {f : Addr} {fd : FuncData} (F : Fun K "is_push" "is_push" sIsPush f fd) (misi : mg "isinstance" = none) (mstr : mg "str" = none) : FnOk P w K mg base CX0 1 f fd ["word"] (spIsPush K) := by
  refine F.ok scIsPush (fun vs H Q E h => ?_) (fun cdv A outer s H vs Q E hr h => ?_)
  · obtain ⟨z, y, rfl, _⟩ := h
    rfl
  obtain ⟨v, y, rfl, tv, wy, q⟩ := h
  refine ⟨_, pss_one (ps_ret (pe_not (pe_callB call_isi (by rfl) misi PyProof.Rows.boot_isinstance (pa_cons (pv 0) (pa_cons (pe_bltn (v := .ty "str") (by rfl) mstr (by decide +kernel) rfl) pa_nil))))), ?_⟩
  obtain ⟨t, h1, h2⟩ := isStrOf tv wy
  exact ⟨_, rfl, _, _, _, _, isS y, rfl, .ty _, h1, h2, _, rfl, q⟩
def spIsRP (K : Frag) : Sp := fun vs H Q _ => ∃ (v : V) (y : PyData), vs = [v] ∧ Tr K H v y ∧ Wd y ∧ Q (.bl (isRP y)) H
theorem scIsRP : FnScope ["word"] ["word"] (defScope sIsRP) := ⟨rfl, rfl, rfl, by decide +kernel, rfl, by decide +kernel, by decide +kernel⟩
theorem ok_isRP {f g : Addr} {fd gd : FuncData} (F : Fun K "is_row_push" "is_row_push" sIsRP f fd) (G : FnOk P w K mg base CX0 1 g gd ["word"] (spIsPush K)) (bG : L2.Binds K gd ["word"] []) (kG : keepIn K (.ref g) = true) (mG : mg "is_push" = some (.ref g)) : FnOk P w K mg base CX0 2 f fd ["word"] (spIsRP K) := by
  refine F.ok scIsRP (fun vs H Q E h => ?_) (fun cdv A outer s H vs Q E hr h => ?_)
  · obtain ⟨z, y, rfl, _⟩ := h
    rfl
  obtain ⟨v, y, rfl, tv, wy, q⟩ := h
  refine ⟨_, pss_one (ps_ret (pe_and (pe_call G hr rfl mG kG bG .nil pass0 (pa_cons (pv 0) pa_nil)) (pe_one (pe_cmpR op_eq (pe_ix ix_tup (pe_ix ix_tup (pv 0) pe_int (fun _ _ => rfl)) pe_int (fun _ _ => rfl)) pe_str (nomark _))))), ?_⟩
  refine ⟨_, rfl, v, y, rfl, tv, wy, _, rfl, ?_⟩
  rcases wy.1 with ⟨z, rfl⟩ | ⟨s', e, rfl⟩
  · exact iteF q
  · refine iteT ?_
    obtain ⟨a, xs, u, rfl, h1, h2, h3⟩ := secTr tv
    obtain ⟨b, ys, u', rfl, g1, g2, g3⟩ := fstTr h3
    cases g3
    refine ⟨_, rfl, a, _, _, _, rfl, rfl, h1, h2, b, _, _, _, rfl, rfl, g1, g2, rfl, ?_⟩
    rw [eqs]
    exact q
def spPair (K : Frag) : Sp := fun vs H Q _ => ∃ (v : V) (ws : List PyData) (j : Int), vs = [v, .int j] ∧ Ro K H v ws ∧ -1 ≤ j ∧ j ≤ 500 ∧ Q (.bl (decide (0 ≤ j) && pr ws j.toNat)) H
theorem scPair : FnScope ["row", "number"] ["row", "number"] (defScope sPair) := ⟨rfl, rfl, rfl, by decide +kernel, rfl, by decide +kernel, by decide +kernel⟩
theorem kd {K : Frag} {H : Hp} {t : Addr} {zs : List Str} (h : kTup K t = some (zs.map V.str)) : Dp K H (.ref t) (.tuple (zs.map PyData.str)) := by
  refine .tup (kTup_ok h H) ?_
  clear h
  induction zs with
  | nil => exact .nil
  | cons z r ih => exact .cons (.str z) ih
theorem ok_pair {f g T : Addr} {fd gd : FuncData} (F : Fun K "is_pair_done" "is_pair_done" sPair f fd) (G : FnOk P w K mg base CX0 2 g gd ["word"] (spIsRP K)) (bG : L2.Binds K gd ["word"] []) (kG : keepIn K (.ref g) = true) (mG : mg "is_row_push" = some (.ref g))
    (mT : mg "DOING_TWO" = some (.ref T)) (kT : kTup K T = some (twos.map V.str)) (mlen : mg "len" = none) : FnOk P w K mg base CX0 3 f fd ["row", "number"] (spPair K) := by
  refine F.ok scPair (fun vs H Q E h => ?_) (fun cdv A outer s H vs Q E hr h => ?_)
  · obtain ⟨v, ws, j, rfl, _⟩ := h
    rfl
  obtain ⟨v, ws, j, rfl, R, j0, j1, q⟩ := h
  have hu : (A.deeper (PyProof.Rows.envOfC "is_pair_done" (defScope sPair) s.heap.objs.size f cdv)).units + 65 < cLine := by have := hr.un; omega
  refine ⟨_, pss_cons (ps_if (PW.pt (pw_or (pt_cmpR op_lt (pv 1) pe_int (nomark _)) (pw_or (pt_cmpR op_ge (pe_op op_add (pv 1) pe_int) (pe_callB call_len_seq (by rfl) mlen PySem.boot_len (pa_cons (pv 0) pa_nil)) (nomark _)) (pw_or1 (pt_cmpR (op_notInTD hu) (pe_ix ix_tup (pv 0) (pe_op op_add (pv 1) pe_int) (fun _ _ => rfl)) (pe_glob (v := .ref T) (by rfl) mT rfl) rfl))))) (pss_one (ps_ret pe_bl)) pss_nil)
    (pss_one (ps_ret (pe_and (pe_call G hr rfl mG kG bG .nil pass0 (pa_cons (pe_ix ix_tup (pv 0) (pv 1) (fun _ _ => rfl)) pa_nil)) (pe_one (pe_call G hr rfl mG kG bG .nil pass0 (pa_cons (pe_ix ix_tup (pv 0) (pe_op op_add (pv 1) pe_int) (fun _ _ => rfl)) pa_nil)))))), ?_⟩
  refine ⟨_, rfl, _, _, rfl, rfl, _, rfl, ?_⟩
  by_cases c0 : j < 0
  · rw [decide_eq_true c0]
    refine iteT (iteT ?_)
    rw [decide_eq_false (show ¬ 0 ≤ j by omega)] at q
    exact q
  rw [decide_eq_false c0]
  refine iteF ?_
  rw [decide_eq_true (show 0 ≤ j by omega), Bool.true_and] at q
  obtain ⟨i, rfl⟩ := Int.eq_ofNat_of_zero_le (show 0 ≤ j by omega)
  rw [Int.toNat_natCast] at q
  obtain ⟨a, xs, rfl, h1, h2⟩ := R.tr.tupD
  refine ⟨_, rfl, _, _, rfl, rfl, _, rfl, a, _, rfl, .inr h1, _, _, rfl, rfl, _, rfl, ?_⟩
  rw [h2.len]
  by_cases c1 : i + 2 < ws.length
  · rw [decide_eq_false (show ¬ (ws.length : Int) ≤ (i : Int) + 2 by omega)]
    refine iteF ?_
    obtain ⟨a', xs', x, y, e', g1, gl, gx, gy, ty, wy⟩ := R.at_ c1
    cases e'
    refine ⟨_, rfl, _, rfl, _, _, rfl, rfl, a, _, _, _, rfl, rfl, g1, gx, y, _, ty.dp, kd kT, wy.shaped, (by decide +kernel), _, rfl, ?_⟩
    have e2 : at1 (anyOf twos) ws (i + 2) = anyOf twos y := by unfold at1; rw [gy]
    show if (!anyOf twos y) = true then _ else _
    unfold pr at q
    rw [e2] at q
    cases hy : anyOf twos y with
    | false =>
      rw [hy, Bool.false_and] at q
      exact iteT q
    | true =>
      rw [hy, Bool.true_and] at q
      refine iteF ?_
      obtain ⟨a1, xs1, x1, y1, e1', g11, gl1, gx1, gy1, ty1, wy1⟩ := R.at_ (show i < ws.length by omega)
      obtain ⟨a3, xs3, x3, y3, e3', g31, gl3, gx3, gy3, ty3, wy3⟩ := R.at_ (show i + 1 < ws.length by omega)
      cases e1'
      cases e3'
      have u1 : at1 isRP ws i = isRP y1 := by unfold at1; rw [gy1]
      have u3 : at1 isRP ws (i + 1) = isRP y3 := by unfold at1; rw [gy3]
      rw [u1, u3] at q
      refine ⟨_, rfl, _, rfl, a, _, _, _, rfl, rfl, g11, gx1, x1, y1, rfl, ty1, wy1, _, rfl, ?_⟩
      cases h1' : isRP y1 with
      | false =>
        rw [h1', Bool.false_and] at q
        exact iteF q
      | true =>
        rw [h1', Bool.true_and] at q
        refine iteT ?_
        exact ⟨_, rfl, _, rfl, _, _, rfl, rfl, a, _, _, _, rfl, rfl, g31, gx3, x3, y3, rfl, ty3, wy3, q⟩
  · rw [decide_eq_true (show (ws.length : Int) ≤ (i : Int) + 2 by omega)]
    refine iteT (iteT ?_)
    have e2 : at1 (anyOf twos) ws (i + 2) = false := by
      unfold at1
      rw [List.getElem?_eq_none (by omega)]
    unfold pr at q
    rw [e2, Bool.false_and] at q
    exact q
def spMay (K : Frag) : Sp := fun vs H Q _ => ∃ (v : V) (ws : List PyData) (i : Nat), vs = [v, .int i] ∧ Ro K H v ws ∧ i < ws.length ∧ Q (.bl (may ws i)) H
theorem scMay : FnScope ["row", "number"] ["row", "number"] (defScope sMay) := ⟨rfl, rfl, rfl, by decide +kernel, rfl, by decide +kernel, by decide +kernel⟩
theorem ok_may {f gi gr gp T : Addr} {fd gid grd gpd : FuncData} (F : Fun K "may_enter" "may_enter" sMay f fd)
    (I : FnOk P w K mg base CX0 1 gi gid ["thing"] spIsWhole) (bI : L2.Binds K gid ["thing"] []) (kI : keepIn K (.ref gi) = true) (mI : mg "is_whole" = some (.ref gi))
    (G : FnOk P w K mg base CX0 2 gr grd ["word"] (spIsRP K)) (bG : L2.Binds K grd ["word"] []) (kG : keepIn K (.ref gr) = true) (mG : mg "is_row_push" = some (.ref gr))
    (D : FnOk P w K mg base CX0 3 gp gpd ["row", "number"] (spPair K)) (bD : L2.Binds K gpd ["row", "number"] []) (kD : keepIn K (.ref gp) = true) (mD : mg "is_pair_done" = some (.ref gp))
    (mT : mg "DOING_ONE" = some (.ref T)) (kT : kTup K T = some (ones.map V.str)) (mlen : mg "len" = none) : FnOk P w K mg base CX0 4 f fd ["row", "number"] (spMay K) := by
  refine F.ok scMay (fun vs H Q E h => ?_) (fun cdv A outer s H vs Q E hr h => ?_)
  · obtain ⟨v, ws, j, rfl, _⟩ := h
    rfl
  obtain ⟨v, ws, i, rfl, R, hi, q⟩ := h
  have hu : (A.deeper (PyProof.Rows.envOfC "may_enter" (defScope sMay) s.heap.objs.size f cdv)).units + 65 < cLine := by have := hr.un; omega
  have hr1 := hr.mono (show 1 ≤ 3 by decide)
  have hr2 := hr.mono (show 2 ≤ 3 by decide)
  refine ⟨_, pss_cons (ps_if (PW.pt (pw_or (pt_not (pt_val (pe_call I hr1 rfl mI kI bI .nil pass0 (pa_cons (pv 1) pa_nil)))) (pw_or (pt_not (pt_chain op_le op_lt pe_int (pv 1) (pe_callB call_len_seq (by rfl) mlen PySem.boot_len (pa_cons (pv 0) pa_nil)))) (pw_or1 (pt_not (pt_val (pe_call G hr2 rfl mG kG bG .nil pass0 (pa_cons (pe_ix ix_tup (pv 0) (pv 1) (fun _ _ => rfl)) pa_nil)))))))) (pss_one (ps_ret pe_bl)) pss_nil)
    (pss_cons (ps_if (PW.pt (pw_and (pt_cmpR op_lt (pe_op op_add (pv 1) pe_int) (pe_callB call_len_seq (by rfl) mlen PySem.boot_len (pa_cons (pv 0) pa_nil)) (nomark _)) (pw_and1 (pt_cmpR (op_inTD hu) (pe_ix ix_tup (pv 0) (pe_op op_add (pv 1) pe_int) (fun _ _ => rfl)) (pe_glob (v := .ref T) (by rfl) mT rfl) rfl)))) (pss_one (ps_ret pe_bl)) pss_nil)
    (pss_one (ps_ret (pe_or (pe_call D hr rfl mD kD bD .nil pass0 (pa_cons (pv 0) (pa_cons (pv 1) pa_nil))) (pe_one (pe_call D hr rfl mD kD bD .nil pass0 (pa_cons (pv 0) (pa_cons (pe_op op_sub (pv 1) pe_int) pa_nil)))))))), ?_⟩
  obtain ⟨a, xs, rfl, h1, h2⟩ := R.tr.tupD
  obtain ⟨a1, xs1, x1, y1, e1', g11, gl1, gx1, gy1, ty1, wy1⟩ := R.at_ hi
  cases e1'
  have u1 : at1 isRP ws i = isRP y1 := by unfold at1; rw [gy1]
  unfold may at q
  rw [u1] at q
  have hl := R.len
  refine ⟨_, rfl, _, rfl, _, rfl, iteF ?_⟩
  refine ⟨_, rfl, _, _, rfl, rfl, _, rfl, ?_⟩
  rw [decide_eq_true (show (0 : Int) ≤ i by omega)]
  refine iteT ?_
  refine ⟨_, rfl, a, _, rfl, .inr h1, _, _, rfl, rfl, _, rfl, ?_⟩
  rw [h2.len, decide_eq_true (show (i : Int) < (ws.length : Int) by omega)]
  refine iteF ?_
  refine ⟨_, rfl, _, rfl, a, _, _, _, rfl, rfl, g11, gx1, x1, y1, rfl, ty1, wy1, _, rfl, ?_⟩
  cases h1' : isRP y1 with
  | false =>
    rw [h1', Bool.false_and] at q
    exact iteT q
  | true =>
    rw [h1', Bool.true_and] at q
    refine iteF ?_
    have go : ∀ b1 : Bool, at1 (anyOf ones) ws (i + 1) = b1 → True := fun _ _ => trivial
    refine ⟨_, rfl, _, _, rfl, rfl, _, rfl, a, _, rfl, .inr h1, _, _, rfl, rfl, _, rfl, ?_⟩
    rw [h2.len]
    by_cases c1 : i + 1 < ws.length
    · rw [decide_eq_true (show (i : Int) + 1 < (ws.length : Int) by omega)]
      refine iteT ?_
      obtain ⟨a3, xs3, x3, y3, e3', g31, gl3, gx3, gy3, ty3, wy3⟩ := R.at_ c1
      cases e3'
      have u3 : at1 (anyOf ones) ws (i + 1) = anyOf ones y3 := by unfold at1; rw [gy3]
      rw [u3] at q
      refine ⟨_, rfl, _, rfl, _, _, rfl, rfl, a, _, _, _, rfl, rfl, g31, gx3, y3, _, ty3.dp, kd kT, wy3.shaped, (by decide +kernel), _, rfl, ?_⟩
      show if anyOf ones y3 = true then _ else _
      cases hy : anyOf ones y3 with
      | true =>
        rw [hy, Bool.true_or] at q
        exact iteT q
      | false =>
        rw [hy, Bool.false_or] at q
        refine iteF ?_
        refine ⟨_, rfl, _, rfl, _, ws, i, rfl, R, by omega, by omega, ?_⟩
        rw [decide_eq_true (show (0 : Int) ≤ i by omega), Bool.true_and, Int.toNat_natCast]
        refine ⟨_, rfl, ?_⟩
        cases hp : pr ws i with
        | true =>
          rw [hp, Bool.true_or] at q
          exact iteT q
        | false =>
          rw [hp, Bool.false_or] at q
          refine iteF ?_
          refine ⟨_, rfl, _, rfl, _, _, rfl, rfl, _, ws, (i : Int) - 1, rfl, R, by omega, by omega, ?_⟩
          rw [show decide ((0 : Int) ≤ (i : Int) - 1) = decide (0 < i) by by_cases c : 0 < i <;> simp [c] <;> omega, show ((i : Int) - 1).toNat = i - 1 by omega]
          exact q
    · rw [decide_eq_false (show ¬ (i : Int) + 1 < (ws.length : Int) by omega)]
      refine iteF (iteF ?_)
      have u3 : at1 (anyOf ones) ws (i + 1) = false := by
        unfold at1
        rw [List.getElem?_eq_none (by omega)]
      rw [u3, Bool.false_or] at q
      refine ⟨_, rfl, _, rfl, _, ws, i, rfl, R, by omega, by omega, ?_⟩
      rw [decide_eq_true (show (0 : Int) ≤ i by omega), Bool.true_and, Int.toNat_natCast]
      refine ⟨_, rfl, ?_⟩
      cases hp : pr ws i with
      | true =>
        rw [hp, Bool.true_or] at q
        exact iteT q
      | false =>
        rw [hp, Bool.false_or] at q
        refine iteF ?_
        refine ⟨_, rfl, _, rfl, _, _, rfl, rfl, _, ws, (i : Int) - 1, rfl, R, by omega, by omega, ?_⟩
        rw [show decide ((0 : Int) ≤ (i : Int) - 1) = decide (0 < i) by by_cases c : 0 < i <;> simp [c] <;> omega, show ((i : Int) - 1).toNat = i - 1 by omega]
        exact q
end
end K49
namespace K49
open PySem PySem.W L2 SX Cm
def kn0 (y : PyData) : PyData := if isRP y = true then .int 0 else y
theorem kn0_lay {y : PyData} (h : Wd y) : PyData.canLay0 (kn0 y) = true ∧ PyData.depth (kn0 y) ≤ 50 := by
  unfold kn0
  split
  · exact ⟨rfl, Nat.zero_le _⟩
  · exact h.2
theorem kn0_any {y : PyData} (h : Wd y) (zs : List Str) : anyOf zs (kn0 y) = anyOf zs y := by
  unfold kn0
  split
  · rcases h.1 with ⟨z, rfl⟩ | ⟨s, e, rfl⟩
    · rename_i h'
      exact absurd h' (by unfold isRP; simp)
    · unfold anyOf
      rw [List.any_map, List.any_map]
      rfl
  · rfl
theorem kn0_eq {y : PyData} (h : Wd y) : PyData.eqv (kn0 y) (.int 0) = isRP y := by
  unfold kn0
  cases hy : isRP y with
  | true => rfl
  | false =>
    rcases h.1 with ⟨z, rfl⟩ | ⟨s, e, rfl⟩
    · rfl
    · rfl
theorem cutV_nat (xs : List V) (i k : Nat) : cutV xs (some (i : Int)) (some ((i + k : Nat) : Int)) = (xs.drop i).take k := by
  unfold cutV
  rw [HT.sIx_nat, HT.sIx_nat]
  by_cases h : i ≤ xs.length
  · rw [Nat.min_eq_left h]
    by_cases h2 : i + k ≤ xs.length
    · rw [Nat.min_eq_left h2, Nat.add_sub_cancel_left]
    · rw [Nat.min_eq_right (by omega), List.take_of_length_le (by rw [List.length_drop]; omega), List.take_of_length_le (by rw [List.length_drop]; omega)]
  · rw [Nat.min_eq_right (by omega), Nat.min_eq_right (by omega), List.drop_eq_nil_of_le (Nat.le_refl _), List.drop_eq_nil_of_le (by omega)]
    simp
theorem TrAll.drop' {K : Frag} {H : Hp} : ∀ {v : List V} {d : List PyData} (i : Nat), TrAll K H v d → TrAll K H (v.drop i) (d.drop i)
  | _, _, 0, h => h
  | _, _, i + 1, .nil => .nil
  | _, _, i + 1, .cons _ t => TrAll.drop' i t
theorem TrAll.take' {K : Frag} {H : Hp} : ∀ {v : List V} {d : List PyData} (i : Nat), TrAll K H v d → TrAll K H (v.take i) (d.take i)
  | _, _, 0, h => .nil
  | _, _, i + 1, .nil => .nil
  | _, _, i + 1, .cons h t => .cons h (TrAll.take' i t)
/-- two zeros from i on -/
theorem two_eq : ∀ (ws : List PyData) (i : Nat), (∀ y ∈ ws, Wd y) → PyData.eqv (.list (((ws.map kn0).drop i).take 2)) (.list [.int 0, .int 0]) = (at1 isRP ws i && at1 isRP ws (i + 1))
  | [], i, _ => by
    show PyData.eqv (.list ((([] : List PyData).drop i).take 2)) _ = _
    rw [List.drop_nil]
    show false = _
    unfold at1; rw [List.getElem?_nil]; rfl
  | [y], 0, h => by
    show (PyData.eqv (kn0 y) (.int 0) && false) = (isRP y && false)
    rw [Bool.and_false, Bool.and_false]
  | y :: z :: r, 0, h => by
    show (PyData.eqv (kn0 y) (.int 0) && (PyData.eqv (kn0 z) (.int 0) && true)) = (isRP y && isRP z)
    rw [kn0_eq (h y (List.mem_cons_self ..)), kn0_eq (h z (List.mem_cons_of_mem _ (List.mem_cons_self ..))), Bool.and_true]
  | y :: r, i + 1, h => two_eq r i fun z hz => h z (List.mem_cons_of_mem _ hz)
theorem ne_nil (ds : List PyData) : (!PyData.eqv (.list ds) (.list [])) = decide (0 < ds.length) := by
  cases ds with
  | nil => rfl
  | cons x r => rfl
section
variable {P : Program} {w : World} {K : PySem.W.Frag} {mg : Str → Option Value} {base : Heap}
def spLMay (K : Frag) : Sp := fun vs H Q _ => ∃ (v : V) (ws : List PyData) (i : Nat), vs = [v, .int i] ∧ Ro K H v ws ∧ i < ws.length ∧ ∀ H', Same H H' → Q (.bl (may ws i)) H'
abbrev NM : List Str := ["_law_row_here", "_law_number_here", "_law_known", "_law_word_here", "_law_at"]
theorem scLMay : FnScope NM ["_law_row_here", "_law_number_here"] (defScope sLMay) := ⟨rfl, rfl, rfl, by decide +kernel, rfl, by decide +kernel, by decide +kernel⟩
theorem ok_lmay {f : Addr} {fd : FuncData} (F : Fun K "_law_may" "_law_may" sLMay f fd) (mlen : mg "len" = none) (misi : mg "isinstance" = none) (mtup : mg "tuple" = none) : FnOk P w K mg base CX0 1 f fd ["_law_row_here", "_law_number_here"] (spLMay K) := by
  refine F.ok scLMay (fun vs H Q E h => ?_) (fun cdv A outer s H vs Q E hr h => ?_)
  · obtain ⟨v, ws, j, rfl, _⟩ := h
    rfl
  obtain ⟨v, ws, i, rfl, R, hi, q⟩ := h
  have hu : (A.deeper (PyProof.Rows.envOfC "_law_may" (defScope sLMay) s.heap.objs.size f cdv)).units + 65 < cLine := by have := hr.un; omega
  have hu4 : (A.deeper (PyProof.Rows.envOfC "_law_may" (defScope sLMay) s.heap.objs.size f cdv)).units + 64 < cLine := by have := hr.un; omega
  refine ⟨_, pss_cons (ps_if (PW.pt (pw_or (pt_cmpR op_ge (pv 1) (pe_callB call_len_seq (by rfl) mlen PySem.boot_len (pa_cons (pv 0) pa_nil)) (nomark _)) (pw_or (pt_not (pt_val (pe_callB call_isi (by rfl) misi PyProof.Rows.boot_isinstance (pa_cons (pe_ix ix_tup (pv 0) (pv 1) (fun _ _ => rfl)) (pa_cons (pe_bltn (v := .ty "tuple") (by rfl) mtup (by decide +kernel) rfl) pa_nil))))) (pw_or1 (pt_cmpR op_ne (pe_ix ix_tup (pe_ix ix_tup (pe_ix ix_tup (pv 0) (pv 1) (fun _ _ => rfl)) pe_int (fun _ _ => rfl)) pe_int (fun _ _ => rfl)) pe_str (nomark _)))))) (pss_one (ps_ret pe_bl)) pss_nil)
    (pss_cons (ps_set (i := 2) scLMay.nd rfl (.inl rfl) (pe_lst pa_nil))
    (C8.pss_cut (ps_for PassesOwn.never rfl (pi_tup (pv 0)) (pg_name (i := 3) scLMay.nd rfl (.inl rfl))
      (pss_one (ps_expr (pe_bm PySem.F.plainAttrs_list PySem.F.slot_list_append PySem.F.type_list_append mt_append (pv 2) (pa_cons (pe_ifExp (PW.pt (pw_and (pt_val (pe_callB call_isi (by rfl) misi PyProof.Rows.boot_isinstance (pa_cons (pv 3) (pa_cons (pe_bltn (v := .ty "tuple") (by rfl) mtup (by decide +kernel) rfl) pa_nil)))) (pw_and1 (pt_cmpR op_eq (pe_ix ix_tup (pe_ix ix_tup (pv 3) pe_int (fun _ _ => rfl)) pe_int (fun _ _ => rfl)) pe_str (nomark _))))) pe_int (pv 3)) pa_nil)))))
    (C8.pss_cut (ps_if (PW.pt (pw_and (pt_cmpR (op_neD hu4) (pe_slice sl_list (pv 2) (po_some (pe_op op_add (pv 1) pe_int)) (po_some (pe_op op_add (pv 1) pe_int))) (pe_lst pa_nil) (nomark _)) (pw_and1 (pt_cmpR (op_inTD hu) (pe_ix ix_list (pv 2) (pe_op op_add (pv 1) pe_int) (fun _ _ => rfl)) (pe_tup (pa_cons pe_str (pa_cons pe_str (pa_cons pe_str (pa_cons pe_str pa_nil))))) rfl)))) (pss_one (ps_ret pe_bl)) pss_nil)
    (pss_cons (ps_for PassesOwn.never rfl (pi_tup (pe_tup (pa_cons (pe_op op_sub (pv 1) pe_int) (pa_cons (pv 1) pa_nil)))) (pg_name (i := 4) scLMay.nd rfl (.inl rfl))
      (pss_one (ps_if (PW.pt (pw_and (pt_cmpR op_ge (pv 4) pe_int (nomark _)) (pw_and (pt_cmpR (op_eqD hu4) (pe_slice sl_list (pv 2) (po_some (pv 4)) (po_some (pe_op op_add (pv 4) pe_int))) (pe_lst (pa_cons pe_int (pa_cons pe_int pa_nil))) (nomark _)) (pw_and1 (pt_cmpR op_lt (pe_op op_add (pv 4) pe_int) (pe_callB call_len_seq (by rfl) mlen PySem.boot_len (pa_cons (pv 0) pa_nil)) (nomark _))))))
        (pss_one (ps_if (pt_cmpR (op_inTD hu) (pe_ix ix_list (pv 2) (pe_op op_add (pv 4) pe_int) (fun _ _ => rfl)) (pe_tup (pa_cons pe_str (pa_cons pe_str (pa_cons pe_str pa_nil)))) rfl) (pss_one (ps_ret pe_bl)) pss_nil)) pss_nil)))
    (pss_one (ps_ret pe_bl)))))), ?_⟩
  obtain ⟨a, xs, rfl, h1, h2⟩ := R.tr.tupD
  obtain ⟨a1, xs1, x1, y1, e1', g11, gl1, gx1, gy1, ty1, wy1⟩ := R.at_ hi
  cases e1'
  have u1 : at1 isRP ws i = isRP y1 := by unfold at1; rw [gy1]
  have hl := R.len
  refine ⟨_, rfl, _, rfl, a, _, rfl, .inr h1, _, _, rfl, rfl, _, rfl, ?_⟩
  rw [h2.len, decide_eq_false (show ¬ (ws.length : Int) ≤ (i : Int) by omega)]
  refine iteF ?_
  obtain ⟨tt, t1, t2⟩ := isTupOf ty1 wy1
  refine ⟨_, rfl, _, rfl, a, _, _, _, rfl, rfl, g11, gx1, _, _, _, _, !isS y1, rfl, .ty _, t1, t2, _, rfl, ?_⟩
  have no : isRP y1 = false → ∀ H', Same H H' → Q (.bl false) H' := fun h H' s' => by
    have := q H' s'
    unfold may at this
    rw [u1, h, Bool.false_and] at this
    exact this
  rcases wy1.1 with ⟨z, rfl⟩ | ⟨s1, e1, rfl⟩
  · exact iteT (iteT (no rfl H (Same.refl H)))
  refine iteF ?_
  obtain ⟨b, ys, u, rfl, b1, b2, b3⟩ := secTr ty1
  obtain ⟨c, zs, u', rfl, c1, c2, c3⟩ := fstTr b3
  cases c3
  refine ⟨_, rfl, _, rfl, a, _, _, _, rfl, rfl, g11, gx1, b, _, _, _, rfl, rfl, b1, b2, c, _, _, _, rfl, rfl, c1, c2, rfl, _, rfl, ?_⟩
  rw [eqs]
  by_cases hs : s1 = "row"
  case neg =>
    rw [decide_eq_false hs]
    exact iteT (no (decide_eq_false hs) H (Same.refl H))
  rw [decide_eq_true hs]
  refine iteF ?_
  have u1' : at1 isRP ws i = true := by rw [u1]; exact decide_eq_true hs
  have q' : ∀ H', Same H H' → Q (.bl (at1 (anyOf ones) ws (i + 1) || (pr ws i || (decide (0 < i) && pr ws (i - 1))))) H' := fun H' s' => by
    have := q H' s'
    unfold may at this
    rw [u1', Bool.true_and] at this
    exact this
  refine ⟨(by show 0 ≤ sizeLine; decide), fun L nL => ?_⟩
  refine ⟨fun σ H' => ∃ x3 ks, σ = [some (.ref a), some (.int i), some (.ref L), x3, none] ∧ Same H H' ∧ H' L = some (.lst ks) ∧ TrAll K H' ks (ws.map kn0), ?_, ?_⟩
  · refine ⟨_, rfl, a, rfl, ⟨_, (TKs.of (same_new nL _)) _ _ h1⟩, ?_⟩
    refine for_tup (K := K) (a := a) (xs := xs) (fun k σ H' => ∃ x3 ks, σ = [some (.ref a), some (.int i), some (.ref L), x3, none] ∧ Same H H' ∧ H' L = some (.lst ks) ∧ ks.length = k ∧ TrAll K H' ks ((ws.take k).map kn0)) ⟨none, [], rfl, same_new nL _, upd_same, rfl, .nil⟩ (fun k σ H' _ h => by obtain ⟨_, _, _, e, _⟩ := h; exact (TKs.of e) _ _ h1) ?_ ?_
    · rintro k x σ H2 hx ⟨x3, ks, rfl, s2, hL2, lk, tk⟩
      have hk : k < xs.length := (List.getElem?_eq_some_iff.mp hx).1
      obtain ⟨y, hy, ty⟩ := h2.get hx
      have wy := R.wd y (List.mem_of_getElem? hy)
      have ty2 := ty.mono (TKs.of (K := K) s2)
      obtain ⟨tt', t1', t2'⟩ := isTupOf ty2 wy
      have hk' : k < ws.length := by rw [← h2.len]; exact hk
      have et : (ws.take (k + 1)).map kn0 = (ws.take k).map kn0 ++ [kn0 y] := by rw [List.take_add_one, hy, List.map_append]; rfl
      have fin : ∀ (v : V), Tr K H2 v (kn0 y) → rAppend (.ref L) [v] H2 (fun _ H3 => ∃ x3 ks, [some (.ref a), some (.int i), some (.ref L), some x, none] = [some (.ref a), some (.int (i : Int)), some (.ref L), x3, (none : Option V)] ∧ Same H H3 ∧ H3 L = some (.lst ks) ∧ ks.length = k + 1 ∧ TrAll K H3 ks ((ws.take (k + 1)).map kn0)) := fun v tv => by
        refine ⟨L, _, _, rfl, rfl, hL2, ?_, ?_⟩
        · exact small1000 (by omega)
        refine ⟨_, _, rfl, own_new s2 nL, upd_same, by rw [List.length_append, lk]; rfl, ?_⟩
        rw [et]
        exact (tk.append (.cons tv .nil)).mono (TKs.lst hL2)
      refine ⟨_, rfl, .inl ⟨rfl, _, SqL.of hL2⟩, _, rfl, _, _, _, _, !isS y, rfl, .ty _, t1', t2', _, rfl, ?_⟩
      rcases wy.1 with ⟨z, rfl⟩ | ⟨s', e', rfl⟩
      · refine iteF (iteF ?_)
        exact ⟨_, rfl, fin _ ty2⟩
      · refine iteT ?_
        obtain ⟨b', ys', u, rfl, b1', b2', b3'⟩ := secTr ty2
        obtain ⟨c', zs', u', rfl, c1', c2', c3'⟩ := fstTr b3'
        cases c3'
        refine ⟨_, rfl, b', _, _, _, rfl, rfl, b1', b2', c', _, _, _, rfl, rfl, c1', c2', rfl, _, rfl, ?_⟩
        rw [eqs]
        by_cases hs' : s' = "row"
        · rw [decide_eq_true hs']
          refine iteT ?_
          have : kn0 (.tuple [.str "push", .tuple [.str s', e']]) = .int 0 := by
            unfold kn0; rw [show isRP (.tuple [.str "push", .tuple [.str s', e']]) = true from decide_eq_true hs']; rfl
          refine fin _ ?_
          rw [this]; exact .int 0
        · rw [decide_eq_false hs']
          refine iteF ?_
          have : kn0 (.tuple [.str "push", .tuple [.str s', e']]) = .tuple [.str "push", .tuple [.str s', e']] := by
            unfold kn0; rw [show isRP (.tuple [.str "push", .tuple [.str s', e']]) = false from decide_eq_false hs']; rfl
          refine ⟨_, rfl, fin _ ?_⟩
          rw [this]; exact ty2
    · rintro σ H2 ⟨x3, ks, rfl, s2, hL2, lk, tk⟩
      rw [h2.len, List.take_length] at tk
      exact ⟨x3, ks, rfl, s2, hL2, tk⟩
  rintro σ H2 ⟨x3, ks, rfl, s2, hL2, tk⟩
  have lk : ks.length = ws.length := by rw [tk.len, List.length_map]
  have lays : ∀ y ∈ ws.map kn0, PyData.canLay0 y = true ∧ PyData.depth y ≤ 50 := fun y hy => by
    obtain ⟨y0, h0, rfl⟩ := List.mem_map.mp hy
    exact kn0_lay (R.wd y0 h0)
  have kat : ∀ (j : Nat) (Hx : Hp), TrAll K Hx ks (ws.map kn0) → j < ws.length → ∃ x y, atI ks (j : Int) = some x ∧ ws[j]? = some y ∧ Wd y ∧ Tr K Hx x (kn0 y) := fun j Hx tr hj => by
    have hx : j < ks.length := by omega
    obtain ⟨y', hy', ty'⟩ := tr.get (List.getElem?_eq_getElem hx)
    rw [List.getElem?_map] at hy'
    obtain ⟨y, hy, rfl⟩ := Option.map_eq_some_iff.mp hy'
    exact ⟨_, y, atI_nat (List.getElem?_eq_getElem hx), hy, R.wd y (List.mem_of_getElem? hy), ty'⟩
  have ec : cutV ks (some ((i : Int) + 1)) (some ((i : Int) + 2)) = (ks.drop (i + 1)).take 1 := by
    have := cutV_nat ks (i + 1) 1
    rw [show ((i + 1 : Nat) : Int) = (i : Int) + 1 by omega, show ((i + 1 + 1 : Nat) : Int) = (i : Int) + 2 by omega] at this
    exact this
  have dpS : ∀ (Hx : Hp) (T : Addr) (zs : List Str), Hx T = some (.tup (zs.map V.str)) → Dp K Hx (.ref T) (.tuple (zs.map PyData.str)) := fun Hx T zs h => by
    refine .tup (SqT.of h) ?_
    clear h
    induction zs with
    | nil => exact .nil
    | cons z r ih => exact .cons (.str z) ih
  have rest : ∀ H5, Same H2 H5 → at1 (anyOf ones) ws (i + 1) = false → Same H H5 ∧ H5 L = some (.lst ks) ∧ TrAll K H5 ks (ws.map kn0) := fun H5 s5 _ => ⟨s2.trans s5, s5 _ _ hL2, tk.mono (.of s5)⟩
  refine ⟨fun σ H' => σ = [some (.ref a), some (.int i), some (.ref L), x3, none] ∧ Same H H' ∧ H' L = some (.lst ks) ∧ TrAll K H' ks (ws.map kn0) ∧ at1 (anyOf ones) ws (i + 1) = false, ?_, ?_⟩
  · refine ⟨_, rfl, _, rfl, _, _, rfl, rfl, (i : Int) + 1, rfl, _, rfl, _, _, rfl, rfl, (i : Int) + 2, rfl, L, _, rfl, SqL.of hL2, fun p np => ⟨(by show 0 ≤ sizeLine; decide), fun p2 np2 => ?_⟩⟩
    rw [ec] at np2 ⊢
    have s5 := (same_new np (.lst ((ks.drop (i + 1)).take 1))).trans (same_new np2 (.lst []))
    have hp := kn (o' := .lst []) (upd_same (H := H2) (a := p) (o := .lst ((ks.drop (i + 1)).take 1))) np2
    have tk5 := tk.mono (TKs.of (K := K) s5)
    refine ⟨.list (((ws.map kn0).drop (i + 1)).take 1), .list [], .lst (SqL.of hp) (TrAll.take' 1 (TrAll.drop' (i + 1) tk5)).dp, .lst (SqL.of upd_same) .nil, shaped_l (fun y hy => lays y (List.mem_of_mem_drop (List.mem_of_mem_take hy))), (by decide +kernel), _, rfl, ?_⟩
    rw [ne_nil]
    generalize upd (upd H2 p (.lst ((ks.drop (i + 1)).take 1))) p2 (.lst []) = H5 at s5 tk5
    have hL5 := s5 _ _ hL2
    by_cases c1 : i + 1 < ws.length
    · rw [decide_eq_true (show 0 < (((ws.map kn0).drop (i + 1)).take 1).length by rw [List.length_take, List.length_drop, List.length_map]; omega)]
      refine iteT ?_
      obtain ⟨x, y, hx, hy, wy, ty⟩ := kat (i + 1) H5 tk5 c1
      have u3 : at1 (anyOf ones) ws (i + 1) = anyOf ones y := by unfold at1; rw [hy]
      refine ⟨_, rfl, _, rfl, _, _, rfl, rfl, L, _, _, _, rfl, rfl, SqL.of hL5, hx, (by show 4 ≤ sizeLine; decide), fun T nT => ?_⟩
      have sT := same_new nT (.tup (ones.map V.str))
      obtain ⟨kl, kd'⟩ := kn0_lay wy
      refine ⟨kn0 y, _, (ty.mono (.of sT)).dp, dpS _ T ones upd_same, ?_, (by decide +kernel), _, rfl, ?_⟩
      · show (PyData.canLay0 (kn0 y) && decide (PyData.depth (kn0 y) ≤ 64)) = true
        rw [kl, Bool.true_and]; exact decide_eq_true (by omega)
      show if anyOf ones (kn0 y) = true then _ else _
      rw [kn0_any wy]
      cases hz : anyOf ones y with
      | true =>
        refine iteT ?_
        have := q' _ (s2.trans (s5.trans sT))
        rw [u3, hz, Bool.true_or] at this
        exact this
      | false =>
        refine iteF ?_
        have s6 := s5.trans sT
        exact ⟨rfl, s2.trans s6, s6 _ _ hL2, tk.mono (.of s6), by rw [u3, hz]⟩
    · rw [decide_eq_false (show ¬ 0 < (((ws.map kn0).drop (i + 1)).take 1).length by rw [List.length_take, List.length_drop, List.length_map]; omega)]
      refine iteF (iteF ?_)
      refine ⟨rfl, s2.trans s5, hL5, tk5, ?_⟩
      unfold at1
      rw [List.getElem?_eq_none (by omega)]
  rintro σ H3 ⟨rfl, s3, hL3, tk3, no1⟩
  have q2 : ∀ H', Same H H' → Q (.bl (pr ws i || (decide (0 < i) && pr ws (i - 1)))) H' := fun H' s' => by
    have := q' H' s'
    rw [no1, Bool.false_or] at this
    exact this
  refine ⟨_, rfl, _, _, rfl, rfl, _, rfl, (by show 2 ≤ sizeLine; decide), fun T nT => ⟨T, rfl, ⟨_, SqT.of upd_same⟩, ?_⟩⟩
  have fT : H T = none := s3.free nT
  refine for_tup (K := K) (a := T) (xs := [.int ((i : Int) - 1), .int i]) (fun k σ H' => ∃ x4, σ = [some (.ref a), some (.int i), some (.ref L), x3, x4] ∧ Same H H' ∧ H' T = some (.tup [.int ((i : Int) - 1), .int i]) ∧ H' L = some (.lst ks) ∧ TrAll K H' ks (ws.map kn0) ∧ (1 ≤ k → (decide (0 < i) && pr ws (i - 1)) = false) ∧ (2 ≤ k → pr ws i = false))
    ⟨none, rfl, s3.trans (same_new nT _), upd_same, kn hL3 nT, tk3.mono (.of (same_new nT _)), fun z => absurd z (by decide), fun z => absurd z (by decide)⟩ (fun k σ H' _ h => by obtain ⟨_, _, _, e, _⟩ := h; exact SqT.of e) ?_ ?_
  · rintro k x σ H4 hx ⟨x4, rfl, s4, hT4, hL4, tk4, n1, n2⟩
    obtain ⟨j, rfl, hj0, hj1, jt, jf⟩ : ∃ j : Int, x = .int j ∧ -1 ≤ j ∧ j ≤ 500 ∧ ((decide (0 ≤ j) && pr ws j.toNat) = true → (pr ws i || (decide (0 < i) && pr ws (i - 1))) = true) ∧ ((decide (0 ≤ j) && pr ws j.toNat) = false → (1 ≤ k + 1 → (decide (0 < i) && pr ws (i - 1)) = false) ∧ (2 ≤ k + 1 → pr ws i = false)) := by
      match k, hx with
      | 0, hx =>
        cases hx
        have e1 : decide ((0 : Int) ≤ (i : Int) - 1) = decide (0 < i) := by by_cases c : 0 < i <;> simp [c] <;> omega
        have e2 : ((i : Int) - 1).toNat = i - 1 := by omega
        refine ⟨_, rfl, by omega, by omega, ?_, ?_⟩
        · rw [e1, e2]; intro h; rw [h, Bool.or_true]
        · rw [e1, e2]; intro h; exact ⟨fun _ => h, fun z => absurd z (by decide)⟩
      | 1, hx =>
        cases hx
        refine ⟨_, rfl, by omega, by omega, ?_, ?_⟩
        · rw [decide_eq_true (show (0 : Int) ≤ i by omega), Bool.true_and, Int.toNat_natCast]; intro h; rw [h, Bool.true_or]
        · rw [decide_eq_true (show (0 : Int) ≤ i by omega), Bool.true_and, Int.toNat_natCast]; intro h; exact ⟨fun _ => n1 (by decide), fun _ => h⟩
      | k + 2, hx => cases hx
    have go : ∀ H5, Same H4 H5 → (decide (0 ≤ j) && pr ws j.toNat) = false → ∃ x4', [some (.ref a), some (.int (i : Int)), some (.ref L), x3, some (.int j)] = [some (.ref a), some (.int (i : Int)), some (.ref L), x3, x4'] ∧ Same H H5 ∧ H5 T = some (.tup [.int ((i : Int) - 1), .int i]) ∧ H5 L = some (.lst ks) ∧ TrAll K H5 ks (ws.map kn0) ∧ (1 ≤ k + 1 → (decide (0 < i) && pr ws (i - 1)) = false) ∧ (2 ≤ k + 1 → pr ws i = false) :=
      fun H5 s5 h => ⟨_, rfl, s4.trans s5, s5 _ _ hT4, s5 _ _ hL4, tk4.mono (.of s5), (jf h).1, (jf h).2⟩
    refine ⟨_, rfl, _, _, rfl, rfl, _, rfl, ?_⟩
    by_cases c0 : 0 ≤ j
    case neg =>
      rw [decide_eq_false c0]
      refine iteF (iteF ?_)
      exact go _ (Same.refl _) (by rw [decide_eq_false c0]; rfl)
    rw [decide_eq_true c0]
    refine iteT ?_
    obtain ⟨n, rfl⟩ := Int.eq_ofNat_of_zero_le c0
    have jt' : pr ws n = true → (pr ws i || (decide (0 < i) && pr ws (i - 1))) = true := fun h => jt (by rw [decide_eq_true c0, Bool.true_and, Int.toNat_natCast]; exact h)
    have go' : ∀ H5, Same H4 H5 → pr ws n = false → _ := fun H5 s5 h => go H5 s5 (by rw [decide_eq_true c0, Bool.true_and, Int.toNat_natCast]; exact h)
    have ec2 : cutV ks (some (n : Int)) (some ((n : Int) + 2)) = (ks.drop n).take 2 := by
      have := cutV_nat ks n 2
      rw [show ((n + 2 : Nat) : Int) = (n : Int) + 2 by omega] at this
      exact this
    refine ⟨_, rfl, _, rfl, (n : Int), rfl, _, rfl, _, _, rfl, rfl, (n : Int) + 2, rfl, L, _, rfl, SqL.of hL4, fun p np => ⟨(by show 2 ≤ sizeLine; decide), fun p2 np2 => ?_⟩⟩
    rw [ec2] at np2 ⊢
    have s5 := (same_new np (.lst ((ks.drop n).take 2))).trans (same_new np2 (.lst [.int 0, .int 0]))
    have hp := kn (o' := .lst [.int 0, .int 0]) (upd_same (H := H4) (a := p) (o := .lst ((ks.drop n).take 2))) np2
    have tk5 := tk4.mono (TKs.of (K := K) s5)
    refine ⟨.list (((ws.map kn0).drop n).take 2), .list [.int 0, .int 0], .lst (SqL.of hp) (TrAll.take' 2 (TrAll.drop' n tk5)).dp, .lst (SqL.of upd_same) (.cons (.int 0) (.cons (.int 0) .nil)), shaped_l (fun y hy => lays y (List.mem_of_mem_drop (List.mem_of_mem_take hy))), (by decide +kernel), _, rfl, ?_⟩
    rw [two_eq ws n R.wd]
    generalize upd (upd H4 p (.lst ((ks.drop n).take 2))) p2 (.lst [.int 0, .int 0]) = H5 at s5 tk5
    have hL5 := s5 _ _ hL4
    cases hz : (at1 isRP ws n && at1 isRP ws (n + 1)) with
    | false =>
      refine iteF (iteF ?_)
      refine go' _ s5 ?_
      unfold pr
      rw [hz, Bool.and_false]
    | true =>
      refine iteT ?_
      refine ⟨_, rfl, _, _, rfl, rfl, _, rfl, a, _, rfl, .inr ((TKs.of (s4.trans s5)) _ _ h1), _, _, rfl, rfl, _, rfl, ?_⟩
      rw [h2.len]
      by_cases c2 : n + 2 < ws.length
      case neg =>
        rw [decide_eq_false (show ¬ (n : Int) + 2 < (ws.length : Int) by omega)]
        refine iteF ?_
        refine go' _ s5 ?_
        unfold pr
        rw [show at1 (anyOf twos) ws (n + 2) = false by unfold at1; rw [List.getElem?_eq_none (by omega)], Bool.false_and]
      rw [decide_eq_true (show (n : Int) + 2 < (ws.length : Int) by omega)]
      refine iteT ?_
      obtain ⟨x, y, hx', hy, wy, ty⟩ := kat (n + 2) H5 tk5 c2
      have u3 : at1 (anyOf twos) ws (n + 2) = anyOf twos y := by unfold at1; rw [hy]
      refine ⟨_, rfl, _, rfl, _, _, rfl, rfl, L, _, _, _, rfl, rfl, SqL.of hL5, hx', (by show 3 ≤ sizeLine; decide), fun T2 nT2 => ?_⟩
      have sT := same_new nT2 (.tup (twos.map V.str))
      obtain ⟨kl, kd'⟩ := kn0_lay wy
      refine ⟨kn0 y, _, (ty.mono (.of sT)).dp, dpS _ T2 twos upd_same, ?_, (by decide +kernel), _, rfl, ?_⟩
      · show (PyData.canLay0 (kn0 y) && decide (PyData.depth (kn0 y) ≤ 64)) = true
        rw [kl, Bool.true_and]; exact decide_eq_true (by omega)
      show if anyOf twos (kn0 y) = true then _ else _
      rw [kn0_any wy]
      have ep : pr ws n = anyOf twos y := by unfold pr; rw [u3, hz, Bool.and_true]
      cases hy2 : anyOf twos y with
      | true =>
        refine iteT ?_
        have := q2 _ (s4.trans (s5.trans sT))
        rw [jt' (by rw [ep, hy2])] at this
        exact this
      | false =>
        refine iteF ?_
        exact go' _ (s5.trans sT) (by rw [ep, hy2])
  · rintro σ H4 ⟨x4, rfl, s4, hT4, hL4, tk4, n1, n2⟩
    have := q2 _ s4
    rw [n1 (by show 1 ≤ 2; decide), n2 (by show 2 ≤ 2; decide)] at this
    exact this
def spUnlike : Sp := fun vs H Q _ => ∃ b : Bool, vs = [.bl b, .bl b] ∧ Q (.bl false) H
theorem scUnlike : FnScope ["_law_found", "_law_due"] ["_law_found", "_law_due"] (defScope sUnlike) := ⟨rfl, rfl, rfl, by decide +kernel, rfl, by decide +kernel, by decide +kernel⟩
theorem ok_unlike {f : Addr} {fd : FuncData} (F : Fun K "_law_unlike" "_law_unlike" sUnlike f fd) (misi : mg "isinstance" = none) (mbool : mg "bool" = none) : FnOk P w K mg base CX0 1 f fd ["_law_found", "_law_due"] spUnlike := by
  refine F.ok scUnlike (fun vs H Q E h => ?_) (fun cdv A outer s H vs Q E hr h => ?_)
  · obtain ⟨b, rfl, _⟩ := h
    rfl
  obtain ⟨b, rfl, q⟩ := h
  refine ⟨_, pss_one (ps_ret (pe_or (pe_not (pe_callB call_isi (by rfl) misi PyProof.Rows.boot_isinstance (pa_cons (pv 0) (pa_cons (pe_bltn (v := .ty "bool") (by rfl) mbool (by decide +kernel) rfl) pa_nil)))) (pe_one (pe_cmpR op_ne (pv 0) (pv 1) (nomark _))))), ?_⟩
  refine ⟨_, rfl, _, _, _, _, true, rfl, .ty _, .base (.bl _), kit_ty (r := true) (by decide +kernel), _, rfl, ?_⟩
  refine ⟨_, rfl, iteF ?_⟩
  refine ⟨_, rfl, _, rfl, rfl, ?_⟩
  rw [decide_eq_true rfl]
  exact q
end
end K49
namespace K49
open PySem PySem.W L2 SX Cm
theorem Rw.wd {k : Nat} (hk : k ≤ 10) : ∀ {ws : List PyData} {w m : Nat}, Rw k w m ws → ∀ y ∈ ws, Wd y
  | _, _, _, .nil => fun y hy => nomatch hy
  | _, _, _, .txt (z := z) h t => fun y hy => by
    rcases List.mem_cons.mp hy with rfl | hy
    · obtain ⟨a, b⟩ := (Rw.txt (k := k) h .nil).lay
      have a' : (PyData.canLay0 (.str z) && true) = true := a
      rw [Bool.and_true] at a'
      exact ⟨.inl ⟨z, rfl⟩, a', Nat.zero_le _⟩
    · exact Rw.wd hk t y hy
  | _, _, _, .push (t := t') h t => fun y hy => by
    rcases List.mem_cons.mp hy with rfl | hy
    · obtain ⟨a, b⟩ := (Rw.push (k := k) h .nil).lay
      have a' : (PyData.canLay0 (.tuple [.str "push", t']) && true) = true := a
      have b' : max (PyData.depth (.tuple [.str "push", t'])) 0 ≤ 3 * k + 2 := b
      rw [Bool.and_true] at a'
      refine ⟨.inr ?_, a', by omega⟩
      cases h with
      | num n _ _ => exact ⟨_, _, rfl⟩
      | row _ _ => exact ⟨_, _, rfl⟩
      | lst _ _ => exact ⟨_, _, rfl⟩
    · exact Rw.wd hk t y hy
theorem RwB.ro {K : Frag} {H : Hp} {k b : Nat} {v : V} {ws : List PyData} (h : RwB k b ws) (hk : k ≤ 10) (hb : b ≤ 500) (t : Tr K H v (.tuple ws)) : Ro K H v ws := by
  obtain ⟨w, m, h1, h2⟩ := h
  exact ⟨t, Rw.wd hk h1, by have := h1.len; omega⟩
/-- the thing that is a row, and the word that pushes it -/
abbrev rowT (ws : List PyData) : PyData := .tuple [.str "row", .tuple ws]
abbrev pR (ws : List PyData) : PyData := .tuple [.str "push", rowT ws]
theorem RwB.row {k b : Nat} {ws : List PyData} (h : RwB k b ws) : RwB (k + 1) (b + 2) [pR ws] := by
  obtain ⟨w, m, h1, h2⟩ := h
  exact (RwB.push (.row h1 (Nat.lt_succ_self k))).mono (by omega)
theorem at1_app (f : PyData → Bool) (a x : List PyData) (k : Nat) : at1 f (a ++ x) (a.length + k) = at1 f x k := by
  unfold at1
  rw [List.getElem?_append_right (by omega), Nat.add_sub_cancel_left]
theorem may_one (a b : List PyData) {x y : PyData} (hx : isRP x = true) (hy : anyOf ones y = true) : may (a ++ ([x, y] ++ b)) (a.length + 0) = true := by
  unfold may
  rw [at1_app, Nat.add_assoc, at1_app]
  show (isRP x && (anyOf ones y || _)) = true
  rw [hx, hy]; rfl
theorem pr_two (a b : List PyData) {x y z : PyData} (hx : isRP x = true) (hy : isRP y = true) (hz : anyOf twos z = true) : pr (a ++ ([x, y, z] ++ b)) a.length = true := by
  unfold pr
  have e := at1_app isRP a ([x, y, z] ++ b) 0
  rw [Nat.add_zero] at e
  rw [at1_app, at1_app, e]
  show (anyOf twos z && (isRP x && isRP y)) = true
  rw [hx, hy, hz]; rfl
theorem may_two0 (a b : List PyData) {x y z : PyData} (hx : isRP x = true) (hy : isRP y = true) (hz : anyOf twos z = true) : may (a ++ ([x, y, z] ++ b)) (a.length + 0) = true := by
  unfold may
  rw [at1_app]
  simp only [Nat.add_zero]
  rw [pr_two a b hx hy hz]
  show (isRP x && (_ || (true || _))) = true
  rw [hx, Bool.true_or, Bool.or_true]; rfl
theorem may_two1 (a b : List PyData) {x y z : PyData} (hx : isRP x = true) (hy : isRP y = true) (hz : anyOf twos z = true) : may (a ++ ([x, y, z] ++ b)) (a.length + 1) = true := by
  unfold may
  rw [at1_app, Nat.add_sub_cancel, pr_two a b hx hy hz, decide_eq_true (Nat.succ_pos _)]
  show (isRP y && (_ || (_ || (true && true)))) = true
  rw [hy, Bool.true_and, Bool.true_and, Bool.or_true, Bool.or_true]
/-- the ten forms -/
inductive Fs (M O : PyData) : List PyData → Prop
  | one (w : Str) : w ∈ ones → Fs M O [M, .str w]
  | mo (w : Str) : w ∈ twos → Fs M O [M, O, .str w]
  | om (w : Str) : w ∈ twos → Fs M O [O, M, .str w]
theorem any_ones : ∀ w ∈ ones, anyOf ones (.str w) = true := by decide +kernel
theorem any_twos : ∀ w ∈ twos, anyOf twos (.str w) = true := by decide +kernel
theorem Fs.idx {M O : PyData} {ds : List PyData} (h : Fs M O ds) (lm : PyData.canLay0 M = true) (rM : isRP M = true) (rO : isRP O = true) :
    ∃ (j : Nat) (z : PyData), ds[j]? = some z ∧ PyData.eqv z M = true ∧ (∀ (m : Nat) (z' : PyData), m < j → ds[m]? = some z' → PyData.eqv z' M = false) ∧ j < ds.length ∧ ∀ a b : List PyData, may (a ++ (ds ++ b)) (a.length + j) = true := by
  cases h with
  | one w hw => exact ⟨0, M, rfl, SeqAt.eqv_refl M lm, fun m _ h => absurd h (Nat.not_lt_zero m), Nat.succ_pos _, fun a b => may_one a b rM (any_ones w hw)⟩
  | mo w hw => exact ⟨0, M, rfl, SeqAt.eqv_refl M lm, fun m _ h => absurd h (Nat.not_lt_zero m), Nat.succ_pos _, fun a b => may_two0 a b rM rO (any_twos w hw)⟩
  | om w hw =>
    cases he : PyData.eqv O M with
    | true => exact ⟨0, O, rfl, he, fun m _ h => absurd h (Nat.not_lt_zero m), Nat.succ_pos _, fun a b => may_two0 a b rO rM (any_twos w hw)⟩
    | false =>
      refine ⟨1, M, rfl, SeqAt.eqv_refl M lm, fun m z' h e => ?_, Nat.succ_lt_succ (Nat.succ_pos _), fun a b => may_two1 a b rO rM (any_twos w hw)⟩
      obtain rfl : m = 0 := by omega
      cases e
      exact he
theorem lit_ones : ∀ w ∈ ones, litB w 100 = true := by decide +kernel
theorem lit_twos : ∀ w ∈ twos, litB w 100 = true := by decide +kernel
theorem Fs.rw {M O : PyData} {ds : List PyData} (h : Fs M O ds) (rM : RwB 4 82 [M]) (rO : RwB 4 8 [O]) : RwB 4 91 ds := by
  cases h with
  | one w hw => exact (rM.app (RwB.txt (Tx.lit (lit_ones w hw)))).mono (by decide)
  | mo w hw => exact (rM.app (rO.app (RwB.txt (Tx.lit (lit_twos w hw))))).mono (by decide)
  | om w hw => exact (rO.app (rM.app (RwB.txt (Tx.lit (lit_twos w hw))))).mono (by decide)
/-- a stretch in the heap -/
def Str1 (K : Frag) (M O : PyData) (H : Hp) (v : V) : Prop := ∃ (p : Addr) (xs : List V) (ds : List PyData), v = .ref p ∧ TupO H p xs ∧ TrAll K H xs ds ∧ Fs M O ds
theorem Str1.mono {K : Frag} {M O : PyData} {H H' : Hp} {v : V} (h : Str1 K M O H v) (s : Same H H') : Str1 K M O H' v := by
  obtain ⟨p, xs, ds, e, h1, h2, h3⟩ := h
  exact ⟨p, xs, ds, e, h1.same s, h2.mono (.of s), h3⟩
theorem Str1.kp {K : Frag} {M O : PyData} {H H' : Hp} {v : V} {d c : Addr} (h : Str1 K M O H v) (D : Dk H d c) (k : Kp [d, c] H H') : Str1 K M O H' v := by
  obtain ⟨p, xs, ds, e, ⟨o, d1, h1⟩, h2, h3⟩ := h
  have nm : p ∉ [d, c] := fun z => by
    obtain ⟨s, kk, ms, e1, e2, l⟩ := D
    simp only [List.mem_cons, List.not_mem_nil, or_false] at z
    rcases z with rfl | rfl
    · rw [e1] at h1; cases h1
    · rw [e2] at h1; cases h1
  exact ⟨p, xs, ds, e, ⟨o, d1, k _ _ nm h1⟩, h2.mono (D.tks k), h3⟩
def AllS (K : Frag) (M O : PyData) (H0 H : Hp) (vs : List V) : Prop := (∀ v ∈ vs, Str1 K M O H v) ∧ Same H0 H
theorem AllS.add {K : Frag} {M O : PyData} {H0 H : Hp} {vs : List V} (h : AllS K M O H0 H vs) {p : Addr} {o : Obj} (np : H p = none) (od : o.dict = none) {xs : List V} {ds : List PyData} (t : TrAll K H0 xs ds) (f : Fs M O ds) : AllS K M O H0 (upd H p (.frz o (.tup xs))) (vs ++ [.ref p]) := by
  have s := h.2.trans (same_new np (.frz o (.tup xs)))
  refine ⟨fun v hv => ?_, s⟩
  rcases List.mem_append.mp hv with hv | hv
  · exact (h.1 v hv).mono (same_new np _)
  · rw [List.mem_singleton.mp hv]
    exact ⟨p, xs, ds, rfl, ⟨o, od, upd_same⟩, t.mono (.of s), f⟩
theorem AllS.new {K : Frag} {M O : PyData} {H0 H : Hp} {vs : List V} (h : AllS K M O H0 H vs) {p : Addr} {o : HO} (np : H p = none) : AllS K M O H0 (upd H p o) vs := ⟨fun v hv => (h.1 v hv).mono (same_new np _), h.2.trans (same_new np _)⟩
theorem AllS.lst {K : Frag} {M O : PyData} {H0 H : Hp} {vs : List V} (h : AllS K M O H0 H vs) {p : Addr} {xs : List V} (np : H p = none) : AllS K M O H0 (upd H p (.lst xs)) vs ∧ upd H p (.lst xs) p = some (.lst xs) := ⟨h.new np, upd_same⟩
/-- the list at L stays -/
def StL (L : Addr) (xs : List V) (H : Hp) : Prop := H L = some (.lst xs)
section
variable {P : Program} {w : World} {K : PySem.W.Frag} {mg : Str → Option Value} {base : Heap}
def spAround (K : Frag) : Sp := fun vs H Q _ => ∃ (d c n : Addr) (v : V) (ws : List PyData), vs = [.ref d, .ref n, v] ∧ Dk H d c ∧ Nm H n ∧ n ∉ [d, c] ∧ Tr K H v (.tuple ws) ∧ RwB 3 80 ws ∧
  ∀ (p : Addr) (r : V) (us : List PyData) (i : Nat) (H' : Hp), Kp [d, c] H H' → Dk H' d c → SqT K H' p [r, .int i] → Tr K H' r (.tuple us) → RwB 4 200 us → i < us.length → may us i = true → Q (.ref p) H'
abbrev NA : List Str := ["_law_deck_here", "_law_names_here", "_law_inner", "_law_mine", "_law_other", "_law_some", "_law_stretch", "_law_ahead", "_law_behind"]
theorem scAround : FnScope NA ["_law_deck_here", "_law_names_here", "_law_inner"] (defScope sAround) := ⟨rfl, rfl, rfl, by decide +kernel, rfl, by decide +kernel, by decide +kernel⟩
theorem ok_around {f g gr : Addr} {fd gd grd : FuncData} (F : Fun K "_law_around" "_law_around" sAround f fd) (G : FnOk P w K mg base CX0 2 g gd ["_law_deck_here", "_law_most"] spNext) (bG : L2.Binds K gd ["_law_deck_here", "_law_most"] []) (kG : keepIn K (.ref g) = true) (mG : mg "_law_next" = some (.ref g))
    (R : FnOk P w K mg base CX0 6 gr grd A4 (spRow K)) (bR : L2.Binds K grd A4 []) (kR : keepIn K (.ref gr) = true) (mR : mg "_law_row" = some (.ref gr)) (mlen : mg "len" = none) :
    FnOk P w K mg base CX0 7 f fd ["_law_deck_here", "_law_names_here", "_law_inner"] (spAround K) := by
  refine F.ok scAround (fun vs H Q E h => ?_) (fun cdv A outer s H vs Q E hr h => ?_)
  · obtain ⟨d, c, n, v, ws, rfl, _⟩ := h
    rfl
  obtain ⟨d, c, n, v, ws, rfl, D0, N0, nd, tv, rv, q⟩ := h
  have hr2 := hr.mono (show 2 ≤ 6 by decide)
  have hu : (A.deeper (PyProof.Rows.envOfC "_law_around" (defScope sAround) s.heap.objs.size f cdv)).units + 65 < cLine := by have := hr.un; omega
  refine ⟨_, pss_cons (ps_set (i := 3) scAround.nd rfl (.inl rfl) (pe_tup (pa_cons pe_str (pa_cons (pe_tup (pa_cons pe_str (pa_cons (pv 2) pa_nil))) pa_nil))))
    (pss_cons (ps_set (i := 4) scAround.nd rfl (.inl rfl) (pe_tup (pa_cons pe_str (pa_cons (pe_tup (pa_cons pe_str (pa_cons (pe_call R hr rfl mR kR bR .nil pass0 (pa_cons (pv 0) (pa_cons (pv 1) (pa_cons pe_int (pa_cons (pe_call G hr2 rfl mG kG bG .nil pass0 (pa_cons (pv 0) (pa_cons pe_int pa_nil))) pa_nil))))) pa_nil))) pa_nil))))
    (pss_cons (ps_set (i := 5) scAround.nd rfl (.inl rfl) (pe_lst (pa_cons (pe_tupD (pa_cons (pv 3) (pa_cons pe_str pa_nil))) (pa_cons (pe_tupD (pa_cons (pv 3) (pa_cons pe_str pa_nil))) (pa_cons (pe_tupD (pa_cons (pv 3) (pa_cons pe_str pa_nil))) (pa_cons (pe_tupD (pa_cons (pv 3) (pa_cons pe_str pa_nil))) (pa_cons (pe_tupD (pa_cons (pv 3) (pa_cons (pv 4) (pa_cons pe_str pa_nil)))) (pa_cons (pe_tupD (pa_cons (pv 4) (pa_cons (pv 3) (pa_cons pe_str pa_nil)))) pa_nil))))))))
    (pss_cons (ps_set (i := 5) scAround.nd rfl (.inl rfl) (pe_op op_cat (pv 5) (pe_lst (pa_cons (pe_tupD (pa_cons (pv 3) (pa_cons (pv 4) (pa_cons pe_str pa_nil)))) (pa_cons (pe_tupD (pa_cons (pv 4) (pa_cons (pv 3) (pa_cons pe_str pa_nil)))) (pa_cons (pe_tupD (pa_cons (pv 3) (pa_cons (pv 4) (pa_cons pe_str pa_nil)))) (pa_cons (pe_tupD (pa_cons (pv 4) (pa_cons (pv 3) (pa_cons pe_str pa_nil)))) pa_nil)))))))
    (pss_cons (ps_set (i := 6) scAround.nd rfl (.inl rfl) (pe_ix ix_list (pv 5) (pe_call G hr2 rfl mG kG bG .nil pass0 (pa_cons (pv 0) (pa_cons pe_int pa_nil))) (fun _ _ => rfl)))
    (pss_cons (ps_set (i := 7) scAround.nd rfl (.inl rfl) (pe_call R hr rfl mR kR bR .nil pass0 (pa_cons (pv 0) (pa_cons (pv 1) (pa_cons pe_int (pa_cons (pe_call G hr2 rfl mG kG bG .nil pass0 (pa_cons (pv 0) (pa_cons pe_int pa_nil))) pa_nil))))))
    (pss_cons (ps_set (i := 8) scAround.nd rfl (.inl rfl) (pe_call R hr rfl mR kR bR .nil pass0 (pa_cons (pv 0) (pa_cons (pv 1) (pa_cons pe_int (pa_cons (pe_call G hr2 rfl mG kG bG .nil pass0 (pa_cons (pv 0) (pa_cons pe_int pa_nil))) pa_nil))))))
    (pss_one (ps_ret (pe_tup (pa_cons (pe_op op_catA (pe_op op_catA (pv 7) (pv 6)) (pv 8)) (pa_cons (pe_op op_add (pe_callB call_len_seq (by rfl) mlen PySem.boot_len (pa_cons (pv 7) pa_nil)) (pe_bmT PySem.F.slot_tuple_index PySem.F.type_tuple_index (mt_tindexD hu) (pv 6) (pa_cons (pv 3) pa_nil))) pa_nil))))))))))), ?_⟩
  refine ⟨_, rfl, (by show 2 ≤ sizeLine; decide), fun p1 n1 => ⟨(by show 2 ≤ sizeLine; decide), fun p2 n2 => ?_⟩⟩
  have s1 := same_new n1 (.tup [.str "row", v])
  have s2 := s1.trans (same_new n2 (.tup [.str "push", .ref p1]))
  have t1 : Tr K (upd H p1 (.tup [.str "row", v])) (.ref p1) (rowT ws) := .tup (SqT.of upd_same) (.cons (.str _) (.cons (tv.mono (.of s1)) .nil))
  have t2 : Tr K (upd (upd H p1 (.tup [.str "row", v])) p2 (.tup [.str "push", .ref p1])) (.ref p2) (pR ws) := .tup (SqT.of upd_same) (.cons (.str _) (.cons (t1.mono (.of (same_new n2 _))) .nil))
  generalize upd (upd H p1 (.tup [.str "row", v])) p2 (.tup [.str "push", .ref p1]) = H2 at s2 t2
  have D2 := D0.same s2
  refine ⟨_, rfl, _, rfl, _, rfl, d, c, 2, rfl, D2, by decide, by decide, fun r H3 r0 r1 k3 D3 => ?_⟩
  have k3' : Kp [d, c] H H3 := (Kp.of s2).trans k3
  have Nk : ∀ H', Kp [d, c] H H' → Nm H' n := fun H' k => by
    obtain ⟨ns, h, r⟩ := N0
    exact ⟨ns, k _ _ nd h, r⟩
  refine ⟨d, c, n, r, rfl, r0, by omega, D3, Nk _ k3', nd, fun v2 ws2 H4 k4 D4 t4 w4 => ⟨(by show 2 ≤ sizeLine; decide), fun p3 n3 => ⟨(by show 2 ≤ sizeLine; decide), fun p4 n4 => ?_⟩⟩⟩
  have s3 := same_new n3 (.tup [.str "row", v2])
  have s4 := s3.trans (same_new n4 (.tup [.str "push", .ref p3]))
  have t3 : Tr K (upd H4 p3 (.tup [.str "row", v2])) (.ref p3) (rowT ws2) := .tup (SqT.of upd_same) (.cons (.str _) (.cons (t4.mono (.of s3)) .nil))
  have t5 : Tr K (upd (upd H4 p3 (.tup [.str "row", v2])) p4 (.tup [.str "push", .ref p3])) (.ref p4) (pR ws2) := .tup (SqT.of upd_same) (.cons (.str _) (.cons (t3.mono (.of (same_new n4 _))) .nil))
  generalize upd (upd H4 p3 (.tup [.str "row", v2])) p4 (.tup [.str "push", .ref p3]) = H5 at s4 t5
  have D5 := D4.same s4
  have k5 : Kp [d, c] H H5 := (k3'.trans k4).trans (.of s4)
  have tM : Tr K H5 (.ref p2) (pR ws) := (t2.mono (D2.tks (k3.trans k4))).mono (.of s4)
  have rM : RwB 4 82 [pR ws] := rv.row
  have rO : RwB 4 8 [pR ws2] := w4.row.up (by decide)
  have wM : Wd (pR ws) := by obtain ⟨a, b, h, _⟩ := rM; exact Rw.wd (by decide) h _ (List.mem_cons_self ..)
  have wO : Wd (pR ws2) := by obtain ⟨a, b, h, _⟩ := rO; exact Rw.wd (by decide) h _ (List.mem_cons_self ..)
  have iM : isRP (pR ws) = true := rfl
  have iO : isRP (pR ws2) = true := rfl
  generalize pR ws = M at tM rM wM iM
  generalize pR ws2 = O at t5 rO wO iO
  have w1 : ∀ z : Str, TrAll K H5 [.ref p2, .str z] [M, .str z] := fun z => .cons tM (.cons (.str z) .nil)
  have w2 : ∀ z : Str, TrAll K H5 [.ref p2, .ref p4, .str z] [M, O, .str z] := fun z => .cons tM (.cons t5 (.cons (.str z) .nil))
  have w3 : ∀ z : Str, TrAll K H5 [.ref p4, .ref p2, .str z] [O, M, .str z] := fun z => .cons t5 (.cons tM (.cons (.str z) .nil))
  have A0 : AllS K M O H5 H5 [] := ⟨(fun v hv => nomatch hv), fun _ _ h => h⟩
  refine ⟨_, rfl, (by show 2 ≤ sizeLine; decide), fun a1 o1 m1 e1 => ?_⟩
  have A1 := A0.add m1 e1 (w1 "do") (.one _ (by decide +kernel))
  refine ⟨_, rfl, (by show 2 ≤ sizeLine; decide), fun a2 o2 m2 e2 => ?_⟩
  have A2 := A1.add m2 e2 (w1 "dip") (.one _ (by decide +kernel))
  refine ⟨_, rfl, (by show 2 ≤ sizeLine; decide), fun a3 o3 m3 e3 => ?_⟩
  have A3 := A2.add m3 e3 (w1 "repeat") (.one _ (by decide +kernel))
  refine ⟨_, rfl, (by show 2 ≤ sizeLine; decide), fun a4 o4 m4 e4 => ?_⟩
  have A4' := A3.add m4 e4 (w1 "each") (.one _ (by decide +kernel))
  refine ⟨_, rfl, _, rfl, (by show 3 ≤ sizeLine; decide), fun a5 o5 m5 e5 => ?_⟩
  have A5 := A4'.add m5 e5 (w2 "if") (.mo _ (by decide +kernel))
  refine ⟨_, rfl, _, rfl, (by show 3 ≤ sizeLine; decide), fun a6 o6 m6 e6 => ⟨(by show 6 ≤ sizeLine; decide), fun L nL => ?_⟩⟩
  have A6 := A5.add m6 e6 (w3 "if") (.om _ (by decide +kernel))
  obtain ⟨AL, hL⟩ := A6.lst (xs := [.ref a1, .ref a2, .ref a3, .ref a4, .ref a5, .ref a6]) nL
  refine ⟨_, rfl, _, rfl, _, rfl, (by show 3 ≤ sizeLine; decide), fun b1 u1 i1 f1 => ?_⟩
  have B1 := AL.add i1 f1 (w2 "while") (.mo _ (by decide +kernel))
  have l1 := kn (o' := .frz u1 (.tup [.ref p2, .ref p4, .str "while"])) hL i1
  refine ⟨_, rfl, _, rfl, (by show 3 ≤ sizeLine; decide), fun b2 u2 i2 f2 => ?_⟩
  have B2 := B1.add i2 f2 (w3 "while") (.om _ (by decide +kernel))
  have l2 := kn (o' := .frz u2 (.tup [.ref p4, .ref p2, .str "while"])) l1 i2
  refine ⟨_, rfl, _, rfl, (by show 3 ≤ sizeLine; decide), fun b3 u3 i3 f3 => ?_⟩
  have B3 := B2.add i3 f3 (w2 "part") (.mo _ (by decide +kernel))
  have l3 := kn (o' := .frz u3 (.tup [.ref p2, .ref p4, .str "part"])) l2 i3
  refine ⟨_, rfl, _, rfl, (by show 3 ≤ sizeLine; decide), fun b4 u4 i4 f4 => ⟨(by show 4 ≤ sizeLine; decide), fun L2 nL2 => ?_⟩⟩
  have B4 := B3.add i4 f4 (w3 "part") (.om _ (by decide +kernel))
  have l4 := kn (o' := .frz u4 (.tup [.ref p4, .ref p2, .str "part"])) l3 i4
  obtain ⟨BL, hL2⟩ := B4.lst (xs := [.ref b1, .ref b2, .ref b3, .ref b4]) nL2
  have l5 := kn (o' := .lst [.ref b1, .ref b2, .ref b3, .ref b4]) l4 nL2
  refine ⟨L, L2, _, _, rfl, rfl, l5, hL2, (by show 10 ≤ sizeLine; decide), fun L3 nL3 => ?_⟩
  obtain ⟨CL, hL3⟩ := BL.lst (xs := [.ref a1, .ref a2, .ref a3, .ref a4, .ref a5, .ref a6] ++ [.ref b1, .ref b2, .ref b3, .ref b4]) nL3
  obtain ⟨CA, CS⟩ := CL
  have D6 := D5.same CS
  have n6 : L3 ∉ [d, c] := (D5.same BL.2).nd nL3
  refine ⟨_, rfl, _, rfl, d, c, 10, rfl, D6, by decide, by decide, fun r6 H7 r60 r61 k7 D7 => ?_⟩
  obtain ⟨st, hst, ast⟩ := pick (xs := [V.ref a1, .ref a2, .ref a3, .ref a4, .ref a5, .ref a6] ++ [.ref b1, .ref b2, .ref b3, .ref b4]) (n := 10) r60 r61 rfl
  refine ⟨L3, _, _, _, rfl, rfl, SqL.of (k7 _ _ n6 hL3), ast, ?_⟩
  have S7 := (CA st hst).kp D6 k7
  have k7' : Kp [d, c] H H7 := (k5.trans (.of CS)).trans k7
  have tM7 := (tM.mono (.of CS)).mono (D6.tks k7)
  clear CA CS hL3 nL3 BL hL2 l5 nL2 l4 B4 i4 l3 B3 i3 l2 B2 i2 l1 B1 i1 AL hL nL A6 m6 A5 m5 A4' m4 A3 m3 A2 m2 A1 m1 A0 D6 k7
  refine ⟨_, rfl, _, rfl, _, rfl, d, c, 2, rfl, D7, by decide, by decide, fun r8 H8 r80 r81 k8 D8 => ?_⟩
  refine ⟨d, c, n, r8, rfl, r80, by omega, D8, Nk _ (k7'.trans k8), nd, fun va wa H9 k9 D9 ta ra => ?_⟩
  have k9' := k8.trans k9
  refine ⟨_, rfl, _, rfl, _, rfl, d, c, 2, rfl, D9, by decide, by decide, fun r10 H10 r100 r101 k10 D10 => ?_⟩
  refine ⟨d, c, n, r10, rfl, r100, by omega, D10, Nk _ ((k7'.trans k9').trans k10), nd, fun vb wb H11 k11 D11 tb rb => ?_⟩
  have k11' := k10.trans k11
  have ta11 := ta.mono (D9.tks k11')
  have S11 := (S7.kp D7 k9').kp D9 k11'
  have tM11 := (tM7.mono (D7.tks k9')).mono (D9.tks k11')
  have kk : Kp [d, c] H H11 := (k7'.trans k9').trans k11'
  obtain ⟨p, xs, ds, rfl, tO, tds, fs⟩ := S11
  have tst : Tr K H11 (.ref p) (.tuple ds) := .tup tO.sq tds
  have rds := fs.rw rM rO
  have la : wa.length ≤ 6 := by obtain ⟨_, _, h, h'⟩ := ra; have := h.len; omega
  have lb : wb.length ≤ 6 := by obtain ⟨_, _, h, h'⟩ := rb; have := h.len; omega
  have ld : ds.length ≤ 91 := by obtain ⟨_, _, h, h'⟩ := rds; have := h.len; omega
  obtain ⟨j, z, hz, hzM, hno, hj, hm⟩ := fs.idx wM.2.1 iM iO
  refine ⟨_, rfl, _, rfl, catTr ta11 tst (by omega) fun r12 H12 s12 t12 => ?_⟩
  refine ⟨_, rfl, catTr t12 (tb.mono (.of s12)) (by rw [List.length_append]; omega) fun r13 H13 s13 t13 => ?_⟩
  have s' := s12.trans s13
  obtain ⟨aa, xa, rfl, ha1, ha2⟩ := (ta11.mono (.of s')).tupD
  have lays : ∀ y ∈ ds, PyData.canLay0 y = true ∧ PyData.depth y ≤ 50 := fun y hy => by
    obtain ⟨_, _, h, _⟩ := rds
    exact (Rw.wd (by decide) h y hy).2
  refine ⟨_, rfl, aa, _, rfl, .inr ha1, _, rfl, ⟨p, xs, rfl, tO.same s'⟩, _, rfl, p, .ref p2, M, ds, j, z, rfl, rfl, (tst.mono (.of s')).dp, (tM11.mono (.of s')).dp, shaped_t lays, wM.shaped, hz, hzM, hno, _, _, rfl, rfl, (by show 2 ≤ sizeLine; decide), fun pp np => ?_⟩
  have es : ((xa.length : Nat) : Int) + (j : Nat) = ((wa.length + j : Nat) : Int) := by rw [ha2.len]; omega
  show Q (.ref pp) (upd H13 pp (.tup [r13, .int (((xa.length : Nat) : Int) + ((j : Nat) : Int))]))
  rw [es]
  refine q pp r13 _ (wa.length + j) _ ((kk.trans (.of s')).new np) ((D11.same s').new np) (SqT.of upd_same) (t13.mono (.of (same_new np _))) ?_ ?_ ?_
  · exact (((ra.up (by decide)).app rds).app (rb.up (by decide))).mono (by decide)
  · rw [List.length_append, List.length_append]; omega
  · rw [List.append_assoc]; exact hm wa wb
end
end K49
namespace K49
open PySem PySem.W L2 SX Cm
def wz : List Str := ["do", "dip", "repeat", "each", "if", "while", "part", "join", "wrap", "put", "ab-ba", "plus"]
theorem wz_tx : ∀ z ∈ wz, litB z 100 = true := by decide +kernel
section
variable {P : Program} {w : World} {K : PySem.W.Frag} {mg : Str → Option Value} {base : Heap}
def spMixedRow (K : Frag) : Sp := fun vs H Q _ => ∃ (d c n : Addr), vs = [.ref d, .ref n] ∧ Dk H d c ∧ Nm H n ∧ n ∉ [d, c] ∧ ∀ (v : V) (ws : List PyData) (H' : Hp), Kp [d, c] H H' → Dk H' d c → Tr K H' v (.tuple ws) → RwB 3 80 ws → Q v H'
abbrev NX2 : List Str := ["_law_deck_here", "_law_names_here", "_law_words", "_law_found", "_law_k", "_law_way", "_law_word_here"]
theorem scMixedRow : FnScope NX2 ["_law_deck_here", "_law_names_here"] (defScope sMixedRow) := ⟨rfl, rfl, rfl, by decide +kernel, rfl, by decide +kernel, by decide +kernel⟩
theorem ok_mixedRow {f g gr : Addr} {fd gd grd : FuncData} (F : Fun K "_law_mixed_row" "_law_mixed_row" sMixedRow f fd) (G : FnOk P w K mg base CX0 2 g gd ["_law_deck_here", "_law_most"] spNext) (bG : L2.Binds K gd ["_law_deck_here", "_law_most"] []) (kG : keepIn K (.ref g) = true) (mG : mg "_law_next" = some (.ref g))
    (R : FnOk P w K mg base CX0 6 gr grd A4 (spRow K)) (bR : L2.Binds K grd A4 []) (kR : keepIn K (.ref gr) = true) (mR : mg "_law_row" = some (.ref gr)) (mlen : mg "len" = none) (mrange : mg "range" = none) (mtup : mg "tuple" = none) :
    FnOk P w K mg base CX0 7 f fd ["_law_deck_here", "_law_names_here"] (spMixedRow K) := by
  refine F.ok scMixedRow (fun vs H Q E h => ?_) (fun cdv A outer s H vs Q E hr h => ?_)
  · obtain ⟨d, c, n, rfl, _⟩ := h
    rfl
  obtain ⟨d, c, n, rfl, D0, N0, nd, q⟩ := h
  have hr2 := hr.mono (show 2 ≤ 6 by decide)
  refine ⟨_, pss_cons (ps_set (i := 2) scMixedRow.nd rfl (.inl rfl) (pe_op op_cat (pe_lst (pa_cons pe_str (pa_cons pe_str (pa_cons pe_str (pa_cons pe_str (pa_cons pe_str (pa_cons pe_str (pa_cons pe_str (pa_cons pe_str (pa_cons pe_str (pa_cons pe_str (pa_cons pe_str (pa_cons pe_str pa_nil))))))))))))) (pe_slice sl_list (pv 1) po_none (po_some pe_int))))
    (pss_cons (ps_set (i := 3) scMixedRow.nd rfl (.inl rfl) (pe_lst pa_nil))
    (pss_cons (ps_for PassesOwn.never rfl (pi_range1 rfl mrange (pa_cons (pe_call G hr2 rfl mG kG bG .nil pass0 (pa_cons (pv 0) (pa_cons pe_int pa_nil))) pa_nil)) (pg_name (i := 4) scMixedRow.nd rfl (.inl rfl))
      (pss_cons (ps_set (i := 5) scMixedRow.nd rfl (.inl rfl) (pe_call G hr2 rfl mG kG bG .nil pass0 (pa_cons (pv 0) (pa_cons pe_int pa_nil))))
      (pss_cons (ps_set (i := 6) scMixedRow.nd rfl (.inl rfl) (pe_tup (pa_cons pe_str (pa_cons (pe_tup (pa_cons pe_str (pa_cons (pe_call R hr rfl mR kR bR .nil pass0 (pa_cons (pv 0) (pa_cons (pv 1) (pa_cons pe_int (pa_cons (pe_call G hr2 rfl mG kG bG .nil pass0 (pa_cons (pv 0) (pa_cons pe_int pa_nil))) pa_nil))))) pa_nil))) pa_nil))))
      (C8.pss_cut (ps_if (pt_cmpR op_eq (pv 5) pe_int (nomark _)) (pss_one (ps_set (i := 6) scMixedRow.nd rfl (.inl rfl) (pe_tup (pa_cons pe_str (pa_cons (pe_ix ix_list (pe_lst (pa_cons (pe_tup (pa_cons pe_str (pa_cons pe_int pa_nil))) (pa_cons (pe_tup (pa_cons pe_str (pa_cons (pe_tup pa_nil) pa_nil))) (pa_cons (pe_tup (pa_cons pe_str (pa_cons (pe_tup (pa_cons (pe_ix ix_tup (pv 6) pe_int (fun _ _ => rfl)) pa_nil)) pa_nil))) pa_nil)))) (pe_call G hr2 rfl mG kG bG .nil pass0 (pa_cons (pv 0) (pa_cons pe_int pa_nil))) (fun _ _ => rfl)) pa_nil))))) pss_nil)
      (C8.pss_cut (ps_if (PW.pt (pw_or (pt_cmpR op_eq (pv 5) pe_int (nomark _)) (pw_or1 (PW.pt (pw_and (pt_cmpR op_eq (pv 5) pe_int (nomark _)) (pw_and1 (pt_cmpR op_gt (pv 4) pe_int (nomark _)))))))) (pss_one (ps_set (i := 6) scMixedRow.nd rfl (.inl rfl) (pe_ix ix_list (pv 2) (pe_call G hr2 rfl mG kG bG .nil pass0 (pa_cons (pv 0) (pa_cons (pe_callB call_len_seq (by rfl) mlen PySem.boot_len (pa_cons (pv 2) pa_nil)) pa_nil))) (fun _ _ => rfl)))) pss_nil)
      (pss_one (ps_expr (pe_bm PySem.F.plainAttrs_list PySem.F.slot_list_append PySem.F.type_list_append mt_append (pv 3) (pa_cons (pv 6) pa_nil)))))))))
    (pss_one (ps_ret (pe_callTy call_tuple_of (by rfl) mtup (by decide +kernel) (pa_cons (pv 3) pa_nil)))))), ?_⟩
  have Nk : ∀ H', Kp [d, c] H H' → Nm H' n := fun H' k => by
    obtain ⟨ns, h, r⟩ := N0
    exact ⟨ns, k _ _ nd h, r⟩
  obtain ⟨ns, hn, hT, hl⟩ := N0
  refine ⟨(by show 12 ≤ sizeLine; decide), fun L0 nL0 => ⟨_, rfl, 1, rfl, n, _, rfl, SqL.of (kn hn nL0), fun L1 nL1 => ?_⟩⟩
  obtain ⟨ms, em, lm1, lm2⟩ := cut_mem V.str ns none (some 1)
  rw [em]
  refine ⟨L0, L1, _, _, rfl, rfl, kn upd_same nL1, upd_same, ?_, fun W nW => ?_⟩
  · rw [List.length_map]; exact mid (by show 12 + ms.length ≤ 1000000; omega)
  have e0 : (wz.map V.str) ++ ms.map V.str = (wz ++ ms).map V.str := by rw [List.map_append]
  have tx : ∀ z ∈ wz ++ ms, Tx z 100 := fun z hz => by
    rcases List.mem_append.mp hz with h | h
    · exact Tx.lit (wz_tx z h)
    · exact hT z (lm1 z h)
  have lz : (wz ++ ms).length = 12 + ms.length := by rw [List.length_append]; rfl
  have s3 : Same H (upd (upd (upd H L0 (.lst (wz.map V.str))) L1 (.lst (ms.map V.str))) W (.lst ((wz.map V.str) ++ ms.map V.str))) := (same_new nL0 (.lst (wz.map V.str))).trans ((same_new nL1 (.lst (ms.map V.str))).trans (same_new nW (.lst ((wz.map V.str) ++ ms.map V.str))))
  have hW : upd (upd (upd H L0 (.lst (wz.map V.str))) L1 (.lst (ms.map V.str))) W (.lst ((wz.map V.str) ++ ms.map V.str)) W = some (.lst ((wz.map V.str) ++ ms.map V.str)) := upd_same
  have fW : H W = none := ((same_new nL0 (.lst (wz.map V.str))).trans (same_new nL1 (.lst (ms.map V.str)))).free nW
  show tSeq _ _ _ _ (upd (upd (upd H L0 (.lst (wz.map V.str))) L1 (.lst (ms.map V.str))) W (.lst ((wz.map V.str) ++ ms.map V.str)))
  generalize upd (upd (upd H L0 (.lst (wz.map V.str))) L1 (.lst (ms.map V.str))) W (.lst ((wz.map V.str) ++ ms.map V.str)) = H1 at s3 hW
  rw [e0] at hW
  generalize wz ++ ms = zs at tx lz hW
  refine ⟨(by show 0 ≤ sizeLine; decide), fun L nL => ?_⟩
  have fL : H L = none := s3.free nL
  have nWL : W ≠ L := fun z => by rw [z, nL] at hW; cases hW
  have nWd : W ∉ [d, c] := D0.nd fW
  have nLd : L ∉ [d, c] := D0.nd fL
  have D2 := (D0.same s3).new (o := .lst []) nL
  refine ⟨_, rfl, d, c, 9, rfl, D2, by decide, by decide, fun t H3 t0 t1 k3 D3 => ?_⟩
  have k3' : Kp [d, c] H H3 := ((Kp.of s3).new nL).trans k3
  refine ⟨t, rfl, by omega, by omega, for_range (lo := 0) (n := t.toNat) (fun i σ H' => ∃ (x4 x5 x6 : Option V) (xs : List V) (ds : List PyData), σ = [some (.ref d), some (.ref n), some (.ref W), some (.ref L), x4, x5, x6] ∧ H' W = some (.lst (zs.map V.str)) ∧ H' L = some (.lst xs) ∧ xs.length = i ∧ TrAll K H' xs ds ∧ RwB 3 (10 * i) ds ∧ Kp [d, c] H H' ∧ Dk H' d c)
    ⟨none, none, none, [], [], rfl, k3 _ _ nWd (kn hW nL), k3 _ _ nLd upd_same, rfl, .nil, .nil, k3', D3⟩ ?_ ?_⟩
  · rintro i σ H4 hi ⟨x4, x5, x6, xs, ds, rfl, hW4, hL4, lx, tx4, rx4, k4, D4⟩
    refine ⟨_, rfl, d, c, 5, rfl, D4, by decide, by decide, fun wy H5 w0 w1 k5 D5 => ?_⟩
    refine ⟨_, rfl, _, rfl, _, rfl, d, c, 3, rfl, D5, by decide, by decide, fun r H6 r0 r1 k6 D6 => ?_⟩
    refine ⟨d, c, n, r, rfl, r0, by omega, D6, Nk _ ((k4.trans k5).trans k6), nd, fun v2 ws2 H7 k7 D7 t7 w7 => ⟨(by show 2 ≤ sizeLine; decide), fun p3 n3 => ⟨(by show 2 ≤ sizeLine; decide), fun p4 n4 => ?_⟩⟩⟩
    have s8 := (same_new n3 (.tup [.str "row", v2])).trans (same_new n4 (.tup [.str "push", .ref p3]))
    have t3 : Tr K (upd H7 p3 (.tup [.str "row", v2])) (.ref p3) (rowT ws2) := .tup (SqT.of upd_same) (.cons (.str _) (.cons (t7.mono (.of (same_new n3 _))) .nil))
    have t5 : Tr K (upd (upd H7 p3 (.tup [.str "row", v2])) p4 (.tup [.str "push", .ref p3])) (.ref p4) (pR ws2) := .tup (SqT.of upd_same) (.cons (.str _) (.cons (t3.mono (.of (same_new n4 _))) .nil))
    generalize upd (upd H7 p3 (.tup [.str "row", v2])) p4 (.tup [.str "push", .ref p3]) = H8 at s8 t5
    have kA : Kp [d, c] H4 H7 := (k5.trans k6).trans k7
    have kB : Kp [d, c] H4 H8 := kA.trans (.of s8)
    have D8 := D7.same s8
    have tx8 : TrAll K H8 xs ds := tx4.mono (D4.tks kB)
    have hW8 := kB _ _ nWd hW4
    have hL8 := kB _ _ nLd hL4
    have k8 : Kp [d, c] H H8 := k4.trans kB
    refine ⟨fun σ H' => ∃ (wv : V) (y : PyData), σ = [some (.ref d), some (.ref n), some (.ref W), some (.ref L), some (.int (0 + (i : Int))), some (.int wy), some wv] ∧ Tr K H' wv y ∧ RwB 3 10 [y] ∧ Kp [d, c] H8 H' ∧ Dk H' d c, ?_, ?_⟩
    · refine ⟨_, rfl, rfl, _, rfl, ?_⟩
      refine ite2 (fun _ => ?_) (fun _ => ?_)
      · obtain ⟨pa, xa, u, epa, ha1, ha2, ha3⟩ := secTr t5
        cases epa
        refine ⟨(by show 2 ≤ sizeLine; decide), fun q1 m1 => ⟨(by show 0 ≤ sizeLine; decide), fun q2 m2 => ⟨(by show 2 ≤ sizeLine; decide), fun q3 m3 => ?_⟩⟩⟩
        have z1 := same_new m1 (.tup [.str "number", .int 1])
        have z2 := same_new m2 (.tup [])
        have z3 := same_new m3 (.tup [.str "list", .ref q2])
        have c1 : Tr K (upd H8 q1 (.tup [.str "number", .int 1])) (.ref q1) (.tuple [.str "number", .int 1]) := .tup (SqT.of upd_same) (.cons (.str _) (.cons (.int 1) .nil))
        have c2 : Tr K (upd (upd H8 q1 (.tup [.str "number", .int 1])) q2 (.tup [])) (.ref q2) (.tuple []) := .tup (SqT.of upd_same) .nil
        have c3 : Tr K (upd (upd (upd H8 q1 (.tup [.str "number", .int 1])) q2 (.tup [])) q3 (.tup [.str "list", .ref q2])) (.ref q3) (.tuple [.str "list", .tuple []]) := .tup (SqT.of upd_same) (.cons (.str _) (.cons (c2.mono (.of z3)) .nil))
        have y3 := z1.trans (z2.trans z3)
        have c1' := c1.mono (TKs.of (K := K) (z2.trans z3))
        generalize upd (upd (upd H8 q1 (.tup [.str "number", .int 1])) q2 (.tup [])) q3 (.tup [.str "list", .ref q2]) = H9 at c3 y3 c1' ⊢
        refine ⟨_, rfl, p4, _, _, _, rfl, rfl, (TKs.of y3) _ _ ha1, ha2, (by show 1 ≤ sizeLine; decide), fun q4 m4 => ⟨(by show 2 ≤ sizeLine; decide), fun q5 m5 => ⟨(by show 3 ≤ sizeLine; decide), fun LL nLL => ?_⟩⟩⟩
        have z4 := same_new m4 (.tup [u])
        have z5 := same_new m5 (.tup [.str "list", .ref q4])
        have z6 := same_new nLL (.lst [.ref q1, .ref q3, .ref q5])
        have c4 : Tr K (upd H9 q4 (.tup [u])) (.ref q4) (.tuple [rowT ws2]) := .tup (SqT.of upd_same) (.cons ((ha3.mono (.of y3)).mono (.of z4)) .nil)
        have c5 : Tr K (upd (upd H9 q4 (.tup [u])) q5 (.tup [.str "list", .ref q4])) (.ref q5) (.tuple [.str "list", .tuple [rowT ws2]]) := .tup (SqT.of upd_same) (.cons (.str _) (.cons (c4.mono (.of z5)) .nil))
        have y6 := z4.trans (z5.trans z6)
        have c5' := c5.mono (TKs.of (K := K) z6)
        have hLL : upd (upd (upd H9 q4 (.tup [u])) q5 (.tup [.str "list", .ref q4])) LL (.lst [.ref q1, .ref q3, .ref q5]) LL = some (.lst [.ref q1, .ref q3, .ref q5]) := upd_same
        have nLLd : LL ∉ [d, c] := D8.nd ((y3.trans (z4.trans z5)).free nLL)
        generalize upd (upd (upd H9 q4 (.tup [u])) q5 (.tup [.str "list", .ref q4])) LL (.lst [.ref q1, .ref q3, .ref q5]) = H10 at c5' y6 hLL ⊢
        have D10 := (D8.same y3).same y6
        refine ⟨_, rfl, d, c, 3, rfl, D10, by decide, by decide, fun r3 H11 r30 r31 k11 D11 => ?_⟩
        have tk := D10.tks (K := K) k11
        obtain ⟨th, hth, ath⟩ := pick (xs := [V.ref q1, .ref q3, .ref q5]) (n := 3) r30 r31 rfl
        refine ⟨LL, _, _, _, rfl, rfl, SqL.of (k11 _ _ nLLd hLL), ath, (by show 2 ≤ sizeLine; decide), fun q6 m6 => ?_⟩
        have kz : Kp [d, c] H8 (upd H11 q6 (.tup [.str "push", th])) := (((Kp.of y3).trans (.of y6)).trans k11).new m6
        have fin : ∀ (e : PyData), Tr K H11 th e → RwB 3 10 [.tuple [.str "push", e]] → ∃ (wv : V) (y : PyData), [some (.ref d), some (.ref n), some (.ref W), some (.ref L), some (.int (0 + (i : Int))), some (.int wy), some (.ref q6)] = [some (.ref d), some (.ref n), some (.ref W), some (.ref L), some (.int (0 + (i : Int))), some (.int wy), some wv] ∧ Tr K (upd H11 q6 (.tup [.str "push", th])) wv y ∧ RwB 3 10 [y] ∧ Kp [d, c] H8 (upd H11 q6 (.tup [.str "push", th])) ∧ Dk (upd H11 q6 (.tup [.str "push", th])) d c := fun e te re => ⟨.ref q6, _, rfl, .tup (SqT.of upd_same) (.cons (.str _) (.cons (te.mono (.of (same_new m6 _))) .nil)), re, kz, D11.new m6⟩
        simp only [List.mem_cons, List.not_mem_nil, or_false] at hth
        rcases hth with rfl | rfl | rfl
        · exact fin _ ((c1'.mono (.of y6)).mono tk) ((RwB.push (.num 1 (by decide) (by decide))).mono (by decide))
        · exact fin _ ((c3.mono (.of y6)).mono tk) ((RwB.push (.lst (k := 0) .nil (by decide))).mono (by decide))
        · refine fin _ (c5'.mono tk) ?_
          obtain ⟨w', m', h1', h2'⟩ := w7
          exact (RwB.push (.lst (k := 2) (.cons (.row h1' (by decide)) .nil) (by decide))).mono (by omega)
      · exact ⟨.ref p4, pR ws2, rfl, t5, (w7.row.up (by decide)).mono (by decide), Kp.refl _ _, D8⟩
    rintro σ H9 ⟨wv, y, rfl, t9, r9, k9, D9⟩
    refine ⟨fun σ H' => ∃ (wv : V) (y : PyData), σ = [some (.ref d), some (.ref n), some (.ref W), some (.ref L), some (.int (0 + (i : Int))), some (.int wy), some wv] ∧ Tr K H' wv y ∧ RwB 3 10 [y] ∧ Kp [d, c] H8 H' ∧ Dk H' d c, ?_, ?_⟩
    · have hW9 := k9 _ _ nWd hW8
      refine ⟨_, rfl, rfl, _, rfl, ?_⟩
      refine ite2 (fun _ => iteT ?_) (fun _ => ?_)
      · exact ⟨_, rfl, _, rfl, _, rfl, W, _, rfl, .inl (SqL.of hW9), d, c, _, rfl, D9, by rw [List.length_map]; omega, by rw [List.length_map]; omega, fun u H10 u0 u1 k10 D10 => by
        rw [List.length_map] at u1
        obtain ⟨x, hx, ha⟩ := pick (xs := zs.map V.str) (n := zs.length) u0 u1 (by rw [List.length_map])
        obtain ⟨z, hz, rfl⟩ := List.mem_map.mp hx
        exact ⟨W, _, _, _, rfl, rfl, SqL.of (k10 _ _ nWd hW9), ha, .str z, .str z, rfl, .str z, ((RwB.txt (tx z hz)).mono (by decide)), k9.trans k10, D10⟩⟩
      refine ⟨_, rfl, rfl, _, rfl, ?_⟩
      refine ite2 (fun _ => ?_) (fun _ => iteF ?_)
      · refine ⟨_, rfl, _, _, rfl, rfl, _, rfl, ?_⟩
        refine ite2 (fun _ => ?_) (fun _ => ?_)
        · exact ⟨_, rfl, _, rfl, _, rfl, W, _, rfl, .inl (SqL.of hW9), d, c, _, rfl, D9, by rw [List.length_map]; omega, by rw [List.length_map]; omega, fun u H10 u0 u1 k10 D10 => by
        rw [List.length_map] at u1
        obtain ⟨x, hx, ha⟩ := pick (xs := zs.map V.str) (n := zs.length) u0 u1 (by rw [List.length_map])
        obtain ⟨z, hz, rfl⟩ := List.mem_map.mp hx
        exact ⟨W, _, _, _, rfl, rfl, SqL.of (k10 _ _ nWd hW9), ha, .str z, .str z, rfl, .str z, ((RwB.txt (tx z hz)).mono (by decide)), k9.trans k10, D10⟩⟩
        · exact ⟨wv, y, rfl, t9, r9, k9, D9⟩
      · exact ⟨wv, y, rfl, t9, r9, k9, D9⟩
    rintro σ H10 ⟨wv, y, rfl, t10, r10, k10, D10⟩
    have kC : Kp [d, c] H4 H10 := kB.trans k10
    have hL10 := kC _ _ nLd hL4
    refine ⟨_, rfl, .inl ⟨rfl, _, SqL.of hL10⟩, _, rfl, L, _, _, rfl, rfl, hL10, ?_, ?_⟩
    · exact small1000 (by omega)
    refine ⟨_, _, _, xs ++ [wv], ds ++ [y], rfl, by rw [upd_ne nWL]; exact kC _ _ nWd hW4, upd_same, by rw [List.length_append, lx]; rfl, ((tx4.mono (D4.tks kC)).append (.cons t10 .nil)).mono (TKs.lst hL10), (rx4.app r10).mono (by omega), (k4.trans kC).put fL, D10.put nLd⟩
  · rintro σ H4 ⟨x4, x5, x6, xs, ds, rfl, hW4, hL4, lx, tx4, rx4, k4, D4⟩
    refine ⟨_, rfl, L, _, rfl, .inl ⟨SqL.of hL4, fun p np => ?_⟩⟩
    exact q _ ds _ (k4.new np) (D4.new np) (.tup (SqT.of upd_same) (tx4.mono (.of (same_new np _)))) (rx4.mono (by omega))
end
end K49
namespace K49
open PySem PySem.W L2 SX Cm
section
variable {P : Program} {w : World} {K : PySem.W.Frag} {mg : Str → Option Value} {base : Heap}
def spLaw (K : PySem.W.Frag) : Sp := fun vs H Q _ => ∃ (a : Addr) (ns : List Int), vs = [.ref a] ∧ SqL K H a (ns.map V.int) ∧ ns.length ≤ 63 ∧ ∀ H', Q (.bl true) H'
abbrev NL : List Str := ["_law_script", "_law_deck_here", "_law_names_here", "_law_turn", "_law_row_here", "_law_number_here", "_law_due"]
theorem scLaw : FnScope NL ["_law_script"] (defScope sLaw) := ⟨rfl, rfl, rfl, by decide +kernel, rfl, by decide +kernel, by decide +kernel⟩
theorem ok_law {f gd gn gm ga ge gl gu : Addr} {fd dd nd md ad ed ld ud : FuncData} (F : Fun K "law" "law" sLaw f fd)
    (DE : FnOk P w K mg base CX0 1 gd dd ["_law_script"] (spDeck K)) (bDE : L2.Binds K dd ["_law_script"] []) (kDE : keepIn K (.ref gd) = true) (mDE : mg "_law_deck" = some (.ref gd))
    (NA' : FnOk P w K mg base CX0 3 gn nd ["_law_deck_here", "_law_many"] spNames) (bNA : L2.Binds K nd ["_law_deck_here", "_law_many"] []) (kNA : keepIn K (.ref gn) = true) (mNA : mg "_law_names" = some (.ref gn))
    (MR : FnOk P w K mg base CX0 7 gm md ["_law_deck_here", "_law_names_here"] (spMixedRow K)) (bMR : L2.Binds K md ["_law_deck_here", "_law_names_here"] []) (kMR : keepIn K (.ref gm) = true) (mMR : mg "_law_mixed_row" = some (.ref gm))
    (AR : FnOk P w K mg base CX0 7 ga ad ["_law_deck_here", "_law_names_here", "_law_inner"] (spAround K)) (bAR : L2.Binds K ad ["_law_deck_here", "_law_names_here", "_law_inner"] []) (kAR : keepIn K (.ref ga) = true) (mAR : mg "_law_around" = some (.ref ga))
    (ME : FnOk P w K mg base CX0 4 ge ed ["row", "number"] (spMay K)) (bME : L2.Binds K ed ["row", "number"] []) (kME : keepIn K (.ref ge) = true) (mME : mg "may_enter" = some (.ref ge))
    (LM : FnOk P w K mg base CX0 1 gl ld ["_law_row_here", "_law_number_here"] (spLMay K)) (bLM : L2.Binds K ld ["_law_row_here", "_law_number_here"] []) (kLM : keepIn K (.ref gl) = true) (mLM : mg "_law_may" = some (.ref gl))
    (UN : FnOk P w K mg base CX0 1 gu ud ["_law_found", "_law_due"] spUnlike) (bUN : L2.Binds K ud ["_law_found", "_law_due"] []) (kUN : keepIn K (.ref gu) = true) (mUN : mg "_law_unlike" = some (.ref gu))
    (mrange : mg "range" = none) (mlen : mg "len" = none) : FnOk P w K mg base CX0 8 f fd ["_law_script"] (spLaw K) := by
  refine F.ok scLaw (fun vs H Q E h => ?_) (fun cdv A outer s H vs Q E hr h => ?_)
  · obtain ⟨a, ns, rfl, _⟩ := h
    rfl
  obtain ⟨a, ns, rfl, hS, h63, q⟩ := h
  have hr1 := hr.mono (show 1 ≤ 7 by decide)
  have hr3 := hr.mono (show 3 ≤ 7 by decide)
  have hr4 := hr.mono (show 4 ≤ 7 by decide)
  refine ⟨_, pss_cons (ps_set (i := 1) scLaw.nd rfl (.inl rfl) (pe_call DE hr1 rfl mDE kDE bDE .nil pass0 (pa_cons (pv 0) pa_nil)))
    (pss_cons (ps_set (i := 2) scLaw.nd rfl (.inl rfl) (pe_call NA' hr3 rfl mNA kNA bNA .nil pass0 (pa_cons (pv 1) (pa_cons pe_int pa_nil))))
    (pss_cons (ps_for PassesOwn.never rfl (pi_range1 rfl mrange (pa_cons pe_int pa_nil)) (pg_name (i := 3) scLaw.nd rfl (.inl rfl))
      (pss_cons (ps_set (i := 4) scLaw.nd rfl (.inl rfl) (pe_call MR hr rfl mMR kMR bMR .nil pass0 (pa_cons (pv 1) (pa_cons (pv 2) pa_nil))))
      (C8.pss_cut (ps_if (pt_cmpR op_eq (pe_op op_mod (pv 3) pe_int) pe_int (nomark _))
        (pss_cons (ps_asg (pe_call AR hr rfl mAR kAR bAR .nil pass0 (pa_cons (pv 1) (pa_cons (pv 2) (pa_cons (pv 4) pa_nil)))) (pg_tup rfl (pgs_cons (pg_name (i := 4) scLaw.nd rfl (.inl rfl)) (pgs_cons (pg_name (i := 5) scLaw.nd rfl (.inl rfl)) pgs_nil))))
        (pss_one (ps_if (pt_cmpR op_isnot_bl (pe_call ME hr4 rfl mME kME bME .nil pass0 (pa_cons (pv 4) (pa_cons (pv 5) pa_nil))) pe_bl rfl) (pss_one (ps_ret pe_bl)) pss_nil))) pss_nil)
      (pss_one (ps_for PassesOwn.never rfl (pi_range1 rfl mrange (pa_cons (pe_callB call_len_seq (by rfl) mlen PySem.boot_len (pa_cons (pv 4) pa_nil)) pa_nil)) (pg_name (i := 5) scLaw.nd rfl (.inl rfl))
        (pss_cons (ps_set (i := 6) scLaw.nd rfl (.inl rfl) (pe_call LM hr1 rfl mLM kLM bLM .nil pass0 (pa_cons (pv 4) (pa_cons (pv 5) pa_nil))))
        (pss_one (ps_if (PW.pt (pw_or (pt_val (pe_call UN hr1 rfl mUN kUN bUN .nil pass0 (pa_cons (pe_call ME hr4 rfl mME kME bME .nil pass0 (pa_cons (pv 4) (pa_cons (pv 5) pa_nil))) (pa_cons (pv 6) pa_nil)))) (pw_or1 (pt_val (pe_call UN hr1 rfl mUN kUN bUN .nil pass0 (pa_cons (pe_call ME hr4 rfl mME kME bME .nil pass0 (pa_cons (pv 4) (pa_cons (pv 5) pa_nil))) (pa_cons (pv 6) pa_nil))))))) (pss_one (ps_ret pe_bl)) pss_nil))))))))
    (pss_one (ps_ret pe_bl)))), ?_⟩
  refine ⟨_, rfl, a, ns, rfl, hS, h63, fun d c H1 s1 nd1 nc1 D1 => ?_⟩
  refine ⟨_, rfl, d, c, rfl, D1, fun n H2 k2 D2 fn N2 => ?_⟩
  have nnd : n ∉ [d, c] := D1.nd fn
  refine ⟨8, rfl, by decide, by decide, for_range (lo := 0) (n := 8) (fun i σ H' => ∃ (x3 x4 x5 x6 : Option V), σ = [some (.ref a), some (.ref d), some (.ref n), x3, x4, x5, x6] ∧ Dk H' d c ∧ Nm H' n) ⟨none, none, none, none, rfl, D2, N2⟩ ?_ (fun σ H' _ => q H')⟩
  rintro i σ H3 hi ⟨x3, x4, x5, x6, rfl, D3, N3⟩
  refine ⟨_, rfl, _, rfl, d, c, n, rfl, D3, N3, nnd, fun v ws H4 k4 D4 t4 r4 => ?_⟩
  have N4 : Nm H4 n := by
    obtain ⟨ns', h, r⟩ := N3
    exact ⟨ns', k4 _ _ nnd h, r⟩
  refine ⟨fun σ H' => ∃ (v : V) (us : List PyData) (y5 : Option V), σ = [some (.ref a), some (.ref d), some (.ref n), some (.int (0 + (i : Int))), some v, y5, x6] ∧ Dk H' d c ∧ Nm H' n ∧ Ro K H' v us, ?_, ?_⟩
  · refine ⟨_, rfl, _, _, rfl, rfl, (by show (0 : Int) < 2; decide), rfl, _, rfl, ?_⟩
    refine ite2 (fun _ => ?_) (fun _ => ?_)
    · refine ⟨_, rfl, _, rfl, _, rfl, d, c, n, v, ws, rfl, D4, N4, nnd, t4, r4, fun p r us j H5 k5 D5 hp tr rr hj hm => ?_⟩
      have R5 : Ro K H5 r us := rr.ro (by decide) (by decide) tr
      refine ⟨p, _, rfl, hp, rfl, _, _, rfl, _, _, rfl, rfl, ?_⟩
      refine ⟨_, rfl, _, rfl, r, us, j, rfl, R5, hj, true, true, ?_, rfl, _, rfl, ?_⟩
      · rw [hm]
      refine iteF ?_
      have N5 : Nm H5 n := by
        obtain ⟨ns', h, r⟩ := N4
        exact ⟨ns', k5 _ _ nnd h, r⟩
      exact ⟨r, us, _, rfl, D5, N5, R5⟩
    · exact ⟨v, ws, _, rfl, D4, N4, r4.ro (by decide) (by decide) t4⟩
  rintro σ H5 ⟨v, us, y5, rfl, D5, N5, R5⟩
  obtain ⟨b, ys, rfl, hb, tb⟩ := R5.tr.tupD
  refine ⟨_, rfl, b, _, rfl, .inr hb, ?_⟩
  have lu := R5.len
  have ly := tb.len
  refine ⟨_, rfl, by omega, by omega, for_range (lo := 0) (n := ((ys.length : Nat) : Int).toNat) (fun k σ H' => ∃ (z5 z6 : Option V), σ = [some (.ref a), some (.ref d), some (.ref n), some (.int (0 + (i : Int))), some (.ref b), z5, z6] ∧ Dk H' d c ∧ Nm H' n ∧ Ro K H' (.ref b) us) ⟨_, _, rfl, D5, N5, R5⟩ ?_ ?_⟩
  · rintro k σ H6 hk ⟨z5, z6, rfl, D6, N6, R6⟩
    have hk' : k < us.length := by omega
    rw [show (0 : Int) + (k : Int) = (k : Int) by omega]
    refine ⟨_, rfl, _, rfl, .ref b, us, k, rfl, R6, hk', fun H7 s7 => ?_⟩
    have R7 := R6.mono (TKs.of (K := K) s7)
    refine ⟨_, rfl, _, rfl, .ref b, us, k, rfl, R7, hk', _, rfl, may us k, rfl, _, rfl, iteF ?_⟩
    refine ⟨_, rfl, _, rfl, .ref b, us, k, rfl, R7, hk', _, rfl, may us k, rfl, _, rfl, iteF ?_⟩
    have N7 : Nm H7 n := by
      obtain ⟨ns', h, r⟩ := N6
      exact ⟨ns', s7 _ _ h, r⟩
    exact ⟨_, _, rfl, D6.same s7, N7, R7⟩
  · rintro σ H6 ⟨z5, z6, rfl, D6, N6, R6⟩
    exact ⟨_, _, _, _, rfl, D6, N6⟩
end
end K49
namespace K49
open PySem PySem.W L2 SX Cm
theorem all_mk {l : PySem.W.OpenLaw} {w : World} {K : PySem.W.Frag} {h : Heap} {mg : Str → Option Value} {fa f1 f2 f3 f4 f5 f6 f7 f8 f9 f10 f11 f12 f13 f14 f15 f16 f17 f18 f19 : Addr} (X : K.In h) (G : h.Ns mainGlobals mg) (hfa : mg "law" = some (.ref fa))
    {od1 an1 od2 an2 od3 an3 od4 an4 od5 an5 od6 an6 od7 an7 od8 an8 od9 an9 od10 an10 od11 an11 od12 an12 od13 an13 od14 an14 od15 an15 od16 an16 od17 an17 od18 an18 od19 an19 : Option Addr} {sl1 sl2 sl3 sl4 sl5 sl6 sl7 sl8 sl9 sl10 sl11 sl12 sl13 sl14 sl15 sl16 sl17 sl18 sl19 : Array (Option Value)} {oc1 kV1 dc1 pm1 cd1 ct1 oc2 kV2 dc2 pm2 cd2 ct2 oc3 kV3 dc3 pm3 cd3 ct3 oc4 kV4 dc4 pm4 cd4 ct4 oc5 kV5 dc5 pm5 cd5 ct5 oc6 kV6 dc6 pm6 cd6 ct6 oc7 kV7 dc7 pm7 cd7 ct7 oc8 kV8 dc8 pm8 cd8 ct8 oc9 kV9 dc9 pm9 cd9 ct9 oc10 kV10 dc10 pm10 cd10 ct10 oc11 kV11 dc11 pm11 cd11 ct11 oc12 kV12 dc12 pm12 cd12 ct12 oc13 kV13 dc13 pm13 cd13 ct13 oc14 kV14 dc14 pm14 cd14 ct14 oc15 kV15 dc15 pm15 cd15 ct15 oc16 kV16 dc16 pm16 cd16 ct16 oc17 kV17 dc17 pm17 cd17 ct17 oc18 kV18 dc18 pm18 cd18 ct18 oc19 kV19 dc19 pm19 cd19 ct19 : Value}
    (a1 : PySem.W.nsIn K mainGlobals "is_whole" = some (some (.ref f1))) (l1 : K.lookup f1 = some ⟨oc1, od1, .func (PySem.W.fnOf "is_whole" "is_whole" (defArgs sIsWhole) (defBody sIsWhole) (defScope sIsWhole) .none kV1 dc1 pm1 an1 cd1 ct1), sl1⟩) (c1 : PySem.W.codeIn K cd1 "is_whole" = true) (k1 : PySem.W.keepIn K (.ref f1) = true)
    (a2 : PySem.W.nsIn K mainGlobals "is_push" = some (some (.ref f2))) (l2 : K.lookup f2 = some ⟨oc2, od2, .func (PySem.W.fnOf "is_push" "is_push" (defArgs sIsPush) (defBody sIsPush) (defScope sIsPush) .none kV2 dc2 pm2 an2 cd2 ct2), sl2⟩) (c2 : PySem.W.codeIn K cd2 "is_push" = true) (k2 : PySem.W.keepIn K (.ref f2) = true)
    (a3 : PySem.W.nsIn K mainGlobals "is_row_push" = some (some (.ref f3))) (l3 : K.lookup f3 = some ⟨oc3, od3, .func (PySem.W.fnOf "is_row_push" "is_row_push" (defArgs sIsRP) (defBody sIsRP) (defScope sIsRP) .none kV3 dc3 pm3 an3 cd3 ct3), sl3⟩) (c3 : PySem.W.codeIn K cd3 "is_row_push" = true) (k3 : PySem.W.keepIn K (.ref f3) = true)
    (a4 : PySem.W.nsIn K mainGlobals "may_enter" = some (some (.ref f4))) (l4 : K.lookup f4 = some ⟨oc4, od4, .func (PySem.W.fnOf "may_enter" "may_enter" (defArgs sMay) (defBody sMay) (defScope sMay) .none kV4 dc4 pm4 an4 cd4 ct4), sl4⟩) (c4 : PySem.W.codeIn K cd4 "may_enter" = true) (k4 : PySem.W.keepIn K (.ref f4) = true)
    (a5 : PySem.W.nsIn K mainGlobals "is_pair_done" = some (some (.ref f5))) (l5 : K.lookup f5 = some ⟨oc5, od5, .func (PySem.W.fnOf "is_pair_done" "is_pair_done" (defArgs sPair) (defBody sPair) (defScope sPair) .none kV5 dc5 pm5 an5 cd5 ct5), sl5⟩) (c5 : PySem.W.codeIn K cd5 "is_pair_done" = true) (k5 : PySem.W.keepIn K (.ref f5) = true)
    (a6 : PySem.W.nsIn K mainGlobals "_law_deck" = some (some (.ref f6))) (l6 : K.lookup f6 = some ⟨oc6, od6, .func (PySem.W.fnOf "_law_deck" "_law_deck" (defArgs sDeck) (defBody sDeck) (defScope sDeck) .none kV6 dc6 pm6 an6 cd6 ct6), sl6⟩) (c6 : PySem.W.codeIn K cd6 "_law_deck" = true) (k6 : PySem.W.keepIn K (.ref f6) = true)
    (a7 : PySem.W.nsIn K mainGlobals "_law_next" = some (some (.ref f7))) (l7 : K.lookup f7 = some ⟨oc7, od7, .func (PySem.W.fnOf "_law_next" "_law_next" (defArgs sNext) (defBody sNext) (defScope sNext) .none kV7 dc7 pm7 an7 cd7 ct7), sl7⟩) (c7 : PySem.W.codeIn K cd7 "_law_next" = true) (k7 : PySem.W.keepIn K (.ref f7) = true)
    (a8 : PySem.W.nsIn K mainGlobals "_law_basic" = some (some (.ref f8))) (l8 : K.lookup f8 = some ⟨oc8, od8, .func (PySem.W.fnOf "_law_basic" "_law_basic" (defArgs sBasic) (defBody sBasic) (defScope sBasic) .none kV8 dc8 pm8 an8 cd8 ct8), sl8⟩) (c8 : PySem.W.codeIn K cd8 "_law_basic" = true) (k8 : PySem.W.keepIn K (.ref f8) = true)
    (a9 : PySem.W.nsIn K mainGlobals "_law_shuffle" = some (some (.ref f9))) (l9 : K.lookup f9 = some ⟨oc9, od9, .func (PySem.W.fnOf "_law_shuffle" "_law_shuffle" (defArgs sShuffle) (defBody sShuffle) (defScope sShuffle) .none kV9 dc9 pm9 an9 cd9 ct9), sl9⟩) (c9 : PySem.W.codeIn K cd9 "_law_shuffle" = true) (k9 : PySem.W.keepIn K (.ref f9) = true)
    (a10 : PySem.W.nsIn K mainGlobals "_law_number" = some (some (.ref f10))) (l10 : K.lookup f10 = some ⟨oc10, od10, .func (PySem.W.fnOf "_law_number" "_law_number" (defArgs sNumber) (defBody sNumber) (defScope sNumber) .none kV10 dc10 pm10 an10 cd10 ct10), sl10⟩) (c10 : PySem.W.codeIn K cd10 "_law_number" = true) (k10 : PySem.W.keepIn K (.ref f10) = true)
    (a11 : PySem.W.nsIn K mainGlobals "_law_thing" = some (some (.ref f11))) (l11 : K.lookup f11 = some ⟨oc11, od11, .func (PySem.W.fnOf "_law_thing" "_law_thing" (defArgs sThing) (defBody sThing) (defScope sThing) .none kV11 dc11 pm11 an11 cd11 ct11), sl11⟩) (c11 : PySem.W.codeIn K cd11 "_law_thing" = true) (k11 : PySem.W.keepIn K (.ref f11) = true)
    (a12 : PySem.W.nsIn K mainGlobals "_law_word" = some (some (.ref f12))) (l12 : K.lookup f12 = some ⟨oc12, od12, .func (PySem.W.fnOf "_law_word" "_law_word" (defArgs sWord) (defBody sWord) (defScope sWord) .none kV12 dc12 pm12 an12 cd12 ct12), sl12⟩) (c12 : PySem.W.codeIn K cd12 "_law_word" = true) (k12 : PySem.W.keepIn K (.ref f12) = true)
    (a13 : PySem.W.nsIn K mainGlobals "_law_row" = some (some (.ref f13))) (l13 : K.lookup f13 = some ⟨oc13, od13, .func (PySem.W.fnOf "_law_row" "_law_row" (defArgs sRow) (defBody sRow) (defScope sRow) .none kV13 dc13 pm13 an13 cd13 ct13), sl13⟩) (c13 : PySem.W.codeIn K cd13 "_law_row" = true) (k13 : PySem.W.keepIn K (.ref f13) = true)
    (a14 : PySem.W.nsIn K mainGlobals "_law_names" = some (some (.ref f14))) (l14 : K.lookup f14 = some ⟨oc14, od14, .func (PySem.W.fnOf "_law_names" "_law_names" (defArgs sNames) (defBody sNames) (defScope sNames) .none kV14 dc14 pm14 an14 cd14 ct14), sl14⟩) (c14 : PySem.W.codeIn K cd14 "_law_names" = true) (k14 : PySem.W.keepIn K (.ref f14) = true)
    (a15 : PySem.W.nsIn K mainGlobals "_law_may" = some (some (.ref f15))) (l15 : K.lookup f15 = some ⟨oc15, od15, .func (PySem.W.fnOf "_law_may" "_law_may" (defArgs sLMay) (defBody sLMay) (defScope sLMay) .none kV15 dc15 pm15 an15 cd15 ct15), sl15⟩) (c15 : PySem.W.codeIn K cd15 "_law_may" = true) (k15 : PySem.W.keepIn K (.ref f15) = true)
    (a16 : PySem.W.nsIn K mainGlobals "_law_around" = some (some (.ref f16))) (l16 : K.lookup f16 = some ⟨oc16, od16, .func (PySem.W.fnOf "_law_around" "_law_around" (defArgs sAround) (defBody sAround) (defScope sAround) .none kV16 dc16 pm16 an16 cd16 ct16), sl16⟩) (c16 : PySem.W.codeIn K cd16 "_law_around" = true) (k16 : PySem.W.keepIn K (.ref f16) = true)
    (a17 : PySem.W.nsIn K mainGlobals "_law_mixed_row" = some (some (.ref f17))) (l17 : K.lookup f17 = some ⟨oc17, od17, .func (PySem.W.fnOf "_law_mixed_row" "_law_mixed_row" (defArgs sMixedRow) (defBody sMixedRow) (defScope sMixedRow) .none kV17 dc17 pm17 an17 cd17 ct17), sl17⟩) (c17 : PySem.W.codeIn K cd17 "_law_mixed_row" = true) (k17 : PySem.W.keepIn K (.ref f17) = true)
    (a18 : PySem.W.nsIn K mainGlobals "_law_unlike" = some (some (.ref f18))) (l18 : K.lookup f18 = some ⟨oc18, od18, .func (PySem.W.fnOf "_law_unlike" "_law_unlike" (defArgs sUnlike) (defBody sUnlike) (defScope sUnlike) .none kV18 dc18 pm18 an18 cd18 ct18), sl18⟩) (c18 : PySem.W.codeIn K cd18 "_law_unlike" = true) (k18 : PySem.W.keepIn K (.ref f18) = true)
    (a19 : PySem.W.nsIn K mainGlobals "law" = some (some (.ref f19))) (l19 : K.lookup f19 = some ⟨oc19, od19, .func (PySem.W.fnOf "law" "law" (defArgs sLaw) (defBody sLaw) (defScope sLaw) .none kV19 dc19 pm19 an19 cd19 ct19), sl19⟩) (c19 : PySem.W.codeIn K cd19 "law" = true) (k19 : PySem.W.keepIn K (.ref f19) = true)
    (z_len : PySem.W.nsIn K mainGlobals "len" = some none)
    (z_tuple : PySem.W.nsIn K mainGlobals "tuple" = some none)
    (z_list : PySem.W.nsIn K mainGlobals "list" = some none)
    (z_sum : PySem.W.nsIn K mainGlobals "sum" = some none)
    (z_range : PySem.W.nsIn K mainGlobals "range" = some none)
    (z_isinstance : PySem.W.nsIn K mainGlobals "isinstance" = some none)
    (z_int : PySem.W.nsIn K mainGlobals "int" = some none)
    (z_bool : PySem.W.nsIn K mainGlobals "bool" = some none)
    (z_str : PySem.W.nsIn K mainGlobals "str" = some none)
    {T1 : Addr} (g_DOING_ONE : PySem.W.nsIn K mainGlobals "DOING_ONE" = some (some (.ref T1)))
    {T2 : Addr} (g_DOING_TWO : PySem.W.nsIn K mainGlobals "DOING_TWO" = some (some (.ref T2)))
    (x1 : kTup K T1 = some (ones.map V.str))
    (x2 : kTup K T2 = some (twos.map V.str))
    : ∃ fd : FuncData, (∀ (s : Shared) (v : Value), BindsTo s fd ⟨[v], []⟩ [("_law_script", v)]) ∧ ∀ base : Heap, K.In base → base.Ns mainGlobals mg → FnOk l.prog w K mg base CX0 8 fa fd ["_law_script"] (spLaw K) := by
  have e := hfa.symm.trans (PySem.W.mg_of X G a19)
  cases e
  have F1 := fun_mk (st := sIsWhole) l1 c1 k1
  have b1 := F1.binds (ps := ["thing"]) fun _ _ _ _ _ _ us hl => match us, hl with | [_], _ => rfl
  have m1 := PySem.W.mg_of X G a1
  have F2 := fun_mk (st := sIsPush) l2 c2 k2
  have b2 := F2.binds (ps := ["word"]) fun _ _ _ _ _ _ us hl => match us, hl with | [_], _ => rfl
  have m2 := PySem.W.mg_of X G a2
  have F3 := fun_mk (st := sIsRP) l3 c3 k3
  have b3 := F3.binds (ps := ["word"]) fun _ _ _ _ _ _ us hl => match us, hl with | [_], _ => rfl
  have m3 := PySem.W.mg_of X G a3
  have F4 := fun_mk (st := sMay) l4 c4 k4
  have b4 := F4.binds (ps := ["row", "number"]) fun _ _ _ _ _ _ us hl => match us, hl with | [_, _], _ => rfl
  have m4 := PySem.W.mg_of X G a4
  have F5 := fun_mk (st := sPair) l5 c5 k5
  have b5 := F5.binds (ps := ["row", "number"]) fun _ _ _ _ _ _ us hl => match us, hl with | [_, _], _ => rfl
  have m5 := PySem.W.mg_of X G a5
  have F6 := fun_mk (st := sDeck) l6 c6 k6
  have b6 := F6.binds (ps := ["_law_script"]) fun _ _ _ _ _ _ us hl => match us, hl with | [_], _ => rfl
  have m6 := PySem.W.mg_of X G a6
  have F7 := fun_mk (st := sNext) l7 c7 k7
  have b7 := F7.binds (ps := ["_law_deck_here", "_law_most"]) fun _ _ _ _ _ _ us hl => match us, hl with | [_, _], _ => rfl
  have m7 := PySem.W.mg_of X G a7
  have F8 := fun_mk (st := sBasic) l8 c8 k8
  have b8 := F8.binds (ps := []) fun _ _ _ _ _ _ us hl => match us, hl with | [], _ => rfl
  have m8 := PySem.W.mg_of X G a8
  have F9 := fun_mk (st := sShuffle) l9 c9 k9
  have b9 := F9.binds (ps := ["_law_deck_here"]) fun _ _ _ _ _ _ us hl => match us, hl with | [_], _ => rfl
  have m9 := PySem.W.mg_of X G a9
  have F10 := fun_mk (st := sNumber) l10 c10 k10
  have b10 := F10.binds (ps := ["_law_deck_here"]) fun _ _ _ _ _ _ us hl => match us, hl with | [_], _ => rfl
  have m10 := PySem.W.mg_of X G a10
  have F11 := fun_mk (st := sThing) l11 c11 k11
  have b11 := F11.binds (ps := ["_law_deck_here", "_law_names_here", "_law_deep"]) fun _ _ _ _ _ _ us hl => match us, hl with | [_, _, _], _ => rfl
  have m11 := PySem.W.mg_of X G a11
  have F12 := fun_mk (st := sWord) l12 c12 k12
  have b12 := F12.binds (ps := ["_law_deck_here", "_law_names_here", "_law_deep"]) fun _ _ _ _ _ _ us hl => match us, hl with | [_, _, _], _ => rfl
  have m12 := PySem.W.mg_of X G a12
  have F13 := fun_mk (st := sRow) l13 c13 k13
  have b13 := F13.binds (ps := ["_law_deck_here", "_law_names_here", "_law_deep", "_law_many"]) fun _ _ _ _ _ _ us hl => match us, hl with | [_, _, _, _], _ => rfl
  have m13 := PySem.W.mg_of X G a13
  have F14 := fun_mk (st := sNames) l14 c14 k14
  have b14 := F14.binds (ps := ["_law_deck_here", "_law_many"]) fun _ _ _ _ _ _ us hl => match us, hl with | [_, _], _ => rfl
  have m14 := PySem.W.mg_of X G a14
  have F15 := fun_mk (st := sLMay) l15 c15 k15
  have b15 := F15.binds (ps := ["_law_row_here", "_law_number_here"]) fun _ _ _ _ _ _ us hl => match us, hl with | [_, _], _ => rfl
  have m15 := PySem.W.mg_of X G a15
  have F16 := fun_mk (st := sAround) l16 c16 k16
  have b16 := F16.binds (ps := ["_law_deck_here", "_law_names_here", "_law_inner"]) fun _ _ _ _ _ _ us hl => match us, hl with | [_, _, _], _ => rfl
  have m16 := PySem.W.mg_of X G a16
  have F17 := fun_mk (st := sMixedRow) l17 c17 k17
  have b17 := F17.binds (ps := ["_law_deck_here", "_law_names_here"]) fun _ _ _ _ _ _ us hl => match us, hl with | [_, _], _ => rfl
  have m17 := PySem.W.mg_of X G a17
  have F18 := fun_mk (st := sUnlike) l18 c18 k18
  have b18 := F18.binds (ps := ["_law_found", "_law_due"]) fun _ _ _ _ _ _ us hl => match us, hl with | [_, _], _ => rfl
  have m18 := PySem.W.mg_of X G a18
  have F19 := fun_mk (st := sLaw) l19 c19 k19
  have y_len := PySem.W.mg_none_of X G z_len
  have y_tuple := PySem.W.mg_none_of X G z_tuple
  have y_list := PySem.W.mg_none_of X G z_list
  have y_sum := PySem.W.mg_none_of X G z_sum
  have y_range := PySem.W.mg_none_of X G z_range
  have y_isinstance := PySem.W.mg_none_of X G z_isinstance
  have y_int := PySem.W.mg_none_of X G z_int
  have y_bool := PySem.W.mg_none_of X G z_bool
  have y_str := PySem.W.mg_none_of X G z_str
  have v_DOING_ONE := PySem.W.mg_of X G g_DOING_ONE
  have v_DOING_TWO := PySem.W.mg_of X G g_DOING_TWO
  refine ⟨PySem.W.fnOf "law" "law" (defArgs sLaw) (defBody sLaw) (defScope sLaw) .none kV19 dc19 pm19 an19 cd19 ct19, fun s v => .of_eq rfl, fun base _ _ => ?_⟩
  have O1 : FnOk l.prog w K mg base CX0 1 f1 _ ["thing"] spIsWhole := ok_isWhole F1 y_isinstance y_int y_bool
  have O2 : FnOk l.prog w K mg base CX0 1 f2 _ ["word"] (spIsPush K) := ok_isPush F2 y_isinstance y_str
  have O3 := ok_isRP F3 O2 b2 k2 m2
  have O5 := ok_pair F5 O3 b3 k3 m3 v_DOING_TWO x2 y_len
  have O4 := ok_may F4 O1 b1 k1 m1 O3 b3 k3 m3 O5 b5 k5 m5 v_DOING_ONE x1 y_len
  have O6 : FnOk l.prog w K mg base CX0 1 f6 _ ["_law_script"] (spDeck K) := ok_deck F6 y_list y_sum
  have O7 : FnOk l.prog w K mg base CX0 2 f7 _ ["_law_deck_here", "_law_most"] spNext := ok_next F7
  have O8 : FnOk l.prog w K mg base CX0 1 f8 _ [] spBasic := ok_basic F8
  have O9 := ok_shuffle F9 O7 b7 k7 m7 y_int y_len y_range
  have O10 : FnOk l.prog w K mg base CX0 3 f10 _ ["_law_deck_here"] (spNumber K) := ok_number F10 O7 b7 k7 m7
  have O11 := ok_thing F11 O7 b7 k7 m7 O10 b10 k10 m10
  have O12 := ok_word F12 O7 b7 k7 m7 O11 b11 k11 m11 O9 b9 k9 m9 O8 b8 k8 m8 y_len
  have O13 := ok_row F13 O12 b12 k12 m12 y_tuple y_range
  have O14 := ok_names F14 O7 b7 k7 m7 O8 b8 k8 m8 y_range
  have O15 : FnOk l.prog w K mg base CX0 1 f15 _ ["_law_row_here", "_law_number_here"] (spLMay K) := ok_lmay F15 y_len y_isinstance y_tuple
  have O16 := ok_around F16 O7 b7 k7 m7 O13 b13 k13 m13 y_len
  have O17 := ok_mixedRow F17 O7 b7 k7 m7 O13 b13 k13 m13 y_len y_range y_tuple
  have O18 : FnOk l.prog w K mg base CX0 1 f18 _ ["_law_found", "_law_due"] spUnlike := ok_unlike F18 y_isinstance y_bool
  exact ok_law F19 O6 b6 k6 m6 O14 b14 k14 m14 O17 b17 k17 m17 O16 b16 k16 m16 O4 b4 k4 m4 O15 b15 k15 m15 O18 b18 k18 m18 y_range y_len
theorem walk {l : PySem.W.OpenLaw} {q : Program} {loose : List Str} {XP : (Str → Option Value) → Heap → Prop} {YP : World → Heap → Prop} {d : DefRec} {K : Params → PySem.W.Frag} (hn : l.most = some 63) (hdf : d.params.defaults = [])
    (hY : ∀ (w : World) (h : Heap), YP w h → (K w.params).In h)
    (F : ∀ (w : World) (mg : Str → Option Value) (fa : Addr) (h : Heap), (K w.params).In h → h.Ns mainGlobals mg → mg d.name = some (.ref fa) →
      ∃ fd : FuncData, (∀ (s : Shared) (u : Value), BindsTo s fd ⟨[u], []⟩ [("_law_script", u)]) ∧ ∀ base : Heap, (K w.params).In base → base.Ns mainGlobals mg → FnOk l.prog w (K w.params) mg base CX0 8 fa fd ["_law_script"] (spLaw (K w.params))) :
    PySem.W.WalkO q loose XP YP l.row.toRowW d [] (fun f vs => PySem.call f vs) :=
  L2.walk_of (n := 63) (k := 8) (x := "_law_script") (CX := fun _ => CX0) (sp := fun w => spLaw (K w.params)) hn (by decide) hdf ⟨rfl, by decide, by decide⟩ hY F (fun _ _ a ns hl _ hS => ⟨a, ns, rfl, hS, hl, fun _ => rfl⟩) fun _ _ _ _ _ z => z
end K49
open PySem PySem.W PyProof.Rows
set_option maxRecDepth 100000 in
set_option maxHeartbeats 0 in
theorem PySem.Challenge.cw_takeleave_k49_rows_that_are_entered_holds : PySem.Challenge.rw_takeleave_k49_rows_that_are_entered.Holds := by
  w_on; o_law; k_head; (case hw => w_witness2)
  k_fill
  refine K49.walk (l := PySem.Challenge.rw_takeleave_k49_rows_that_are_entered) rfl rfl (fun w h Y => PySem.W.kIn_of Y) ?F
  case F =>
    intro w mg fa h KX G hmg
    refine' K49.all_mk (w := w) KX G hmg ?a1 ?l1 ?c1 ?k1 ?a2 ?l2 ?c2 ?k2 ?a3 ?l3 ?c3 ?k3 ?a4 ?l4 ?c4 ?k4 ?a5 ?l5 ?c5 ?k5 ?a6 ?l6 ?c6 ?k6 ?a7 ?l7 ?c7 ?k7 ?a8 ?l8 ?c8 ?k8 ?a9 ?l9 ?c9 ?k9 ?a10 ?l10 ?c10 ?k10 ?a11 ?l11 ?c11 ?k11 ?a12 ?l12 ?c12 ?k12 ?a13 ?l13 ?c13 ?k13 ?a14 ?l14 ?c14 ?k14 ?a15 ?l15 ?c15 ?k15 ?a16 ?l16 ?c16 ?k16 ?a17 ?l17 ?c17 ?k17 ?a18 ?l18 ?c18 ?k18 ?a19 ?l19 ?c19 ?k19 ?z_len ?z_tuple ?z_list ?z_sum ?z_range ?z_isinstance ?z_int ?z_bool ?z_str ?g_DOING_ONE ?g_DOING_TWO ?x1 ?x2
    (case a1 => k_is)
    (case l1 => k_is)
    (case c1 => k_is)
    (case k1 => k_is)
    (case a2 => k_is)
    (case l2 => k_is)
    (case c2 => k_is)
    (case k2 => k_is)
    (case a3 => k_is)
    (case l3 => k_is)
    (case c3 => k_is)
    (case k3 => k_is)
    (case a4 => k_is)
    (case l4 => k_is)
    (case c4 => k_is)
    (case k4 => k_is)
    (case a5 => k_is)
    (case l5 => k_is)
    (case c5 => k_is)
    (case k5 => k_is)
    (case a6 => k_is)
    (case l6 => k_is)
    (case c6 => k_is)
    (case k6 => k_is)
    (case a7 => k_is)
    (case l7 => k_is)
    (case c7 => k_is)
    (case k7 => k_is)
    (case a8 => k_is)
    (case l8 => k_is)
    (case c8 => k_is)
    (case k8 => k_is)
    (case a9 => k_is)
    (case l9 => k_is)
    (case c9 => k_is)
    (case k9 => k_is)
    (case a10 => k_is)
    (case l10 => k_is)
    (case c10 => k_is)
    (case k10 => k_is)
    (case a11 => k_is)
    (case l11 => k_is)
    (case c11 => k_is)
    (case k11 => k_is)
    (case a12 => k_is)
    (case l12 => k_is)
    (case c12 => k_is)
    (case k12 => k_is)
    (case a13 => k_is)
    (case l13 => k_is)
    (case c13 => k_is)
    (case k13 => k_is)
    (case a14 => k_is)
    (case l14 => k_is)
    (case c14 => k_is)
    (case k14 => k_is)
    (case a15 => k_is)
    (case l15 => k_is)
    (case c15 => k_is)
    (case k15 => k_is)
    (case a16 => k_is)
    (case l16 => k_is)
    (case c16 => k_is)
    (case k16 => k_is)
    (case a17 => k_is)
    (case l17 => k_is)
    (case c17 => k_is)
    (case k17 => k_is)
    (case a18 => k_is)
    (case l18 => k_is)
    (case c18 => k_is)
    (case k18 => k_is)
    (case a19 => k_is)
    (case l19 => k_is)
    (case c19 => k_is)
    (case k19 => k_is)
    (case z_len => k_is)
    (case z_tuple => k_is)
    (case z_list => k_is)
    (case z_sum => k_is)
    (case z_range => k_is)
    (case z_isinstance => k_is)
    (case z_int => k_is)
    (case z_bool => k_is)
    (case z_str => k_is)
    (case g_DOING_ONE => k_is)
    (case g_DOING_TWO => k_is)
    (case x1 => kernel_rfl)
    (case x2 => kernel_rfl)
