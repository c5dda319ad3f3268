import PyProof.Rows.All
import Wide.All
import OpenK.AllK
import Wide.FinOn
import HandS.ForMost
import HandS.Rev
import KE.KDictList
import HandS.Style
import HandS.More
import HandS.IsInst
import HandS.StrMore
import HandS.Wide
import HandS.Codes
import HandS.Walk
import HandS.NoneIn
import HandS.WordsExc
import PyProof.AutoSeq1
import HandS.TupAny
import HandS.Conv
import HandS.SetFor
import HandS.TupMul
import HandS.ForExc
import HandS.ExcIs
import HandS.ExcOwn
import HandS.Zip
import KE.GoesMore
import HandS.CallLocal
import HandS.Defaults
import HandS.Comp
import HandS.Flow
import HandS.Deep
import PySem.Challenge.RW_takeleave_k10_rows_done
set_option Elab.async false
set_option linter.all false
set_option maxRecDepth 100000
set_option maxHeartbeats 4000000
namespace Cm
open PySem PySem.Spec PyProof.Rows L2 RT
section
variable {prog : Program} {w : World} {A : Around} {E : Value → Shared → Prop} {s : Shared}
/-- list.extend over a reversed list, into the empty list at T -/
theorem revExt {J l T : Addr} {vs : Array Value} {res : Value} {c : Nat} {R : Result → Shared → Prop} (hh : A.handled = none) (hJ : s.heap.IsRevIter J l ((vs.size : Int) - 1)) (hl : s.heap.IsList l vs) (nJ : l ≠ J) (hn : vs.size ≤ sizeLine)
    (nTJ : T ≠ J) (nTl : T ≠ l) (hT : s.heap.get? T = some { cls := .type "list", data := .seq #[] c })
    (hR : ∀ h' tk acc' c', (∀ b o, b ≠ T → b ≠ J → s.heap.get? b = some o → h'.get? b = some o) → h'.get? T = some { cls := .type "list", dict := none, data := .seq acc' c', slots := #[] } → ItemsOf (fun i v => vs[vs.size - 1 - i]? = some v) acc' vs.size → R (.ok (.ret res)) { s with heap := h', toks := tk }) :
    wpAny (model prog w) A.in1 (Builtin.List.listExtendWith (.ref T) (.ref J) res)
      (fun fin s' => match fin with | .done f => R (.ok f) s' | .again c' => c'.quiet = true ∧ codeAny (model prog w) A c' R s') (fun e s' => R (.error e) s') s := by
  have WS := (Walks.listRev (prog := prog) (w := w) (A := A.in1) hh J l nJ vs).toS
  have tyJ : s.TypeIs (.ref J) "list_reverseiterator" := Heap.IsRevIter.typeIs hJ
  have nf : T ∉ [J, l] := by simp only [List.mem_cons, List.not_mem_nil, or_false, not_or]; exact And.intro nTJ nTl
  have ns : Builtin.List.listSameRef (.ref T) (.ref J) = false := by simp [Builtin.List.listSameRef, nTJ]
  unfold Builtin.List.listExtendWith
  refine wpAny_bind (wpAny_typeOf tyJ ?_)
  rw [if_neg (by rw [ns]; decide)]
  refine wpAny_bind (wpAny_pyIter_revIter hJ (wpAny_bind (wpAny_holding ?_)))
  unfold Builtin.List.listLengthHint
  refine wpAny_bind (wpAny_specialOf tyJ nolen_lri ?_)
  show wpAny _ A.in1 (specialOf (Value.ref J) (Str.ofString "__length_hint__") >>= _) _ _ _
  refine wpAny_bind (wpAny_specialOf tyJ hint_lri ?_)
  generalize eid : ("list_reverseiterator.__length_hint__" : String) = idz
  wp_delta
  rw [show splitId idz = some ("list_reverseiterator", "__length_hint__") from by subst eid; decide +kernel]
  subst eid
  refine wpAny_bind (wpAny_isInstance (b := true) tyJ (by rw [isSubtype_type]; kernel_rfl) (wpAny_pure ?_))
  rw [if_neg (by decide)]
  have z0 : ((vs.size : Nat) : Int) - 1 - ((0 : Nat) : Int) = (vs.size : Int) - 1 := by omega
  refine wpAny_pure ⟨plainId_quiet F.plain_extend_loop _, codeAny_extend_loopS WS hn _ nf _ vs.size 0 _ _ _ rfl (Nat.zero_le _) ⟨Nat.zero_le _, by rw [z0]; exact hJ, hl⟩ hT (ItemsOf.nil _) fun s' acc' c' hm hS' hacc => ?_⟩
  rw [Moved.eq_with hm]
  refine hR s'.heap s'.toks acc' c' (fun b o n1 n2 e => hm.heap b o (fun q => ?_) e) hS' hacc
  rcases List.mem_cons.mp q with z | z
  · exact n1 z
  · exact n2 (List.mem_singleton.mp z)
theorem revInit {J l T : Addr} {vs : Array Value} {R : Result → Shared → Prop} (hh : A.handled = none) (hJ : s.heap.IsRevIter J l ((vs.size : Int) - 1)) (hl : s.heap.IsList l vs) (nJ : l ≠ J) (hn : vs.size ≤ sizeLine)
    (nTJ : T ≠ J) (nTl : T ≠ l) (hT : s.heap.get? T = some { cls := .type "list", data := .seq #[] })
    (hR : ∀ h' tk acc' c', (∀ b o, b ≠ T → b ≠ J → s.heap.get? b = some o → h'.get? b = some o) → h'.get? T = some { cls := .type "list", dict := none, data := .seq acc' c', slots := #[] } → ItemsOf (fun i v => vs[vs.size - 1 - i]? = some v) acc' vs.size → R (.ok (.ret .none)) { s with heap := h', toks := tk }) :
    wpAny (model prog w) A.in1 (Builtin.«list.__init__» ⟨[.ref T, .ref J], []⟩)
      (fun fin s' => match fin with | .done f => R (.ok f) s' | .again c' => c'.quiet = true ∧ codeAny (model prog w) A c' R s') (fun e s' => R (.error e) s') s := by
  show wpAny _ _ (do let old ← Builtin.List.listItems (.ref T); Builtin.List.listUpdate (.ref T) (fun _ => #[]); letGo old.toList.reverse; Builtin.List.listExtendWith (.ref T) (.ref J) .none) _ _ s
  refine wpAny_bind ?_; unfold Builtin.List.listItems
  refine wpAny_bind (wpAny_seqItems hT rfl (wpAny_pure ?_))
  show wpAny _ _ (updateSeq T (fun _ => #[]) >>= fun _ => letGo (#[] : Array Value).toList.reverse >>= fun _ => Builtin.List.listExtendWith (.ref T) (.ref J) .none) _ _ s
  refine wpAny_bind (wpAny_updateSeq hT rfl ?_)
  have hT2 := Heap.get?_update_self (Obj.mapSeq (fun _ => (#[] : Array Value))) hT rfl
  have other : ∀ b o, b ≠ T → s.heap.get? b = some o → (s.heap.update T (Obj.mapSeq (fun _ => (#[] : Array Value)))).get? b = some o :=
    fun b o hb e => (Heap.get?_update_other _ _ (Ne.symm hb)).trans e
  refine wpAny_bind (wpAny_letGo (revExt hh (hJ.at fun o e => other _ o nTJ.symm e) (hl.at fun o e => other _ o nTl.symm e) nJ hn nTJ nTl hT2 fun h' tk acc' c' hk hS' hacc => ?_))
  exact hR h' tk acc' c' (fun b o n1 n2 e => hk b o n1 n2 (other b o n1 e)) hS' hacc
theorem call_list_rev {J l : Addr} {vs : Array Value} {Q : Value → Shared → Prop} (hh : A.handled = none) (hJ : s.heap.IsRevIter J l ((vs.size : Int) - 1)) (hl : s.heap.IsList l vs) (nJ : l ≠ J) (hn : vs.size ≤ sizeLine)
    (hQ : ∀ h' tk acc' c', (∀ b o, b ≠ J → s.heap.get? b = some o → h'.get? b = some o) → h'.get? s.heap.objs.size = some { cls := .type "list", dict := none, data := .seq acc' c', slots := #[] } → ItemsOf (fun i v => vs[vs.size - 1 - i]? = some v) acc' vs.size → Q (.ref s.heap.objs.size) { s with heap := h', toks := tk }) :
    wpAny (model prog w) A (call (.type "list") [.ref J]) Q E s := by
  refine callType_codes (Q₁ := fun obj s₁ => obj = .ref s.heap.objs.size ∧ s₁ = { s with heap := s.heap.push { cls := .type "list", data := .seq #[] } }) PySem.F.called_list (PySem.F.typeCall_list_1 _) PySem.F.entry_list_init
    (code_list_new _ ⟨rfl, rfl⟩) fun obj s₁ z => ?_
  obtain ⟨rfl, rfl⟩ := z
  have hT : (s.heap.push { cls := .type "list", data := .seq #[] }).get? s.heap.objs.size = some { cls := .type "list", data := .seq #[] } := Heap.get?_push_size _ rfl
  obtain ⟨oi, hoi, _⟩ := id hJ
  obtain ⟨ol, hol, _⟩ := id hl
  refine ⟨⟨_, hT, rfl⟩, PySem.F.args_list_init_2 _ _, revInit (A := A.in1) hh (hJ.at fun o e => Heap.get?_push_of_some _ e) (hl.push _) nJ hn (Nat.ne_of_gt (Heap.lt_size hoi)) (Nat.ne_of_gt (Heap.lt_size hol)) hT (fun h' tk acc' c' hk hS' hacc => ?_)⟩
  exact ⟨rfl, hQ h' tk acc' c' (fun b o n e => hk b o (Nat.ne_of_lt (Heap.lt_size e)) n (Heap.get?_push_of_some _ e)) hS' hacc⟩
end
/-- list(reversed(x)), x a list: a new list -/
def tLstRev (K : PySem.W.Frag) (te : TE) : TE := fun σ H Q => te σ H fun v H1 => ∃ (a : Addr) (xs : List V), v = .ref a ∧ SqL K H1 a xs ∧ ∀ q, H1 q = none → Q (.ref q) (upd H1 q (.lst xs.reverse))
section
variable {X : Cx}
theorem pe_lstRev {e : Expr} {te : TE} {p p2 pos pos2 : Pos} (hc : X.calm = true) (hg : Gl X "list") (hm : X.mg "list" = none) (hg2 : Gl X "reversed") (hm2 : X.mg "reversed" = none) (he : PE X e te)
    (hs : starEach [e] X.env = (false, eval e X.env) :: starEach [] X.env := by rfl)
    (hs2 : starEach [.Call (.Name "reversed" p2) [e] [] pos2] X.env = (false, eval (.Call (.Name "reversed" p2) [e] [] pos2) X.env) :: starEach [] X.env := by rfl) :
    PE X (.Call (.Name "list" p) [.Call (.Name "reversed" p2) [e] [] pos2] [] pos) (tLstRev X.K te) := by
  refine ⟨fun pins s σ H Q I h => ?_⟩
  refine Call_ (ld_blt I hg hm (show bootBuiltins "list" = some (.type "list") by decide +kernel) (PyProof.Rows.callWith_type1 (args_cons (Call_ (ld_blt I hg2 hm2 PyProof.Rows.boot_reversed (PyProof.Rows.callWith_type1 (args_cons (thn (he.run pins s σ H _ I h) fun u s1 ⟨v, H1, I1, r1, q1⟩ => args_nil ?_) hs) hs rfl))) hs2) hs2 rfl))
  obtain ⟨a, xs, ev, hq, q⟩ := q1
  subst ev; obtain rfl : u = Value.ref a := r1
  obtain ⟨its, rv, p', hz⟩ := I1.list hq
  refine call_reversed_list p'.isList (args_nil ?_)
  have k0 : ∀ b o, s1.heap.get? b = some o → (s1.heap.push (revObj a ((its.toArray.size : Int) - 1))).get? b = some o := fun b o e' => Heap.get?_push_of_some _ e'
  have I2 : Inv X pins σ H1 { s1 with heap := s1.heap.push (revObj a ((its.toArray.size : Int) - 1)) } := I1.kept (t' := s1.toks) k0
  obtain ⟨f0, f1, f2, f3, f4, f5⟩ := I1.fpOk (H' := H1) (b := s1.heap.objs.size) (Nat.le_refl _) (I1.hok.fresh (Nat.le_refl _))
  have isl := p'.isList
  obtain ⟨ol, hol, _⟩ := id isl
  have hne : a ≠ s1.heap.objs.size := Nat.ne_of_lt (Heap.lt_size hol)
  have hn : its.toArray.size ≤ sizeLine := by rw [List.size_toArray, ← rv.length]; exact hz
  refine call_list_rev (s := { s1 with heap := s1.heap.push (revObj a ((its.toArray.size : Int) - 1)) }) (I1.ok.hd hc) ⟨_, Heap.get?_push_size _ rfl, rfl, rfl⟩ (isl.push _) hne hn fun h' tk acc c' hk hT hi => ?_
  have hk' : ∀ b o, s1.heap.get? b = some o → h'.get? b = some o := fun b o e' => hk b o (Nat.ne_of_lt (Heap.lt_size e')) (k0 b o e')
  have sz : s1.heap.objs.size ≤ (s1.heap.push (revObj a ((its.toArray.size : Int) - 1))).objs.size := by
    rw [Heap.size_push]; exact Nat.le_succ _
  refine ⟨.ref _, upd H1 _ (.lst xs.reverse), I1.laid (t' := tk) hk' sz (show ObjOk X.prog X.w _ _ _ (.lst xs.reverse) from ⟨by rw [List.length_reverse]; exact hz, acc.toList, c', vals_rev rv hi, ?_⟩), rfl, q _ (I1.hok.fresh sz)⟩
  rw [Array.toArray_toList]
  exact hT
end
end Cm
namespace Cm
open PySem PySem.W L2 SX
theorem same_new {H : Hp} {p : Addr} (h : H p = none) (o : HO) : Same H (upd H p o) := fun b u q => by rw [upd_ne (ne_of_none q h)]; exact q
theorem own_new {H H' : Hp} {p : Addr} {o : HO} (s : Same H H') (h : H p = none) : Same H (upd H' p o) := fun b u q => by rw [upd_ne (ne_of_none q h)]; exact s _ _ q
theorem cut_map {α : Type} (f : α → V) (xs : List α) (lo hi : Option Int) : ∃ ys : List α, cutV (xs.map f) lo hi = ys.map f ∧ ys.length ≤ xs.length := by
  unfold cutV
  refine ⟨(xs.drop (HT.sIx (xs.map f).length 0 lo)).take (HT.sIx (xs.map f).length (xs.map f).length hi - HT.sIx (xs.map f).length 0 lo), ?_, ?_⟩
  · rw [List.map_take, List.map_drop]
  · rw [List.length_take, List.length_drop]; omega
theorem dp_ints {K : PySem.W.Frag} {H : Hp} : ∀ ns : List Int, DpAll K H (ns.map V.int) (ns.map PyData.int)
  | [] => .nil
  | n :: r => .cons (.int n) (dp_ints r)
theorem lay_ints : ∀ ns : List Int, PyData.canLayAll0 (ns.map PyData.int) = true
  | [] => rfl
  | n :: r => by
    show (PyData.canLay0 (PyData.int n) && PyData.canLayAll0 (r.map PyData.int)) = true
    rw [lay_ints r]; rfl
theorem deep_ints : ∀ ns : List Int, PyData.depthAll (ns.map PyData.int) = 0
  | [] => rfl
  | n :: r => by
    show max (PyData.depth (PyData.int n)) (PyData.depthAll (r.map PyData.int)) = 0
    rw [deep_ints r]; rfl
theorem shaped_ints (ns : List Int) : SeqAt.shaped (.list (ns.map PyData.int)) = true := by
  show (PyData.canLayAll0 (ns.map PyData.int) && decide (PyData.depthAll (ns.map PyData.int) + 1 ≤ 64)) = true
  rw [lay_ints, deep_ints]; rfl
theorem kn {H : Hp} {a t : Addr} {o o' : HO} (h : H a = some o) (n : H t = none) : upd H t o' a = some o := by rw [upd_ne (ne_of_none h n)]; exact h
/-- all but what stands at the places L is kept -/
def Kp (L : List Addr) (H H' : Hp) : Prop := ∀ b o, b ∉ L → H b = some o → H' b = some o
theorem Kp.refl (L : List Addr) (H : Hp) : Kp L H H := fun _ _ _ h => h
theorem Kp.trans {L : List Addr} {H H1 H2 : Hp} (a : Kp L H H1) (b : Kp L H1 H2) : Kp L H H2 := fun c o n h => b c o n (a c o n h)
theorem Kp.of {L : List Addr} {H H' : Hp} (s : Same H H') : Kp L H H' := fun b o _ h => s b o h
theorem Kp.new {L : List Addr} {p : Addr} {H H' : Hp} {o : HO} (a : Kp L H H') (h : H' p = none) : Kp L H (upd H' p o) := a.trans (.of (same_new h o))
theorem Kp.own {L : List Addr} {d : Addr} {H H' : Hp} {o : HO} (a : Kp L H H') (m : d ∈ L) : Kp L H (upd H' d o) := fun b u n h => by rw [upd_ne (show b ≠ d from fun z => n (by rw [z]; exact m))]; exact a b u n h
theorem Kp.mono {L M : List Addr} {H H' : Hp} (a : Kp L H H') (h : ∀ b ∈ L, b ∈ M) : Kp M H H' := fun b o n e => a b o (fun z => n (h b z)) e
theorem Kp.free {L : List Addr} {p : Addr} {H H' : Hp} (k : Kp L H H') (n : H' p = none) (m : p ∉ L) : H p = none := by
  cases e : H p with
  | none => rfl
  | some o => rw [k p o m e] at n; cases n
theorem Kp.put {L : List Addr} {p : Addr} {H H' : Hp} {o : HO} (k : Kp L H H') (n : H p = none) : Kp L H (upd H' p o) := fun b u m e => by rw [upd_ne (ne_of_none e n)]; exact k b u m e
theorem Kp.same {L : List Addr} {H0 H H' : Hp} (a : Kp L H H') (s : Same H0 H) (h : ∀ b ∈ L, H0 b = none) : Same H0 H' := fun b o e => a b o (fun z => by rw [h b z] at e; cases e) (s b o e)
theorem cutS_to {a : List Nat} {i : Int} (h : 0 ≤ i) : cutS (S a) none (some i) = S (a.take i.toNat) := by
  obtain ⟨n, rfl⟩ := Int.eq_ofNat_of_zero_le h
  unfold cutS
  rw [HT.sIx_none, HT.sIx_nat, S_len]
  show S (List.take (min n a.length - 0) (List.drop 0 a)) = S (a.take n)
  rw [List.drop_zero, Nat.sub_zero]
  by_cases h : n ≤ a.length
  · rw [Nat.min_eq_left h]
  · rw [Nat.min_eq_right (by omega), List.take_of_length_le (Nat.le_refl a.length), List.take_of_length_le (show a.length ≤ n by omega)]
/-- a comprehension over a text's signs, whose element is a plain value -/
theorem lc_txt {z : List Nat} (f : Nat → V) {g : TG} {te : TE} {vs : List Nat} {σ : St} {H1 : Hp} {D : Addr} {Qd : Hp → Prop} (hl : z.length ≤ 1000)
    (hs : ∀ c H (R : V → Hp → Prop), c ∈ z → R (f c) H → g (.str ⟨#[c]⟩) (wipe σ vs) H fun σ2 H2 => wipe σ2 vs = wipe σ vs ∧ te σ2 H2 R) (hd : Qd (upd H1 D (.lst (z.map f)))) :
    ∃ W : Nat → Nat → Hp → Prop, (∃ m, W 0 m (upd H1 D (.lst []))) ∧ ∀ i m H, W i m H →
      ((Its (S z)).stop i H ∧ Qd H) ∨ ((Its (S z)).go i H ∧ ∃ Nx : Hp → Prop, (∀ H', Nx H' → ∃ m', m' < m ∧ W (i + 1) m' H') ∧ ∀ x H', (Its (S z)).yld i H x H' → g x (wipe σ vs) H' fun σ2 H2 => wipe σ2 vs = wipe σ vs ∧ tYes σ2 H2 fun b H3 =>
        if b = true then te σ2 H3 fun y H4 => ∃ acc, H4 D = some (.lst acc) ∧ acc.length < sizeLine ∧ Nx (upd H4 D (.lst (acc ++ [y]))) else Nx H3) := by
  refine lc_it (walk_str (z := S z)) (fun i H => H = upd H1 D (.lst ((z.take i).map f))) rfl (fun _ _ _ _ => trivial) ?_ ?_
  · rintro i x H H' hi rfl ⟨rfl, c, hc, rfl⟩
    have hc' : z[i]? = some c := by
      rw [← hc]; show z[i]? = (z.toArray)[i]?; rw [List.getElem?_toArray]
    refine hs c _ (fun y H4 => ∃ acc, H4 D = some (.lst acc) ∧ acc.length < sizeLine ∧ upd H4 D (.lst (acc ++ [y])) = upd H1 D (.lst ((z.take (i + 1)).map f))) (List.mem_of_getElem? hc') ⟨_, upd_same, ?_, ?_⟩
    · rw [List.length_map, List.length_take]; exact small1000 (by omega)
    · rw [upd_upd, List.take_add_one, hc', List.map_append]; rfl
  · rintro H rfl
    have e : (S z).cps.size = z.length := by show z.toArray.size = _; rw [List.size_toArray]
    rw [e, List.take_length]
    exact hd
theorem starts_S (x y : List Nat) : Txt.startswith (S x) (S y) = decide (x.take y.length = y) := by
  unfold Txt.startswith PySem.Builtin.Str.subAt
  rw [S_len, S_len]
  show (decide (0 + y.length ≤ x.length) && ((x.toArray.extract 0 (0 + (S y).length)) == y.toArray)) = _
  rw [S_len, Nat.zero_add, List.extract_toArray]
  have e : (List.extract x 0 y.length) = x.take y.length := by unfold List.extract; rw [List.drop_zero, Nat.sub_zero]
  rw [e]
  by_cases h : x.take y.length = y
  · have hl : y.length ≤ x.length := by
      have := congrArg List.length h
      rw [List.length_take] at this; omega
    rw [decide_eq_true h, decide_eq_true hl, h, beq_self_eq_true]; rfl
  · rw [decide_eq_false h]
    have : ((x.take y.length).toArray == y.toArray) = false := by
      rw [beq_eq_false_iff_ne]; intro z; exact h (by have := congrArg Array.toList z; exact this)
    rw [this, Bool.and_false]
theorem par_len : ∀ (x acc t l : List Nat), TL.par [45] acc x = some (t, l) → l.length ≤ x.length
  | [], _, _, _, h => by cases h
  | c :: r, acc, t, l, h => by
    have h' : (if TL.pre [45] (c :: r) = true then some (acc, (c :: r).drop 1) else TL.par [45] (acc ++ [c]) r) = some (t, l) := h
    by_cases hp : TL.pre [45] (c :: r) = true
    · rw [if_pos hp] at h'
      cases h'
      show r.length ≤ r.length + 1
      omega
    · rw [if_neg hp] at h'
      have := par_len r _ _ _ h'
      show l.length ≤ r.length + 1
      omega
/-- the letters a to h -/
def abc8 : List Nat := [97, 98, 99, 100, 101, 102, 103, 104]
/-- whether signs are a shuffle's -/
def shufB (x : List Nat) : Bool := match TL.par [45] [] x with
  | none => false
  | some (t, l) => decide (abc8.take t.length = t) && (decide (l.length ≤ 12) && (l.map fun c => decide (c ∈ t)).all id)
def kStr : Value → Option Str
  | .str x _ => some x
  | _ => none
def absAll : List Value → Option (List V)
  | [] => some []
  | u :: r => match absV u, absAll r with
    | some x, some t => some (x :: t)
    | _, _ => none
def kTup (K : Frag) (t : Addr) : Option (List V) := match K.lookup t with
  | some ⟨.type c, _, .seq its _, _⟩ => if c = "tuple" ∧ its.size ≤ 1000 then absAll its.toList else none
  | _ => none
def kEnt (K : Frag) (e : DictEntry) : Option (Str × List V) := match e.val, kStr e.key with
  | .ref t, some k => (kTup K t).map fun xs => (k, xs)
  | _, _ => none
/-- the entries es: keys, each with what its tuple holds -/
def kTab (K : Frag) : List DictEntry → Option (List (Str × List V))
  | [] => some []
  | e :: r => match kEnt K e, kTab K r with
    | some x, some t => some (x :: t)
    | _, _ => none
theorem abs_rel {u : Value} {x : V} (h : absV u = some x) : RelV x u := by
  cases u <;> simp only [absV] at h <;> first | (cases h; done) | (cases h; first | exact rfl | exact ⟨_, rfl⟩) | cases h
theorem abs_all : ∀ {us : List Value} {xs : List V}, absAll us = some xs → Vals xs us
  | [], xs, h => by cases h; exact .nil
  | u :: r, xs, h => by
    unfold absAll at h
    cases e1 : absV u with
    | none => rw [e1] at h; cases h
    | some x =>
      cases e2 : absAll r with
      | none => rw [e1, e2] at h; cases h
      | some t =>
        rw [e1, e2] at h
        cases h
        exact .cons (abs_rel e1) (abs_all e2)
theorem kTup_ok {K : Frag} {t : Addr} {xs : List V} (h : kTup K t = some xs) (H : Hp) : SqT K H t xs := by
  unfold kTup at h
  cases e : K.lookup t with
  | none => rw [e] at h; cases h
  | some o =>
    rw [e] at h
    obtain ⟨oc, od, dt, sl⟩ := o
    cases oc with
    | type c =>
      cases dt with
      | seq its n =>
        have h' : (if c = "tuple" ∧ its.size ≤ 1000 then absAll its.toList else none) = some xs := h
        by_cases hc : c = "tuple" ∧ its.size ≤ 1000
        · rw [if_pos hc] at h'
          obtain ⟨rfl, hz⟩ := hc
          exact .inr ⟨_, its, n, e, rfl, rfl, Nat.le_of_lt (small1000 hz), abs_all h'⟩
        · rw [if_neg hc] at h'; cases h'
      | _ => cases h
    | _ => cases h
/-- what the table tells of a text -/
theorem tab_look {K : Frag} (z : Str) : ∀ {es : List DictEntry} {T : List (Str × List V)}, kTab K es = some T →
    (∀ xs, T.lookup z = some xs → ∃ e t, es.find? (·.key.isStr z) = some e ∧ e.val = .ref t ∧ kTup K t = some xs) ∧ (T.lookup z = none → es.find? (·.key.isStr z) = none) ∧ es.any (·.refKey) = false
  | [], T, h => by cases h; exact ⟨(fun xs q => by cases q), (fun _ => rfl), rfl⟩
  | e :: r, T, h => by
    unfold kTab at h
    cases e1 : kEnt K e with
    | none => rw [e1] at h; cases h
    | some x =>
      cases e2 : kTab K r with
      | none => rw [e1, e2] at h; cases h
      | some t =>
        rw [e1, e2] at h
        cases h
        obtain ⟨ih1, ih2, ih3⟩ := tab_look z e2
        obtain ⟨k, ys⟩ := x
        obtain ⟨a, hv, hk, ht⟩ : ∃ a, e.val = .ref a ∧ kStr e.key = some k ∧ kTup K a = some ys := by
          unfold kEnt at e1
          cases hv : e.val with
          | ref a =>
            cases hk : kStr e.key with
            | none => rw [hv, hk] at e1; cases e1
            | some k' =>
              rw [hv, hk] at e1
              have e1' : (kTup K a).map (fun xs => (k', xs)) = some (k, ys) := e1
              cases ht : kTup K a with
              | none => rw [ht] at e1'; cases e1'
              | some zs => rw [ht] at e1'; cases e1'; exact ⟨a, rfl, rfl, ht⟩
          | _ => rw [hv] at e1; cases e1
        obtain ⟨tk, hkey⟩ : ∃ tk, e.key = .str k tk := by
          unfold kStr at hk
          cases q : e.key with
          | str x' t' => rw [q] at hk; cases hk; exact ⟨_, rfl⟩
          | _ => rw [q] at hk; cases hk
        have hst : e.key.isStr z = (k == z) := by rw [hkey]; rfl
        have hrf : e.refKey = false := by unfold DictEntry.refKey; rw [hkey]
        refine ⟨fun xs q => ?_, fun q => ?_, ?_⟩
        · rw [List.lookup_cons] at q
          by_cases hz : z = k
          · subst hz
            rw [beq_self_eq_true] at q
            cases q
            exact ⟨e, a, by rw [List.find?_cons_of_pos (by rw [hst]; exact beq_self_eq_true z)], hv, ht⟩
          · rw [show (z == k) = false from beq_eq_false_iff_ne.mpr hz] at q
            obtain ⟨e', t', h1, h2, h3⟩ := ih1 xs q
            exact ⟨e', t', by rw [List.find?_cons_of_neg (by rw [hst]; intro y; exact hz (beq_iff_eq.mp y).symm)]; exact h1, h2, h3⟩
        · rw [List.lookup_cons] at q
          by_cases hz : z = k
          · subst hz
            rw [beq_self_eq_true] at q
            cases q
          · rw [show (z == k) = false from beq_eq_false_iff_ne.mpr hz] at q
            rw [List.find?_cons_of_neg (by rw [hst]; intro y; exact hz (beq_iff_eq.mp y).symm)]
            exact ih2 q
        · rw [List.any_cons, hrf, ih3]; rfl
def nn : List V := [V.str "number", V.str "number"]
def table : List (Str × List V) := [((("plus" : Str)), nn), ("minus", nn), ("times", nn), ("less", nn), ("same", nn), ("do", [V.str "row"]), ("dip", [V.str "any", V.str "row"]), ("if", [V.str "number", V.str "row", V.str "row"]), ("while", [V.str "row", V.str "row"]), ("repeat", [V.str "number", V.str "row"]), ("join", [V.str "row", V.str "row"]), ("wrap", [V.str "any"]), ("put", [V.str "list", V.str "any"]), ("part", [V.str "list", V.str "row", V.str "row"]), ("each", [V.str "list", V.str "row"])]
/-- the basic words' table stands at d -/
structure Tab (K : Frag) (w : World) (mg : Str → Option Value) (d : Addr) (es : Array DictEntry) (n : Nat) : Prop where
  kd : KDict K w d es n
  tab : kTab K es.toList = some table
  mg_ : mg "SORTS_TAKEN" = some (.ref d)
theorem Tab.ns {w : World} {K : PySem.W.Frag} {mg : Str → Option Value} {d : Addr} {es : Array DictEntry} {n : Nat} (T : Tab K w mg d es n) (z : Str) : (table.lookup z = none → nsIn K d z = some none) ∧ ∀ xs, table.lookup z = some xs → ∃ t, nsIn K d z = some (some (.ref t)) ∧ kTup K t = some xs := by
  obtain ⟨h1, h2, h3⟩ := tab_look z T.tab
  constructor
  · intro q
    unfold nsIn
    rw [T.kd.at_]
    show (match es.toList.find? (·.key.isStr z) with | some e => some (some e.val) | none => if es.toList.any (·.refKey) then none else some none) = some none
    rw [h2 q]
    show (if es.toList.any (·.refKey) = true then none else some none) = some none
    rw [h3]; rfl
  · intro xs q
    obtain ⟨e, t, e1, e2, e3⟩ := h1 xs q
    refine ⟨t, ?_, e3⟩
    unfold nsIn
    rw [T.kd.at_]
    show (match es.toList.find? (·.key.isStr z) with | some e => some (some e.val) | none => if es.toList.any (·.refKey) then none else some none) = some (some (.ref t))
    rw [e1]
    show some (some e.val) = _
    rw [e2]
theorem lookup_mem {z : Str} {xs : List V} : ∀ {T : List (Str × List V)}, T.lookup z = some xs → (z, xs) ∈ T
  | (k, ys) :: r, h => by
    rw [List.lookup_cons] at h
    by_cases hz : z = k
    · subst hz; rw [beq_self_eq_true] at h; cases h; exact List.mem_cons_self ..
    · rw [show (z == k) = false from beq_eq_false_iff_ne.mpr hz] at h
      exact List.mem_cons_of_mem _ (lookup_mem h)
end Cm
namespace Cm
open PySem PySem.W L2 SX
/-- a comprehension over a text's signs with a test -/
theorem lc_txtIf {z : List Nat} (p : Nat → Bool) (f : Nat → V) {g : TG} {tt : TT} {te : TE} {vs : List Nat} {σ : St} {H1 : Hp} {D : Addr} {Qd : Hp → Prop} (hl : z.length ≤ 1000)
    (hs : ∀ c H (R : V → Hp → Prop) (R0 : Hp → Prop), c ∈ z → (p c = true → R (f c) H) → (p c = false → R0 H) → g (.str ⟨#[c]⟩) (wipe σ vs) H fun σ2 H2 => wipe σ2 vs = wipe σ vs ∧ tt σ2 H2 fun b H3 => if b = true then te σ2 H3 R else R0 H3) (hd : Qd (upd H1 D (.lst ((z.filter p).map f)))) :
    ∃ W : Nat → Nat → Hp → Prop, (∃ m, W 0 m (upd H1 D (.lst []))) ∧ ∀ i m H, W i m H →
      ((Its (S z)).stop i H ∧ Qd H) ∨ ((Its (S z)).go i H ∧ ∃ Nx : Hp → Prop, (∀ H', Nx H' → ∃ m', m' < m ∧ W (i + 1) m' H') ∧ ∀ x H', (Its (S z)).yld i H x H' → g x (wipe σ vs) H' fun σ2 H2 => wipe σ2 vs = wipe σ vs ∧ tt σ2 H2 fun b H3 =>
        if b = true then te σ2 H3 fun y H4 => ∃ acc, H4 D = some (.lst acc) ∧ acc.length < sizeLine ∧ Nx (upd H4 D (.lst (acc ++ [y]))) else Nx H3) := by
  refine lc_it (walk_str (z := S z)) (fun i H => H = upd H1 D (.lst (((z.take i).filter p).map f))) rfl (fun _ _ _ _ => trivial) ?_ ?_
  · rintro i x H H' hi rfl ⟨rfl, c, hc, rfl⟩
    have hc' : z[i]? = some c := by
      rw [← hc]; show z[i]? = (z.toArray)[i]?; rw [List.getElem?_toArray]
    refine hs c _ (fun y H4 => ∃ acc, H4 D = some (.lst acc) ∧ acc.length < sizeLine ∧ upd H4 D (.lst (acc ++ [y])) = upd H1 D (.lst (((z.take (i + 1)).filter p).map f))) (fun H4 => H4 = upd H1 D (.lst (((z.take (i + 1)).filter p).map f))) (List.mem_of_getElem? hc') (fun hp => ⟨_, upd_same, ?_, ?_⟩) (fun hp => ?_)
    · have h1 := List.length_filter_le p (z.take i)
      rw [List.length_take] at h1
      rw [List.length_map]; exact small1000 (by omega)
    · rw [upd_upd, List.take_add_one, hc', List.filter_append, List.map_append]
      show _ = upd H1 D (HO.lst (List.map f (List.filter p (List.take i z)) ++ List.map f (List.filter p [c])))
      rw [List.filter_cons_of_pos hp]; rfl
    · show _ = _
      rw [List.take_add_one, hc', List.filter_append]
      show _ = upd H1 D (HO.lst (List.map f (List.filter p (List.take i z) ++ List.filter p [c])))
      rw [List.filter_cons_of_neg (by rw [hp]; decide), List.filter_nil, List.append_nil]
  · rintro H rfl
    have e : (S z).cps.size = z.length := by show z.toArray.size = _; rw [List.size_toArray]
    rw [e, List.take_length]
    exact hd
/-- a text, or something else that the law hands in -/
def Vl (H : Hp) (v : V) : Option (List Nat) → Prop
  | some x => v = .str (S x) ∧ x.length ≤ 1000
  | none => (v = .non ∨ (∃ b, v = .bl b) ∨ (∃ i, v = .int i) ∨ (∃ a xs, v = .ref a ∧ H a = some (.lst xs)) ∨ (∃ a kvs, v = .ref a ∧ H a = some (.dK kvs))) ∨ (∃ a xs, v = .ref a ∧ H a = some (.tup xs) ∧ (xs = [] ∨ ∃ z, xs = [.str z]))
theorem Vl.same {H H' : Hp} {v : V} {o : Option (List Nat)} (h : Vl H v o) (s : Same H H') : Vl H' v o := by
  cases o with
  | some x => exact h
  | none =>
    rcases h with (h | h | h | ⟨a, xs, e, h⟩ | ⟨a, xs, e, h⟩) | ⟨a, xs, e, h, g⟩
    · exact .inl (.inl h)
    · exact .inl (.inr (.inl h))
    · exact .inl (.inr (.inr (.inl h)))
    · exact .inl (.inr (.inr (.inr (.inl ⟨a, xs, e, s _ _ h⟩))))
    · exact .inl (.inr (.inr (.inr (.inr ⟨a, xs, e, s _ _ h⟩))))
    · exact .inr ⟨a, xs, e, s _ _ h, g⟩
theorem Vl.isStr {K : Frag} {H : Hp} {v : V} {o : Option (List Nat)} (h : Vl H v o) : ∃ t, TyX K H v t ∧ kitOne K t (.type "str") = some o.isSome := by
  cases o with
  | some x => exact ⟨_, by rw [h.1]; exact .base (.str _), kit_ty (r := true) (by decide +kernel)⟩
  | none =>
    rcases h with (h | ⟨b, h⟩ | ⟨i, h⟩ | ⟨a, xs, e, h⟩ | ⟨a, xs, e, h⟩) | ⟨a, xs, e, h, g⟩
    · exact ⟨_, by rw [h]; exact .base .non, kit_ty (r := false) (by decide +kernel)⟩
    · exact ⟨_, by rw [h]; exact .base (.bl _), kit_ty (r := false) (by decide +kernel)⟩
    · exact ⟨_, by rw [h]; exact .base (.int _), kit_ty (r := false) (by decide +kernel)⟩
    · exact ⟨_, by rw [e]; exact .base (.lst h), kit_ty (r := false) (by decide +kernel)⟩
    · exact ⟨_, by rw [e]; exact .base (.dK h), kit_ty (r := false) (by decide +kernel)⟩
    · exact ⟨_, by rw [e]; exact .base (.tup h), kit_ty (r := false) (by decide +kernel)⟩
/-- no tuple, or one without, or with one part -/
theorem Vl.isTup {K : Frag} {H : Hp} {v : V} (h : Vl H v none) : (∃ t, TyX K H v t ∧ kitOne K t (.type "tuple") = some false) ∨ (∃ a xs t, v = .ref a ∧ H a = some (.tup xs) ∧ (xs = [] ∨ ∃ z, xs = [.str z]) ∧ TyX K H v t ∧ kitOne K t (.type "tuple") = some true) := by
  rcases h with (h | ⟨b, h⟩ | ⟨i, h⟩ | ⟨a, xs, e, h⟩ | ⟨a, xs, e, h⟩) | ⟨a, xs, e, h, g⟩
  · exact .inl ⟨_, by rw [h]; exact .base .non, kit_ty (r := false) (by decide +kernel)⟩
  · exact .inl ⟨_, by rw [h]; exact .base (.bl _), kit_ty (r := false) (by decide +kernel)⟩
  · exact .inl ⟨_, by rw [h]; exact .base (.int _), kit_ty (r := false) (by decide +kernel)⟩
  · exact .inl ⟨_, by rw [e]; exact .base (.lst h), kit_ty (r := false) (by decide +kernel)⟩
  · exact .inl ⟨_, by rw [e]; exact .base (.dK h), kit_ty (r := false) (by decide +kernel)⟩
  · exact .inr ⟨a, xs, _, e, h, g, by rw [e]; exact .base (.tup h), kit_ty (r := true) (by decide +kernel)⟩
/-- the small letters -/
def az : List Nat := [97, 98, 99, 100, 101, 102, 103, 104, 105, 106, 107, 108, 109, 110, 111, 112, 113, 114, 115, 116, 117, 118, 119, 120, 121, 122]
/-- whether signs are a told word's name -/
def nameB (x : List Nat) : Bool := (decide (1 ≤ x.length) && decide (x.length ≤ 8)) && ((x.map fun c => decide (c ∈ az)).all id && !(table.lookup (S x)).isSome)
/-- whether signs are a word -/
def wordB (x : List Nat) : Bool := (table.lookup (S x)).isSome || (shufB x || nameB x)
def onT (f : List Nat → Bool) : Option (List Nat) → Bool
  | some x => f x
  | none => false
theorem par_spec : ∀ (x acc t l : List Nat), TL.par [45] acc x = some (t, l) → ∃ p, t = acc ++ p ∧ x = p ++ 45 :: l ∧ 45 ∉ p
  | [], _, _, _, h => by cases h
  | c :: r, acc, t, l, h => by
    have h' : (if TL.pre [45] (c :: r) = true then some (acc, (c :: r).drop 1) else TL.par [45] (acc ++ [c]) r) = some (t, l) := h
    by_cases hp : TL.pre [45] (c :: r) = true
    · rw [if_pos hp] at h'
      cases h'
      have hc : c = 45 := by
        have := eq_of_beq hp
        exact List.head_eq_of_cons_eq this
      exact ⟨[], by simp, by rw [hc]; rfl, by simp⟩
    · rw [if_neg hp] at h'
      obtain ⟨p, e1, e2, e3⟩ := par_spec r _ _ _ h'
      refine ⟨c :: p, by rw [e1]; simp, by rw [e2]; rfl, ?_⟩
      intro z
      rcases List.mem_cons.mp z with z | z
      · exact hp (by rw [← z]; rfl)
      · exact e3 z
theorem par_no : ∀ (x acc : List Nat), TL.par [45] acc x = none → 45 ∉ x
  | [], _, _ => by simp
  | c :: r, acc, h => by
    have h' : (if TL.pre [45] (c :: r) = true then some (acc, (c :: r).drop 1) else TL.par [45] (acc ++ [c]) r) = none := h
    by_cases hp : TL.pre [45] (c :: r) = true
    · rw [if_pos hp] at h'; cases h'
    · rw [if_neg hp] at h'
      intro z
      rcases List.mem_cons.mp z with z | z
      · exact hp (by rw [← z]; rfl)
      · exact par_no r _ h' z
theorem cnt_len (x : List Nat) : PyProof.Rows.cnt 45 x = (x.count 45 : Nat) := by
  induction x with
  | nil => rfl
  | cons n r ih =>
    rw [PyProof.Rows.cnt_cons, ih, List.count_cons]
    by_cases h : n = 45
    · rw [if_pos h, h]; simp; omega
    · rw [if_neg h]; simp [h]
/-- the first stroke -/
theorem index_dash {x p q : List Nat} (hx : x = p ++ 45 :: q) (hp : 45 ∉ p) (hq : 45 ∉ q) : Txt.index0 (S x) (S [45]) = some p.length := by
  obtain ⟨f, hc⟩ := PySem.StrLaws.occ_chain (S x) (S [45]) 1
  have hm : (!(Builtin.Str.occurrences (S x) (S [45]) 0 (S x).length 1).isEmpty) = decide (45 ∈ x) := in_one x 45
  have hx' : (45 : Nat) ∈ x := by rw [hx]; exact List.mem_append.mpr (.inr (List.mem_cons_self ..))
  rw [decide_eq_true hx'] at hm
  unfold Txt.index0
  cases ho : Builtin.Str.occurrences (S x) (S [45]) 0 (S x).length 1 with
  | nil => rw [ho] at hm; cases hm
  | cons i r =>
    rw [ho] at hc
    have h2 := (TL.at_iff (x := S x) (y := S [45]) (List.cons_ne_nil _ _) i).mp hc.2.1
    have h3 : (x.drop i).take 1 = [45] := eq_of_beq h2
    show some i = some p.length
    congr 1
    have h4 : x[i]? = some 45 := by
      have := congrArg (fun l => l[0]?) h3
      simp only [List.getElem?_take, List.getElem?_drop] at this
      simpa using this
    rw [hx] at h4
    by_cases h5 : i < p.length
    · rw [List.getElem?_append_left h5] at h4
      exact absurd (List.mem_of_getElem? h4) hp
    · rw [List.getElem?_append_right (by omega)] at h4
      by_cases h6 : i - p.length = 0
      · omega
      · obtain ⟨j, hj⟩ : ∃ j, i - p.length = j + 1 := ⟨i - p.length - 1, by omega⟩
        rw [hj, List.getElem?_cons_succ] at h4
        exact absurd (List.mem_of_getElem? h4) hq
end Cm
namespace Cm
open PySem PySem.W L2 SX
/-- a text of at most n signs that a text may have -/
structure Tx (z : Str) (n : Nat) : Prop where
  len : z.length ≤ n
  ch : ∀ c ∈ z.cps.toList, c < 1114112
theorem Tx.add {a b : Str} {m n : Nat} (h : Tx a m) (g : Tx b n) : Tx (a ++ b) (m + n) := by
  refine ⟨?_, fun c hc => ?_⟩
  · have e : (a ++ b).length = a.length + b.length := by
      rw [TL.len_tl, TL.tl_append, List.length_append, ← TL.len_tl, ← TL.len_tl]
    have := h.len; have := g.len; omega
  · have e : c ∈ TL.tl a ++ TL.tl b := by rw [← TL.tl_append]; exact hc
    rcases List.mem_append.mp e with e | e
    · exact h.ch c e
    · exact g.ch c e
theorem Tx.mono {a : Str} {m n : Nat} (h : Tx a m) (l : m ≤ n) : Tx a n := ⟨Nat.le_trans h.len l, h.ch⟩
theorem Tx.cut {z : Str} {n : Nat} (h : Tx z n) (lo hi : Option Int) : Tx (cutS z lo hi) n := by
  refine ⟨Nat.le_trans (cutS_length z lo hi) h.len, fun c hc => h.ch c ?_⟩
  have e : c ∈ (z.cps.toList.drop (HT.sIx z.length 0 lo)).take (HT.sIx z.length z.length hi - HT.sIx z.length 0 lo) := hc
  exact List.mem_of_mem_drop (List.mem_of_mem_take e)
theorem Tx.at_ {z : Str} {n : Nat} (h : Tx z n) {i : Int} {c : Nat} (e : atI z.cps.toList i = some c) : Tx ⟨#[c]⟩ 1 := by
  refine ⟨Nat.le_refl 1, fun d hd => ?_⟩
  have hd' : d ∈ [c] := hd
  rw [List.mem_singleton.mp hd']
  refine h.ch c ?_
  unfold atI at e
  cases q : ixN z.cps.toList.length i with
  | none => rw [q] at e; cases e
  | some j => rw [q] at e; exact List.mem_of_getElem? e
theorem Tx.sz {z : Str} {n : Nat} (h : Tx z n) (l : n ≤ 1000 := by decide) : z.length ≤ sizeLine := Nat.le_of_lt (small1000 (Nat.le_trans h.len l))
theorem Tx.sz2 {y z : Str} {m n : Nat} (h : Tx y m) (g : Tx z n) (l : m + n ≤ 1000 := by decide) : y.length + z.length ≤ sizeLine := by
  have := h.len; have := g.len
  exact Nat.le_of_lt (small1000 (by omega))
/-- a written text -/
def litB (z : Str) (n : Nat) : Bool := decide (z.length ≤ n) && z.cps.toList.all fun c => decide (c < 1114112)
theorem Tx.lit {z : Str} {n : Nat} (h : litB z n = true) : Tx z n := by
  unfold litB at h
  rw [Bool.and_eq_true] at h
  exact ⟨of_decide_eq_true h.1, fun c hc => of_decide_eq_true (List.all_eq_true.mp h.2 c hc)⟩
theorem joinL_nil : ∀ l : List (List Nat), TL.joinL [] l = l.flatten
  | [] => rfl
  | [x] => by show x = [x].flatten; simp
  | x :: y :: r => by
    have ih := joinL_nil (y :: r)
    show x ++ ([] ++ TL.joinL [] (y :: r)) = (x :: y :: r).flatten
    rw [ih]; simp
theorem Tx.join {ys : List Str} (h : ∀ y ∈ ys, Tx y 1) : Tx (Txt.join ("" : Str) ys) ys.length := by
  have e0 : ("" : Str) = S [] := by decide +kernel
  have e1 : ys = (ys.map TL.tl).map S := by
    rw [List.map_map]
    conv => lhs; rw [← List.map_id ys]
    exact List.map_congr_left fun y _ => (S_tl y).symm
  have e2 : Txt.join ("" : Str) ys = S ((ys.map TL.tl).flatten) := by
    rw [e0]; conv => lhs; rw [e1]
    rw [join_S, joinL_nil]
  rw [e2]
  refine ⟨?_, fun c hc => ?_⟩
  · rw [S_len, List.length_flatten]
    have : ∀ l : List Str, (∀ y ∈ l, Tx y 1) → ((l.map TL.tl).map List.length).sum ≤ l.length := by
      intro l
      induction l with
      | nil => intro _; exact Nat.le_refl 0
      | cons y r ih =>
        intro hh
        have h1 := (hh y (List.mem_cons_self ..)).len
        rw [TL.len_tl] at h1
        have h2 := ih fun z hz => hh z (List.mem_cons_of_mem _ hz)
        rw [List.map_cons, List.map_cons, List.sum_cons, List.length_cons]
        omega
    exact this ys h
  · have hc' : c ∈ (ys.map TL.tl).flatten := hc
    obtain ⟨l, hl, hcl⟩ := List.mem_flatten.mp hc'
    obtain ⟨y, hy, rfl⟩ := List.mem_map.mp hl
    exact (h y hy).ch c hcl
theorem sum_one {ys : List Str} (h : ∀ y ∈ ys, Tx y 1) (l : ys.length ≤ 1000) : (ys.map (·.length)).sum + ys.length * ("" : Str).length ≤ 16777216 := by
  have e0 : ("" : Str).length = 0 := by decide +kernel
  rw [e0, Nat.mul_zero, Nat.add_zero]
  have : ∀ l : List Str, (∀ y ∈ l, Tx y 1) → (l.map (·.length)).sum ≤ l.length := by
    intro l
    induction l with
    | nil => intro _; exact Nat.le_refl 0
    | cons y r ih =>
      intro hh
      have h1 := (hh y (List.mem_cons_self ..)).len
      have h2 := ih fun z hz => hh z (List.mem_cons_of_mem _ hz)
      rw [List.map_cons, List.sum_cons, List.length_cons]
      omega
  have := this ys h
  omega
end Cm
namespace Cm
open PySem PySem.Spec PyProof.Rows L2
theorem ext_tup (l : Addr) (its : Array Value) (n : Nat) (b : Addr) (js : Array Value) (m : Nat) (dd : Option Addr) (sl : Array (Option Value)) (h0 : ¬(!its.isEmpty && Builtin.List.listTooLong (its.size + js.size)) = true) (h1 : its.size ≤ sizeLine) (h2 : its.size + js.size ≤ sizeLine + 1) :
    Meets (Builtin.«list.extend» ⟨[.ref l, .ref b], []⟩) (fun _ R s => s.heap.get? l = some { cls := .type "list", dict := none, data := .seq its n, slots := #[] } ∧ s.heap.get? b = some { cls := .type "tuple", dict := dd, data := .seq js m, slots := sl } ∧ R (.ok (.ret Value.none)) { s with heap := s.heap.update l (Obj.mapSeq fun x => x ++ js), toks := s.toks }) :=
  .of_wp fun prog w A R s h => by
    obtain ⟨hp, g, d, tk, os⟩ := s
    obtain ⟨hl, hb, h⟩ := h
    have f2 := sub_tuple_tuple; have f3 := sub_list_list; have f4 := sub_tuple_list; have f5 := sub_list_tuple; have f1 := AutoSeq1.idx_int
    have hz : (its ++ js).size ≤ sizeLine + 1 := by rw [Array.size_append]; exact h2
    wp_walk using (wpAny_updateSeq hl rfl (hz := h1) (_hz' := hz)), wpAny_loadPart' hl, wpAny_loadPart' hb
    exact ⟨_, rfl, h⟩
def rExtT (K : PySem.W.Frag) : V → List V → Hp → VK → Prop := fun x vs H Q => ∃ l b xs zs, x = .ref l ∧ vs = [.ref b] ∧ H l = some (.lst xs) ∧ SqT K H b zs ∧ xs.length + zs.length ≤ sizeLine ∧ Q .non (upd H l (.lst (xs ++ zs)))
/-- xs.extend(t), t a tuple -/
theorem mt_extT {X : Cx} : MtM X "list.extend" (rExtT X.K) := by
  intro pins s σ H x vs v us Q I rx rv h
  obtain ⟨l, b, xs, zs, rfl, rfl, hH, hB, hz, q⟩ := h
  cases rx
  obtain ⟨u, rfl, ru⟩ := rv.one
  cases ru
  obtain ⟨z, its, n, r, hl, e⟩ := I.lstM hH
  obtain ⟨js, r2, ⟨ob, e2, c2, m, d2⟩, z2⟩ := I.tuple hB
  obtain ⟨oc, od, dt, sl⟩ := ob
  cases (show oc = .type "tuple" from c2)
  cases (show dt = .seq js.toArray m from d2)
  have l2 := r2.length
  have hsz : its.toArray.size + js.toArray.size ≤ sizeLine := by rw [List.size_toArray, List.size_toArray]; omega
  have hlong : ¬ (!its.toArray.isEmpty && Builtin.List.listTooLong (its.toArray.size + js.toArray.size)) = true := by
    rw [notLongL hsz, Bool.and_false]; exact Bool.false_ne_true
  refine call_meets F.slot_list_extend ⟨_, e, rfl⟩ F.entry_list_extend (F.args_list_extend_2 _ _)
    (ext_tup l its.toArray n b js.toArray m od sl hlong (by rw [List.size_toArray]; omega) (by omega)) ⟨e, e2, ?_⟩
  refine ⟨.non, _, I.lset (its' := its ++ js) hH e (by simp) (r.append r2) ?_, rfl, q⟩
  rw [List.length_append]; omega
end Cm
namespace Cm
open PySem PySem.W L2 SX
/-! ### data of tuples, texts and numbers as it lies in the heap -/
mutual
inductive Tr (K : Frag) (H : Hp) : V → PyData → Prop
  | int (i : Int) : Tr K H (.int i) (.int i)
  | str (x : Str) : Tr K H (.str x) (.str x)
  | tup {a : Addr} {xs : List V} {ds : List PyData} : SqT K H a xs → TrAll K H xs ds → Tr K H (.ref a) (.tuple ds)
inductive TrAll (K : Frag) (H : Hp) : List V → List PyData → Prop
  | nil : TrAll K H [] []
  | cons {v : V} {vs : List V} {d : PyData} {ds : List PyData} : Tr K H v d → TrAll K H vs ds → TrAll K H (v :: vs) (d :: ds)
end
/-- tuples are kept -/
def TKs (K : Frag) (H H' : Hp) : Prop := ∀ a xs, SqT K H a xs → SqT K H' a xs
theorem TKs.refl {K : Frag} (H : Hp) : TKs K H H := fun _ _ h => h
theorem TKs.trans {K : Frag} {H H1 H2 : Hp} (a : TKs K H H1) (b : TKs K H1 H2) : TKs K H H2 := fun c x h => b c x (a c x h)
theorem TKs.of {K : Frag} {H H' : Hp} (s : Same H H') : TKs K H H' := fun a xs h => by
  rcases h with (h | ⟨o, h⟩) | h
  · exact .inl (.inl (s _ _ h))
  · exact .inl (.inr ⟨o, s _ _ h⟩)
  · exact .inr h
theorem TKs.kp {K : Frag} {L : List Addr} {H H' : Hp} (k : Kp L H H') (hl : ∀ b ∈ L, ∃ xs, H b = some (.lst xs)) : TKs K H H' := fun a xs h => by
  have nm : ∀ o, H a = some o → (∀ ys, o ≠ .lst ys) → a ∉ L := fun o e n z => by
    obtain ⟨ys, ey⟩ := hl a z
    rw [ey] at e
    exact n ys (Option.some.inj e).symm
  rcases h with (h | ⟨o, h⟩) | h
  · exact .inl (.inl (k _ _ (nm _ h (fun _ z => by cases z)) h))
  · exact .inl (.inr ⟨o, k _ _ (nm _ h (fun _ z => by cases z)) h⟩)
  · exact .inr h
theorem TKs.lst {K : Frag} {H : Hp} {d : Addr} {xs ys : List V} (h : H d = some (.lst xs)) : TKs K H (upd H d (.lst ys)) :=
  TKs.kp (L := [d]) (fun b o m e => by rw [upd_ne (fun z => m (List.mem_singleton.mpr z))]; exact e) (fun b hb => by rw [List.mem_singleton.mp hb]; exact ⟨xs, h⟩)
mutual
theorem Tr.mono {K : Frag} {H H' : Hp} (k : TKs K H H') : ∀ {v : V} {d : PyData}, Tr K H v d → Tr K H' v d
  | _, _, .int i => .int i
  | _, _, .str x => .str x
  | _, _, .tup h t => .tup (k _ _ h) (TrAll.mono k t)
theorem TrAll.mono {K : Frag} {H H' : Hp} (k : TKs K H H') : ∀ {v : List V} {d : List PyData}, TrAll K H v d → TrAll K H' v d
  | _, _, .nil => .nil
  | _, _, .cons h t => .cons (Tr.mono k h) (TrAll.mono k t)
end
mutual
theorem Tr.dp {K : Frag} {H : Hp} : ∀ {v : V} {d : PyData}, Tr K H v d → Dp K H v d
  | _, _, .int i => .int i
  | _, _, .str x => .str x
  | _, _, .tup h t => .tup h (TrAll.dp t)
theorem TrAll.dp {K : Frag} {H : Hp} : ∀ {v : List V} {d : List PyData}, TrAll K H v d → DpAll K H v d
  | _, _, .nil => .nil
  | _, _, .cons h t => .cons (Tr.dp h) (TrAll.dp t)
end
theorem TrAll.len {K : Frag} {H : Hp} : ∀ {v : List V} {d : List PyData}, TrAll K H v d → v.length = d.length
  | _, _, .nil => rfl
  | _, _, .cons _ t => congrArg (· + 1) (TrAll.len t)
theorem TrAll.append {K : Frag} {H : Hp} : ∀ {v v' : List V} {d d' : List PyData}, TrAll K H v d → TrAll K H v' d' → TrAll K H (v ++ v') (d ++ d')
  | _, _, _, _, .nil, h => h
  | _, _, _, _, .cons h t, h' => .cons h (TrAll.append t h')
theorem TrAll.get {K : Frag} {H : Hp} : ∀ {v : List V} {d : List PyData} {i : Nat} {x : V}, TrAll K H v d → v[i]? = some x → ∃ y, d[i]? = some y ∧ Tr K H x y
  | _, _, i, x, .nil, h => by simp at h
  | _, _, 0, x, .cons h t, e => ⟨_, rfl, by cases e; exact h⟩
  | _, _, i + 1, x, .cons h t, e => by
    rw [List.getElem?_cons_succ] at e ⊢
    exact TrAll.get t e
theorem TrAll.snoc {K : Frag} {H : Hp} {v : List V} {d : List PyData} {x : V} (h : TrAll K H (v ++ [x]) d) : ∃ d' y, d = d' ++ [y] ∧ TrAll K H v d' ∧ Tr K H x y := by
  induction v generalizing d with
  | nil =>
    cases h with
    | cons a b => cases b; exact ⟨[], _, rfl, .nil, a⟩
  | cons u r ih =>
    cases h with
    | cons a b =>
      obtain ⟨d', y, rfl, h1, h2⟩ := ih b
      exact ⟨_ :: d', y, rfl, .cons a h1, h2⟩
/-! ### things, rows, stacks: depth, words in all, size -/
mutual
inductive Thg : Nat → Nat → Nat → PyData → Prop
  | num {k : Nat} (n : Int) (h0 : 0 ≤ n) (h1 : n < 10 ^ 12) : Thg k 0 1 (.tuple [.str "number", .int n])
  | row {k k' w m : Nat} {ws : List PyData} : Rw k w m ws → k < k' → Thg k' w (m + 1) (.tuple [.str "row", .tuple ws])
  | lst {k k' w m : Nat} {ts : List PyData} : Stk k w m ts → k < k' → Thg k' w (m + 1) (.tuple [.str "list", .tuple ts])
inductive Rw : Nat → Nat → Nat → List PyData → Prop
  | nil {k : Nat} : Rw k 0 0 []
  | txt {k w m : Nat} {z : Str} {ws : List PyData} : Tx z 100 → Rw k w m ws → Rw k (w + 1) (m + 1) (.str z :: ws)
  | push {k w m w' m' : Nat} {t : PyData} {ws : List PyData} : Thg k w m t → Rw k w' m' ws → Rw k (w + w' + 1) (m + m' + 1) (.tuple [.str "push", t] :: ws)
inductive Stk : Nat → Nat → Nat → List PyData → Prop
  | nil {k : Nat} : Stk k 0 0 []
  | cons {k w m w' m' : Nat} {t : PyData} {ts : List PyData} : Thg k w m t → Stk k w' m' ts → Stk k (w + w') (m + m') (t :: ts)
end
theorem Thg.up {k k' w m : Nat} {t : PyData} (h : Thg k w m t) (l : k ≤ k') : Thg k' w m t := by
  cases h with
  | num n h0 h1 => exact .num n h0 h1
  | row h q => exact .row h (Nat.lt_of_lt_of_le q l)
  | lst h q => exact .lst h (Nat.lt_of_lt_of_le q l)
theorem Rw.up {k k' : Nat} (l : k ≤ k') : ∀ {ws : List PyData} {w m : Nat}, Rw k w m ws → Rw k' w m ws
  | _, _, _, .nil => .nil
  | _, _, _, .txt h t => .txt h (Rw.up l t)
  | _, _, _, .push h t => .push (h.up l) (Rw.up l t)
theorem Stk.up {k k' : Nat} (l : k ≤ k') : ∀ {ws : List PyData} {w m : Nat}, Stk k w m ws → Stk k' w m ws
  | _, _, _, .nil => .nil
  | _, _, _, .cons h t => .cons (h.up l) (Stk.up l t)
theorem Rw.append {k : Nat} : ∀ {a b : List PyData} {w m w' m' : Nat}, Rw k w m a → Rw k w' m' b → Rw k (w + w') (m + m') (a ++ b)
  | _, _, _, _, _, _, .nil, h => by rw [Nat.zero_add, Nat.zero_add]; exact h
  | _, _, _, _, w', m', .txt (w := w) (m := m) h t, h' => by
    have := Rw.txt h (Rw.append t h')
    rw [show w + 1 + w' = w + w' + 1 by omega, show m + 1 + m' = m + m' + 1 by omega]
    exact this
  | _, _, _, _, w', m', .push (w := w) (m := m) (w' := x) (m' := y) h t, h' => by
    have := Rw.push h (Rw.append t h')
    rw [show w + x + 1 + w' = w + (x + w') + 1 by omega, show m + y + 1 + m' = m + (y + m') + 1 by omega]
    exact this
theorem Stk.append {k : Nat} : ∀ {a b : List PyData} {w m w' m' : Nat}, Stk k w m a → Stk k w' m' b → Stk k (w + w') (m + m') (a ++ b)
  | _, _, _, _, _, _, .nil, h => by rw [Nat.zero_add, Nat.zero_add]; exact h
  | _, _, _, _, _, _, .cons h t, h' => by
    rw [Nat.add_assoc, Nat.add_assoc]; exact .cons h (Stk.append t h')
theorem Stk.snoc {k : Nat} : ∀ {a : List PyData} {t : PyData} {w m : Nat}, Stk k w m (a ++ [t]) → ∃ w1 m1 w2 m2, Stk k w1 m1 a ∧ Thg k w2 m2 t ∧ w = w1 + w2 ∧ m = m1 + m2
  | [], t, w, m, h => by
    have h' : Stk k w m [t] := h
    cases h' with
    | cons a b => cases b; exact ⟨0, 0, _, _, .nil, a, by omega, by omega⟩
  | x :: r, t, w, m, h => by
    have h' : Stk k w m (x :: (r ++ [t])) := h
    cases h' with
    | cons a q =>
      obtain ⟨w1, m1, w2, m2, a', b, rfl, rfl⟩ := Stk.snoc q
      exact ⟨_, _, w2, m2, .cons a a', b, by omega, by omega⟩
theorem Thg.pos {k w m : Nat} {t : PyData} (h : Thg k w m t) : 1 ≤ m := by
  cases h <;> omega
theorem Stk.len {k : Nat} : ∀ {a : List PyData} {w m : Nat}, Stk k w m a → a.length ≤ m
  | _, _, _, .nil => Nat.le_refl 0
  | _, _, _, .cons h t => by
    have h1 := Stk.len t
    have h2 := h.pos
    rw [List.length_cons]; omega
theorem Rw.len {k : Nat} : ∀ {a : List PyData} {w m : Nat}, Rw k w m a → a.length ≤ m
  | _, _, _, .nil => Nat.le_refl 0
  | _, _, _, .txt h t => by have := Rw.len t; rw [List.length_cons]; omega
  | _, _, _, .push h t => by have := Rw.len t; rw [List.length_cons]; omega
/-- what a word pushes -/
def psh : PyData → Option PyData
  | .tuple [_, t] => some t
  | _ => none
theorem Rw.psh {k : Nat} : ∀ {ws : List PyData} {w m : Nat}, Rw k w m ws → ∃ w' m', Stk k w' m' (ws.filterMap psh) ∧ w = ws.length + w' ∧ m' ≤ m
  | _, _, _, .nil => ⟨0, 0, .nil, rfl, Nat.le_refl 0⟩
  | _, _, _, .txt h t => by
    obtain ⟨w', m', a, b, c⟩ := Rw.psh t
    exact ⟨w', m', a, by rw [List.length_cons]; omega, by omega⟩
  | _, _, _, .push h t => by
    obtain ⟨w', m', a, b, c⟩ := Rw.psh t
    exact ⟨_, _, .cons h a, by rw [List.length_cons]; omega, by omega⟩
theorem Rw.at_ {k : Nat} : ∀ {ws : List PyData} {w m i : Nat} {d : PyData}, Rw k w m ws → ws[i]? = some d → (∃ z, d = .str z) ∨ (∃ t, d = .tuple [.str "push", t])
  | _, _, _, i, d, .nil, h => by simp at h
  | _, _, _, 0, d, .txt (z := z) h t, e => .inl ⟨z, by cases e; rfl⟩
  | _, _, _, 0, d, .push (t := t) h _, e => .inr ⟨t, by cases e; rfl⟩
  | _, _, _, i + 1, d, .txt h t, e => Rw.at_ t e
  | _, _, _, i + 1, d, .push h t, e => Rw.at_ t e
theorem mid {n : Nat} (h : n ≤ 1000000) : n ≤ sizeLine := Nat.le_trans h (by decide)
theorem midlt {n : Nat} (h : n < 1000000) : n < sizeLine := Nat.lt_of_lt_of_le h (by decide)
theorem tyTup {K : Frag} {H : Hp} {a : Addr} {xs : List V} (h : SqT K H a xs) : TyX K H (.ref a) (.type "tuple") := by
  rcases h with (h | ⟨o, h⟩) | ⟨o, _, _, e, c, _⟩
  · exact .base (.tup h)
  · exact .fTuple h
  · exact .kTuple e c
mutual
theorem Thg.lay : ∀ {k w m : Nat} {t : PyData}, Thg k w m t → PyData.canLay0 t = true ∧ PyData.depth t ≤ 3 * k + 1
  | k, _, _, _, .num n h0 h1 => ⟨by show (PyData.canLay0 (.str "number") && (true && true)) = true; decide +kernel, Nat.le_add_left 1 _⟩
  | k', _, _, _, .row (k := k) (ws := ws) h l => by
    obtain ⟨a, b⟩ := Rw.lay h
    refine ⟨?_, ?_⟩
    · show (PyData.canLay0 (.str "row") && (PyData.canLayAll0 ws && true)) = true
      rw [a]; decide +kernel
    · show max 0 (max (PyData.depthAll ws + 1) 0) + 1 ≤ _
      omega
  | k', _, _, _, .lst (k := k) (ts := ts) h l => by
    obtain ⟨a, b⟩ := Stk.lay h
    refine ⟨?_, ?_⟩
    · show (PyData.canLay0 (.str "list") && (PyData.canLayAll0 ts && true)) = true
      rw [a]; decide +kernel
    · show max 0 (max (PyData.depthAll ts + 1) 0) + 1 ≤ _
      omega
theorem Rw.lay : ∀ {k w m : Nat} {ws : List PyData}, Rw k w m ws → PyData.canLayAll0 ws = true ∧ PyData.depthAll ws ≤ 3 * k + 2
  | k, _, _, _, .nil => ⟨rfl, Nat.zero_le _⟩
  | k, _, _, _, .txt (z := z) (ws := ws) h t => by
    obtain ⟨a, b⟩ := Rw.lay t
    refine ⟨?_, ?_⟩
    · show (z.cps.all (· < 0x110000) && PyData.canLayAll0 ws) = true
      rw [a, Bool.and_true, ← Array.all_toList, List.all_eq_true]
      intro c hc
      exact decide_eq_true (h.ch c hc)
    · show max 0 (PyData.depthAll ws) ≤ _
      omega
  | k, _, _, _, .push (t := t) (ws := ws) h r => by
    obtain ⟨a, b⟩ := Rw.lay r
    obtain ⟨a', b'⟩ := Thg.lay h
    refine ⟨?_, ?_⟩
    · show ((PyData.canLay0 (.str "push") && (PyData.canLay0 t && true)) && PyData.canLayAll0 ws) = true
      rw [a, a']; decide +kernel
    · show max (max 0 (max (PyData.depth t) 0) + 1) (PyData.depthAll ws) ≤ _
      omega
theorem Stk.lay : ∀ {k w m : Nat} {ts : List PyData}, Stk k w m ts → PyData.canLayAll0 ts = true ∧ PyData.depthAll ts ≤ 3 * k + 1
  | k, _, _, _, .nil => ⟨rfl, Nat.zero_le _⟩
  | k, _, _, _, .cons (t := t) (ts := ts) h r => by
    obtain ⟨a, b⟩ := Stk.lay r
    obtain ⟨a', b'⟩ := Thg.lay h
    refine ⟨?_, ?_⟩
    · show (PyData.canLay0 t && PyData.canLayAll0 ts) = true
      rw [a, a']; rfl
    · show max (PyData.depth t) (PyData.depthAll ts) ≤ _
      omega
end
theorem Stk.shaped {k w m : Nat} {ts : List PyData} (h : Stk k w m ts) (l : k ≤ 20) : SeqAt.shaped (.list ts) = true := by
  obtain ⟨a, b⟩ := h.lay
  show (PyData.canLayAll0 ts && decide (PyData.depthAll ts + 1 ≤ 64)) = true
  rw [a, Bool.true_and]; exact decide_eq_true (by omega)
end Cm
namespace Cm
open PySem PySem.W L2 SX
theorem Tr.tupD {K : Frag} {H : Hp} {v : V} {ds : List PyData} (h : Tr K H v (.tuple ds)) : ∃ a xs, v = .ref a ∧ SqT K H a xs ∧ TrAll K H xs ds := by
  cases h with
  | tup h t => exact ⟨_, _, rfl, h, t⟩
/-- two tuples' sum, as trees -/
theorem catTr {K : Frag} {H : Hp} {u v : V} {ps qs : List PyData} {Q : VK} (hu : Tr K H u (.tuple ps)) (hv : Tr K H v (.tuple qs)) (hl : ps.length + qs.length ≤ 1000000)
    (q : ∀ (r : V) (H' : Hp), Same H H' → Tr K H' r (.tuple (ps ++ qs)) → Q r H') : rCatA K u v H Q := by
  obtain ⟨a, xs, rfl, ha, hx⟩ := hu.tupD
  obtain ⟨b, ys, rfl, hb, hy⟩ := hv.tupD
  have lx := hx.len
  have ly := hy.len
  refine ⟨a, b, xs, ys, rfl, rfl, ha, hb, mid (by omega), fun e => ?_, fun _ e => ?_, fun _ _ p np => ?_⟩
  · subst e
    cases hx
    exact q _ H (fun _ _ h => h) (.tup hb hy)
  · subst e
    cases hy
    rw [List.append_nil] at q
    exact q _ H (fun _ _ h => h) (.tup ha hx)
  · exact q _ _ (same_new np _) (.tup (SqT.of upd_same) ((hx.append hy).mono (.of (same_new np _))))
/-- all but the first of a tuple, as trees -/
theorem restTr {K : Frag} {H : Hp} {u : V} {d : PyData} {ds : List PyData} {Q : VK} (hu : Tr K H u (.tuple (d :: ds)))
    (q : ∀ (r : V) (H' : Hp), Same H H' → Tr K H' r (.tuple ds) → Q r H') : rSlA K u (some 1) none H Q := by
  obtain ⟨a, xs, rfl, ha, hx⟩ := hu.tupD
  cases hx with
  | cons hd ht =>
    rename_i x xr
    refine ⟨a, _, rfl, ha, fun c => ?_, fun _ p np => ?_⟩
    · have c1 := c.1
      rw [show (1 : Int) = ((1 : Nat) : Int) from rfl, HT.sIx_nat, List.length_cons] at c1
      omega
    · have e : cutV (x :: xr) (some 1) none = xr := by
        unfold cutV
        rw [show (1 : Int) = ((1 : Nat) : Int) from rfl, HT.sIx_nat, HT.sIx_none, List.length_cons, Nat.min_eq_left (by omega)]
        show List.take (xr.length + 1 - 1) xr = xr
        rw [Nat.add_sub_cancel, List.take_length]
      rw [e]
      exact q _ _ (same_new np _) (.tup (SqT.of upd_same) (ht.mono (.of (same_new np _))))
/-- a made tuple, as a tree -/
theorem tupTr {K : Frag} {H : Hp} {xs : List V} {ds : List PyData} (h : TrAll K H xs ds) {p : Addr} (np : H p = none) : Tr K (upd H p (.tup xs)) (.ref p) (.tuple ds) := .tup (SqT.of upd_same) (h.mono (.of (same_new np _)))
end Cm
namespace Cm
open PySem PySem.W L2 SX
/-! ### maps: what stays lowest -/
/-- the thing c stays where it is and stands nowhere behind -/
def Stays (ps : List Int) (c : Nat) : Prop := ps[c]? = some (c : Int) ∧ (c : Int) ∉ ps.drop (c + 1)
/-- as many as c may be cut -/
def IsCut (ps : List Int) (c : Nat) : Prop := (∀ j, j < c → Stays ps j) ∧ ¬ Stays ps c
def cutM (c : Nat) (ps : List Int) : List Int := (ps.drop c).map fun p => p - (c : Int)
theorem IsCut.uniq {ps : List Int} {c d : Nat} (a : IsCut ps c) (b : IsCut ps d) : c = d := by
  rcases Nat.lt_trichotomy c d with h | h | h
  · exact absurd (b.1 c h) a.2
  · exact h
  · exact absurd (a.1 d h) b.2
theorem Stays.lt {ps : List Int} {c : Nat} (h : Stays ps c) : c < ps.length := by
  have := h.1
  exact (List.getElem?_eq_some_iff.mp this).1
theorem cutM_zero (ps : List Int) : cutM 0 ps = ps := by
  unfold cutM
  rw [List.drop_zero]
  have : (fun p : Int => p - ((0 : Nat) : Int)) = id := by funext p; show p - 0 = p; omega
  rw [this, List.map_id]
theorem cutM_length (c : Nat) (ps : List Int) : (cutM c ps).length ≤ ps.length := by
  unfold cutM
  rw [List.length_map, List.length_drop]; omega
theorem mem_cutM {c : Nat} {ps : List Int} {x : Int} : x ∈ cutM c ps ↔ x + c ∈ ps.drop c := by
  unfold cutM
  rw [List.mem_map]
  constructor
  · rintro ⟨y, hy, rfl⟩
    rw [show y - (c : Int) + (c : Int) = y by omega]; exact hy
  · intro h
    exact ⟨_, h, by omega⟩
theorem IsCut.least {ps : List Int} {c : Nat} (h : IsCut ps c) : IsCut (cutM c ps) 0 := by
  refine ⟨fun j hj => absurd hj (Nat.not_lt_zero j), fun s => h.2 ?_⟩
  obtain ⟨s1, s2⟩ := s
  have e1 : (cutM c ps)[0]? = (ps[c]?).map fun p => p - (c : Int) := by
    unfold cutM
    rw [List.getElem?_map, List.getElem?_drop, Nat.add_zero]
  rw [e1] at s1
  constructor
  · cases e : ps[c]? with
    | none => rw [e] at s1; cases s1
    | some p =>
      rw [e] at s1
      have s1' : p - (c : Int) = ((0 : Nat) : Int) := Option.some.inj s1
      congr 1
      omega
  · intro m
    refine s2 ?_
    have e2 : (cutM c ps).drop (0 + 1) = (ps.drop (c + 1)).map fun p => p - (c : Int) := by
      unfold cutM
      rw [← List.map_drop, List.drop_drop]
    rw [e2, List.mem_map]
    exact ⟨_, m, by omega⟩
/-- the numbers from 0 on -/
def nums (m : Nat) : List Int := (List.range m).map fun i => ((i : Nat) : Int)
theorem nums_length (m : Nat) : (nums m).length = m := by unfold nums; rw [List.length_map, List.length_range]
theorem nums_get {m i : Nat} (h : i < m) : (nums m)[i]? = some (i : Int) := by
  unfold nums
  rw [List.getElem?_map, List.getElem?_range h]; rfl
theorem mem_nums {m : Nat} {x : Int} : x ∈ nums m ↔ 0 ≤ x ∧ x < m := by
  unfold nums
  rw [List.mem_map]
  constructor
  · rintro ⟨i, hi, rfl⟩
    have := List.mem_range.mp hi
    omega
  · rintro ⟨h1, h2⟩
    exact ⟨x.toNat, List.mem_range.mpr (by omega), by omega⟩
theorem mem_drop_nums {m c : Nat} {x : Int} (h : x ∈ (nums m).drop c) : (c : Int) ≤ x := by
  obtain ⟨i, hi⟩ := List.mem_iff_getElem?.mp h
  rw [List.getElem?_drop] at hi
  have hl := (List.getElem?_eq_some_iff.mp hi).1
  rw [nums_length] at hl
  rw [nums_get hl] at hi
  have := Option.some.inj hi
  omega
def moreM (m : Nat) (ps : List Int) : List Int := nums m ++ ps.map fun p => p + (m : Int)
theorem stays_more {m c : Nat} {ps : List Int} : Stays (moreM m ps) (m + c) ↔ Stays ps c := by
  unfold Stays moreM
  have e1 : (nums m ++ ps.map fun p => p + (m : Int))[m + c]? = (ps[c]?).map fun p => p + (m : Int) := by
    rw [List.getElem?_append_right (by rw [nums_length]; omega), nums_length, Nat.add_sub_cancel_left, List.getElem?_map]
  have e2 : (nums m ++ ps.map fun p => p + (m : Int)).drop (m + c + 1) = (ps.drop (c + 1)).map fun p => p + (m : Int) := by
    rw [List.drop_append, nums_length, List.drop_of_length_le (by rw [nums_length]; omega), List.nil_append, List.map_drop]
    congr 1; omega
  rw [e1, e2]
  constructor
  · rintro ⟨h1, h2⟩
    constructor
    · cases e : ps[c]? with
      | none => rw [e] at h1; cases h1
      | some p =>
        rw [e] at h1
        have h1' : p + (m : Int) = ((m + c : Nat) : Int) := Option.some.inj h1
        congr 1; omega
    · intro z
      exact h2 (List.mem_map.mpr ⟨_, z, by omega⟩)
  · rintro ⟨h1, h2⟩
    constructor
    · rw [h1]
      show some ((c : Int) + (m : Int)) = _
      congr 1; omega
    · intro z
      obtain ⟨y, hy, e⟩ := List.mem_map.mp z
      exact h2 (by rw [show (c : Int) = y by omega]; exact hy)
theorem IsCut.more {m c : Nat} {ps : List Int} (h : IsCut ps c) (h0 : ∀ p ∈ ps, (0 : Int) ≤ p) : IsCut (moreM m ps) (m + c) := by
  refine ⟨fun j hj => ?_, fun s => h.2 (stays_more.mp s)⟩
  by_cases hm : j < m
  · constructor
    · unfold moreM
      rw [List.getElem?_append_left (by rw [nums_length]; exact hm), nums_get hm]
    · unfold moreM
      rw [List.drop_append]
      intro z
      rcases List.mem_append.mp z with z | z
      · have := mem_drop_nums z; omega
      · obtain ⟨y, hy, e⟩ := List.mem_map.mp (List.mem_of_mem_drop z)
        have := h0 y hy
        omega
  · have : j = m + (j - m) := by omega
    rw [this]
    exact stays_more.mpr (h.1 _ (by omega))
theorem cutM_more (m c : Nat) (ps : List Int) : cutM (m + c) (moreM m ps) = cutM c ps := by
  unfold cutM moreM
  rw [List.drop_append, nums_length, List.drop_of_length_le (by rw [nums_length]; omega), List.nil_append, ← List.map_drop, List.map_map, Nat.add_sub_cancel_left]
  congr 1
  funext p
  show p + (m : Int) - ((m + c : Nat) : Int) = p - (c : Int)
  omega
theorem count_stays {ps : List Int} {c : Nat} (h : ∀ j, j < c → Stays ps j) (hc : ps[c]? = some (c : Int)) : ps.count (c : Int) = 1 ↔ (c : Int) ∉ ps.drop (c + 1) := by
  have e : ps = ps.take c ++ ((c : Int) :: ps.drop (c + 1)) := by
    obtain ⟨h1, h2⟩ := List.getElem?_eq_some_iff.mp hc
    rw [← h2, List.getElem_cons_drop, List.take_append_drop]
  have e0 : (ps.take c).count (c : Int) = 0 := by
    rw [List.count_eq_zero]
    intro z
    obtain ⟨i, hi⟩ := List.mem_iff_getElem?.mp z
    rw [List.getElem?_take] at hi
    by_cases hl : i < c
    · rw [if_pos hl, (h i hl).1] at hi
      have := Option.some.inj hi
      omega
    · rw [if_neg hl] at hi; cases hi
  have : ps.count (c : Int) = (ps.drop (c + 1)).count (c : Int) + 1 := by
    conv => lhs; rw [e]
    rw [List.count_append, e0, List.count_cons_self]; omega
  rw [this]
  constructor
  · intro q
    exact List.count_eq_zero.mp (by omega)
  · intro q
    rw [List.count_eq_zero.mpr q]
theorem in_ints (c : Int) : ∀ ns : List Int, inV (.int c) (ns.map V.int) = decide (c ∈ ns)
  | [] => rfl
  | n :: r => by
    have ih : ((r.map V.int).any fun y => eqV y (.int c)) = decide (c ∈ r) := in_ints c r
    show ((n == c) || (r.map V.int).any fun y => eqV y (.int c)) = _
    rw [ih]
    by_cases h : n = c
    · subst h
      rw [beq_self_eq_true, Bool.true_or, decide_eq_true (List.mem_cons_self ..)]
    · rw [show (n == c) = false from beq_eq_false_iff_ne.mpr h, Bool.false_or]
      congr 1
      refine propext ⟨fun m => List.mem_cons_of_mem _ m, fun m => ?_⟩
      rcases List.mem_cons.mp m with z | z
      · exact absurd z.symm h
      · exact z
theorem flat_ints : ∀ ns : List Int, (ns.map V.int).all flatV = true
  | [] => rfl
  | n :: r => by
    show (true && (r.map V.int).all flatV) = true
    rw [flat_ints r]; rfl
/-- a map as data: a number and a tuple of numbers -/
def mapD (n : Int) (ps : List Int) : PyData := .tuple [.int n, .tuple (ps.map PyData.int)]
theorem mapD_lay (n : Int) (ps : List Int) : PyData.canLay0 (mapD n ps) = true := by
  show (PyData.canLay0 (PyData.int n) && (PyData.canLayAll0 (ps.map PyData.int) && true)) = true
  rw [lay_ints]; rfl
theorem mapD_shaped (n : Int) (ps : List Int) : SeqAt.shaped (mapD n ps) = true := by
  show (PyData.canLay0 (mapD n ps) && decide (PyData.depth (mapD n ps) ≤ 64)) = true
  rw [mapD_lay]
  have : PyData.depth (mapD n ps) = 2 := by
    show max 0 (max (PyData.depthAll (ps.map PyData.int) + 1) 0) + 1 = 2
    rw [deep_ints]; rfl
  rw [this]; rfl
/-- a map stands at p -/
def MapAt (K : Frag) (H : Hp) (p : Addr) (n : Int) (ps : List Int) : Prop := ∃ t, SqT K H p [.int n, .ref t] ∧ SqT K H t (ps.map V.int)
/-! ### rules -/
theorem Same.seqT {K : PySem.W.Frag} {H H' : Hp} {a : Addr} {xs : List V} (e : Same H H') (h : SqT K H a xs) : SqT K H' a xs := by
  rcases h with (h | ⟨o, h⟩) | h
  · exact .inl (.inl (e _ _ h))
  · exact .inl (.inr ⟨o, e _ _ h⟩)
  · exact .inr h
theorem MapAt.same {K : Frag} {H H' : Hp} {p : Addr} {n : Int} {ps : List Int} (h : MapAt K H p n ps) (s : Same H H') : MapAt K H' p n ps := by
  obtain ⟨t, h1, h2⟩ := h
  exact ⟨t, Same.seqT s h1, Same.seqT s h2⟩
theorem MapAt.dp {K : Frag} {H : Hp} {p : Addr} {n : Int} {ps : List Int} (h : MapAt K H p n ps) : Dp K H (.ref p) (mapD n ps) := by
  obtain ⟨t, h1, h2⟩ := h
  exact .tup h1 (.cons (.int _) (.cons (.tup h2 (dp_ints ps)) .nil))
section
variable {X : Cx}
def rCntT (K : PySem.W.Frag) : V → List V → Hp → VK → Prop := fun x xs H Q => ∃ (p : Addr) (ns : List Int) (k : Int), x = .ref p ∧ xs = [.int k] ∧ SqT K H p (ns.map V.int) ∧ Q (.int (ns.count k : Nat)) H
theorem mt_tcount : MtR X "tuple.count" (rCntT X.K) := by
  intro pins s σ H x xs v us Q I rx rxs h
  obtain ⟨p, ns, k, rfl, rfl, hs, q⟩ := h
  cases rx
  obtain ⟨u, rfl, ru⟩ := rxs.one
  obtain ⟨t, rfl⟩ := ru
  obtain ⟨its, rv, ⟨⟨cls, dd, data, sl⟩, ho, hc, n, hd⟩, hlen⟩ := I.tuple hs
  simp only at hc hd
  subst hc hd
  have hi := ints_of_vals rv
  refine call_meets PySem.F.slot_tuple_count ⟨_, ho, rfl⟩ PySem.F.entry_tuple_count (PySem.F.args_tuple_count_2 _ _)
    (SeqAt.tuple_countAt p its.toArray n dd sl (.int k t) (eqk k)) ⟨ho, fun y hy => (eqk_gives hi y (by simpa using hy)).at _ _, ?_⟩
  have ec : its.toArray.toList.countP (eqk k) = ns.count k := eqk_count hi
  refine ⟨.int (ns.count k : Nat), H, I.tok _, ⟨s.toks, ?_⟩, q⟩
  show Value.int ((its.toArray.toList.countP (eqk k) : Nat) : Int) s.toks = Value.int ((ns.count k : Nat) : Int) s.toks
  rw [ec]
end
/-! ### a tuple's method: the tuple is kept as the object that was made, which has no dict -/
/-- a tuple of xs stands at p, as an object without a dict -/
def TupO (H : Hp) (p : Addr) (xs : List V) : Prop := ∃ o : Obj, o.dict = none ∧ H p = some (.frz o (.tup xs))
theorem TupO.sq {K : Frag} {H : Hp} {p : Addr} {xs : List V} (h : TupO H p xs) : SqT K H p xs := by
  obtain ⟨o, _, h⟩ := h
  exact .inl (.inr ⟨o, h⟩)
theorem TupO.same {H H' : Hp} {p : Addr} {xs : List V} (h : TupO H p xs) (s : Same H H') : TupO H' p xs := by
  obtain ⟨o, d, h⟩ := h
  exact ⟨o, d, s _ _ h⟩
theorem TupO.kp {H H' : Hp} {d p : Addr} {xs ys : List V} (h : TupO H p xs) (hd : H d = some (.lst ys)) (s : Kp [d] H H') : TupO H' p xs := by
  obtain ⟨o, e, h⟩ := h
  exact ⟨o, e, s p _ (fun z => by rw [List.mem_singleton.mp z, hd] at h; cases h) h⟩
section
open PySem.Spec PyProof.Rows
variable {X : Cx}
theorem call_tuple_ofD : CallR X (.type "tuple") (fun xs H Q => ∃ p ys, xs = [.ref p] ∧ SqL X.K H p ys ∧ ∀ (l : Addr) (o : Obj), H l = none → o.dict = none → Q (.ref l) (upd H l (.frz o (.tup ys)))) := by
  intro pins s σ H xs us Q I r h
  obtain ⟨p, ys, rfl, hq, q⟩ := h
  obtain ⟨u, rfl, rx⟩ := r.one
  cases rx
  obtain ⟨its, r', pl, hz⟩ := I.list hq
  have hlen := r'.length
  refine call_tuple_list pl.isList (fun h' kp => ?_) (by simp only [List.size_toArray] <;> omega)
  have I1 : Inv X pins σ H { s with heap := h' } := I.kept (t' := s.toks) kp
  have I2 : Inv X pins σ (upd H h'.objs.size (.frz { cls := .type "tuple", data := .seq its.toArray } (.tup ys))) { s with heap := h'.push { cls := .type "tuple", data := .seq its.toArray } } :=
    I1.laid (t' := s.toks) (fun b o e => Heap.get?_push_of_some _ e) (Nat.le_refl _) (show ObjOk X.prog X.w _ _ _ (.frz { cls := .type "tuple", data := .seq its.toArray } (.tup ys)) from ⟨Heap.get?_push_size _ rfl, hz, its, r', IsTup.new _ _⟩)
  exact ⟨.ref h'.objs.size, _, I2, rfl, q _ _ (I1.hok.fresh (Nat.le_refl _)) rfl⟩
def tBMT (r : V → List V → Hp → VK → Prop) (to : TE) (t : TA) : TE := fun σ H Q => to σ H fun x H1 => (∃ p ys, x = .ref p ∧ TupO H1 p ys) ∧ t σ H1 fun xs H2 => r x xs H2 Q
variable {o e : Expr} {es : List Expr} {to : TE} {t : TA} {name : Str} {apos cpos : Pos} {id : String} {r : V → List V → Hp → VK → Prop}
theorem pe_bmT (slot : Slot "tuple" name id) (hty : typeOf (.builtin id) = pure (.type "method_descriptor")) (hm : MtR X id r) (ho : PE X o to) (ha : PA X (e :: es) t)
    (hbase : attributeBase o name X.env (eval o X.env) = eval o X.env := by rfl)
    (hfew : ((backTo cpos (starEach (e :: es) X.env)).all (fun x => !x.1) && (backToKw cpos (keywordEach [] X.env)).all (fun x => x.1.isSome)
      && decide ((e :: es).length + ([] : List Keyword).length + (if ([] : List Keyword).isEmpty then 0 else 1) < 30)) = true := by rfl)
    (hline : (apos.endLine == cpos.line) = true := by rfl) (hs : starEach (e :: es) X.env = (false, eval e X.env) :: starEach es X.env := by rfl) (hplain : (backTo cpos (starEach es X.env)).any (·.1) = false := by rfl) :
    PE X (.Call (.Attribute o name apos) (e :: es) [] cpos) (tBMT r to t) := by
  refine ⟨fun pins s σ H Q I h => ?_⟩
  refine wpAny_Call_method_late hbase hfew hline rfl (thn (ho.run pins s σ H _ I h) fun v s1 ⟨x, H1, I1, r1, ty, q1⟩ => ?_)
  obtain ⟨p, ys, ex, ob, hd, hp⟩ := ty
  subst ex
  obtain rfl : v = Value.ref p := r1
  obtain ⟨hg, ho2⟩ := I1.hok p _ hp
  obtain ⟨_, its, rv, ob', hg', hc, _⟩ := ho2
  have e1 : ob = ob' := Option.some.inj (hg.symm.trans hg')
  subst e1
  refine ⟨"tuple", id, PySem.F.plainAttrs_tuple, slot, hty, ⟨ob, hg, hc⟩, fun a e => ?_, ?_⟩
  · cases e
    exact ⟨ob, hg, hd⟩
  have hA := ha.run cpos pins s1 σ H1 _ I1 q1
  rw [hs] at hA ⊢
  refine Calls.callWith_builtin (by show (false || (backTo cpos (starEach es X.env)).any (·.1)) = false; rw [hplain] <;> rfl) (Calls.evalArgs_plain ?_)
  exact thn hA fun us s2 ⟨vs, H2, I2, r2, q2⟩ => hm pins s2 σ H2 (.ref p) vs (.ref p) us Q I2 rfl r2 q2
end
/-- a comprehension over a tuple, each element a plain value, none left out -/
theorem lc_mapT {K : Frag} {a : Addr} {xs : List V} (f : V → V) {g : TG} {te : TE} {vs : List Nat} {σ : St} {H1 : Hp} {D : Addr} {Qd : Hp → Prop} (ha : SqT K H1 a xs) (hD : H1 D = none) (hl : xs.length ≤ 1000000)
    (hs : ∀ x H (R : V → Hp → Prop), x ∈ xs → Same H1 H → R (f x) H → g x (wipe σ vs) H fun σ2 H2 => wipe σ2 vs = wipe σ vs ∧ te σ2 H2 R) (hd : Qd (upd H1 D (.lst (xs.map f)))) :
    ∃ W : Nat → Nat → Hp → Prop, (∃ m, W 0 m (upd H1 D (.lst []))) ∧ ∀ i m H, W i m H →
      ((Itt K a).stop i H ∧ Qd H) ∨ ((Itt K a).go i H ∧ ∃ Nx : Hp → Prop, (∀ H', Nx H' → ∃ m', m' < m ∧ W (i + 1) m' H') ∧ ∀ x H', (Itt K a).yld i H x H' → g x (wipe σ vs) H' fun σ2 H2 => wipe σ2 vs = wipe σ vs ∧ tYes σ2 H2 fun b H3 =>
        if b = true then te σ2 H3 fun y H4 => ∃ acc, H4 D = some (.lst acc) ∧ acc.length < sizeLine ∧ Nx (upd H4 D (.lst (acc ++ [y]))) else Nx H3) := by
  refine lc_tup (K := K) (a := a) (xs := xs) (fun i H => H = upd H1 D (.lst ((xs.take i).map f))) rfl (fun i H _ e => ?_) ?_ ?_
  · rw [e]; exact Same.seqT (same_new hD _) ha
  · rintro i x H hx rfl
    refine hs x _ (fun y H4 => ∃ acc, H4 D = some (.lst acc) ∧ acc.length < sizeLine ∧ upd H4 D (.lst (acc ++ [y])) = upd H1 D (.lst ((xs.take (i + 1)).map f))) (List.mem_of_getElem? hx) (same_new hD _) ⟨_, upd_same, ?_, ?_⟩
    · rw [List.length_map, List.length_take]; rw [sizeLine_eq]; omega
    · rw [upd_upd, List.take_add_one, hx, List.map_append]; rfl
  · rintro H rfl
    rw [List.take_length]
    exact hd
/-- and over a list -/
theorem lc_mapL {K : Frag} {a : Addr} {xs : List V} (f : V → V) {g : TG} {te : TE} {vs : List Nat} {σ : St} {H1 : Hp} {D : Addr} {Qd : Hp → Prop} (ha : SqL K H1 a xs) (hD : H1 D = none) (hl : xs.length ≤ 1000000)
    (hs : ∀ x H (R : V → Hp → Prop), x ∈ xs → Same H1 H → R (f x) H → g x (wipe σ vs) H fun σ2 H2 => wipe σ2 vs = wipe σ vs ∧ te σ2 H2 R) (hd : Qd (upd H1 D (.lst (xs.map f)))) :
    ∃ W : Nat → Nat → Hp → Prop, (∃ m, W 0 m (upd H1 D (.lst []))) ∧ ∀ i m H, W i m H →
      ((Itl K a).stop i H ∧ Qd H) ∨ ((Itl K a).go i H ∧ ∃ Nx : Hp → Prop, (∀ H', Nx H' → ∃ m', m' < m ∧ W (i + 1) m' H') ∧ ∀ x H', (Itl K a).yld i H x H' → g x (wipe σ vs) H' fun σ2 H2 => wipe σ2 vs = wipe σ vs ∧ tYes σ2 H2 fun b H3 =>
        if b = true then te σ2 H3 fun y H4 => ∃ acc, H4 D = some (.lst acc) ∧ acc.length < sizeLine ∧ Nx (upd H4 D (.lst (acc ++ [y]))) else Nx H3) := by
  refine lc_list (K := K) (a := a) (xs := xs) (fun i H => H = upd H1 D (.lst ((xs.take i).map f))) rfl (fun i H _ e => ?_) ?_ ?_
  · rw [e]; exact Same.seq (same_new hD _) ha
  · rintro i x H hx rfl
    refine hs x _ (fun y H4 => ∃ acc, H4 D = some (.lst acc) ∧ acc.length < sizeLine ∧ upd H4 D (.lst (acc ++ [y])) = upd H1 D (.lst ((xs.take (i + 1)).map f))) (List.mem_of_getElem? hx) (same_new hD _) ⟨_, upd_same, ?_, ?_⟩
    · rw [List.length_map, List.length_take]; rw [sizeLine_eq]; omega
    · rw [upd_upd, List.take_add_one, hx, List.map_append]; rfl
  · rintro H rfl
    rw [List.take_length]
    exact hd
theorem cut_from {α : Type} (f : α → V) (xs : List α) (i : Nat) : cutV (xs.map f) (some (i : Int)) none = (xs.drop i).map f := by
  unfold cutV
  rw [HT.sIx_nat, HT.sIx_none, List.length_map, ← List.map_drop, ← List.map_take]
  congr 1
  by_cases h : i ≤ xs.length
  · rw [Nat.min_eq_left h, List.take_of_length_le (by rw [List.length_drop]; omega)]
  · rw [Nat.min_eq_right (by omega), List.drop_of_length_le (Nat.le_refl _), List.drop_of_length_le (by omega), List.take_nil]
theorem cut_upto {α : Type} (f : α → V) (xs : List α) (i : Nat) : cutV (xs.map f) none (some (i : Int)) = (xs.take i).map f := by
  unfold cutV
  rw [HT.sIx_nat, HT.sIx_none, List.length_map, ← List.map_drop, ← List.map_take, List.drop_zero, Nat.sub_zero]
  congr 1
  by_cases h : i ≤ xs.length
  · rw [Nat.min_eq_left h]
  · rw [Nat.min_eq_right (by omega), List.take_of_length_le (Nat.le_refl _), List.take_of_length_le (by omega)]
/-- a tuple's slice t[i:], as what it holds -/
theorem slT_from {K : Frag} {H : Hp} {a : Addr} {α : Type} {f : α → V} {xs : List α} {i : Nat} {Q : VK} (ha : SqT K H a (xs.map f)) (q : ∀ p H', Same H H' → SqT K H' p ((xs.drop i).map f) → Q (.ref p) H') : rSlA K (.ref a) (some (i : Int)) none H Q := by
  refine ⟨a, _, rfl, ha, fun c => ?_, fun _ p np => ?_⟩
  · have c1 := c.1
    rw [HT.sIx_nat, List.length_map] at c1
    have : xs.drop i = xs := by
      rcases Nat.eq_zero_or_pos i with h | h
      · rw [h, List.drop_zero]
      · have : xs.length = 0 := by omega
        rw [List.length_eq_zero_iff.mp this, List.drop_nil]
    refine q a H (Same.refl H) ?_
    rw [this]; exact ha
  · rw [cut_from]
    exact q p _ (same_new np _) (SqT.of upd_same)
theorem slT_fromP {K : Frag} {H : Hp} {a : Addr} {α : Type} {f : α → V} {xs : List α} {i : Nat} {Q : VK} {σ : St} (ha : SqT K H a (xs.map f)) (q : ∀ p H', Same H H' → SqT K H' p ((xs.drop i).map f) → Q (.ref p) H') : tNoPart σ H fun u H3 => rSlA K (.ref a) (some (i : Int)) u H3 Q := slT_from ha q
theorem slT_upto {K : Frag} {H : Hp} {a : Addr} {α : Type} {f : α → V} {xs : List α} {i : Nat} {Q : VK} (ha : SqT K H a (xs.map f)) (q : ∀ p H', Same H H' → SqT K H' p ((xs.take i).map f) → Q (.ref p) H') : rSlA K (.ref a) none (some (i : Int)) H Q := by
  refine ⟨a, _, rfl, ha, fun c => ?_, fun _ p np => ?_⟩
  · have c1 := c.2
    rw [HT.sIx_nat, List.length_map] at c1
    refine q a H (Same.refl H) ?_
    rw [List.take_of_length_le (by omega)]; exact ha
  · rw [cut_upto]
    exact q p _ (same_new np _) (SqT.of upd_same)
/-- two tuples' sum, by what they hold -/
theorem catT_map {K : Frag} {H : Hp} {a b : Addr} {xs ys : List V} {Q : VK} (ha : SqT K H a xs) (hb : SqT K H b ys) (hl : xs.length + ys.length ≤ 1000000)
    (q : ∀ p H', Same H H' → SqT K H' p (xs ++ ys) → Q (.ref p) H') : rCatA K (.ref a) (.ref b) H Q := by
  refine ⟨a, b, xs, ys, rfl, rfl, ha, hb, by rw [sizeLine_eq]; omega, fun e => ?_, fun _ e => ?_, fun _ _ p np => ?_⟩
  · subst e; exact q b H (Same.refl H) hb
  · subst e; exact q a H (Same.refl H) (by rw [List.append_nil]; exact ha)
  · exact q p _ (same_new np _) (SqT.of upd_same)
end Cm
namespace Cm
open PySem PySem.W L2 SX
/-! ### xs[a:] = ys, another list -/
section
open PySem.Spec PyProof.Rows
variable {prog : Program} {w : World} {A : Around} {E : Value → Shared → Prop} {s : Shared}
theorem bounds_tail {a n : Nat} (h : a ≤ n) : sliceBounds (some (a : Int)) none none n = ((a : Int), (n : Int), 1) := by
  have h1 : ¬ ((a : Int) < 0) := by omega
  simp only [sliceBounds, Option.getD_none, h1, if_false, show (1 : Int) > 0 by decide, if_true]
  congr 1; omega
theorem setItem_tail {l b sl : Addr} {items new : Array Value} {n n2 a : Nat} {vl vu : Value} {Q : Unit → Shared → Prop} (e : s.heap.get? l = some { cls := .type "list", data := .seq items n }) (e2 : s.heap.get? b = some { cls := .type "list", data := .seq new n2 })
    (hne : l ≠ b) (hs : s.heap.IsSliceOf sl vl vu .none) (pl : IsPart vl (some (a : Int))) (pu : IsPart vu none) (ha : a ≤ items.size) (hsz : items.size + new.size ≤ sizeLine)
    (h : Q () { s with heap := s.heap.update l (Obj.mapSeq fun xs => xs.extract 0 a ++ new ++ xs.extract items.size xs.size) }) : wpAny (model prog w) A (setItem (.ref l) (.ref sl) (.ref b)) Q E s := by
  have tl : s.TypeIs (.ref l) "list" := (PySem.IsL.isList e).typeIs
  have tb : s.TypeIs (.ref b) "list" := (PySem.IsL.isList e2).typeIs
  obtain ⟨os, hos, hcs, hds⟩ := id hs
  have ts : s.TypeIs (.ref sl) "slice" := ⟨os, hos, hcs⟩
  have st0 : ¬ ((rawPart none == rawInt 0) = true) := Bool.false_ne_true
  have sr : Builtin.List.listSameRef (.ref l) (.ref b) = false := by
    unfold Builtin.List.listSameRef; exact beq_eq_false_iff_ne.mpr hne
  have mx : (max (a : Int) (items.size : Int)).toNat = items.size := by omega
  have long' : ((fun xs : Array Value => xs.extract 0 a ++ new ++ xs.extract items.size xs.size) items).size ≤ sizeLine + 1 := by
    simp only [Array.size_append, Array.size_extract]; omega
  unfold setItem
  (try with_reducible refine wpAny_holding ?_); (first | refine wpAny_bind (wpAny_pure ?_) | skip)
  refine wpAny_bind (wpAny_sequenceKey tl (by decide) (wpAny_bind (wpAny_callSpecial?_slot (name := Str.ofString "__setitem__") tl slot_list_setitem (wpAny_call_entry slot_list_setitem tl entry_list_setitem ?_ (args_list_setitem _ _ _)))))
  show wpAny _ _ (Builtin.List.listSubscript? (.ref sl) >>= _) _ _ s
  refine wpAny_bind ?_; unfold Builtin.List.listSubscript?
  refine wpAny_bind (wpAny_specialOf ts slice_no_index ?_)
  simp only [Option.isNone_none, if_true]
  refine wpAny_pure ?_
  show wpAny _ _ (typeOf (.ref sl) >>= _) _ _ s
  refine wpAny_bind (wpAny_typeOf ts ?_)
  first | rw [if_neg (by decide)] | refine PySem.W.KFB.if_not (by decide) ?_
  rw [listSliceParts_eq]
  refine wpAny_bind (wpAny_bind (wpAny_field hos hds (x := .none) rfl (wpAny_bind (wpAny_listPart .none ?_)))); rw [if_neg st0]
  refine wpAny_bind (wpAny_field hos hds (x := vl) rfl (wpAny_bind (wpAny_listPart pl (wpAny_bind (wpAny_field hos hds (x := vu) rfl (wpAny_bind (wpAny_listPart pu (wpAny_pure ?_))))))))
  first | simp only [sr, Bool.false_eq_true, if_false] | refine PySem.W.KFB.if_not sr ?_ | (dsimp only; rw [if_neg (by rw [sr]; exact Bool.false_ne_true)])
  refine wpAny_bind (m := Builtin.List.listAllItems (.ref b) "must assign iterable to extended slice") ?_; unfold Builtin.List.listAllItems
  refine wpAny_bind (wpAny_typeOf tb ?_)
  first | refine PySem.W.KFB.if_so (by decide) ?_ | rw [if_pos (by decide)] | simp only [beq_self_eq_true, Bool.true_or, if_true]
  unfold Builtin.List.listItems
  refine wpAny_bind (wpAny_seqItems e2 rfl (wpAny_pure (wpAny_bind (wpAny_bind (wpAny_seqItems e rfl (wpAny_pure ?_))))))
  refine wpAny_bind (wpAny_of_eq ((sliceIndices_raw (some (a : Int)) none none items.size (by simp)).trans (congrArg (pure : Int × Int × Int → Sem (Int × Int × Int)) (bounds_tail ha))) ?_)
  show wpAny _ _ (if ((1 : Int) == 1) = true then _ else _) _ _ s
  rw [if_pos (by decide)]; refine wpAny_bind (wpAny_rule ?_)
  first | simp only [notLongL hsz, Bool.false_eq_true, if_false] | refine PySem.W.KFB.if_not (notLongL hsz) ?_
  (first | refine wpAny_bind (wpAny_pure ?_) | skip)
  show wpAny _ _ (updateSeq l (fun xs => xs.extract 0 ((a : Int)).toNat ++ new ++ xs.extract (max (a : Int) (items.size : Int)).toNat xs.size) >>= _) _ _ s
  rw [mx, Int.toNat_natCast]
  refine wpAny_bind (wpAny_updateSeq (hz := Nat.le_trans (Nat.le_add_right _ _) hsz) (_hz' := long') e rfl (wpAny_bind (wpAny_letGo ?_)))
  first | exact wpAny_bind (wpAny_pure (wpAny_pure ⟨.none, rfl, wpAny_pure h⟩)) | exact wpAny_pure ⟨.none, rfl, wpAny_pure h⟩
variable {X : Cx}
/-- o[lo:] = v -/
def gTail (to tl : TE) : TG := fun v σ H Q => to σ H fun x H1 => tl σ H1 fun y H2 => ∃ (l b : Addr) (a : Int) (xs ys : List V), x = .ref l ∧ v = .ref b ∧ y = .int a ∧ H2 l = some (.lst xs) ∧ H2 b = some (.lst ys) ∧ l ≠ b ∧ 0 ≤ a ∧ a ≤ xs.length ∧ xs.length + ys.length ≤ sizeLine ∧ Q σ (upd H2 l (.lst (xs.take a.toNat ++ ys)))
theorem pg_tail {o lo : Expr} {to tl : TE} {p2 pos : Pos} (ho : PE X o to) (hi : PE X lo tl) : PG X (.Subscript o (.Slice (some lo) none none p2) pos) (gTail to tl) := by
  refine ⟨fun pins s σ H v u Q I r h => ?_⟩
  rw [arm_assign_Subscript]
  refine wpAny_bind (wpAny_holding (thn (ho.run pins s σ H _ I h) fun ov s1 ⟨x, H1, I1, r1, q1⟩ => wpAny_bind (wpAny_holding ?_)))
  refine wpAny_Slice ?_
  rw [evalPart_some]
  refine thn (hi.run pins s1 σ H1 _ I1 q1) fun vl s2 ⟨y, H2, I2, r2, q2⟩ => ?_
  rw [evalPart_none]
  refine wpAny_pure (wpAny_pure ?_)
  obtain ⟨l, b, a, xs, ys, rfl, rfl, rfl, hl, hb, ne, a0, a1, hz, q⟩ := q2
  cases r1
  obtain rfl : u = Value.ref b := r
  obtain ⟨t, rfl⟩ := r2
  have I3 : Inv X pins σ H2 { s2 with heap := s2.heap.push { cls := .type "slice", data := .fields #[.int a t, .none, .none] } } := I2.kept (t' := s2.toks) fun b ob q => Heap.get?_push_of_some _ q
  refine wpAny_bind (wpAny_standAt (wpAny_bind (wpAny_holding ?_)))
  obtain ⟨z, its, n, rv, hln, e⟩ := I3.lstM hl
  obtain ⟨z2, its2, n2, rv2, hln2, e2⟩ := I3.lstM hb
  obtain ⟨a', rfl⟩ := Int.eq_ofNat_of_zero_le a0
  refine setItem_tail (a := a') e e2 ne (Heap.IsSliceOf.new ..) (.int _ _) .none (by rw [List.size_toArray]; omega) (by rw [List.size_toArray, List.size_toArray]; omega) (wpAny_release ⟨σ, _, ?_, q⟩)
  refine I3.lset (its' := its.take a' ++ its2) (t' := s2.toks) hl e ?_ (Vals.append (rv.take _) rv2) ?_
  · have := splice_eq its its2 a' its.length
    rw [List.drop_of_length_le (Nat.le_refl _), List.append_nil] at this
    rw [← this, List.size_toArray]
  · rw [List.length_append, List.length_take]; omega
end
end Cm
namespace Cm
open PySem PySem.W L2 SX
/-! ### shuffles by their signs -/
/-- the first n letters -/
def abc (n : Nat) : List Nat := abc8.take n
theorem abc_len {n : Nat} (h : n ≤ 8) : (abc n).length = n := by
  unfold abc; rw [List.length_take]; show min n 8 = n; omega
theorem lit_abc : ("abcdefgh" : Str) = S abc8 := by decide +kernel
/-- a shuffle's signs: n letters taken, l left -/
def shuf (n : Nat) (l : List Nat) : List Nat := abc n ++ (45 :: l)
structure Shuf (n : Nat) (l : List Nat) : Prop where
  n8 : n ≤ 8
  l12 : l.length ≤ 12
  inn : ∀ c ∈ l, c ∈ abc n
theorem abc_sub {n : Nat} {c : Nat} (h : c ∈ abc n) : c ∈ abc8 := List.mem_of_mem_take h
theorem no45 {c : Nat} (h : c ∈ abc8) : c ≠ 45 := by
  intro e; subst e; revert h; decide
theorem shuf_par {n : Nat} {l : List Nat} (h : Shuf n l) : TL.par [45] [] (shuf n l) = some (abc n, l) :=
  par_head (c := 45) (sep := []) (p := abc n) l (fun z => no45 (abc_sub z) rfl)
theorem shuf_spl {n : Nat} {l : List Nat} (h : Shuf n l) : TL.spl [45] 0 [] (shuf n l) = [abc n, l] := by
  have e := spl_free (sep := [45]) (p := abc n) l (List.cons_ne_nil _ _) (free_head (fun z => no45 (abc_sub z) rfl))
  have e2 := spl_join (c := 45) (sep := []) (parts := [l]) (List.cons_ne_nil _ _) (fun p hp => by
    rw [List.mem_singleton.mp hp]; exact fun z => no45 (abc_sub (h.inn _ z)) rfl)
  have e3 : TL.joinL [45] [l] = l := rfl
  rw [e3] at e2
  exact e.trans (by rw [e2])
theorem shuf_len {n : Nat} {l : List Nat} (h : Shuf n l) : (shuf n l).length ≤ 21 := by
  unfold shuf; rw [List.length_append, abc_len h.n8, List.length_cons]; have := h.n8; have := h.l12; omega
theorem shuf_ok {n : Nat} {l : List Nat} (h : Shuf n l) : shufB (shuf n l) = true := by
  unfold shufB
  rw [shuf_par h]
  show (decide (abc8.take (abc n).length = abc n) && (decide (l.length ≤ 12) && (l.map fun c => decide (c ∈ abc n)).all id)) = true
  rw [abc_len h.n8, decide_eq_true (show abc8.take n = abc n from rfl), decide_eq_true h.l12, Bool.true_and, Bool.true_and, List.all_eq_true]
  intro b hb
  obtain ⟨c, hc, rfl⟩ := List.mem_map.mp hb
  exact decide_eq_true (h.inn c hc)
theorem index_abc : ∀ c ∈ abc8, Txt.index0 (S abc8) (S [c]) = some (c - 97) := by decide +kernel
theorem abc_at : ∀ n ≤ 8, ∀ c ∈ abc n, c - 97 < n := by decide +kernel
/-! ### a row of shuffles as a map -/
/-- a word: how many letters are taken, and the signs that are left -/
abbrev Wd := Nat × List Nat
def wV (x : Wd) : V := .str (S (shuf x.1 x.2))
def pk (x : Wd) : List Nat := x.2.map fun c => c - 97
def Good (ws : List Wd) : Prop := ∀ x ∈ ws, Shuf x.1 x.2
theorem pk_lt {x : Wd} (h : Shuf x.1 x.2) {p : Nat} (hp : p ∈ pk x) : p < x.1 := by
  obtain ⟨c, hc, rfl⟩ := List.mem_map.mp hp
  exact abc_at x.1 h.n8 c (h.inn c hc)
theorem pk_len {x : Wd} (h : Shuf x.1 x.2) : (pk x).length ≤ 12 := by unfold pk; rw [List.length_map]; exact h.l12
theorem getD_at {l : List Int} {i : Nat} (h : i < l.length) : l.getD i 0 = l[i] := by
  rw [List.getD_eq_getElem?_getD, List.getElem?_eq_getElem h]; rfl
/-- k things more from beneath -/
def up (need : Nat) : Nat → List Int → List Int
  | 0, ts => ts
  | k + 1, ts => ((need + k : Nat) : Int) :: up need k ts
theorem up_len (need : Nat) : ∀ (k : Nat) (ts : List Int), (up need k ts).length = ts.length + k
  | 0, ts => rfl
  | k + 1, ts => by
    show (up need k ts).length + 1 = _
    rw [up_len need k ts]; omega
theorem up_add (need : Nat) : ∀ (j k : Nat) (ts : List Int), up (need + k) j (up need k ts) = up need (k + j) ts
  | 0, k, ts => rfl
  | j + 1, k, ts => by
    show ((need + k + j : Nat) : Int) :: up (need + k) j (up need k ts) = ((need + (k + j) : Nat) : Int) :: up need (k + j) ts
    rw [up_add need j k ts, Nat.add_assoc]
theorem up_mem {need : Nat} : ∀ {k : Nat} {ts : List Int}, (∀ t ∈ ts, 0 ≤ t ∧ t < need) → ∀ t ∈ up need k ts, 0 ≤ t ∧ t < ((need + k : Nat) : Int)
  | 0, ts, h, t, ht => h t ht
  | k + 1, ts, h, t, ht => by
    rcases List.mem_cons.mp ht with z | z
    · omega
    · have := up_mem h t z; omega
theorem up_take (need m : Nat) : ∀ (k : Nat) (ts : List Int), (up need k ts).take (m + k) = up need k (ts.take m)
  | 0, ts => rfl
  | k + 1, ts => by
    show List.take (m + k + 1) (((need + k : Nat) : Int) :: up need k ts) = ((need + k : Nat) : Int) :: up need k (ts.take m)
    rw [List.take_succ_cons, up_take need m k ts]
theorem up_drop (need m : Nat) : ∀ (k : Nat) (ts : List Int), (up need k ts).drop (m + k) = ts.drop m
  | 0, ts => rfl
  | k + 1, ts => by
    show List.drop (m + k + 1) (((need + k : Nat) : Int) :: up need k ts) = _
    rw [List.drop_succ_cons, up_drop need m k ts]
theorem up_append (need : Nat) : ∀ (k : Nat) (ts us : List Int), up need k (ts ++ us) = up need k ts ++ us
  | 0, ts, us => rfl
  | k + 1, ts, us => by
    show ((need + k : Nat) : Int) :: up need k (ts ++ us) = (((need + k : Nat) : Int) :: up need k ts) ++ us
    rw [up_append need k ts us]; rfl
/-- what a word leaves: taken from the last n -/
def left (n : Nat) (ps : List Nat) (us : List Int) : List Int := us.take (us.length - n) ++ ps.map fun p => (us.drop (us.length - n)).getD p 0
def wstep (st : Nat × List Int) (x : Wd) : Nat × List Int := (st.1 + (x.1 - st.2.length), left x.1 (pk x) (up st.1 (x.1 - st.2.length) st.2))
def wrun (st : Nat × List Int) (ws : List Wd) : Nat × List Int := ws.foldl wstep st
def wmap (ws : List Wd) : Nat × List Int := ((wrun (0, []) ws).1, (wrun (0, []) ws).2.map fun t => ((wrun (0, []) ws).1 : Int) - 1 - t)
theorem left_len (n : Nat) (ps : List Nat) (us : List Int) : (left n ps us).length = us.length - n + ps.length := by
  unfold left
  rw [List.length_append, List.length_map, List.length_take]; omega
theorem left_mem {n : Nat} {ps : List Nat} {us : List Int} (hn : n ≤ us.length) (hp : ∀ p ∈ ps, p < n) {t : Int} (h : t ∈ left n ps us) : t ∈ us := by
  unfold left at h
  rcases List.mem_append.mp h with z | z
  · exact List.mem_of_mem_take z
  · obtain ⟨p, hp', rfl⟩ := List.mem_map.mp z
    have hl : p < (us.drop (us.length - n)).length := by rw [List.length_drop]; have := hp p hp'; omega
    rw [getD_at hl]
    exact List.mem_of_mem_drop (List.getElem_mem hl)
/-- a state: as many as need, each thing one of these -/
structure Stt (st : Nat × List Int) (m : Nat) : Prop where
  need : st.1 ≤ 8 * m
  len : st.2.length ≤ 12 * m
  inn : ∀ t ∈ st.2, 0 ≤ t ∧ t < st.1
theorem Stt.step {st : Nat × List Int} {m : Nat} (h : Stt st m) {x : Wd} (hx : Shuf x.1 x.2) : Stt (wstep st x) (m + 1) := by
  have n8 := hx.n8
  have l12 := pk_len hx
  have hl := up_len st.1 (x.1 - st.2.length) st.2
  refine ⟨?_, ?_, ?_⟩
  · show st.1 + (x.1 - st.2.length) ≤ _
    have := h.need; omega
  · show (left x.1 (pk x) _).length ≤ _
    rw [left_len, hl]; have := h.len; omega
  · intro t ht
    exact up_mem h.inn t (left_mem (by rw [hl]; omega) (fun p hp => pk_lt hx hp) ht)
theorem Stt.run : ∀ {ws : List Wd} {st : Nat × List Int} {m : Nat}, Stt st m → Good ws → Stt (wrun st ws) (m + ws.length)
  | [], st, m, h, _ => h
  | x :: r, st, m, h, g => by
    have := Stt.run (h.step (g x (List.mem_cons_self ..))) (fun y hy => g y (List.mem_cons_of_mem _ hy))
    rw [show m + (x :: r).length = m + 1 + r.length by rw [List.length_cons]; omega]
    exact this
theorem stt0 : Stt (0, []) 0 := ⟨Nat.le_refl _, Nat.le_refl _, fun t h => nomatch h⟩
theorem wmap_ok {ws : List Wd} (g : Good ws) : (wmap ws).1 ≤ 8 * ws.length ∧ (wmap ws).2.length ≤ 12 * ws.length ∧ ∀ p ∈ (wmap ws).2, 0 ≤ p ∧ p < (wmap ws).1 := by
  have h := stt0.run g
  rw [Nat.zero_add] at h
  refine ⟨h.need, ?_, ?_⟩
  · show ((wrun (0, []) ws).2.map _).length ≤ _
    rw [List.length_map]; exact h.len
  · intro p hp
    obtain ⟨t, ht, rfl⟩ := List.mem_map.mp hp
    have := h.inn t ht
    show 0 ≤ ((wrun (0, []) ws).1 : Int) - 1 - t ∧ ((wrun (0, []) ws).1 : Int) - 1 - t < ((wrun (0, []) ws).1 : Int)
    omega
theorem wrun_need (ws : List Wd) : ∀ st : Nat × List Int, st.1 ≤ (wrun st ws).1 := by
  induction ws with
  | nil => intro st; exact Nat.le_refl _
  | cons x r ih =>
    intro st
    refine Nat.le_trans ?_ (ih (wstep st x))
    show st.1 ≤ st.1 + _
    omega
theorem wrun_append (st : Nat × List Int) (a b : List Wd) : wrun st (a ++ b) = wrun (wrun st a) b := List.foldl_append ..
/-- a state with things put beneath goes on with things beneath -/
theorem wstep_up (need k : Nat) (ts : List Int) {x : Wd} (hx : Shuf x.1 x.2) : ∃ j, wstep (need + k, up need k ts) x = ((wstep (need, ts) x).1 + j, up (wstep (need, ts) x).1 j (wstep (need, ts) x).2) := by
  have lu := up_len need k ts
  refine ⟨(k + (x.1 - (ts.length + k))) - (x.1 - ts.length), ?_⟩
  generalize ej : (k + (x.1 - (ts.length + k))) - (x.1 - ts.length) = j
  have e1 : k + (x.1 - (ts.length + k)) = (x.1 - ts.length) + j := by omega
  unfold wstep
  show (need + k + (x.1 - (up need k ts).length), left x.1 (pk x) (up (need + k) (x.1 - (up need k ts).length) (up need k ts))) = (need + (x.1 - ts.length) + j, up (need + (x.1 - ts.length)) j (left x.1 (pk x) (up need (x.1 - ts.length) ts)))
  rw [lu, up_add, e1, ← up_add]
  generalize eu : up need (x.1 - ts.length) ts = us
  have lus : us.length = ts.length + (x.1 - ts.length) := by rw [← eu, up_len]
  congr 1
  · omega
  · unfold left
    rw [up_len, show us.length + j - x.1 = us.length - x.1 + j by omega, up_take, up_drop, up_append]
theorem wrun_up : ∀ {ws : List Wd} (need k : Nat) (ts : List Int), Good ws → ∃ j, wrun (need + k, up need k ts) ws = ((wrun (need, ts) ws).1 + j, up (wrun (need, ts) ws).1 j (wrun (need, ts) ws).2)
  | [], need, k, ts, _ => ⟨k, rfl⟩
  | x :: r, need, k, ts, g => by
    obtain ⟨j, e⟩ := wstep_up need k ts (g x (List.mem_cons_self ..))
    obtain ⟨i, e2⟩ := wrun_up (ws := r) (wstep (need, ts) x).1 j (wstep (need, ts) x).2 (fun y hy => g y (List.mem_cons_of_mem _ hy))
    refine ⟨i, ?_⟩
    show wrun (wstep (need + k, up need k ts) x) r = _
    rw [e, e2]; rfl
theorem up_moreM (N : Nat) : ∀ (j : Nat) (T : List Int), (up N j T).map (fun t => ((N + j : Nat) : Int) - 1 - t) = moreM j (T.map fun t => (N : Int) - 1 - t) := by
  intro j T
  have h1 : ∀ (i : Nat) (T : List Int), (up N i T) = (up N i []) ++ T := fun i T => by
    have := up_append N i [] T
    rw [List.nil_append] at this; exact this
  rw [h1, List.map_append]
  unfold moreM
  congr 1
  · have : ∀ i, i ≤ j → (up N i []).map (fun t => ((N + j : Nat) : Int) - 1 - t) = (nums j).drop (j - i) := by
      intro i
      induction i with
      | zero =>
        intro _
        rw [Nat.sub_zero, List.drop_of_length_le (by rw [nums_length]; exact Nat.le_refl _)]; rfl
      | succ i ih =>
        intro hi
        show (((N + j : Nat) : Int) - 1 - ((N + i : Nat) : Int)) :: (up N i []).map _ = _
        rw [ih (by omega)]
        have hl : j - (i + 1) < (nums j).length := by rw [nums_length]; omega
        rw [List.drop_eq_getElem_cons hl]
        congr 1
        · have := nums_get (m := j) (i := j - (i + 1)) (by omega)
          rw [List.getElem?_eq_getElem hl] at this
          rw [Option.some.inj this]; omega
        · congr 1; omega
    have h := this j (Nat.le_refl _)
    rw [Nat.sub_self, List.drop_zero] at h
    exact h
  · rw [List.map_map]
    congr 1
    funext t
    show ((N + j : Nat) : Int) - 1 - t = (N : Int) - 1 - t + (j : Int)
    omega
/-- a shuffle that leaves things as they lie -/
def Still (x : Wd) : Prop := pk x = List.range x.1
theorem wstep_still (st : Nat × List Int) {x : Wd} (h : Still x) : wstep st x = (st.1 + (x.1 - st.2.length), up st.1 (x.1 - st.2.length) st.2) := by
  unfold wstep
  congr 1
  have hl := up_len st.1 (x.1 - st.2.length) st.2
  generalize up st.1 (x.1 - st.2.length) st.2 = us at hl
  unfold left
  rw [h]
  have e : (List.range x.1).map (fun p => (us.drop (us.length - x.1)).getD p 0) = us.drop (us.length - x.1) := by
    apply List.ext_getElem
    · rw [List.length_map, List.length_range, List.length_drop]; omega
    · intro i h1 h2
      rw [List.getElem_map, List.getElem_range, getD_at h2]
  rw [e, List.take_append_drop]
/-- a word that does nothing, put in: the map with things beneath -/
theorem wmap_still {a b : List Wd} {x : Wd} (h : Still x) (gb : Good b) : ∃ j, wmap (a ++ x :: b) = ((wmap (a ++ b)).1 + j, moreM j (wmap (a ++ b)).2) := by
  have e1 : wrun (0, []) (a ++ x :: b) = wrun (wstep (wrun (0, []) a) x) b := by
    rw [wrun_append]; rfl
  have e2 : wrun (0, []) (a ++ b) = wrun (wrun (0, []) a) b := wrun_append ..
  rw [wstep_still _ h] at e1
  obtain ⟨j, ej⟩ := wrun_up (ws := b) (wrun (0, []) a).1 (x.1 - (wrun (0, []) a).2.length) (wrun (0, []) a).2 gb
  rw [ej] at e1
  refine ⟨j, ?_⟩
  unfold wmap
  rw [e1, e2]
  show (_, List.map _ (up _ j _)) = _
  rw [up_moreM]
theorem wmap_need (a b : List Wd) : (wmap a).1 ≤ (wmap (a ++ b)).1 := by
  show (wrun (0, []) a).1 ≤ (wrun (0, []) (a ++ b)).1
  rw [wrun_append]
  exact wrun_need b _
end Cm
namespace Cm
open PySem PySem.W L2 SX
section
open PySem.Spec PyProof.Rows
theorem mul_one (l : Addr) (items : Array Value) (n : Nat) (dd : Option Addr) (sl : Array (Option Value)) (u : Tok) :
    Meets (Builtin.«tuple.__mul__» ⟨[.ref l, .int 1 u], []⟩) (fun _ R s => s.heap.get? l = some { cls := .type "tuple", dict := dd, data := .seq items n, slots := sl } ∧ R (.ok (.ret (Value.ref l))) s) :=
  .of_wp fun prog w A R s h => by
    obtain ⟨hp, g, d, tk, os⟩ := s
    obtain ⟨hl, h⟩ := h
    have f1 := AutoSeq1.idx_int
    have c0 : (decide ((1 : Int) < -(2 ^ 63)) || decide ((1 : Int) ≥ 2 ^ 63)) = false := by decide
    have c1 : (items.isEmpty || (1 : Int) == 1) = true := by rw [Bool.or_eq_true]; exact .inr rfl
    wp_walk using wpAny_loadPart' hl
    repeat (first
      | (refine wpAny_ite_false (decide_eq_false (by rw [c0]; exact Bool.false_ne_true)) ?_; wp_walk using wpAny_loadPart' hl)
      | (refine wpAny_ite_true (decide_eq_true c1) ?_; wp_walk using wpAny_loadPart' hl))
    exact ⟨_, rfl, h⟩
theorem mul_none (l : Addr) (items : Array Value) (n : Nat) (dd : Option Addr) (sl : Array (Option Value)) (u : Tok) (hi : items.isEmpty = false) :
    Meets (Builtin.«tuple.__mul__» ⟨[.ref l, .int 0 u], []⟩) (fun _ R s => s.heap.get? l = some { cls := .type "tuple", dict := dd, data := .seq items n, slots := sl } ∧
      R (.ok (.ret (Value.ref s.heap.objs.size))) { s with heap := s.heap.push { cls := Value.type "tuple", data := Data.seq #[] }, toks := s.toks }) :=
  .of_wp fun prog w A R s h => by
    obtain ⟨hp, g, d, tk, os⟩ := s
    obtain ⟨hl, h⟩ := h
    have f1 := AutoSeq1.idx_int
    have c0 : (decide ((0 : Int) < -(2 ^ 63)) || decide ((0 : Int) ≥ 2 ^ 63)) = false := by decide
    have c1 : (items.isEmpty || (0 : Int) == 1) = false := by rw [hi]; rfl
    have c2 : (decide ((0 : Int) ≤ 0) || items.isEmpty) = true := by rw [Bool.or_eq_true]; exact .inl rfl
    wp_walk using wpAny_loadPart' hl
    repeat (first
      | (refine wpAny_ite_false (decide_eq_false (by rw [c0]; exact Bool.false_ne_true)) ?_; wp_walk using wpAny_loadPart' hl)
      | (refine wpAny_ite_false (decide_eq_false (by rw [c1]; exact Bool.false_ne_true)) ?_; wp_walk using wpAny_loadPart' hl)
      | (refine wpAny_ite_true (decide_eq_true c2) ?_; wp_walk using wpAny_loadPart' hl))
    exact ⟨_, rfl, h⟩
/-- t * k, k from 0 on -/
def rRepA (K : PySem.W.Frag) : R2 := fun x y H Q => ∃ (l : Addr) (k : Int) (xs : List V), x = .ref l ∧ y = .int k ∧ SqT K H l xs ∧ xs ≠ [] ∧ 0 ≤ k ∧ k ≤ 1000 ∧ xs.length ≤ 1000 ∧ ∀ (p : Addr) (H' : Hp), Same H H' → SqT K H' p (List.replicate k.toNat xs).flatten → Q (.ref p) H'
variable {X : Cx}
theorem op_repA : OpR X (binaryOp .Mult) (rRepA X.K) := by
  intro pins s σ H x y v u Q I rx ry h
  obtain ⟨l, k, xs, rfl, rfl, hT, hne, h1, h2, hz, q⟩ := h
  by_cases hk : 2 ≤ k
  · exact op_repT pins s σ H _ _ v u Q I rx ry ⟨l, k, xs, rfl, rfl, hT, hne, hk, h2, hz, fun p np => q p _ (same_new np _) (SqT.of upd_same)⟩
  cases rx
  obtain ⟨t, rfl⟩ := ry
  obtain ⟨its, r, ⟨⟨cls, dd, data, sl⟩, ho, hc, n, hd⟩, hs⟩ := I.tuple hT
  simp only at hc hd
  subst hc hd
  have hle : its.length = xs.length := r.length.symm
  have hi : its.toArray.isEmpty = false := by
    cases its with
    | nil => exact absurd (List.eq_nil_of_length_eq_zero hle.symm) hne
    | cons a b => rfl
  have road : ∀ (k : Int) (t : Tok) (R : Value → Shared → Prop), wpAny (model X.prog X.w) X.A (call (.builtin "tuple.__mul__") [.ref l, .int k t]) R X.xe s → wpAny (model X.prog X.w) X.A (binaryOp .Mult (.ref l) (.int k t)) R X.xe s := fun k t R hc =>
    wpAny_binaryOp_repeat_ref (T := "tuple") (U := "int") (by decide) ⟨_, ho, rfl⟩ (fun s' => typeIs_int s' k t) noFill_tuple_mul F.fills_int_mul F.slot_int_rmul repeat_tuple F.slot_int_index.lookup
      (call_meets F.slot_int_rmul (typeIs_int s k t) F.entry_int_rmul (F.args_int_rmul_2 _ _) (int_rmul_tuple k t l its.toArray n dd sl) ⟨ho, rfl, ⟨_, ho, rfl⟩, hc⟩)
  rcases (show k = 0 ∨ k = 1 by omega) with rfl | rfl
  · refine road 0 t _ (call_meets F.slot_tuple_mul ⟨_, ho, rfl⟩ F.entry_tuple_mul (F.args_tuple_mul_2 _ _) (mul_none l its.toArray n dd sl t hi) ⟨ho, ?_⟩)
    refine ⟨.ref s.heap.objs.size, _, I.laid (t' := s.toks) (o := .tup []) (fun b ob q => Heap.get?_push_of_some _ q) (Nat.le_refl _) ?_, rfl, q _ _ (same_new (I.hok.fresh (Nat.le_refl _)) _) (SqT.of upd_same)⟩
    exact ⟨Nat.zero_le _, [], .nil, IsTup.new _ _⟩
  · refine road 1 t _ (call_meets F.slot_tuple_mul ⟨_, ho, rfl⟩ F.entry_tuple_mul (F.args_tuple_mul_2 _ _) (mul_one l its.toArray n dd sl t) ⟨ho, ?_⟩)
    refine ⟨.ref l, H, I, rfl, q l H (Same.refl H) ?_⟩
    rw [show ((1 : Int).toNat) = 1 from rfl, List.replicate_one, List.flatten_singleton]
    exact hT
end
end Cm
namespace Cm
open PySem PySem.W L2 SX
/-! ### isinstance of a caught error, its class and dict told by the reading -/
def rIsEc (K : PySem.W.Frag) (D a : Addr) (cls : Value) (d : Option Addr) : List V → Hp → VK → Prop := fun xs H Q => cls = .ref D ∧ d = none ∧ rIsE K D a xs H Q
/-- isinstance(e, (c1, ..)) -/
def rIsEt (K : PySem.W.Frag) (D a : Addr) (cls : Value) (d : Option Addr) : List V → Hp → VK → Prop := fun xs H Q => cls = .ref D ∧ d = none ∧
  ∃ (tp : Addr) (cs : List V) (us : List Value) (b : Bool), xs = [.ref a, .ref tp] ∧ H tp = some (.tup cs) ∧ Paired ClsV cs us ∧ PySem.W.kitAny K (.ref D) us = some b ∧ Q (.bl b) H
section
open PySem.Spec PyProof.Rows
variable {X : Cx} {a D : Addr} {oe : Obj} {cls : Value} {d : Option Addr} {pn : List (Addr × Obj)}
theorem call_isEc (C : ExcC X.K D) (hz : Zc cls d oe) (hf : ∃ vs, oe.data = .fields vs) : CallR (X.suite a ((a, oe) :: pn)) (.builtin "isinstance") (rIsEc X.K D a cls d) := by
  intro pins s σ H xs us Q I r h
  obtain ⟨rfl, rfl, h⟩ := h
  exact call_isE C hz hf pins s σ H xs us Q I r h
theorem call_isEt (C : ExcC X.K D) (hz : Zc cls d oe) (hf : ∃ vs, oe.data = .fields vs) : CallR (X.suite a ((a, oe) :: pn)) (.builtin "isinstance") (rIsEt X.K D a cls d) := by
  intro pins s σ H xs us Q I r h
  obtain ⟨rfl, rfl, tp, cs, ws, b, rfl, hT, k, e, q⟩ := h
  obtain ⟨u1, u2, rfl, r1, r2⟩ := r.two
  cases r1
  cases (show u2 = Value.ref tp from r2)
  obtain ⟨hget, _⟩ := I.pin (a, oe) (List.mem_append.mpr (.inl List.mem_cons_self))
  obtain ⟨vs, hv⟩ := hf
  have J : PySem.W.InstAt s.heap a oe D none := by
    obtain ⟨oc, od, oda, osl⟩ := oe
    obtain ⟨h1, h2⟩ := hz
    dsimp only at h1 h2 hv
    subst h1 h2 hv
    exact ⟨hget, rfl, rfl, trivial⟩
  obtain ⟨_, its, rv, o, h1, h2, n, h3⟩ := (show ObjOk X.prog X.w H s.heap tp (.tup cs) from I.hok tp _ hT)
  have e3 := ClsV.all k rv
  subst e3
  obtain ⟨oc, od, dt, sl⟩ := o
  simp only at h2 h3
  subst h2 h3
  exact PySem.W.kia_tup (PySem.W.handS_kitx_exc C.hg C.hk C.hs C.hd C.ha C.hn C.ht C.hm) I.kIn J h1 e (fun z => nomatch z) fun tk => ⟨.bl b, H, I.kept (t' := tk) fun _ _ z => z, rfl, q⟩
end
end Cm
set_option maxHeartbeats 2000000
/-! CmZip: zip(text, list) in a comprehension. -/
namespace Cm
open PySem PySem.Spec PyProof.Rows L2 SX
def ItzS (K : PySem.W.Frag) (x : Str) (b : Addr) : It :=
  ⟨fun i H => ∃ (ys : List V) (c : Nat) (y : V), SqL K H b ys ∧ x.cps[i]? = some c ∧ ys[i]? = some y,
    fun i H v H' => ∃ T c y, v = .ref T ∧ H T = none ∧ H' = upd H T (.tup [.str ⟨#[c]⟩, y]) ∧ x.cps[i]? = some c ∧ ∀ ys, SqL K H b ys → ys[i]? = some y,
    fun i H => ∃ ys : List V, SqL K H b ys ∧ i ≤ x.cps.size ∧ i ≤ ys.length ∧ (i = x.cps.size ∨ i = ys.length)⟩
theorem nin2 {x a b : Nat} (h1 : x ≠ a) (h2 : x ≠ b) : x ∉ [a, b] := fun h => by
  rcases List.mem_cons.mp h with e | e
  · exact h1 e
  · exact h2 (List.mem_singleton.mp e)
theorem nin1 {x a : Nat} (h1 : x ≠ a) : x ∉ [a] := fun h => h1 (List.mem_singleton.mp h)
theorem sepS (n b : Nat) (h : b < n) : ZipSep2 (n + 4) (n + 2) (n + 3) n (n + 1) [n] [n + 1, b] where
  TIz := fun e => by have e : n + 2 = n + 4 := e; omega
  TOz := fun e => by have e : n + 3 = n + 4 := e; omega
  TITO := fun e => by have e : n + 2 = n + 3 := e; omega
  TIi1 := fun e => by have e : n + 2 = n := e; omega
  mem1 := List.mem_cons_self
  zf1 := nin1 (by omega)
  Tf1 := nin1 (by omega)
  TIi2 := fun e => by have e : n + 2 = n + 1 := e; omega
  mem2 := List.mem_cons_self
  zf2 := nin2 (by omega) (by omega)
  Tf2 := nin2 (by omega) (by omega)
  sep1_2 := nin2 (by omega) (by omega)
  sep2_1 := nin1 (by omega)
theorem turn_zipS {P : Program} {w : World} {K : PySem.W.Frag} {elts : List Expr} {kk : Nat} {tpos : Pos} {x : Str} {t : Tok} {b z TI TO i1 i2 : Addr} (S : ZipSep2 z TI TO i1 i2 [i1] [i2, b]) (hb : b ≠ i2) :
    Turn P w K (.Tuple elts kk tpos) (ItzS K x b) [z, TI, TO, i1, i2] z (fun i h => IsZip h z TI TO .none ∧ IsTupOf2 h TI (.ref i1) (.ref i2) ∧ (∃ u v, IsTupOf2 h TO u v) ∧ h.IsStrIter i1 (strIterType x) x t i ∧ h.IsListIter i2 b i) where
  mem := by simp
  obj := fun i h st c hc => by
    obtain ⟨hz, hTI, ⟨u, v, hTO⟩, ⟨o1, e1, _, d1⟩, ⟨o2, e2, _, d2⟩⟩ := st
    have e' : c = z ∨ c = TI ∨ c = TO ∨ c = i1 ∨ c = i2 := by simpa using hc
    rcases e' with q | q | q | q | q
    · rw [q]; exact ⟨_, hz, fun v q => nomatch q⟩
    · rw [q]; exact ⟨_, hTI, fun v q => nomatch q⟩
    · rw [q]; exact ⟨_, hTO, fun v q => nomatch q⟩
    · rw [q]; exact ⟨o1, e1, fun v q => by rw [d1] at q; cases q⟩
    · rw [q]; exact ⟨o2, e2, fun v q => by rw [d2] at q; cases q⟩
  keep := fun i h h' st k => by
    obtain ⟨hz, hTI, ⟨u, v, hTO⟩, ⟨o1, e1, r1⟩, h2⟩ := st
    exact ⟨k z (by simp) _ hz, k TI (by simp) _ hTI, ⟨u, v, k TO (by simp) _ hTO⟩, ⟨o1, k i1 (by simp) o1 e1, r1⟩, h2.at fun o q => k i2 (by simp) o q⟩
  item := by
    intro X hP hw hK hc i pins s σ H E I hf st hg
    subst hP hw hK
    obtain ⟨hz, hTI, ⟨u0, v0, hTO⟩, h1, h2⟩ := st
    obtain ⟨ys, c, y, hqy, hx, hy⟩ := hg
    obtain ⟨its, rv, p, _⟩ := I.list hqy
    obtain ⟨u2, hu2, ru2⟩ := rv.get hy
    have hh : X.A.in1.handled = none := I.ok.hd hc
    have hzl : z < s.heap.objs.size := Heap.lt_size hz
    have lx : i < x.cps.size := (Array.getElem?_eq_some_iff.mp hx).1
    have ly : i < its.toArray.size := by
      rw [List.size_toArray]; exact (List.getElem?_eq_some_iff.mp hu2).1
    refine wpAny_pyNext_zipD2_item S (Draws.text hh i1 x t) (Draws.list hh i2 b hb its.toArray) hz hTI hTO h1 ⟨h2, p.isList⟩ lx ly fun x1 x2 h' tk P1 P2 z' TO' h1' h2' hT hsz hk => ?_
    obtain ⟨c', tu, ec, rfl⟩ := P1
    rw [hx] at ec; cases ec
    have e2 : x2 = u2 := by
      have q : its.toArray[i]? = some u2 := by simpa using hu2
      exact Option.some.inj ((show its.toArray[i]? = some x2 from P2).symm.trans q)
    subst e2
    refine ⟨_, rfl, wpAny_letOwnedTupleGo_zip (s := { s with heap := h', toks := tk }) z' fun h'' z'' sb => ?_⟩
    have hT2 : h''.get? s.heap.objs.size = some { cls := .type "tuple", data := .seq #[.str ⟨#[c]⟩ tu, x2] } := (sb.2 _ (Nat.ne_of_gt hzl)).trans hT
    have new : ObjOk X.prog X.w (upd H s.heap.objs.size (.tup [.str ⟨#[c]⟩, y])) h'' s.heap.objs.size (.tup [.str ⟨#[c]⟩, y]) :=
      ⟨by show 2 ≤ sizeLine; decide, [.str ⟨#[c]⟩ tu, x2], .cons ⟨tu, rfl⟩ (.cons ru2 .nil), ⟨_, hT2, rfl, _, rfl⟩⟩
    have I1 : Inv X pins σ (upd H s.heap.objs.size (.tup [.str ⟨#[c]⟩, y])) { s with heap := h'', toks := tk } :=
      I.turnedNew (t' := tk) (ch := [z, TI, TO, i1, i2]) (fun c o hb q => (sb.2 c (fun q' => hb (by simp [q']))).trans (hk c o (fun q' => hb (by simp [q'])) (fun q' => hb (by simp [q'])) (fun q' => hb (by simp [q'])) (fun q' => hb (by simp [q'])) q)) hf (Nat.le_refl _) new
    refine ⟨.ref s.heap.objs.size, _, I1, rfl, ⟨_, c, y, rfl, I.hok.fresh (Nat.le_refl _), rfl, hx, fun l hl => by rw [I.list_inj hl hqy]; exact hy⟩, ⟨z'', ?_, ⟨.str ⟨#[c]⟩ tu, x2, ?_⟩, ?_, ?_⟩, fun c hcm => ?_⟩
    · exact (sb.2 _ S.TIz).trans (hk _ _ S.TIz S.TITO S.TIi1 S.TIi2 hTI)
    · exact (sb.2 _ S.TOz).trans TO'
    · obtain ⟨o, e, r⟩ := h1'
      exact ⟨o, (sb.2 _ S.zi1.symm).trans e, r⟩
    · exact h2'.1.at fun o q => (sb.2 _ S.zi2.symm).trans q
    · have hlt : c < s.heap.objs.size := by
        have e' : c = z ∨ c = TI ∨ c = TO ∨ c = i1 ∨ c = i2 := by simpa using hcm
        rcases e' with q | q | q | q | q
        · rw [q]; exact hzl
        · rw [q]; exact Heap.lt_size hTI
        · rw [q]; exact Heap.lt_size hTO
        · rw [q]; obtain ⟨_, e1, _⟩ := h1; exact Heap.lt_size e1
        · rw [q]; obtain ⟨_, e2, _⟩ := h2; exact Heap.lt_size e2
      rw [upd_ne (Nat.ne_of_lt hlt)]
      exact (hf c hcm).1
  done := by
    intro X hP hw hK hc i pins s σ H E I hf st hg
    subst hP hw hK
    obtain ⟨hz, hTI, ⟨u0, v0, hTO⟩, h1, h2⟩ := st
    obtain ⟨ys, hqy, l1, l2, hend⟩ := hg
    obtain ⟨its, rv, p, _⟩ := I.list hqy
    have hh : X.A.in1.handled = none := I.ok.hd hc
    have le := rv.length
    refine wpAny_pyNext_zipD2_end S (Draws.text hh i1 x t) (Draws.list hh i2 b hb its.toArray) hz hTI hTO h1 ⟨h2, p.isList⟩ l1 (by rw [List.size_toArray]; omega) (hend.imp id fun e => by rw [List.size_toArray]; omega) fun h' tk hk => ?_
    exact ⟨rfl, I.turnedL (t' := tk) (ch := [z, TI, TO, i1, i2]) (fun c o hb q => hk c o (fun q' => hb (by simp [q'])) (fun q' => hb (by simp [q'])) (fun q' => hb (by simp [q'])) (fun q' => hb (by simp [q'])) q) hf⟩
  self := fun A i s Q E st h => wpAny_pyIter_zip st.1 h
def iZipS (K : PySem.W.Frag) (ta : TA) : TI := fun σ H R => ta σ H fun vs H1 => ∃ x b ys, vs = [.str x, .ref b] ∧ SqL K H1 b ys ∧ R (ItzS K x b) H1
theorem pi_zipS {X : Cx} {e e2 : Expr} {ta : TA} {p pos tpos : Pos} {elts : List Expr} {kk : Nat} (hg : Gl X "zip") (hm : X.mg "zip" = none) (ha : PA X [e, e2] ta)
    (hs : starEach [e, e2] X.env = (false, eval e X.env) :: starEach [e2] X.env := by rfl) (hpl : (backTo pos (starEach [e2] X.env)).any (·.1) = false := by rfl) :
    PI X (.Tuple elts kk tpos) (.Call (.Name "zip" p) [e, e2] [] pos) (iZipS X.K ta) := by
  refine ⟨fun pins s σ H R I h => ?_⟩
  refine Call_ (ld_blt I hg hm PyProof.Rows.boot_zip (PyProof.Rows.callWith_type1 (thn (ha.run pos pins s σ H _ I h) fun us s1 ⟨vs, H1, I1, r1, q1⟩ => ?_) hs hpl))
  obtain ⟨x, b, ys, ex, hq, q⟩ := q1
  subst ex
  obtain ⟨its, rv, p1, _⟩ := I1.list hq
  cases r1 with
  | cons r rr =>
    cases rr with
    | cons r' rr =>
      cases rr
      obtain ⟨t, rfl⟩ := r
      cases r'
      refine zip_begins2 (begins_text x t) (begins_list b its.toArray) trivial p1.isList fun h' hz hTI hTO h1 h2 hsz hk => wpAny_pyIter_zip hz ?_
      have I2 : Inv X pins σ H1 { s1 with heap := h' } := I1.kept (t' := s1.toks) hk
      have lb : b < s1.heap.objs.size := p1.lt
      refine ⟨s1.heap.objs.size + 4, [s1.heap.objs.size + 4, s1.heap.objs.size + 2, s1.heap.objs.size + 3, s1.heap.objs.size, s1.heap.objs.size + 1], _, _, H1, rfl, I2, turn_zipS (t := t) (sepS _ _ lb) (Nat.ne_of_lt (Nat.lt_succ_of_lt lb)), ⟨hz, hTI, ⟨_, _, hTO⟩, ⟨_, h1, rfl, rfl⟩, ⟨_, h2, rfl, rfl⟩⟩, fun c hcm => ?_, q⟩
      have e' : c = s1.heap.objs.size + 4 ∨ c = s1.heap.objs.size + 2 ∨ c = s1.heap.objs.size + 3 ∨ c = s1.heap.objs.size ∨ c = s1.heap.objs.size + 1 := by simpa using hcm
      have hle : s1.heap.objs.size ≤ c := by
        rcases e' with z | z | z | z | z <;> rw [z] <;> first | exact Nat.le_refl _ | exact Nat.le_add_right _ _
      exact I1.fpOk hle (I1.hok.fresh hle)
theorem walk_zipS {K : PySem.W.Frag} {x : Str} {b : Addr} {ys : List V} {n : Nat} (h1 : x.cps.size = n) (h2 : ys.length = n) : L2.Walk (ItzS K x b) n (fun H => SqL K H b ys) (YPair (fun i => (x.cps[i]?).map fun c => V.str ⟨#[c]⟩) fun i => ys[i]?) where
  goes i H hi g := ⟨ys, x.cps[i]'(by omega), ys[i]'(by omega), g, Array.getElem?_eq_getElem _, List.getElem?_eq_getElem _⟩
  stops H g := ⟨ys, g, by omega, by omega, .inl (by omega)⟩
  yields i H v H' hi g h := by
    obtain ⟨T, c, y, e1, e2, e3, e4, e5⟩ := h
    exact ⟨T, _, y, e1, e2, e3, by show (x.cps[i]?).map _ = _; rw [e4]; rfl, e5 ys g⟩
end Cm
namespace K10
open PySem PySem.W L2 SX Cm
def top (i : Nat) : Stmt := PySem.Challenge.pw_takeleave_k10_rows_done.main.body.getD i (.Pass ⟨0, 0, 0, 0⟩)
abbrev sIsBasic : Stmt := top 13
abbrev sNumThing : Stmt := top 16
abbrev sPlus : Stmt := top 17
abbrev sMinus : Stmt := top 18
abbrev sTimes : Stmt := top 19
abbrev sLess : Stmt := top 20
abbrev sSame : Stmt := top 21
abbrev sStep : Stmt := top 33
abbrev sEffect : Stmt := top 34
abbrev sEffBasic : Stmt := top 35
abbrev sTopOf : Stmt := top 37
abbrev sHeldAs : Stmt := top 38
abbrev sMixed : Stmt := top 41
abbrev sDeck : Stmt := top 42
abbrev sDraw : Stmt := top 43
abbrev sSize : Stmt := top 44
abbrev sCut : Stmt := top 45
abbrev sNumber : Stmt := top 46
abbrev sThing : Stmt := top 47
abbrev sShuffle : Stmt := top 48
abbrev sAnyWord : Stmt := top 49
abbrev sReckoned : Stmt := top 51

/-- a deck stands at d -/
def Dk (H : Hp) (d : Addr) : Prop := ∃ ms : List Int, H d = some (.lst (ms.map V.int)) ∧ ms.length ≤ 2000
theorem Dk.new {d p : Addr} {H : Hp} {o : HO} (a : Dk H d) (h : H p = none) : Dk (upd H p o) d := by
  obtain ⟨ms, e, l⟩ := a
  exact ⟨ms, kn e h, l⟩
theorem Dk.put {d p : Addr} {H : Hp} {o : HO} (a : Dk H d) (h : p ∉ [d]) : Dk (upd H p o) d := by
  obtain ⟨ms, e, l⟩ := a
  exact ⟨ms, by rw [upd_ne (fun z => h (List.mem_singleton.mpr z.symm))]; exact e, l⟩
theorem Dk.nd {d p : Addr} {H : Hp} (a : Dk H d) (h : H p = none) : p ∉ [d] := fun z => by
  obtain ⟨ms, e, l⟩ := a
  rw [List.mem_singleton.mp z, e] at h; cases h
theorem Dk.tks {K : Frag} {H H' : Hp} {d : Addr} (g : Dk H d) (k : Kp [d] H H') : TKs K H H' := TKs.kp k fun b hb => by
  obtain ⟨ms, e, l⟩ := g
  rw [List.mem_singleton.mp hb]; exact ⟨_, e⟩
theorem dm {d : Addr} : d ∈ [d] := List.mem_singleton.mpr rfl
section
variable {P : Program} {w : World} {K : PySem.W.Frag} {mg : Str → Option Value} {base : Heap}
def spMixed : Sp := fun vs H Q _ => ∃ n : Int, vs = [.int n] ∧ ∀ m : Int, 0 ≤ m → m < 2147483587 → Q (.int m) H
theorem scMixed : FnScope ["_law_number_here"] ["_law_number_here"] (defScope sMixed) := ⟨rfl, rfl, rfl, by decide +kernel, rfl, by decide +kernel, by decide +kernel⟩
theorem ok_mixed {f : Addr} {fd : FuncData} (F : Fun K "_law_mixed" "_law_mixed" sMixed f fd) : FnOk P w K mg base CX0 1 f fd ["_law_number_here"] spMixed := by
  refine F.ok scMixed (fun vs H Q E h => ?_) (fun cdv A outer s H vs Q E hr h => ?_)
  · obtain ⟨n, rfl, _⟩ := h
    rfl
  obtain ⟨n, rfl, q⟩ := h
  refine ⟨_, pss_cons (ps_set (i := 0) scMixed.nd rfl (.inl rfl) (pe_op op_mod (pe_op op_add (pe_op op_mul (pe_op op_mod (pv 0) pe_int) pe_int) pe_int) pe_int))
    (pss_cons (ps_set (i := 0) scMixed.nd rfl (.inl rfl) (pe_op op_mod (pe_op op_add (pe_op op_add (pe_op op_mul (pv 0) (pv 0)) (pe_op op_mul pe_int (pv 0))) pe_int) pe_int))
    (pss_one (ps_ret (pe_op op_mod (pe_op op_add (pe_op op_mul (pv 0) pe_int) pe_int) pe_int)))), ?_⟩
  refine ⟨_, rfl, _, _, rfl, rfl, (by show (0 : Int) < 2147483629; decide), _, _, rfl, rfl, .inr ⟨by decide, by decide⟩, _, _, rfl, rfl, _, _, rfl, rfl, (by show (0 : Int) < 2147483647; decide), ?_⟩
  generalize e1 : (n % 2147483629 * 48271 + 7) % 2147483647 = n1
  have b1 : 0 ≤ n1 ∧ n1 < 2147483647 := by omega
  refine ⟨_, rfl, _, rfl, _, _, rfl, rfl, .inl ⟨by omega, by omega⟩, _, rfl, _, _, rfl, rfl, .inl ⟨by decide, by decide⟩, _, _, rfl, rfl, _, _, rfl, rfl, _, _, rfl, rfl, (by show (0 : Int) < 2147483629; decide), ?_⟩
  generalize e2 : (n1 * n1 + 69621 * n1 + 11) % 2147483629 = n2
  have b2 : 0 ≤ n2 ∧ n2 < 2147483629 := by
    constructor
    · rw [← e2]; exact Int.emod_nonneg _ (by decide)
    · rw [← e2]; exact Int.emod_lt_of_pos _ (by decide)
  refine ⟨_, rfl, _, _, rfl, rfl, .inr ⟨by decide, by decide⟩, _, _, rfl, rfl, _, _, rfl, rfl, (by show (0 : Int) < 2147483587; decide), ?_⟩
  exact q _ (Int.emod_nonneg _ (by decide)) (Int.emod_lt_of_pos _ (by decide))
def spDeck (K : PySem.W.Frag) : Sp := fun vs H Q _ => ∃ (a : Addr) (ns : List Int) (m : Int), vs = [.ref a, .int m] ∧ SqL K H a (ns.map V.int) ∧ ns.length ≤ 63 ∧ m ≤ 2000 ∧
  ∀ (p : Addr) (H' : Hp) (ds : List Int), Same H H' → H p = none → H' p = some (.lst (ds.map V.int)) → ds.length ≤ 2000 → Q (.ref p) H'
theorem scDeck : FnScope ["_law_script", "_law_most", "_law_deck_here", "_law_last"] ["_law_script", "_law_most"] (defScope sDeck) := ⟨rfl, rfl, rfl, by decide +kernel, rfl, by decide +kernel, by decide +kernel⟩
theorem ok_deck {f g : Addr} {fd gd : FuncData} (F : Fun K "_law_deck" "_law_deck" sDeck f fd) (G : FnOk P w K mg base CX0 1 g gd ["_law_number_here"] spMixed) (bG : L2.Binds K gd ["_law_number_here"] []) (kG : PySem.W.keepIn K (.ref g) = true) (mG : mg "_law_mixed" = some (.ref g))
    (mlist : mg "list" = none) (msum : mg "sum" = none) (mlen : mg "len" = none) : FnOk P w K mg base CX0 2 f fd ["_law_script", "_law_most"] (spDeck K) := by
  refine F.ok scDeck (fun vs H Q E h => ?_) (fun cdv A outer s H vs Q E hr h => ?_)
  · obtain ⟨a, ns, m, rfl, _⟩ := h
    rfl
  obtain ⟨a, ns, m, rfl, hS, h63, hm, q⟩ := h
  refine ⟨_, pss_cons (ps_set (i := 2) scDeck.nd rfl (.inl rfl) (pe_callTy call_list_of (by rfl) mlist (by decide +kernel) (pa_cons (pe_slice sl_list (pv 0) po_none (po_some pe_int)) pa_nil)))
    (pss_cons (ps_set (i := 3) scDeck.nd rfl (.inl rfl) (pe_op op_add pe_int (pe_op op_mod (pe_callB (cr_sum rfl) (by rfl) msum PyProof.Rows.boot_sum (pa_cons (pv 2) pa_nil)) pe_int)))
    (pss_cons (ps_while PassesOwn.never (pt_cmpR op_lt (pe_callB call_len_seq (by rfl) mlen PySem.boot_len (pa_cons (pv 2) pa_nil)) (pv 1) (nomark _))
      (pss_cons (ps_set (i := 3) scDeck.nd rfl (.inl rfl) (pe_call G hr rfl mG kG bG .nil pass0 (pa_cons (pe_op op_add (pv 3) (pe_callB call_len_seq (by rfl) mlen PySem.boot_len (pa_cons (pv 2) pa_nil))) pa_nil)))
      (pss_one (ps_expr (pe_bm PySem.F.plainAttrs_list PySem.F.slot_list_append PySem.F.type_list_append mt_append (pv 2) (pa_cons (pv 3) pa_nil))))))
    (pss_one (ps_ret (pe_revL (pv 2)))))), ?_⟩
  refine ⟨_, rfl, 63, rfl, a, _, rfl, hS, fun p1 n1 => ?_⟩
  obtain ⟨ds, e1, l1⟩ := cut_map V.int ns none (some 63)
  rw [e1]
  refine ⟨p1, _, rfl, .inl (SqL.of upd_same), fun p2 n2 => ?_⟩
  have s1 : Same H (upd H p1 (.lst (ds.map V.int))) := same_new n1 _
  have f2 : H p2 = none := s1.free n2
  refine ⟨_, rfl, p2, ds, rfl, SqL.of upd_same, _, _, rfl, rfl, (by show (0 : Int) < 2147483647; decide), _, _, rfl, rfl, ?_⟩
  refine ⟨fun k σ H' => ∃ (es : List Int) (l : Int), σ = [some (.ref a), some (.int m), some (.ref p2), some (.int l)] ∧ Same H H' ∧ H' p2 = some (.lst (es.map V.int)) ∧ es.length ≤ 2000 ∧ k = (m - es.length).toNat,
    ⟨_, ds, _, rfl, own_new s1 f2, upd_same, by omega, rfl⟩, ?_⟩
  rintro k σ H' ⟨es, l, rfl, sm, he, hl, rfl⟩
  refine ⟨_, rfl, p2, _, rfl, .inl (SqL.of he), _, rfl, _, _, rfl, rfl, _, rfl, ?_⟩
  refine ite2 (fun c => ?_) (fun c => ?_)
  · have c' : ((es.map V.int).length : Int) < m := of_decide_eq_true c
    rw [List.length_map] at c'
    refine ⟨fun σ' H2 => ∃ (l2 : Int), σ' = [some (.ref a), some (.int m), some (.ref p2), some (.int l2)] ∧ Same H H2 ∧ H2 p2 = some (.lst ((es ++ [l2]).map V.int)), ?_, ?_⟩
    · rintro σ' H2 ⟨l2, rfl, sm2, he2⟩
      refine ⟨_, ?_, es ++ [l2], l2, rfl, sm2, he2, ?_, rfl⟩
      · rw [List.length_append, List.length_singleton]; omega
      · rw [List.length_append, List.length_singleton]; omega
    · refine ⟨_, rfl, _, rfl, p2, _, rfl, .inl (SqL.of he), _, _, rfl, rfl, _, rfl, fun l2 _ _ => ?_⟩
      refine ⟨_, rfl, .inl ⟨rfl, _, SqL.of he⟩, _, rfl, p2, _, _, rfl, rfl, he, by rw [List.length_map]; exact midlt (by omega), ?_⟩
      refine ⟨l2, rfl, own_new sm f2, ?_⟩
      rw [upd_same, List.map_append]; rfl
  · refine ⟨_, rfl, p2, _, rfl, SqL.of he, fun p3 n3 => ?_⟩
    refine q p3 _ es.reverse (sm.trans (same_new n3 _)) (sm.free n3) ?_ ?_
    · rw [upd_same, List.map_reverse]
    · rw [List.length_reverse]; exact hl
def spDraw : Sp := fun vs H Q _ => ∃ (d : Addr) (m : Int), vs = [.ref d, .int m] ∧ Dk H d ∧ 0 < m ∧ m < 2 ^ 64 ∧
  ∀ (r : Int) (H' : Hp), 0 ≤ r → r < m → Kp [d] H H' → Dk H' d → Q (.int r) H'
theorem scDraw : FnScope ["_law_deck_here", "_law_most", "_law_cell"] ["_law_deck_here", "_law_most"] (defScope sDraw) := ⟨rfl, rfl, rfl, by decide +kernel, rfl, by decide +kernel, by decide +kernel⟩
theorem ok_draw {f g : Addr} {fd gd : FuncData} (F : Fun K "_law_draw" "_law_draw" sDraw f fd) (G : FnOk P w K mg base CX0 1 g gd ["_law_number_here"] spMixed) (bG : L2.Binds K gd ["_law_number_here"] []) (kG : PySem.W.keepIn K (.ref g) = true) (mG : mg "_law_mixed" = some (.ref g)) :
    FnOk P w K mg base CX0 2 f fd ["_law_deck_here", "_law_most"] spDraw := by
  refine F.ok scDraw (fun vs H Q E h => ?_) (fun cdv A outer s H vs Q E hr h => ?_)
  · obtain ⟨d, m, rfl, _⟩ := h
    rfl
  obtain ⟨d, m, rfl, ⟨ms, hd, hl⟩, m0, m1, q⟩ := h
  refine ⟨_, pss_cons (ps_if (pt_cmpR (op_eqD hr.units) (pv 0) (pe_lst pa_nil) (nomark _)) (pss_one (ps_ret pe_int)) pss_nil)
    (pss_cons (ps_set (i := 2) scDraw.nd rfl (.inl rfl) (pe_bm0 PySem.F.plainAttrs_list PySem.F.slot_list_pop PySem.F.type_list_pop mt_pop (pv 0)))
    (pss_cons (ps_if (pt_cmpR op_ge (pv 2) (pe_op op_pow pe_int pe_int) (nomark _))
      (pss_cons (ps_expr (pe_bm PySem.F.plainAttrs_list PySem.F.slot_list_append PySem.F.type_list_append mt_append (pv 0) (pa_cons (pe_op op_fdivW (pv 2) (pv 1)) pa_nil)))
        (pss_one (ps_ret (pe_op op_mod (pv 2) (pv 1))))) pss_nil)
    (pss_one (ps_ret (pe_op op_mod (pe_call G hr rfl mG kG bG .nil pass0 (pa_cons (pv 2) pa_nil)) (pv 1)))))), ?_⟩
  refine ⟨_, rfl, (by show 0 ≤ sizeLine; decide), fun p hp => ?_⟩
  have hd1 : (upd H p (.lst [])) d = some (.lst (ms.map V.int)) := by rw [upd_ne (ne_of_none hd hp)]; exact hd
  refine ⟨_, _, .lst (SqL.of hd1) (dp_ints ms), .lst (SqL.of upd_same) .nil, Cm.shaped_ints ms, rfl, _, rfl, ?_⟩
  have k1 : Kp [d] H (upd H p (.lst [])) := (Kp.refl [d] H).new hp
  rcases List.eq_nil_or_concat ms with rfl | ⟨ns, n, rfl⟩
  · refine iteT ?_
    exact q 0 _ (Int.le_refl 0) m0 k1 ⟨[], hd1, by decide⟩
  · have ne : PyData.eqv (.list ((ns.concat n).map PyData.int)) (.list []) = false := by
      cases ns with
      | nil => rfl
      | cons x r => rfl
    rw [ne]
    refine iteF ?_
    rw [List.length_concat] at hl
    have hq : (((ns.concat n).map V.int) : List V)[((ns.concat n).map V.int).length - 1]? = some (V.int n) := by
      rw [List.concat_eq_append, List.map_append, List.length_append]
      simp
    have hdl : ((ns.concat n).map V.int).dropLast = ns.map V.int := by
      rw [List.concat_eq_append, List.map_append]
      simp
    refine ⟨_, rfl, .inl ⟨rfl, _, SqL.of hd1⟩, d, _, _, rfl, rfl, hd1, hq, ?_⟩
    rw [hdl]
    refine ⟨_, rfl, _, _, rfl, rfl, ⟨by decide, by decide, by decide⟩, _, _, rfl, rfl, _, rfl, ?_⟩
    refine ite2 (fun c => ?_) (fun c => ?_)
    · refine ⟨_, rfl, .inl ⟨rfl, _, SqL.of upd_same⟩, _, rfl, _, rfl, _, _, rfl, rfl, wide_div m0 (b := 64) (by omega) (by decide) (by decide), d, _, _, rfl, rfl, upd_same, by rw [List.length_map]; exact midlt (by omega), ?_⟩
      refine ⟨_, rfl, _, rfl, _, _, rfl, rfl, m0, ?_⟩
      refine q _ _ (Int.emod_nonneg _ (by omega)) (Int.emod_lt_of_pos _ m0) ((k1.own dm).own dm) ⟨ns ++ [n / m], ?_, ?_⟩
      · rw [upd_same, List.map_append]; rfl
      · rw [List.length_append, List.length_singleton]; omega
    · refine ⟨_, rfl, _, rfl, fun r r0 r1 => ?_⟩
      refine ⟨_, rfl, _, _, rfl, rfl, m0, ?_⟩
      exact q _ _ (Int.emod_nonneg _ (by omega)) (Int.emod_lt_of_pos _ m0) (k1.own dm) ⟨ns, upd_same, by omega⟩
end
end K10
namespace K10
open PySem PySem.W L2 SX Cm
/-- one of a few values by a drawn number -/
theorem pick {α : Type} {xs : List α} {r : Int} {n : Nat} (h0 : 0 ≤ r) (h1 : r < n) (hl : xs.length = n) : ∃ x, x ∈ xs ∧ atI xs r = some x := by
  obtain ⟨r, rfl⟩ := Int.eq_ofNat_of_zero_le h0
  have hr : r < xs.length := by omega
  exact ⟨xs[r], List.getElem_mem hr, atI_nat (List.getElem?_eq_getElem hr)⟩
/-- one of two values by a truth -/
theorem pick2 {α : Type} {a b : α} (t : Bool) : atI [a, b] (if t = true then (1 : Int) else 0) = some (if t = true then b else a) := by
  cases t
  · exact atI_nat (j := 0) rfl
  · exact atI_nat (j := 1) rfl
/-- the first n letters -/
def abc (n : Nat) : List Nat := [97, 98, 99, 100, 101, 102, 103, 104].take n
theorem abc_len {n : Nat} (h : n ≤ 8) : (abc n).length = n := by
  unfold abc; rw [List.length_take]; show min n 8 = n; omega
theorem lit_abc : ("abcdefgh" : Str) = S [97, 98, 99, 100, 101, 102, 103, 104] := by decide +kernel
/-- a shuffle's signs: n letters taken, l left -/
def shuf (n : Nat) (l : List Nat) : List Nat := abc n ++ (45 :: l)
structure Shuf (n : Nat) (l : List Nat) : Prop where
  n8 : n ≤ 8
  l12 : l.length ≤ 12
  inn : ∀ c ∈ l, c ∈ abc n
theorem Shuf.tx {n : Nat} {l : List Nat} (h : Shuf n l) : Tx (S (shuf n l)) 100 := by
  refine ⟨?_, ?_⟩
  · have h1 := h.n8
    have h2 := h.l12
    rw [S_len]; unfold shuf; rw [List.length_append, List.length_cons, abc_len h1]; omega
  · intro c hc
    have ha : ∀ x ∈ abc n, x < 1114112 := fun x hx => by
      have : x ∈ [97, 98, 99, 100, 101, 102, 103, 104] := List.mem_of_mem_take hx
      revert x; intro x _ hx2
      simp only [List.mem_cons, List.not_mem_nil, or_false] at hx2
      omega
    have hc' : c ∈ abc n ++ (45 :: l) := hc
    rcases List.mem_append.mp hc' with h0 | h0
    · exact ha c h0
    · rcases List.mem_cons.mp h0 with h0 | h0
      · rw [h0]; decide
      · exact ha c (h.inn c h0)
section
variable {P : Program} {w : World} {K : PySem.W.Frag} {mg : Str → Option Value} {base : Heap}
def spShuffle : Sp := fun vs H Q _ => ∃ (d : Addr) (m : Int), vs = [.ref d, .int m] ∧ Dk H d ∧ 0 ≤ m ∧ m ≤ 8 ∧
  ∀ (n : Nat) (l : List Nat) (H' : Hp), Shuf n l → Kp [d] H H' → Dk H' d → Q (.str (S (shuf n l))) H'
theorem scShuffle : FnScope ["_law_deck_here", "_law_most", "_law_many", "_law_letters", "_law_left", "_law_wide", "_law_k"] ["_law_deck_here", "_law_most"] (defScope sShuffle) := ⟨rfl, rfl, rfl, by decide +kernel, rfl, by decide +kernel, by decide +kernel⟩
theorem ok_shuffle {f g : Addr} {fd gd : FuncData} (F : Fun K "_law_shuffle" "_law_shuffle" sShuffle f fd) (G : FnOk P w K mg base CX0 2 g gd ["_law_deck_here", "_law_most"] spDraw) (bG : L2.Binds K gd ["_law_deck_here", "_law_most"] []) (kG : PySem.W.keepIn K (.ref g) = true) (mG : mg "_law_draw" = some (.ref g)) (mrange : mg "range" = none) :
    FnOk P w K mg base CX0 3 f fd ["_law_deck_here", "_law_most"] spShuffle := by
  refine F.ok scShuffle (fun vs H Q E h => ?_) (fun cdv A outer s H vs Q E hr h => ?_)
  · obtain ⟨d, m, rfl, _⟩ := h
    rfl
  obtain ⟨d, m, rfl, hD, m0, m8, q⟩ := h
  refine ⟨_, pss_cons (ps_set (i := 2) scShuffle.nd rfl (.inl rfl) (pe_call G hr rfl mG kG bG .nil pass0 (pa_cons (pv 0) (pa_cons (pe_op op_add (pv 1) pe_int) pa_nil))))
    (pss_cons (ps_set (i := 3) scShuffle.nd rfl (.inl rfl) (pe_slice sl_str pe_str po_none (po_some (pv 2))))
    (pss_cons (ps_set (i := 4) scShuffle.nd rfl (.inl rfl) pe_str)
    (C8.pss_cut (ps_if (pt_cmpR op_gt (pv 2) pe_int (nomark _))
      (pss_cons (ps_set (i := 5) scShuffle.nd rfl (.inl rfl) (pe_ix ix_list (pe_lst (pa_cons pe_int (pa_cons pe_int pa_nil))) (pe_op op_fdiv (pe_call G hr rfl mG kG bG .nil pass0 (pa_cons (pv 0) (pa_cons pe_int pa_nil))) pe_int) (fun _ _ => rfl)))
      (pss_one (ps_for PassesOwn.never rfl (pi_range1 rfl mrange (pa_cons (pe_call G hr rfl mG kG bG .nil pass0 (pa_cons (pv 0) (pa_cons (pv 5) pa_nil))) pa_nil)) (pg_name (i := 6) scShuffle.nd rfl (.inl rfl))
        (pss_one (ps_set (i := 4) scShuffle.nd rfl (.inl rfl) (pe_op op_add_str (pv 4) (pe_ix ix_str (pv 3) (pe_call G hr rfl mG kG bG .nil pass0 (pa_cons (pv 0) (pa_cons (pv 2) pa_nil))) (fun _ _ => rfl)))))))) pss_nil)
    (pss_one (ps_ret (pe_op op_add_str (pe_op op_add_str (pv 3) pe_str) (pv 4))))))), ?_⟩
  refine ⟨_, rfl, _, rfl, _, _, rfl, rfl, d, m + 1, rfl, hD, by omega, by omega, fun n H1 n0 n1 k1 D1 => ?_⟩
  obtain ⟨n, rfl⟩ := Int.eq_ofNat_of_zero_le n0
  have n8 : n ≤ 8 := by omega
  refine ⟨_, rfl, _, rfl, _, rfl, (by show Str.length "abcdefgh" ≤ sizeLine; decide +kernel), ?_⟩
  rw [lit_abc, cutS_to n0]
  have ee : ("" : Str) = S [] := by decide +kernel
  have es : ("-" : Str) = S [45] := by decide +kernel
  rw [ee, es]
  have en : List.take (n : Int).toNat [97, 98, 99, 100, 101, 102, 103, 104] = abc n := rfl
  rw [en]
  refine ⟨fun σ H' => ∃ (l : List Nat) (x5 x6 : Option V), σ = [some (.ref d), some (.int m), some (.int n), some (.str (S (abc n))), some (.str (S l)), x5, x6] ∧ Shuf n l ∧ Kp [d] H H' ∧ Dk H' d, ?_, ?_⟩
  · refine ⟨_, rfl, _, _, rfl, rfl, _, rfl, ?_⟩
    refine ite2 (fun c => ?_) (fun c => ?_)
    · have c' : (0 : Int) < n := of_decide_eq_true c
      refine ⟨(by show 2 ≤ sizeLine; decide), fun p hp => ?_⟩
      refine ⟨_, rfl, d, 8, rfl, D1.new hp, by decide, by decide, fun r H2 r0 r8 k2 D2 => ?_⟩
      have hp2 : H2 p = some (.lst [.int 4, .int 13]) := k2 p _ (D1.nd hp) upd_same
      obtain ⟨wd, w0, w1, aw⟩ : ∃ wd : Int, 0 < wd ∧ wd ≤ 13 ∧ atI [V.int 4, V.int 13] (r / 7) = some (.int wd) := by
        have e : r / 7 = 0 ∨ r / 7 = 1 := by omega
        rcases e with e | e
        · rw [e]; exact ⟨4, by decide, by decide, atI_nat (j := 0) rfl⟩
        · rw [e]; exact ⟨13, by decide, by decide, atI_nat (j := 1) rfl⟩
      refine ⟨_, _, rfl, rfl, ⟨by decide, by decide⟩, p, _, _, _, rfl, rfl, SqL.of hp2, aw, ?_⟩
      have k2' : Kp [d] H H2 := (k1.new hp).trans k2
      refine ⟨_, rfl, _, rfl, d, wd, rfl, D2, w0, by omega, fun t H3 t0 t1 k3 D3 => ?_⟩
      refine ⟨t, rfl, by omega, by omega, for_range (lo := 0) (n := t.toNat) (fun i σ H' => ∃ (l : List Nat) (x6 : Option V), σ = [some (.ref d), some (.int m), some (.int n), some (.str (S (abc n))), some (.str (S l)), some (.int wd), x6] ∧ l.length = i ∧ (∀ c ∈ l, c ∈ abc n) ∧ Kp [d] H H' ∧ Dk H' d)
        ⟨[], none, rfl, rfl, (fun c h => nomatch h), k2'.trans k3, D3⟩ ?_ ?_⟩
      · rintro i σ H' hi ⟨l, x6, rfl, hl, hc, k4, D4⟩
        refine ⟨_, rfl, _, rfl, _, rfl, _, rfl, d, n, rfl, D4, c', by omega, fun u H5 u0 u1 k5 D5 => ?_⟩
        obtain ⟨u, rfl⟩ := Int.eq_ofNat_of_zero_le u0
        have hu : u < (abc n).length := by rw [abc_len n8]; omega
        refine ⟨_, _, _, rfl, rfl, ?_, atI_nat (List.getElem?_eq_getElem hu), ?_⟩
        · rw [S_len, abc_len n8]; exact Nat.le_of_lt (small1000 (by omega))
        refine ⟨_, _, rfl, rfl, ?_, ?_⟩
        · rw [S_len]; exact Nat.le_of_lt (small1000 (by show l.length + 1 ≤ 1000; omega))
        · have e1 : S l ++ (⟨#[(abc n)[u]]⟩ : Str) = S (l ++ [(abc n)[u]]) := S_cat l [(abc n)[u]]
          rw [e1]
          refine ⟨l ++ [(abc n)[u]], _, rfl, ?_, ?_, k4.trans k5, D5⟩
          · rw [List.length_append, List.length_singleton, hl]
          · intro z hz
            rcases List.mem_append.mp hz with h | h
            · exact hc z h
            · rw [List.mem_singleton.mp h]; exact List.getElem_mem hu
      · rintro σ H' ⟨l, x6, rfl, hl, hc, k4, D4⟩
        exact ⟨l, _, _, rfl, ⟨n8, by omega, hc⟩, k4, D4⟩
    · exact ⟨[], none, none, rfl, ⟨n8, by decide, fun c h => nomatch h⟩, k1, D1⟩
  · rintro σ H' ⟨l, x5, x6, rfl, hs, k2, D2⟩
    refine ⟨_, rfl, _, _, rfl, rfl, ?_, _, rfl, _, _, rfl, rfl, ?_, ?_⟩
    · rw [S_len, S_len, abc_len n8]; exact Nat.le_of_lt (small1000 (by show n + 1 ≤ 1000; omega))
    · rw [S_cat, S_len, S_len, List.length_append, abc_len n8]; have := hs.l12; exact Nat.le_of_lt (small1000 (by show n + 1 + l.length ≤ 1000; omega))
    · rw [S_cat, S_cat, List.append_assoc]
      exact q n l H' hs k2 D2
def spNumber : Sp := fun vs H Q _ => ∃ (d : Addr), vs = [.ref d] ∧ Dk H d ∧
  ∀ (n : Int) (H' : Hp), 0 ≤ n → n < 10 ^ 12 → Kp [d] H H' → Dk H' d → Q (.int n) H'
theorem scNumber : FnScope ["_law_deck_here"] ["_law_deck_here"] (defScope sNumber) := ⟨rfl, rfl, rfl, by decide +kernel, rfl, by decide +kernel, by decide +kernel⟩
theorem ok_number {f g : Addr} {fd gd : FuncData} (F : Fun K "_law_number" "_law_number" sNumber f fd) (G : FnOk P w K mg base CX0 2 g gd ["_law_deck_here", "_law_most"] spDraw) (bG : L2.Binds K gd ["_law_deck_here", "_law_most"] []) (kG : keepIn K (.ref g) = true) (mG : mg "_law_draw" = some (.ref g)) :
    FnOk P w K mg base CX0 3 f fd ["_law_deck_here"] spNumber := by
  refine F.ok scNumber (fun vs H Q E h => ?_) (fun cdv A outer s H vs Q E hr h => ?_)
  · obtain ⟨d, rfl, _⟩ := h
    rfl
  obtain ⟨d, rfl, hD, q⟩ := h
  refine ⟨_, pss_one (ps_ret (pe_ix ix_list (pe_lst (pa_cons pe_int (pa_cons pe_int (pa_cons pe_int (pa_cons (pe_call G hr rfl mG kG bG .nil pass0 (pa_cons (pv 0) (pa_cons pe_int pa_nil))) (pa_cons (pe_op op_sub (pe_op op_pow pe_int pe_int) pe_int) (pa_cons (pe_call G hr rfl mG kG bG .nil pass0 (pa_cons (pv 0) (pa_cons (pe_op op_pow pe_int pe_int) pa_nil))) pa_nil)))))))
    (pe_call G hr rfl mG kG bG .nil pass0 (pa_cons (pv 0) (pa_cons pe_int pa_nil))) (fun _ _ => rfl))), ?_⟩
  refine ⟨_, rfl, d, 7, rfl, hD, by decide, by decide, fun r H1 r0 r1 k1 D1 => ?_⟩
  refine ⟨_, _, rfl, rfl, ⟨by decide, by decide, by decide⟩, _, _, rfl, rfl, _, rfl, _, _, rfl, rfl, ⟨by decide, by decide, by decide⟩, d, 10 ^ 12, rfl, D1, by decide, by decide, fun r2 H2 r20 r21 k2 D2 => ?_⟩
  refine ⟨(by show 6 ≤ sizeLine; decide), fun p hp => ?_⟩
  refine ⟨_, rfl, d, 6, rfl, D2.new hp, by decide, by decide, fun i H3 i0 i1 k3 D3 => ?_⟩
  have b2' : r2 < 10 ^ 12 := r21
  obtain ⟨v, hv, ha⟩ := pick (xs := [V.int 0, .int 1, .int 2, .int r, .int ((10 : Int) ^ (12 : Int).toNat - 1), .int r2]) (n := 6) i0 i1 rfl
  refine ⟨p, _, _, _, rfl, rfl, SqL.of (k3 p _ (D2.nd hp) upd_same), ha, ?_⟩
  have kf := ((k1.trans k2).new hp).trans k3
  simp only [List.mem_cons, List.not_mem_nil, or_false] at hv
  rcases hv with rfl | rfl | rfl | rfl | rfl | rfl
  · exact q _ H3 (by decide) (by decide) kf D3
  · exact q _ H3 (by decide) (by decide) kf D3
  · exact q _ H3 (by decide) (by decide) kf D3
  · exact q _ H3 r0 (by omega) kf D3
  · exact q _ H3 (by decide) (by decide) kf D3
  · exact q _ H3 r20 b2' kf D3
end
end K10
namespace K10
open PySem PySem.W L2 SX Cm
/-- what is gone through may be either -/
theorem pi_or {X : Cx} {tg e : Expr} {i j : TI} (h : PI X tg e i) (g : PI X tg e j) : PI X tg e (fun σ H R => i σ H R ∨ j σ H R) :=
  ⟨fun pins s σ H R hi h0 => h0.elim (h.run pins s σ H R hi) (g.run pins s σ H R hi)⟩
theorem SqL.keep {K : Frag} {H H' : Hp} (s : Same H H') {a : Addr} {xs : List V} (h : SqL K H a xs) : SqL K H' a xs := by
  rcases h with (h | ⟨o, h⟩) | h
  · exact .inl (.inl (s _ _ h))
  · exact .inl (.inr ⟨o, s _ _ h⟩)
  · exact .inr h
/-- a list or a tuple -/
def Sq (K : Frag) (H : Hp) (a : Addr) (xs : List V) : Prop := SqL K H a xs ∨ SqT K H a xs
theorem Sq.keep {K : Frag} {H H' : Hp} (s : Same H H') {a : Addr} {xs : List V} (h : Sq K H a xs) : Sq K H' a xs :=
  h.elim (fun h => .inl (SqL.keep s h)) (fun h => .inr (TKs.of s _ _ h))
theorem for_sq {K : Frag} {a : Addr} {xs : List V} {tl : TE} {g : TG} {tb : TS} {D : Ends} {σ : St} {H : Hp} (hv : ∀ R : V → Hp → Prop, R (.ref a) H → tl σ H R) (hx : Sq K H a xs) (Pv : Nat → St → Hp → Prop) (p0 : Pv 0 σ H) (pk : ∀ i σ' H', Pv i σ' H' → Same H H')
    (st : ∀ (i : Nat) (x : V) (σ : St) (H : Hp), xs[i]? = some x → Pv i σ H → g x σ H fun σ2 H2 => tb { nx := Pv (i + 1), rt := D.rt, bk := D.nx, ct := Pv (i + 1) } σ2 H2) (fin : ∀ (σ : St) (H : Hp), Pv xs.length σ H → D.nx σ H) :
    tFor (fun σ H R => iList K tl σ H R ∨ iTup K tl σ H R) g tb D σ H := by
  rcases hx with h | h
  · exact .inl (hv _ ⟨a, rfl, ⟨_, h⟩, for_list Pv p0 (fun i σ' H' _ hp => SqL.keep (pk i σ' H' hp) h) st fin⟩)
  · exact .inr (hv _ ⟨a, rfl, ⟨_, h⟩, for_tup Pv p0 (fun i σ' H' _ hp => TKs.of (pk i σ' H' hp) _ _ h) st fin⟩)
theorem lc_sq {K : Frag} {a : Addr} {xs : List V} {tl : TE} {g : TG} {tt : TT} {te : TE} {vs : List Nat} {σ : St} {H : Hp} {Q : VK} (hv : ∀ R : V → Hp → Prop, R (.ref a) H → tl σ H R) (hx : Sq K H a xs) (Pv : Addr → Nat → Hp → Prop) (p0 : ∀ D, H D = none → Pv D 0 (upd H D (.lst []))) (pk : ∀ D i H', Pv D i H' → Same H H')
    (st : ∀ (D : Addr) (i : Nat) (x : V) (H' : Hp), H D = none → xs[i]? = some x → Pv D i H' → g x (wipe σ vs) H' fun σ2 H2 => wipe σ2 vs = wipe σ vs ∧ tt σ2 H2 fun b H3 => if b = true then te σ2 H3 fun y H4 => ∃ acc, H4 D = some (.lst acc) ∧ acc.length < sizeLine ∧ Pv D (i + 1) (upd H4 D (.lst (acc ++ [y]))) else Pv D (i + 1) H3)
    (fin : ∀ (D : Addr) (H' : Hp), H D = none → Pv D xs.length H' → Q (.ref D) H') :
    tLc (fun σ H R => iList K tl σ H R ∨ iTup K tl σ H R) g tt te vs σ H Q := by
  rcases hx with h | h
  · exact .inl (hv _ ⟨a, rfl, ⟨_, h⟩, fun D hD => lc_list (Pv D) (p0 D hD) (fun i H' _ hp => SqL.keep (pk D i H' hp) h) (fun i x H' => st D i x H' hD) (fun H' => fin D H' hD)⟩)
  · exact .inr (hv _ ⟨a, rfl, ⟨_, h⟩, fun D hD => lc_tup (Pv D) (p0 D hD) (fun i H' _ hp => TKs.of (pk D i H' hp) _ _ h) (fun i x H' => st D i x H' hD) (fun H' => fin D H' hD)⟩)
theorem call_lc {sp : Sp} {E : XK} {wi : TI} {g : TG} {tt : TT} {te : TE} {vs : List Nat} {σ : St} {H : Hp} {Q : VK} (h : tLc wi g tt te vs σ H fun v H1 => sp [v] H1 Q E) : tCall sp [] E (tCons (tLc wi g tt te vs) tNil) σ H Q := h
mutual
inductive Zt (K : Frag) (H : Hp) : Nat → V → Nat → Prop
  | num {k : Nat} {a : Addr} {v : V} : 0 < k → SqT K H a [.str "number", v] → Zt K H k (.ref a) 1
  | lst {k k' : Nat} {a b : Addr} {us : List V} {s : Nat} : 0 < k → k < k' → SqT K H a [.str "list", .ref b] → Sq K H b us → ZA K H k us s → Zt K H k' (.ref a) (1 + s)
  | row {k k' : Nat} {a b : Addr} {us : List V} {s : Nat} : 0 < k → k < k' → SqT K H a [.str "row", .ref b] → Sq K H b us → us.length ≤ 1000 → ZW K H k us s → Zt K H k' (.ref a) (1 + us.length + s)
inductive ZA (K : Frag) (H : Hp) : Nat → List V → Nat → Prop
  | nil {k : Nat} : ZA K H k [] 0
  | cons {k : Nat} {v : V} {vs : List V} {s t : Nat} : Zt K H k v s → ZA K H k vs t → ZA K H k (v :: vs) (s + t)
inductive ZW (K : Frag) (H : Hp) : Nat → List V → Nat → Prop
  | nil {k : Nat} : ZW K H k [] 0
  | txt {k : Nat} {z : Str} {vs : List V} {t : Nat} : ZW K H k vs t → ZW K H k (.str z :: vs) t
  | push {k : Nat} {a : Addr} {u : V} {vs : List V} {s t : Nat} : SqT K H a [.str "push", u] → Zt K H k u s → ZW K H k vs t → ZW K H k (.ref a :: vs) (s + t)
end
mutual
theorem Zt.keep {K : Frag} {H H' : Hp} (s : Same H H') : ∀ {k : Nat} {v : V} {n : Nat}, Zt K H k v n → Zt K H' k v n
  | _, _, _, .num h a => .num h (TKs.of s _ _ a)
  | _, _, _, .lst h l a b c => .lst h l (TKs.of s _ _ a) (b.keep s) (ZA.keep s c)
  | _, _, _, .row h l a b e c => .row h l (TKs.of s _ _ a) (b.keep s) e (ZW.keep s c)
theorem ZA.keep {K : Frag} {H H' : Hp} (s : Same H H') : ∀ {k : Nat} {v : List V} {n : Nat}, ZA K H k v n → ZA K H' k v n
  | _, _, _, .nil => .nil
  | _, _, _, .cons a b => .cons (Zt.keep s a) (ZA.keep s b)
theorem ZW.keep {K : Frag} {H H' : Hp} (s : Same H H') : ∀ {k : Nat} {v : List V} {n : Nat}, ZW K H k v n → ZW K H' k v n
  | _, _, _, .nil => .nil
  | _, _, _, .txt b => .txt (ZW.keep s b)
  | _, _, _, .push a b c => .push (TKs.of s _ _ a) (Zt.keep s b) (ZW.keep s c)
end
theorem Zt.up {K : Frag} {H : Hp} {k k' : Nat} (l : k ≤ k') {v : V} {n : Nat} (h : Zt K H k v n) : Zt K H k' v n := by
  cases h with
  | num h a => exact .num (by omega) a
  | lst h q a b c => exact .lst h (by omega) a b c
  | row h q a b e c => exact .row h (by omega) a b e c
theorem ZA.up {K : Frag} {H : Hp} {k k' : Nat} : ∀ {v : List V} {n : Nat}, ZA K H k v n → k ≤ k' → ZA K H k' v n
  | _, _, .nil, _ => .nil
  | _, _, .cons a b, l => .cons (a.up l) (b.up l)
theorem ZA.app {K : Frag} {H : Hp} {k : Nat} : ∀ {a b : List V} {m n : Nat}, ZA K H k a m → ZA K H k b n → ZA K H k (a ++ b) (m + n)
  | _, _, _, _, .nil, h => by rw [Nat.zero_add]; exact h
  | _, _, _, _, .cons a b, h => by rw [Nat.add_assoc]; exact .cons a (b.app h)
theorem drop_at {α : Type} {xs : List α} {i : Nat} {x : α} (h : xs[i]? = some x) : xs.drop i = x :: xs.drop (i + 1) := by
  obtain ⟨hl, rfl⟩ := List.getElem?_eq_some_iff.mp h
  exact List.drop_eq_getElem_cons hl
mutual
theorem Zt.of {K : Frag} {H : Hp} : ∀ {k w m : Nat} {t : PyData} {v : V}, Thg k w m t → m ≤ 1000 → Tr K H v t → ∃ s, Zt K H (k + 1) v s
  | k, _, _, _, v, .num n h0 h1, _, h => by
    cases h with
    | tup a b =>
      cases b with
      | cons b c =>
        cases b
        cases c with
        | cons b c =>
          cases c
          exact ⟨_, .num (Nat.succ_pos k) a⟩
  | k', _, _, _, v, .row (k := k) (m := m) (ws := ws) r l, hm, h => by
    cases h with
    | tup a b =>
      cases b with
      | cons b c =>
        cases b
        cases c with
        | cons b c =>
          cases c
          cases b with
          | tup b c =>
            have hl := c.len
            have h2 := r.len
            obtain ⟨s, hs⟩ := ZW.of r (by omega) c
            exact ⟨_, .row (Nat.succ_pos k) (Nat.succ_lt_succ l) a (.inr b) (by omega) hs⟩
  | k', _, _, _, v, .lst (k := k) (m := m) (ts := ts) r l, hm, h => by
    cases h with
    | tup a b =>
      cases b with
      | cons b c =>
        cases b
        cases c with
        | cons b c =>
          cases c
          cases b with
          | tup b c =>
            obtain ⟨s, hs⟩ := ZA.of r (by omega) c
            exact ⟨_, .lst (Nat.succ_pos k) (Nat.succ_lt_succ l) a (.inr b) hs⟩
theorem ZW.of {K : Frag} {H : Hp} : ∀ {k w m : Nat} {ws : List PyData} {vs : List V}, Rw k w m ws → m ≤ 1000 → TrAll K H vs ws → ∃ s, ZW K H (k + 1) vs s
  | k, _, _, _, vs, .nil, _, h => by
    cases h
    exact ⟨_, .nil⟩
  | k, _, _, _, vs, .txt x r, hm, h => by
    cases h with
    | cons a b =>
      cases a
      obtain ⟨s, hs⟩ := ZW.of r (by omega) b
      exact ⟨_, .txt hs⟩
  | k, _, _, _, vs, .push (t := t) x r, hm, h => by
    cases h with
    | cons a b =>
      cases a with
      | tup a c =>
        cases c with
        | cons e c =>
          cases e
          cases c with
          | cons e c =>
            cases c
            obtain ⟨s, hs⟩ := ZW.of r (by omega) b
            obtain ⟨s', hs'⟩ := Zt.of x (by omega) e
            exact ⟨_, .push a hs' hs⟩
theorem ZA.of {K : Frag} {H : Hp} : ∀ {k w m : Nat} {ws : List PyData} {vs : List V}, Stk k w m ws → m ≤ 1000 → TrAll K H vs ws → ∃ s, ZA K H (k + 1) vs s
  | k, _, _, _, vs, .nil, _, h => by
    cases h
    exact ⟨_, .nil⟩
  | k, _, _, _, vs, .cons x r, hm, h => by
    cases h with
    | cons a b =>
      obtain ⟨s, hs⟩ := ZA.of r (by omega) b
      obtain ⟨s', hs'⟩ := Zt.of x (by omega) a
      exact ⟨_, .cons hs' hs⟩
end
section
variable {P : Program} {w : World} {K : PySem.W.Frag} {mg : Str → Option Value} {base : Heap}
def spSize (K : Frag) (k : Nat) : Sp := fun vs H Q _ => ∃ (a : Addr) (xs : List V) (s : Nat), 0 < k ∧ vs = [.ref a] ∧ Sq K H a xs ∧ ZA K H k xs s ∧ ∀ H', Same H H' → Q (.int s) H'
abbrev NZ : List Str := ["_law_things", "_law_total", "_law_thing_here", "_law_word"]
theorem scSize : FnScope NZ ["_law_things"] (defScope sSize) := ⟨rfl, rfl, rfl, by decide +kernel, rfl, by decide +kernel, by decide +kernel⟩
theorem ok_size0 {f : Addr} {fd : FuncData} (F : Fun K "_law_size" "_law_size" sSize f fd) : FnOk P w K mg base CX0 1 f fd ["_law_things"] (spSize K 0) := by
  refine F.ok scSize (fun vs H Q E h => ?_) (fun cdv A outer s H vs Q E hr h => ?_)
  · obtain ⟨a, xs, s, h, _⟩ := h
    exact absurd h (Nat.lt_irrefl 0)
  · obtain ⟨a, xs, s, h, _⟩ := h
    exact absurd h (Nat.lt_irrefl 0)
theorem ok_sizeS {k : Nat} {f g : Addr} {fd gd : FuncData} (F : Fun K "_law_size" "_law_size" sSize f fd) (G : FnOk P w K mg base CX0 (k + 1) g gd ["_law_things"] (spSize K k)) (bG : L2.Binds K gd ["_law_things"] []) (kG : keepIn K (.ref g) = true) (mG : mg "_law_size" = some (.ref g)) (mlen : mg "len" = none) (misi : mg "isinstance" = none) (mtup : mg "tuple" = none) :
    FnOk P w K mg base CX0 (k + 2) f fd ["_law_things"] (spSize K (k + 1)) := by
  refine F.ok scSize (fun vs H Q E h => ?_) (fun cdv A outer s H vs Q E hr h => ?_)
  · obtain ⟨a, xs, s, _, rfl, _⟩ := h
    rfl
  obtain ⟨a, xs, n, _, rfl, hx, hz, q⟩ := h
  refine ⟨_, pss_cons (ps_set (i := 1) scSize.nd rfl (.inl rfl) pe_int)
    (pss_cons (ps_for PassesOwn.never rfl (pi_or (pi_list (pv 0)) (pi_tup (pv 0))) (pg_name (i := 2) scSize.nd rfl (.inl rfl))
      (pss_cons (ps_set (i := 1) scSize.nd rfl (.inl rfl) (pe_op op_add (pv 1) pe_int))
      (C8.pss_cut (ps_if (pt_cmpR op_eq (pe_ix ix_tup (pv 2) pe_int (fun _ _ => rfl)) pe_str (nomark _))
        (pss_one (ps_set (i := 1) scSize.nd rfl (.inl rfl) (pe_op op_add (pv 1) (pe_call G hr rfl mG kG bG .nil pass0 (pa_cons (pe_ix ix_tup (pv 2) pe_int (fun _ _ => rfl)) pa_nil))))) pss_nil)
      (pss_one (ps_if (pt_cmpR op_eq (pe_ix ix_tup (pv 2) pe_int (fun _ _ => rfl)) pe_str (nomark _))
        (pss_one (ps_set (i := 1) scSize.nd rfl (.inl rfl) (pe_op op_add (pe_op op_add (pv 1) (pe_callB call_len_seq (by rfl) mlen PySem.boot_len (pa_cons (pe_ix ix_tup (pv 2) pe_int (fun _ _ => rfl)) pa_nil)))
          (pe_call G hr rfl mG kG bG .nil pass0 (pa_cons (pe_lc (own := [("_law_word", 3)]) (g := gName 3) (tt := tB (tCB (rIsi K) (tCons (tVar 3) (tCons (tC (V.ty "tuple")) tNil)))) (te := tOp (rIxT K) (tVar 3) (tC (.int 1))) rfl scSize.nd (pi_or (pi_list (pe_ix ix_tup (pv 2) pe_int (fun _ _ => rfl))) (pi_tup (pe_ix ix_tup (pv 2) pe_int (fun _ _ => rfl)))) (blkOk_by (own := [("_law_word", 3)]) (N := NZ) (sc := defScope sSize) (by decide +kernel))
            (fun _ _ _ _ _ => pg_name (i := 3) scSize.nd rfl (Or.inl rfl)) (fun _ _ _ _ _ => pts_one (pt_val (pe_callB call_isi (by rfl) misi PyProof.Rows.boot_isinstance (pa_cons (pv 3) (pa_cons (pe_bltn (v := .ty "tuple") (by rfl) mtup (by decide +kernel) rfl) pa_nil))))) (fun _ _ _ _ _ => pe_ix ix_tup (pv 3) pe_int (fun _ _ => rfl))) pa_nil))))) pss_nil)))))
    (pss_one (ps_ret (pv 1)))), ?_⟩
  refine for_sq (K := K) (a := a) (tl := tVar 0) (g := gName 2) (fun R r => ⟨_, rfl, r⟩) hx (fun i σ' H' => ∃ (t r : Nat) (x2 x3 : Option V), σ' = [some (.ref a), some (.int t), x2, x3] ∧ Same H H' ∧ ZA K H' (k + 1) (xs.drop i) r ∧ t + r = n)
    ⟨0, n, none, none, rfl, fun _ _ h => h, hz, Nat.zero_add n⟩ (fun i σ' H' ⟨_, _, _, _, _, s, _⟩ => s) ?_ ?_
  · rintro i x σ' H1 hi ⟨t, r, x2, x3, rfl, s1, hr1, ht⟩
    rw [drop_at hi] at hr1
    have n1 : decide (V.str "number" = V.str "row") = false := by decide +kernel
    have n2 : decide (V.str "number" = V.str "list") = false := by decide +kernel
    have n3 : decide (V.str "list" = V.str "row") = false := by decide +kernel
    have n4 : decide (V.str "row" = V.str "row") = true := decide_eq_true rfl
    have n5 : decide (V.str "list" = V.str "list") = true := decide_eq_true rfl
    have n6 : decide (V.str "row" = V.str "list") = false := by decide +kernel
    cases hr1 with
    | cons ha hb =>
      rename_i s0 t0
      refine ⟨_, rfl, _, _, rfl, rfl, ?_⟩
      cases ha with
      | num h0 hs =>
        rename_i b0 v0
        refine ⟨fun σ2 H2 => σ2 = [some (.ref a), some (.int ((t : Int) + 1)), some (.ref b0), x3] ∧ H2 = H1, ?_, ?_⟩
        · refine ⟨_, rfl, b0, _, 0, _, rfl, rfl, hs, atI_nat (j := 0) rfl, rfl, _, rfl, ?_⟩
          rw [n2]
          exact iteF ⟨rfl, rfl⟩
        · rintro σ2 H2 ⟨rfl, rfl⟩
          refine ⟨_, rfl, b0, _, 0, _, rfl, rfl, hs, atI_nat (j := 0) rfl, rfl, _, rfl, ?_⟩
          rw [n1]
          exact iteF ⟨t + 1, t0, _, _, rfl, s1, hb, by omega⟩
      | lst h0 hk hs hq hz2 =>
        rename_i k0 b0 b1 us s2
        refine ⟨fun σ2 H2 => σ2 = [some (.ref a), some (.int ((t + 1 + s2 : Nat) : Int)), some (.ref b0), x3] ∧ Same H1 H2, ?_, ?_⟩
        · refine ⟨_, rfl, b0, _, 0, _, rfl, rfl, hs, atI_nat (j := 0) rfl, rfl, _, rfl, ?_⟩
          rw [n5]
          refine iteT ⟨_, rfl, _, rfl, b0, _, 1, _, rfl, rfl, hs, atI_nat (j := 1) rfl, b1, us, s2, by omega, rfl, hq, hz2.up (by omega), fun H2 sm => ⟨_, _, rfl, rfl, rfl, sm⟩⟩
        · rintro σ2 H2 ⟨rfl, sm⟩
          refine ⟨_, rfl, b0, _, 0, _, rfl, rfl, TKs.of sm _ _ hs, atI_nat (j := 0) rfl, rfl, _, rfl, ?_⟩
          rw [n3]
          exact iteF ⟨t + 1 + s2, t0, _, _, rfl, s1.trans sm, hb.keep sm, by omega⟩
      | row h0 hk hs hq hl hz2 =>
        rename_i k0 b0 b1 us s2
        refine ⟨fun σ2 H2 => σ2 = [some (.ref a), some (.int ((t : Int) + 1)), some (.ref b0), x3] ∧ H2 = H1, ?_, ?_⟩
        · refine ⟨_, rfl, b0, _, 0, _, rfl, rfl, hs, atI_nat (j := 0) rfl, rfl, _, rfl, ?_⟩
          rw [n6]
          exact iteF ⟨rfl, rfl⟩
        · rintro σ2 H2 ⟨rfl, rfl⟩
          refine ⟨_, rfl, b0, _, 0, _, rfl, rfl, hs, atI_nat (j := 0) rfl, rfl, _, rfl, ?_⟩
          rw [n4]
          refine iteT ⟨_, rfl, _, rfl, b0, _, 1, _, rfl, rfl, hs, atI_nat (j := 1) rfl, b1, us, rfl, hq, _, _, rfl, rfl, ?_⟩
          refine call_lc (sp := spSize K k) (E := E0) (lc_sq (K := K) (a := b1) (xs := us) (g := gName 3) (tl := tOp (rIxT K) (tVar 2) (tC (.int 1))) (tt := tB (tCB (rIsi K) (tCons (tVar 3) (tCons (tC (V.ty "tuple")) tNil)))) (te := tOp (rIxT K) (tVar 3) (tC (.int 1))) (vs := [3]) (σ := [some (.ref a), some (.int ((t : Int) + 1)), some (.ref b0), x3]) (fun R r => ⟨_, rfl, b0, _, 1, _, rfl, rfl, hs, atI_nat (j := 1) rfl, r⟩) hq (fun D i H' => ∃ (acc : List V) (p r : Nat), Same H2 H' ∧ H' D = some (.lst acc) ∧ acc.length ≤ i ∧ ZA K H2 k0 acc p ∧ ZW K H2 k0 (us.drop i) r ∧ p + r = s2)
            (fun D hD => ⟨[], 0, s2, same_new hD _, upd_same, Nat.le_refl 0, .nil, hz2, Nat.zero_add s2⟩) (fun D i H' ⟨_, _, _, s, _⟩ => s) ?_ ?_)
          · rintro D j x H3 hD hj ⟨acc, p, r, s3, hacc, hla, hza, hzr, hp⟩
            have hjl : j < us.length := (List.getElem?_eq_some_iff.mp hj).1
            rw [drop_at hj] at hzr
            cases hzr with
            | txt hz3 =>
              refine ⟨rfl, _, rfl, _, _, _, _, false, rfl, .ty _, .base (.str _), kit_ty (r := false) (by decide +kernel), _, rfl, iteF ?_⟩
              exact ⟨acc, p, r, s3, hacc, by omega, hza, hz3, hp⟩
            | push hs3 hz4 hz3 =>
              rename_i ad uu m1 m2
              refine ⟨rfl, _, rfl, _, _, _, _, true, rfl, .ty _, tyTup (TKs.of s3 _ _ hs3), kit_ty (r := true) (by decide +kernel), _, rfl, iteT ?_⟩
              have sm4 : Same H2 (upd H3 D (.lst (acc ++ [uu]))) := own_new s3 hD
              refine ⟨_, rfl, ad, _, 1, _, rfl, rfl, TKs.of s3 _ _ hs3, atI_nat (j := 1) rfl, acc, hacc, small1000 (by omega), acc ++ [uu], p + m1, m2, sm4, upd_same, by rw [List.length_append, List.length_singleton]; omega, ?_, hz3, by omega⟩
              have := hza.app (ZA.cons hz4 ZA.nil)
              rw [Nat.add_zero] at this
              exact this
          · rintro D H3 hD ⟨acc, p, r, s3, hacc, hla, hza, hzr, hp⟩
            rw [List.drop_length] at hzr
            cases hzr
            refine ⟨D, acc, s2, by omega, rfl, .inl (SqL.of hacc), (by rw [← hp]; exact (hza.up (by omega)).keep s3), fun H4 sm => ⟨_, _, rfl, rfl, ?_⟩⟩
            exact ⟨t + 1 + us.length + s2, t0, _, _, rfl, s1.trans (s3.trans sm), hb.keep (s3.trans sm), by omega⟩
  · rintro σ' H1 ⟨t, r, x2, x3, rfl, s1, hr1, ht⟩
    rw [List.drop_length] at hr1
    cases hr1
    refine ⟨_, rfl, ?_⟩
    have e : (t : Int) = n := by omega
    rw [e]
    exact q H1 s1
theorem cut_last (xs : List V) : cutV xs none (some (-1)) = xs.take (xs.length - 1) := by
  unfold cutV HT.sIx
  show List.take ((if (-1 : Int) < 0 then ((-1 : Int) + (xs.length : Nat)).toNat else _) - 0) (List.drop 0 xs) = _
  rw [if_pos (by decide), List.drop_zero, Nat.sub_zero]
  congr 1
  omega
theorem TrAll.take {K : Frag} {H : Hp} : ∀ {v : List V} {d : List PyData} (n : Nat), TrAll K H v d → TrAll K H (v.take n) (d.take n)
  | _, _, 0, _ => .nil
  | _, _, n + 1, .nil => .nil
  | _, _, n + 1, .cons h t => .cons h (TrAll.take n t)
theorem Rw.take {k : Nat} : ∀ {ws : List PyData} {w m : Nat} (n : Nat), Rw k w m ws → ∃ w' m', Rw k w' m' (ws.take n) ∧ m' ≤ m
  | _, _, _, 0, _ => ⟨0, 0, .nil, Nat.zero_le _⟩
  | _, _, _, n + 1, .nil => ⟨0, 0, .nil, Nat.le_refl _⟩
  | _, _, _, n + 1, .txt h t => by
    obtain ⟨w', m', a, b⟩ := Rw.take n t
    exact ⟨_, _, .txt h a, by omega⟩
  | _, _, _, n + 1, .push h t => by
    obtain ⟨w', m', a, b⟩ := Rw.take n t
    exact ⟨_, _, .push h a, by omega⟩
def spCut (K : Frag) : Sp := fun vs H Q _ => ∃ (b : Addr) (xs : List V) (rs : List PyData) (k w m : Nat) (cap : Int), vs = [.ref b, .int cap] ∧ 1 ≤ cap ∧ H b = some (.lst xs) ∧ TrAll K H xs rs ∧ Rw k w m rs ∧ m ≤ 1000 ∧ k ≤ 8 ∧
  ∀ (t : Addr) (rs' : List PyData) (w' m' : Nat) (H' : Hp), Tr K H' (.ref t) (.tuple rs') → Rw k w' m' rs' → m' ≤ m → Same H H' → Q (.ref t) H'
theorem scCut : FnScope ["_law_words", "_law_most"] ["_law_words", "_law_most"] (defScope sCut) := ⟨rfl, rfl, rfl, by decide +kernel, rfl, by decide +kernel, by decide +kernel⟩
theorem ok_cut {f g : Addr} {fd gd : FuncData} (F : Fun K "_law_cut" "_law_cut" sCut f fd) (G : FnOk P w K mg base CX0 11 g gd ["_law_things"] (spSize K 10)) (bG : L2.Binds K gd ["_law_things"] []) (kG : keepIn K (.ref g) = true) (mG : mg "_law_size" = some (.ref g)) (mtup : mg "tuple" = none) :
    FnOk P w K mg base CX0 12 f fd ["_law_words", "_law_most"] (spCut K) := by
  refine F.ok scCut (fun vs H Q E h => ?_) (fun cdv A outer s H vs Q E hr h => ?_)
  · obtain ⟨b, xs, rs, k, w, m, cap, rfl, _⟩ := h
    rfl
  obtain ⟨b, xs, rs, k, w, m, cap, rfl, hcap, hb, hx, hw, hm, hk, q⟩ := h
  refine ⟨_, pss_cons (ps_while PassesOwn.never (pt_cmpR op_gt (pe_call G hr rfl mG kG bG .nil pass0 (pa_cons (pe_lst (pa_cons (pe_tup (pa_cons pe_str (pa_cons (pv 0) pa_nil))) pa_nil)) pa_nil)) (pv 1) (nomark _))
      (pss_one (ps_set (i := 0) scCut.nd rfl (.inl rfl) (pe_slice sl_list (pv 0) po_none (po_some (pe_un un_neg pe_int))))))
    (pss_one (ps_ret (pe_callTy call_tuple_of (by rfl) mtup (by decide +kernel) (pa_cons (pv 0) pa_nil)))), ?_⟩
  refine ⟨fun mm σ H' => ∃ (b : Addr) (xs : List V) (rs : List PyData) (w' m' : Nat), σ = [some (.ref b), some (.int cap)] ∧ Same H H' ∧ H' b = some (.lst xs) ∧ TrAll K H' xs rs ∧ Rw k w' m' rs ∧ m' ≤ m ∧ mm = xs.length,
    ⟨_, b, xs, rs, w, m, rfl, fun _ _ h => h, hb, hx, hw, Nat.le_refl m, rfl⟩, ?_⟩
  rintro mm σ H1 ⟨b, xs, rs, w', m', rfl, s1, hb, hx, hw, hm', rfl⟩
  refine ⟨_, rfl, (by show 2 ≤ sizeLine; decide), fun p np => ⟨(by show 1 ≤ sizeLine; decide), fun l nl => ?_⟩⟩
  have s2 : Same H1 (upd (upd H1 p (.tup [.str "row", .ref b])) l (.lst [.ref p])) := (same_new np _).trans (same_new nl _)
  have hp : upd (upd H1 p (.tup [.str "row", .ref b])) l (.lst [.ref p]) p = some (.tup [.str "row", .ref b]) := kn upd_same nl
  have hl : upd (upd H1 p (.tup [.str "row", .ref b])) l (.lst [.ref p]) l = some (.lst [.ref p]) := upd_same
  generalize upd (upd H1 p (.tup [.str "row", .ref b])) l (.lst [.ref p]) = H2 at s2 hp hl
  obtain ⟨sz, hz⟩ := ZW.of hw (by omega) hx
  have lx := hx.len
  have lw := hw.len
  have hz2 : ZA K H2 10 [.ref p] (1 + xs.length + sz + 0) := .cons (.row (k := k + 1) (Nat.succ_pos k) (by omega) (SqT.of hp) (.inl (SqL.of (s2 _ _ hb))) (by omega) (hz.keep s2)) .nil
  refine ⟨l, _, _, by decide, rfl, .inl (SqL.of hl), hz2, fun H3 s3 => ?_⟩
  have s13 := s2.trans s3
  refine ⟨_, rfl, _, _, rfl, rfl, _, rfl, ite2 (fun c => ?_) (fun c => ?_)⟩
  · have c' : cap < ((1 + xs.length + sz + 0 : Nat) : Int) := of_decide_eq_true c
    have nx : xs ≠ [] := by
      rintro rfl
      cases hz
      have e : ((1 + ([] : List V).length + 0 + 0 : Nat) : Int) = 1 := rfl
      rw [e] at c'
      omega
    have lpos : 0 < xs.length := List.length_pos_iff.mpr nx
    refine ⟨fun σ' H4 => ∃ (b : Addr) (ys : List V) (rs : List PyData) (w' m' : Nat), σ' = [some (.ref b), some (.int cap)] ∧ Same H H4 ∧ H4 b = some (.lst ys) ∧ TrAll K H4 ys rs ∧ Rw k w' m' rs ∧ m' ≤ m ∧ ys.length < xs.length, ?_, ?_⟩
    · rintro σ' H4 ⟨b, ys, rs, w', m', rfl, a1, a2, a3, a4, a5, a6⟩
      exact ⟨_, a6, b, ys, rs, w', m', rfl, a1, a2, a3, a4, a5, rfl⟩
    · refine ⟨_, rfl, _, rfl, _, rfl, b, _, rfl, SqL.of (s13 _ _ hb), fun b2 nb => ?_⟩
      rw [cut_last]
      obtain ⟨w2, m2, hw2, hm2⟩ := Rw.take (xs.length - 1) hw
      refine ⟨b2, xs.take (xs.length - 1), rs.take (xs.length - 1), w2, m2, rfl, (s1.trans s13).trans (same_new nb _), upd_same, ?_, hw2, by omega, ?_⟩
      · exact (TrAll.take _ hx).mono (.of (s13.trans (same_new nb _)))
      · rw [List.length_take]; omega
  · refine ⟨_, rfl, b, xs, rfl, .inl ⟨SqL.of (s13 _ _ hb), fun t nt => ?_⟩⟩
    exact q t rs w' m' _ (.tup (SqT.of upd_same) (hx.mono (.of (s13.trans (same_new nt _))))) hw hm' ((s1.trans s13).trans (same_new nt _))
end
end K10
namespace K10
open PySem PySem.W L2 SX Cm
/-- how large a thing of this depth may be -/
def BT : Nat → Nat
  | 0 => 1
  | k + 1 => 1 + 6 * (1 + BT k)
theorem BT2 : ∀ {j : Nat}, j ≤ 2 → BT j ≤ 85
  | 0, _ => by decide
  | 1, _ => by decide
  | 2, _ => by decide
  | n + 3, h => absurd h (by omega)
section
variable {P : Program} {w : World} {K : PySem.W.Frag} {mg : Str → Option Value} {base : Heap}
abbrev A2 : List Str := ["_law_deck_here", "_law_deep"]
def spThing (K : Frag) (k : Nat) : Sp := fun vs H Q _ => ∃ (d : Addr) (j : Nat), k = j + 1 ∧ vs = [.ref d, .int j] ∧ j ≤ 3 ∧ Dk H d ∧ ∀ (v : V) (t : PyData) (n m : Nat) (H' : Hp), Tr K H' v t → Thg j n m t → m ≤ BT j → Kp [d] H H' → Dk H' d → Q v H'
/-- one word, as a row of one -/
def spAny (K : Frag) (k : Nat) : Sp := fun vs H Q _ => ∃ (d : Addr) (j : Nat), k = j + 1 ∧ vs = [.ref d, .int j] ∧ j ≤ 3 ∧ Dk H d ∧ ∀ (v : V) (y : PyData) (n m : Nat) (H' : Hp), Tr K H' v y → Rw j n m [y] → m ≤ 1 + BT j → Kp [d] H H' → Dk H' d → Q v H'
def basics : List Str := ["plus", "minus", "times", "less", "same", "do", "dip", "if", "while", "repeat", "join", "wrap", "put"]
def basics2 : List Str := ["plus", "minus", "times", "less", "same", "do", "dip", "if", "while", "repeat", "join", "wrap", "put", "part", "each"]
theorem basics_tx : ∀ z ∈ basics2, litB z 6 = true := by decide +kernel
abbrev NWd : List Str := ["_law_deck_here", "_law_deep", "_law_basic", "_law_way"]
theorem scAny : FnScope NWd A2 (defScope sAnyWord) := ⟨rfl, rfl, rfl, by decide +kernel, rfl, by decide +kernel, by decide +kernel⟩
theorem ok_any {k : Nat} {f g gt gs : Addr} {fd gd gtd gsd : FuncData} (F : Fun K "_law_any_word" "_law_any_word" sAnyWord f fd) (G : FnOk P w K mg base CX0 2 g gd ["_law_deck_here", "_law_most"] spDraw) (bG : L2.Binds K gd ["_law_deck_here", "_law_most"] []) (kG : keepIn K (.ref g) = true) (mG : mg "_law_draw" = some (.ref g))
    (T : FnOk P w K mg base CX0 (13 + 2 * k) gt gtd A2 (spThing K k)) (bT : L2.Binds K gtd A2 []) (kT : keepIn K (.ref gt) = true) (mT : mg "_law_thing" = some (.ref gt))
    (Z : FnOk P w K mg base CX0 3 gs gsd ["_law_deck_here", "_law_most"] spShuffle) (bZ : L2.Binds K gsd ["_law_deck_here", "_law_most"] []) (kZ : keepIn K (.ref gs) = true) (mZ : mg "_law_shuffle" = some (.ref gs)) : FnOk P w K mg base CX0 (13 + 2 * k + 1) f fd A2 (spAny K k) := by
  refine F.ok scAny (fun vs H Q E h => ?_) (fun cdv A outer s H vs Q E hr h => ?_)
  · obtain ⟨d, j, _, rfl, _⟩ := h
    rfl
  obtain ⟨d, j, ek, rfl, hj, g0, q⟩ := h
  have hr2 := hr.mono (j := 2) (by omega)
  have hr3 := hr.mono (j := 3) (by omega)
  refine ⟨_, pss_cons (ps_set (i := 2) scAny.nd rfl (.inl rfl) (pe_lst (pa_cons pe_str (pa_cons pe_str (pa_cons pe_str (pa_cons pe_str (pa_cons pe_str (pa_cons pe_str (pa_cons pe_str (pa_cons pe_str (pa_cons pe_str (pa_cons pe_str (pa_cons pe_str (pa_cons pe_str (pa_cons pe_str pa_nil)))))))))))))))
    (pss_cons (ps_set (i := 3) scAny.nd rfl (.inl rfl) (pe_call G hr2 rfl mG kG bG .nil pass0 (pa_cons (pv 0) (pa_cons pe_int pa_nil))))
    (pss_cons (ps_if (pt_cmpR op_lt (pv 3) pe_int (nomark _)) (pss_one (ps_ret (pe_tup (pa_cons pe_str (pa_cons (pe_call T hr rfl mT kT bT .nil pass0 (pa_cons (pv 0) (pa_cons (pv 1) pa_nil))) pa_nil))))) pss_nil)
    (pss_cons (ps_if (pt_cmpR op_lt (pv 3) pe_int (nomark _)) (pss_one (ps_ret (pe_call Z hr3 rfl mZ kZ bZ .nil pass0 (pa_cons (pv 0) (pa_cons (pe_ix ix_list (pe_lst (pa_cons pe_int (pa_cons pe_int pa_nil))) (pe_op op_fdiv (pe_call G hr2 rfl mG kG bG .nil pass0 (pa_cons (pv 0) (pa_cons pe_int pa_nil))) pe_int) (fun _ _ => rfl)) pa_nil))))) pss_nil)
    (pss_one (ps_ret (pe_ix ix_list (pe_op op_cat (pv 2) (pe_lst (pa_cons pe_str (pa_cons pe_str pa_nil)))) (pe_call G hr2 rfl mG kG bG .nil pass0 (pa_cons (pv 0) (pa_cons pe_int pa_nil))) (fun _ _ => rfl))))))), ?_⟩
  refine ⟨(by show 13 ≤ sizeLine; decide), fun b nb => ?_⟩
  have nbd := g0.nd nb
  have g1 := g0.new nb (o := .lst (basics.map V.str))
  have k1 : Kp [d] H (upd H b (.lst (basics.map V.str))) := (Kp.refl _ H).new nb
  have hb1 : upd H b (.lst (basics.map V.str)) b = some (.lst (basics.map V.str)) := upd_same
  refine ⟨_, rfl, d, 8, rfl, g1, by decide, by decide, fun r H2 _ _ k2 g2 => ?_⟩
  have kk2 := k1.trans k2
  have hb2 : H2 b = some (.lst (basics.map V.str)) := k2 b _ nbd hb1
  have txt : ∀ (z : Str) (H' : Hp), Tx z 100 → Kp [d] H2 H' → Dk H' d → Q (.str z) H' := fun z H' tz k4 D4 =>
    q _ _ _ _ H' (.str z) (.txt tz .nil) (by show 0 + 1 ≤ _; omega) (kk2.trans k4) D4
  refine ⟨_, rfl, _, _, rfl, rfl, _, rfl, ite2 (fun _ => ?_) (fun _ => ?_)⟩
  · refine ⟨_, rfl, _, rfl, d, j, ek, rfl, hj, g2, fun v t n m H3 hv ht hm k3 g3 => ⟨(by show 2 ≤ sizeLine; decide), fun p np => ?_⟩⟩
    refine q _ _ _ _ _ (.tup (SqT.of upd_same) (.cons (.str _) (.cons (hv.mono (.of (same_new np _))) .nil))) (.push ht .nil) ?_ ((kk2.trans k3).new np) (g3.new np)
    show m + 0 + 1 ≤ 1 + BT j
    omega
  refine ⟨_, rfl, _, _, rfl, rfl, _, rfl, ite2 (fun _ => ?_) (fun _ => ?_)⟩
  · refine ⟨_, rfl, (by show 2 ≤ sizeLine; decide), fun p hp => ?_⟩
    refine ⟨_, rfl, d, 8, rfl, g2.new hp, by decide, by decide, fun u H3 u0 u8 k3 g3 => ?_⟩
    have hp3 : H3 p = some (.lst [.int 3, .int 8]) := k3 p _ (g2.nd hp) upd_same
    obtain ⟨wd, w0, w1, aw⟩ : ∃ wd : Int, 0 ≤ wd ∧ wd ≤ 8 ∧ atI [V.int 3, V.int 8] (u / 7) = some (.int wd) := by
      have e : u / 7 = 0 ∨ u / 7 = 1 := by omega
      rcases e with e | e
      · rw [e]; exact ⟨3, by decide, by decide, atI_nat (j := 0) rfl⟩
      · rw [e]; exact ⟨8, by decide, by decide, atI_nat (j := 1) rfl⟩
    refine ⟨_, _, rfl, rfl, ⟨by decide, by decide⟩, p, _, _, _, rfl, rfl, SqL.of hp3, aw, ?_⟩
    exact ⟨d, wd, rfl, g3, w0, w1, fun n l H4 sh k4 g4 => txt _ H4 sh.tx (((Kp.refl _ H2).new hp |>.trans k3).trans k4) g4⟩
  · refine ⟨_, rfl, (by show 2 ≤ sizeLine; decide), fun p hp => ?_⟩
    refine ⟨b, p, _, _, rfl, rfl, kn hb2 hp, upd_same, (by show 15 ≤ sizeLine; decide), fun b3 nb3 => ?_⟩
    refine ⟨_, rfl, d, 15, rfl, (g2.new hp).new nb3, by decide, by decide, fun r4 H4 r40 r41 k4 g4 => ?_⟩
    obtain ⟨v, hv, ha⟩ := pick (xs := basics2.map V.str) (n := 15) r40 r41 rfl
    obtain ⟨z, hz, rfl⟩ := List.mem_map.mp hv
    exact ⟨b3, _, _, _, rfl, rfl, SqL.of (k4 b3 _ ((g2.new hp).nd nb3) upd_same), ha, txt z H4 ((Tx.lit (basics_tx z hz)).mono (by decide)) ((((Kp.refl _ H2).new hp).new nb3).trans k4) g4⟩
end
end K10
namespace K10
open PySem PySem.W L2 SX Cm
section
variable {P : Program} {w : World} {K : PySem.W.Frag} {mg : Str → Option Value} {base : Heap}
abbrev NT : List Str := ["_law_deck_here", "_law_deep", "_law_way", "_law_some", "_law_k"]
theorem scThing : FnScope NT A2 (defScope sThing) := ⟨rfl, rfl, rfl, by decide +kernel, rfl, by decide +kernel, by decide +kernel⟩
theorem ok_thing0 {f : Addr} {fd : FuncData} (F : Fun K "_law_thing" "_law_thing" sThing f fd) : FnOk P w K mg base CX0 13 f fd A2 (spThing K 0) := by
  refine F.ok scThing (fun vs H Q E h => ?_) (fun cdv A outer s H vs Q E hr h => ?_)
  · obtain ⟨d, j, h, _⟩ := h
    cases h
  · obtain ⟨d, j, h, _⟩ := h
    cases h
theorem ok_thing {k : Nat} {f g gn ga gc gt : Addr} {fd gd gnd gad gcd gtd : FuncData} (F : Fun K "_law_thing" "_law_thing" sThing f fd) (G : FnOk P w K mg base CX0 2 g gd ["_law_deck_here", "_law_most"] spDraw) (bG : L2.Binds K gd ["_law_deck_here", "_law_most"] []) (kG : keepIn K (.ref g) = true) (mG : mg "_law_draw" = some (.ref g))
    (N : FnOk P w K mg base CX0 3 gn gnd ["_law_deck_here"] spNumber) (bN : L2.Binds K gnd ["_law_deck_here"] []) (kN : keepIn K (.ref gn) = true) (mN : mg "_law_number" = some (.ref gn))
    (B : FnOk P w K mg base CX0 (13 + 2 * k + 1) ga gad A2 (spAny K k)) (bB : L2.Binds K gad A2 []) (kB : keepIn K (.ref ga) = true) (mB : mg "_law_any_word" = some (.ref ga))
    (T : FnOk P w K mg base CX0 (13 + 2 * k) gt gtd A2 (spThing K k)) (bT : L2.Binds K gtd A2 []) (kT : keepIn K (.ref gt) = true) (mT : mg "_law_thing" = some (.ref gt))
    (C : FnOk P w K mg base CX0 12 gc gcd ["_law_words", "_law_most"] (spCut K)) (bC : L2.Binds K gcd ["_law_words", "_law_most"] []) (kC : keepIn K (.ref gc) = true) (mC : mg "_law_cut" = some (.ref gc))
    (mrange : mg "range" = none) (mtup : mg "tuple" = none) : FnOk P w K mg base CX0 (13 + 2 * k + 1 + 1) f fd A2 (spThing K (k + 1)) := by
  refine F.ok scThing (fun vs H Q E h => ?_) (fun cdv A outer s H vs Q E hr h => ?_)
  · obtain ⟨d, j, _, rfl, _⟩ := h
    rfl
  obtain ⟨d, j, ek, rfl, hj, g0, q⟩ := h
  obtain rfl : k = j := Nat.succ.inj ek
  have hr2 := hr.mono (j := 2) (by omega)
  have hr3 := hr.mono (j := 3) (by omega)
  have hr12 := hr.mono (j := 12) (by omega)
  have hrT := hr.mono (j := 13 + 2 * k) (by omega)
  refine ⟨_, pss_cons (ps_set (i := 2) scThing.nd rfl (.inl rfl) (pe_call G hr2 rfl mG kG bG .nil pass0 (pa_cons (pv 0) (pa_cons pe_int pa_nil))))
    (pss_cons (ps_if (PW.pt (pw_or (pt_cmpR op_eq (pv 1) pe_int (nomark _)) (pw_or1 (pt_cmpR op_lt (pv 2) pe_int (nomark _))))) (pss_one (ps_ret (pe_tup (pa_cons pe_str (pa_cons (pe_call N hr3 rfl mN kN bN .nil pass0 (pa_cons (pv 0) pa_nil)) pa_nil))))) pss_nil)
    (pss_cons (ps_set (i := 3) scThing.nd rfl (.inl rfl) (pe_ix ix_list (pe_lst (pa_cons (pe_call G hr2 rfl mG kG bG .nil pass0 (pa_cons (pv 0) (pa_cons pe_int pa_nil))) (pa_cons (pe_call G hr2 rfl mG kG bG .nil pass0 (pa_cons (pv 0) (pa_cons pe_int pa_nil))) (pa_cons (pe_call G hr2 rfl mG kG bG .nil pass0 (pa_cons (pv 0) (pa_cons pe_int pa_nil))) pa_nil)))) (pe_call G hr2 rfl mG kG bG .nil pass0 (pa_cons (pv 0) (pa_cons pe_int pa_nil))) (fun _ _ => rfl)))
    (pss_cons (ps_if (pt_cmpR op_lt (pv 2) pe_int (nomark _)) (pss_one (ps_ret (pe_tup (pa_cons pe_str (pa_cons (pe_call C hr12 rfl mC kC bC .nil pass0 (pa_cons (pe_lc (own := [("_law_k", 4)]) (g := gName 4) (tt := tYes) rfl scThing.nd (pi_range1 rfl mrange (pa_cons (pv 3) pa_nil)) (blkOk_by (own := [("_law_k", 4)]) (N := NT) (sc := defScope sThing) (by decide +kernel))
        (fun _ _ _ _ _ => pg_name (i := 4) scThing.nd rfl (Or.inl rfl)) (fun _ _ _ _ _ => pts_nil) (fun _ _ _ _ _ => pe_call B hr rfl mB kB bB .nil pass0 (pa_cons (pv 0) (pa_cons (pe_op op_sub (pv 1) pe_int) pa_nil)))) (pa_cons pe_int pa_nil))) pa_nil))))) pss_nil)
    (pss_one (ps_ret (pe_tup (pa_cons pe_str (pa_cons (pe_callTy call_tuple_of (by rfl) mtup (by decide +kernel) (pa_cons (pe_lc (own := [("_law_k", 4)]) (g := gName 4) (tt := tYes) rfl scThing.nd (pi_range1 rfl mrange (pa_cons (pv 3) pa_nil)) (blkOk_by (own := [("_law_k", 4)]) (N := NT) (sc := defScope sThing) (by decide +kernel))
        (fun _ _ _ _ _ => pg_name (i := 4) scThing.nd rfl (Or.inl rfl)) (fun _ _ _ _ _ => pts_nil) (fun _ _ _ _ _ => pe_call T hrT rfl mT kT bT .nil pass0 (pa_cons (pv 0) (pa_cons (pe_op op_sub (pv 1) pe_int) pa_nil)))) pa_nil)) pa_nil)))))))), ?_⟩
  refine ⟨_, rfl, d, 6, rfl, g0, by decide, by decide, fun r H1 _ _ k1 g1 => ?_⟩
  have num : ∀ (n : Int) (H2 : Hp), 0 ≤ n → n < 10 ^ 12 → Kp [d] H1 H2 → Dk H2 d → ∀ p, H2 p = none → Q (.ref p) (upd H2 p (.tup [.str "number", .int n])) := fun n H2 n0 n1 k2 D2 p np =>
    q _ _ _ _ _ (.tup (SqT.of upd_same) (.cons (.str _) (.cons (.int _) .nil))) (.num n n0 n1) (by cases k with | zero => exact Nat.le_refl 1 | succ j => show 1 ≤ 1 + _; omega) ((k1.trans k2).new np) (D2.new np)
  refine ⟨_, rfl, rfl, _, rfl, ?_⟩
  cases k with
  | zero =>
    refine iteT (iteT ?_)
    exact ⟨_, rfl, d, rfl, g1, fun n H2 n0 n1 k2 D2 => ⟨(by show 2 ≤ sizeLine; decide), fun p np => num n H2 n0 n1 k2 D2 p np⟩⟩
  | succ j =>
    have nz : decide (V.int ((j + 1 : Nat) : Int) = V.int 0) = false := decide_eq_false (fun z => by have := V.int.inj z; omega)
    have dk : (((j + 1 : Nat) : Int) - 1) = (j : Int) := by omega
    have bt := BT2 (j := j) (by omega)
    have bj : BT (j + 1) = 1 + 6 * (1 + BT j) := rfl
    rw [nz]
    refine iteF ?_
    refine ⟨_, rfl, _, _, rfl, rfl, _, rfl, ite2 (fun _ => ?_) (fun _ => ?_)⟩
    · exact ⟨_, rfl, d, rfl, g1, fun n H2 n0 n1 k2 D2 => ⟨(by show 2 ≤ sizeLine; decide), fun p np => num n H2 n0 n1 k2 D2 p np⟩⟩
    refine ⟨_, rfl, d, 4, rfl, g1, by decide, by decide, fun a2 H2 a20 a21 k2 g2 => ?_⟩
    refine ⟨_, rfl, d, 4, rfl, g2, by decide, by decide, fun a3 H3 a30 a31 k3 g3 => ?_⟩
    refine ⟨_, rfl, d, 7, rfl, g3, by decide, by decide, fun a4 H4 a40 a41 k4 g4 => ⟨(by show 3 ≤ sizeLine; decide), fun p np => ?_⟩⟩
    refine ⟨_, rfl, d, 3, rfl, g4.new np, by decide, by decide, fun a5 H5 a50 a51 k5 g5 => ?_⟩
    have kk5 : Kp [d] H H5 := ((((k1.trans k2).trans k3).trans k4).new np).trans k5
    obtain ⟨v, hv, ha⟩ := pick (xs := [V.int a2, .int a3, .int a4]) (n := 3) a50 a51 rfl
    obtain ⟨n, n0, n1, rfl⟩ : ∃ n : Int, 0 ≤ n ∧ n ≤ 6 ∧ v = .int n := by
      simp only [List.mem_cons, List.not_mem_nil, or_false] at hv
      rcases hv with h | h | h
      · exact ⟨_, a20, by omega, h⟩
      · exact ⟨_, a30, by omega, h⟩
      · exact ⟨_, a40, by omega, h⟩
    refine ⟨p, _, _, _, rfl, rfl, SqL.of (k5 p _ (g4.nd np) upd_same), ha, ?_⟩
    obtain ⟨n, rfl⟩ := Int.eq_ofNat_of_zero_le n0
    refine ⟨_, rfl, _, _, rfl, rfl, _, rfl, ite2 (fun _ => ?_) (fun _ => ?_)⟩
    · refine ⟨_, rfl, _, rfl, by omega, by omega, fun L nL => lc_range (lo := 0) (n := n) (fun i H' => ∃ (acc : List V) (ts : List PyData) (a b : Nat), H' L = some (.lst acc) ∧ TrAll K H' acc ts ∧ Rw j a b ts ∧ b ≤ i * (1 + BT j) ∧ acc.length = i ∧ Kp [d] H H' ∧ Dk H' d)
        ⟨[], [], 0, 0, upd_same, .nil, .nil, Nat.zero_le _, rfl, kk5.new nL, g5.new nL⟩ ?_ ?_⟩
      · rintro i H6 hi ⟨acc, ts, a, b, e1, e2, e3, e4, e5, k6, g6⟩
        have nLd : L ∉ [d] := g5.nd nL
        have mul : (i + 1) * (1 + BT j) = i * (1 + BT j) + (1 + BT j) := Nat.succ_mul i (1 + BT j)
        refine ⟨rfl, _, rfl, _, rfl, _, _, rfl, rfl, d, j, rfl, congrArg (fun i : Int => [V.ref d, V.int i]) dk, by omega, g6, fun v y n2 m2 H7 hv hy hm k7 g7 => ?_⟩
        have hL : H7 L = some (.lst acc) := k7 L _ nLd e1
        have tk := (g6.tks (K := K) k7).trans (TKs.lst (ys := acc ++ [v]) hL)
        exact ⟨acc, hL, small1000 (by omega), acc ++ [v], ts ++ [y], a + n2, b + m2, upd_same, (e2.mono tk).append (.cons (hv.mono (TKs.lst hL)) .nil), e3.append hy, by omega, by rw [List.length_append, e5]; rfl, (k6.trans k7).put (kk5.free nL nLd), g7.put nLd⟩
      · rintro H6 ⟨acc, ts, a, b, e1, e2, e3, e4, e5, k6, g6⟩
        have : n * (1 + BT j) ≤ 6 * (1 + BT j) := Nat.mul_le_mul_right _ (by omega)
        refine ⟨L, acc, ts, j, a, b, 24, rfl, by decide, e1, e2, e3, by omega, by omega, fun t rs' w' m' H7 ht hr' hm s7 => ⟨(by show 2 ≤ sizeLine; decide), fun p2 np2 => ?_⟩⟩
        refine q _ _ _ _ _ (.tup (SqT.of upd_same) (.cons (.str _) (.cons (ht.mono (.of (same_new np2 _))) .nil))) (.row hr' (Nat.lt_succ_self j)) ?_ ((k6.trans (.of s7)).new np2) ?_
        · omega
        · obtain ⟨ms, e, l⟩ := g6
          exact Dk.new ⟨ms, s7 _ _ e, l⟩ np2
    · refine ⟨_, rfl, _, rfl, by omega, by omega, fun L nL => lc_range (lo := 0) (n := n) (fun i H' => ∃ (acc : List V) (ts : List PyData) (a b : Nat), H' L = some (.lst acc) ∧ TrAll K H' acc ts ∧ Stk j a b ts ∧ b ≤ i * (1 + BT j) ∧ acc.length = i ∧ Kp [d] H H' ∧ Dk H' d)
        ⟨[], [], 0, 0, upd_same, .nil, .nil, Nat.zero_le _, rfl, kk5.new nL, g5.new nL⟩ ?_ ?_⟩
      · rintro i H6 hi ⟨acc, ts, a, b, e1, e2, e3, e4, e5, k6, g6⟩
        have nLd : L ∉ [d] := g5.nd nL
        have mul : (i + 1) * (1 + BT j) = i * (1 + BT j) + (1 + BT j) := Nat.succ_mul i (1 + BT j)
        refine ⟨rfl, _, rfl, _, rfl, _, _, rfl, rfl, d, j, rfl, congrArg (fun i : Int => [V.ref d, V.int i]) dk, by omega, g6, fun v y n2 m2 H7 hv hy hm k7 g7 => ?_⟩
        have hL : H7 L = some (.lst acc) := k7 L _ nLd e1
        have tk := (g6.tks (K := K) k7).trans (TKs.lst (ys := acc ++ [v]) hL)
        have hy' : Stk j (n2 + 0) (m2 + 0) [y] := .cons hy .nil
        exact ⟨acc, hL, small1000 (by omega), acc ++ [v], ts ++ [y], a + (n2 + 0), b + (m2 + 0), upd_same, (e2.mono tk).append (.cons (hv.mono (TKs.lst hL)) .nil), e3.append hy', by omega, by rw [List.length_append, e5]; rfl, (k6.trans k7).put (kk5.free nL nLd), g7.put nLd⟩
      · rintro H6 ⟨acc, ts, a, b, e1, e2, e3, e4, e5, k6, g6⟩
        have : n * (1 + BT j) ≤ 6 * (1 + BT j) := Nat.mul_le_mul_right _ (by omega)
        refine ⟨L, acc, rfl, .inl ⟨SqL.of e1, fun t nt => ⟨(by show 2 ≤ sizeLine; decide), fun p2 np2 => ?_⟩⟩⟩
        have s7 := (same_new nt (.tup acc)).trans (same_new np2 (.tup [.str "list", .ref t]))
        exact q _ _ _ _ _ (.tup (SqT.of upd_same) (.cons (.str _) (.cons (.tup (SqT.of (kn upd_same np2)) (e2.mono (.of s7))) .nil))) (.lst e3 (Nat.lt_succ_self j)) (by omega) ((k6.new nt).new np2) ((g6.new nt).new np2)
end
end K10
namespace K10
open PySem PySem.W L2 SX Cm
abbrev sPushRow : Stmt := top 5
abbrev sJoin : Stmt := top 27
abbrev sWrap : Stmt := top 28
abbrev sPut : Stmt := top 29
abbrev sPart : Stmt := top 30
abbrev sEach : Stmt := top 31
/-- what a deed leaves and what lies ahead, out of what it holds -/
abbrev Deed := List PyData → Option PyData
def two (l a : List PyData) : PyData := .tuple [.tuple l, .tuple a]
def cJoin : Deed
  | [.tuple p, .tuple q] => some (two [.tuple [.str "row", .tuple (p ++ q)]] [])
  | _ => none
def cWrap : Deed
  | [x] => some (two [.tuple [.str "row", .tuple [.tuple [.str "push", x]]]] [])
  | _ => none
def cPut : Deed
  | [.tuple t, x] => some (two [.tuple [.str "list", .tuple (t ++ [x])]] [])
  | _ => none
def cPart : Deed
  | [.tuple [], .tuple _, .tuple q] => some (two [] q)
  | [.tuple (x :: t), .tuple p, .tuple _] => some (two [x, .tuple [.str "list", .tuple t]] p)
  | _ => none
def cEach : Deed
  | [.tuple [], .tuple _] => some (two [] [])
  | [.tuple (x :: t), .tuple p] => some (two [x] (p ++ [.tuple [.str "push", .tuple [.str "list", .tuple t]], .tuple [.str "push", .tuple [.str "row", .tuple p]], .str "each"]))
  | _ => none
/-- no tuple among them is too long -/
def lenB : List PyData → Bool
  | [] => true
  | .tuple t :: r => decide (t.length ≤ 1000) && lenB r
  | _ :: r => lenB r
section
variable {P : Program} {w : World} {K : PySem.W.Frag} {mg : Str → Option Value} {base : Heap}
def spDo (K : Frag) (c : Deed) : Sp := fun vs H Q _ => ∃ (l : Addr) (xs : List V) (ds : List PyData) (d : PyData), vs = [.ref l] ∧ SqL K H l xs ∧ TrAll K H xs ds ∧ lenB ds = true ∧ c ds = some d ∧ ∀ (r : V) (H' : Hp), Same H H' → Tr K H' r d → Q r H'
def spPush (K : Frag) : Sp := fun vs H Q _ => ∃ (v : V) (d : PyData), vs = [v] ∧ Tr K H v d ∧ ∀ (r : V) (H' : Hp), Same H H' → Tr K H' r (.tuple [.str "push", .tuple [.str "row", d]]) → Q r H'
theorem scPush : FnScope ["row"] ["row"] (defScope sPushRow) := ⟨rfl, rfl, rfl, by decide +kernel, rfl, by decide +kernel, by decide +kernel⟩
theorem ok_push {f : Addr} {fd : FuncData} (F : Fun K "push_row" "push_row" sPushRow f fd) : FnOk P w K mg base CX0 1 f fd ["row"] (spPush K) := by
  refine F.ok scPush (fun vs H Q E h => ?_) (fun cdv A outer s H vs Q E hr h => ?_)
  · obtain ⟨v, d, rfl, _⟩ := h
    rfl
  obtain ⟨v, d, rfl, hv, q⟩ := h
  refine ⟨_, pss_one (ps_ret (pe_tup (pa_cons pe_str (pa_cons (pe_tup (pa_cons pe_str (pa_cons (pv 0) pa_nil))) pa_nil)))), ?_⟩
  refine ⟨_, rfl, (by show 2 ≤ sizeLine; decide), fun p np => ⟨(by show 2 ≤ sizeLine; decide), fun r nr => ?_⟩⟩
  exact q _ _ ((same_new np _).trans (same_new nr _)) (tupTr (.cons (.str _) (.cons (tupTr (.cons (.str _) (.cons hv .nil)) np) .nil)) nr)
theorem scJoin : FnScope ["held", "p", "q"] ["held"] (defScope sJoin) := ⟨rfl, rfl, rfl, by decide +kernel, rfl, by decide +kernel, by decide +kernel⟩
theorem ok_join {f : Addr} {fd : FuncData} (F : Fun K "join_does" "join_does" sJoin f fd) : FnOk P w K mg base CX0 2 f fd ["held"] (spDo K cJoin) := by
  refine F.ok scJoin (fun vs H Q E h => ?_) (fun cdv A outer s H vs Q E hr h => ?_)
  · obtain ⟨l, xs, ds, d, rfl, _⟩ := h
    rfl
  obtain ⟨l, xs, ds, d, rfl, hl, hx, hb, hc, q⟩ := h
  refine ⟨_, pss_cons (ps_asg (pv 0) (pg_unl rfl (pgs_cons (pg_name (i := 1) scJoin.nd rfl (.inl rfl)) (pgs_cons (pg_name (i := 2) scJoin.nd rfl (.inl rfl)) pgs_nil))))
    (pss_one (ps_ret (pe_tup (pa_cons (pe_tup (pa_cons (pe_tup (pa_cons pe_str (pa_cons (pe_op op_catA (pv 1) (pv 2)) pa_nil))) pa_nil)) (pa_cons (pe_tup pa_nil) pa_nil))))), ?_⟩
  unfold cJoin at hc
  split at hc
  case h_2 => cases hc
  rename_i p0 q0
  cases hc
  cases hx with
  | cons hp hx =>
    cases hx with
    | cons hq hx =>
      cases hx
      have hb' : (decide (p0.length ≤ 1000) && (decide (q0.length ≤ 1000) && true)) = true := hb
      simp only [Bool.and_true, Bool.and_eq_true, decide_eq_true_eq] at hb'
      refine ⟨_, rfl, l, _, rfl, hl, rfl, _, _, rfl, _, _, rfl, rfl, _, rfl, _, rfl, catTr hp hq (by omega) fun r H1 s1 h1 => ?_⟩
      refine ⟨(by show 2 ≤ sizeLine; decide), fun a na => ⟨(by show 1 ≤ sizeLine; decide), fun b nb => ⟨(by show 0 ≤ sizeLine; decide), fun c nc => ⟨(by show 2 ≤ sizeLine; decide), fun e ne => ?_⟩⟩⟩⟩
      have t1 := tupTr (K := K) (.cons (.str "row") (.cons h1 .nil)) na
      have t2 := tupTr (.cons t1 .nil) nb
      have t3 := tupTr (K := K) (H := upd (upd H1 a (.tup [.str "row", r])) b (.tup [.ref a])) .nil nc
      exact q _ _ ((((s1.trans (same_new na _)).trans (same_new nb _)).trans (same_new nc _)).trans (same_new ne _)) (tupTr (.cons (t2.mono (.of (same_new nc _))) (.cons t3 .nil)) ne)
theorem scWrap : FnScope ["held"] ["held"] (defScope sWrap) := ⟨rfl, rfl, rfl, by decide +kernel, rfl, by decide +kernel, by decide +kernel⟩
theorem ok_wrap {f : Addr} {fd : FuncData} (F : Fun K "wrap_does" "wrap_does" sWrap f fd) : FnOk P w K mg base CX0 2 f fd ["held"] (spDo K cWrap) := by
  refine F.ok scWrap (fun vs H Q E h => ?_) (fun cdv A outer s H vs Q E hr h => ?_)
  · obtain ⟨l, xs, ds, d, rfl, _⟩ := h
    rfl
  obtain ⟨l, xs, ds, d, rfl, hl, hx, hb, hc, q⟩ := h
  refine ⟨_, pss_one (ps_ret (pe_tup (pa_cons (pe_tup (pa_cons (pe_tup (pa_cons pe_str (pa_cons (pe_tup (pa_cons (pe_tup (pa_cons pe_str (pa_cons (pe_ix ix_list (pv 0) pe_int (fun _ _ => rfl)) pa_nil))) pa_nil)) pa_nil))) pa_nil)) (pa_cons (pe_tup pa_nil) pa_nil)))), ?_⟩
  unfold cWrap at hc
  split at hc
  case h_2 => cases hc
  rename_i x0
  cases hc
  cases hx with
  | cons hp hx =>
    cases hx
    refine ⟨_, rfl, l, _, 0, _, rfl, rfl, hl, atI_nat (j := 0) rfl, (by show 2 ≤ sizeLine; decide), fun a na => ⟨(by show 1 ≤ sizeLine; decide), fun b nb => ⟨(by show 2 ≤ sizeLine; decide), fun c nc => ⟨(by show 1 ≤ sizeLine; decide), fun e ne => ⟨(by show 0 ≤ sizeLine; decide), fun g ng => ⟨(by show 2 ≤ sizeLine; decide), fun r nr => ?_⟩⟩⟩⟩⟩⟩
    have t1 := tupTr (K := K) (.cons (.str "push") (.cons hp .nil)) na
    have t2 := tupTr (.cons t1 .nil) nb
    have t3 := tupTr (.cons (.str "row") (.cons t2 .nil)) nc
    have t4 := tupTr (.cons t3 .nil) ne
    have t5 := tupTr (K := K) .nil ng
    exact q _ _ ((((((same_new na _).trans (same_new nb _)).trans (same_new nc _)).trans (same_new ne _)).trans (same_new ng _)).trans (same_new nr _)) (tupTr (.cons (t4.mono (.of (same_new ng _))) (.cons t5 .nil)) nr)
theorem scPut : FnScope ["held", "things", "x"] ["held"] (defScope sPut) := ⟨rfl, rfl, rfl, by decide +kernel, rfl, by decide +kernel, by decide +kernel⟩
theorem ok_put {f : Addr} {fd : FuncData} (F : Fun K "put_does" "put_does" sPut f fd) : FnOk P w K mg base CX0 2 f fd ["held"] (spDo K cPut) := by
  refine F.ok scPut (fun vs H Q E h => ?_) (fun cdv A outer s H vs Q E hr h => ?_)
  · obtain ⟨l, xs, ds, d, rfl, _⟩ := h
    rfl
  obtain ⟨l, xs, ds, d, rfl, hl, hx, hb, hc, q⟩ := h
  refine ⟨_, pss_cons (ps_asg (pv 0) (pg_unl rfl (pgs_cons (pg_name (i := 1) scPut.nd rfl (.inl rfl)) (pgs_cons (pg_name (i := 2) scPut.nd rfl (.inl rfl)) pgs_nil))))
    (pss_one (ps_ret (pe_tup (pa_cons (pe_tup (pa_cons (pe_tup (pa_cons pe_str (pa_cons (pe_op op_catA (pv 1) (pe_tup (pa_cons (pv 2) pa_nil))) pa_nil))) pa_nil)) (pa_cons (pe_tup pa_nil) pa_nil))))), ?_⟩
  unfold cPut at hc
  split at hc
  case h_2 => cases hc
  rename_i p0 q0
  cases hc
  cases hx with
  | cons hp hx =>
    cases hx with
    | cons hq hx =>
      cases hx
      have hb1 : p0.length ≤ 1000 := by
        have hb' : (decide (p0.length ≤ 1000) && lenB [q0]) = true := hb
        rw [Bool.and_eq_true] at hb'
        exact of_decide_eq_true hb'.1
      refine ⟨_, rfl, l, _, rfl, hl, rfl, _, _, rfl, _, _, rfl, rfl, _, rfl, _, rfl, (by show 1 ≤ sizeLine; decide), fun z nz => ?_⟩
      refine catTr (hp.mono (.of (same_new nz _))) (tupTr (.cons hq .nil) nz) (by show p0.length + 1 ≤ 1000000; omega) fun r H1 s1 h1 => ?_
      refine ⟨(by show 2 ≤ sizeLine; decide), fun a na => ⟨(by show 1 ≤ sizeLine; decide), fun b nb => ⟨(by show 0 ≤ sizeLine; decide), fun c nc => ⟨(by show 2 ≤ sizeLine; decide), fun e ne => ?_⟩⟩⟩⟩
      have t1 := tupTr (K := K) (.cons (.str "list") (.cons h1 .nil)) na
      have t2 := tupTr (.cons t1 .nil) nb
      have t3 := tupTr (K := K) .nil nc
      exact q _ _ (((((same_new nz _).trans s1).trans (same_new na _)).trans (same_new nb _)).trans (same_new nc _) |>.trans (same_new ne _)) (tupTr (.cons (t2.mono (.of (same_new nc _))) (.cons t3 .nil)) ne)
end
end K10
namespace K10
open PySem PySem.W L2 SX Cm
section
variable {P : Program} {w : World} {K : PySem.W.Frag} {mg : Str → Option Value} {base : Heap}
theorem len0 {K : Frag} {H : Hp} {v : V} {t : List PyData} (h : Tr K H v (.tuple t)) : ∃ (a : Addr) (xs : List V), v = .ref a ∧ SqT K H a xs ∧ xs.length = t.length := by
  obtain ⟨a, xs, e, h1, h2⟩ := h.tupD
  exact ⟨a, xs, e, h1, h2.len⟩
theorem firstTr {K : Frag} {H : Hp} {v : V} {x : PyData} {t : List PyData} (h : Tr K H v (.tuple (x :: t))) : ∃ (a : Addr) (xs : List V) (u : V), v = .ref a ∧ SqT K H a xs ∧ atI xs 0 = some u ∧ Tr K H u x := by
  obtain ⟨a, xs, e, h1, h2⟩ := h.tupD
  cases h2 with
  | cons hu _ => exact ⟨a, _, _, e, h1, atI_nat (j := 0) rfl, hu⟩
theorem restPart {K : Frag} {H : Hp} {σ : St} {u : V} {d : PyData} {ds : List PyData} {Q : VK} (hu : Tr K H u (.tuple (d :: ds)))
    (q : ∀ (r : V) (H' : Hp), Same H H' → Tr K H' r (.tuple ds) → Q r H') : tNoPart σ H fun z H3 => rSlA K u (some 1) z H3 Q := restTr hu q
theorem scPart : FnScope ["held", "things", "p", "q"] ["held"] (defScope sPart) := ⟨rfl, rfl, rfl, by decide +kernel, rfl, by decide +kernel, by decide +kernel⟩
theorem ok_part {f : Addr} {fd : FuncData} (F : Fun K "part_does" "part_does" sPart f fd) (mlen : mg "len" = none) : FnOk P w K mg base CX0 2 f fd ["held"] (spDo K cPart) := by
  refine F.ok scPart (fun vs H Q E h => ?_) (fun cdv A outer s H vs Q E hr h => ?_)
  · obtain ⟨l, xs, ds, d, rfl, _⟩ := h
    rfl
  obtain ⟨l, xs, ds, d, rfl, hl, hx, hb, hc, q⟩ := h
  refine ⟨_, pss_cons (ps_asg (pv 0) (pg_unl rfl (pgs_cons (pg_name (i := 1) scPart.nd rfl (.inl rfl)) (pgs_cons (pg_name (i := 2) scPart.nd rfl (.inl rfl)) (pgs_cons (pg_name (i := 3) scPart.nd rfl (.inl rfl)) pgs_nil)))))
    (pss_cons (ps_if (pt_cmpR op_eq (pe_callB call_len_seq (by rfl) mlen PySem.boot_len (pa_cons (pv 1) pa_nil)) pe_int (nomark _)) (pss_one (ps_ret (pe_tup (pa_cons (pe_tup pa_nil) (pa_cons (pv 3) pa_nil))))) pss_nil)
    (pss_one (ps_ret (pe_tup (pa_cons (pe_tup (pa_cons (pe_ix ix_tup (pv 1) pe_int (fun _ _ => rfl)) (pa_cons (pe_tup (pa_cons pe_str (pa_cons (pe_slice sl_tupA (pv 1) (po_some pe_int) po_none) pa_nil))) pa_nil))) (pa_cons (pv 2) pa_nil)))))), ?_⟩
  unfold cPart at hc
  split at hc
  case h_3 => cases hc
  case h_1 =>
    rename_i p0 q0
    cases hc
    cases hx with
    | cons h1 hx =>
      cases hx with
      | cons h2 hx =>
        cases hx with
        | cons h3 hx =>
          cases hx
          obtain ⟨a, ys, rfl, ha, hy⟩ := len0 h1
          refine ⟨_, rfl, l, _, rfl, hl, rfl, _, _, rfl, _, _, rfl, _, _, rfl, rfl, ?_⟩
          refine ⟨_, rfl, a, _, rfl, .inr ha, rfl, _, rfl, ?_⟩
          rw [hy, decide_eq_true (show V.int ((List.length ([] : List PyData) : Nat) : Int) = V.int 0 from rfl)]
          refine iteT ?_
          refine ⟨(by show 0 ≤ sizeLine; decide), fun b nb => ⟨_, rfl, (by show 2 ≤ sizeLine; decide), fun r nr => ?_⟩⟩
          exact q _ _ ((same_new nb _).trans (same_new nr _)) (tupTr (.cons (tupTr .nil nb) (.cons (h3.mono (.of (same_new nb _))) .nil)) nr)
  case h_2 =>
    rename_i x0 t0 p0 q0
    cases hc
    cases hx with
    | cons h1 hx =>
      cases hx with
      | cons h2 hx =>
        cases hx with
        | cons h3 hx =>
          cases hx
          obtain ⟨a, ys, rfl, ha, hy⟩ := len0 h1
          obtain ⟨a', ys', u, ea, ha', hat, hu⟩ := firstTr h1
          refine ⟨_, rfl, l, _, rfl, hl, rfl, _, _, rfl, _, _, rfl, _, _, rfl, rfl, ?_⟩
          refine ⟨_, rfl, a, _, rfl, .inr ha, rfl, _, rfl, ?_⟩
          rw [hy, decide_eq_false (by intro z; have := V.int.inj z; rw [List.length_cons] at this; omega)]
          refine iteF ?_
          refine ⟨_, rfl, a', _, 0, _, ea, rfl, ha', hat, _, rfl, _, rfl, restPart h1 fun rr H1 s1 h4 => ?_⟩
          refine ⟨(by show 2 ≤ sizeLine; decide), fun b nb => ⟨(by show 2 ≤ sizeLine; decide), fun c nc => ⟨_, rfl, (by show 2 ≤ sizeLine; decide), fun r nr => ?_⟩⟩⟩
          have t1 := tupTr (K := K) (.cons (.str "list") (.cons h4 .nil)) nb
          have t2 := tupTr (.cons (hu.mono (.of (s1.trans (same_new nb _)))) (.cons t1 .nil)) nc
          exact q _ _ (((s1.trans (same_new nb _)).trans (same_new nc _)).trans (same_new nr _)) (tupTr (.cons t2 (.cons (h2.mono (.of ((s1.trans (same_new nb _)).trans (same_new nc _)))) .nil)) nr)
theorem scEach : FnScope ["held", "things", "p"] ["held"] (defScope sEach) := ⟨rfl, rfl, rfl, by decide +kernel, rfl, by decide +kernel, by decide +kernel⟩
theorem ok_each {f g : Addr} {fd gd : FuncData} (F : Fun K "each_does" "each_does" sEach f fd) (mlen : mg "len" = none) (G : FnOk P w K mg base CX0 1 g gd ["row"] (spPush K)) (bG : L2.Binds K gd ["row"] []) (kG : keepIn K (.ref g) = true) (mG : mg "push_row" = some (.ref g)) : FnOk P w K mg base CX0 2 f fd ["held"] (spDo K cEach) := by
  refine F.ok scEach (fun vs H Q E h => ?_) (fun cdv A outer s H vs Q E hr h => ?_)
  · obtain ⟨l, xs, ds, d, rfl, _⟩ := h
    rfl
  obtain ⟨l, xs, ds, d, rfl, hl, hx, hb, hc, q⟩ := h
  refine ⟨_, pss_cons (ps_asg (pv 0) (pg_unl rfl (pgs_cons (pg_name (i := 1) scEach.nd rfl (.inl rfl)) (pgs_cons (pg_name (i := 2) scEach.nd rfl (.inl rfl)) pgs_nil))))
    (pss_cons (ps_if (pt_cmpR op_eq (pe_callB call_len_seq (by rfl) mlen PySem.boot_len (pa_cons (pv 1) pa_nil)) pe_int (nomark _)) (pss_one (ps_ret (pe_tup (pa_cons (pe_tup pa_nil) (pa_cons (pe_tup pa_nil) pa_nil))))) pss_nil)
    (pss_one (ps_ret (pe_tup (pa_cons (pe_tup (pa_cons (pe_ix ix_tup (pv 1) pe_int (fun _ _ => rfl)) pa_nil)) (pa_cons (pe_op op_catA (pv 2) (pe_tup (pa_cons (pe_tup (pa_cons pe_str (pa_cons (pe_tup (pa_cons pe_str (pa_cons (pe_slice sl_tupA (pv 1) (po_some pe_int) po_none) pa_nil))) pa_nil))) (pa_cons (pe_call G hr rfl mG kG bG .nil pass0 (pa_cons (pv 2) pa_nil)) (pa_cons pe_str pa_nil))))) pa_nil)))))), ?_⟩
  unfold cEach at hc
  split at hc
  case h_3 => cases hc
  case h_1 =>
    rename_i p0
    cases hc
    cases hx with
    | cons h1 hx =>
      cases hx with
      | cons h2 hx =>
        cases hx
        obtain ⟨a, ys, rfl, ha, hy⟩ := len0 h1
        refine ⟨_, rfl, l, _, rfl, hl, rfl, _, _, rfl, _, _, rfl, rfl, ?_⟩
        refine ⟨_, rfl, a, _, rfl, .inr ha, rfl, _, rfl, ?_⟩
        rw [hy, decide_eq_true (show V.int ((List.length ([] : List PyData) : Nat) : Int) = V.int 0 from rfl)]
        refine iteT ?_
        refine ⟨(by show 0 ≤ sizeLine; decide), fun b nb => ⟨(by show 0 ≤ sizeLine; decide), fun c nc => ⟨(by show 2 ≤ sizeLine; decide), fun r nr => ?_⟩⟩⟩
        exact q _ _ (((same_new nb _).trans (same_new nc _)).trans (same_new nr _)) (tupTr (.cons ((tupTr .nil nb).mono (.of (same_new nc _))) (.cons (tupTr .nil nc) .nil)) nr)
  case h_2 =>
    rename_i x0 t0 p0
    cases hc
    cases hx with
    | cons h1 hx =>
      cases hx with
      | cons h2 hx =>
        cases hx
        have hb1 : p0.length ≤ 1000 := by
          have hb' : (decide ((x0 :: t0).length ≤ 1000) && (decide (p0.length ≤ 1000) && true)) = true := hb
          rw [Bool.and_eq_true, Bool.and_true] at hb'
          exact of_decide_eq_true hb'.2
        obtain ⟨a, ys, rfl, ha, hy⟩ := len0 h1
        obtain ⟨a', ys', u, ea, ha', hat, hu⟩ := firstTr h1
        refine ⟨_, rfl, l, _, rfl, hl, rfl, _, _, rfl, _, _, rfl, rfl, ?_⟩
        refine ⟨_, rfl, a, _, rfl, .inr ha, rfl, _, rfl, ?_⟩
        rw [hy, decide_eq_false (by intro z; have := V.int.inj z; rw [List.length_cons] at this; omega)]
        refine iteF ?_
        refine ⟨_, rfl, a', _, 0, _, ea, rfl, ha', hat, (by show 1 ≤ sizeLine; decide), fun o no => ?_⟩
        have so := same_new no (.tup [u])
        have to := tupTr (.cons hu .nil) no
        refine ⟨_, rfl, _, rfl, _, rfl, restPart (h1.mono (.of so)) fun rr H1 s1 h4 => ?_⟩
        refine ⟨(by show 2 ≤ sizeLine; decide), fun b nb => ⟨(by show 2 ≤ sizeLine; decide), fun c nc => ?_⟩⟩
        have t1 := tupTr (K := K) (.cons (.str "list") (.cons h4 .nil)) nb
        have t2 := tupTr (.cons (.str "push") (.cons t1 .nil)) nc
        have s2 := so.trans (s1.trans ((same_new nb (.tup [V.str "list", rr])).trans (same_new nc (.tup [V.str "push", .ref b]))))
        have s3 := s1.trans ((same_new nb (.tup [V.str "list", rr])).trans (same_new nc (.tup [V.str "push", .ref b])))
        refine ⟨_, rfl, _, _, rfl, h2.mono (.of s2), fun v H2 s4 h5 => ⟨(by show 3 ≤ sizeLine; decide), fun e ne => ?_⟩⟩
        have s5 := same_new ne (.tup [V.ref c, v, .str "each"])
        have t3 := tupTr (.cons (t2.mono (.of s4)) (.cons h5 (.cons (.str "each") .nil))) ne
        refine catTr (h2.mono (.of ((s2.trans s4).trans s5))) t3 (by show p0.length + 3 ≤ 1000000; omega) fun v2 H3 s6 h6 => ?_
        refine ⟨(by show 2 ≤ sizeLine; decide), fun r nr => ?_⟩
        exact q _ _ ((((s2.trans s4).trans s5).trans s6).trans (same_new nr _)) (tupTr (.cons (to.mono (.of (((s3.trans s4).trans s5).trans s6))) (.cons h6 .nil)) nr)
end
end K10
namespace K10
open PySem PySem.W L2 SX Cm
/-- what a thing is held as -/
def hldD (s : Str) (d : PyData) : Option PyData := if s = "any" then some d else match d with
  | .tuple [.str s', x] => if s' = s then some x else none
  | _ => none
section
variable {P : Program} {w : World} {K : PySem.W.Frag} {mg : Str → Option Value} {base : Heap}
def spHeld (K : Frag) : Sp := fun vs H Q _ => ∃ (s : Str) (v : V) (d e : PyData), vs = [.str s, v] ∧ Tr K H v d ∧ hldD s d = some e ∧ ∀ x, Tr K H x e → Q x H
theorem scHeld : FnScope ["sort", "thing"] ["sort", "thing"] (defScope sHeldAs) := ⟨rfl, rfl, rfl, by decide +kernel, rfl, by decide +kernel, by decide +kernel⟩
theorem ok_held {f : Addr} {fd : FuncData} (F : Fun K "held_as" "held_as" sHeldAs f fd) : FnOk P w K mg base CX0 1 f fd ["sort", "thing"] (spHeld K) := by
  refine F.ok scHeld (fun vs H Q E h => ?_) (fun cdv A outer s H vs Q E hr h => ?_)
  · obtain ⟨s, v, d, e, rfl, _⟩ := h
    rfl
  obtain ⟨s, v, d, e, rfl, hv, he, q⟩ := h
  refine ⟨_, pss_cons (ps_if (pt_cmpR op_eq (pv 0) pe_str (nomark _)) (pss_one (ps_ret (pv 1))) pss_nil)
    (pss_cons (ps_if (pt_cmpR op_ne (pe_ix ix_tup (pv 1) pe_int (fun _ _ => rfl)) (pv 0) (nomark _)) (pss_one ps_never) pss_nil)
    (pss_one (ps_ret (pe_ix ix_tup (pv 1) pe_int (fun _ _ => rfl))))), ?_⟩
  unfold hldD at he
  refine ⟨_, rfl, rfl, _, rfl, ?_⟩
  by_cases hs : s = "any"
  · rw [if_pos hs] at he
    cases he
    rw [decide_eq_true (congrArg V.str hs)]
    exact iteT ⟨_, rfl, q _ hv⟩
  · rw [if_neg hs] at he
    rw [decide_eq_false (fun z => hs (V.str.inj z))]
    refine iteF ?_
    split at he
    case h_2 => cases he
    rename_i s' x0
    by_cases hss : s' = s
    · rw [if_pos hss] at he
      cases he
      subst hss
      obtain ⟨p, ys, rfl, hp, hy⟩ := hv.tupD
      cases hy with
      | cons h1 hy =>
        cases h1
        cases hy with
        | cons h2 hy =>
          cases hy
          refine ⟨_, rfl, p, _, 0, _, rfl, rfl, hp, atI_nat (j := 0) rfl, _, rfl, rfl, _, rfl, ?_⟩
          rw [decide_eq_true rfl]
          refine iteF ?_
          exact ⟨_, rfl, p, _, 1, _, rfl, rfl, hp, atI_nat (j := 1) rfl, q _ h2⟩
    · rw [if_neg hss] at he
      cases he
def spTop (K : Frag) : Sp := fun vs H Q _ => ∃ (v : V) (k : Nat) (ds : List PyData), vs = [v, .int k] ∧ Tr K H v (.tuple ds) ∧ k ≤ ds.length ∧ ∀ (r : V) (H' : Hp), Same H H' → Tr K H' r (.tuple (ds.drop (ds.length - k))) → Q r H'
theorem TrAll.drop {K : Frag} {H : Hp} : ∀ {v : List V} {d : List PyData} (n : Nat), TrAll K H v d → TrAll K H (v.drop n) (d.drop n)
  | _, _, 0, h => h
  | _, _, n + 1, .nil => .nil
  | _, _, n + 1, .cons h t => TrAll.drop n t
theorem scTop : FnScope ["stack", "many"] ["stack", "many"] (defScope sTopOf) := ⟨rfl, rfl, rfl, by decide +kernel, rfl, by decide +kernel, by decide +kernel⟩
theorem ok_top {f : Addr} {fd : FuncData} (F : Fun K "top_of" "top_of" sTopOf f fd) (mlen : mg "len" = none) : FnOk P w K mg base CX0 1 f fd ["stack", "many"] (spTop K) := by
  refine F.ok scTop (fun vs H Q E h => ?_) (fun cdv A outer s H vs Q E hr h => ?_)
  · obtain ⟨v, k, ds, rfl, _⟩ := h
    rfl
  obtain ⟨v, k, ds, rfl, hv, hk, q⟩ := h
  refine ⟨_, pss_cons (ps_if (pt_cmpR op_lt (pe_callB call_len_seq (by rfl) mlen PySem.boot_len (pa_cons (pv 0) pa_nil)) (pv 1) (nomark _)) (pss_one ps_never) pss_nil)
    (pss_one (ps_ret (pe_slice sl_tupA (pv 0) (po_some (pe_op op_sub (pe_callB call_len_seq (by rfl) mlen PySem.boot_len (pa_cons (pv 0) pa_nil)) (pv 1))) po_none))), ?_⟩
  obtain ⟨a, xs, rfl, ha, hx⟩ := hv.tupD
  have lx := hx.len
  refine ⟨_, rfl, a, _, rfl, .inr ha, _, rfl, _, _, rfl, rfl, _, rfl, ?_⟩
  rw [decide_eq_false (by rw [lx]; omega)]
  refine iteF ?_
  have e : ((xs.length : Nat) : Int) - (k : Int) = ((ds.length - k : Nat) : Int) := by rw [lx]; omega
  refine ⟨_, rfl, _, rfl, a, _, rfl, .inr ha, _, rfl, _, _, rfl, rfl, _, rfl, a, _, rfl, ha, fun c => ?_, fun c p np => ?_⟩
  · have c1 := c.1
    rw [e, HT.sIx_nat, lx] at c1
    have z : ds.length - k = 0 := by omega
    rw [z, List.drop_zero] at q
    exact q _ H (fun _ _ h => h) (.tup ha hx)
  · rw [e]
    have e2 : cutV xs (some ((ds.length - k : Nat) : Int)) none = xs.drop (ds.length - k) := by
      unfold cutV
      rw [HT.sIx_nat, HT.sIx_none, lx, Nat.min_eq_left (by omega)]
      rw [List.take_of_length_le (by rw [List.length_drop, lx]; omega)]
    rw [e2]
    exact q _ _ (same_new np _) (tupTr (TrAll.drop _ hx) np)
end
end K10
namespace K10
open PySem PySem.W L2 SX Cm
abbrev sDo : Stmt := top 22
abbrev sDip : Stmt := top 23
abbrev sIf : Stmt := top 24
abbrev sWhile : Stmt := top 25
def rowD (p : List PyData) : PyData := .tuple [.str "row", .tuple p]
def pshD (x : PyData) : PyData := .tuple [.str "push", x]
def cDo : Deed
  | [.tuple p] => some (two [] p)
  | _ => none
def cDip : Deed
  | [x, .tuple p] => some (two [] (p ++ [pshD x]))
  | _ => none
def cIf : Deed
  | [.int n, .tuple p, .tuple q] => some (two [] (if n ≠ 0 then p else q))
  | _ => none
def cWhile : Deed
  | [.tuple p, .tuple q] => some (two [] (p ++ [pshD (rowD (q ++ [pshD (rowD p), pshD (rowD q), .str "while"])), pshD (rowD []), .str "if"]))
  | _ => none
section
variable {P : Program} {w : World} {K : PySem.W.Frag} {mg : Str → Option Value} {base : Heap}
theorem scDo : FnScope ["held"] ["held"] (defScope sDo) := ⟨rfl, rfl, rfl, by decide +kernel, rfl, by decide +kernel, by decide +kernel⟩
theorem ok_do {f : Addr} {fd : FuncData} (F : Fun K "do_does" "do_does" sDo f fd) : FnOk P w K mg base CX0 2 f fd ["held"] (spDo K cDo) := by
  refine F.ok scDo (fun vs H Q E h => ?_) (fun cdv A outer s H vs Q E hr h => ?_)
  · obtain ⟨l, xs, ds, d, rfl, _⟩ := h
    rfl
  obtain ⟨l, xs, ds, d, rfl, hl, hx, hb, hc, q⟩ := h
  refine ⟨_, pss_one (ps_ret (pe_tup (pa_cons (pe_tup pa_nil) (pa_cons (pe_ix ix_list (pv 0) pe_int (fun _ _ => rfl)) pa_nil)))), ?_⟩
  unfold cDo at hc
  split at hc
  case h_2 => cases hc
  rename_i p0
  cases hc
  cases hx with
  | cons hp hx =>
    cases hx
    refine ⟨(by show 0 ≤ sizeLine; decide), fun a na => ?_⟩
    have sa := same_new na (.tup [])
    refine ⟨_, rfl, l, _, 0, _, rfl, rfl, Same.seq sa hl, atI_nat (j := 0) rfl, (by show 2 ≤ sizeLine; decide), fun b nb => ?_⟩
    exact q _ _ (sa.trans (same_new nb _)) (tupTr (.cons (tupTr (K := K) .nil na) (.cons (hp.mono (.of sa)) .nil)) nb)
theorem scDip : FnScope ["held", "x", "p"] ["held"] (defScope sDip) := ⟨rfl, rfl, rfl, by decide +kernel, rfl, by decide +kernel, by decide +kernel⟩
theorem ok_dip {f : Addr} {fd : FuncData} (F : Fun K "dip_does" "dip_does" sDip f fd) : FnOk P w K mg base CX0 2 f fd ["held"] (spDo K cDip) := by
  refine F.ok scDip (fun vs H Q E h => ?_) (fun cdv A outer s H vs Q E hr h => ?_)
  · obtain ⟨l, xs, ds, d, rfl, _⟩ := h
    rfl
  obtain ⟨l, xs, ds, d, rfl, hl, hx, hb, hc, q⟩ := h
  refine ⟨_, pss_cons (ps_asg (pv 0) (pg_unl rfl (pgs_cons (pg_name (i := 1) scDip.nd rfl (.inl rfl)) (pgs_cons (pg_name (i := 2) scDip.nd rfl (.inl rfl)) pgs_nil))))
    (pss_one (ps_ret (pe_tup (pa_cons (pe_tup pa_nil) (pa_cons (pe_op op_catA (pv 2) (pe_tup (pa_cons (pe_tup (pa_cons pe_str (pa_cons (pv 1) pa_nil))) pa_nil))) pa_nil))))), ?_⟩
  unfold cDip at hc
  split at hc
  case h_2 => cases hc
  rename_i x0 p0
  cases hc
  cases hx with
  | cons h1 hx =>
    cases hx with
    | cons h2 hx =>
      cases hx
      have hb1 : p0.length ≤ 1000 := by
        have hb' : lenB [x0, .tuple p0] = true := hb
        have e : lenB [.tuple p0] = true := by
          cases x0 <;> first | exact hb' | (have hb2 := Bool.and_eq_true_iff.mp hb'; exact hb2.2)
        have e' : (decide (p0.length ≤ 1000) && true) = true := e
        rw [Bool.and_true] at e'
        exact of_decide_eq_true e'
      refine ⟨_, rfl, l, _, rfl, hl, rfl, _, _, rfl, _, _, rfl, rfl, (by show 0 ≤ sizeLine; decide), fun a na => ?_⟩
      have sa := same_new na (.tup [])
      refine ⟨_, rfl, _, rfl, (by show 2 ≤ sizeLine; decide), fun b nb => ⟨(by show 1 ≤ sizeLine; decide), fun c nc => ?_⟩⟩
      have t1 := tupTr (K := K) (.cons (.str "push") (.cons (h1.mono (.of sa)) .nil)) nb
      have t2 := tupTr (K := K) (.cons t1 .nil) nc
      refine catTr (h2.mono (.of ((sa.trans (same_new nb _)).trans (same_new nc _)))) t2 (by show p0.length + 1 ≤ _; omega) fun r H1 s1 h3 => ⟨(by show 2 ≤ sizeLine; decide), fun o no => ?_⟩
      exact q _ _ ((((sa.trans (same_new nb _)).trans (same_new nc _)).trans s1).trans (same_new no _)) (tupTr (.cons ((tupTr (K := K) .nil na).mono (.of (((same_new nb _).trans (same_new nc _)).trans s1))) (.cons h3 .nil)) no)
end
end K10
namespace K10
open PySem PySem.W L2 SX Cm
abbrev sRepeat : Stmt := top 26
def numD (n : Int) : PyData := .tuple [.str "number", .int n]
def cRepeat : Deed
  | [.int n, .tuple p] => some (two [] (if n = 0 then [] else p ++ [pshD (numD ((n - 1) % 10 ^ 12)), pshD (rowD p), .str "repeat"]))
  | _ => none
section
variable {P : Program} {w : World} {K : PySem.W.Frag} {mg : Str → Option Value} {base : Heap}
def spNumT (K : Frag) : Sp := fun vs H Q _ => ∃ i : Int, vs = [.int i] ∧ ∀ (r : V) (H' : Hp), Same H H' → Tr K H' r (numD (i % 10 ^ 12)) → Q r H'
theorem scNumT : FnScope ["n"] ["n"] (defScope sNumThing) := ⟨rfl, rfl, rfl, by decide +kernel, rfl, by decide +kernel, by decide +kernel⟩
theorem ok_numT {f : Addr} {fd : FuncData} (F : Fun K "number_thing" "number_thing" sNumThing f fd) (mN : ∃ t, mg "NUMBERS" = some (.int (10 ^ 12) t)) : FnOk P w K mg base CX0 1 f fd ["n"] (spNumT K) := by
  refine F.ok scNumT (fun vs H Q E h => ?_) (fun cdv A outer s H vs Q E hr h => ?_)
  · obtain ⟨n, rfl, _⟩ := h
    rfl
  obtain ⟨n, rfl, q⟩ := h
  obtain ⟨t, mN⟩ := mN
  refine ⟨_, pss_one (ps_ret (pe_tup (pa_cons pe_str (pa_cons (pe_op op_mod (pv 0) (pe_glob (v := .int (10 ^ 12)) rfl mN ⟨_, rfl⟩)) pa_nil)))), ?_⟩
  exact ⟨_, rfl, _, _, rfl, rfl, (by show (0 : Int) < 10 ^ 12; decide), (by show 2 ≤ sizeLine; decide), fun p np => q _ _ (same_new np _) (tupTr (.cons (.str _) (.cons (.int _) .nil)) np)⟩
theorem lenB_tail {x : PyData} {r : List PyData} (h : lenB (x :: r) = true) : lenB r = true := by
  cases x <;> first | exact h | exact (Bool.and_eq_true_iff.mp h).2
theorem lenB_head {p : List PyData} {r : List PyData} (h : lenB (.tuple p :: r) = true) : p.length ≤ 1000 := of_decide_eq_true (Bool.and_eq_true_iff.mp h).1
theorem scIf : FnScope ["held", "n", "p", "q"] ["held"] (defScope sIf) := ⟨rfl, rfl, rfl, by decide +kernel, rfl, by decide +kernel, by decide +kernel⟩
theorem ok_if {f : Addr} {fd : FuncData} (F : Fun K "if_does" "if_does" sIf f fd) : FnOk P w K mg base CX0 2 f fd ["held"] (spDo K cIf) := by
  refine F.ok scIf (fun vs H Q E h => ?_) (fun cdv A outer s H vs Q E hr h => ?_)
  · obtain ⟨l, xs, ds, d, rfl, _⟩ := h
    rfl
  obtain ⟨l, xs, ds, d, rfl, hl, hx, hb, hc, q⟩ := h
  refine ⟨_, pss_cons (ps_asg (pv 0) (pg_unl rfl (pgs_cons (pg_name (i := 1) scIf.nd rfl (.inl rfl)) (pgs_cons (pg_name (i := 2) scIf.nd rfl (.inl rfl)) (pgs_cons (pg_name (i := 3) scIf.nd rfl (.inl rfl)) pgs_nil)))))
    (pss_one (ps_ret (pe_tup (pa_cons (pe_tup pa_nil) (pa_cons (pe_ifExp (pt_cmpR op_ne (pv 1) pe_int (nomark _)) (pv 2) (pv 3)) pa_nil))))), ?_⟩
  unfold cIf at hc
  split at hc
  case h_2 => cases hc
  rename_i n0 p0 q0
  cases hc
  cases hx with
  | cons h1 hx =>
    cases h1
    cases hx with
    | cons h2 hx =>
      cases hx with
      | cons h3 hx =>
        cases hx
        refine ⟨_, rfl, l, _, rfl, hl, rfl, _, _, rfl, _, _, rfl, _, _, rfl, rfl, (by show 0 ≤ sizeLine; decide), fun a na => ?_⟩
        have sa := same_new na (.tup [])
        refine ⟨_, rfl, rfl, _, rfl, ?_⟩
        have fin : ∀ (v : V) (ps : List PyData), Tr K H v (.tuple ps) → (if n0 ≠ 0 then p0 else q0) = ps → 2 ≤ sizeLine ∧ ∀ p, upd H a (.tup []) p = none → Q (.ref p) (upd (upd H a (.tup [])) p (.tup [.ref a, v])) := fun v ps tv e => by
          refine ⟨by decide, fun b nb => ?_⟩
          rw [e] at q
          exact q _ _ (sa.trans (same_new nb _)) (tupTr (.cons (tupTr (K := K) .nil na) (.cons (tv.mono (.of sa)) .nil)) nb)
        by_cases hn : n0 = 0
        · rw [decide_eq_true (by rw [hn])]
          refine iteF ?_
          exact ⟨_, rfl, fin _ _ h3 (if_neg (fun z => z hn))⟩
        · rw [decide_eq_false (fun z => hn (V.int.inj z))]
          refine iteT ?_
          exact ⟨_, rfl, fin _ _ h2 (if_pos hn)⟩
theorem scWhile : FnScope ["held", "p", "q", "again"] ["held"] (defScope sWhile) := ⟨rfl, rfl, rfl, by decide +kernel, rfl, by decide +kernel, by decide +kernel⟩
theorem ok_while {f g : Addr} {fd gd : FuncData} (F : Fun K "while_does" "while_does" sWhile f fd) (G : FnOk P w K mg base CX0 1 g gd ["row"] (spPush K)) (bG : L2.Binds K gd ["row"] []) (kG : keepIn K (.ref g) = true) (mG : mg "push_row" = some (.ref g)) : FnOk P w K mg base CX0 2 f fd ["held"] (spDo K cWhile) := by
  refine F.ok scWhile (fun vs H Q E h => ?_) (fun cdv A outer s H vs Q E hr h => ?_)
  · obtain ⟨l, xs, ds, d, rfl, _⟩ := h
    rfl
  obtain ⟨l, xs, ds, d, rfl, hl, hx, hb, hc, q⟩ := h
  refine ⟨_, pss_cons (ps_asg (pv 0) (pg_unl rfl (pgs_cons (pg_name (i := 1) scWhile.nd rfl (.inl rfl)) (pgs_cons (pg_name (i := 2) scWhile.nd rfl (.inl rfl)) pgs_nil))))
    (pss_cons (ps_set (i := 3) scWhile.nd rfl (.inl rfl) (pe_op op_catA (pv 2) (pe_tup (pa_cons (pe_call G hr rfl mG kG bG .nil pass0 (pa_cons (pv 1) pa_nil)) (pa_cons (pe_call G hr rfl mG kG bG .nil pass0 (pa_cons (pv 2) pa_nil)) (pa_cons pe_str pa_nil))))))
    (pss_one (ps_ret (pe_tup (pa_cons (pe_tup pa_nil) (pa_cons (pe_op op_catA (pv 1) (pe_tup (pa_cons (pe_call G hr rfl mG kG bG .nil pass0 (pa_cons (pv 3) pa_nil)) (pa_cons (pe_call G hr rfl mG kG bG .nil pass0 (pa_cons (pe_tup pa_nil) pa_nil)) (pa_cons pe_str pa_nil))))) pa_nil)))))), ?_⟩
  unfold cWhile at hc
  split at hc
  case h_2 => cases hc
  rename_i p0 q0
  cases hc
  have lp := lenB_head hb
  have lq := lenB_head (lenB_tail hb)
  cases hx with
  | cons h1 hx =>
    cases hx with
    | cons h2 hx =>
      cases hx
      refine ⟨_, rfl, l, _, rfl, hl, rfl, _, _, rfl, _, _, rfl, rfl, ?_⟩
      refine ⟨_, rfl, _, rfl, _, _, rfl, h1, fun r1 H1 s1 t1 => ?_⟩
      refine ⟨_, rfl, _, _, rfl, h2.mono (.of s1), fun r2 H2 s2 t2 => ⟨(by show 3 ≤ sizeLine; decide), fun a na => ?_⟩⟩
      have s12 := s1.trans s2
      have t3 := tupTr (K := K) (.cons (t1.mono (.of s2)) (.cons t2 (.cons (.str "while") .nil))) na
      refine catTr (h2.mono (.of (s12.trans (same_new na _)))) t3 (by show q0.length + 3 ≤ _; omega) fun r3 H3 s3 t4 => ?_
      have s13 := (s12.trans (same_new na _)).trans s3
      refine ⟨(by show 0 ≤ sizeLine; decide), fun b nb => ?_⟩
      have sb := same_new nb (.tup [])
      have tb := tupTr (K := K) .nil nb
      refine ⟨_, rfl, _, rfl, _, _, rfl, t4.mono (.of sb), fun r4 H4 s4 t5 => ?_⟩
      refine ⟨(by show 0 ≤ sizeLine; decide), fun c nc => ?_⟩
      have sc := same_new nc (.tup [])
      refine ⟨_, _, rfl, tupTr (K := K) .nil nc, fun r5 H5 s5 t6 => ⟨(by show 3 ≤ sizeLine; decide), fun e ne => ?_⟩⟩
      have s45 := s4.trans (sc.trans s5)
      have t7 := tupTr (K := K) (.cons ((t5.mono (.of sc)).mono (.of s5)) (.cons t6 (.cons (.str "if") .nil))) ne
      have s15 := (s13.trans sb).trans (s45.trans (same_new ne (.tup [r4, r5, .str "if"])))
      refine catTr (h1.mono (.of s15)) t7 (by show p0.length + 3 ≤ _; omega) fun r6 H6 s6 t8 => ⟨(by show 2 ≤ sizeLine; decide), fun g' ng => ?_⟩
      exact q _ _ ((s15.trans s6).trans (same_new ng _)) (tupTr (.cons (tb.mono (.of ((s45.trans (same_new ne _)).trans s6))) (.cons t8 .nil)) ng)
theorem scRepeat : FnScope ["held", "n", "p"] ["held"] (defScope sRepeat) := ⟨rfl, rfl, rfl, by decide +kernel, rfl, by decide +kernel, by decide +kernel⟩
theorem ok_repeat {f g gn : Addr} {fd gd gnd : FuncData} (F : Fun K "repeat_does" "repeat_does" sRepeat f fd) (G : FnOk P w K mg base CX0 1 g gd ["row"] (spPush K)) (bG : L2.Binds K gd ["row"] []) (kG : keepIn K (.ref g) = true) (mG : mg "push_row" = some (.ref g))
    (N : FnOk P w K mg base CX0 1 gn gnd ["n"] (spNumT K)) (bN : L2.Binds K gnd ["n"] []) (kN : keepIn K (.ref gn) = true) (mN : mg "number_thing" = some (.ref gn)) : FnOk P w K mg base CX0 2 f fd ["held"] (spDo K cRepeat) := by
  refine F.ok scRepeat (fun vs H Q E h => ?_) (fun cdv A outer s H vs Q E hr h => ?_)
  · obtain ⟨l, xs, ds, d, rfl, _⟩ := h
    rfl
  obtain ⟨l, xs, ds, d, rfl, hl, hx, hb, hc, q⟩ := h
  refine ⟨_, pss_cons (ps_asg (pv 0) (pg_unl rfl (pgs_cons (pg_name (i := 1) scRepeat.nd rfl (.inl rfl)) (pgs_cons (pg_name (i := 2) scRepeat.nd rfl (.inl rfl)) pgs_nil))))
    (pss_cons (ps_if (pt_cmpR op_eq (pv 1) pe_int (nomark _)) (pss_one (ps_ret (pe_tup (pa_cons (pe_tup pa_nil) (pa_cons (pe_tup pa_nil) pa_nil))))) pss_nil)
    (pss_one (ps_ret (pe_tup (pa_cons (pe_tup pa_nil) (pa_cons (pe_op op_catA (pv 2) (pe_tup (pa_cons (pe_tup (pa_cons pe_str (pa_cons (pe_call N hr rfl mN kN bN .nil pass0 (pa_cons (pe_op op_sub (pv 1) pe_int) pa_nil)) pa_nil))) (pa_cons (pe_call G hr rfl mG kG bG .nil pass0 (pa_cons (pv 2) pa_nil)) (pa_cons pe_str pa_nil))))) pa_nil)))))), ?_⟩
  unfold cRepeat at hc
  split at hc
  case h_2 => cases hc
  rename_i n0 p0
  cases hc
  have lp := lenB_head (lenB_tail hb)
  cases hx with
  | cons h1 hx =>
    cases h1
    cases hx with
    | cons h2 hx =>
      cases hx
      refine ⟨_, rfl, l, _, rfl, hl, rfl, _, _, rfl, _, _, rfl, rfl, ?_⟩
      refine ⟨_, rfl, rfl, _, rfl, ?_⟩
      by_cases hn : n0 = 0
      · rw [decide_eq_true (by rw [hn])]
        rw [if_pos hn] at q
        refine iteT ?_
        refine ⟨(by show 0 ≤ sizeLine; decide), fun a na => ⟨(by show 0 ≤ sizeLine; decide), fun b nb => ⟨(by show 2 ≤ sizeLine; decide), fun c nc => ?_⟩⟩⟩
        exact q _ _ ((same_new na _).trans ((same_new nb _).trans (same_new nc _))) (tupTr (.cons ((tupTr (K := K) .nil na).mono (.of (same_new nb _))) (.cons (tupTr (K := K) .nil nb) .nil)) nc)
      · rw [decide_eq_false (fun z => hn (V.int.inj z))]
        rw [if_neg hn] at q
        refine iteF ?_
        refine ⟨(by show 0 ≤ sizeLine; decide), fun a na => ?_⟩
        have sa := same_new na (.tup [])
        have ta := tupTr (K := K) .nil na
        refine ⟨_, rfl, _, rfl, _, _, rfl, rfl, n0 - 1, rfl, fun r1 H1 s1 t1 => ⟨(by show 2 ≤ sizeLine; decide), fun b nb => ?_⟩⟩
        have t2 := tupTr (K := K) (.cons (.str "push") (.cons t1 .nil)) nb
        have s02 := sa.trans (s1.trans (same_new nb (.tup [.str "push", r1])))
        refine ⟨_, rfl, _, _, rfl, h2.mono (.of s02), fun r2 H2 s2 t3 => ⟨(by show 3 ≤ sizeLine; decide), fun c nc => ?_⟩⟩
        have t4 := tupTr (K := K) (.cons (t2.mono (.of s2)) (.cons t3 (.cons (.str "repeat") .nil))) nc
        have s03 := (s02.trans s2).trans (same_new nc (.tup [.ref b, r2, .str "repeat"]))
        refine catTr (h2.mono (.of s03)) t4 (by show p0.length + 3 ≤ _; omega) fun r3 H3 s3 t5 => ⟨(by show 2 ≤ sizeLine; decide), fun g' ng => ?_⟩
        exact q _ _ ((s03.trans s3).trans (same_new ng _)) (tupTr (.cons (ta.mono (.of (((s1.trans (same_new nb _)).trans s2).trans ((same_new nc _).trans s3)))) (.cons t5 .nil)) ng)
end
end K10
namespace K10P
open PySem PySem.W L2 SX Cm
abbrev sIsSh : Stmt := K10.top 9
abbrev sTaken : Stmt := K10.top 10
structure TxtS (mg : Str → Option Value) : Prop where
  isi : mg "isinstance" = none
  str : mg "str" = none
  len : mg "len" = none
  all : mg "all" = none
  letters : ∃ t, mg "LETTERS" = some (.str "abcdefgh" t)
  most : ∃ t, mg "MOST_LEFT" = some (.int 12 t)
section
variable {P : Program} {w : World} {K : PySem.W.Frag} {mg : Str → Option Value} {base : Heap}
def spIsSh : Sp := fun vs H Q _ => ∃ x : List Nat, vs = [.str (S x)] ∧ x.length ≤ 1000 ∧ ∀ H', Same H H' → Q (.bl (shufB x)) H'
theorem scIsSh : FnScope ["thing", "taken", "stroke", "left", "letter"] ["thing"] (defScope sIsSh) := ⟨rfl, rfl, rfl, by decide +kernel, rfl, by decide +kernel, by decide +kernel⟩
theorem ok_isSh {f : Addr} {fd : FuncData} (F : Fun K "is_shuffle" "is_shuffle" sIsSh f fd) (T : TxtS mg) : FnOk P w K mg base CX0 1 f fd ["thing"] spIsSh := by
  refine F.ok scIsSh (fun vs H Q E h => ?_) (fun cdv A outer s H vs Q E hr h => ?_)
  · obtain ⟨x, rfl, _⟩ := h
    rfl
  obtain ⟨x, rfl, hl, q⟩ := h
  obtain ⟨tL, mL⟩ := T.letters
  obtain ⟨tM, mM⟩ := T.most
  refine ⟨_, pss_cons (ps_if (pt_not (pt_val (pe_callB call_isi (by rfl) T.isi PyProof.Rows.boot_isinstance (pa_cons (pv 0) (pa_cons (pe_bltn (v := .ty "str") (by rfl) T.str (by decide +kernel) rfl) pa_nil))))) (pss_one (ps_ret pe_bl)) pss_nil)
    (pss_cons (ps_asg (pe_partition (pv 0) pe_str) (pg_tup rfl (pgs_cons (pg_name (i := 1) scIsSh.nd rfl (.inr rfl)) (pgs_cons (pg_name (i := 2) scIsSh.nd rfl (.inl rfl)) (pgs_cons (pg_name (i := 3) scIsSh.nd rfl (.inl rfl)) pgs_nil)))))
    (pss_cons (ps_if (PW.pt (pw_or (pt_cmpR op_eq (pv 2) pe_str (nomark _)) (pw_or1 (pt_not (pt_val (pe_m1 PySem.F.slot_str_startswith PySem.F.type_str_startswith mt_startswith (pe_glob (v := .str "abcdefgh") rfl mL ⟨_, rfl⟩) (pv 1))))))) (pss_one (ps_ret pe_bl)) pss_nil)
    (pss_one (ps_ret (pe_and (pe_cmpR op_le (pe_callB call_len_str (by rfl) T.len PySem.boot_len (pa_cons (pv 3) pa_nil)) (pe_glob (v := .int 12) rfl mM ⟨_, rfl⟩) (nomark _))
      (pe_one (pe_callB (cr_all rfl) (by rfl) T.all PyProof.Rows.boot_all (pa_cons (pe_lc (own := [("letter", 4)]) (g := gName 4) (tt := tYes) rfl scIsSh.nd (pi_str (pv 3)) (blkOk_by (own := [("letter", 4)]) (N := ["thing", "taken", "stroke", "left", "letter"]) (sc := defScope sIsSh) (by decide +kernel))
        (fun _ _ _ _ _ => pg_name (i := 4) scIsSh.nd rfl (Or.inl rfl)) (fun _ _ _ _ _ => pts_nil) (fun _ _ _ _ _ => pe_cmpR op_in_sign (pv 4) (pv 1) rfl)) pa_nil)))))))), ?_⟩
  have e1 : ("-" : Str) = S [45] := by decide +kernel
  have e2 : ("" : Str) = S [] := by decide +kernel
  have e3 : ("abcdefgh" : Str) = S abc8 := by decide +kernel
  rw [e1, e2, e3]
  have hsz : ∀ y : List Nat, y.length ≤ 1000 → (S y).length ≤ sizeLine := fun y h => by rw [S_len]; exact Nat.le_of_lt (small1000 h)
  refine ⟨_, rfl, _, _, _, _, true, rfl, .ty _, .base (.str _), kit_ty (r := true) (by decide +kernel), _, rfl, iteF ?_⟩
  refine ⟨_, rfl, ⟨_, rfl⟩, _, _, rfl, rfl, rfl, hsz x hl, fun p hp => ?_⟩
  have hp' : ∀ o, Same H (upd H p o) := same_new hp
  cases hpar : TL.par [45] [] x with
  | none =>
    have hb : shufB x = false := by unfold shufB; rw [hpar]
    rw [partition_none (List.cons_ne_nil _ _) hpar]
    refine ⟨p, _, rfl, SqT.of upd_same, rfl, _, _, rfl, _, _, rfl, _, _, rfl, rfl, ?_⟩
    refine ⟨_, rfl, rfl, _, rfl, iteT (iteT ?_)⟩
    rw [hb] at q
    exact q _ (hp' _)
  | some tl =>
    obtain ⟨t, l⟩ := tl
    have hb : shufB x = (decide (abc8.take t.length = t) && (decide (l.length ≤ 12) && (l.map fun c => decide (c ∈ t)).all id)) := by unfold shufB; rw [hpar]
    rw [partition_some (List.cons_ne_nil _ _) hpar]
    have ll : l.length ≤ 1000 := Nat.le_trans (par_len _ _ _ _ hpar) hl
    refine ⟨p, _, rfl, SqT.of upd_same, rfl, _, _, rfl, _, _, rfl, _, _, rfl, rfl, ?_⟩
    refine ⟨_, rfl, rfl, _, rfl, iteF ?_⟩
    refine ⟨⟨_, rfl⟩, _, rfl, _, _, rfl, rfl, _, rfl, ?_⟩
    rw [starts_S]
    by_cases h1 : abc8.take t.length = t
    · rw [decide_eq_true h1]
      refine iteF ?_
      refine ⟨_, rfl, _, rfl, hsz l ll, _, _, rfl, rfl, _, rfl, ?_⟩
      rw [S_len]
      by_cases h2 : l.length ≤ 12
      · have h2' : (l.length : Int) ≤ 12 := by omega
        rw [decide_eq_true h2']
        refine iteT ?_
        refine ⟨_, rfl, _, rfl, fun D hD => ?_⟩
        refine lc_txt (fun c => .bl (decide (c ∈ t))) ll (fun c H R hc r => ?_) ?_
        · exact ⟨rfl, _, rfl, _, rfl, c, _, rfl, rfl, r⟩
        · refine ⟨D, l.map fun c => decide (c ∈ t), rfl, ?_, ?_⟩
          · rw [List.map_map]; exact SqL.of upd_same
          · rw [decide_eq_true h1, decide_eq_true h2, Bool.true_and, Bool.true_and] at hb
            rw [hb] at q
            exact q _ ((hp' _).trans (same_new hD _))
      · have h2' : ¬ (l.length : Int) ≤ 12 := by omega
        rw [decide_eq_false h2']
        refine iteF ?_
        rw [decide_eq_false h2, Bool.false_and, Bool.and_false] at hb
        rw [hb] at q
        exact q _ (hp' _)
    · rw [decide_eq_false h1]
      refine iteT ?_
      rw [decide_eq_false h1, Bool.false_and] at hb
      rw [hb] at q
      exact q _ (hp' _)
def spTaken (K : PySem.W.Frag) : Sp := fun vs H Q _ => ∃ (n : Nat) (l : List Nat), vs = [.str (S (shuf n l))] ∧ Shuf n l ∧ ∀ (p t : Addr) H', Same H H' → SqT K H' t ((pk (n, l)).map fun i : Nat => V.int (i : Int)) → SqT K H' p [.int n, .ref t] → Q (.ref p) H'
theorem scTaken : FnScope ["shuffle", "taken", "left", "letter"] ["shuffle"] (defScope sTaken) := ⟨rfl, rfl, rfl, by decide +kernel, rfl, by decide +kernel, by decide +kernel⟩
theorem ok_taken {f g : Addr} {fd gd : FuncData} (F : Fun K "taken_left" "taken_left" sTaken f fd) (T : TxtS mg) (mtup : mg "tuple" = none) (G : FnOk P w K mg base CX0 1 g gd ["thing"] spIsSh) (bG : L2.Binds K gd ["thing"] []) (kG : PySem.W.keepIn K (.ref g) = true) (mG : mg "is_shuffle" = some (.ref g)) : FnOk P w K mg base CX0 2 f fd ["shuffle"] (spTaken K) := by
  refine F.ok scTaken (fun vs H Q E h => ?_) (fun cdv A outer s H vs Q E hr h => ?_)
  · obtain ⟨n, l, rfl, _⟩ := h
    rfl
  obtain ⟨n, l, rfl, hs, q⟩ := h
  obtain ⟨tL, mL⟩ := T.letters
  refine ⟨_, pss_cons (ps_if (pt_not (pt_val (pe_call G hr rfl mG kG bG .nil pass0 (pa_cons (pv 0) pa_nil)))) (pss_one ps_never) pss_nil)
    (pss_cons (ps_asg (pe_split (pv 0) pe_str) (pg_unl rfl (pgs_cons (pg_name (i := 1) scTaken.nd rfl (.inl rfl)) (pgs_cons (pg_name (i := 2) scTaken.nd rfl (.inl rfl)) pgs_nil))))
    (pss_one (ps_ret (pe_tup (pa_cons (pe_callB call_len_str (by rfl) T.len PySem.boot_len (pa_cons (pv 1) pa_nil)) (pa_cons
      (pe_callTy call_tuple_of (by rfl) mtup (by decide +kernel) (pa_cons (pe_lc (own := [("letter", 3)]) (g := gName 3) (tt := tYes) (te := tBMS K "str" (rIndexX fun _ _ _ _ => False) (tC (.str "abcdefgh")) (tCons (tVar 3) tNil)) rfl scTaken.nd (pi_str (pv 2)) (blkOk_by (own := [("letter", 3)]) (N := ["shuffle", "taken", "left", "letter"]) (sc := defScope sTaken) (by decide +kernel))
        (fun _ _ _ _ _ => pg_name (i := 3) scTaken.nd rfl (Or.inl rfl)) (fun _ _ _ _ _ => pts_nil) (fun _ _ _ _ _ => pe_bmS PySem.F.plainAttrs_str PySem.F.slot_str_index PySem.F.type_str_index (mt_indexX rfl takes0) (pe_glob (v := .str "abcdefgh") rfl mL ⟨_, rfl⟩) (pa_cons (pv 3) pa_nil))) pa_nil)) pa_nil)))))), ?_⟩
  have e1 : ("-" : Str) = S [45] := by decide +kernel
  have e3 : ("abcdefgh" : Str) = S abc8 := by decide +kernel
  rw [e1, e3]
  refine ⟨_, rfl, _, rfl, by have := shuf_len hs; omega, fun H1 s1 => ?_⟩
  rw [shuf_ok hs]
  refine ⟨_, rfl, iteF ?_⟩
  refine ⟨_, rfl, ⟨_, rfl⟩, _, _, rfl, rfl, rfl, ?_, fun p hp => ?_⟩
  · rw [S_len]; exact Nat.le_of_lt (small1000 (by have := shuf_len hs; omega))
  rw [split_S (List.cons_ne_nil _ _) (by decide), shuf_spl hs]
  refine ⟨p, _, rfl, SqL.of upd_same, rfl, _, _, rfl, _, _, rfl, rfl, ?_⟩
  refine ⟨_, rfl, _, rfl, ?_, _, rfl, _, rfl, fun D hD => ?_⟩
  · rw [S_len, abc_len hs.n8]; exact Nat.le_of_lt (small1000 (by have := hs.n8; omega))
  refine lc_txt (fun c => .int ((c - 97 : Nat) : Int)) (by have := hs.l12; omega) (fun c H R hc r => ?_) ?_
  · refine ⟨rfl, rfl, _, rfl, _, _, rfl, rfl, fun k hk => ?_, fun hk => ?_⟩
    · rw [index_abc c (abc_sub (hs.inn c hc))] at hk
      cases hk; exact r
    · rw [index_abc c (abc_sub (hs.inn c hc))] at hk
      cases hk
  · refine ⟨D, _, rfl, .inl ⟨SqL.of upd_same, fun t ht => ?_⟩⟩
    refine ⟨(by show 2 ≤ sizeLine; decide), fun r hr' => ?_⟩
    rw [S_len, abc_len hs.n8]
    refine q r t _ (s1.trans ((same_new hp _).trans ((same_new hD _).trans ((same_new ht _).trans (same_new hr' _))))) ?_ (SqT.of upd_same)
    refine SqT.of ((kn upd_same hr').trans ?_)
    unfold pk
    rw [List.map_map]; rfl
end
end K10P
namespace K10
open PySem PySem.W L2 SX Cm
abbrev sEffShuf : Stmt := top 36
abbrev sRowTold : Stmt := top 39
/-- what a shuffle leaves of the things taken -/
def shufL (n : Nat) (l : List Nat) (ds : List PyData) : List PyData := (Cm.pk (n, l)).map fun i => (ds.drop (ds.length - n)).getD i (.int 0)
theorem trAll_pick {K : Frag} {H : Hp} {ys : List V} {es : List PyData} (h : TrAll K H ys es) : ∀ ps : List Nat, (∀ p ∈ ps, p < es.length) → TrAll K H (ps.map fun p => ys.getD p (.int 0)) (ps.map fun p => es.getD p (.int 0))
  | [], _ => .nil
  | p :: r, hp => by
    have h1 := hp p (List.mem_cons_self ..)
    have h2 : p < ys.length := by rw [h.len]; exact h1
    obtain ⟨y, hy, ty⟩ := h.get (List.getElem?_eq_getElem h2)
    refine .cons ?_ (trAll_pick h r fun q hq => hp q (List.mem_cons_of_mem _ hq))
    show Tr K H (ys.getD p (.int 0)) (es.getD p (.int 0))
    rw [List.getD_eq_getElem?_getD, List.getD_eq_getElem?_getD, List.getElem?_eq_getElem h2, hy]
    exact ty
/-- a told word in the heap, and told words -/
def BkE (K : Frag) (H : Hp) (v : V) (e : Str × List PyData) : Prop := ∃ (p : Addr) (r : V), v = .ref p ∧ SqT K H p [.str e.1, .non, r] ∧ Tr K H r (.tuple e.2)
inductive BkAll (K : Frag) (H : Hp) : List V → List (Str × List PyData) → Prop
  | nil : BkAll K H [] []
  | cons {v : V} {vs : List V} {e : Str × List PyData} {es : List (Str × List PyData)} : BkE K H v e → BkAll K H vs es → BkAll K H (v :: vs) (e :: es)
theorem BkE.mono {K : Frag} {H H' : Hp} {v : V} {e : Str × List PyData} (h : BkE K H v e) (k : TKs K H H') : BkE K H' v e := by
  obtain ⟨p, r, e1, h1, h2⟩ := h
  exact ⟨p, r, e1, k _ _ h1, h2.mono k⟩
theorem BkAll.mono {K : Frag} {H H' : Hp} (k : TKs K H H') : ∀ {vs : List V} {es : List (Str × List PyData)}, BkAll K H vs es → BkAll K H' vs es
  | _, _, .nil => .nil
  | _, _, .cons h t => .cons (h.mono k) (t.mono k)
theorem BkAll.len {K : Frag} {H : Hp} : ∀ {vs : List V} {es : List (Str × List PyData)}, BkAll K H vs es → vs.length = es.length
  | _, _, .nil => rfl
  | _, _, .cons _ t => congrArg (· + 1) t.len
theorem BkAll.get {K : Frag} {H : Hp} : ∀ {vs : List V} {es : List (Str × List PyData)} {i : Nat} {x : V}, BkAll K H vs es → vs[i]? = some x → ∃ e, es[i]? = some e ∧ BkE K H x e
  | _, _, i, x, .nil, h => by simp at h
  | _, _, 0, x, .cons h t, e => ⟨_, rfl, by cases e; exact h⟩
  | _, _, i + 1, x, .cons h t, e => by
    rw [List.getElem?_cons_succ] at e ⊢
    exact BkAll.get t e
theorem BkAll.append {K : Frag} {H : Hp} : ∀ {vs ws : List V} {es fs : List (Str × List PyData)}, BkAll K H vs es → BkAll K H ws fs → BkAll K H (vs ++ ws) (es ++ fs)
  | _, _, _, _, .nil, h => h
  | _, _, _, _, .cons h t, g => .cons h (t.append g)
theorem eqs (a b : Str) : (decide (V.str a = V.str b)) = decide (a = b) := by
  by_cases h : a = b
  · rw [h, decide_eq_true rfl, decide_eq_true rfl]
  · rw [decide_eq_false h, decide_eq_false fun z => h (V.str.inj z)]
section
variable {P : Program} {w : World} {K : PySem.W.Frag} {mg : Str → Option Value} {base : Heap}
def spEffS (K : Frag) : Sp := fun vs H Q _ => ∃ (n : Nat) (l : List Nat) (v : V) (ds : List PyData), vs = [.str (S (Cm.shuf n l)), v] ∧ Cm.Shuf n l ∧ Tr K H v (.tuple ds) ∧ n ≤ ds.length ∧
  ∀ (r : V) (H' : Hp), Same H H' → Tr K H' r (.tuple [.int n, .tuple (shufL n l ds), .tuple []]) → Q r H'
abbrev NES : List Str := ["word", "stack", "n", "picks", "things", "pick"]
theorem scEffS : FnScope NES ["word", "stack"] (defScope sEffShuf) := ⟨rfl, rfl, rfl, by decide +kernel, rfl, by decide +kernel, by decide +kernel⟩
theorem ok_effS {f gt go : Addr} {fd gtd god : FuncData} (F : Fun K "effect_of_shuffle" "effect_of_shuffle" sEffShuf f fd)
    (T : FnOk P w K mg base CX0 2 gt gtd ["shuffle"] (K10P.spTaken K)) (bT : L2.Binds K gtd ["shuffle"] []) (kT : keepIn K (.ref gt) = true) (mT : mg "taken_left" = some (.ref gt))
    (O : FnOk P w K mg base CX0 1 go god ["stack", "many"] (spTop K)) (bO : L2.Binds K god ["stack", "many"] []) (kO : keepIn K (.ref go) = true) (mO : mg "top_of" = some (.ref go)) (mtup : mg "tuple" = none) :
    FnOk P w K mg base CX0 3 f fd ["word", "stack"] (spEffS K) := by
  refine F.ok scEffS (fun vs H Q E h => ?_) (fun cdv A outer s H vs Q E hr h => ?_)
  · obtain ⟨n, l, v, ds, rfl, _⟩ := h
    rfl
  obtain ⟨n, l, v, ds, rfl, hs, hv, hn, q⟩ := h
  have hr1 := hr.mono (show 1 ≤ 2 by decide)
  refine ⟨_, pss_cons (ps_asg (pe_call T hr rfl mT kT bT .nil pass0 (pa_cons (pv 0) pa_nil)) (pg_tup rfl (pgs_cons (pg_name (i := 2) scEffS.nd rfl (.inl rfl)) (pgs_cons (pg_name (i := 3) scEffS.nd rfl (.inl rfl)) pgs_nil))))
    (pss_cons (ps_set (i := 4) scEffS.nd rfl (.inr rfl) (pe_call O hr1 rfl mO kO bO .nil pass0 (pa_cons (pv 1) (pa_cons (pv 2) pa_nil))))
    (pss_one (ps_ret (pe_tup (pa_cons (pv 2) (pa_cons (pe_callTy call_tuple_of (by rfl) mtup (by decide +kernel) (pa_cons (pe_lc (own := [("pick", 5)]) (g := gName 5) (tt := tYes) (te := tOp (rIxT K) (tVar 4) (tVar 5)) rfl scEffS.nd (pi_tup (pv 3)) (blkOk_by (own := [("pick", 5)]) (N := NES) (sc := defScope sEffShuf) (by decide +kernel))
        (fun _ _ _ _ _ => pg_name (i := 5) scEffS.nd rfl (Or.inl rfl)) (fun _ _ _ _ _ => pts_nil) (fun _ _ _ _ _ => pe_ix ix_tup (pv 4) (pv 5) (fun _ _ => rfl))) pa_nil)) (pa_cons (pe_tup pa_nil) pa_nil))))))), ?_⟩
  refine ⟨_, rfl, n, l, rfl, hs, fun p t H1 s1 ht hp => ?_⟩
  refine ⟨p, _, rfl, hp, rfl, _, _, rfl, _, _, rfl, rfl, ?_⟩
  refine ⟨_, rfl, _, rfl, v, n, ds, rfl, hv.mono (.of s1), hn, fun r H2 s2 hr2 => ?_⟩
  obtain ⟨b, ys, rfl, hb, hy⟩ := hr2.tupD
  have ly : ys.length = n := by rw [hy.len, List.length_drop]; omega
  have ht2 := Same.seqT s2 ht
  refine ⟨_, rfl, _, rfl, t, rfl, ⟨_, ht2⟩, fun D hD => ?_⟩
  refine lc_mapT (fun v => match v with | .int p => ys.getD p.toNat (.int 0) | v => v) ht2 hD (by rw [List.length_map]; have := Cm.pk_len (x := (n, l)) hs; omega) (fun x H8 R' hx sm r' => ?_) ?_
  · obtain ⟨m, hm, rfl⟩ := List.mem_map.mp hx
    have hlt : m < ys.length := by rw [ly]; exact Cm.pk_lt (x := (n, l)) hs hm
    refine ⟨rfl, _, rfl, _, rfl, b, _, _, _, rfl, rfl, Same.seqT sm hb, atI_nat (j := m) ?_, r'⟩
    show _ = some (ys.getD (m : Int).toNat (.int 0))
    rw [Int.toNat_natCast, List.getElem?_eq_getElem hlt, List.getD_eq_getElem?_getD, List.getElem?_eq_getElem hlt]; rfl
  have sD := same_new hD (.lst (((Cm.pk (n, l)).map fun i : Nat => V.int (i : Int)).map fun v => match v with | .int p => ys.getD p.toNat (.int 0) | v => v))
  have em : (((Cm.pk (n, l)).map fun i : Nat => V.int (i : Int)).map fun v => match v with | .int p => ys.getD p.toNat (.int 0) | v => v) = (Cm.pk (n, l)).map fun p => ys.getD p (.int 0) := by
    rw [List.map_map]
    rfl
  have tp := trAll_pick hy (Cm.pk (n, l)) (fun p hp => by rw [← hy.len, ly]; exact Cm.pk_lt (x := (n, l)) hs hp)
  refine ⟨D, _, rfl, .inl ⟨SqL.of upd_same, fun u nu => ?_⟩⟩
  have su := same_new nu (.tup (((Cm.pk (n, l)).map fun i : Nat => V.int (i : Int)).map fun v => match v with | .int p => ys.getD p.toNat (.int 0) | v => v))
  refine ⟨(by show 0 ≤ sizeLine; decide), fun e ne => ⟨(by show 3 ≤ sizeLine; decide), fun o no => ?_⟩⟩
  have tu : Tr K (upd (upd H2 D (.lst (((Cm.pk (n, l)).map fun i : Nat => V.int (i : Int)).map fun v => match v with | .int p => ys.getD p.toNat (.int 0) | v => v))) u (.tup (((Cm.pk (n, l)).map fun i : Nat => V.int (i : Int)).map fun v => match v with | .int p => ys.getD p.toNat (.int 0) | v => v))) (.ref u) (.tuple (shufL n l ds)) := by
    refine tupTr ?_ nu
    rw [em]
    exact tp.mono (.of (by rw [← em]; exact sD))
  exact q _ _ ((s1.trans s2).trans ((sD.trans su).trans ((same_new ne _).trans (same_new no _)))) (tupTr (.cons (.int _) (.cons (tu.mono (.of (same_new ne _))) (.cons (tupTr (K := K) .nil ne) .nil))) no)
def spTold (K : Frag) : Sp := fun vs H Q _ => ∃ (z : Str) (b : Addr) (bv : List V) (bs : List (Str × List PyData)) (row : List PyData), vs = [.str z, .ref b] ∧ SqT K H b bv ∧ BkAll K H bv bs ∧ bs.lookup z = some row ∧ ∀ r : V, Tr K H r (.tuple row) → Q r H
theorem scTold : FnScope ["name", "book", "told"] ["name", "book"] (defScope sRowTold) := ⟨rfl, rfl, rfl, by decide +kernel, rfl, by decide +kernel, by decide +kernel⟩
theorem ok_told {f : Addr} {fd : FuncData} (F : Fun K "row_told" "row_told" sRowTold f fd) : FnOk P w K mg base CX0 1 f fd ["name", "book"] (spTold K) := by
  refine F.ok scTold (fun vs H Q E h => ?_) (fun cdv A outer s H vs Q E hr h => ?_)
  · obtain ⟨z, b, bv, bs, row, rfl, _⟩ := h
    rfl
  obtain ⟨z, b, bv, bs, row, rfl, hb, hB, hl, q⟩ := h
  refine ⟨_, pss_cons (ps_for PassesOwn.never rfl (pi_tup (pe_orT (pv 1) (pe_one (pe_tup pa_nil)))) (pg_name (i := 2) scTold.nd rfl (.inl rfl))
      (pss_one (ps_if (pt_cmpR op_eq (pe_ix ix_tup (pv 2) pe_int (fun _ _ => rfl)) (pv 0) (nomark _)) (pss_one (ps_ret (pe_ix ix_tup (pv 2) pe_int (fun _ _ => rfl)))) pss_nil)))
    (pss_one ps_never), ?_⟩
  have ne : bv ≠ [] := fun z' => by
    subst z'
    cases hB
    cases hl
  refine ⟨_, rfl, true, ?_, iteT ?_⟩
  · exact .inr (.inl ⟨bv, hb, by
      cases bv with
      | nil => exact absurd rfl ne
      | cons _ _ => rfl⟩)
  refine ⟨b, rfl, ⟨_, hb⟩, for_tup (K := K) (a := b) (xs := bv) (fun i σ H' => ∃ x, σ = [some (.str z), some (.ref b), x] ∧ H' = H ∧ (bs.drop i).lookup z = some row) ⟨none, rfl, rfl, hl⟩ (fun i σ H' _ h => by obtain ⟨_, _, e, _⟩ := h; rw [e]; exact hb) ?_ ?_⟩
  · rintro i x σ H' hx ⟨x2, rfl, rfl, hi⟩
    obtain ⟨e, he, p, r, rfl, hp, hr'⟩ := hB.get hx
    have hd : bs.drop i = e :: bs.drop (i + 1) := by
      obtain ⟨hlt, he'⟩ := List.getElem?_eq_some_iff.mp he
      rw [List.drop_eq_getElem_cons hlt, he']
    rw [hd] at hi
    refine ⟨_, rfl, p, _, 0, _, rfl, rfl, hp, atI_nat (j := 0) rfl, _, rfl, rfl, _, rfl, ?_⟩
    rw [eqs]
    by_cases c : e.1 = z
    · rw [decide_eq_true c]
      refine iteT ?_
      have hrow : e.2 = row := by
        rw [List.lookup_cons, show (z == e.1) = true by rw [c]; exact beq_self_eq_true z] at hi
        exact Option.some.inj hi
      refine ⟨_, rfl, p, _, 2, _, rfl, rfl, hp, atI_nat (j := 2) rfl, q _ ?_⟩
      rw [← hrow]; exact hr'
    · rw [decide_eq_false c]
      refine iteF ?_
      refine ⟨_, rfl, rfl, ?_⟩
      rw [List.lookup_cons, show (z == e.1) = false from beq_eq_false_iff_ne.mpr fun z' => c z'.symm] at hi
      exact hi
  · rintro σ H' ⟨x2, rfl, rfl, hi⟩
    rw [hB.len, List.drop_length] at hi
    cases hi
end
end K10
namespace K10
open PySem PySem.W L2 SX Cm
theorem walk_zipT {K : Frag} {a b : Addr} {xs ys : List V} {n : Nat} (h1 : xs.length = n) (h2 : ys.length = n) : L2.Walk (RZ.ItzT K a b) n (fun H => SqT K H a xs ∧ SqT K H b ys) (YPair (fun i => xs[i]?) fun i => ys[i]?) where
  goes i H hi g := ⟨xs, ys, xs[i]'(by omega), ys[i]'(by omega), g.1, g.2, List.getElem?_eq_getElem _, List.getElem?_eq_getElem _⟩
  stops H g := ⟨xs, ys, g.1, g.2, .inl (by omega)⟩
  yields i H x H' hi g h := by
    obtain ⟨T, u, v, e1, e2, e3, e4, e5⟩ := h
    exact ⟨T, u, v, e1, e2, e3, e4 xs g.1, e5 ys g.2⟩
/-- what things are held as, sort by sort -/
def heldAll : List Str → List PyData → Option (List PyData)
  | [], [] => some []
  | s :: ss, d :: ds => match hldD s d, heldAll ss ds with
    | some e, some es => some (e :: es)
    | _, _ => none
  | _, _ => none
theorem held_len : ∀ {ss : List Str} {ds hs : List PyData}, heldAll ss ds = some hs → ss.length = ds.length ∧ hs.length = ds.length
  | [], [], hs, h => by cases h; exact ⟨rfl, rfl⟩
  | [], _ :: _, hs, h => by cases h
  | _ :: _, [], hs, h => by cases h
  | s :: ss, d :: ds, hs, h => by
    unfold heldAll at h
    split at h
    · rename_i e es h1 h2
      cases h
      obtain ⟨a, b⟩ := held_len h2
      exact ⟨congrArg (· + 1) a, congrArg (· + 1) b⟩
    · cases h
theorem held_at : ∀ {ss : List Str} {ds hs : List PyData} {i : Nat} {s : Str} {d : PyData}, heldAll ss ds = some hs → ss[i]? = some s → ds[i]? = some d → ∃ e, hs[i]? = some e ∧ hldD s d = some e
  | [], [], hs, i, s, d, h, h1, h2 => by simp at h1
  | [], _ :: _, hs, i, s, d, h, h1, h2 => by cases h
  | _ :: _, [], hs, i, s, d, h, h1, h2 => by cases h
  | s0 :: ss, d0 :: ds, hs, i, s, d, h, h1, h2 => by
    unfold heldAll at h
    split at h
    · rename_i e es h3 h4
      cases h
      cases i with
      | zero =>
        cases h1
        cases h2
        exact ⟨e, rfl, h3⟩
      | succ j =>
        rw [List.getElem?_cons_succ] at h1 h2 ⊢
        exact held_at h4 h1 h2
    · cases h
section
variable {P : Program} {w : World} {K : PySem.W.Frag} {mg : Str → Option Value} {base : Heap}
def cOf (z : Str) : Option Deed := [((("do" : Str)), cDo), ("dip", cDip), ("if", cIf), ("while", cWhile), ("repeat", cRepeat)].lookup z
def spEffB (K : Frag) : Sp := fun vs H Q _ => ∃ (z : Str) (v : V) (ds hs l a : List PyData) (ss : List Str) (c : Deed), vs = [.str z, v] ∧ Tr K H v (.tuple ds) ∧ table.lookup z = some (ss.map V.str) ∧ ss.length ≤ ds.length ∧ ss.length ≤ 100 ∧ heldAll ss (ds.drop (ds.length - ss.length)) = some hs ∧ lenB hs = true ∧ cOf z = some c ∧ c hs = some (two l a) ∧
  ∀ (r : V) (H' : Hp), Same H H' → Tr K H' r (.tuple [.int ss.length, .tuple l, .tuple a]) → Q r H'
abbrev NE : List Str := ["word", "stack", "sorts", "sort", "thing", "held", "does", "left", "ahead"]
theorem scEffB : FnScope NE ["word", "stack"] (defScope sEffBasic) := ⟨rfl, rfl, rfl, by decide +kernel, rfl, by decide +kernel, by decide +kernel⟩
theorem ok_effB {f gh gt d dd : Addr} {fd ghd gtd : FuncData} {es : Array DictEntry} {nn0 : Nat} (F : Fun K "effect_of_basic" "effect_of_basic" sEffBasic f fd) (T : Tab K w mg d es nn0)
    (hDo : ∀ z c, cOf z = some c → ∃ f, KDct K w dd z (.ref f) ∧ Held P w K mg base 2 f (spDo K c)) (mD : mg "DOES" = some (.ref dd)) 
    (L : FnOk P w K mg base CX0 1 gh ghd ["sort", "thing"] (spHeld K)) (bL : L2.Binds K ghd ["sort", "thing"] []) (kL : keepIn K (.ref gh) = true) (mL : mg "held_as" = some (.ref gh))
    (O : FnOk P w K mg base CX0 1 gt gtd ["stack", "many"] (spTop K)) (bO : L2.Binds K gtd ["stack", "many"] []) (kO : keepIn K (.ref gt) = true) (mO : mg "top_of" = some (.ref gt))
    (mlen : mg "len" = none) (mzip : mg "zip" = none) : FnOk P w K mg base CX0 3 f fd ["word", "stack"] (spEffB K) := by
  refine F.ok scEffB (fun vs H Q E h => ?_) (fun cdv A outer s H vs Q E hr h => ?_)
  · obtain ⟨z, v, ds, hs, l, a, ss, c, rfl, _⟩ := h
    rfl
  obtain ⟨z, v, ds, hs, l, a, ss, c, rfl, hv, htb, hsl, hs100, hh, hlb, hc, hcd, q⟩ := h
  have hr1 := hr.mono (j := 1) (by decide)
  obtain ⟨fz, k1, hH⟩ := hDo z c hc
  have hS : ∀ f' sp, (if f' = fz then some (spDo K c) else none) = some sp → Held P w K mg base 2 f' sp := fun f' sp h => by
    by_cases e : f' = fz
    · rw [if_pos e] at h; cases h; rw [e]; exact hH
    · rw [if_neg e] at h; cases h
  refine ⟨_, pss_cons (ps_set (i := 2) scEffB.nd rfl (.inl rfl) (pe_ix ix_kdict (pe_glob (v := .ref d) rfl T.mg_ rfl) (pv 0) (fun _ _ => rfl)))
    (pss_cons (ps_setLc (i := 5) (own := [("sort", 3), ("thing", 4)]) (g := gTup K 2 (gCons (gName 3) (gCons (gName 4) gNil))) (tt := tYes) rfl scEffB.nd rfl rfl rfl (RZ.pi_zipA rfl mzip (pa_cons (pv 2) (pa_cons (pe_call O hr1 rfl mO kO bO .nil pass0 (pa_cons (pv 1) (pa_cons (pe_callB call_len_seq (by rfl) mlen PySem.boot_len (pa_cons (pv 2) pa_nil)) pa_nil))) pa_nil))) (blkOk_by (own := [("sort", 3), ("thing", 4)]) (N := NE) (sc := defScope sEffBasic) (by decide +kernel))
        (fun _ _ _ _ _ => pg_tup rfl (pgs_cons (pg_name (i := 3) scEffB.nd rfl (Or.inl rfl)) (pgs_cons (pg_name (i := 4) scEffB.nd rfl (Or.inl rfl)) pgs_nil))) (fun _ _ _ _ _ => pts_nil) (fun _ _ _ _ _ => pe_call L hr1 rfl mL kL bL .nil pass0 (pa_cons (pv 3) (pa_cons (pv 4) pa_nil))))
    (pss_cons (ps_set (i := 6) scEffB.nd rfl (.inl rfl) (pe_ix ix_kdict (pe_glob (v := .ref dd) rfl mD rfl) (pv 0) (fun _ _ => rfl)))
    (pss_cons (ps_asg (pe_callA (S := fun f' => if f' = fz then some (spDo K c) else none) hS hr (i := 6) rfl (.inl rfl) (pa_cons (pv 5) pa_nil)) (pg_tup rfl (pgs_cons (pg_name (i := 7) scEffB.nd rfl (.inl rfl)) (pgs_cons (pg_name (i := 8) scEffB.nd rfl (.inl rfl)) pgs_nil))))
    (pss_one (ps_ret (pe_tup (pa_cons (pe_callB call_len_seq (by rfl) mlen PySem.boot_len (pa_cons (pv 2) pa_nil)) (pa_cons (pv 7) (pa_cons (pv 8) pa_nil))))))))), ?_⟩
  obtain ⟨t, e1, e2⟩ := (T.ns z).2 _ htb
  have ht : ∀ H, SqT K H t (ss.map V.str) := kTup_ok e2
  have lss : (ss.map V.str).length = ss.length := List.length_map ..
  refine ⟨_, rfl, d, z, .ref t, rfl, rfl, ⟨es, nn0, _, T.kd.at_, T.kd.lit, e1, rfl⟩, ?_⟩
  refine ⟨_, rfl, _, rfl, _, rfl, t, _, rfl, .inr (ht H), v, ss.length, ds, (by rw [lss]; rfl), hv, hsl, fun r H1 s1 hr1 => ?_⟩
  obtain ⟨b, ys, rfl, hb, hy⟩ := hr1.tupD
  obtain ⟨n1, n2⟩ := held_len hh
  have ly := hy.len
  refine ⟨t, b, ss.map V.str, ys, rfl, .inr ⟨ht _, hb, fun D hD => ?_⟩⟩
  refine lc_it (walk_zipT (K := K) (a := t) (b := b) (xs := ss.map V.str) (ys := ys) (n := ss.length) lss (by omega)) (fun i H' => ∃ acc, Same H1 H' ∧ H' D = some (.lst acc) ∧ TrAll K H' acc (hs.take i) ∧ acc.length = i) ⟨[], same_new hD _, upd_same, .nil, rfl⟩ (fun i H' _ h => by obtain ⟨_, h, _⟩ := h; exact ⟨ht _, TKs.of h _ _ hb⟩) ?_ ?_
  · rintro i x H2 H3 hi ⟨acc, s2, hD2, hacc, lacc⟩ ⟨T, u, v, rfl, nT, rfl, eu, ev⟩
    have s3 : Same H1 (upd H2 T (.tup [u, v])) := s2.trans (same_new nT _)
    have hD3 : upd H2 T (.tup [u, v]) D = some (.lst acc) := kn hD2 nT
    obtain ⟨dv, e3, hdv⟩ := hy.get ev
    obtain ⟨sv, e4, rfl⟩ : ∃ sv, ss[i]? = some sv ∧ u = .str sv := by
      have eu' : (ss.map V.str)[i]? = some u := eu
      rw [List.getElem?_map] at eu'
      cases h : ss[i]? with
      | none => rw [h] at eu'; cases eu'
      | some sv => rw [h] at eu'; cases eu'; exact ⟨sv, rfl, rfl⟩
    obtain ⟨ev2, e5, e6⟩ := held_at hh e4 e3
    refine ⟨T, _, rfl, SqT.of upd_same, rfl, _, _, rfl, _, _, rfl, rfl, rfl, ?_⟩
    refine ⟨_, rfl, _, rfl, sv, v, dv, ev2, rfl, hdv.mono (.of s3), e6, fun xv hxv => ?_⟩
    refine ⟨acc, hD3, small1000 (by omega), acc ++ [xv], own_new s3 hD, upd_same, ?_, by rw [List.length_append, lacc]; rfl⟩
    rw [List.take_add_one, e5]
    exact ((hacc.mono (.of (same_new nT _))).append (.cons hxv .nil)).mono (TKs.lst hD3)
  · rintro H2 ⟨acc, s2, hD2, hacc, lacc⟩
    rw [List.take_of_length_le (by omega)] at hacc
    refine ⟨_, rfl, dd, z, .ref fz, rfl, rfl, k1, ?_⟩
    refine ⟨fz, _, rfl, if_pos rfl, _, rfl, D, acc, hs, _, rfl, SqL.of hD2, hacc, hlb, hcd, fun r2 H3 s3 hr2 => ?_⟩
    obtain ⟨a2, zs, rfl, ha2, hz2⟩ := Tr.tupD hr2
    cases hz2 with
    | cons h1 hz2 =>
      cases hz2 with
      | cons h2 hz2 =>
        cases hz2
        refine ⟨a2, _, rfl, ha2, rfl, _, _, rfl, _, _, rfl, rfl, ?_⟩
        refine ⟨_, rfl, t, _, rfl, .inr (ht _), _, rfl, _, rfl, (by show 3 ≤ sizeLine; decide), fun r3 n3 => ?_⟩
        rw [lss]
        exact q _ _ (((s1.trans s2).trans s3).trans (same_new n3 _)) (tupTr (.cons (.int _) (.cons h1 (.cons h2 .nil))) n3)
end
end K10
namespace K10
open PySem PySem.W L2 SX Cm
/-- the first of a tuple, as trees -/
theorem headTr {K : Frag} {H : Hp} {u : V} {ds : List PyData} {i : Int} {n : Nat} {Q : VK} (hu : Tr K H u (.tuple ds)) (hi : i = (n : Int)) (hn : n ≤ ds.length)
    (q : ∀ (r : V) (H' : Hp), Same H H' → Tr K H' r (.tuple (ds.take n)) → Q r H') : rSlA K u none (some i) H Q := by
  obtain ⟨a, xs, rfl, ha, hx⟩ := hu.tupD
  have lx := hx.len
  subst hi
  refine ⟨a, _, rfl, ha, fun c => ?_, fun _ p np => ?_⟩
  · have c2 := c.2
    rw [HT.sIx_nat] at c2
    rw [List.take_of_length_le (by omega)] at q
    exact q _ H (fun _ _ h => h) (.tup ha hx)
  · have e : cutV xs none (some (n : Int)) = xs.take n := by
      unfold cutV
      rw [HT.sIx_nat, HT.sIx_none, List.drop_zero, Nat.sub_zero, Nat.min_eq_left (by omega)]
    rw [e]
    exact q _ _ (same_new np _) (tupTr (TrAll.take _ hx) np)
section
variable {P : Program} {w : World} {K : PySem.W.Frag} {mg : Str → Option Value} {base : Heap}
def spBasic : Sp := fun vs H Q _ => ∃ z : Str, vs = [.str z] ∧ Q (.bl (table.lookup z).isSome) H
theorem scBasic : FnScope ["text"] ["text"] (defScope sIsBasic) := ⟨rfl, rfl, rfl, by decide +kernel, rfl, by decide +kernel, by decide +kernel⟩
theorem ok_basic {f d : Addr} {fd : FuncData} {es : Array DictEntry} {n : Nat} (F : Fun K "is_basic" "is_basic" sIsBasic f fd) (T : Tab K w mg d es n) : FnOk P w K mg base CX0 1 f fd ["text"] spBasic := by
  refine F.ok scBasic (fun vs H Q E h => ?_) (fun cdv A outer s H vs Q E hr h => ?_)
  · obtain ⟨z, rfl, _⟩ := h
    rfl
  obtain ⟨z, rfl, q⟩ := h
  refine ⟨_, pss_one (ps_ret (pe_cmpR (op_in_kd T.kd) (pv 0) (pe_glob (v := .ref d) rfl T.mg_ rfl) rfl)), ?_⟩
  obtain ⟨h1, h2⟩ := T.ns z
  cases hz : table.lookup z with
  | none =>
    rw [hz] at q
    exact ⟨_, rfl, z, none, rfl, rfl, h1 hz, q⟩
  | some xs =>
    rw [hz] at q
    obtain ⟨t, e1, e2⟩ := h2 xs hz
    exact ⟨_, rfl, z, _, rfl, rfl, e1, q⟩
end
/-- what a word does to a stack, with a book: things taken, things left, words ahead -/
inductive Ef (bs : List (Str × List PyData)) (ds : List PyData) : PyData → Nat → List PyData → List PyData → Prop
  | push (t : PyData) : Ef bs ds (pshD t) 0 [t] []
  | basic {z : Str} {ss : List Str} {hs l a : List PyData} {c : Deed} : table.lookup z = some (ss.map V.str) → ss.length ≤ ds.length → ss.length ≤ 100 → heldAll ss (ds.drop (ds.length - ss.length)) = some hs → lenB hs = true → cOf z = some c → c hs = some (two l a) → Ef bs ds (.str z) ss.length l a
  | shuf {n : Nat} {l : List Nat} : table.lookup (S (Cm.shuf n l)) = none → Cm.Shuf n l → n ≤ ds.length → Ef bs ds (.str (S (Cm.shuf n l))) n (shufL n l ds) []
  | told {x : List Nat} {row : List PyData} : table.lookup (S x) = none → x.length ≤ 1000 → shufB x = false → bs.lookup (S x) = some row → Ef bs ds (.str (S x)) 0 [] row
theorem Ef.le {bs : List (Str × List PyData)} {ds : List PyData} {wd : PyData} {k : Nat} {l a : List PyData} (h : Ef bs ds wd k l a) : k ≤ ds.length := by
  cases h with
  | push t => exact Nat.zero_le _
  | basic _ h _ _ _ _ _ => exact h
  | shuf _ _ h => exact h
  | told _ _ _ _ => exact Nat.zero_le _
section
variable {P : Program} {w : World} {K : PySem.W.Frag} {mg : Str → Option Value} {base : Heap}
def spEff (K : Frag) : Sp := fun vs H Q _ => ∃ (zv v : V) (b : Addr) (bv : List V) (wd : PyData) (ds l a : List PyData) (bs : List (Str × List PyData)) (k : Nat), vs = [zv, v, .ref b] ∧ Tr K H zv wd ∧ Tr K H v (.tuple ds) ∧ SqT K H b bv ∧ BkAll K H bv bs ∧ Ef bs ds wd k l a ∧
  ∀ (r : V) (H' : Hp), Same H H' → Tr K H' r (.tuple [.int k, .tuple l, .tuple a]) → Q r H'
theorem scEff : FnScope ["word", "stack", "book"] ["word", "stack", "book"] (defScope sEffect) := ⟨rfl, rfl, rfl, by decide +kernel, rfl, by decide +kernel, by decide +kernel⟩
theorem ok_eff {f gb ge gs gh gt : Addr} {fd gbd ged gsd ghd gtd : FuncData} (F : Fun K "effect_of" "effect_of" sEffect f fd) (misi : mg "isinstance" = none) (mtup : mg "tuple" = none)
    (B : FnOk P w K mg base CX0 1 gb gbd ["text"] spBasic) (bB : L2.Binds K gbd ["text"] []) (kB : keepIn K (.ref gb) = true) (mB : mg "is_basic" = some (.ref gb))
    (L : FnOk P w K mg base CX0 3 ge ged ["word", "stack"] (spEffB K)) (bL : L2.Binds K ged ["word", "stack"] []) (kL : keepIn K (.ref ge) = true) (mL : mg "effect_of_basic" = some (.ref ge))
    (I : FnOk P w K mg base CX0 1 gs gsd ["thing"] K10P.spIsSh) (bI : L2.Binds K gsd ["thing"] []) (kI : keepIn K (.ref gs) = true) (mI : mg "is_shuffle" = some (.ref gs))
    (U : FnOk P w K mg base CX0 3 gh ghd ["word", "stack"] (spEffS K)) (bU : L2.Binds K ghd ["word", "stack"] []) (kU : keepIn K (.ref gh) = true) (mU : mg "effect_of_shuffle" = some (.ref gh))
    (T : FnOk P w K mg base CX0 1 gt gtd ["name", "book"] (spTold K)) (bT : L2.Binds K gtd ["name", "book"] []) (kT : keepIn K (.ref gt) = true) (mT : mg "row_told" = some (.ref gt)) : FnOk P w K mg base CX0 4 f fd ["word", "stack", "book"] (spEff K) := by
  refine F.ok scEff (fun vs H Q E h => ?_) (fun cdv A outer s H vs Q E hr h => ?_)
  · obtain ⟨zv, v, b, bv, wd, ds, l, a, bs, k, rfl, _⟩ := h
    rfl
  obtain ⟨zv, v, b, bv, wd, ds, l, a, bs, k, rfl, hz, hv, hb, hB, hE, q⟩ := h
  have hr1 := hr.mono (show 1 ≤ 3 by decide)
  refine ⟨_, pss_cons (ps_if (pt_val (pe_callB call_isi (by rfl) misi PyProof.Rows.boot_isinstance (pa_cons (pv 0) (pa_cons (pe_bltn (v := .ty "tuple") (by rfl) mtup (by decide +kernel) rfl) pa_nil)))) (pss_one (ps_ret (pe_tup (pa_cons pe_int (pa_cons (pe_tup (pa_cons (pe_ix ix_tup (pv 0) pe_int (fun _ _ => rfl)) pa_nil)) (pa_cons (pe_tup pa_nil) pa_nil)))))) pss_nil)
    (pss_cons (ps_if (pt_val (pe_call B hr1 rfl mB kB bB .nil pass0 (pa_cons (pv 0) pa_nil))) (pss_one (ps_ret (pe_call L hr rfl mL kL bL .nil pass0 (pa_cons (pv 0) (pa_cons (pv 1) pa_nil))))) pss_nil)
    (pss_cons (ps_if (pt_val (pe_call I hr1 rfl mI kI bI .nil pass0 (pa_cons (pv 0) pa_nil))) (pss_one (ps_ret (pe_call U hr rfl mU kU bU .nil pass0 (pa_cons (pv 0) (pa_cons (pv 1) pa_nil))))) pss_nil)
    (pss_one (ps_ret (pe_tup (pa_cons pe_int (pa_cons (pe_tup pa_nil) (pa_cons (pe_call T hr1 rfl mT kT bT .nil pass0 (pa_cons (pv 0) (pa_cons (pv 2) pa_nil))) pa_nil)))))))), ?_⟩
  have txt : ∀ (z : Str), zv = .str z → TyX K H zv (.type "str") := fun z e => by rw [e]; exact .base (.str _)
  cases hE with
  | push t =>
    obtain ⟨p, ys, rfl, hp, hy⟩ := Tr.tupD hz
    cases hy with
    | cons h1 hy =>
      cases h1
      cases hy with
      | cons h2 hy =>
        cases hy
        refine ⟨_, rfl, _, _, _, _, true, rfl, .ty _, tyTup hp, kit_ty (r := true) (by decide +kernel), _, rfl, iteT ?_⟩
        refine ⟨_, rfl, p, _, 1, _, rfl, rfl, hp, atI_nat (j := 1) rfl, (by show 1 ≤ sizeLine; decide), fun a1 n1 => ⟨(by show 0 ≤ sizeLine; decide), fun a2 n2 => ⟨(by show 3 ≤ sizeLine; decide), fun a3 n3 => ?_⟩⟩⟩
        exact q _ _ ((same_new n1 _).trans ((same_new n2 _).trans (same_new n3 _))) (tupTr (.cons (.int 0) (.cons ((tupTr (K := K) (.cons h2 .nil) n1).mono (.of (same_new n2 _))) (.cons (tupTr (K := K) .nil n2) .nil))) n3)
  | basic ht h1 h2 h3 h4 h5 h6 =>
    cases hz
    refine ⟨_, rfl, _, _, _, _, false, rfl, .ty _, .base (.str _), kit_ty (r := false) (by decide +kernel), _, rfl, iteF ?_⟩
    refine ⟨_, rfl, _, rfl, _, rfl, ?_⟩
    rw [ht]
    refine iteT ?_
    exact ⟨_, rfl, _, rfl, _, _, ds, _, l, a, _, _, rfl, hv, ht, h1, h2, h3, h4, h5, h6, q⟩
  | shuf ht hs hn =>
    cases hz
    refine ⟨_, rfl, _, _, _, _, false, rfl, .ty _, .base (.str _), kit_ty (r := false) (by decide +kernel), _, rfl, iteF ?_⟩
    refine ⟨_, rfl, _, rfl, _, rfl, ?_⟩
    rw [ht]
    refine iteF ?_
    refine ⟨_, rfl, _, rfl, by have := Cm.shuf_len hs; omega, fun H1 s1 => ⟨_, rfl, ?_⟩⟩
    rw [Cm.shuf_ok hs]
    refine iteT ?_
    exact ⟨_, rfl, _, rfl, _, _, _, ds, rfl, hs, hv.mono (.of s1), hn, fun r H2 s2 hr2 => q r H2 (s1.trans s2) hr2⟩
  | told ht hx hs hl =>
    cases hz
    refine ⟨_, rfl, _, _, _, _, false, rfl, .ty _, .base (.str _), kit_ty (r := false) (by decide +kernel), _, rfl, iteF ?_⟩
    refine ⟨_, rfl, _, rfl, _, rfl, ?_⟩
    rw [ht]
    refine iteF ?_
    refine ⟨_, rfl, _, rfl, hx, fun H1 s1 => ⟨_, rfl, ?_⟩⟩
    rw [hs]
    refine iteF ?_
    refine ⟨(by show 0 ≤ sizeLine; decide), fun a1 n1 => ?_⟩
    have s2 := s1.trans (same_new n1 (.tup []))
    refine ⟨_, rfl, _, rfl, _, b, bv, bs, _, rfl, TKs.of s2 _ _ hb, hB.mono (.of s2), hl, fun r tr => ⟨(by show 3 ≤ sizeLine; decide), fun a3 n3 => ?_⟩⟩
    exact q _ _ (s2.trans (same_new n3 _)) (tupTr (.cons (.int 0) (.cons (tupTr (K := K) .nil n1) (.cons tr .nil))) n3)
def spStep (K : Frag) : Sp := fun vs H Q _ => ∃ (st : V) (b : Addr) (bv : List V) (bs : List (Str × List PyData)) (wd : PyData) (ds rs l a : List PyData) (k : Nat), vs = [st, .ref b] ∧ Tr K H st (.tuple [.tuple ds, .tuple (wd :: rs)]) ∧ SqT K H b bv ∧ BkAll K H bv bs ∧ Ef bs ds wd k l a ∧ ds.length ≤ 100 ∧ rs.length ≤ 100 ∧ l.length ≤ 100 ∧ a.length ≤ 2000 ∧
  ∀ (r : V) (H' : Hp), Same H H' → Tr K H' r (.tuple [.tuple (ds.take (ds.length - k) ++ l), .tuple (a ++ rs)]) → Q r H'
abbrev NSt : List Str := ["state", "book", "stack", "todo", "taken", "left", "ahead"]
theorem scStep : FnScope NSt ["state", "book"] (defScope sStep) := ⟨rfl, rfl, rfl, by decide +kernel, rfl, by decide +kernel, by decide +kernel⟩
theorem ok_step {f ge : Addr} {fd ged : FuncData} {pa : Arguments} {kws : List (Str × V)} (F : FunD K "step" "step" pa (defBody sStep) (defScope sStep) [.non] kws f fd) (mlen : mg "len" = none)
    (L : FnOk P w K mg base CX0 4 ge ged ["word", "stack", "book"] (spEff K)) (bL : L2.Binds K ged ["word", "stack", "book"] []) (kL : keepIn K (.ref ge) = true) (mL : mg "effect_of" = some (.ref ge)) : FnOk P w K mg base CX0 5 f fd ["state", "book"] (spStep K) := by
  refine F.ok scStep (fun vs H Q E h => ?_) (fun cdv A outer s H vs Q E hr h => ?_)
  · obtain ⟨st, b, bv, bs, wd, ds, rs, l, a, k, rfl, _⟩ := h
    rfl
  obtain ⟨st, b, bv, bs, wd, ds, rs, l, a, k, rfl, hst, hb, hB, hE, lds, lrs, ll, la, q⟩ := h
  have hk := hE.le
  refine ⟨_, pss_cons (ps_asg (pv 0) (pg_tup rfl (pgs_cons (pg_name (i := 2) scStep.nd rfl (.inl rfl)) (pgs_cons (pg_name (i := 3) scStep.nd rfl (.inl rfl)) pgs_nil))))
    (pss_cons (ps_if (pt_cmpR op_eq (pe_callB call_len_seq (by rfl) mlen PySem.boot_len (pa_cons (pv 3) pa_nil)) pe_int (nomark _)) (pss_one ps_never) pss_nil)
    (pss_cons (ps_asg (pe_call L hr rfl mL kL bL .nil pass0 (pa_cons (pe_ix ix_tup (pv 3) pe_int (fun _ _ => rfl)) (pa_cons (pv 2) (pa_cons (pv 1) pa_nil)))) (pg_tup rfl (pgs_cons (pg_name (i := 4) scStep.nd rfl (.inl rfl)) (pgs_cons (pg_name (i := 5) scStep.nd rfl (.inl rfl)) (pgs_cons (pg_name (i := 6) scStep.nd rfl (.inl rfl)) pgs_nil)))))
    (pss_one (ps_ret (pe_tup (pa_cons (pe_op op_catA (pe_slice sl_tupA (pv 2) po_none (po_some (pe_op op_sub (pe_callB call_len_seq (by rfl) mlen PySem.boot_len (pa_cons (pv 2) pa_nil)) (pv 4)))) (pv 5)) (pa_cons (pe_op op_catA (pv 6) (pe_slice sl_tupA (pv 3) (po_some pe_int) po_none)) pa_nil))))))), ?_⟩
  obtain ⟨sa, zs, rfl, hsa, hzs⟩ := hst.tupD
  cases hzs with
  | cons hx1 hzs =>
    cases hzs with
    | cons hx2 hzs =>
      cases hzs
      obtain ⟨a1, xs, rfl, ha1, hxs⟩ := hx1.tupD
      obtain ⟨a2, ys, rfl, ha2, hys⟩ := hx2.tupD
      have lxs := hxs.len
      cases hys with
      | cons hw hws =>
        refine ⟨_, rfl, sa, _, rfl, hsa, rfl, _, _, rfl, _, _, rfl, rfl, ?_⟩
        refine ⟨_, rfl, a2, _, rfl, .inr ha2, rfl, _, rfl, ?_⟩
        rw [decide_eq_false (by intro z; have := V.int.inj z; rw [List.length_cons] at this; omega)]
        refine iteF ?_
        refine ⟨_, rfl, a2, _, 0, _, rfl, rfl, ha2, atI_nat (j := 0) rfl, _, rfl, _, rfl, _, _, b, bv, wd, ds, l, a, bs, k, rfl, hw, hx1, hb, hB, hE, fun r H1 s1 hr1 => ?_⟩
        obtain ⟨ar, us, rfl, har, hus⟩ := hr1.tupD
        cases hus with
        | cons hkk hus =>
          cases hkk
          cases hus with
          | cons hl hus =>
            cases hus with
            | cons hah hus =>
              cases hus
              refine ⟨ar, _, rfl, har, rfl, _, _, rfl, _, _, rfl, _, _, rfl, rfl, ?_⟩
              refine ⟨_, rfl, _, rfl, a1, _, rfl, .inr (TKs.of s1 _ _ ha1), _, rfl, _, _, rfl, rfl, _, rfl, headTr (n := ds.length - k) (hx1.mono (.of s1)) (by rw [lxs]; omega) (by omega) fun r1 H2 s2 h2 => ?_⟩
              refine ⟨_, rfl, catTr h2 (hl.mono (.of s2)) (by rw [List.length_take]; omega) fun r2 H3 s3 h3 => ?_⟩
              refine ⟨_, rfl, _, rfl, _, rfl, restPart (hx2.mono (.of ((s1.trans s2).trans s3))) fun r4 H4 s4 h4 => ?_⟩
              refine catTr (hah.mono (.of ((s2.trans s3).trans s4))) h4 (by omega) fun r5 H5 s5 h5 => ?_
              refine ⟨(by show 2 ≤ sizeLine; decide), fun r nr => ?_⟩
              exact q _ _ (((((s1.trans s2).trans s3).trans s4).trans s5).trans (same_new nr _)) (tupTr (.cons (h3.mono (.of (s4.trans s5))) (.cons h5 .nil)) nr)
end
end K10
namespace K10
open PySem PySem.W L2 SX Cm
abbrev sRowDeed : Stmt := top 52
abbrev sKinds : Stmt := top 54
abbrev sFit : Stmt := top 55
abbrev sLStep : Stmt := top 56
abbrev sFor : Stmt := top 57
abbrev sLaw : Stmt := top 58
abbrev sBook : Stmt := top 50
/-! ### what the law says of the five words -/
def fives : List Str := ["do", "dip", "if", "while", "repeat"]
def kOf (z : Str) : Str := ([((("do" : Str)), ("r" : Str)), ("dip", "xr"), ("if", "nrr"), ("while", "rr"), ("repeat", "nr")].lookup z).getD "nn"
def kd1 : List (Key × V) := [(.inr "do", .str "r"), (.inr "dip", .str "xr"), (.inr "if", .str "nrr"), (.inr "while", .str "rr"), (.inr "repeat", .str "nr"), (.inr "join", .str "rr"), (.inr "wrap", .str "x")]
def kd2 : List (Key × V) := [(.inr "put", .str "lx"), (.inr "part", .str "lrr"), (.inr "each", .str "lr")]
theorem kinds_ok : ∀ z ∈ fives, (valV (mergeK [] kd1) (Sum.inr z)).getD ((valV (mergeK [] kd2) (Sum.inr z)).getD (.str "nn")) = .str (kOf z) := by decide +kernel
section
variable {P : Program} {w : World} {K : PySem.W.Frag} {mg : Str → Option Value} {base : Heap}
def spKinds : Sp := fun vs H Q _ => ∃ z : Str, vs = [.str z] ∧ z ∈ fives ∧ ∀ H', Same H H' → Q (.str (kOf z)) H'
theorem scKinds : FnScope ["_law_word", "_law_kinds_here", "_law_more"] ["_law_word"] (defScope sKinds) := ⟨rfl, rfl, rfl, by decide +kernel, rfl, by decide +kernel, by decide +kernel⟩
theorem ok_kinds {f : Addr} {fd : FuncData} (F : Fun K "_law_kinds" "_law_kinds" sKinds f fd) : FnOk P w K mg base CX0 1 f fd ["_law_word"] spKinds := by
  refine F.ok scKinds (fun vs H Q E h => ?_) (fun cdv A outer s H vs Q E hr h => ?_)
  · obtain ⟨z, rfl, _⟩ := h
    rfl
  obtain ⟨z, rfl, hz, q⟩ := h
  have hu : (A.deeper (PyProof.Rows.envOfC "_law_kinds" (defScope sKinds) s.heap.objs.size f cdv)).units + 1 < cLine := by have := hr.units; omega
  refine ⟨_, pss_cons (ps_set (i := 1) scKinds.nd rfl (.inl rfl) (pe_disp (pps_cons pe_str pe_str (pps_cons pe_str pe_str (pps_cons pe_str pe_str (pps_cons pe_str pe_str (pps_cons pe_str pe_str (pps_cons pe_str pe_str (pps_cons pe_str pe_str pps_nil))))))) (by rfl) (by rfl) (fun z => by cases z) (by decide)))
    (pss_cons (ps_set (i := 2) scKinds.nd rfl (.inl rfl) (pe_disp (pps_cons pe_str pe_str (pps_cons pe_str pe_str (pps_cons pe_str pe_str pps_nil))) (by rfl) (by rfl) (fun z => by cases z) (by decide)))
    (pss_one (ps_ret (pe_dget2 hu (pv 1) (pv 0) (pe_dget2 hu (pv 2) (pv 0) pe_str ⟨rfl, rfl, rfl, rfl⟩) ⟨rfl, rfl, rfl, rfl⟩)))), ?_⟩
  refine fun p1 n1 => ⟨upd_same, kd1, rfl, (by decide), fun p2 n2 => ⟨upd_same, kd2, rfl, (by decide), ?_⟩⟩
  rw [upd_upd] at n2
  have h1 : upd (upd (upd (upd H p1 (.dK [])) p1 (.dK (mergeK [] kd1))) p2 (.dK [])) p2 (.dK (mergeK [] kd2)) p1 = some (.dK (mergeK [] kd1)) := by
    rw [upd_upd, upd_upd]
    have ne : p1 ≠ p2 := ne_of_none upd_same n2
    rw [upd_ne ne, upd_same]
  refine ⟨_, rfl, p1, rfl, .inl ⟨_, .inl h1⟩, _, rfl, _, rfl, p2, rfl, .inl ⟨_, .inl upd_same⟩, _, rfl, _, DGet.k (k := Sum.inr z) upd_same, _, DGet.k (k := Sum.inr z) h1, ?_⟩
  rw [kinds_ok z hz]
  refine q _ ?_
  rw [upd_upd, upd_upd]
  exact (same_new n1 _).trans (same_new n2 _)
def spFit (K : Frag) : Sp := fun vs H Q _ => ∃ (c : Nat) (v : V) (t : Str) (e : PyData), vs = [.str (S [c]), v] ∧ Tr K H v (.tuple [.str t, e]) ∧ t.length ≤ 100 ∧ (c = 120 ∨ t.cps[0]? = some c) ∧ Q (.bl true) H
theorem scFit : FnScope ["_law_kind", "_law_thing_here"] ["_law_kind", "_law_thing_here"] (defScope sFit) := ⟨rfl, rfl, rfl, by decide +kernel, rfl, by decide +kernel, by decide +kernel⟩
theorem ok_fit {f : Addr} {fd : FuncData} (F : Fun K "_law_fit" "_law_fit" sFit f fd) : FnOk P w K mg base CX0 1 f fd ["_law_kind", "_law_thing_here"] (spFit K) := by
  refine F.ok scFit (fun vs H Q E h => ?_) (fun cdv A outer s H vs Q E hr h => ?_)
  · obtain ⟨c, v, t, e, rfl, _⟩ := h
    rfl
  obtain ⟨c, v, t, e, rfl, hv, ht, hc, q⟩ := h
  refine ⟨_, pss_one (ps_ret (pe_or (pe_cmpR op_eq (pv 0) pe_str (nomark _)) (pe_one (pe_cmpR op_eq (pe_ix ix_str (pe_ix ix_tup (pv 1) pe_int (fun _ _ => rfl)) pe_int (fun _ _ => rfl)) (pv 0) (nomark _))))), ?_⟩
  obtain ⟨a, xs, u, rfl, ha, hu, hT⟩ := firstTr hv
  cases hT
  have ex : ("x" : Str) = S [120] := by decide +kernel
  rw [ex]
  refine ⟨_, rfl, rfl, _, rfl, ?_⟩
  refine ite2 (fun h => ?_) (fun h => ?_)
  · exact q
  · have c1 : t.cps[0]? = some c := hc.resolve_left fun z => h (decide_eq_true (by rw [z]))
    refine ⟨_, rfl, a, xs, 0, _, rfl, rfl, ha, hu, t, 0, c, rfl, rfl, Nat.le_of_lt (small1000 (by omega)), atI_nat (j := 0) (by simpa using c1), _, rfl, rfl, ?_⟩
    rw [decide_eq_true (rfl : V.str (⟨#[c]⟩ : Str) = V.str (S [c]))]
    exact q
end
end K10
namespace K10
open PySem PySem.W L2 SX Cm
/-- the five words: things taken, words ahead -/
inductive RDeeds : Str → List PyData → List PyData → Prop
  | do_ (p : List PyData) : RDeeds "do" [rowD p] p
  | dip (x : PyData) (p : List PyData) : RDeeds "dip" [x, rowD p] (p ++ [pshD x])
  | if_ (n : Int) (p q : List PyData) : RDeeds "if" [numD n, rowD p, rowD q] (if n ≠ 0 then p else q)
  | while_ (p q : List PyData) : RDeeds "while" [rowD p, rowD q] (p ++ [pshD (rowD (q ++ [pshD (rowD p), pshD (rowD q), .str "while"])), pshD (rowD []), .str "if"])
  | rep (n : Int) (p : List PyData) : RDeeds "repeat" [numD n, rowD p] (if n = 0 then [] else p ++ [pshD (numD (n - 1)), pshD (rowD p), .str "repeat"])
def LstT (K : Frag) (H : Hp) (a : Addr) (ds : List PyData) : Prop := ∃ xs, H a = some (.lst xs) ∧ TrAll K H xs ds
theorem LstT.same {K : Frag} {H H' : Hp} {a : Addr} {ds : List PyData} (h : LstT K H a ds) (s : Same H H') : LstT K H' a ds := by
  obtain ⟨xs, h1, h2⟩ := h
  exact ⟨xs, s _ _ h1, h2.mono (.of s)⟩
theorem LstT.new {K : Frag} {H : Hp} {xs : List V} {ds : List PyData} (h : TrAll K H xs ds) {a : Addr} (n : H a = none) : LstT K (upd H a (.lst xs)) a ds := ⟨xs, upd_same, h.mono (.of (same_new n _))⟩
theorem Tr.pair' {K : Frag} {H : Hp} {v : V} {s : Str} {d : PyData} (h : Tr K H v (.tuple [.str s, d])) : ∃ a u, v = .ref a ∧ SqT K H a [.str s, u] ∧ Tr K H u d := by
  obtain ⟨a, xs, rfl, ha, hx⟩ := h.tupD
  cases hx with
  | cons h1 hx =>
    cases h1
    cases hx with
    | cons h2 hx =>
      cases hx
      exact ⟨a, _, rfl, ha, h2⟩
/-- no row among the things is too long -/
def FineR (ds : List PyData) : Prop := ∀ d ∈ ds, ∀ t, d = rowD t → t.length ≤ 1000
section
variable {P : Program} {w : World} {K : PySem.W.Frag} {mg : Str → Option Value} {base : Heap}
def spRDeed (K : Frag) : Sp := fun vs H Q _ => ∃ (z : Str) (l : Addr) (ds ah : List PyData), vs = [.str z, .ref l] ∧ RDeeds z ds ah ∧ LstT K H l ds ∧ FineR ds ∧
  ∀ (p a b : Addr) (H' : Hp), Same H H' → SqT K H' p [.ref a, .ref b] → LstT K H' a [] → LstT K H' b ah → Q (.ref p) H'
theorem scRDeed : FnScope ["_law_word", "_law_things", "_law_again"] ["_law_word", "_law_things"] (defScope sRowDeed) := ⟨rfl, rfl, rfl, by decide +kernel, rfl, by decide +kernel, by decide +kernel⟩
theorem ok_rdeed {f : Addr} {fd : FuncData} (F : Fun K "_law_row_deed" "_law_row_deed" sRowDeed f fd) (mlist : mg "list" = none) (mint : mg "int" = none) : FnOk P w K mg base CX0 1 f fd ["_law_word", "_law_things"] (spRDeed K) := by
  refine F.ok scRDeed (fun vs H Q E h => ?_) (fun cdv A outer s H vs Q E hr h => ?_)
  · obtain ⟨z, l, ds, ah, rfl, _⟩ := h
    rfl
  obtain ⟨z, l, ds, ah, rfl, hd, ⟨xs, hl, hx⟩, hf, q⟩ := h
  refine ⟨_, pss_cons (ps_if (pt_cmpR op_eq (pv 0) pe_str (nomark _)) (pss_one (ps_ret (pe_tup (pa_cons (pe_lst pa_nil) (pa_cons (pe_callTy call_list_of (by rfl) mlist (by decide +kernel) (pa_cons (pe_ix ix_tup (pe_ix ix_list (pv 1) pe_int (fun _ _ => rfl)) pe_int (fun _ _ => rfl)) pa_nil)) pa_nil))))) pss_nil)
    (pss_cons (ps_if (pt_cmpR op_eq (pv 0) pe_str (nomark _)) (pss_one (ps_ret (pe_tup (pa_cons (pe_lst pa_nil) (pa_cons (pe_op op_cat (pe_callTy call_list_of (by rfl) mlist (by decide +kernel) (pa_cons (pe_ix ix_tup (pe_ix ix_list (pv 1) pe_int (fun _ _ => rfl)) pe_int (fun _ _ => rfl)) pa_nil)) (pe_lst (pa_cons (pe_tup (pa_cons pe_str (pa_cons (pe_ix ix_list (pv 1) pe_int (fun _ _ => rfl)) pa_nil))) pa_nil))) pa_nil))))) pss_nil)
    (pss_cons (ps_if (pt_cmpR op_eq (pv 0) pe_str (nomark _)) (pss_one (ps_ret (pe_tup (pa_cons (pe_lst pa_nil) (pa_cons (pe_callTy call_list_of (by rfl) mlist (by decide +kernel) (pa_cons (pe_ix ix_tup (pe_ix ix_list (pv 1) (pe_op op_add pe_int (pe_callTy call_int1 (by rfl) mint (by decide +kernel) (pa_cons (pe_cmpR op_eq (pe_ix ix_tup (pe_ix ix_list (pv 1) pe_int (fun _ _ => rfl)) pe_int (fun _ _ => rfl)) pe_int (nomark _)) pa_nil))) (fun _ _ => rfl)) pe_int (fun _ _ => rfl)) pa_nil)) pa_nil))))) pss_nil)
    (pss_cons (ps_if (pt_cmpR op_eq (pv 0) pe_str (nomark _))
      (pss_cons (ps_set (i := 2) scRDeed.nd rfl (.inl rfl) (pe_op op_catA (pe_ix ix_tup (pe_ix ix_list (pv 1) pe_int (fun _ _ => rfl)) pe_int (fun _ _ => rfl)) (pe_tup (pa_cons (pe_tup (pa_cons pe_str (pa_cons (pe_ix ix_list (pv 1) pe_int (fun _ _ => rfl)) pa_nil))) (pa_cons (pe_tup (pa_cons pe_str (pa_cons (pe_ix ix_list (pv 1) pe_int (fun _ _ => rfl)) pa_nil))) (pa_cons pe_str pa_nil))))))
      (pss_one (ps_ret (pe_tup (pa_cons (pe_lst pa_nil) (pa_cons (pe_op op_cat (pe_callTy call_list_of (by rfl) mlist (by decide +kernel) (pa_cons (pe_ix ix_tup (pe_ix ix_list (pv 1) pe_int (fun _ _ => rfl)) pe_int (fun _ _ => rfl)) pa_nil)) (pe_lst (pa_cons (pe_tup (pa_cons pe_str (pa_cons (pe_tup (pa_cons pe_str (pa_cons (pv 2) pa_nil))) pa_nil))) (pa_cons (pe_tup (pa_cons pe_str (pa_cons (pe_tup (pa_cons pe_str (pa_cons (pe_tup pa_nil) pa_nil))) pa_nil))) (pa_cons pe_str pa_nil))))) pa_nil)))))) pss_nil)
    (pss_cons (ps_if (pt_cmpR op_eq (pe_ix ix_tup (pe_ix ix_list (pv 1) pe_int (fun _ _ => rfl)) pe_int (fun _ _ => rfl)) pe_int (nomark _)) (pss_one (ps_ret (pe_tup (pa_cons (pe_lst pa_nil) (pa_cons (pe_lst pa_nil) pa_nil))))) pss_nil)
    (pss_one (ps_ret (pe_tup (pa_cons (pe_lst pa_nil) (pa_cons (pe_op op_cat (pe_callTy call_list_of (by rfl) mlist (by decide +kernel) (pa_cons (pe_ix ix_tup (pe_ix ix_list (pv 1) pe_int (fun _ _ => rfl)) pe_int (fun _ _ => rfl)) pa_nil)) (pe_lst (pa_cons (pe_tup (pa_cons pe_str (pa_cons (pe_tup (pa_cons pe_str (pa_cons (pe_op op_sub (pe_ix ix_tup (pe_ix ix_list (pv 1) pe_int (fun _ _ => rfl)) pe_int (fun _ _ => rfl)) pe_int) pa_nil))) pa_nil))) (pa_cons (pe_tup (pa_cons pe_str (pa_cons (pe_ix ix_list (pv 1) pe_int (fun _ _ => rfl)) pa_nil))) (pa_cons pe_str pa_nil))))) pa_nil))))))))), ?_⟩
  have no : ∀ {x y : Str} {A B : Prop}, x ≠ y → B → (if decide (V.str x = V.str y) = true then A else B) := fun {x y A B} n b => by
    rw [decide_eq_false (fun e => n (V.str.inj e))]; exact iteF b
  have yes : ∀ {x : Str} {A B : Prop}, A → (if decide (V.str x = V.str x) = true then A else B) := fun {x A B} a => by
    rw [decide_eq_true rfl]; exact iteT a
  cases hd with
  | do_ p =>
    cases hx with
    | cons h1 hx =>
      cases hx
      obtain ⟨a1, u1, rfl, ha1, hu1⟩ := Tr.pair' h1
      obtain ⟨b1, ys, rfl, hb1, hy1⟩ := hu1.tupD
      refine ⟨_, rfl, rfl, _, rfl, yes ?_⟩
      refine ⟨(by show 0 ≤ sizeLine; decide), fun L nL => ?_⟩
      have sL := same_new nL (.lst [])
      refine ⟨_, rfl, l, _, 0, _, rfl, rfl, SqL.of (sL _ _ hl), atI_nat (j := 0) rfl, a1, _, 1, _, rfl, rfl, TKs.of sL _ _ ha1, atI_nat (j := 1) rfl, ?_⟩
      refine ⟨b1, _, rfl, .inr (TKs.of sL _ _ hb1), fun M nM => ⟨(by show 2 ≤ sizeLine; decide), fun o no => ?_⟩⟩
      have t2 := LstT.new (K := K) (xs := []) .nil nL
      have t3 := LstT.new (hy1.mono (.of sL)) nM
      exact q o L M _ ((sL.trans (same_new nM _)).trans (same_new no _)) (SqT.of upd_same) (t2.same ((same_new nM _).trans (same_new no _))) (t3.same (same_new no _))
  | dip x p =>
    cases hx with
    | cons h1 hx =>
      cases hx with
      | cons h2 hx =>
        cases hx
        have f2 := hf _ (List.mem_cons_of_mem _ List.mem_cons_self) _ rfl
        obtain ⟨a2, u2, rfl, ha2, hu2⟩ := Tr.pair' h2
        obtain ⟨b2, ys, rfl, hb2, hy2⟩ := hu2.tupD
        have ly := hy2.len
        refine ⟨_, rfl, rfl, _, rfl, no (by decide +kernel) ?_⟩
        refine ⟨_, rfl, rfl, _, rfl, yes ?_⟩
        refine ⟨(by show 0 ≤ sizeLine; decide), fun L nL => ?_⟩
        have sL := same_new nL (.lst [])
        refine ⟨_, rfl, l, _, 1, _, rfl, rfl, SqL.of (sL _ _ hl), atI_nat (j := 1) rfl, a2, _, 1, _, rfl, rfl, TKs.of sL _ _ ha2, atI_nat (j := 1) rfl, ?_⟩
        refine ⟨b2, _, rfl, .inr (TKs.of sL _ _ hb2), fun M nM => ?_⟩
        have sM := sL.trans (same_new nM (.lst ys))
        refine ⟨_, rfl, l, _, 0, _, rfl, rfl, SqL.of (sM _ _ hl), atI_nat (j := 0) rfl, (by show 2 ≤ sizeLine; decide), fun t nt => ⟨(by show 1 ≤ sizeLine; decide), fun N nN => ?_⟩⟩
        have t1 := tupTr (K := K) (.cons (.str "push") (.cons (h1.mono (.of sM)) .nil)) nt
        have sN := (same_new nt (.tup [.str "push", _])).trans (same_new nN (.lst [.ref t]))
        refine ⟨M, N, _, _, rfl, rfl, kn (kn upd_same nt) nN, upd_same, ?_, fun O nO => ⟨(by show 2 ≤ sizeLine; decide), fun o no => ?_⟩⟩
        · rw [sizeLine_eq]; show ys.length + 1 ≤ _; omega
        have t2 := LstT.new (K := K) (xs := []) .nil nL
        have t3 := LstT.new (K := K) ((hy2.mono (.of (sM.trans sN))).append (.cons (t1.mono (.of (same_new nN _))) .nil)) nO
        exact q o L O _ ((sM.trans sN).trans ((same_new nO _).trans (same_new no _))) (SqT.of upd_same) (t2.same (((same_new nM _).trans sN).trans ((same_new nO _).trans (same_new no _)))) (t3.same (same_new no _))
  | if_ n p r =>
    cases hx with
    | cons h1 hx =>
      cases hx with
      | cons h2 hx =>
        cases hx with
        | cons h3 hx =>
          cases hx
          obtain ⟨a1, u1, rfl, ha1, hu1⟩ := Tr.pair' h1
          cases hu1
          obtain ⟨a2, u2, rfl, ha2, hu2⟩ := Tr.pair' h2
          obtain ⟨b2, ys2, rfl, hb2, hy2⟩ := hu2.tupD
          obtain ⟨a3, u3, rfl, ha3, hu3⟩ := Tr.pair' h3
          obtain ⟨b3, ys3, rfl, hb3, hy3⟩ := hu3.tupD
          refine ⟨_, rfl, rfl, _, rfl, no (by decide +kernel) ?_⟩
          refine ⟨_, rfl, rfl, _, rfl, no (by decide +kernel) ?_⟩
          refine ⟨_, rfl, rfl, _, rfl, yes ?_⟩
          refine ⟨(by show 0 ≤ sizeLine; decide), fun L nL => ?_⟩
          have sL := same_new nL (.lst [])
          have t2 := LstT.new (K := K) (xs := []) .nil nL
          refine ⟨_, rfl, _, rfl, l, _, 0, _, rfl, rfl, SqL.of (sL _ _ hl), atI_nat (j := 0) rfl, a1, _, 1, _, rfl, rfl, TKs.of sL _ _ ha1, atI_nat (j := 1) rfl, rfl, .inr ⟨_, rfl, _, _, rfl, rfl, ?_⟩⟩
          by_cases hn : n = 0
          · rw [decide_eq_true (by rw [hn])]
            rw [if_neg (fun z => z hn)] at q
            refine ⟨l, _, 2, _, rfl, rfl, SqL.of (sL _ _ hl), atI_nat (j := 2) rfl, a3, _, 1, _, rfl, rfl, TKs.of sL _ _ ha3, atI_nat (j := 1) rfl, ?_⟩
            refine ⟨b3, _, rfl, .inr (TKs.of sL _ _ hb3), fun M nM => ⟨(by show 2 ≤ sizeLine; decide), fun o no => ?_⟩⟩
            have t3 := LstT.new (hy3.mono (.of sL)) nM
            exact q o L M _ ((sL.trans (same_new nM _)).trans (same_new no _)) (SqT.of upd_same) (t2.same ((same_new nM _).trans (same_new no _))) (t3.same (same_new no _))
          · rw [decide_eq_false (fun z => hn (V.int.inj z))]
            rw [if_pos hn] at q
            refine ⟨l, _, 1, _, rfl, rfl, SqL.of (sL _ _ hl), atI_nat (j := 1) rfl, a2, _, 1, _, rfl, rfl, TKs.of sL _ _ ha2, atI_nat (j := 1) rfl, ?_⟩
            refine ⟨b2, _, rfl, .inr (TKs.of sL _ _ hb2), fun M nM => ⟨(by show 2 ≤ sizeLine; decide), fun o no => ?_⟩⟩
            have t3 := LstT.new (hy2.mono (.of sL)) nM
            exact q o L M _ ((sL.trans (same_new nM _)).trans (same_new no _)) (SqT.of upd_same) (t2.same ((same_new nM _).trans (same_new no _))) (t3.same (same_new no _))
  | while_ p r =>
    cases hx with
    | cons h1 hx =>
      cases hx with
      | cons h2 hx =>
        cases hx
        have f1 := hf _ List.mem_cons_self _ rfl
        have f2 := hf _ (List.mem_cons_of_mem _ List.mem_cons_self) _ rfl
        obtain ⟨a1, u1, rfl, ha1, hu1⟩ := Tr.pair' h1
        obtain ⟨b1, ys1, rfl, hb1, hy1⟩ := hu1.tupD
        obtain ⟨a2, u2, rfl, ha2, hu2⟩ := Tr.pair' h2
        have ly := hy1.len
        refine ⟨_, rfl, rfl, _, rfl, no (by decide +kernel) ?_⟩
        refine ⟨_, rfl, rfl, _, rfl, no (by decide +kernel) ?_⟩
        refine ⟨_, rfl, rfl, _, rfl, no (by decide +kernel) ?_⟩
        refine ⟨_, rfl, rfl, _, rfl, yes ?_⟩
        refine ⟨_, rfl, l, _, 1, _, rfl, rfl, SqL.of hl, atI_nat (j := 1) rfl, a2, _, 1, _, rfl, rfl, ha2, atI_nat (j := 1) rfl, ?_⟩
        refine ⟨_, rfl, l, _, 0, _, rfl, rfl, SqL.of hl, atI_nat (j := 0) rfl, (by show 2 ≤ sizeLine; decide), fun c1 n1 => ?_⟩
        have s1 := same_new n1 (.tup [.str "push", .ref a1])
        refine ⟨_, rfl, l, _, 1, _, rfl, rfl, SqL.of (s1 _ _ hl), atI_nat (j := 1) rfl, (by show 2 ≤ sizeLine; decide), fun c2 n2 => ⟨(by show 3 ≤ sizeLine; decide), fun c3 n3 => ?_⟩⟩
        have s2 := s1.trans (same_new n2 (.tup [.str "push", .ref a2]))
        have s3 := s2.trans (same_new n3 (.tup [.ref c1, .ref c2, .str "while"]))
        have t1 := tupTr (K := K) (.cons (.str "push") (.cons h1 .nil)) n1
        have t2 := tupTr (K := K) (.cons (.str "push") (.cons (h2.mono (.of s1)) .nil)) n2
        have t3 := tupTr (K := K) (.cons (t1.mono (.of (same_new n2 _))) (.cons t2 (.cons (.str "while") .nil))) n3
        refine catTr (hu2.mono (.of s3)) t3 (by show r.length + 3 ≤ _; omega) fun rg H4 s4 t4 => ?_
        have s04 := s3.trans s4
        refine ⟨(by show 0 ≤ sizeLine; decide), fun L nL => ?_⟩
        have sL := same_new nL (.lst [])
        have s05 := s04.trans sL
        refine ⟨_, rfl, l, _, 0, _, rfl, rfl, SqL.of (s05 _ _ hl), atI_nat (j := 0) rfl, a1, _, 1, _, rfl, rfl, TKs.of s05 _ _ ha1, atI_nat (j := 1) rfl, ?_⟩
        refine ⟨b1, _, rfl, .inr (TKs.of s05 _ _ hb1), fun M nM => ?_⟩
        have sM := same_new nM (.lst ys1)
        have s06 := s05.trans sM
        refine ⟨_, rfl, (by show 2 ≤ sizeLine; decide), fun d1 m1 => ⟨(by show 2 ≤ sizeLine; decide), fun d2 m2 => ⟨(by show 0 ≤ sizeLine; decide), fun d3 m3 => ⟨(by show 2 ≤ sizeLine; decide), fun d4 m4 => ⟨(by show 2 ≤ sizeLine; decide), fun d5 m5 => ⟨(by show 3 ≤ sizeLine; decide), fun N nN => ?_⟩⟩⟩⟩⟩⟩
        have e1 := tupTr (K := K) (.cons (.str "row") (.cons (t4.mono (.of (sL.trans sM))) .nil)) m1
        have e2 := tupTr (K := K) (.cons (.str "push") (.cons e1 .nil)) m2
        have e3 := tupTr (K := K) .nil m3
        have e4 := tupTr (K := K) (.cons (.str "row") (.cons e3 .nil)) m4
        have e5 := tupTr (K := K) (.cons (.str "push") (.cons e4 .nil)) m5
        have z3 := same_new m3 (.tup [])
        have z4 := z3.trans (same_new m4 (.tup [.str "row", .ref d3]))
        have z5 := z4.trans (same_new m5 (.tup [.str "push", .ref d4]))
        have z2 := (same_new m1 (.tup [.str "row", rg])).trans (same_new m2 (.tup [.str "push", .ref d1]))
        have zN := (z2.trans z5).trans (same_new nN (.lst [.ref d2, .ref d5, .str "if"]))
        refine ⟨M, N, _, _, rfl, rfl, zN _ _ upd_same, upd_same, ?_, fun O nO => ⟨(by show 2 ≤ sizeLine; decide), fun o no => ?_⟩⟩
        · rw [sizeLine_eq]; show ys1.length + 3 ≤ _; omega
        have g2 := LstT.new (K := K) (xs := []) .nil nL
        have g3 := LstT.new (K := K) ((hy1.mono (.of (s06.trans zN))).append ((TrAll.cons (e2.mono (.of z5)) (.cons e5 (.cons (.str "if") .nil))).mono (.of (same_new nN _)))) nO
        exact q o L O _ ((s06.trans zN).trans ((same_new nO _).trans (same_new no _))) (SqT.of upd_same) (g2.same ((sM.trans zN).trans ((same_new nO _).trans (same_new no _)))) (g3.same (same_new no _))
  | rep n p =>
    cases hx with
    | cons h1 hx =>
      cases hx with
      | cons h2 hx =>
        cases hx
        have f2 := hf _ (List.mem_cons_of_mem _ List.mem_cons_self) _ rfl
        obtain ⟨a1, u1, rfl, ha1, hu1⟩ := Tr.pair' h1
        cases hu1
        obtain ⟨a2, u2, rfl, ha2, hu2⟩ := Tr.pair' h2
        obtain ⟨b2, ys, rfl, hb2, hy2⟩ := hu2.tupD
        have ly := hy2.len
        refine ⟨_, rfl, rfl, _, rfl, no (by decide +kernel) ?_⟩
        refine ⟨_, rfl, rfl, _, rfl, no (by decide +kernel) ?_⟩
        refine ⟨_, rfl, rfl, _, rfl, no (by decide +kernel) ?_⟩
        refine ⟨_, rfl, rfl, _, rfl, no (by decide +kernel) ?_⟩
        refine ⟨_, rfl, l, _, 0, _, rfl, rfl, SqL.of hl, atI_nat (j := 0) rfl, a1, _, 1, _, rfl, rfl, ha1, atI_nat (j := 1) rfl, rfl, _, rfl, ?_⟩
        by_cases hn : n = 0
        · rw [decide_eq_true (by rw [hn])]
          rw [if_pos hn] at q
          refine iteT ?_
          refine ⟨(by show 0 ≤ sizeLine; decide), fun L nL => ⟨(by show 0 ≤ sizeLine; decide), fun M nM => ⟨(by show 2 ≤ sizeLine; decide), fun o no => ?_⟩⟩⟩
          exact q o L M _ ((same_new nL _).trans ((same_new nM _).trans (same_new no _))) (SqT.of upd_same) ((LstT.new (K := K) (xs := []) .nil nL).same ((same_new nM _).trans (same_new no _))) ((LstT.new (K := K) (xs := []) .nil nM).same (same_new no _))
        · rw [decide_eq_false (fun z => hn (V.int.inj z))]
          rw [if_neg hn] at q
          refine iteF ?_
          refine ⟨(by show 0 ≤ sizeLine; decide), fun L nL => ?_⟩
          have sL := same_new nL (.lst [])
          refine ⟨_, rfl, l, _, 1, _, rfl, rfl, SqL.of (sL _ _ hl), atI_nat (j := 1) rfl, a2, _, 1, _, rfl, rfl, TKs.of sL _ _ ha2, atI_nat (j := 1) rfl, ?_⟩
          refine ⟨b2, _, rfl, .inr (TKs.of sL _ _ hb2), fun M nM => ?_⟩
          have sM := sL.trans (same_new nM (.lst ys))
          refine ⟨_, rfl, l, _, 0, _, rfl, rfl, SqL.of (sM _ _ hl), atI_nat (j := 0) rfl, a1, _, 1, _, rfl, rfl, TKs.of sM _ _ ha1, atI_nat (j := 1) rfl, _, _, rfl, rfl, (by show 2 ≤ sizeLine; decide), fun d1 m1 => ⟨(by show 2 ≤ sizeLine; decide), fun d2 m2 => ?_⟩⟩
          have e1 := tupTr (K := K) (H := upd (upd H L (.lst [])) M (.lst ys)) (.cons (.str "number") (.cons (.int (n - 1)) .nil)) m1
          have e2 := tupTr (K := K) (.cons (.str "push") (.cons e1 .nil)) m2
          have z1 := same_new m1 (.tup [.str "number", .int (n - 1)])
          have z2 := z1.trans (same_new m2 (.tup [.str "push", .ref d1]))
          have s02 := sM.trans z2
          refine ⟨_, rfl, l, _, 1, _, rfl, rfl, SqL.of (s02 _ _ hl), atI_nat (j := 1) rfl, (by show 2 ≤ sizeLine; decide), fun d3 m3 => ⟨(by show 3 ≤ sizeLine; decide), fun N nN => ?_⟩⟩
          have e3 := tupTr (K := K) (.cons (.str "push") (.cons (h2.mono (.of s02)) .nil)) m3
          have zN := (z2.trans (same_new m3 (.tup [.str "push", .ref a2]))).trans (same_new nN (.lst [.ref d2, .ref d3, .str "repeat"]))
          refine ⟨M, N, _, _, rfl, rfl, zN _ _ upd_same, upd_same, ?_, fun O nO => ⟨(by show 2 ≤ sizeLine; decide), fun o no => ?_⟩⟩
          · rw [sizeLine_eq]; show ys.length + 3 ≤ _; omega
          have g2 := LstT.new (K := K) (xs := []) .nil nL
          have g3 := LstT.new (K := K) ((hy2.mono (.of (sM.trans zN))).append ((TrAll.cons (e2.mono (.of (same_new m3 _))) (.cons e3 (.cons (.str "repeat") .nil))).mono (.of (same_new nN _)))) nO
          exact q o L O _ ((sM.trans zN).trans ((same_new nO _).trans (same_new no _))) (SqT.of upd_same) (g2.same (((same_new nM _).trans zN).trans ((same_new nO _).trans (same_new no _)))) (g3.same (same_new no _))
end
end K10
namespace K10
open PySem PySem.W L2 SX Cm
theorem cutV_from (xs : List V) (i : Nat) : cutV xs (some (i : Int)) none = xs.drop i := by
  unfold cutV
  rw [HT.sIx_nat, HT.sIx_none]
  by_cases h : i ≤ xs.length
  · rw [Nat.min_eq_left h, List.take_of_length_le (by rw [List.length_drop]; omega)]
  · rw [Nat.min_eq_right (by omega), List.drop_of_length_le (Nat.le_refl _), List.drop_of_length_le (by omega), List.take_nil]
theorem cutV_upto (xs : List V) (i : Nat) : cutV xs none (some (i : Int)) = xs.take i := by
  unfold cutV
  rw [HT.sIx_nat, HT.sIx_none, List.drop_zero, Nat.sub_zero]
  by_cases h : i ≤ xs.length
  · rw [Nat.min_eq_left h]
  · rw [Nat.min_eq_right (by omega), List.take_of_length_le (Nat.le_refl _), List.take_of_length_le (by omega)]
theorem basics_split : Txt.split "plus minus times less same do dip if while repeat join wrap put part each" " " = basics2 := by decide +kernel
theorem no_stroke : ∀ z ∈ fives, 45 ∉ z.cps.toList := by decide +kernel
theorem in_basics2 : ∀ z ∈ fives, inV (.str z) (basics2.map V.str) = true := by decide +kernel
theorem flat_basics2 : (basics2.map V.str).all flatV = true := by decide +kernel
theorem k_nn : ∀ z ∈ fives, kOf z ≠ "nn" := by decide +kernel
theorem in_rows : ∀ z ∈ fives, inV (.str z) [.str "do", .str "dip", .str "if", .str "while", .str "repeat"] = true := by decide +kernel
theorem k_len : ∀ z ∈ fives, (kOf z).length ≤ 3 := by decide +kernel
theorem all_flat : ∀ n : Nat, (List.replicate n (V.bl true)).all flatV = true
  | 0 => rfl
  | n + 1 => by rw [List.replicate_succ, List.all_cons, all_flat n]; rfl
theorem no_false : ∀ n : Nat, inV (.bl false) (List.replicate n (V.bl true)) = false
  | 0 => rfl
  | n + 1 => by
    unfold inV
    rw [List.replicate_succ, List.any_cons]
    have := no_false n
    unfold inV at this
    rw [this]; rfl
/-- the kinds' letters against the things -/
def Fits (x : Str) (ds : List PyData) : Prop := ∀ (i c : Nat) (d : PyData), x.cps[i]? = some c → ds[i]? = some d → ∃ (t : Str) (e : PyData), d = .tuple [.str t, e] ∧ t.length ≤ 100 ∧ (c = 120 ∨ t.cps[0]? = some c)
theorem none_ne {bs : List (Str × List PyData)} {z : Str} (h : bs.lookup z = none) {i : Nat} {e : Str × List PyData} (he : bs[i]? = some e) : ¬ e.1 = z := by
  intro c
  induction bs generalizing i with
  | nil => simp at he
  | cons y r ih =>
    rw [List.lookup_cons] at h
    cases hz : (z == y.1) with
    | true => rw [hz] at h; cases h
    | false =>
      rw [hz] at h
      cases i with
      | zero => cases he; rw [c, beq_self_eq_true] at hz; cases hz
      | succ j => rw [List.getElem?_cons_succ] at he; exact ih h he
theorem TrAll.split {K : Frag} {H : Hp} : ∀ {a b : List PyData} {xs : List V}, TrAll K H xs (a ++ b) → ∃ us ws, xs = us ++ ws ∧ TrAll K H us a ∧ TrAll K H ws b
  | [], b, xs, h => ⟨[], xs, rfl, .nil, h⟩
  | y :: a, b, xs, h => by
    have h' : TrAll K H xs (y :: (a ++ b)) := h
    cases h' with
    | cons h1 h2 =>
      obtain ⟨us, ws, rfl, h3, h4⟩ := TrAll.split h2
      exact ⟨_ :: us, ws, rfl, .cons h1 h3, h4⟩
/-- what the law says that a word does -/
inductive LEf (bs : List (Str × List PyData)) (ds : List PyData) : PyData → Nat → List PyData → List PyData → Prop
  | push (t : PyData) : LEf bs ds (pshD t) 0 [t] []
  | shuf {n : Nat} {l : List Nat} : Cm.Shuf n l → n ≤ ds.length → LEf bs ds (.str (S (Cm.shuf n l))) n (shufL n l ds) []
  | told {x : List Nat} {row : List PyData} : 45 ∉ x → bs.lookup (S x) = some row → LEf bs ds (.str (S x)) 0 [] row
  | row {z : Str} {us ws ah : List PyData} : z ∈ fives → bs.lookup z = none → ds = us ++ ws → RDeeds z ws ah → FineR ws → Fits (kOf z) ws → (kOf z).length = ws.length → LEf bs ds (.str z) ws.length [] ah
/-- a comprehension over a text's signs, the heap kept -/
theorem lc_txtS {z : List Nat} (f : Nat → V) {g : TG} {te : TE} {vs : List Nat} {σ : St} {H1 : Hp} {D : Addr} {Qd : Hp → Prop} (hl : z.length ≤ 1000) (hD : H1 D = none)
    (hs : ∀ c H (R : V → Hp → Prop), c ∈ z → Same H1 H → R (f c) H → g (.str ⟨#[c]⟩) (wipe σ vs) H fun σ2 H2 => wipe σ2 vs = wipe σ vs ∧ te σ2 H2 R) (hd : Qd (upd H1 D (.lst (z.map f)))) :
    ∃ W : Nat → Nat → Hp → Prop, (∃ m, W 0 m (upd H1 D (.lst []))) ∧ ∀ i m H, W i m H →
      ((Its (S z)).stop i H ∧ Qd H) ∨ ((Its (S z)).go i H ∧ ∃ Nx : Hp → Prop, (∀ H', Nx H' → ∃ m', m' < m ∧ W (i + 1) m' H') ∧ ∀ x H', (Its (S z)).yld i H x H' → g x (wipe σ vs) H' fun σ2 H2 => wipe σ2 vs = wipe σ vs ∧ tYes σ2 H2 fun b H3 =>
        if b = true then te σ2 H3 fun y H4 => ∃ acc, H4 D = some (.lst acc) ∧ acc.length < sizeLine ∧ Nx (upd H4 D (.lst (acc ++ [y]))) else Nx H3) := by
  refine lc_it (walk_str (z := S z)) (fun i H => H = upd H1 D (.lst ((z.take i).map f))) rfl (fun _ _ _ _ => trivial) ?_ ?_
  · rintro i x H H' hi rfl ⟨rfl, c, hc, rfl⟩
    have hc' : z[i]? = some c := by
      rw [← hc]; show z[i]? = (z.toArray)[i]?; rw [List.getElem?_toArray]
    refine hs c _ (fun y H4 => ∃ acc, H4 D = some (.lst acc) ∧ acc.length < sizeLine ∧ upd H4 D (.lst (acc ++ [y])) = upd H1 D (.lst ((z.take (i + 1)).map f))) (List.mem_of_getElem? hc') (same_new hD _) ⟨_, upd_same, ?_, ?_⟩
    · rw [List.length_map, List.length_take]; exact small1000 (by omega)
    · rw [upd_upd, List.take_add_one, hc', List.map_append]; rfl
  · rintro H rfl
    have e : (S z).cps.size = z.length := by show z.toArray.size = _; rw [List.size_toArray]
    rw [e, List.take_length]
    exact hd
section
variable {P : Program} {w : World} {K : PySem.W.Frag} {mg : Str → Option Value} {base : Heap}
def spLStep (K : Frag) : Sp := fun vs H Q _ => ∃ (s t b : Addr) (xs ys bv : List V) (wv : V) (wd : PyData) (ds rs l ah : List PyData) (bs : List (Str × List PyData)) (k : Nat), vs = [.ref s, .ref t, .ref b] ∧ H s = some (.lst xs) ∧ TrAll K H xs ds ∧ H t = some (.lst (wv :: ys)) ∧ Tr K H wv wd ∧ TrAll K H ys rs ∧ SqT K H b bv ∧ BkAll K H bv bs ∧
  LEf bs ds wd k l ah ∧ xs.length ≤ 100 ∧ ys.length ≤ 100 ∧ ah.length ≤ 2000 ∧
  ∀ (p a c : Addr) (H' : Hp), Same H H' → SqT K H' p [.ref a, .ref c] → LstT K H' a (ds.take (ds.length - k) ++ l) → LstT K H' c (ah ++ rs) → Q (.ref p) H'
abbrev NU : List Str := ["_law_stack", "_law_todo", "_law_book_here", "_law_word", "_law_taken", "_law_left", "_law_at", "_law_sign", "_law_name", "_law_told", "_law_row", "_law_basic", "_law_kinds_here", "_law_things", "_law_kind", "_law_thing_here", "_law_ahead"]
theorem scLStep : FnScope NU ["_law_stack", "_law_todo", "_law_book_here"] (defScope sLStep) := ⟨rfl, rfl, rfl, by decide +kernel, rfl, by decide +kernel, by decide +kernel⟩
theorem ok_lstep {f gk gf gd : Addr} {fd gkd gfd gdd : FuncData} (F : Fun K "_law_step" "_law_step" sLStep f fd)
    (KN : FnOk P w K mg base CX0 1 gk gkd ["_law_word"] spKinds) (bK : L2.Binds K gkd ["_law_word"] []) (kK : keepIn K (.ref gk) = true) (mK : mg "_law_kinds" = some (.ref gk))
    (FT : FnOk P w K mg base CX0 1 gf gfd ["_law_kind", "_law_thing_here"] (spFit K)) (bF : L2.Binds K gfd ["_law_kind", "_law_thing_here"] []) (kF : keepIn K (.ref gf) = true) (mF : mg "_law_fit" = some (.ref gf))
    (DD : FnOk P w K mg base CX0 1 gd gdd ["_law_word", "_law_things"] (spRDeed K)) (bD : L2.Binds K gdd ["_law_word", "_law_things"] []) (kD : keepIn K (.ref gd) = true) (mD : mg "_law_row_deed" = some (.ref gd))
    (misi : mg "isinstance" = none) (mtup : mg "tuple" = none) (mlen : mg "len" = none) (mzip : mg "zip" = none) (mlist : mg "list" = none) : FnOk P w K mg base CX0 2 f fd ["_law_stack", "_law_todo", "_law_book_here"] (spLStep K) := by
  refine F.ok scLStep (fun vs H Q E h => ?_) (fun cdv A outer s H vs Q E hr h => ?_)
  · obtain ⟨s, t, b, xs, ys, bv, wv, wd, ds, rs, l, ah, bs, k, rfl, _⟩ := h
    rfl
  obtain ⟨sa, ta, b, xs, ys, bv, wv, wd, ds, rs, l, ah, bs, k, rfl, hs, hxs, ht, hwv, hys, hb, hB, hE, lxs, lys, lah, q⟩ := h
  refine ⟨_, pss_cons (ps_set (i := 3) scLStep.nd rfl (.inl rfl) (pe_ix ix_list (pv 1) pe_int (fun _ _ => rfl)))
    (pss_cons (ps_if (pt_val (pe_callB call_isi (by rfl) misi PyProof.Rows.boot_isinstance (pa_cons (pv 3) (pa_cons (pe_bltn (v := .ty "tuple") (by rfl) mtup (by decide +kernel) rfl) pa_nil)))) (pss_one (ps_ret (pe_tup (pa_cons (pe_op op_cat (pv 0) (pe_lst (pa_cons (pe_ix ix_tup (pv 3) pe_int (fun _ _ => rfl)) pa_nil))) (pa_cons (pe_slice sl_list (pv 1) (po_some pe_int) po_none) pa_nil))))) pss_nil)
    (pss_cons (ps_if (pt_cmpR op_in_sign pe_str (pv 3) rfl) (pss_cons (ps_asg (pe_split (pv 3) pe_str) (pg_unl rfl (pgs_cons (pg_name (i := 4) scLStep.nd rfl (.inl rfl)) (pgs_cons (pg_name (i := 5) scLStep.nd rfl (.inl rfl)) pgs_nil))))
      (pss_cons (ps_set (i := 6) scLStep.nd rfl (.inr rfl) (pe_op op_sub (pe_callB call_len_seq (by rfl) mlen PySem.boot_len (pa_cons (pv 0) pa_nil)) (pe_callB call_len_str (by rfl) mlen PySem.boot_len (pa_cons (pv 4) pa_nil))))
      (pss_cons (ps_if (pt_cmpR op_lt (pv 6) pe_int (nomark _)) pss_never pss_nil)
      (pss_one (ps_ret (pe_tup (pa_cons (pe_op op_cat (pe_slice sl_list (pv 0) po_none (po_some (pv 6))) (pe_lc (own := [("_law_sign", 7)]) (g := gName 7) (tt := tYes) (te := tOp (rIxL K) (tVar 0) (tOp (rI0 fun i j => V.int (i + j)) (tVar 6) (tBMS K "str" (rIndexX fun _ _ _ _ => False) (tC (.str "abcdefgh")) (tCons (tVar 7) tNil)))) rfl scLStep.nd (pi_str (pv 5)) (blkOk_by (own := [("_law_sign", 7)]) (N := NU) (sc := defScope sLStep) (by decide +kernel))
        (fun _ _ _ _ _ => pg_name (i := 7) scLStep.nd rfl (Or.inl rfl)) (fun _ _ _ _ _ => pts_nil) (fun _ _ _ _ _ => pe_ix ix_list (pv 0) (pe_op op_add (pv 6) (pe_bmS PySem.F.plainAttrs_str PySem.F.slot_str_index PySem.F.type_str_index (mt_indexX rfl takes0) pe_str (pa_cons (pv 7) pa_nil))) (fun _ _ => rfl)))) (pa_cons (pe_slice sl_list (pv 1) (po_some pe_int) po_none) pa_nil)))))))) pss_nil)
    (pss_cons (ps_for PassesOwn.never rfl (pi_tup (pv 2)) (pg_tup rfl (pgs_cons (pg_name (i := 8) scLStep.nd rfl (.inl rfl)) (pgs_cons (pg_name (i := 9) scLStep.nd rfl (.inl rfl)) (pgs_cons (pg_name (i := 10) scLStep.nd rfl (.inl rfl)) pgs_nil))))
      (pss_one (ps_if (pt_cmpR op_eq (pv 8) (pv 3) (nomark _)) (pss_one (ps_ret (pe_tup (pa_cons (pv 0) (pa_cons (pe_op op_cat (pe_callTy call_list_of (by rfl) mlist (by decide +kernel) (pa_cons (pv 10) pa_nil)) (pe_slice sl_list (pv 1) (po_some pe_int) po_none)) pa_nil))))) pss_nil)))
    (pss_cons (ps_set (i := 11) scLStep.nd rfl (.inl rfl) (pe_split pe_str pe_str))
    (pss_cons (ps_set (i := 12) scLStep.nd rfl (.inl rfl) (pe_call KN hr rfl mK kK bK .nil pass0 (pa_cons (pv 3) pa_nil)))
    (pss_cons (ps_set (i := 13) scLStep.nd rfl (.inl rfl) (pe_slice sl_list (pv 0) (po_some (pe_op op_sub (pe_callB call_len_seq (by rfl) mlen PySem.boot_len (pa_cons (pv 0) pa_nil)) (pe_callB call_len_str (by rfl) mlen PySem.boot_len (pa_cons (pv 12) pa_nil)))) po_none))
    (pss_cons (ps_if (PW.pt (pw_or (pt_cmpR op_notIn_seq (pv 3) (pv 11) rfl) (pw_or1 (pt_cmpR op_lt (pe_callB call_len_seq (by rfl) mlen PySem.boot_len (pa_cons (pv 0) pa_nil)) (pe_callB call_len_str (by rfl) mlen PySem.boot_len (pa_cons (pv 12) pa_nil)) (nomark _))))) pss_never pss_nil)
    (pss_cons (ps_if (pt_cmpR op_in_seq pe_bl (pe_lc (own := [("_law_kind", 14), ("_law_thing_here", 15)]) (g := gTup K 2 (gCons (gName 14) (gCons (gName 15) gNil))) (tt := tYes) rfl scLStep.nd (pi_zipS rfl mzip (pa_cons (pv 12) (pa_cons (pv 13) pa_nil))) (blkOk_by (own := [("_law_kind", 14), ("_law_thing_here", 15)]) (N := NU) (sc := defScope sLStep) (by decide +kernel))
        (fun _ _ _ _ _ => pg_tup rfl (pgs_cons (pg_name (i := 14) scLStep.nd rfl (Or.inl rfl)) (pgs_cons (pg_name (i := 15) scLStep.nd rfl (Or.inl rfl)) pgs_nil))) (fun _ _ _ _ _ => pts_nil) (fun _ _ _ _ _ => pe_call FT hr rfl mF kF bF .nil pass0 (pa_cons (pv 14) (pa_cons (pv 15) pa_nil)))) rfl) pss_never pss_nil)
    (pss_cons (ps_if (pt_cmpR op_eq (pv 12) pe_str (nomark _)) pss_never (pss_one (ps_if (pt_cmpR op_in_seq (pv 3) (pe_tup (pa_cons pe_str (pa_cons pe_str (pa_cons pe_str (pa_cons pe_str (pa_cons pe_str pa_nil)))))) rfl)
        (pss_one (ps_asg (pe_call DD hr rfl mD kD bD .nil pass0 (pa_cons (pv 3) (pa_cons (pv 13) pa_nil))) (pg_tup rfl (pgs_cons (pg_name (i := 5) scLStep.nd rfl (.inl rfl)) (pgs_cons (pg_name (i := 16) scLStep.nd rfl (.inl rfl)) pgs_nil))))) pss_never)))
    (pss_one (ps_ret (pe_tup (pa_cons (pe_op op_cat (pe_slice sl_list (pv 0) po_none (po_some (pe_op op_sub (pe_callB call_len_seq (by rfl) mlen PySem.boot_len (pa_cons (pv 0) pa_nil)) (pe_callB call_len_str (by rfl) mlen PySem.boot_len (pa_cons (pv 12) pa_nil))))) (pv 5)) (pa_cons (pe_op op_cat (pv 16) (pe_slice sl_list (pv 1) (po_some pe_int) po_none)) pa_nil)))))))))))))), ?_⟩
  have e45 : ("-" : Str) = (⟨#[45]⟩ : Str) := by decide +kernel
  rw [e45]
  refine ⟨_, rfl, ta, _, 0, _, rfl, rfl, SqL.of ht, atI_nat (j := 0) rfl, ?_⟩
  have lxd := hxs.len
  cases hE with
  | push t =>
    obtain ⟨p, us, rfl, hp, hu⟩ := Tr.tupD hwv
    cases hu with
    | cons h1 hu =>
      cases h1
      cases hu with
      | cons h2 hu =>
        cases hu
        rename_i u2
        refine ⟨_, rfl, _, _, _, _, true, rfl, .ty _, tyTup hp, kit_ty (r := true) (by decide +kernel), _, rfl, iteT ?_⟩
        refine ⟨_, rfl, _, rfl, p, _, 1, _, rfl, rfl, hp, atI_nat (j := 1) rfl, (by show 1 ≤ sizeLine; decide), fun L nL => ?_⟩
        have sL := same_new nL (.lst [u2])
        refine ⟨sa, L, _, _, rfl, rfl, kn hs nL, upd_same, ?_, fun M nM => ?_⟩
        · rw [sizeLine_eq]; show xs.length + 1 ≤ _; omega
        have sM := sL.trans (same_new nM (.lst (xs ++ [u2])))
        refine ⟨_, rfl, _, rfl, ta, _, rfl, SqL.of (sM _ _ ht), fun C nC => ?_⟩
        rw [show (1 : Int) = ((1 : Nat) : Int) from rfl, cutV_from]
        refine ⟨(by show 2 ≤ sizeLine; decide), fun o no => ?_⟩
        have sC := (same_new nC (.lst ys)).trans (same_new no (.tup [.ref M, .ref C]))
        refine q o M C _ (sM.trans sC) (SqT.of upd_same) ?_ ((LstT.new (K := K) (hys.mono (.of sM)) nC).same (same_new no _))
        rw [Nat.sub_zero, List.take_length]
        exact (LstT.new (K := K) ((hxs.append (.cons h2 .nil)).mono (.of sL)) nM).same sC
  | shuf hsf hn =>
    rename_i l0
    cases hwv
    have s8 := hsf.n8
    have s12 := hsf.l12
    have sl := Cm.shuf_len hsf
    have e1 : (⟨#[45]⟩ : Str) = S [45] := by decide +kernel
    have e3 : ("abcdefgh" : Str) = S abc8 := by decide +kernel
    refine ⟨_, rfl, _, _, _, _, false, rfl, .ty _, .base (.str _), kit_ty (r := false) (by decide +kernel), _, rfl, iteF ?_⟩
    refine ⟨_, rfl, 45, _, rfl, rfl, _, rfl, ?_⟩
    rw [decide_eq_true (show 45 ∈ (S (Cm.shuf k l0)).cps.toList from List.mem_append_right _ (List.mem_cons_self ..))]
    refine iteT ?_
    refine ⟨_, rfl, ⟨_, rfl⟩, _, _, rfl, rfl, rfl, ?_, fun p hp => ?_⟩
    · rw [S_len]; exact Nat.le_of_lt (small1000 (by omega))
    rw [e1, split_S (List.cons_ne_nil _ _) (by decide), Cm.shuf_spl hsf]
    have sp := same_new hp (.lst [.str (S (Cm.abc k)), .str (S l0)])
    refine ⟨p, _, rfl, SqL.of upd_same, rfl, _, _, rfl, _, _, rfl, rfl, ?_⟩
    refine ⟨_, rfl, sa, _, rfl, .inl (SqL.of (sp _ _ hs)), _, rfl, _, rfl, ?_, _, _, rfl, rfl, ?_⟩
    · rw [S_len, Cm.abc_len s8]; exact Nat.le_of_lt (small1000 (by omega))
    have ea : ((xs.length : Nat) : Int) - (((S (Cm.abc k)).length : Nat) : Int) = ((ds.length - k : Nat) : Int) := by rw [S_len, Cm.abc_len s8, lxd]; omega
    show tSeq _ _ _ [some (.ref sa), some (.ref ta), some (.ref b), some (.str (S (Cm.shuf k l0))), some (.str (S (Cm.abc k))), some (.str (S l0)), some (.int (((xs.length : Nat) : Int) - (((S (Cm.abc k)).length : Nat) : Int))), none, none, none, none, none, none, none, none, none, none] _
    rw [ea]
    refine ⟨_, rfl, _, _, rfl, rfl, _, rfl, ?_⟩
    rw [decide_eq_false (show ¬ ((ds.length - k : Nat) : Int) < 0 by omega)]
    refine iteF ?_
    refine ⟨_, rfl, _, rfl, _, rfl, sa, _, rfl, SqL.of (sp _ _ hs), fun B nB => ?_⟩
    rw [cutV_upto]
    have sB := sp.trans (same_new nB (.lst (xs.take (ds.length - k))))
    refine ⟨_, rfl, _, rfl, fun D hD => ?_⟩
    have pkk : ∀ c ∈ l0, c - 97 < k := fun c hc => Cm.pk_lt (x := (k, l0)) hsf (List.mem_map.mpr ⟨c, hc, rfl⟩)
    refine lc_txtS (fun c => (xs.drop (ds.length - k)).getD (c - 97) (.int 0)) (by omega) hD (fun c H2 R hc sm r => ?_) ?_
    · rw [e3]
      refine ⟨rfl, _, rfl, _, rfl, rfl, _, rfl, _, _, rfl, rfl, fun j hj => ?_, fun hj => ?_⟩
      · rw [Cm.index_abc c (Cm.abc_sub (hsf.inn c hc))] at hj
        cases hj
        have hlt := pkk c hc
        have hx2 : ds.length - k + (c - 97) < xs.length := by omega
        refine ⟨_, _, rfl, rfl, sa, _, ((ds.length - k + (c - 97) : Nat) : Int), _, rfl, (by congr 1), SqL.of (sm _ _ (sB _ _ hs)), atI_nat (j := ds.length - k + (c - 97)) ?_, r⟩
        show _ = some ((xs.drop (ds.length - k)).getD (c - 97) (.int 0))
        rw [List.getD_eq_getElem?_getD, List.getElem?_drop, List.getElem?_eq_getElem hx2]; rfl
      · rw [Cm.index_abc c (Cm.abc_sub (hsf.inn c hc))] at hj
        cases hj
    have sD := sB.trans (same_new hD (.lst (l0.map fun c => (xs.drop (ds.length - k)).getD (c - 97) (.int 0))))
    refine ⟨B, D, _, _, rfl, rfl, kn upd_same hD, upd_same, ?_, fun M nM => ?_⟩
    · rw [sizeLine_eq, List.length_take, List.length_map]; omega
    have sM := sD.trans (same_new nM (.lst (xs.take (ds.length - k) ++ l0.map fun c => (xs.drop (ds.length - k)).getD (c - 97) (.int 0))))
    refine ⟨_, rfl, _, rfl, ta, _, rfl, SqL.of (sM _ _ ht), fun C nC => ?_⟩
    rw [show (1 : Int) = ((1 : Nat) : Int) from rfl, cutV_from]
    refine ⟨(by show 2 ≤ sizeLine; decide), fun o no => ?_⟩
    have sC := (same_new nC (.lst ys)).trans (same_new no (.tup [.ref M, .ref C]))
    have em : (l0.map fun c => (xs.drop (ds.length - k)).getD (c - 97) (.int 0)) = (Cm.pk (k, l0)).map fun p => (xs.drop (ds.length - k)).getD p (.int 0) := by
      unfold Cm.pk
      rw [List.map_map]; rfl
    have tp := trAll_pick (TrAll.drop (ds.length - k) hxs) (Cm.pk (k, l0)) (fun p hp => by rw [List.length_drop]; have := Cm.pk_lt (x := (k, l0)) hsf hp; show p < _; have h' : p < k := this; omega)
    have tM : TrAll K H (xs.take (ds.length - k) ++ l0.map fun c => (xs.drop (ds.length - k)).getD (c - 97) (.int 0)) (ds.take (ds.length - k) ++ shufL k l0 ds) := by
      rw [em]
      exact (TrAll.take _ hxs).append tp
    exact q o M C _ (sM.trans sC) (SqT.of upd_same) ((LstT.new (K := K) (tM.mono (.of sD)) nM).same sC) ((LstT.new (K := K) (hys.mono (.of sM)) nC).same (same_new no _))
  | told h45 hl =>
    rename_i x
    cases hwv
    refine ⟨_, rfl, _, _, _, _, false, rfl, .ty _, .base (.str _), kit_ty (r := false) (by decide +kernel), _, rfl, iteF ?_⟩
    refine ⟨_, rfl, 45, S x, rfl, rfl, _, rfl, ?_⟩
    rw [decide_eq_false (show ¬ 45 ∈ (S x).cps.toList from h45)]
    refine iteF ?_
    refine ⟨_, rfl, b, rfl, ⟨_, hb⟩, for_tup (K := K) (a := b) (xs := bv) (fun i σ H' => ∃ x8 x9 x10, σ = [some (.ref sa), some (.ref ta), some (.ref b), some (.str (S x)), none, none, none, none, x8, x9, x10, none, none, none, none, none, none] ∧ H' = H ∧ (bs.drop i).lookup (S x) = some ah) ⟨none, none, none, rfl, rfl, hl⟩ (fun i σ H' _ h => by obtain ⟨_, _, _, _, e, _⟩ := h; rw [e]; exact hb) ?_ ?_⟩
    · rintro i y σ H' hy ⟨x8, x9, x10, rfl, rfl, hi⟩
      obtain ⟨e, he, p, r, rfl, hp, hr'⟩ := hB.get hy
      have hd : bs.drop i = e :: bs.drop (i + 1) := by
        obtain ⟨hlt, he'⟩ := List.getElem?_eq_some_iff.mp he
        rw [List.drop_eq_getElem_cons hlt, he']
      rw [hd] at hi
      refine ⟨p, _, rfl, hp, rfl, _, _, rfl, _, _, rfl, _, _, rfl, rfl, ?_⟩
      refine ⟨_, rfl, _, rfl, rfl, _, rfl, ?_⟩
      rw [eqs]
      by_cases c : e.1 = S x
      · rw [decide_eq_true c]
        refine iteT ?_
        have hrow : e.2 = ah := by
          rw [List.lookup_cons, show (S x == e.1) = true by rw [c]; exact beq_self_eq_true _] at hi
          exact Option.some.inj hi
        rw [hrow] at hr'
        obtain ⟨b3, zs, rfl, hb3, hz3⟩ := hr'.tupD
        have lz := hz3.len
        refine ⟨_, rfl, _, rfl, b3, _, rfl, .inr hb3, fun M nM => ?_⟩
        have sM := same_new nM (.lst zs)
        refine ⟨_, rfl, _, rfl, ta, _, rfl, SqL.of (sM _ _ ht), fun C nC => ?_⟩
        rw [show (1 : Int) = ((1 : Nat) : Int) from rfl, cutV_from]
        have sC := sM.trans (same_new nC (.lst ys))
        refine ⟨M, C, _, _, rfl, rfl, kn upd_same nC, upd_same, ?_, fun N nN => ⟨(by show 2 ≤ sizeLine; decide), fun o no => ?_⟩⟩
        · rw [sizeLine_eq]; show zs.length + ys.length ≤ _; omega
        have sN := sC.trans ((same_new nN (.lst (zs ++ ys))).trans (same_new no (.tup [.ref sa, .ref N])))
        refine q o sa N _ sN (SqT.of upd_same) ?_ ((LstT.new (K := K) ((hz3.append hys).mono (.of sC)) nN).same (same_new no _))
        rw [Nat.sub_zero, List.take_length, List.append_nil]
        exact LstT.same (K := K) (H := H') ⟨xs, hs, hxs⟩ sN
      · rw [decide_eq_false c]
        refine iteF ?_
        refine ⟨_, _, _, rfl, rfl, ?_⟩
        rw [List.lookup_cons, show (S x == e.1) = false from beq_eq_false_iff_ne.mpr fun z' => c z'.symm] at hi
        exact hi
    · rintro σ H' ⟨x8, x9, x10, rfl, rfl, hi⟩
      rw [hB.len, List.drop_length] at hi
      cases hi
  | row hz hno hds hde hfi hft hkl =>
    rename_i z us0 dw
    cases hwv
    subst hds
    obtain ⟨us, ws, rfl, hus, hws⟩ := TrAll.split hxs
    have q : ∀ (p a c : Addr) (H' : Hp), Same H H' → SqT K H' p [.ref a, .ref c] → LstT K H' a (us0 ++ []) → LstT K H' c (ah ++ rs) → Q (.ref p) H' := fun p a c H' h1 h2 h3 h4 => q p a c H' h1 h2 (by
      rw [show (us0 ++ dw).take ((us0 ++ dw).length - dw.length) = us0 by rw [List.length_append, Nat.add_sub_cancel, List.take_left]]
      exact h3) h4
    have lus : us.length ≤ 100 := by rw [List.length_append] at lxs; omega
    have llt : ([] : List PyData).length ≤ 100 := by decide
    have lw := hws.len
    have kl := k_len z hz
    have szk : (kOf z).length ≤ sizeLine := Nat.le_of_lt (small1000 (by omega))
    have ec : (((us ++ ws).length : Nat) : Int) - (((kOf z).length : Nat) : Int) = ((us.length : Nat) : Int) := by rw [List.length_append]; omega
    refine ⟨_, rfl, _, _, _, _, false, rfl, .ty _, .base (.str _), kit_ty (r := false) (by decide +kernel), _, rfl, iteF ?_⟩
    refine ⟨_, rfl, 45, z, rfl, rfl, _, rfl, ?_⟩
    rw [decide_eq_false (no_stroke z hz)]
    refine iteF ?_
    refine ⟨_, rfl, b, rfl, ⟨_, hb⟩, for_tup (K := K) (a := b) (xs := bv) (fun i σ H' => ∃ x8 x9 x10, σ = [some (.ref sa), some (.ref ta), some (.ref b), some (.str z), none, none, none, none, x8, x9, x10, none, none, none, none, none, none] ∧ H' = H) ⟨none, none, none, rfl, rfl⟩ (fun i σ H' _ h => by obtain ⟨_, _, _, _, e⟩ := h; rw [e]; exact hb) ?_ ?_⟩
    · rintro i x σ H' hx ⟨x8, x9, x10, rfl, rfl⟩
      obtain ⟨e, he, p, r, rfl, hp, hr'⟩ := hB.get hx
      refine ⟨p, _, rfl, hp, rfl, _, _, rfl, _, _, rfl, _, _, rfl, rfl, ?_⟩
      refine ⟨_, rfl, _, rfl, rfl, _, rfl, ?_⟩
      rw [eqs, decide_eq_false (none_ne hno he)]
      exact iteF ⟨_, _, _, rfl, rfl⟩
    rintro σ H' ⟨x8, x9, x10, rfl, rfl⟩
    refine ⟨⟨_, rfl⟩, _, _, rfl, rfl, rfl, ?_, fun p1 n1 => ?_⟩
    · decide +kernel
    rw [basics_split]
    have s1 := same_new n1 (.lst (basics2.map V.str))
    refine ⟨_, rfl, z, rfl, hz, fun H2 s2 => ?_⟩
    have s12 := s1.trans s2
    have hs2 := s12 _ _ hs
    refine ⟨_, rfl, _, rfl, sa, _, rfl, .inl (SqL.of hs2), _, rfl, _, rfl, szk, _, _, rfl, rfl, ((us.length : Nat) : Int), congrArg V.int ec, sa, _, rfl, SqL.of hs2, fun R nR => ?_⟩
    rw [cutV_from, List.drop_left]
    have sR := same_new nR (.lst ws)
    have s13 := s12.trans sR
    have hp1 := sR _ _ (s2 _ _ (upd_same (H := H') (a := p1) (o := .lst (basics2.map V.str))))
    refine ⟨_, rfl, _, rfl, p1, _, rfl, .inl (SqL.of hp1), rfl, flat_basics2, _, rfl, ?_⟩
    have e1 : (if true = true then !inV (.str z) (basics2.map V.str) else inV (.str z) (basics2.map V.str)) = false := by rw [if_pos rfl, in_basics2 z hz]; rfl
    rw [e1]
    refine iteF ?_
    refine ⟨_, rfl, sa, _, rfl, .inl (SqL.of (sR _ _ hs2)), _, rfl, _, rfl, szk, _, _, rfl, rfl, _, rfl, ?_⟩
    rw [decide_eq_false (show ¬ (((us ++ ws).length : Nat) : Int) < (((kOf z).length : Nat) : Int) by rw [List.length_append]; omega)]
    refine iteF ?_
    refine ⟨_, rfl, _, rfl, kOf z, R, ws, rfl, SqL.of upd_same, fun D hD => ?_⟩
    have sz : (kOf z).cps.size = ws.length := hkl.trans lw.symm
    refine lc_it (walk_zipS (K := K) (x := kOf z) (b := R) (ys := ws) (n := ws.length) sz rfl) (fun i H'' => Same (upd H2 R (.lst ws)) H'' ∧ H'' D = some (.lst (List.replicate i (V.bl true)))) ⟨same_new hD _, upd_same⟩ (fun i H'' _ h => SqL.of (h.1 _ _ upd_same)) ?_ ?_
    · rintro i x H3 H4 hi ⟨s3, hD3⟩ ⟨T, u, v, rfl, nT, rfl, eu, ev⟩
      obtain ⟨c, hc, rfl⟩ : ∃ c, (kOf z).cps[i]? = some c ∧ u = .str ⟨#[c]⟩ := by
        have eu' : ((kOf z).cps[i]?).map (fun c => V.str ⟨#[c]⟩) = some u := eu
        obtain ⟨c, h1, h2⟩ := Option.map_eq_some_iff.mp eu'
        exact ⟨c, h1, h2.symm⟩
      have s4 : Same H' (upd H3 T (.tup [.str ⟨#[c]⟩, v])) := (s13.trans s3).trans (same_new nT _)
      have hD4 : upd H3 T (.tup [.str ⟨#[c]⟩, v]) D = some (.lst (List.replicate i (V.bl true))) := kn hD3 nT
      obtain ⟨dv, e3, hdv⟩ := hws.get (show ws[i]? = some v from ev)
      obtain ⟨tg, e, rfl, ltg, hcc⟩ := hft i c dv hc e3
      refine ⟨T, _, rfl, SqT.of upd_same, rfl, _, _, rfl, _, _, rfl, rfl, rfl, ?_⟩
      refine ⟨_, rfl, _, rfl, c, v, tg, e, rfl, hdv.mono (.of s4), ltg, hcc, ?_⟩
      refine ⟨_, hD4, ?_, own_new (s3.trans (same_new nT _)) hD, ?_⟩
      · rw [List.length_replicate, sizeLine_eq]; omega
      · rw [upd_same, List.replicate_succ']
    rintro H3 ⟨s3, hD3⟩
    refine ⟨D, _, rfl, .inl (SqL.of hD3), rfl, all_flat _, _, rfl, ?_⟩
    have e2 : (if false = true then !inV (.bl false) (List.replicate ws.length (V.bl true)) else inV (.bl false) (List.replicate ws.length (V.bl true))) = false := by rw [if_neg (by decide), no_false]
    rw [e2]
    refine iteF ?_
    refine ⟨_, rfl, rfl, _, rfl, ?_⟩
    rw [decide_eq_false (fun e => k_nn z hz (V.str.inj e))]
    refine iteF ?_
    refine ⟨_, rfl, (by show 5 ≤ sizeLine; decide), fun T5 n5 => ?_⟩
    refine ⟨T5, _, rfl, .inr (SqT.of upd_same), rfl, rfl, _, rfl, ?_⟩
    have e3 : (if false = true then !inV (.str z) [.str "do", .str "dip", .str "if", .str "while", .str "repeat"] else inV (.str z) [.str "do", .str "dip", .str "if", .str "while", .str "repeat"]) = true := by rw [if_neg (by decide), in_rows z hz]
    rw [e3]
    refine iteT ?_
    have s5 := same_new n5 (.tup [.str "do", .str "dip", .str "if", .str "while", .str "repeat"])
    have s25 := s3.trans s5
    have s05 := s13.trans s25
    have hR5 := s25 _ _ (upd_same (H := H2) (a := R) (o := .lst ws))
    refine ⟨_, rfl, _, rfl, z, R, dw, _, rfl, hde, ⟨ws, hR5, hws.mono (.of s05)⟩, hfi, fun p a c H6 s6 hp6 ha6 hc6 => ?_⟩
    refine ⟨p, _, rfl, hp6, rfl, _, _, rfl, _, _, rfl, rfl, ?_⟩
    have s06 := s05.trans s6
    have hs6 := s06 _ _ hs
    refine ⟨_, rfl, _, rfl, sa, _, rfl, .inl (SqL.of hs6), _, rfl, _, rfl, szk, _, _, rfl, rfl, ((us.length : Nat) : Int), congrArg V.int ec, sa, _, rfl, SqL.of hs6, fun B nB => ?_⟩
    rw [cutV_upto, List.take_left]
    have sB := same_new nB (.lst us)
    obtain ⟨ls, ha7, hls⟩ := ha6.same sB
    have lls := hls.len
    refine ⟨_, rfl, B, a, us, ls, rfl, rfl, upd_same, ha7, ?_, fun M nM => ?_⟩
    · rw [sizeLine_eq]; omega
    have sM := same_new nM (.lst (us ++ ls))
    have s07 := s06.trans (sB.trans sM)
    have t1 := LstT.new (K := K) ((hus.mono (.of (s06.trans sB))).append hls) nM
    refine ⟨_, rfl, _, rfl, _, rfl, ta, _, rfl, SqL.of (s07 _ _ ht), fun C nC => ?_⟩
    rw [show (1 : Int) = ((1 : Nat) : Int) from rfl, cutV_from]
    have sC := same_new nC (.lst ((V.str z :: ys).drop 1))
    obtain ⟨as, hc7, has⟩ := hc6.same ((sB.trans sM).trans sC)
    have las := has.len
    refine ⟨c, C, as, _, rfl, rfl, hc7, upd_same, ?_, fun N nN => ⟨(by show 2 ≤ sizeLine; decide), fun o no => ?_⟩⟩
    · rw [sizeLine_eq]; show as.length + ys.length ≤ _; omega
    have t2 := LstT.new (K := K) (has.append (hys.mono (.of (s07.trans sC)))) nN
    exact q o M N _ ((s07.trans sC).trans ((same_new nN _).trans (same_new no _))) (SqT.of upd_same) (t1.same (sC.trans ((same_new nN _).trans (same_new no _)))) (t2.same (same_new no _))
end
end K10
namespace K10
open PySem PySem.W L2 SX Cm
/-! ### names of told words -/
def hasP (x : List Nat) : Bool := [112, 108].isPrefixOf x || ([113].isPrefixOf x || ([105, 102, 115].isPrefixOf x || [100, 111, 119].isPrefixOf x))
def plusL : List Nat := [112, 108, 117, 115]
def seven : List Str := ["do", "if", "each", "dip", "plus", "part", "put"]
def bases : List (List Nat) := [[112, 108], [112, 108, 117], [113], [105, 102, 115], [100, 111, 119]]
theorem isPre_app {p x : List Nat} (c : List Nat) (h : p.isPrefixOf x = true) : p.isPrefixOf (x ++ c) = true := by
  rw [List.isPrefixOf_iff_prefix] at h ⊢
  exact h.trans (List.prefix_append x c)
theorem hasP_app {x : List Nat} (c : List Nat) (h : hasP x = true) : hasP (x ++ c) = true := by
  unfold hasP at h ⊢
  simp only [Bool.or_eq_true] at h ⊢
  rcases h with h | h | h | h
  · exact .inl (isPre_app c h)
  · exact .inr (.inl (isPre_app c h))
  · exact .inr (.inr (.inl (isPre_app c h)))
  · exact .inr (.inr (.inr (isPre_app c h)))
/-- a name -/
structure Gn (x : List Nat) : Prop where
  pre : hasP x = true
  az : ∀ c ∈ x, c ∈ az
  len : x.length ≤ 8
  ne : x ≠ plusL
theorem S_inj {x y : List Nat} (h : S x = S y) : x = y := by
  have : (S x).cps.toList = (S y).cps.toList := by rw [h]
  simpa [S] using this
theorem tab_pre : ∀ z ∈ table.map (·.1), hasP z.cps.toList = true → z.cps.toList = plusL := by decide +kernel
theorem seven_pre : ∀ z ∈ seven, hasP z.cps.toList = true → z.cps.toList = plusL := by decide +kernel
theorem five_tab : ∀ z ∈ fives, z ∈ table.map (·.1) := by decide +kernel
theorem lookup_fst {α : Type} {z : Str} {v : α} : ∀ {T : List (Str × α)}, T.lookup z = some v → z ∈ T.map (·.1)
  | [], h => by cases h
  | y :: r, h => by
    rw [List.lookup_cons] at h
    cases hz : (z == y.1) with
    | true => exact List.mem_cons.mpr (.inl (eq_of_beq hz))
    | false => rw [hz] at h; exact List.mem_cons_of_mem _ (lookup_fst h)
theorem Gn.notab {x : List Nat} (h : Gn x) : S x ∉ table.map (·.1) := fun hm => h.ne (tab_pre _ hm h.pre)
theorem Gn.tab {x : List Nat} (h : Gn x) : table.lookup (S x) = none := by
  cases hl : table.lookup (S x) with
  | none => rfl
  | some v => exact absurd (lookup_fst hl) h.notab
theorem Gn.no7 {x : List Nat} (h : Gn x) : S x ∉ seven := fun hm => h.ne (seven_pre _ hm h.pre)
theorem az45 : 45 ∉ Cm.az := by decide
theorem Gn.no45 {x : List Nat} (h : Gn x) : 45 ∉ x := fun hm => az45 (h.az _ hm)
theorem Gn.noshuf {x : List Nat} (h : Gn x) : shufB x = false := by
  unfold shufB
  cases hp : TL.par [45] [] x with
  | none => rfl
  | some tl =>
    obtain ⟨p, _, e, _⟩ := par_spec x [] tl.1 tl.2 hp
    exact absurd (by rw [e]; exact List.mem_append_right _ (List.mem_cons_self ..)) h.no45
theorem bases_ok : ∀ x ∈ bases, hasP x = true ∧ (∀ c ∈ x, c ∈ az) ∧ x.length ≤ 3 ∧ x ≠ plusL := by decide +kernel
/-- the book's names, none longer than n -/
def BN (bs : List (Str × List PyData)) (n : Nat) : Prop := ∀ e ∈ bs, ∃ y, e.1 = S y ∧ Gn y ∧ y.length ≤ n
/-- the word ahead of a round -/
structure Wi (k : Nat) (x : List Nat) (bs : List (Str × List PyData)) : Prop where
  g : Gn x
  bn : BN bs x.length
  k0 : k = 0 → bs = [] ∧ x.length ≤ 3
  k1 : 1 ≤ k → S x ∈ bs.map (·.1) ∧ (x.length ≤ 2 + k ∨ (5 ≤ x.length ∧ x.length ≤ 3 + k))
/-- the word behind a round -/
structure Fw (k : Nat) (x : List Nat) (bs : List (Str × List PyData)) : Prop where
  g : Gn x
  lt : ∀ e ∈ bs, ∃ y, e.1 = S y ∧ Gn y ∧ y.length < x.length
  l : x.length ≤ 3 + k ∨ (5 ≤ x.length ∧ x.length ≤ 4 + k)
theorem Fw.next {k : Nat} {x : List Nat} {bs : List (Str × List PyData)} (h : Fw k x bs) (row : List PyData) : Wi (k + 1) x (bs ++ [(S x, row)]) where
  g := h.g
  bn e he := by
    rcases List.mem_append.mp he with he | he
    · obtain ⟨y, e1, g, l⟩ := h.lt e he
      exact ⟨y, e1, g, by omega⟩
    · rw [List.mem_singleton.mp he]; exact ⟨x, rfl, h.g, Nat.le_refl _⟩
  k0 z := by omega
  k1 _ := by
    refine ⟨?_, by have := h.l; omega⟩
    rw [List.map_append]
    exact List.mem_append_right _ (List.mem_cons_self ..)
/-- the word within a round, behind i letters -/
def Mi (k : Nat) (x0 : List Nat) (bs : List (Str × List PyData)) (i : Nat) (x : List Nat) : Prop := (i = 0 ∧ x = x0) ∨ (i = 1 ∧ x = plusL ∧ 1 ≤ k ∧ BN bs 3) ∨ (1 ≤ i ∧ Fw k x bs)
theorem Mi.len {k : Nat} {x0 x : List Nat} {bs : List (Str × List PyData)} {i : Nat} (w : Wi k x0 bs) (h : Mi k x0 bs i x) : x.length ≤ 8 := by
  rcases h with ⟨_, rfl⟩ | ⟨_, rfl, _⟩ | ⟨_, f⟩
  · exact w.g.len
  · decide
  · exact f.g.len
theorem Mi.az {k : Nat} {x0 x : List Nat} {bs : List (Str × List PyData)} {i : Nat} (w : Wi k x0 bs) (h : Mi k x0 bs i x) : ∀ c ∈ x, c ∈ Cm.az := by
  rcases h with ⟨_, rfl⟩ | ⟨_, rfl, _⟩ | ⟨_, f⟩
  · exact w.g.az
  · decide
  · exact f.g.az
theorem Mi.in_ {k : Nat} {x0 x : List Nat} {bs : List (Str × List PyData)} {i c : Nat} (w : Wi k x0 bs) (h : Mi k x0 bs i x) (hk : k ≤ 4) (hc : c ∈ Cm.az) (hm : S x ∈ bs.map (·.1) ++ seven) :
    (x ++ [c]).length ≤ 8 ∧ Mi k x0 bs (i + 1) (x ++ [c]) := by
  have az' : (∀ d ∈ x, d ∈ Cm.az) → ∀ d ∈ x ++ [c], d ∈ Cm.az := fun h d hd => by
    rcases List.mem_append.mp hd with hd | hd
    · exact h d hd
    · rw [List.mem_singleton.mp hd]; exact hc
  rcases h with ⟨rfl, rfl⟩ | ⟨rfl, rfl, k1, bn⟩ | ⟨hi, f⟩
  · by_cases k0 : k = 0
    · obtain ⟨rfl, _⟩ := w.k0 k0
      exact absurd (by simpa using hm) w.g.no7
    · obtain ⟨_, hl⟩ := w.k1 (by omega)
      have ll : (x ++ [c]).length = x.length + 1 := by rw [List.length_append]; rfl
      refine ⟨by omega, ?_⟩
      by_cases hp : x ++ [c] = plusL
      · refine .inr (.inl ⟨rfl, hp, by omega, ?_⟩)
        have : x.length = 3 := by have e := congrArg List.length hp; rw [ll] at e; have : plusL.length = 4 := rfl; omega
        rw [← this]; exact w.bn
      · refine .inr (.inr ⟨by omega, ⟨hasP_app [c] w.g.pre, az' w.g.az, by omega, hp⟩, fun e he => ?_, by omega⟩)
        obtain ⟨y, e1, g, l⟩ := w.bn e he
        exact ⟨y, e1, g, by omega⟩
  · refine ⟨(by show 5 ≤ 8; decide), .inr (.inr ⟨by omega, ⟨hasP_app [c] (by decide), az' (by decide), (by show 5 ≤ 8; decide), fun z => by have e : (5 : Nat) = 4 := congrArg List.length z; cases e⟩, fun e he => ?_, ?_⟩)⟩
    · obtain ⟨y, e1, g, l⟩ := bn e he
      exact ⟨y, e1, g, by rw [List.length_append]; show y.length < 4 + 1; omega⟩
    · rw [List.length_append]; show 4 + 1 ≤ 3 + k ∨ (5 ≤ 4 + 1 ∧ 4 + 1 ≤ 4 + k); omega
  · rcases List.mem_append.mp hm with hm | hm
    · obtain ⟨e, he, ee⟩ := List.mem_map.mp hm
      obtain ⟨y, e1, g, l⟩ := f.lt e he
      rw [e1] at ee
      rw [S_inj ee] at l
      omega
    · exact absurd hm f.g.no7
theorem Mi.out {k : Nat} {x0 x : List Nat} {bs : List (Str × List PyData)} {i : Nat} (w : Wi k x0 bs) (h : Mi k x0 bs i x) (hm : S x ∉ bs.map (·.1) ++ seven) : Mi k x0 bs (i + 1) x := by
  rcases h with ⟨rfl, rfl⟩ | ⟨rfl, rfl, k1, bn⟩ | ⟨hi, f⟩
  · by_cases k0 : k = 0
    · obtain ⟨rfl, h3⟩ := w.k0 k0
      exact .inr (.inr ⟨by omega, w.g, (fun e he => nomatch he), by omega⟩)
    · exact absurd (List.mem_append_left _ (w.k1 (by omega)).1) hm
  · exact absurd (List.mem_append_right _ (by decide +kernel)) hm
  · exact .inr (.inr ⟨by omega, f⟩)
theorem Mi.end_ {k : Nat} {x0 x : List Nat} {bs : List (Str × List PyData)} {i : Nat} (h : Mi k x0 bs i x) (hi : 2 ≤ i) : Fw k x bs := by
  rcases h with ⟨rfl, _⟩ | ⟨rfl, _⟩ | ⟨_, f⟩
  · omega
  · omega
  · exact f
/-- the names of a book are names -/
theorem BN.five {bs : List (Str × List PyData)} {n : Nat} (h : BN bs n) {z : Str} (hz : z ∈ fives) : bs.lookup z = none := by
  cases hl : bs.lookup z with
  | none => rfl
  | some v =>
    obtain ⟨e, he, ee⟩ := List.mem_map.mp (lookup_fst hl)
    obtain ⟨y, e1, g, _⟩ := h e he
    rw [← ee, e1] at hz
    exact absurd (five_tab _ hz) g.notab
theorem inV_str (z : Str) : ∀ zs : List Str, inV (.str z) (zs.map V.str) = decide (z ∈ zs)
  | [] => rfl
  | y :: r => by
    have ih := inV_str z r
    show ((y == z) || inV (.str z) (r.map V.str)) = _
    rw [ih]
    by_cases h : y = z
    · rw [h, beq_self_eq_true, Bool.true_or, decide_eq_true (List.mem_cons_self ..)]
    · rw [beq_eq_false_iff_ne.mpr h, Bool.false_or]
      by_cases h2 : z ∈ r
      · rw [decide_eq_true h2, decide_eq_true (List.mem_cons_of_mem _ h2)]
      · rw [decide_eq_false h2, decide_eq_false (fun h3 => by
          rcases List.mem_cons.mp h3 with h3 | h3
          · exact h h3.symm
          · exact h2 h3)]
theorem cut8 {x : List Nat} (h : x.length ≤ 8) : cutS (S x) (some (-8)) none = S x := by
  unfold cutS
  have e : HT.sIx (S x).length 0 (some (-8)) = 0 := by
    show (if (-8 : Int) < 0 then ((-8 : Int) + ((S x).length : Int)).toNat else min (-8 : Int).toNat (S x).length) = 0
    rw [if_pos (by decide), S_len]
    omega
  rw [e, HT.sIx_none, List.drop_zero, Nat.sub_zero, List.take_of_length_le (by rw [S_len]; exact Nat.le_refl _)]
section
open PySem.Spec PyProof.Rows
variable {X : Cx}
/-- a text twice -/
theorem op_twice : OpR X (binaryOp .Mult) (fun x y H Q => ∃ a : Str, x = .str a ∧ y = .int 2 ∧ 1 ≤ a.length ∧ a.length ≤ 1000 ∧ Q (.str ⟨a.cps ++ a.cps⟩) H) := by
  intro pins s σ H x y v u Q I rx ry h
  obtain ⟨a, rfl, rfl, h1, h2, q⟩ := h
  obtain ⟨t, rfl⟩ := rx
  obtain ⟨t', rfl⟩ := ry
  have hn : (((2 : Int) == 1) || a.length == 0) = false := by
    rw [show ((2 : Int) == 1) = false from rfl, Bool.false_or]
    exact beq_eq_false_iff_ne.mpr (by omega)
  refine P.mul_str (by decide) (fun _ _ => ?_) (fun _ _ => ?_) ?_
  · have : (2 ^ 63 - 1 : Int) / 2 = 4611686018427387903 := by decide
    rw [this]; omega
  · show decide (a.length * 2 > sizeLine) = false
    exact decide_eq_false (by rw [sizeLine_eq]; omega)
  · rw [if_neg (by decide), hn, if_neg (by decide)]
    have e : (List.replicate (2 : Int).toNat a.cps).foldl (· ++ ·) #[] = a.cps ++ a.cps := by
      show (#[] ++ a.cps) ++ a.cps = _
      rw [Array.empty_append]
    rw [e]
    refine ⟨?_, .str _, H, I.tok _, ⟨_, rfl⟩, q⟩
    show (a.cps ++ a.cps).size ≤ _
    rw [Array.size_append, sizeLine_eq]
    have : a.cps.size ≤ 1000 := h2
    omega
end
end K10
namespace K10
open PySem PySem.W L2 SX Cm
theorem Dk.same {H H' : Hp} {d : Addr} (g : Dk H d) (s : Same H H') : Dk H' d := by
  obtain ⟨ms, e, l⟩ := g
  exact ⟨ms, s _ _ e, l⟩
theorem cutS_from (x : List Nat) (n : Nat) : cutS (S x) (some (n : Int)) none = S (x.drop n) := by
  unfold cutS
  rw [HT.sIx_nat, HT.sIx_none, S_len]
  show S ((x.drop (min n x.length)).take (x.length - min n x.length)) = _
  by_cases h : n ≤ x.length
  · rw [Nat.min_eq_left h, List.take_of_length_le (by rw [List.length_drop]; exact Nat.le_refl _)]
  · rw [Nat.min_eq_right (by omega), List.drop_of_length_le (Nat.le_refl _), List.drop_of_length_le (by omega), List.take_nil]
theorem flatS (ys : List Str) : (ys.map V.str).all flatV = true := by
  rw [List.all_map]
  exact List.all_eq_true.mpr fun _ _ => rfl
theorem lay_strs : ∀ {zs : List Str}, (∀ z ∈ zs, Tx z 100) → PyData.canLayAll0 (zs.map PyData.str) = true ∧ PyData.depthAll (zs.map PyData.str) = 0
  | [], _ => ⟨rfl, rfl⟩
  | z :: r, h => by
    obtain ⟨a, b⟩ := lay_strs (zs := r) fun y hy => h y (List.mem_cons_of_mem _ hy)
    have hz := h z (List.mem_cons_self ..)
    refine ⟨?_, ?_⟩
    · show (z.cps.all (· < 0x110000) && PyData.canLayAll0 (r.map PyData.str)) = true
      rw [a, Bool.and_true, ← Array.all_toList, List.all_eq_true]
      intro c hc
      exact decide_eq_true (hz.ch c hc)
    · show max 0 (PyData.depthAll (r.map PyData.str)) = 0
      rw [b]; rfl
theorem shaped_strs {zs : List Str} (h : ∀ z ∈ zs, Tx z 100) : SeqAt.shaped (.list (zs.map PyData.str)) = true := by
  obtain ⟨a, b⟩ := lay_strs h
  show (PyData.canLayAll0 (zs.map PyData.str) && decide (PyData.depthAll (zs.map PyData.str) + 1 ≤ 64)) = true
  rw [a, b]; rfl
theorem dp_strs {K : PySem.W.Frag} {H : Hp} : ∀ zs : List Str, DpAll K H (zs.map V.str) (zs.map PyData.str)
  | [] => .nil
  | z :: r => .cons (.str z) (dp_strs r)
theorem az_lt : ∀ c ∈ Cm.az, c < 1114112 := by decide
theorem Gn.tx {x : List Nat} (h : Gn x) : Tx (S x) 100 := ⟨by rw [S_len]; have := h.len; omega, fun c hc => az_lt c (h.az c hc)⟩
theorem seven_tx : ∀ z ∈ seven, litB z 100 = true := by decide +kernel
theorem ne_nilD (ds : List PyData) : (!PyData.eqv (.list ds) (.list [])) = decide (0 < ds.length) := by
  cases ds with
  | nil => rfl
  | cons x r => rfl
/-- a told word as data -/
def bkD (e : Str × List PyData) : PyData := .tuple [.str e.1, .none, .tuple e.2]
theorem BkAll.dp {K : Frag} {H : Hp} : ∀ {vs : List V} {es : List (Str × List PyData)}, BkAll K H vs es → DpAll K H vs (es.map bkD)
  | _, _, .nil => .nil
  | _, _, .cons h t => by
    obtain ⟨p, r, rfl, h1, h2⟩ := h
    exact .cons (.tup h1 (.cons (.str _) (.cons .non (.cons h2.dp .nil)))) t.dp
theorem bk_lay : ∀ {es : List (Str × List PyData)}, (∀ e ∈ es, Tx e.1 100 ∧ ∃ w m, Rw 1 w m e.2) → PyData.canLayAll0 (es.map bkD) = true ∧ PyData.depthAll (es.map bkD) ≤ 20
  | [], _ => ⟨rfl, Nat.zero_le _⟩
  | e :: r, h => by
    obtain ⟨a, b⟩ := bk_lay (es := r) fun y hy => h y (List.mem_cons_of_mem _ hy)
    obtain ⟨t, w, m, hr⟩ := h e (List.mem_cons_self ..)
    obtain ⟨c, d⟩ := hr.lay
    obtain ⟨ts, td⟩ := lay_strs (zs := [e.1]) fun z hz => by rw [List.mem_singleton.mp hz]; exact t
    have ts' : (PyData.canLay0 (.str e.1) && true) = true := ts
    rw [Bool.and_true] at ts'
    refine ⟨?_, ?_⟩
    · show ((PyData.canLay0 (.str e.1) && (true && (PyData.canLayAll0 e.2 && true))) && PyData.canLayAll0 (r.map bkD)) = true
      rw [ts', c, a]; rfl
    · show max (max 0 (max 0 (max (PyData.depthAll e.2 + 1) 0)) + 1) (PyData.depthAll (r.map bkD)) ≤ 20
      omega
/-- rows of told words -/
def RwAll (bs : List (Str × List PyData)) : Prop := ∀ e ∈ bs, ∃ w m, Rw 1 w m e.2 ∧ m ≤ 1000
section
variable {P : Program} {w : World} {K : PySem.W.Frag} {mg : Str → Option Value} {base : Heap}
def spBook (K : Frag) : Sp := fun vs H Q _ => ∃ (d : Addr), vs = [.ref d] ∧ Dk H d ∧ ∀ (b : Addr) (bv : List V) (bs : List (Str × List PyData)) (n : Nat) (H' : Hp), Kp [d] H H' → Dk H' d → SqT K H' b bv → BkAll K H' bv bs → BN bs n → RwAll bs → bs.length ≤ 5 → Q (.ref b) H'
abbrev NB : List Str := ["_law_deck_here", "_law_letters", "_law_book_here", "_law_word", "_law_k", "_law_name", "_law_told", "_law_row", "_law_names", "_law_y", "_law_j"]
theorem scBook : FnScope NB ["_law_deck_here"] (defScope sBook) := ⟨rfl, rfl, rfl, by decide +kernel, rfl, by decide +kernel, by decide +kernel⟩
theorem ok_book {f g ga : Addr} {fd gd gad : FuncData} (F : Fun K "_law_book" "_law_book" sBook f fd) (G : FnOk P w K mg base CX0 2 g gd ["_law_deck_here", "_law_most"] spDraw) (bG : L2.Binds K gd ["_law_deck_here", "_law_most"] []) (kG : keepIn K (.ref g) = true) (mG : mg "_law_draw" = some (.ref g))
    (AN : FnOk P w K mg base CX0 18 ga gad A2 (spAny K 2)) (bAN : L2.Binds K gad A2 []) (kAN : keepIn K (.ref ga) = true) (mAN : mg "_law_any_word" = some (.ref ga))
    (mrange : mg "range" = none) (mint : mg "int" = none) (mtup : mg "tuple" = none) : FnOk P w K mg base CX0 19 f fd ["_law_deck_here"] (spBook K) := by
  refine F.ok scBook (fun vs H Q E h => ?_) (fun cdv A outer s H vs Q E hr h => ?_)
  · obtain ⟨d, rfl, _⟩ := h
    rfl
  obtain ⟨d, rfl, D0, q⟩ := h
  have hr2 := hr.mono (show 2 ≤ 18 by decide)
  refine ⟨_, pss_cons (ps_set (i := 1) scBook.nd rfl (.inl rfl) pe_str)
    (pss_cons (ps_set (i := 2) scBook.nd rfl (.inl rfl) (pe_lst pa_nil))
    (pss_cons (ps_set (i := 3) scBook.nd rfl (.inl rfl) (pe_ix ix_list (pe_lst (pa_cons pe_str (pa_cons pe_str (pa_cons pe_str (pa_cons pe_str (pa_cons pe_str pa_nil)))))) (pe_call G hr2 rfl mG kG bG .nil pass0 (pa_cons (pv 0) (pa_cons pe_int pa_nil))) (fun _ _ => rfl)))
    (pss_cons (ps_for PassesOwn.never rfl (pi_range1 rfl mrange (pa_cons (pe_op op_add (pe_call G hr2 rfl mG kG bG .nil pass0 (pa_cons (pv 0) (pa_cons pe_int pa_nil))) (pe_op op_mul pe_int (pe_op op_fdiv (pe_call G hr2 rfl mG kG bG .nil pass0 (pa_cons (pv 0) (pa_cons pe_int pa_nil))) pe_int))) pa_nil)) (pg_name (i := 4) scBook.nd rfl (.inl rfl))
      (pss_cons (ps_set (i := 8) scBook.nd rfl (.inl rfl) (pe_op op_cat (pe_lc (own := [("_law_name", 5), ("_law_told", 6), ("_law_row", 7)]) (g := gTup K 3 (gCons (gName 5) (gCons (gName 6) (gCons (gName 7) gNil)))) (tt := tYes) rfl scBook.nd (pi_list (pv 2)) (blkOk_by (own := [("_law_name", 5), ("_law_told", 6), ("_law_row", 7)]) (N := NB) (sc := defScope sBook) (by decide +kernel))
          (fun _ _ _ _ _ => pg_tup rfl (pgs_cons (pg_name (i := 5) scBook.nd rfl (Or.inl rfl)) (pgs_cons (pg_name (i := 6) scBook.nd rfl (Or.inl rfl)) (pgs_cons (pg_name (i := 7) scBook.nd rfl (Or.inl rfl)) pgs_nil)))) (fun _ _ _ _ _ => pts_nil) (fun _ _ _ _ _ => pv 5)) (pe_lst (pa_cons pe_str (pa_cons pe_str (pa_cons pe_str (pa_cons pe_str (pa_cons pe_str (pa_cons pe_str (pa_cons pe_str pa_nil))))))))))
      (C8.pss_cut (ps_for PassesOwn.never rfl (pi_str (pe_slice sl_str (pe_op op_twice (pv 1) pe_int) (po_some (pe_call G hr2 rfl mG kG bG .nil pass0 (pa_cons (pv 0) (pa_cons pe_int pa_nil)))) po_none)) (pg_name (i := 9) scBook.nd rfl (.inl rfl))
        (pss_one (ps_set (i := 3) scBook.nd rfl (.inl rfl) (pe_ix ix_list (pe_lst (pa_cons (pv 3) (pa_cons (pe_slice sl_str (pe_op op_add_str (pv 3) (pv 9)) (po_some (pe_un un_neg pe_int)) po_none) pa_nil))) (pe_callTy call_int1 (by rfl) mint (by decide +kernel) (pa_cons (pe_cmpR op_in_seq (pv 3) (pv 8) rfl) pa_nil)) (fun _ _ => rfl)))))
      (C8.pss_cut (ps_setLc (i := 7) (own := [("_law_j", 10)]) (g := gName 10) (tt := tYes) rfl scBook.nd rfl rfl rfl (pi_range1 rfl mrange (pa_cons (pe_call G hr2 rfl mG kG bG .nil pass0 (pa_cons (pv 0) (pa_cons pe_int pa_nil))) pa_nil)) (blkOk_by (own := [("_law_j", 10)]) (N := NB) (sc := defScope sBook) (by decide +kernel))
          (fun _ _ _ _ _ => pg_name (i := 10) scBook.nd rfl (Or.inl rfl)) (fun _ _ _ _ _ => pts_nil) (fun _ _ _ _ _ => pe_call AN hr rfl mAN kAN bAN .nil pass0 (pa_cons (pv 0) (pa_cons pe_int pa_nil))))
      (C8.pss_cut (ps_if (PW.pt (pw_and (pt_cmpR (op_neD hr.units) (pv 8) (pe_lst pa_nil) (nomark _)) (pw_and (pt_cmpR op_eq (pe_call G hr2 rfl mG kG bG .nil pass0 (pa_cons (pv 0) (pa_cons pe_int pa_nil))) pe_int (nomark _)) (pw_and1 (pt_cmpR (op_neD hr.units) (pv 2) (pe_lst pa_nil) (nomark _))))))
        (pss_one (ps_expr (pe_bm PySem.F.plainAttrs_list PySem.F.slot_list_append PySem.F.type_list_append mt_append (pv 7) (pa_cons (pe_ix ix_tup (pe_ix ix_list (pv 2) (pe_un un_neg pe_int) (fun _ _ => rfl)) pe_int (fun _ _ => rfl)) pa_nil)))) pss_nil)
      (pss_one (ps_expr (pe_bm PySem.F.plainAttrs_list PySem.F.slot_list_append PySem.F.type_list_append mt_append (pv 2) (pa_cons (pe_tup (pa_cons (pv 3) (pa_cons pe_non (pa_cons (pe_callTy call_tuple_of (by rfl) mtup (by decide +kernel) (pa_cons (pv 7) pa_nil)) pa_nil)))) pa_nil)))))))))
    (pss_one (ps_ret (pe_callTy call_tuple_of (by rfl) mtup (by decide +kernel) (pa_cons (pv 2) pa_nil))))))), ?_⟩
  refine ⟨(by show 0 ≤ sizeLine; decide), fun L nL => ⟨(by show 5 ≤ sizeLine; decide), fun W nW => ?_⟩⟩
  have nLd := D0.nd nL
  have D1 := (D0.new (o := .lst []) nL).new (o := .lst [.str "pl", .str "plu", .str "q", .str "ifs", .str "dow"]) nW
  have nWd := (D0.new (o := .lst []) nL).nd nW
  refine ⟨_, rfl, d, 5, rfl, D1, by decide, by decide, fun r1 H1 r10 r11 k1 D1' => ?_⟩
  have k01 : Kp [d] H H1 := (((Kp.refl _ H).new nL).new nW).trans k1
  have hW1 := k1 _ _ nWd upd_same
  have hL1 : H1 L = some (.lst []) := k1 _ _ nLd (kn upd_same nW)
  obtain ⟨x0v, hx0, hat⟩ := pick (xs := [V.str "pl", .str "plu", .str "q", .str "ifs", .str "dow"]) (n := 5) r10 r11 rfl
  obtain ⟨x0, hb0, rfl⟩ : ∃ x0 ∈ bases, x0v = .str (S x0) := by
    have e1 : ("pl" : Str) = S [112, 108] := by decide +kernel
    have e2 : ("plu" : Str) = S [112, 108, 117] := by decide +kernel
    have e3 : ("q" : Str) = S [113] := by decide +kernel
    have e4 : ("ifs" : Str) = S [105, 102, 115] := by decide +kernel
    have e5 : ("dow" : Str) = S [100, 111, 119] := by decide +kernel
    rw [e1, e2, e3, e4, e5] at hx0
    simp only [List.mem_cons, List.not_mem_nil, or_false] at hx0
    rcases hx0 with rfl | rfl | rfl | rfl | rfl
    · exact ⟨_, by decide, rfl⟩
    · exact ⟨_, by decide, rfl⟩
    · exact ⟨_, by decide, rfl⟩
    · exact ⟨_, by decide, rfl⟩
    · exact ⟨_, by decide, rfl⟩
  refine ⟨W, _, _, _, rfl, rfl, SqL.of hW1, hat, ?_⟩
  obtain ⟨b1, b2, b3, b4⟩ := bases_ok x0 hb0
  have w0 : Wi 0 x0 [] := ⟨⟨b1, b2, by omega, b4⟩, (fun e he => nomatch he), fun _ => ⟨rfl, b3⟩, fun z => absurd z (by decide)⟩
  refine ⟨_, rfl, d, 4, rfl, D1', by decide, by decide, fun ra H2 ra0 ra1 k2 D2 => ⟨_, rfl, d, 8, rfl, D2, by decide, by decide, fun rb H3 rb0 rb1 k3 D3 => ?_⟩⟩
  have rb7 : rb / 7 = 0 ∨ rb / 7 = 1 := by omega
  refine ⟨_, _, rfl, rfl, ⟨by decide, by decide⟩, _, _, rfl, rfl, .inl ⟨by decide, by decide⟩, _, _, rfl, rfl, ?_⟩
  have k03 := (k01.trans k2).trans k3
  have hL3 : H3 L = some (.lst []) := k3 _ _ nLd (k2 _ _ nLd hL1)
  have laz : ("abcdefghijklmnopqrstuvwxyz" : Str) = S Cm.az := by decide +kernel
  rw [laz]
  refine ⟨_, rfl, by omega, by omega, for_range (lo := 0) (n := (ra + 2 * (rb / 7)).toNat) (fun i σ H' => ∃ (x4 x7 x8 x9 : Option V) (bv : List V) (bs : List (Str × List PyData)) (x : List Nat), σ = [some (.ref d), some (.str (S Cm.az)), some (.ref L), some (.str (S x)), x4, none, none, x7, x8, x9, none] ∧ H' L = some (.lst bv) ∧ BkAll K H' bv bs ∧ bs.length = i ∧ Wi i x bs ∧ RwAll bs ∧ Kp [d] H H' ∧ Dk H' d)
    ⟨none, none, none, none, [], [], x0, rfl, hL3, .nil, rfl, w0, (fun e he => nomatch he), k03, D3⟩ ?_ ?_⟩
  · rintro i σ H4 hi ⟨x4, x7, x8, x9, bv, bs, x, rfl, hL4, hB4, lb, wi, rw4, k4, D4⟩
    have hi5 : i ≤ 4 := by omega
    -- the names
    refine ⟨_, rfl, L, rfl, ⟨_, SqL.of hL4⟩, fun D hD => ?_⟩
    refine lc_list (K := K) (a := L) (xs := bv) (fun j H' => Same H4 H' ∧ H' D = some (.lst (((bs.take j).map (·.1)).map V.str))) ⟨same_new hD _, upd_same⟩ (fun j H' _ h => SqL.of (h.1 _ _ hL4)) ?_ ?_
    · rintro j y H5 hy ⟨s5, hD5⟩
      obtain ⟨e, he, p, r, rfl, hp, hr'⟩ := hB4.get hy
      refine ⟨p, _, rfl, (TKs.of s5) _ _ hp, rfl, _, _, rfl, _, _, rfl, _, _, rfl, rfl, rfl, ?_⟩
      refine ⟨_, rfl, _, hD5, ?_, own_new s5 hD, ?_⟩
      · rw [List.length_map, List.length_map, List.length_take]; exact small1000 (by omega)
      · rw [upd_same, List.take_add_one, he, List.map_append, List.map_append]; rfl
    rintro H5 ⟨s5, hD5⟩
    rw [hB4.len, List.take_length] at hD5
    refine ⟨(by show 7 ≤ sizeLine; decide), fun S7 n7 => ?_⟩
    have s6 := s5.trans (same_new n7 (.lst (seven.map V.str)))
    refine ⟨D, S7, _, _, rfl, rfl, kn hD5 n7, upd_same, ?_, fun N nN => ?_⟩
    · rw [sizeLine_eq, List.length_map, List.length_map]; show bs.length + 7 ≤ _; omega
    have ez : ((bs.map (·.1)).map V.str) ++ seven.map V.str = (bs.map (·.1) ++ seven).map V.str := by rw [List.map_append]
    have s7 : Same H4 (upd (upd H5 S7 (.lst (seven.map V.str))) N (.lst (((bs.map (·.1)).map V.str) ++ seven.map V.str))) := s6.trans (same_new nN _)
    have hN7 : upd (upd H5 S7 (.lst (seven.map V.str))) N (.lst (((bs.map (·.1)).map V.str) ++ seven.map V.str)) N = some (.lst (((bs.map (·.1)).map V.str) ++ seven.map V.str)) := upd_same
    have fN : H4 N = none := s6.free nN
    show C8.tCut _ _ _ _ (upd (upd H5 S7 (.lst (seven.map V.str))) N (.lst (((bs.map (·.1)).map V.str) ++ seven.map V.str)))
    generalize upd (upd H5 S7 (.lst (seven.map V.str))) N (.lst (((bs.map (·.1)).map V.str) ++ seven.map V.str)) = H7 at s7 hN7
    rw [ez] at hN7
    have D7 := D4.same s7
    have nNd := D4.nd fN
    have k7 : Kp [d] H H7 := k4.trans (.of s7)
    have hL7 := s7 _ _ hL4
    have hB7 := hB4.mono (.of s7)
    -- the word
    refine ⟨fun σ H' => ∃ (x' : List Nat) (x9' : Option V), σ = [some (.ref d), some (.str (S Cm.az)), some (.ref L), some (.str (S x')), some (.int (0 + (i : Int))), none, none, x7, some (.ref N), x9', none] ∧ Fw i x' bs ∧ Kp [d] H7 H' ∧ Dk H' d, ?_, ?_⟩
    · have tw : (⟨(S Cm.az).cps ++ (S Cm.az).cps⟩ : Str) = S (Cm.az ++ Cm.az) := by decide +kernel
      refine ⟨_, rfl, S Cm.az, rfl, rfl, (by decide +kernel), (by decide +kernel), _, rfl, d, 26, rfl, D7, by decide, by decide, fun r H8 r0 r1 k8 D8 => ?_⟩
      obtain ⟨r, rfl⟩ := Int.eq_ofNat_of_zero_le r0
      refine ⟨_, rfl, _, rfl, ?_, ?_⟩
      · rw [tw, S_len]; exact Nat.le_of_lt (small1000 (by decide))
      rw [tw, cutS_from]
      have hs : (S ((Cm.az ++ Cm.az).drop r)).cps.size = 52 - r := by
        show ((Cm.az ++ Cm.az).drop r).toArray.size = _
        rw [List.size_toArray, List.length_drop]; rfl
      have hN8 := k8 _ _ nNd hN7
      refine ⟨_, rfl, for_it (walk_str (z := S ((Cm.az ++ Cm.az).drop r))) (fun j σ H' => ∃ (x' : List Nat) (x9' : Option V), σ = [some (.ref d), some (.str (S Cm.az)), some (.ref L), some (.str (S x')), some (.int (0 + (i : Int))), none, none, x7, some (.ref N), x9', none] ∧ Mi i x bs j x' ∧ Kp [d] H7 H' ∧ Dk H' d ∧ H' N = some (.lst ((bs.map (·.1) ++ seven).map V.str)))
        ⟨x, x9, rfl, .inl ⟨rfl, rfl⟩, k8, D8, hN8⟩ (fun _ _ _ _ _ => trivial) ?_ ?_⟩
      · rintro j y σ H9 H10 hj ⟨x', x9', rfl, mi, k9, D9, hN9⟩ ⟨rfl, c, hc, rfl⟩
        have hcz : c ∈ Cm.az := by
          have h1 : ((Cm.az ++ Cm.az).drop r)[j]? = some c := by
            rw [← hc]; show _ = (((Cm.az ++ Cm.az).drop r).toArray)[j]?; rw [List.getElem?_toArray]
          have h2 := List.mem_of_mem_drop (List.mem_of_getElem? h1)
          rcases List.mem_append.mp h2 with h | h
          · exact h
          · exact h
        have l8 := mi.len wi
        have e1 : S x' ++ (⟨#[c]⟩ : Str) = S (x' ++ [c]) := S_cat x' [c]
        refine ⟨_, rfl, _, rfl, _, rfl, _, _, rfl, rfl, ?_, ?_⟩
        · rw [S_len]; exact Nat.le_of_lt (small1000 (by show x'.length + 1 ≤ 1000; omega))
        rw [e1]
        refine ⟨8, rfl, _, rfl, _, rfl, ?_, (by show 2 ≤ sizeLine; decide), fun Q2 nQ2 => ?_⟩
        · rw [S_len, List.length_append]; exact Nat.le_of_lt (small1000 (by show x'.length + 1 ≤ 1000; omega))
        have s2 := same_new nQ2 (.lst [.str (S x'), .str (cutS (S (x' ++ [c])) (some (-8)) none)])
        refine ⟨_, rfl, _, rfl, N, _, rfl, .inl (SqL.of (s2 _ _ hN9)), rfl, flatS _, .inr ⟨_, rfl, ?_⟩⟩
        have ei : (if false = true then !inV (.str (S x')) ((bs.map (·.1) ++ seven).map V.str) else inV (.str (S x')) ((bs.map (·.1) ++ seven).map V.str)) = decide (S x' ∈ bs.map (·.1) ++ seven) := by rw [if_neg (by decide), inV_str]
        rw [ei]
        refine ⟨Q2, _, _, _, rfl, rfl, SqL.of upd_same, pick2 _, ?_⟩
        by_cases hm : S x' ∈ bs.map (·.1) ++ seven
        · obtain ⟨h8, mi'⟩ := mi.in_ wi hi5 hcz hm
          rw [decide_eq_true hm]
          have e8 := cut8 h8
          rw [e8] at s2 ⊢
          exact ⟨x' ++ [c], _, rfl, mi', k9.new nQ2, D9.new nQ2, s2 _ _ hN9⟩
        · rw [decide_eq_false hm]
          exact ⟨x', _, rfl, mi.out wi hm, k9.new nQ2, D9.new nQ2, s2 _ _ hN9⟩
      · rintro σ H9 ⟨x', x9', rfl, mi, k9, D9, hN9⟩
        exact ⟨x', x9', rfl, mi.end_ (by rw [hs]; omega), k9, D9⟩
    rintro σ H8 ⟨x', x9', rfl, fw, k8, D8⟩
    have hN8 := k8 _ _ nNd hN7
    have hL8 := k8 _ _ nLd hL7
    have hB8 := hB7.mono (D7.tks k8)
    have k08 := k7.trans k8
    -- the row
    refine ⟨fun σ H' => ∃ (R : Addr) (xs : List V) (rs : List PyData) (w m : Nat), σ = [some (.ref d), some (.str (S Cm.az)), some (.ref L), some (.str (S x')), some (.int (0 + (i : Int))), none, none, some (.ref R), some (.ref N), x9', none] ∧ H8 R = none ∧ H' R = some (.lst xs) ∧ TrAll K H' xs rs ∧ Rw 1 w m rs ∧ m ≤ 500 ∧ xs.length ≤ 3 ∧ Kp [d] H8 H' ∧ Dk H' d, ?_, ?_⟩
    · refine ⟨_, rfl, d, 4, rfl, D8, by decide, by decide, fun r H9 r0 r1 k9 D9 => ?_⟩
      refine ⟨_, rfl, by omega, by omega, fun R nR => ?_⟩
      have nRd := D9.nd nR
      refine lc_range (lo := 0) (n := r.toNat) (fun j H' => ∃ (acc : List V) (ts : List PyData) (u v : Nat), H' R = some (.lst acc) ∧ TrAll K H' acc ts ∧ Rw 1 u v ts ∧ v ≤ j * 100 ∧ acc.length = j ∧ Kp [d] H9 H' ∧ Dk H' d)
        ⟨[], [], 0, 0, upd_same, .nil, .nil, Nat.zero_le _, rfl, (Kp.refl _ _).new nR, D9.new nR⟩ ?_ ?_
      · rintro j H6 hj ⟨acc, ts, u, v, e1, e2, e3, e4, e5, k6, g6⟩
        refine ⟨rfl, _, rfl, d, 1, rfl, rfl, by decide, g6, fun y t n2 m2 H7' hv hy hm k7' g7 => ?_⟩
        have hL : H7' R = some (.lst acc) := k7' R _ nRd e1
        have tk := (g6.tks (K := K) k7').trans (TKs.lst (ys := acc ++ [y]) hL)
        have hm' : m2 ≤ 100 := Nat.le_trans hm (by decide)
        exact ⟨acc, hL, small1000 (by omega), acc ++ [y], ts ++ [t], u + n2, v + m2, upd_same, (e2.mono tk).append (.cons (hv.mono (TKs.lst hL)) .nil), e3.append hy, by omega, by rw [List.length_append, e5]; rfl, (k6.trans k7').put nR, g7.put nRd⟩
      · rintro H10 ⟨acc, ts, u, v, e1, e2, e3, e4, e5, k6, g6⟩
        exact ⟨R, acc, ts, u, v, rfl, k9.free nR nRd, e1, e2, e3, by omega, by omega, k9.trans k6, g6⟩
    rintro σ H9 ⟨R, xs, rs, w', m', rfl, fR, hR9, hx9, hr9, lm, lx, k9, D9⟩
    have nRd := D8.nd fR
    have nRL : L ≠ R := fun z => by rw [z, fR] at hL8; cases hL8
    have hN9 := k9 _ _ nNd hN8
    have hL9 := k9 _ _ nLd hL8
    have hB9 := hB8.mono (D8.tks k9)
    have btx : ∀ e ∈ bs, Tx e.1 100 ∧ ∃ w m, Rw 1 w m e.2 := fun e he => by
      obtain ⟨y, e1, g, _⟩ := fw.lt e he
      obtain ⟨w, m, h, _⟩ := rw4 e he
      exact ⟨by rw [e1]; exact g.tx, w, m, h⟩
    have ztx : ∀ z ∈ bs.map (·.1) ++ seven, Tx z 100 := fun z hz => by
      rcases List.mem_append.mp hz with h | h
      · obtain ⟨e, he, rfl⟩ := List.mem_map.mp h
        exact (btx e he).1
      · exact Tx.lit (seven_tx z h)
    refine ⟨fun σ H' => ∃ (xs : List V) (rs : List PyData) (w m : Nat), σ = [some (.ref d), some (.str (S Cm.az)), some (.ref L), some (.str (S x')), some (.int (0 + (i : Int))), none, none, some (.ref R), some (.ref N), x9', none] ∧ H' R = some (.lst xs) ∧ TrAll K H' xs rs ∧ Rw 1 w m rs ∧ m ≤ 501 ∧ xs.length ≤ 4 ∧ Kp [d] H8 H' ∧ Dk H' d, ?_, ?_⟩
    · refine ⟨_, rfl, (by show 0 ≤ sizeLine; decide), fun E1 n1 => ⟨.list ((bs.map (·.1) ++ seven).map PyData.str), .list [], .lst (SqL.of (kn hN9 n1)) (dp_strs _), .lst (SqL.of upd_same) .nil, shaped_strs ztx, (by decide +kernel), _, rfl, ?_⟩⟩
      rw [ne_nilD, decide_eq_true (show 0 < ((bs.map (·.1) ++ seven).map PyData.str).length by rw [List.length_map, List.length_append]; show 0 < _ + 7; omega)]
      refine iteT ?_
      have sE := same_new n1 (.lst [])
      have D10 := D9.new (o := .lst []) n1
      have back : ∀ H', Kp [d] H9 H' → Dk H' d → ∃ (xs : List V) (rs : List PyData) (w m : Nat), [some (.ref d), some (.str (S Cm.az)), some (.ref L), some (.str (S x')), some (.int (0 + (i : Int))), none, none, some (.ref R), some (.ref N), x9', none] = [some (.ref d), some (.str (S Cm.az)), some (.ref L), some (.str (S x')), some (.int (0 + (i : Int))), none, none, some (.ref R), some (.ref N), x9', (none : Option V)] ∧ H' R = some (.lst xs) ∧ TrAll K H' xs rs ∧ Rw 1 w m rs ∧ m ≤ 501 ∧ xs.length ≤ 4 ∧ Kp [d] H8 H' ∧ Dk H' d :=
        fun H' k D' => ⟨xs, rs, w', m', rfl, k _ _ nRd hR9, hx9.mono (D9.tks k), hr9, by omega, by omega, k9.trans k, D'⟩
      refine ⟨_, rfl, d, 3, rfl, D10, by decide, by decide, fun r H11 r0 r1 k11 D11 => ?_⟩
      have k911 : Kp [d] H9 H11 := ((Kp.refl _ H9).new n1).trans k11
      refine ⟨rfl, _, rfl, ?_⟩
      refine ite2 (fun _ => ?_) (fun _ => iteF (back _ k911 D11))
      have hL11 := k911 _ _ nLd hL9
      have hB11 := hB9.mono (D9.tks k911)
      refine ⟨_, rfl, (by show 0 ≤ sizeLine; decide), fun E2 n2 => ⟨.list (bs.map bkD), .list [], .lst (SqL.of (kn hL11 n2)) (hB11.mono (.of (same_new n2 _))).dp, .lst (SqL.of upd_same) .nil, ?_, (by decide +kernel), _, rfl, ?_⟩⟩
      · obtain ⟨la, lb'⟩ := bk_lay btx
        show (PyData.canLayAll0 (bs.map bkD) && decide (PyData.depthAll (bs.map bkD) + 1 ≤ 64)) = true
        rw [la, Bool.true_and]; exact decide_eq_true (by omega)
      rw [ne_nilD, List.length_map]
      have k912 : Kp [d] H9 (upd H11 E2 (.lst [])) := k911.new n2
      have D12 := D11.new (o := .lst []) n2
      by_cases hb : 0 < bs.length
      case neg =>
        rw [decide_eq_false hb]
        exact iteF (back _ k912 D12)
      rw [decide_eq_true hb]
      refine iteT ?_
      have hL12 := kn (o' := .lst []) hL11 n2
      have hB12 := hB11.mono (TKs.of (K := K) (same_new n2 (.lst [])))
      have hR12 := k912 _ _ nRd hR9
      generalize upd H11 E2 (.lst []) = H12 at k912 D12 hL12 hB12 hR12
      rcases List.eq_nil_or_concat bv with rfl | ⟨ini, lastv, rfl⟩
      · have := hB12.len; rw [← this] at hb; exact absurd hb (by decide)
      rw [List.concat_eq_append] at hL12 hB12
      obtain ⟨e, he, p, rr, rfl, hp, hr'⟩ := hB12.get (i := ini.length) (x := lastv) (by rw [List.getElem?_append_right (Nat.le_refl _), Nat.sub_self]; rfl)
      have tx := (btx e (List.mem_of_getElem? he)).1
      refine ⟨_, rfl, .inl ⟨rfl, _, SqL.of hR12⟩, _, rfl, 1, rfl, L, _, _, _, rfl, rfl, SqL.of hL12, atI_last _ _, p, _, 0, _, rfl, rfl, hp, atI_nat (j := 0) rfl, R, _, _, rfl, rfl, hR12, small1000 (by omega), ?_⟩
      refine ⟨xs ++ [.str e.1], rs ++ [.str e.1], w' + (0 + 1), m' + (0 + 1), rfl, upd_same, ?_, hr9.append (.txt tx .nil), by omega, by rw [List.length_append]; show xs.length + 1 ≤ 4; omega, (k9.trans k912).put fR, D12.put nRd⟩
      exact ((hx9.mono (D9.tks k912)).append (.cons (.str _) .nil)).mono (TKs.lst hR12)
    rintro σ H10 ⟨xs2, rs2, w2, m2, rfl, hR10, hx10, hr10, lm2, lx2, k10, D10⟩
    have hL10 := k10 _ _ nLd hL8
    have hB10 := hB8.mono (D8.tks k10)
    refine ⟨_, rfl, .inl ⟨rfl, _, SqL.of hL10⟩, _, rfl, _, rfl, R, _, rfl, .inl ⟨SqL.of hR10, fun T nT => ⟨(by show 3 ≤ sizeLine; decide), fun U nU => ?_⟩⟩⟩
    have sT := (same_new nT (.tup xs2)).trans (same_new nU (.tup [.str (S x'), .non, .ref T]))
    have tT := tupTr (K := K) hx10 nT
    have hLU := sT _ _ hL10
    have kU : Kp [d] H8 (upd (upd H10 T (.tup xs2)) U (.tup [.str (S x'), .non, .ref T])) := k10.trans (.of sT)
    have DU := D10.same sT
    have bE : BkE K (upd (upd H10 T (.tup xs2)) U (.tup [.str (S x'), .non, .ref T])) (.ref U) (S x', rs2) := ⟨U, .ref T, rfl, SqT.of upd_same, tT.mono (.of (same_new nU _))⟩
    refine ⟨L, _, _, rfl, rfl, hLU, ?_, ?_⟩
    · exact small1000 (by rw [hB4.len]; omega)
    refine ⟨_, _, _, _, bv ++ [.ref U], bs ++ [(S x', rs2)], x', rfl, upd_same, ((hB10.mono (.of sT)).append (.cons bE .nil)).mono (TKs.lst hLU), by rw [List.length_append, lb]; rfl, fw.next rs2, fun e he => ?_, (k08.trans kU).put nL, DU.put nLd⟩
    rcases List.mem_append.mp he with he | he
    · exact rw4 e he
    · rw [List.mem_singleton.mp he]; exact ⟨w2, m2, hr10, by omega⟩
  · rintro σ H4 ⟨x4, x7, x8, x9, bv, bs, x, rfl, hL4, hB4, lb, wi, rw4, k4, D4⟩
    refine ⟨_, rfl, L, _, rfl, .inl ⟨SqL.of hL4, fun p np => ?_⟩⟩
    exact q p bv bs x.length _ (k4.new np) (D4.new np) (SqT.of upd_same) (hB4.mono (.of (same_new np _))) wi.bn rw4 (by omega)
end
end K10
namespace K10
open PySem PySem.W L2 SX Cm
inductive Kd : Nat → PyData → Prop
  | num {n : Int} : 0 ≤ n → n < 10 ^ 12 → Kd 110 (numD n)
  | row {p : List PyData} {n m : Nat} : Rw 2 n m p → p.length ≤ 600 → Kd 114 (rowD p)
  | any {x : PyData} {n m : Nat} : Thg 2 n m x → m ≤ 85 → Kd 120 x
def Made (x : Str) (ds : List PyData) : Prop := ds.length = x.cps.size ∧ ∀ (i c : Nat) (d : PyData), x.cps[i]? = some c → ds[i]? = some d → Kd c d
theorem letters : ∀ z ∈ fives, ∀ c ∈ (kOf z).cps.toList, c = 110 ∨ c = 114 ∨ c = 120 := by decide +kernel
theorem size4 : ∀ z ∈ fives, (kOf z).cps.size ≤ 3 := by decide +kernel
theorem lit_n : ("n" : Str) = (⟨#[110]⟩ : Str) := by decide +kernel
theorem lit_r : ("r" : Str) = (⟨#[114]⟩ : Str) := by decide +kernel
theorem one_ne {c e : Nat} (h : c ≠ e) : ¬ (V.str (⟨#[c]⟩ : Str) = V.str ⟨#[e]⟩) := fun z => by
  have := V.str.inj z
  injection this with this
  simp at this
  exact h this
section
variable {P : Program} {w : World} {K : PySem.W.Frag} {mg : Str → Option Value} {base : Heap}
def spFor (K : Frag) : Sp := fun vs H Q _ => ∃ (d : Addr) (z : Str), vs = [.ref d, .str z] ∧ z ∈ fives ∧ Dk H d ∧
  ∀ (L : Addr) (ws : List V) (ds : List PyData) (H' : Hp), H L = none → H' L = some (.lst ws) → TrAll K H' ws ds → Made (kOf z) ds → Kp [d] H H' → Dk H' d → Q (.ref L) H'
abbrev NF : List Str := ["_law_deck_here", "_law_word", "_law_found", "_law_kind", "_law_k"]
theorem scFor : FnScope NF ["_law_deck_here", "_law_word"] (defScope sFor) := ⟨rfl, rfl, rfl, by decide +kernel, rfl, by decide +kernel, by decide +kernel⟩
theorem ok_for {f gk gd gt ga gc gn : Addr} {fd gkd gdd gtd gad gcd gnd : FuncData} (F : Fun K "_law_things_for" "_law_things_for" sFor f fd)
    (KN : FnOk P w K mg base CX0 1 gk gkd ["_law_word"] spKinds) (bK : L2.Binds K gkd ["_law_word"] []) (kK : keepIn K (.ref gk) = true) (mK : mg "_law_kinds" = some (.ref gk))
    (DR : FnOk P w K mg base CX0 2 gd gdd ["_law_deck_here", "_law_most"] spDraw) (bD : L2.Binds K gdd ["_law_deck_here", "_law_most"] []) (kD : keepIn K (.ref gd) = true) (mD : mg "_law_draw" = some (.ref gd))
    (NU : FnOk P w K mg base CX0 3 gn gnd ["_law_deck_here"] spNumber) (bN : L2.Binds K gnd ["_law_deck_here"] []) (kN : keepIn K (.ref gn) = true) (mN : mg "_law_number" = some (.ref gn))
    (TH : FnOk P w K mg base CX0 19 gt gtd A2 (spThing K 3)) (bT : L2.Binds K gtd A2 []) (kT : keepIn K (.ref gt) = true) (mT : mg "_law_thing" = some (.ref gt))
    (AN : FnOk P w K mg base CX0 20 ga gad A2 (spAny K 3)) (bA : L2.Binds K gad A2 []) (kA : keepIn K (.ref ga) = true) (mA : mg "_law_any_word" = some (.ref ga))
    (CU : FnOk P w K mg base CX0 12 gc gcd ["_law_words", "_law_most"] (spCut K)) (bC : L2.Binds K gcd ["_law_words", "_law_most"] []) (kC : keepIn K (.ref gc) = true) (mC : mg "_law_cut" = some (.ref gc))
    (mrange : mg "range" = none) : FnOk P w K mg base CX0 21 f fd ["_law_deck_here", "_law_word"] (spFor K) := by
  refine F.ok scFor (fun vs H Q E h => ?_) (fun cdv A outer s H vs Q E hr h => ?_)
  · obtain ⟨d, z, rfl, _⟩ := h
    rfl
  obtain ⟨d, z, rfl, hz, D0, q⟩ := h
  have hr1 := hr.mono (j := 1) (by decide)
  have hr2 := hr.mono (j := 2) (by decide)
  have hr12 := hr.mono (j := 12) (by decide)
  have hr19 := hr.mono (j := 19) (by decide)
  have hr3 := hr.mono (j := 3) (by decide)
  refine ⟨_, pss_cons (ps_set (i := 2) scFor.nd rfl (.inl rfl) (pe_lst pa_nil))
    (pss_cons (ps_for PassesOwn.never rfl (pi_str (pe_call KN hr1 rfl mK kK bK .nil pass0 (pa_cons (pv 1) pa_nil))) (pg_name (i := 3) scFor.nd rfl (.inl rfl))
      (pss_one (ps_if (pt_cmpR op_eq (pv 3) pe_str (nomark _))
        (pss_one (ps_expr (pe_bm PySem.F.plainAttrs_list PySem.F.slot_list_append PySem.F.type_list_append mt_append (pv 2) (pa_cons (pe_tup (pa_cons pe_str (pa_cons (pe_call NU hr3 rfl mN kN bN .nil pass0 (pa_cons (pv 0) pa_nil)) pa_nil))) pa_nil))))
        (pss_one (ps_if (pt_cmpR op_eq (pv 3) pe_str (nomark _))
          (pss_one (ps_expr (pe_bm PySem.F.plainAttrs_list PySem.F.slot_list_append PySem.F.type_list_append mt_append (pv 2) (pa_cons (pe_tup (pa_cons pe_str (pa_cons (pe_call CU hr12 rfl mC kC bC .nil pass0 (pa_cons (pe_lc (own := [("_law_k", 4)]) (g := gName 4) (tt := tYes) rfl scFor.nd (pi_range1 rfl mrange (pa_cons (pe_call DR hr2 rfl mD kD bD .nil pass0 (pa_cons (pv 0) (pa_cons pe_int pa_nil))) pa_nil)) (blkOk_by (own := [("_law_k", 4)]) (N := NF) (sc := defScope sFor) (by decide +kernel))
            (fun _ _ _ _ _ => pg_name (i := 4) scFor.nd rfl (Or.inl rfl)) (fun _ _ _ _ _ => pts_nil) (fun _ _ _ _ _ => pe_call AN hr rfl mA kA bA .nil pass0 (pa_cons (pv 0) (pa_cons pe_int pa_nil)))) (pa_cons pe_int pa_nil))) pa_nil))) pa_nil))))
          (pss_one (ps_expr (pe_bm PySem.F.plainAttrs_list PySem.F.slot_list_append PySem.F.type_list_append mt_append (pv 2) (pa_cons (pe_call TH hr19 rfl mT kT bT .nil pass0 (pa_cons (pv 0) (pa_cons pe_int pa_nil))) pa_nil)))))))))
    (pss_one (ps_ret (pv 2)))), ?_⟩
  rw [lit_n, lit_r]
  refine ⟨(by show 0 ≤ sizeLine; decide), fun Fd nF => ?_⟩
  have nFd := D0.nd nF
  have sF := same_new nF (.lst [])
  refine ⟨_, rfl, z, rfl, hz, fun H2 s2 => ?_⟩
  have D2 : Dk H2 d := by
    obtain ⟨ms, e, l⟩ := D0
    exact ⟨ms, s2 _ _ (sF _ _ e), l⟩
  refine ⟨_, rfl, for_it (walk_str (z := kOf z)) (fun i σ H' => ∃ (x3 : Option V) (ws : List V) (ds : List PyData), σ = [some (.ref d), some (.str z), some (.ref Fd), x3, none] ∧ H' Fd = some (.lst ws) ∧ TrAll K H' ws ds ∧ ws.length = i ∧ (∀ (j c : Nat) (e : PyData), (kOf z).cps[j]? = some c → ds[j]? = some e → Kd c e) ∧ Kp [d] H H' ∧ Dk H' d)
    ⟨none, [], [], rfl, s2 _ _ upd_same, .nil, rfl, (fun j c e _ h => nomatch h), .of (sF.trans s2), D2⟩ (fun _ _ _ _ _ => trivial) ?_ ?_⟩
  · rintro i v σ H3 H3' hi ⟨x3, ws, ds, rfl, hF, tr, lws, kds, k3, D3⟩ ⟨rfl, c, hc, rfl⟩
    have i3 := size4 z hz
    have ldw := tr.len
    -- the append
    have put : ∀ (y : V) (e : PyData) (H5 : Hp), Tr K H5 y e → Kd c e → H5 Fd = some (.lst ws) → Kp [d] H3' H5 → Dk H5 d →
        Fd ∉ [d] ∧ ws.length < sizeLine ∧ upd H5 Fd (.lst (ws ++ [y])) Fd = some (.lst (ws ++ [y])) ∧ TrAll K (upd H5 Fd (.lst (ws ++ [y]))) (ws ++ [y]) (ds ++ [e]) ∧ (ws ++ [y]).length = i + 1 ∧
        (∀ (j c' : Nat) (e' : PyData), (kOf z).cps[j]? = some c' → (ds ++ [e])[j]? = some e' → Kd c' e') ∧ Kp [d] H (upd H5 Fd (.lst (ws ++ [y]))) ∧ Dk (upd H5 Fd (.lst (ws ++ [y]))) d := fun y e H5 hy hk h5 k5 D5 => by
      have tk := (D3.tks (K := K) k5).trans (TKs.lst (ys := ws ++ [y]) h5)
      refine ⟨nFd, small1000 (by omega), upd_same, (tr.mono tk).append (.cons (hy.mono (TKs.lst h5)) .nil), by rw [List.length_append, lws]; rfl, fun j c' e' h1 h2 => ?_, (k3.trans k5).put nF, D5.put nFd⟩
      by_cases hj : j < ds.length
      · rw [List.getElem?_append_left hj] at h2
        exact kds j c' e' h1 h2
      · rw [List.getElem?_append_right (by omega)] at h2
        have e0 : j - ds.length = 0 := by
          by_cases z0 : j - ds.length = 0
          · exact z0
          · rw [List.getElem?_eq_none (by rw [List.length_singleton]; omega)] at h2; cases h2
        rw [e0] at h2
        cases h2
        have : j = i := by omega
        subst this
        rw [hc] at h1
        cases h1
        exact hk
    refine ⟨_, rfl, rfl, _, rfl, ?_⟩
    rcases letters z hz c (by
      have := Array.mem_of_getElem? hc
      exact Array.mem_toList_iff.mpr this) with rfl | rfl | rfl
    · rw [decide_eq_true rfl]
      refine iteT ?_
      refine ⟨_, rfl, .inl ⟨rfl, _, SqL.of hF⟩, _, rfl, d, rfl, D3, fun n H4 n0 n1 k4 D4 => ⟨(by show 2 ≤ sizeLine; decide), fun p2 np2 => ?_⟩⟩
      have k37 : Kp [d] H3' _ := k4.new (o := .tup [.str "number", .int n]) np2
      obtain ⟨_, z1, z2, z3, z4, z5, z6, z7⟩ := put (.ref p2) (numD n) _ (.tup (SqT.of upd_same) (.cons (.str _) (.cons (.int n) .nil))) (.num n0 n1) (k37 Fd _ nFd hF) k37 (D4.new np2)
      exact ⟨Fd, ws, _, rfl, rfl, k37 Fd _ nFd hF, z1, _, _, _, rfl, z2, z3, z4, z5, z6, z7⟩
    · rw [decide_eq_false (one_ne (by decide))]
      refine iteF ?_
      refine ⟨_, rfl, rfl, _, rfl, ?_⟩
      rw [decide_eq_true rfl]
      refine iteT ?_
      refine ⟨_, rfl, .inl ⟨rfl, _, SqL.of hF⟩, _, rfl, d, 7, rfl, D3, by decide, by decide, fun r H4 r0 r1 k4 D4 => ?_⟩
      obtain ⟨n, rfl⟩ := Int.eq_ofNat_of_zero_le r0
      refine ⟨_, rfl, by omega, by omega, fun L nL => ?_⟩
      have nLd := D4.nd nL
      refine lc_range (lo := 0) (n := n) (fun i H' => ∃ (acc : List V) (ts : List PyData) (a b : Nat), H' L = some (.lst acc) ∧ TrAll K H' acc ts ∧ Rw 2 a b ts ∧ b ≤ i * 86 ∧ acc.length = i ∧ Kp [d] H4 H' ∧ Dk H' d)
        ⟨[], [], 0, 0, upd_same, .nil, .nil, Nat.zero_le _, rfl, (Kp.refl _ _).new nL, D4.new nL⟩ ?_ ?_
      · rintro i H7 hi7 ⟨acc, ts, a, b, e1, e2, e3, e4, e5, k7, g7⟩
        refine ⟨rfl, _, rfl, d, 2, rfl, rfl, by decide, g7, fun v y n2 m2 H8 hv hy hm k8 g8 => ?_⟩
        have hm' : m2 ≤ 86 := hm
        have hL : H8 L = some (.lst acc) := k8 L _ nLd e1
        have tk := (g7.tks (K := K) k8).trans (TKs.lst (ys := acc ++ [v]) hL)
        exact ⟨acc, hL, small1000 (by omega), acc ++ [v], ts ++ [y], a + n2, b + m2, upd_same, (e2.mono tk).append (.cons (hv.mono (TKs.lst hL)) .nil), e3.append hy, by omega, by rw [List.length_append, e5]; rfl, (k7.trans k8).put nL, g8.put nLd⟩
      · rintro H7 ⟨acc, ts, a, b, e1, e2, e3, e4, e5, k7, g7⟩
        refine ⟨L, acc, ts, 2, a, b, 40, rfl, by decide, e1, e2, e3, by omega, by decide, fun t rs' w' m' H8 ht hr' hm s8 => ⟨(by show 2 ≤ sizeLine; decide), fun p2 np2 => ?_⟩⟩
        have s9 := s8.trans (same_new np2 (.tup [.str "row", .ref t]))
        have k37 : Kp [d] H3' _ := (k4.trans k7).trans (.of s9)
        have g9 := Dk.same g7 s9
        have lr := hr'.len
        obtain ⟨_, z1, z2, z3, z4, z5, z6, z7⟩ := put (.ref p2) (rowD rs') _ (.tup (SqT.of upd_same) (.cons (.str _) (.cons (ht.mono (.of (same_new np2 _))) .nil))) (.row hr' (by omega)) (k37 Fd _ nFd hF) k37 g9
        exact ⟨Fd, ws, _, rfl, rfl, k37 Fd _ nFd hF, z1, _, _, _, rfl, z2, z3, z4, z5, z6, z7⟩
    · rw [decide_eq_false (one_ne (by decide))]
      refine iteF ?_
      refine ⟨_, rfl, rfl, _, rfl, ?_⟩
      rw [decide_eq_false (one_ne (by decide))]
      refine iteF ?_
      refine ⟨_, rfl, .inl ⟨rfl, _, SqL.of hF⟩, _, rfl, d, 2, rfl, rfl, by decide, D3, fun v y n2 m2 H8 hv hy hm k8 g8 => ?_⟩
      obtain ⟨_, z1, z2, z3, z4, z5, z6, z7⟩ := put v y H8 hv (.any hy hm) (k8 Fd _ nFd hF) k8 g8
      exact ⟨Fd, ws, _, rfl, rfl, k8 Fd _ nFd hF, z1, _, _, _, rfl, z2, z3, z4, z5, z6, z7⟩
  · rintro σ H3 ⟨x3, ws, ds, rfl, hF, tr, lws, kds, k3, D3⟩
    have ld := tr.len
    exact ⟨_, rfl, q Fd ws ds H3 nF hF tr ⟨by omega, kds⟩ k3 D3⟩
end
end K10
namespace K10
open PySem PySem.W L2 SX Cm
theorem hld_row (p : List PyData) : hldD "row" (rowD p) = some (.tuple p) := by
  unfold hldD rowD
  rw [if_neg (by decide +kernel)]
  exact if_pos rfl
theorem hld_num (n : Int) : hldD "number" (numD n) = some (.int n) := by
  unfold hldD numD
  rw [if_neg (by decide +kernel)]
  exact if_pos rfl
theorem hld_any (d : PyData) : hldD "any" d = some d := by
  unfold hldD
  exact if_pos rfl
theorem held_cons {s : Str} {ss : List Str} {d e : PyData} {ds es : List PyData} (h : hldD s d = some e) (h2 : heldAll ss ds = some es) : heldAll (s :: ss) (d :: ds) = some (e :: es) := by
  unfold heldAll
  rw [h, h2]
theorem lenB_row {p : List PyData} {r : List PyData} (h : p.length ≤ 1000) (hr : lenB r = true) : lenB (.tuple p :: r) = true := by
  show (decide (p.length ≤ 1000) && lenB r) = true
  rw [decide_eq_true h, hr]; rfl
theorem lenB_thg {k n m : Nat} {x : PyData} {r : List PyData} (h : Thg k n m x) (hr : lenB r = true) : lenB (x :: r) = true := by
  cases h with
  | num _ _ _ => exact lenB_row (by show 2 ≤ 1000; decide) hr
  | row _ _ => exact lenB_row (by show 2 ≤ 1000; decide) hr
  | lst _ _ => exact lenB_row (by show 2 ≤ 1000; decide) hr
theorem Kd.fits {c : Nat} {d : PyData} (h : Kd c d) : ∃ (t : Str) (e : PyData), d = .tuple [.str t, e] ∧ t.length ≤ 100 ∧ (c = 120 ∨ t.cps[0]? = some c) := by
  cases h with
  | num h0 h1 => exact ⟨"number", _, rfl, by decide +kernel, .inr (by decide +kernel)⟩
  | row hs hl => exact ⟨"row", _, rfl, by decide +kernel, .inr (by decide +kernel)⟩
  | any ht hm =>
    cases ht with
    | num n h0 h1 => exact ⟨"number", _, rfl, by decide +kernel, .inl rfl⟩
    | row hs hk => exact ⟨"row", _, rfl, by decide +kernel, .inl rfl⟩
    | lst hs hk => exact ⟨"list", _, rfl, by decide +kernel, .inl rfl⟩
theorem Kd.thg {c : Nat} {d : PyData} (h : Kd c d) : ∃ n m, Thg 3 n m d := by
  cases h with
  | num h0 h1 => exact ⟨_, _, .num _ h0 h1⟩
  | row hs hl => exact ⟨_, _, .row hs (by decide)⟩
  | any ht hm => exact ⟨_, _, ht.up (by decide)⟩
theorem Kd.fine {c : Nat} {d : PyData} (h : Kd c d) : ∀ t, d = rowD t → t.length ≤ 1000 := by
  intro t e
  cases h with
  | num h0 h1 => exact absurd e (by intro z; injection z with z; injection z with z1 z2; injection z1 with z1; exact absurd z1 (by decide +kernel))
  | row hs hl =>
    injection e with e; injection e with _ e; injection e with e _; injection e with e
    subst e
    omega
  | any ht hm =>
    cases ht with
    | num n h0 h1 => injection e with e; injection e with _ e; injection e with e _; cases e
    | row hs hk =>
      injection e with e; injection e with _ e; injection e with e _; injection e with e
      subst e
      have := hs.len
      omega
    | lst hs hk => exact absurd e (by intro z; injection z with z; injection z with z1 z2; injection z1 with z1; exact absurd z1 (by decide +kernel))
theorem Kd.ofNum {d : PyData} (h : Kd 110 d) : ∃ n, d = numD n ∧ 0 ≤ n ∧ n < 10 ^ 12 := by
  cases h with
  | num h0 h1 => exact ⟨_, rfl, h0, h1⟩
theorem Kd.ofRow {d : PyData} (h : Kd 114 d) : ∃ t n m, d = rowD t ∧ Rw 2 n m t ∧ t.length ≤ 600 := by
  cases h with
  | row hs hl => exact ⟨_, _, _, rfl, hs, hl⟩
theorem Kd.ofAny {d : PyData} (h : Kd 120 d) : ∃ n m, Thg 2 n m d ∧ m ≤ 85 := by
  cases h with
  | any ht hm => exact ⟨_, _, ht, hm⟩
theorem len1 {ds : List PyData} (h : ds.length = 1) : ∃ a, ds = [a] := by
  match ds, h with
  | [a], _ => exact ⟨a, rfl⟩
theorem len2 {ds : List PyData} (h : ds.length = 2) : ∃ a b, ds = [a, b] := by
  match ds, h with
  | [a, b], _ => exact ⟨a, b, rfl⟩
theorem len3 {ds : List PyData} (h : ds.length = 3) : ∃ a b c, ds = [a, b, c] := by
  match ds, h with
  | [a, b, c], _ => exact ⟨a, b, c, rfl⟩
/-- all that is known of the things drawn for one of the five words -/
structure TR (z : Str) (ws : List PyData) (ss : List Str) (hs ah : List PyData) (c : Deed) : Prop where
  tb : table.lookup z = some (ss.map V.str)
  sl : ss.length = ws.length
  held : heldAll ss ws = some hs
  lb : lenB hs = true
  cof : cOf z = some c
  two_ : c hs = some (two [] ah)
  deed : RDeeds z ws ah
  lah : ah.length ≤ 2000
  row : ∃ n m, Rw 4 n m ah
theorem told {z : Str} (hz : z ∈ fives) {ws : List PyData} (h : Made (kOf z) ws) : ∃ ss hs ah c, TR z ws ss hs ah c := by
  obtain ⟨hl, hk⟩ := h
  unfold fives at hz
  simp only [List.mem_cons, List.not_mem_nil, or_false] at hz
  rcases hz with rfl | rfl | rfl | rfl | rfl
  · obtain ⟨a, rfl⟩ := len1 (hl.trans (by decide +kernel))
    obtain ⟨p, n, m, rfl, hp, lp⟩ := (hk 0 114 a (by decide +kernel) rfl).ofRow
    exact ⟨["row"], _, _, cDo, by decide +kernel, rfl, held_cons (hld_row p) rfl, lenB_row (by omega) rfl, rfl, rfl, .do_ p, by omega, _, _, hp.up (by decide)⟩
  · obtain ⟨x, b, rfl⟩ := len2 (hl.trans (by decide +kernel))
    obtain ⟨n, m, hx, lx⟩ := (hk 0 120 x (by decide +kernel) rfl).ofAny
    obtain ⟨p, n', m', rfl, hp, lp⟩ := (hk 1 114 b (by decide +kernel) rfl).ofRow
    refine ⟨["any", "row"], _, _, cDip, by decide +kernel, rfl, held_cons (hld_any x) (held_cons (hld_row p) rfl), lenB_thg hx (lenB_row (by omega) rfl), rfl, rfl, .dip x p, ?_, _, _, (hp.up (by decide)).append (.push (hx.up (by decide)) .nil)⟩
    rw [List.length_append]; show p.length + 1 ≤ 2000; omega
  · obtain ⟨a, b, e, rfl⟩ := len3 (hl.trans (by decide +kernel))
    obtain ⟨i, rfl, i0, i1⟩ := (hk 0 110 a (by decide +kernel) rfl).ofNum
    obtain ⟨p, n', m', rfl, hp, lp⟩ := (hk 1 114 b (by decide +kernel) rfl).ofRow
    obtain ⟨q, n'', m'', rfl, hq, lq⟩ := (hk 2 114 e (by decide +kernel) rfl).ofRow
    have lb : lenB [.int i, .tuple p, .tuple q] = true := lenB_row (p := p) (by omega) (lenB_row (p := q) (r := []) (by omega) rfl)
    refine ⟨["number", "row", "row"], _, _, cIf, by decide +kernel, rfl, held_cons (hld_num i) (held_cons (hld_row p) (held_cons (hld_row q) rfl)), lb, rfl, rfl, .if_ i p q, ?_, ?_⟩
    · split <;> omega
    · split
      · exact ⟨_, _, hp.up (by decide)⟩
      · exact ⟨_, _, hq.up (by decide)⟩
  · obtain ⟨a, b, rfl⟩ := len2 (hl.trans (by decide +kernel))
    obtain ⟨p, n, m, rfl, hp, lp⟩ := (hk 0 114 a (by decide +kernel) rfl).ofRow
    obtain ⟨q, n', m', rfl, hq, lq⟩ := (hk 1 114 b (by decide +kernel) rfl).ofRow
    have tp : Thg 3 n (m + 1) (rowD p) := .row hp (by decide)
    have tq : Thg 3 n' (m' + 1) (rowD q) := .row hq (by decide)
    have r1 := (hq.up (show 2 ≤ 3 by decide)).append (Rw.push tp (.push tq (.txt (Tx.lit (z := "while") (n := 100) (by decide +kernel)) .nil)))
    have t1 : Thg 4 _ _ (rowD (q ++ [pshD (rowD p), pshD (rowD q), .str "while"])) := .row r1 (by decide)
    have t2 : Thg 4 0 1 (rowD []) := .row (k := 0) .nil (by decide)
    refine ⟨["row", "row"], _, _, cWhile, by decide +kernel, rfl, held_cons (hld_row p) (held_cons (hld_row q) rfl), lenB_row (by omega) (lenB_row (by omega) rfl), rfl, rfl, .while_ p q, ?_, _, _, (hp.up (by decide)).append (.push t1 (.push t2 (.txt (Tx.lit (z := "if") (n := 100) (by decide +kernel)) .nil)))⟩
    rw [List.length_append]; show p.length + 3 ≤ 2000; omega
  · obtain ⟨a, b, rfl⟩ := len2 (hl.trans (by decide +kernel))
    obtain ⟨i, rfl, i0, i1⟩ := (hk 0 110 a (by decide +kernel) rfl).ofNum
    obtain ⟨p, n', m', rfl, hp, lp⟩ := (hk 1 114 b (by decide +kernel) rfl).ofRow
    have lb : lenB [.int i, .tuple p] = true := lenB_row (p := p) (r := []) (by omega) rfl
    have tp : Thg 3 n' (m' + 1) (rowD p) := .row hp (by decide)
    by_cases hi : i = 0
    · have d := RDeeds.rep i p
      rw [if_pos hi] at d
      exact ⟨["number", "row"], _, [], cRepeat, by decide +kernel, rfl, held_cons (hld_num i) (held_cons (hld_row p) rfl), lb, rfl, by unfold cRepeat; simp only [if_pos hi], d, by decide, _, _, .nil⟩
    · have d := RDeeds.rep i p
      rw [if_neg hi] at d
      have em : (i - 1) % 10 ^ 12 = i - 1 := Int.emod_eq_of_lt (by omega) (by omega)
      refine ⟨["number", "row"], _, _, cRepeat, by decide +kernel, rfl, held_cons (hld_num i) (held_cons (hld_row p) rfl), lb, rfl, by unfold cRepeat; simp only [if_neg hi, em], d, ?_, _, _, (hp.up (by decide)).append (.push (.num (i - 1) (by omega) (by omega)) (.push (tp.up (by decide)) (.txt (Tx.lit (z := "repeat") (n := 100) (by decide +kernel)) .nil)))⟩
      rw [List.length_append]; show p.length + 3 ≤ 2000; omega
theorem Made.at_ {z : Str} {ds : List PyData} (h : Made (kOf z) ds) : ∀ d ∈ ds, ∃ c, Kd c d := fun d hd => by
  obtain ⟨i, hi, rfl⟩ := List.mem_iff_getElem.mp hd
  have hi' : i < (kOf z).cps.size := by rw [← h.1]; exact hi
  exact ⟨_, h.2 i _ _ (Array.getElem?_eq_getElem hi') (List.getElem?_eq_getElem hi)⟩
theorem Made.fine {z : Str} {ds : List PyData} (h : Made (kOf z) ds) : FineR ds := fun d hd t e => by
  obtain ⟨c, k⟩ := h.at_ d hd
  exact k.fine t e
theorem Made.fits {z : Str} {ds : List PyData} (h : Made (kOf z) ds) : Fits (kOf z) ds := fun i c d h1 h2 => (h.2 i c d h1 h2).fits
/-- things, each of some size -/
def Sts (k : Nat) (ds : List PyData) : Prop := ∃ a b, Stk k a b ds
theorem Sts.of : ∀ {k : Nat} {ds : List PyData}, (∀ d ∈ ds, ∃ n m, Thg k n m d) → Sts k ds
  | k, [], _ => ⟨0, 0, .nil⟩
  | k, d :: r, h => by
    obtain ⟨n, m, t⟩ := h d (List.mem_cons_self ..)
    obtain ⟨a, b, s⟩ := Sts.of (ds := r) fun e he => h e (List.mem_cons_of_mem _ he)
    exact ⟨_, _, .cons t s⟩
theorem Sts.mem {k : Nat} : ∀ {ds : List PyData}, Sts k ds → ∀ d ∈ ds, ∃ n m, Thg k n m d
  | [], _, d, hd => nomatch hd
  | e :: r, ⟨a, b, h⟩, d, hd => by
    cases h with
    | cons t s =>
      rcases List.mem_cons.mp hd with rfl | hd
      · exact ⟨_, _, t⟩
      · exact Sts.mem ⟨_, _, s⟩ d hd
theorem Sts.app {k : Nat} {a b : List PyData} (h : Sts k a) (g : Sts k b) : Sts k (a ++ b) := Sts.of fun d hd => by
  rcases List.mem_append.mp hd with hd | hd
  · exact h.mem d hd
  · exact g.mem d hd
theorem Sts.take {k : Nat} {a : List PyData} (h : Sts k a) (n : Nat) : Sts k (a.take n) := Sts.of fun d hd => h.mem d (List.mem_of_mem_take hd)
/-- both sides say the same of a word -/
structure Both (bs : List (Str × List PyData)) (ds : List PyData) (wd : PyData) (k : Nat) (l ah : List PyData) : Prop where
  ef : Ef bs ds wd k l ah
  lef : LEf bs ds wd k l ah
  ll : l.length ≤ 100
  la : ah.length ≤ 2000
  st : Sts 3 l
  rw_ : ∃ n m, Rw 4 n m ah
def DS (a ah rs : List PyData) : PyData := .tuple [.tuple a, .tuple (ah ++ rs)]
theorem DS_lay {a ah rs : List PyData} {e f g h : Nat} (h1 : Sts 3 a) (h3 : Rw 4 e f ah) (h4 : Rw 1 g h rs) : PyData.canLay0 (DS a ah rs) = true ∧ SeqAt.shaped (DS a ah rs) = true := by
  obtain ⟨_, _, h1⟩ := h1
  obtain ⟨l1, d1⟩ := h1.lay
  obtain ⟨l2, d2⟩ := (h3.append (h4.up (by decide))).lay
  have l : PyData.canLay0 (DS a ah rs) = true := by
    show (PyData.canLayAll0 a && (PyData.canLayAll0 (ah ++ rs) && true)) = true
    rw [l1, l2]; rfl
  refine ⟨l, ?_⟩
  show (PyData.canLay0 (DS a ah rs) && decide (PyData.depth (DS a ah rs) ≤ 64)) = true
  rw [l, Bool.true_and]
  refine decide_eq_true ?_
  show max (PyData.depthAll a + 1) (max (PyData.depthAll (ah ++ rs) + 1) 0) + 1 ≤ 64
  omega
/-- the words that are asked -/
def Wc (bs : List (Str × List PyData)) (wd : PyData) : Prop := (∃ z ∈ fives, wd = .str z) ∨ (∃ t n m, wd = pshD t ∧ Thg 2 n m t) ∨ (∃ n l, wd = .str (S (Cm.shuf n l)) ∧ Cm.Shuf n l) ∨ (∃ x row n m, wd = .str (S x) ∧ Gn x ∧ bs.lookup (S x) = some row ∧ Rw 1 n m row ∧ m ≤ 1000)
theorem tab45 : ∀ z ∈ table.map (·.1), 45 ∉ z.cps.toList := by decide +kernel
theorem five45 : ∀ z ∈ fives, 45 ∉ z.cps.toList := by decide +kernel
theorem shuf45 (n : Nat) (l : List Nat) : 45 ∈ (S (Cm.shuf n l)).cps.toList := List.mem_append_right _ (List.mem_cons_self ..)
theorem shuf_tab (n : Nat) (l : List Nat) : table.lookup (S (Cm.shuf n l)) = none := by
  cases hl : table.lookup (S (Cm.shuf n l)) with
  | none => rfl
  | some v => exact absurd (shuf45 n l) (tab45 _ (lookup_fst hl))
theorem both_push {bs : List (Str × List PyData)} {ds : List PyData} {t : PyData} {n m : Nat} (h : Thg 2 n m t) : Both bs ds (pshD t) 0 [t] [] :=
  ⟨.push t, .push t, by show 1 ≤ 100; decide, by decide, ⟨_, _, .cons (h.up (by decide)) .nil⟩, _, _, .nil⟩
theorem both_shuf {bs : List (Str × List PyData)} {ds : List PyData} {n : Nat} {l : List Nat} (h : Cm.Shuf n l) (hn : n ≤ ds.length) (hd : Sts 3 ds) : Both bs ds (.str (S (Cm.shuf n l))) n (shufL n l ds) [] := by
  refine ⟨.shuf (shuf_tab n l) h hn, .shuf h hn, ?_, by decide, Sts.of fun d hm => ?_, _, _, .nil⟩
  · unfold shufL; rw [List.length_map]; have := Cm.pk_len (x := (n, l)) h; omega
  · unfold shufL at hm
    obtain ⟨p, hp, rfl⟩ := List.mem_map.mp hm
    have hlt : p < n := Cm.pk_lt (x := (n, l)) h hp
    have h2 : p < (ds.drop (ds.length - n)).length := by rw [List.length_drop]; omega
    have e : (ds.drop (ds.length - n)).getD p (.int 0) = (ds.drop (ds.length - n))[p] := by rw [List.getD_eq_getElem?_getD, List.getElem?_eq_getElem h2]; rfl
    show ∃ n' m', Thg 3 n' m' ((ds.drop (ds.length - n)).getD p (.int 0))
    rw [e]
    exact hd.mem _ (List.mem_of_mem_drop (List.getElem_mem h2))
theorem both_told {bs : List (Str × List PyData)} {ds : List PyData} {x : List Nat} {row : List PyData} {n m : Nat} (g : Gn x) (h : bs.lookup (S x) = some row) (hr : Rw 1 n m row) (hm : m ≤ 1000) : Both bs ds (.str (S x)) 0 [] row :=
  ⟨.told g.tab (by have := g.len; omega) g.noshuf h, .told g.no45 h, by decide, by have := hr.len; omega, ⟨_, _, .nil⟩, _, _, hr.up (by decide)⟩
theorem both_row {bs : List (Str × List PyData)} {us ws : List PyData} {z : Str} (hz : z ∈ fives) (hb : bs.lookup z = none) (h : Made (kOf z) ws) : ∃ ah, Both bs (us ++ ws) (.str z) ws.length [] ah := by
  obtain ⟨ss, hs, ah, c, t⟩ := told hz h
  refine ⟨ah, ?_, .row hz hb rfl t.deed h.fine h.fits h.1.symm, by decide, t.lah, ⟨_, _, .nil⟩, t.row⟩
  have s3 : ws.length ≤ 3 := by have := size4 z hz; rw [h.1]; exact this
  have e : (us ++ ws).drop ((us ++ ws).length - ss.length) = ws := by rw [t.sl, List.length_append, Nat.add_sub_cancel, List.drop_left]
  have := Ef.basic (bs := bs) (ds := us ++ ws) (z := z) (ss := ss) (hs := hs) (l := []) (a := ah) (c := c) t.tb (by rw [t.sl, List.length_append]; omega) (by rw [t.sl]; omega) (by rw [e]; exact t.held) t.lb t.cof t.two_
  rw [t.sl] at this
  exact this
end K10
namespace K10
open PySem PySem.W L2 SX Cm
theorem trAll_strs {K : Frag} {H : Hp} : ∀ zs : List Str, TrAll K H (zs.map V.str) (zs.map PyData.str)
  | [] => .nil
  | z :: r => .cons (.str z) (trAll_strs r)
theorem any_five_t {z : Str} (hz : z ∈ fives) : ((fives.map PyData.str).any fun y => PyData.eqv y (.str z)) = true := by
  rw [List.any_map, List.any_eq_true]
  exact ⟨z, hz, beq_self_eq_true z⟩
theorem any_five_f {z : Str} (hz : z ∉ fives) : ((fives.map PyData.str).any fun y => PyData.eqv y (.str z)) = false := by
  rw [List.any_map, List.any_eq_false]
  intro y hy h
  exact hz (by rw [← eq_of_beq (show (y == z) = true from h)]; exact hy)
theorem any_five_p {t : PyData} : ((fives.map PyData.str).any fun y => PyData.eqv y (pshD t)) = false := by
  rw [List.any_map, List.any_eq_false]
  intro y hy h
  cases h
theorem five_tx : ∀ z ∈ fives, litB z 100 = true := by decide +kernel
theorem abc8_lt : ∀ c ∈ abc8, c < 1114112 := by decide
theorem shuf_tx {n : Nat} {l : List Nat} (h : Cm.Shuf n l) : Tx (S (Cm.shuf n l)) 100 := ⟨by rw [S_len]; have := Cm.shuf_len h; omega, fun c hc => by
  have hc' : c ∈ Cm.shuf n l := hc
  rcases List.mem_append.mp hc' with h1 | h1
  · exact abc8_lt c (Cm.abc_sub h1)
  · rcases List.mem_cons.mp h1 with rfl | h1
    · decide
    · exact abc8_lt c (Cm.abc_sub (h.inn c h1))⟩
theorem shaped_str {z : Str} (h : Tx z 100) : SeqAt.shaped (.str z) = true := by
  obtain ⟨a, b⟩ := lay_strs (zs := [z]) fun y hy => by rw [List.mem_singleton.mp hy]; exact h
  have a' : (PyData.canLay0 (.str z) && true) = true := a
  rw [Bool.and_true] at a'
  show (PyData.canLay0 (.str z) && decide ((0 : Nat) ≤ 64)) = true
  rw [a']; rfl
theorem Wc.shaped {bs : List (Str × List PyData)} {wd : PyData} (h : Wc bs wd) : SeqAt.shaped wd = true := by
  rcases h with ⟨z, hz, rfl⟩ | ⟨t, n, m, rfl, ht⟩ | ⟨n, l, rfl, hs⟩ | ⟨x, row, n, m, rfl, g, _⟩
  · exact shaped_str (Tx.lit (five_tx z hz))
  · obtain ⟨a, b⟩ := ht.lay
    show ((PyData.canLay0 (.str "push") && (PyData.canLay0 t && true)) && decide (max 0 (max (PyData.depth t) 0) + 1 ≤ 64)) = true
    rw [a, decide_eq_true (by omega)]; decide +kernel
  · exact shaped_str (shuf_tx hs)
  · exact shaped_str g.tx
theorem lookup_some {bs : List (Str × List PyData)} {e : Str × List PyData} (h : e ∈ bs) : ∃ row, bs.lookup e.1 = some row := by
  induction bs with
  | nil => cases h
  | cons y r ih =>
    rw [List.lookup_cons]
    cases hz : (e.1 == y.1) with
    | true => exact ⟨_, rfl⟩
    | false =>
      rcases List.mem_cons.mp h with rfl | h
      · rw [beq_self_eq_true] at hz; cases hz
      · exact ih h
theorem lookup_mem' {bs : List (Str × List PyData)} {z : Str} {row : List PyData} (h : bs.lookup z = some row) : ∃ e ∈ bs, e.1 = z ∧ e.2 = row := by
  induction bs with
  | nil => cases h
  | cons y r ih =>
    rw [List.lookup_cons] at h
    cases hz : (z == y.1) with
    | true =>
      rw [hz] at h
      exact ⟨y, List.mem_cons_self .., (eq_of_beq hz).symm, Option.some.inj h⟩
    | false =>
      rw [hz] at h
      obtain ⟨e, he, h1, h2⟩ := ih h
      exact ⟨e, List.mem_cons_of_mem _ he, h1, h2⟩
section
variable {P : Program} {w : World} {K : PySem.W.Frag} {mg : Str → Option Value} {base : Heap}
/-- a thing of depth 2 or of depth 1 -/
def spTh (K : Frag) : Sp := fun vs H Q E => spThing K 3 vs H Q E ∨ spThing K 2 vs H Q E
theorem ok_th {f : Addr} {fd : FuncData} {k j : Nat} (a : FnOk P w K mg base CX0 k f fd A2 (spThing K 3)) (b : FnOk P w K mg base CX0 j f fd A2 (spThing K 2)) (h : j ≤ k) : FnOk P w K mg base CX0 k f fd A2 (spTh K) :=
  ⟨fun vs H Q E s => s.elim (a.len vs H Q E) (b.len vs H Q E), fun A outer s H args us vs Q E hr he hb hv hs => hs.elim (fun z => a.run A outer s H args us vs Q E hr he hb hv z) (fun z => b.run A outer s H args us vs Q E (hr.mono h) he hb hv z)⟩
def spLaw (K : PySem.W.Frag) : Sp := fun vs H Q _ => ∃ (a : Addr) (ns : List Int), vs = [.ref a] ∧ SqL K H a (ns.map V.int) ∧ ns.length ≤ 63 ∧ ∀ H', Q (.bl true) H'
abbrev NL : List Str := ["_law_script", "_law_deck_here", "_law_book_here", "_law_name", "_law_kind", "_law_row", "_law_told", "_law_pushed", "_law_word", "_law_k", "_law_stack", "_law_sign", "_law_rest", "_law_due", "_law_turn", "_law_found"]
theorem scLaw : FnScope NL ["_law_script"] (defScope sLaw) := ⟨rfl, rfl, rfl, by decide +kernel, rfl, by decide +kernel, by decide +kernel⟩
abbrev AD : List Str := ["_law_deck_here", "_law_most"]
theorem ok_law {f fde fdr ft fa fo fl fs fb fsh : Addr} {fdd ded drd td ad od ld sd bd shd : FuncData} (F : Fun K "law" "law" sLaw f fdd)
    (DE : FnOk P w K mg base CX0 2 fde ded ["_law_script", "_law_most"] (spDeck K)) (bDE : L2.Binds K ded ["_law_script", "_law_most"] []) (kDE : keepIn K (.ref fde) = true) (mDE : mg "_law_deck" = some (.ref fde))
    (DR : FnOk P w K mg base CX0 2 fdr drd AD spDraw) (bDR : L2.Binds K drd AD []) (kDR : keepIn K (.ref fdr) = true) (mDR : mg "_law_draw" = some (.ref fdr))
    (TH : FnOk P w K mg base CX0 19 ft td A2 (spTh K)) (bTH : L2.Binds K td A2 []) (kTH : keepIn K (.ref ft) = true) (mTH : mg "_law_thing" = some (.ref ft))
    (AN : FnOk P w K mg base CX0 18 fa ad A2 (spAny K 2)) (bAN : L2.Binds K ad A2 []) (kAN : keepIn K (.ref fa) = true) (mAN : mg "_law_any_word" = some (.ref fa))
    (SH : FnOk P w K mg base CX0 3 fsh shd AD spShuffle) (bSH : L2.Binds K shd AD []) (kSH : keepIn K (.ref fsh) = true) (mSH : mg "_law_shuffle" = some (.ref fsh))
    (BO : FnOk P w K mg base CX0 19 fb bd ["_law_deck_here"] (spBook K)) (bBO : L2.Binds K bd ["_law_deck_here"] []) (kBO : keepIn K (.ref fb) = true) (mBO : mg "_law_book" = some (.ref fb))
    (FO : FnOk P w K mg base CX0 21 fo od ["_law_deck_here", "_law_word"] (spFor K)) (bFO : L2.Binds K od ["_law_deck_here", "_law_word"] []) (kFO : keepIn K (.ref fo) = true) (mFO : mg "_law_things_for" = some (.ref fo))
    (LS : FnOk P w K mg base CX0 2 fl ld ["_law_stack", "_law_todo", "_law_book_here"] (spLStep K)) (bLS : L2.Binds K ld ["_law_stack", "_law_todo", "_law_book_here"] []) (kLS : keepIn K (.ref fl) = true) (mLS : mg "_law_step" = some (.ref fl))
    (ST : FnOk P w K mg base CX0 5 fs sd ["state", "book"] (spStep K)) (bST : L2.Binds K sd ["state", "book"] []) (kST : keepIn K (.ref fs) = true) (mST : mg "step" = some (.ref fs))
    (mrange : mg "range" = none) (mtup : mg "tuple" = none) (misi : mg "isinstance" = none) : FnOk P w K mg base CX0 22 f fdd ["_law_script"] (spLaw K) := by
  refine F.ok scLaw (fun vs H Q E h => ?_) (fun cdv A outer s H vs Q E hr h => ?_)
  · obtain ⟨a, ns, rfl, _⟩ := h
    rfl
  obtain ⟨a, ns, rfl, hS, h63, q⟩ := h
  have hr2 := hr.mono (j := 2) (by decide)
  have hr3 := hr.mono (j := 3) (by decide)
  have hr5 := hr.mono (j := 5) (by decide)
  have hr18 := hr.mono (j := 18) (by decide)
  have hr19 := hr.mono (j := 19) (by decide)
  have hu : (A.deeper (PyProof.Rows.envOfC "law" (defScope sLaw) s.heap.objs.size f cdv)).units + 65 < cLine := by have := hr.un; omega
  refine ⟨_, pss_cons (ps_set (i := 1) scLaw.nd rfl (.inr rfl) (pe_call DE hr2 rfl mDE kDE bDE .nil pass0 (pa_cons (pv 0) (pa_cons pe_int pa_nil))))
    (pss_cons (ps_set (i := 2) scLaw.nd rfl (.inl rfl) (pe_call BO hr19 rfl mBO kBO bBO .nil pass0 (pa_cons (pv 1) pa_nil)))
    (pss_cons (ps_setLc (i := 6) (own := [("_law_name", 3), ("_law_kind", 4), ("_law_row", 5)]) (g := gTup K 3 (gCons (gName 3) (gCons (gName 4) (gCons (gName 5) gNil)))) (tt := tYes) rfl scLaw.nd rfl rfl rfl (pi_tup (pv 2)) (blkOk_by (own := [("_law_name", 3), ("_law_kind", 4), ("_law_row", 5)]) (N := NL) (sc := defScope sLaw) (by decide +kernel))
      (fun _ _ _ _ _ => pg_tup rfl (pgs_cons (pg_name (i := 3) scLaw.nd rfl (Or.inl rfl)) (pgs_cons (pg_name (i := 4) scLaw.nd rfl (Or.inl rfl)) (pgs_cons (pg_name (i := 5) scLaw.nd rfl (Or.inl rfl)) pgs_nil)))) (fun _ _ _ _ _ => pts_nil) (fun _ _ _ _ _ => pv 3))
    (pss_cons (ps_set (i := 7) scLaw.nd rfl (.inl rfl) (pe_tup (pa_cons pe_str (pa_cons (pe_call TH hr19 rfl mTH kTH bTH .nil pass0 (pa_cons (pv 1) (pa_cons pe_int pa_nil))) pa_nil))))
    (pss_cons (ps_for PassesOwn.never rfl (pi_list (pe_op op_cat (pe_lst (pa_cons pe_str (pa_cons pe_str (pa_cons pe_str (pa_cons pe_str (pa_cons pe_str (pa_cons (pv 7) (pa_cons (pe_call SH hr3 rfl mSH kSH bSH .nil pass0 (pa_cons (pv 1) (pa_cons pe_int pa_nil))) pa_nil)))))))) (pv 6))) (pg_name (i := 8) scLaw.nd rfl (.inl rfl))
      (pss_cons (ps_setLc (i := 10) (own := [("_law_k", 9)]) (g := gName 9) (tt := tYes) rfl scLaw.nd rfl rfl rfl (pi_range1 rfl mrange (pa_cons (pe_call DR hr2 rfl mDR kDR bDR .nil pass0 (pa_cons (pv 1) (pa_cons pe_int pa_nil))) pa_nil)) (blkOk_by (own := [("_law_k", 9)]) (N := NL) (sc := defScope sLaw) (by decide +kernel))
        (fun _ _ _ _ _ => pg_name (i := 9) scLaw.nd rfl (Or.inl rfl)) (fun _ _ _ _ _ => pts_nil) (fun _ _ _ _ _ => pe_call TH hr19 rfl mTH kTH bTH .nil pass0 (pa_cons (pv 1) (pa_cons pe_int pa_nil))))
      (C8.pss_cut (ps_if (pt_cmpR (op_inD hu) (pv 8) (pe_lst (pa_cons pe_str (pa_cons pe_str (pa_cons pe_str (pa_cons pe_str (pa_cons pe_str pa_nil)))))) rfl)
        (pss_one (ps_set (i := 10) scLaw.nd rfl (.inl rfl) (pe_op op_cat (pv 10) (pe_call FO hr rfl mFO kFO bFO .nil pass0 (pa_cons (pv 1) (pa_cons (pv 8) pa_nil))))))
        (pss_one (ps_if (PW.pt (pw_and (pt_not (pt_val (pe_callB call_isi (by rfl) misi PyProof.Rows.boot_isinstance (pa_cons (pv 8) (pa_cons (pe_bltn (v := .ty "tuple") (by rfl) mtup (by decide +kernel) rfl) pa_nil))))) (pw_and1 (pt_cmpR op_in_sign pe_str (pv 8) rfl))))
          (pss_one (ps_set (i := 10) scLaw.nd rfl (.inl rfl) (pe_op op_cat (pv 10) (pe_lc (own := [("_law_sign", 11)]) (g := gName 11) (tt := tYes) rfl scLaw.nd (pi_str (pe_ix ix_list (pe_split (pv 8) pe_str) pe_int (fun _ _ => rfl))) (blkOk_by (own := [("_law_sign", 11)]) (N := NL) (sc := defScope sLaw) (by decide +kernel))
            (fun _ _ _ _ _ => pg_name (i := 11) scLaw.nd rfl (Or.inl rfl)) (fun _ _ _ _ _ => pts_nil) (fun _ _ _ _ _ => pe_call TH hr19 rfl mTH kTH bTH .nil pass0 (pa_cons (pv 1) (pa_cons pe_int pa_nil))))))) pss_nil)))
      (pss_cons (ps_setLc (i := 12) (own := [("_law_k", 9)]) (g := gName 9) (tt := tYes) rfl scLaw.nd rfl rfl rfl (pi_range1 rfl mrange (pa_cons (pe_call DR hr2 rfl mDR kDR bDR .nil pass0 (pa_cons (pv 1) (pa_cons pe_int pa_nil))) pa_nil)) (blkOk_by (own := [("_law_k", 9)]) (N := NL) (sc := defScope sLaw) (by decide +kernel))
        (fun _ _ _ _ _ => pg_name (i := 9) scLaw.nd rfl (Or.inl rfl)) (fun _ _ _ _ _ => pts_nil) (fun _ _ _ _ _ => pe_call AN hr18 rfl mAN kAN bAN .nil pass0 (pa_cons (pv 1) (pa_cons pe_int pa_nil))))
      (pss_cons (ps_set (i := 13) scLaw.nd rfl (.inl rfl) (pe_call LS hr2 rfl mLS kLS bLS .nil pass0 (pa_cons (pv 10) (pa_cons (pe_op op_cat (pe_lst (pa_cons (pv 8) pa_nil)) (pv 12)) (pa_cons (pv 2) pa_nil)))))
      (pss_one (ps_for PassesOwn.never rfl (pi_range1 rfl mrange (pa_cons pe_int pa_nil)) (pg_name (i := 14) scLaw.nd rfl (.inl rfl))
        (pss_cons (ps_set (i := 15) scLaw.nd rfl (.inl rfl) (pe_call ST hr5 rfl mST kST bST .nil pass0 (pa_cons (pe_tup (pa_cons (pe_callTy call_tuple_of (by rfl) mtup (by decide +kernel) (pa_cons (pv 10) pa_nil)) (pa_cons (pe_op op_catA (pe_tup (pa_cons (pv 8) pa_nil)) (pe_callTy call_tuple_of (by rfl) mtup (by decide +kernel) (pa_cons (pv 12) pa_nil))) pa_nil))) (pa_cons (pv 2) pa_nil))))
        (pss_one (ps_if (PW.pt (pw_or (pt_not (pt_val (pe_callB call_isi (by rfl) misi PyProof.Rows.boot_isinstance (pa_cons (pv 15) (pa_cons (pe_bltn (v := .ty "tuple") (by rfl) mtup (by decide +kernel) rfl) pa_nil)))))
          (pw_or1 (pt_cmpR (op_neD hr.units) (pv 15) (pe_tup (pa_cons (pe_callTy call_tuple_of (by rfl) mtup (by decide +kernel) (pa_cons (pe_ix ix_tup (pv 13) pe_int (fun _ _ => rfl)) pa_nil)) (pa_cons (pe_callTy call_tuple_of (by rfl) mtup (by decide +kernel) (pa_cons (pe_ix ix_tup (pv 13) pe_int (fun _ _ => rfl)) pa_nil)) pa_nil))) (nomark _))))) (pss_one (ps_ret pe_bl)) pss_nil))))))))))
    (pss_one (ps_ret pe_bl)))))), ?_⟩
  refine ⟨_, rfl, a, ns, 1500, rfl, hS, h63, by decide, fun d H1 es s1 np hp hd => ?_⟩
  have D1 : Dk H1 d := ⟨es, hp, hd⟩
  refine ⟨_, rfl, d, rfl, D1, fun b bv bs nb H2 k2 D2 hb2 hB2 bn rwa lbs => ?_⟩
  -- the names
  refine ⟨_, rfl, b, rfl, ⟨_, hb2⟩, fun TL nTL => ?_⟩
  refine lc_tup (K := K) (a := b) (xs := bv) (fun j H' => Same H2 H' ∧ H' TL = some (.lst (((bs.take j).map (·.1)).map V.str))) ⟨same_new nTL _, upd_same⟩ (fun j H' _ h => TKs.of h.1 _ _ hb2) ?_ ?_
  · rintro j y H5 hy ⟨s5, hD5⟩
    obtain ⟨e, he, p, r, rfl, hp', hr'⟩ := hB2.get hy
    refine ⟨p, _, rfl, (TKs.of s5) _ _ hp', rfl, _, _, rfl, _, _, rfl, _, _, rfl, rfl, rfl, ?_⟩
    refine ⟨_, rfl, _, hD5, ?_, own_new s5 nTL, ?_⟩
    · rw [List.length_map, List.length_map, List.length_take]; exact small1000 (by omega)
    · rw [upd_same, List.take_add_one, he, List.map_append, List.map_append]; rfl
  rintro H3 ⟨s3, hTL3⟩
  rw [hB2.len, List.take_length] at hTL3
  have D3 := D2.same s3
  have nTLd := D2.nd nTL
  have hb3 := TKs.of (K := K) s3 _ _ hb2
  have hB3 := hB2.mono (TKs.of (K := K) s3)
  -- what is pushed
  refine ⟨_, rfl, .inl ⟨d, 2, rfl, rfl, by decide, D3, fun v t n2 m2 H4 hv ht hm k4 D4 => ⟨(by show 2 ≤ sizeLine; decide), fun PU nPU => ?_⟩⟩⟩
  have tPU := tupTr (K := K) (.cons (.str "push") (.cons hv .nil)) nPU
  have sPU := same_new nPU (.tup [.str "push", v])
  have D5 := D4.same sPU
  have k35 : Kp [d] H3 (upd H4 PU (.tup [.str "push", v])) := k4.trans (.of sPU)
  have hTL5 := k35 _ _ nTLd hTL3
  have hb5 := D3.tks (K := K) k35 _ _ hb3
  have hB5 := hB3.mono (D3.tks (K := K) k35)
  generalize upd H4 PU (.tup [.str "push", v]) = H5 at tPU D5 hTL5 hb5 hB5
  clear sPU k35 nPU
  -- the words
  refine ⟨_, rfl, _, rfl, d, 8, rfl, D5, by decide, by decide, fun sn sl H6 hsf k6 D6 => ⟨(by show 7 ≤ sizeLine; decide), fun W0 nW0 => ?_⟩⟩
  have hsf' : Cm.Shuf sn sl := ⟨hsf.n8, hsf.l12, hsf.inn⟩
  have es' : shuf sn sl = Cm.shuf sn sl := rfl
  rw [es']
  have tPU6 := tPU.mono (D5.tks (K := K) k6)
  have hTL6 := k6 _ _ nTLd hTL5
  have sW0 := same_new nW0 (.lst [.str "do", .str "dip", .str "if", .str "while", .str "repeat", .ref PU, .str (S (Cm.shuf sn sl))])
  refine ⟨_, rfl, W0, TL, _, _, rfl, rfl, upd_same, sW0 _ _ hTL6, ?_, fun WL nWL => ⟨WL, rfl, ⟨_, SqL.of upd_same⟩, ?_⟩⟩
  · rw [sizeLine_eq, List.length_map, List.length_map]; show 7 + bs.length ≤ _; omega
  have sWL := sW0.trans (same_new nWL (.lst ([.str "do", .str "dip", .str "if", .str "while", .str "repeat", .ref PU, .str (S (Cm.shuf sn sl))] ++ (bs.map (·.1)).map V.str)))
  have D7 := D6.same sWL
  have nWLd := (D6.same sW0).nd nWL
  have k57 : Kp [d] H5 (upd (upd H6 W0 (.lst [.str "do", .str "dip", .str "if", .str "while", .str "repeat", .ref PU, .str (S (Cm.shuf sn sl))])) WL (.lst ([.str "do", .str "dip", .str "if", .str "while", .str "repeat", .ref PU, .str (S (Cm.shuf sn sl))] ++ (bs.map (·.1)).map V.str))) := k6.trans (.of sWL)
  have hb7 := D5.tks (K := K) k57 _ _ hb5
  have hB7 := hB5.mono (D5.tks (K := K) k57)
  have tws : TrAll K (upd (upd H6 W0 (.lst [.str "do", .str "dip", .str "if", .str "while", .str "repeat", .ref PU, .str (S (Cm.shuf sn sl))])) WL (.lst ([.str "do", .str "dip", .str "if", .str "while", .str "repeat", .ref PU, .str (S (Cm.shuf sn sl))] ++ (bs.map (·.1)).map V.str))) ([.str "do", .str "dip", .str "if", .str "while", .str "repeat", .ref PU, .str (S (Cm.shuf sn sl))] ++ (bs.map (·.1)).map V.str) ([.str "do", .str "dip", .str "if", .str "while", .str "repeat", pshD t, .str (S (Cm.shuf sn sl))] ++ (bs.map (·.1)).map PyData.str) :=
    TrAll.append (.cons (.str _) (.cons (.str _) (.cons (.str _) (.cons (.str _) (.cons (.str _) (.cons (tPU6.mono (.of sWL)) (.cons (.str _) .nil))))))) (trAll_strs _)
  have wcs : ∀ wd ∈ [.str "do", .str "dip", .str "if", .str "while", .str "repeat", pshD t, .str (S (Cm.shuf sn sl))] ++ (bs.map (·.1)).map PyData.str, Wc bs wd := fun wd hwd => by
    rcases List.mem_append.mp hwd with h | h
    · simp only [List.mem_cons, List.not_mem_nil, or_false] at h
      rcases h with rfl | rfl | rfl | rfl | rfl | rfl | rfl
      · exact .inl ⟨"do", by decide +kernel, rfl⟩
      · exact .inl ⟨"dip", by decide +kernel, rfl⟩
      · exact .inl ⟨"if", by decide +kernel, rfl⟩
      · exact .inl ⟨"while", by decide +kernel, rfl⟩
      · exact .inl ⟨"repeat", by decide +kernel, rfl⟩
      · exact .inr (.inl ⟨t, _, _, rfl, ht⟩)
      · exact .inr (.inr (.inl ⟨sn, sl, rfl, hsf'⟩))
    · obtain ⟨z, hz, rfl⟩ := List.mem_map.mp h
      obtain ⟨e, he, rfl⟩ := List.mem_map.mp hz
      obtain ⟨y, e1, g, _⟩ := bn e he
      obtain ⟨row, hrow⟩ := lookup_some he
      obtain ⟨e', he', _, rfl⟩ := lookup_mem' hrow
      obtain ⟨w', m', hr', hm'⟩ := rwa e' he'
      rw [e1] at hrow ⊢
      exact .inr (.inr (.inr ⟨y, e'.2, w', m', rfl, g, hrow, hr', hm'⟩))
  have hWL7 : upd (upd H6 W0 (.lst [.str "do", .str "dip", .str "if", .str "while", .str "repeat", .ref PU, .str (S (Cm.shuf sn sl))])) WL (.lst ([.str "do", .str "dip", .str "if", .str "while", .str "repeat", .ref PU, .str (S (Cm.shuf sn sl))] ++ (bs.map (·.1)).map V.str)) WL = some (.lst ([.str "do", .str "dip", .str "if", .str "while", .str "repeat", .ref PU, .str (S (Cm.shuf sn sl))] ++ (bs.map (·.1)).map V.str)) := upd_same
  revert D7 hb7 hB7 tws wcs hWL7
  clear k57
  generalize upd (upd H6 W0 (.lst [.str "do", .str "dip", .str "if", .str "while", .str "repeat", .ref PU, .str (S (Cm.shuf sn sl))])) WL (.lst ([.str "do", .str "dip", .str "if", .str "while", .str "repeat", .ref PU, .str (S (Cm.shuf sn sl))] ++ (bs.map (·.1)).map V.str)) = H7
  generalize ([.str "do", .str "dip", .str "if", .str "while", .str "repeat", .ref PU, .str (S (Cm.shuf sn sl))] ++ (bs.map (·.1)).map V.str : List V) = wvs
  generalize ([.str "do", .str "dip", .str "if", .str "while", .str "repeat", pshD t, .str (S (Cm.shuf sn sl))] ++ (bs.map (·.1)).map PyData.str : List PyData) = wds
  intro D7 hb7 hB7 tws wcs hWL7
  have five_none : ∀ z ∈ fives, bs.lookup z = none := fun z hz => bn.five hz
  clear bn rwa
  refine for_list (K := K) (a := WL) (xs := wvs) (fun i σ H' => ∃ (x8 x10 x12 x13 x14 x15 : Option V), σ = [some (.ref a), some (.ref d), some (.ref b), none, none, none, some (.ref TL), some (.ref PU), x8, none, x10, none, x12, x13, x14, x15] ∧ H' WL = some (.lst wvs) ∧ TrAll K H' wvs wds ∧ SqT K H' b bv ∧ BkAll K H' bv bs ∧ Dk H' d)
    ⟨none, none, none, none, none, none, rfl, hWL7, tws, hb7, hB7, D7⟩ (fun i σ H' _ h => by obtain ⟨_, _, _, _, _, _, _, h, _⟩ := h; exact SqL.of h) ?_ (fun σ H' _ => q H')
  rintro i wv σ H8 hi ⟨x8, x10, x12, x13, x14, x15, rfl, hWL8, tws8, hb8, hB8, D8⟩
  obtain ⟨wd, hwd, tw8⟩ := tws8.get hi
  have wc := wcs wd (List.mem_of_getElem? hwd)
  have wsh := wc.shaped
  -- the things beneath
  refine ⟨_, rfl, d, 4, rfl, D8, by decide, by decide, fun r H9 r0 r1 k9 D9 => ?_⟩
  refine ⟨_, rfl, by omega, by omega, fun B nB => ?_⟩
  have nBd := D9.nd nB
  refine lc_range (lo := 0) (n := r.toNat) (fun i H' => ∃ (acc : List V) (ts : List PyData), H' B = some (.lst acc) ∧ TrAll K H' acc ts ∧ Sts 3 ts ∧ acc.length = i ∧ Kp [d] H9 H' ∧ Dk H' d)
    ⟨[], [], upd_same, .nil, ⟨0, 0, .nil⟩, rfl, (Kp.refl _ _).new nB, D9.new nB⟩ ?_ ?_
  · rintro i H6 hi ⟨acc, ts, e1, e2, e3, e5, k6, g6⟩
    refine ⟨rfl, _, rfl, .inl ⟨d, 2, rfl, rfl, by decide, g6, fun y t n2 m2 H7 hv hy hm k7 g7 => ?_⟩⟩
    have hL : H7 B = some (.lst acc) := k7 B _ nBd e1
    have tk := (g6.tks (K := K) k7).trans (TKs.lst (ys := acc ++ [y]) hL)
    exact ⟨acc, hL, small1000 (by omega), acc ++ [y], ts ++ [t], upd_same, (e2.mono tk).append (.cons (hv.mono (TKs.lst hL)) .nil), e3.app ⟨_, _, .cons (hy.up (by decide)) .nil⟩, by rw [List.length_append, e5]; rfl, (k6.trans k7).put nB, g7.put nBd⟩
  rintro H10 ⟨us, ub, hB10', hus10, sus, lus, k10, D10⟩
  have k810 : Kp [d] H8 H10 := k9.trans k10
  have tk810 := D8.tks (K := K) k810
  have hWL10 := k810 _ _ nWLd hWL8
  have tws10 := tws8.mono tk810
  have tw10 := tw8.mono tk810
  have hb10 := tk810 _ _ hb8
  have hB10 := hB8.mono tk810
  clear tws8 tw8 hb8 hB8 hWL8 k9 k10 k810 tk810 D8 D9
  -- the stack
  refine ⟨fun σ H' => ∃ (S : Addr) (xs : List V) (ds l ah : List PyData) (k : Nat), σ = [some (.ref a), some (.ref d), some (.ref b), none, none, none, some (.ref TL), some (.ref PU), some wv, none, some (.ref S), none, x12, x13, x14, x15] ∧ H' S = some (.lst xs) ∧ TrAll K H' xs ds ∧ Sts 3 ds ∧ xs.length ≤ 20 ∧ Both bs ds wd k l ah ∧ S ∉ [d] ∧ Kp [d] H10 H' ∧ Dk H' d, ?_, ?_⟩
  · refine ⟨_, rfl, (by show 5 ≤ sizeLine; decide), fun F5 n5 => ?_⟩
    have s5 := same_new n5 (.lst (fives.map V.str))
    refine ⟨wd, fives.map PyData.str, (tw10.mono (.of s5)).dp, .lst (SqL.of upd_same) (dp_strs fives), wsh, (by decide +kernel), _, rfl, ?_⟩
    have kF : Kp [d] H10 (upd H10 F5 (.lst (fives.map V.str))) := (Kp.refl _ _).new n5
    have DF := D10.new (o := .lst (fives.map V.str)) n5
    have hBF := kn (o' := .lst (fives.map V.str)) hB10' n5
    have husF := hus10.mono (TKs.of (K := K) s5)
    have twF := tw10.mono (TKs.of (K := K) s5)
    show if ((fives.map PyData.str).any fun z => PyData.eqv z wd) = true then _ else _
    change (if ((fives.map PyData.str).any fun z => PyData.eqv z wd) = true then _ else _)
    rcases wc with ⟨z, hz, rfl⟩ | ⟨t, n', m', rfl, ht⟩ | ⟨n', l', rfl, hs⟩ | ⟨x, row, n', m', rfl, g, hl, hr', hm'⟩
    · rw [any_five_t hz]
      cases tw10
      refine iteT ?_
      refine ⟨_, rfl, _, rfl, _, rfl, d, z, rfl, hz, DF, fun W ws dw H5 nW hW5 hws5 hmade k5 D5 => ?_⟩
      have hB5 := k5 B _ nBd hBF
      have lws := hws5.len
      have s4 := size4 z hz
      have hm1 := hmade.1
      refine ⟨B, W, us, ws, rfl, rfl, hB5, hW5, Nat.le_of_lt (small1000 (by omega)), fun S nS => ?_⟩
      obtain ⟨ah, both⟩ := both_row (us := ub) hz (five_none z hz) hmade
      refine ⟨S, us ++ ws, ub ++ dw, [], ah, dw.length, rfl, upd_same, ((husF.mono (DF.tks (K := K) k5)).append hws5).mono (.of (same_new nS _)), sus.app (Sts.of fun d' hd' => ?_), by rw [List.length_append]; omega, both, D5.nd nS, (kF.trans k5).new nS, D5.new nS⟩
      obtain ⟨c, kc⟩ := hmade.at_ d' hd'
      exact kc.thg
    · rw [any_five_p]
      refine iteF ?_
      obtain ⟨p, ys, rfl, hp, hy⟩ := Tr.tupD twF
      refine ⟨_, rfl, _, _, _, _, true, rfl, .ty _, tyTup hp, kit_ty (r := true) (by decide +kernel), _, rfl, iteF (iteF ?_)⟩
      exact ⟨B, us, ub, [t], [], 0, rfl, hBF, husF, sus, by omega, both_push ht, nBd, kF, DF⟩
    · rw [any_five_f (fun h => five45 _ h (shuf45 n' l'))]
      refine iteF ?_
      cases twF
      refine ⟨_, rfl, _, _, _, _, false, rfl, .ty _, .base (.str _), kit_ty (r := false) (by decide +kernel), _, rfl, iteT ?_⟩
      have e45 : ("-" : Str) = (⟨#[45]⟩ : Str) := by decide +kernel
      rw [e45]
      refine ⟨_, rfl, 45, _, rfl, rfl, _, rfl, ?_⟩
      rw [decide_eq_true (shuf45 n' l')]
      refine iteT ?_
      have sl' := Cm.shuf_len hs
      refine ⟨_, rfl, _, rfl, ⟨_, rfl⟩, _, _, rfl, rfl, rfl, ?_, fun p hp => ?_⟩
      · rw [S_len]; exact Nat.le_of_lt (small1000 (by omega))
      rw [show (⟨#[45]⟩ : Str) = S [45] by decide +kernel, split_S (List.cons_ne_nil _ _) (by decide), Cm.shuf_spl hs]
      refine ⟨p, _, 0, _, rfl, rfl, SqL.of upd_same, atI_nat (j := 0) rfl, ?_⟩
      have sp := same_new hp (.lst ([Cm.abc n', l'].map fun x => V.str (S x)))
      have Dp' := DF.new (o := .lst ([Cm.abc n', l'].map fun x => V.str (S x))) hp
      have kp' : Kp [d] H10 _ := kF.new (o := .lst ([Cm.abc n', l'].map fun x => V.str (S x))) hp
      have hBp := sp _ _ hBF
      have husp := husF.mono (TKs.of (K := K) sp)
      refine ⟨_, rfl, fun D hD => ?_⟩
      have nDd := Dp'.nd hD
      have hz' : (S (Cm.abc n')).cps.size = n' := by
        show (Cm.abc n').toArray.size = _
        rw [List.size_toArray, Cm.abc_len hs.n8]
      have n8 := hs.n8
      refine lc_it (walk_str (z := S (Cm.abc n'))) (fun j H' => ∃ (acc : List V) (ts : List PyData), H' D = some (.lst acc) ∧ TrAll K H' acc ts ∧ Sts 3 ts ∧ acc.length = j ∧ Kp [d] (upd (upd H10 F5 (.lst (fives.map V.str))) p (.lst ([Cm.abc n', l'].map fun x => V.str (S x)))) H' ∧ Dk H' d)
        ⟨[], [], upd_same, .nil, ⟨0, 0, .nil⟩, rfl, (Kp.refl _ _).new hD, Dp'.new hD⟩ (fun _ _ _ _ => trivial) ?_ ?_
      · rintro j y H6 H6' hj ⟨acc, ts, e1, e2, e3, e5, k6, g6⟩ ⟨rfl, c, hc, rfl⟩
        refine ⟨rfl, _, rfl, .inr ⟨d, 1, rfl, rfl, by decide, g6, fun y t n2 m2 H7 hv hy hm k7 g7 => ?_⟩⟩
        have hL : H7 D = some (.lst acc) := k7 D _ nDd e1
        have tk := (g6.tks (K := K) k7).trans (TKs.lst (ys := acc ++ [y]) hL)
        exact ⟨acc, hL, small1000 (by omega), acc ++ [y], ts ++ [t], upd_same, (e2.mono tk).append (.cons (hv.mono (TKs.lst hL)) .nil), e3.app ⟨_, _, .cons (hy.up (by decide)) .nil⟩, by rw [List.length_append, e5]; rfl, (k6.trans k7).put hD, g7.put nDd⟩
      · rintro H7 ⟨acc, ts, e1, e2, e3, e5, k7, g7⟩
        have lt := e2.len
        refine ⟨B, D, us, acc, rfl, rfl, k7 _ _ nBd hBp, e1, Nat.le_of_lt (small1000 (by omega)), fun S nS => ?_⟩
        have sds : Sts 3 (ub ++ ts) := sus.app e3
        exact ⟨S, us ++ acc, ub ++ ts, _, [], n', rfl, upd_same, ((husp.mono (Dp'.tks (K := K) k7)).append e2).mono (.of (same_new nS _)), sds, by rw [List.length_append]; omega, both_shuf hs (by rw [List.length_append]; omega) sds, g7.nd nS, (kp'.trans k7).new nS, g7.new nS⟩
    · rw [any_five_f (fun h => g.notab (five_tab _ h))]
      refine iteF ?_
      cases twF
      refine ⟨_, rfl, _, _, _, _, false, rfl, .ty _, .base (.str _), kit_ty (r := false) (by decide +kernel), _, rfl, iteT ?_⟩
      have e45 : ("-" : Str) = (⟨#[45]⟩ : Str) := by decide +kernel
      rw [e45]
      refine ⟨_, rfl, 45, _, rfl, rfl, _, rfl, ?_⟩
      rw [decide_eq_false (show ¬ 45 ∈ (S x).cps.toList from g.no45)]
      refine iteF ?_
      exact ⟨B, us, ub, [], row, 0, rfl, hBF, husF, sus, by omega, both_told g hl hr' hm', nBd, kF, DF⟩
  rintro σ H11 ⟨S0, xs, ds, l, ah, k, rfl, hS11, hxs11, sds, lxs, both, nSd, k11, D11⟩
  have tk11 := D10.tks (K := K) k11
  have hWL11 := k11 _ _ nWLd hWL10
  have tws11 := tws10.mono tk11
  have tw11 := tw10.mono tk11
  have hb11 := tk11 _ _ hb10
  have hB11 := hB10.mono tk11
  clear tws10 tw10 hb10 hB10 hWL10 k11 tk11 D10
  -- the rest
  refine ⟨_, rfl, d, 4, rfl, D11, by decide, by decide, fun r8 H12 r80 r81 k12 D12 => ?_⟩
  refine ⟨_, rfl, by omega, by omega, fun R nR => ?_⟩
  have nRd := D12.nd nR
  refine lc_range (lo := 0) (n := r8.toNat) (fun i H' => ∃ (acc : List V) (ts : List PyData) (u v : Nat), H' R = some (.lst acc) ∧ TrAll K H' acc ts ∧ Rw 1 u v ts ∧ acc.length = i ∧ Kp [d] H12 H' ∧ Dk H' d)
    ⟨[], [], 0, 0, upd_same, .nil, .nil, rfl, (Kp.refl _ _).new nR, D12.new nR⟩ ?_ ?_
  · rintro i H6 hi ⟨acc, ts, u, v, e1, e2, e3, e5, k6, g6⟩
    refine ⟨rfl, _, rfl, d, 1, rfl, rfl, by decide, g6, fun y t n2 m2 H7 hv hy hm k7 g7 => ?_⟩
    have hL : H7 R = some (.lst acc) := k7 R _ nRd e1
    have tk := (g6.tks (K := K) k7).trans (TKs.lst (ys := acc ++ [y]) hL)
    exact ⟨acc, hL, small1000 (by omega), acc ++ [y], ts ++ [t], u + n2, v + m2, upd_same, (e2.mono tk).append (.cons (hv.mono (TKs.lst hL)) .nil), e3.append hy, by rw [List.length_append, e5]; rfl, (k6.trans k7).put nR, g7.put nRd⟩
  rintro H13 ⟨ys, rs, u', v', hR13, hys13, hrs, lys, k13, D13⟩
  have k1113 := k12.trans k13
  have tk13 := D11.tks (K := K) k1113
  have hS13 := k1113 _ _ nSd hS11
  have hxs13 := hxs11.mono tk13
  have hWL13 := k1113 _ _ nWLd hWL11
  have tws13 := tws11.mono tk13
  have tw13 := tw11.mono tk13
  have hb13 := tk13 _ _ hb11
  have hB13 := hB11.mono tk13
  clear tws11 tw11 hb11 hB11 hWL11 k1113 tk13 k12 k13 D12 D11 hS11 hxs11
  have lxd := hxs13.len
  have lyd := hys13.len
  -- what is due
  refine ⟨_, rfl, _, rfl, (by show 1 ≤ sizeLine; decide), fun o no => ?_⟩
  have so := same_new no (.lst [wv])
  refine ⟨_, rfl, o, R, [wv], ys, rfl, rfl, upd_same, so _ _ hR13, Nat.le_of_lt (small1000 (by show 1 + ys.length ≤ 1000; omega)), fun T nT => ?_⟩
  have sT := same_new nT (.lst ([wv] ++ ys))
  have s14 := so.trans sT
  refine ⟨_, rfl, S0, T, b, xs, ys, bv, wv, wd, ds, rs, l, ah, bs, k, rfl, s14 _ _ hS13, hxs13.mono (.of s14), upd_same, tw13.mono (.of s14), hys13.mono (.of s14), TKs.of s14 _ _ hb13, hB13.mono (.of s14), both.lef, by omega, by omega, both.la, fun du A6 C6 HD sD hdu hA hC => ?_⟩
  have s13D := s14.trans sD
  obtain ⟨n2, m2, hah⟩ := both.rw_
  obtain ⟨lay, shp⟩ := DS_lay ((sds.take (ds.length - k)).app both.st) hah hrs
  refine ⟨2, rfl, by decide, by decide, for_range (lo := 0) (n := 2) (fun i σ' H' => ∃ (x14' x15' : Option V), σ' = [some (.ref a), some (.ref d), some (.ref b), none, none, none, some (.ref TL), some (.ref PU), some wv, none, some (.ref S0), none, some (.ref R), some (.ref du), x14', x15'] ∧ Same HD H')
    ⟨_, _, rfl, fun _ _ h => h⟩ ?_ ?_⟩
  · rintro i σ' HE hi ⟨y7, y8, rfl, sE⟩
    have s9E := s13D.trans sE
    refine ⟨_, rfl, S0, _, rfl, .inl ⟨SqL.of (s9E _ _ hS13), fun t1 nt1 => ?_⟩⟩
    have e1 := tupTr (K := K) (hxs13.mono (.of s9E)) nt1
    have st1 := same_new nt1 (.tup xs)
    refine ⟨_, rfl, (by show 1 ≤ sizeLine; decide), fun t2 nt2 => ?_⟩
    have e2 := tupTr (K := K) (.cons (tw13.mono (.of (s9E.trans st1))) .nil) nt2
    have st2 := same_new nt2 (.tup [wv])
    refine ⟨_, rfl, R, _, rfl, .inl ⟨SqL.of ((s9E.trans (st1.trans st2)) _ _ hR13), fun t3 nt3 => ?_⟩⟩
    have st3 := same_new nt3 (.tup ys)
    have e3 := tupTr (K := K) (hys13.mono (.of (s9E.trans (st1.trans st2)))) nt3
    refine catTr (e2.mono (.of st3)) e3 (by show 1 + rs.length ≤ _; omega) fun r4 HF sF h4 => ?_
    refine ⟨(by show 2 ≤ sizeLine; decide), fun st nst => ?_⟩
    have sst := same_new nst (.tup [V.ref t1, r4])
    have hst := tupTr (K := K) (.cons (e1.mono (.of ((st2.trans st3).trans sF))) (.cons h4 .nil)) nst
    have s9F := s9E.trans ((((st1.trans st2).trans st3).trans sF).trans sst)
    refine ⟨_, rfl, _, b, bv, bs, wd, ds, rs, l, ah, k, rfl, hst, TKs.of s9F _ _ hb13, hB13.mono (.of s9F), both.ef, by omega, by omega, both.ll, both.la, fun r5 HG sG h5 => ?_⟩
    have h5' : Tr K HG r5 (DS (ds.take (ds.length - k) ++ l) ah rs) := h5
    obtain ⟨a5, z5, rfl, ha5, hz5⟩ := h5.tupD
    have sDG := sE.trans (((((st1.trans st2).trans st3).trans sF).trans sst).trans sG)
    refine ⟨_, rfl, _, _, _, _, true, rfl, .ty _, tyTup ha5, kit_ty (r := true) (by decide +kernel), _, rfl, iteF ?_⟩
    have hdu' := TKs.of (K := K) sDG _ _ hdu
    obtain ⟨as, hA1, hA2⟩ := hA.same sDG
    obtain ⟨cs, hC1, hC2⟩ := hC.same sDG
    refine ⟨_, rfl, _, rfl, du, _, 0, _, rfl, rfl, hdu', atI_nat (j := 0) rfl, A6, _, rfl, .inl ⟨SqL.of hA1, fun t6 nt6 => ?_⟩⟩
    have st6 := same_new nt6 (.tup as)
    have e6 := tupTr (K := K) hA2 nt6
    refine ⟨_, rfl, du, _, 1, _, rfl, rfl, TKs.of st6 _ _ hdu', atI_nat (j := 1) rfl, C6, _, rfl, .inl ⟨SqL.of (st6 _ _ hC1), fun t7 nt7 => ?_⟩⟩
    have st7 := same_new nt7 (.tup cs)
    have e7 := tupTr (K := K) (hC2.mono (.of st6)) nt7
    refine ⟨(by show 2 ≤ sizeLine; decide), fun t8 nt8 => ?_⟩
    have st8 := same_new nt8 (.tup [V.ref t6, V.ref t7])
    have e8 : Tr K _ (.ref t8) (DS (ds.take (ds.length - k) ++ l) ah rs) := tupTr (K := K) (.cons (e6.mono (.of st7)) (.cons e7 .nil)) nt8
    refine ⟨_, _, (h5'.mono (.of ((st6.trans st7).trans st8))).dp, e8.dp, shp, shp, _, rfl, ?_⟩
    rw [SeqAt.eqv_refl _ lay]
    exact iteF ⟨_, _, rfl, sDG.trans ((st6.trans st7).trans st8)⟩
  · rintro σ' HE ⟨y7, y8, rfl, sE⟩
    have s9E := s13D.trans sE
    exact ⟨_, _, _, _, _, _, rfl, s9E _ _ hWL13, tws13.mono (.of s9E), TKs.of s9E _ _ hb13, hB13.mono (.of s9E), D13.same s9E⟩
end
end K10
namespace K10
open PySem PySem.W L2 SX Cm
theorem all_size {P : Program} {w : World} {K : PySem.W.Frag} {mg : Str → Option Value} {base : Heap} {f : Addr} {fd : FuncData} (F : Fun K "_law_size" "_law_size" sSize f fd) (bG : L2.Binds K fd ["_law_things"] []) (kG : keepIn K (.ref f) = true) (mG : mg "_law_size" = some (.ref f)) (mlen : mg "len" = none) (misi : mg "isinstance" = none) (mtup : mg "tuple" = none) :
    ∀ k, FnOk P w K mg base CX0 (k + 1) f fd ["_law_things"] (spSize K k)
  | 0 => ok_size0 F
  | k + 1 => ok_sizeS F (all_size F bG kG mG mlen misi mtup k) bG kG mG mlen misi mtup
theorem all_things {P : Program} {w : World} {K : PySem.W.Frag} {mg : Str → Option Value} {base : Heap} {g gn gs gc ft fa : Addr} {gd gnd gsd gcd ftd fad : FuncData}
    (G : FnOk P w K mg base CX0 2 g gd ["_law_deck_here", "_law_most"] spDraw) (bG : L2.Binds K gd ["_law_deck_here", "_law_most"] []) (kG : keepIn K (.ref g) = true) (mG : mg "_law_draw" = some (.ref g))
    (N : FnOk P w K mg base CX0 3 gn gnd ["_law_deck_here"] spNumber) (bN : L2.Binds K gnd ["_law_deck_here"] []) (kN : keepIn K (.ref gn) = true) (mN : mg "_law_number" = some (.ref gn))
    (Z : FnOk P w K mg base CX0 3 gs gsd ["_law_deck_here", "_law_most"] spShuffle) (bZ : L2.Binds K gsd ["_law_deck_here", "_law_most"] []) (kZ : keepIn K (.ref gs) = true) (mZ : mg "_law_shuffle" = some (.ref gs))
    (C : FnOk P w K mg base CX0 12 gc gcd ["_law_words", "_law_most"] (spCut K)) (bC : L2.Binds K gcd ["_law_words", "_law_most"] []) (kC : keepIn K (.ref gc) = true) (mC : mg "_law_cut" = some (.ref gc))
    (FT : Fun K "_law_thing" "_law_thing" sThing ft ftd) (bT : L2.Binds K ftd A2 []) (kT : keepIn K (.ref ft) = true) (mT : mg "_law_thing" = some (.ref ft))
    (FA : Fun K "_law_any_word" "_law_any_word" sAnyWord fa fad) (bA : L2.Binds K fad A2 []) (kA : keepIn K (.ref fa) = true) (mA : mg "_law_any_word" = some (.ref fa))
    (mrange : mg "range" = none) (mtup : mg "tuple" = none) :
    ∀ k, FnOk P w K mg base CX0 (13 + 2 * k) ft ftd A2 (spThing K k) ∧ FnOk P w K mg base CX0 (13 + 2 * k + 1) fa fad A2 (spAny K k)
  | 0 => ⟨ok_thing0 FT, ok_any (k := 0) FA G bG kG mG (ok_thing0 FT) bT kT mT Z bZ kZ mZ⟩
  | k + 1 => by
    obtain ⟨t, a⟩ := all_things G bG kG mG N bN kN mN Z bZ kZ mZ C bC kC mC FT bT kT mT FA bA kA mA mrange mtup k
    have t' : FnOk P w K mg base CX0 (13 + 2 * (k + 1)) ft ftd A2 (spThing K (k + 1)) := ok_thing FT G bG kG mG N bN kN mN a bA kA mA t bT kT mT C bC kC mC mrange mtup
    exact ⟨t', ok_any FA G bG kG mG t' bT kT mT Z bZ kZ mZ⟩
theorem cof_five {z : Str} {g : Deed} (h : cOf z = some g) : z ∈ [(("do" : Str)), "dip", "if", "while", "repeat"] := lookup_fst h
theorem all_mk {l : PySem.W.OpenLaw} {w : World} {K : PySem.W.Frag} {h : Heap} {mg : Str → Option Value} {fa f1 f2 f3 f4 f5 f6 f7 f8 f9 f10 f11 f12 f13 f14 f15 f16 f17 f18 f19 f20 f21 f22 f23 f24 f25 f26 f27 f28 f29 f30 f31 f32 : Addr} {es es2 : Array DictEntry} {n n2 nT : Nat} {fs T : Addr} {ods ans odT : Option Addr} {sls slT : Array (Option Value)} {ocs kVs dcs pms cds cts ocT : Value} (X : K.In h) (G : h.Ns mainGlobals mg) (hfa : mg "law" = some (.ref fa))
    {od1 an1 od2 an2 od3 an3 od4 an4 od5 an5 od6 an6 od7 an7 od8 an8 od9 an9 od10 an10 od11 an11 od12 an12 od13 an13 od14 an14 od15 an15 od16 an16 od17 an17 od18 an18 od19 an19 od20 an20 od21 an21 od22 an22 od23 an23 od24 an24 od25 an25 od26 an26 od27 an27 od28 an28 od29 an29 od30 an30 od31 an31 od32 an32 : Option Addr} {sl1 sl2 sl3 sl4 sl5 sl6 sl7 sl8 sl9 sl10 sl11 sl12 sl13 sl14 sl15 sl16 sl17 sl18 sl19 sl20 sl21 sl22 sl23 sl24 sl25 sl26 sl27 sl28 sl29 sl30 sl31 sl32 : Array (Option Value)} {oc1 kV1 dc1 pm1 cd1 ct1 oc2 kV2 dc2 pm2 cd2 ct2 oc3 kV3 dc3 pm3 cd3 ct3 oc4 kV4 dc4 pm4 cd4 ct4 oc5 kV5 dc5 pm5 cd5 ct5 oc6 kV6 dc6 pm6 cd6 ct6 oc7 kV7 dc7 pm7 cd7 ct7 oc8 kV8 dc8 pm8 cd8 ct8 oc9 kV9 dc9 pm9 cd9 ct9 oc10 kV10 dc10 pm10 cd10 ct10 oc11 kV11 dc11 pm11 cd11 ct11 oc12 kV12 dc12 pm12 cd12 ct12 oc13 kV13 dc13 pm13 cd13 ct13 oc14 kV14 dc14 pm14 cd14 ct14 oc15 kV15 dc15 pm15 cd15 ct15 oc16 kV16 dc16 pm16 cd16 ct16 oc17 kV17 dc17 pm17 cd17 ct17 oc18 kV18 dc18 pm18 cd18 ct18 oc19 kV19 dc19 pm19 cd19 ct19 oc20 kV20 dc20 pm20 cd20 ct20 oc21 kV21 dc21 pm21 cd21 ct21 oc22 kV22 dc22 pm22 cd22 ct22 oc23 kV23 dc23 pm23 cd23 ct23 oc24 kV24 dc24 pm24 cd24 ct24 oc25 kV25 dc25 pm25 cd25 ct25 oc26 kV26 dc26 pm26 cd26 ct26 oc27 kV27 dc27 pm27 cd27 ct27 oc28 kV28 dc28 pm28 cd28 ct28 oc29 kV29 dc29 pm29 cd29 ct29 oc30 kV30 dc30 pm30 cd30 ct30 oc31 kV31 dc31 pm31 cd31 ct31 oc32 kV32 dc32 pm32 cd32 ct32 : Value}
    (a1 : PySem.W.nsIn K mainGlobals "is_basic" = some (some (.ref f1))) (l1 : K.lookup f1 = some ⟨oc1, od1, .func (PySem.W.fnOf "is_basic" "is_basic" (defArgs sIsBasic) (defBody sIsBasic) (defScope sIsBasic) .none kV1 dc1 pm1 an1 cd1 ct1), sl1⟩) (c1 : PySem.W.codeIn K cd1 "is_basic" = true) (k1 : PySem.W.keepIn K (.ref f1) = true)
    (a2 : PySem.W.nsIn K mainGlobals "push_row" = some (some (.ref f2))) (l2 : K.lookup f2 = some ⟨oc2, od2, .func (PySem.W.fnOf "push_row" "push_row" (defArgs sPushRow) (defBody sPushRow) (defScope sPushRow) .none kV2 dc2 pm2 an2 cd2 ct2), sl2⟩) (c2 : PySem.W.codeIn K cd2 "push_row" = true) (k2 : PySem.W.keepIn K (.ref f2) = true)
    (a3 : PySem.W.nsIn K mainGlobals "do_does" = some (some (.ref f3))) (l3 : K.lookup f3 = some ⟨oc3, od3, .func (PySem.W.fnOf "do_does" "do_does" (defArgs sDo) (defBody sDo) (defScope sDo) .none kV3 dc3 pm3 an3 cd3 ct3), sl3⟩) (c3 : PySem.W.codeIn K cd3 "do_does" = true) (k3 : PySem.W.keepIn K (.ref f3) = true)
    (a4 : PySem.W.nsIn K mainGlobals "dip_does" = some (some (.ref f4))) (l4 : K.lookup f4 = some ⟨oc4, od4, .func (PySem.W.fnOf "dip_does" "dip_does" (defArgs sDip) (defBody sDip) (defScope sDip) .none kV4 dc4 pm4 an4 cd4 ct4), sl4⟩) (c4 : PySem.W.codeIn K cd4 "dip_does" = true) (k4 : PySem.W.keepIn K (.ref f4) = true)
    (a5 : PySem.W.nsIn K mainGlobals "if_does" = some (some (.ref f5))) (l5 : K.lookup f5 = some ⟨oc5, od5, .func (PySem.W.fnOf "if_does" "if_does" (defArgs sIf) (defBody sIf) (defScope sIf) .none kV5 dc5 pm5 an5 cd5 ct5), sl5⟩) (c5 : PySem.W.codeIn K cd5 "if_does" = true) (k5 : PySem.W.keepIn K (.ref f5) = true)
    (a6 : PySem.W.nsIn K mainGlobals "while_does" = some (some (.ref f6))) (l6 : K.lookup f6 = some ⟨oc6, od6, .func (PySem.W.fnOf "while_does" "while_does" (defArgs sWhile) (defBody sWhile) (defScope sWhile) .none kV6 dc6 pm6 an6 cd6 ct6), sl6⟩) (c6 : PySem.W.codeIn K cd6 "while_does" = true) (k6 : PySem.W.keepIn K (.ref f6) = true)
    (a7 : PySem.W.nsIn K mainGlobals "repeat_does" = some (some (.ref f7))) (l7 : K.lookup f7 = some ⟨oc7, od7, .func (PySem.W.fnOf "repeat_does" "repeat_does" (defArgs sRepeat) (defBody sRepeat) (defScope sRepeat) .none kV7 dc7 pm7 an7 cd7 ct7), sl7⟩) (c7 : PySem.W.codeIn K cd7 "repeat_does" = true) (k7 : PySem.W.keepIn K (.ref f7) = true)
    (a8 : PySem.W.nsIn K mainGlobals "effect_of" = some (some (.ref f8))) (l8 : K.lookup f8 = some ⟨oc8, od8, .func (PySem.W.fnOf "effect_of" "effect_of" (defArgs sEffect) (defBody sEffect) (defScope sEffect) .none kV8 dc8 pm8 an8 cd8 ct8), sl8⟩) (c8 : PySem.W.codeIn K cd8 "effect_of" = true) (k8 : PySem.W.keepIn K (.ref f8) = true)
    (a9 : PySem.W.nsIn K mainGlobals "effect_of_basic" = some (some (.ref f9))) (l9 : K.lookup f9 = some ⟨oc9, od9, .func (PySem.W.fnOf "effect_of_basic" "effect_of_basic" (defArgs sEffBasic) (defBody sEffBasic) (defScope sEffBasic) .none kV9 dc9 pm9 an9 cd9 ct9), sl9⟩) (c9 : PySem.W.codeIn K cd9 "effect_of_basic" = true) (k9 : PySem.W.keepIn K (.ref f9) = true)
    (a10 : PySem.W.nsIn K mainGlobals "top_of" = some (some (.ref f10))) (l10 : K.lookup f10 = some ⟨oc10, od10, .func (PySem.W.fnOf "top_of" "top_of" (defArgs sTopOf) (defBody sTopOf) (defScope sTopOf) .none kV10 dc10 pm10 an10 cd10 ct10), sl10⟩) (c10 : PySem.W.codeIn K cd10 "top_of" = true) (k10 : PySem.W.keepIn K (.ref f10) = true)
    (a11 : PySem.W.nsIn K mainGlobals "held_as" = some (some (.ref f11))) (l11 : K.lookup f11 = some ⟨oc11, od11, .func (PySem.W.fnOf "held_as" "held_as" (defArgs sHeldAs) (defBody sHeldAs) (defScope sHeldAs) .none kV11 dc11 pm11 an11 cd11 ct11), sl11⟩) (c11 : PySem.W.codeIn K cd11 "held_as" = true) (k11 : PySem.W.keepIn K (.ref f11) = true)
    (a12 : PySem.W.nsIn K mainGlobals "_law_mixed" = some (some (.ref f12))) (l12 : K.lookup f12 = some ⟨oc12, od12, .func (PySem.W.fnOf "_law_mixed" "_law_mixed" (defArgs sMixed) (defBody sMixed) (defScope sMixed) .none kV12 dc12 pm12 an12 cd12 ct12), sl12⟩) (c12 : PySem.W.codeIn K cd12 "_law_mixed" = true) (k12 : PySem.W.keepIn K (.ref f12) = true)
    (a13 : PySem.W.nsIn K mainGlobals "_law_deck" = some (some (.ref f13))) (l13 : K.lookup f13 = some ⟨oc13, od13, .func (PySem.W.fnOf "_law_deck" "_law_deck" (defArgs sDeck) (defBody sDeck) (defScope sDeck) .none kV13 dc13 pm13 an13 cd13 ct13), sl13⟩) (c13 : PySem.W.codeIn K cd13 "_law_deck" = true) (k13 : PySem.W.keepIn K (.ref f13) = true)
    (a14 : PySem.W.nsIn K mainGlobals "_law_draw" = some (some (.ref f14))) (l14 : K.lookup f14 = some ⟨oc14, od14, .func (PySem.W.fnOf "_law_draw" "_law_draw" (defArgs sDraw) (defBody sDraw) (defScope sDraw) .none kV14 dc14 pm14 an14 cd14 ct14), sl14⟩) (c14 : PySem.W.codeIn K cd14 "_law_draw" = true) (k14 : PySem.W.keepIn K (.ref f14) = true)
    (a15 : PySem.W.nsIn K mainGlobals "_law_size" = some (some (.ref f15))) (l15 : K.lookup f15 = some ⟨oc15, od15, .func (PySem.W.fnOf "_law_size" "_law_size" (defArgs sSize) (defBody sSize) (defScope sSize) .none kV15 dc15 pm15 an15 cd15 ct15), sl15⟩) (c15 : PySem.W.codeIn K cd15 "_law_size" = true) (k15 : PySem.W.keepIn K (.ref f15) = true)
    (a16 : PySem.W.nsIn K mainGlobals "_law_cut" = some (some (.ref f16))) (l16 : K.lookup f16 = some ⟨oc16, od16, .func (PySem.W.fnOf "_law_cut" "_law_cut" (defArgs sCut) (defBody sCut) (defScope sCut) .none kV16 dc16 pm16 an16 cd16 ct16), sl16⟩) (c16 : PySem.W.codeIn K cd16 "_law_cut" = true) (k16 : PySem.W.keepIn K (.ref f16) = true)
    (a17 : PySem.W.nsIn K mainGlobals "_law_number" = some (some (.ref f17))) (l17 : K.lookup f17 = some ⟨oc17, od17, .func (PySem.W.fnOf "_law_number" "_law_number" (defArgs sNumber) (defBody sNumber) (defScope sNumber) .none kV17 dc17 pm17 an17 cd17 ct17), sl17⟩) (c17 : PySem.W.codeIn K cd17 "_law_number" = true) (k17 : PySem.W.keepIn K (.ref f17) = true)
    (a18 : PySem.W.nsIn K mainGlobals "_law_thing" = some (some (.ref f18))) (l18 : K.lookup f18 = some ⟨oc18, od18, .func (PySem.W.fnOf "_law_thing" "_law_thing" (defArgs sThing) (defBody sThing) (defScope sThing) .none kV18 dc18 pm18 an18 cd18 ct18), sl18⟩) (c18 : PySem.W.codeIn K cd18 "_law_thing" = true) (k18 : PySem.W.keepIn K (.ref f18) = true)
    (a19 : PySem.W.nsIn K mainGlobals "_law_shuffle" = some (some (.ref f19))) (l19 : K.lookup f19 = some ⟨oc19, od19, .func (PySem.W.fnOf "_law_shuffle" "_law_shuffle" (defArgs sShuffle) (defBody sShuffle) (defScope sShuffle) .none kV19 dc19 pm19 an19 cd19 ct19), sl19⟩) (c19 : PySem.W.codeIn K cd19 "_law_shuffle" = true) (k19 : PySem.W.keepIn K (.ref f19) = true)
    (a20 : PySem.W.nsIn K mainGlobals "_law_any_word" = some (some (.ref f20))) (l20 : K.lookup f20 = some ⟨oc20, od20, .func (PySem.W.fnOf "_law_any_word" "_law_any_word" (defArgs sAnyWord) (defBody sAnyWord) (defScope sAnyWord) .none kV20 dc20 pm20 an20 cd20 ct20), sl20⟩) (c20 : PySem.W.codeIn K cd20 "_law_any_word" = true) (k20 : PySem.W.keepIn K (.ref f20) = true)
    (a21 : PySem.W.nsIn K mainGlobals "_law_row_deed" = some (some (.ref f21))) (l21 : K.lookup f21 = some ⟨oc21, od21, .func (PySem.W.fnOf "_law_row_deed" "_law_row_deed" (defArgs sRowDeed) (defBody sRowDeed) (defScope sRowDeed) .none kV21 dc21 pm21 an21 cd21 ct21), sl21⟩) (c21 : PySem.W.codeIn K cd21 "_law_row_deed" = true) (k21 : PySem.W.keepIn K (.ref f21) = true)
    (a22 : PySem.W.nsIn K mainGlobals "_law_kinds" = some (some (.ref f22))) (l22 : K.lookup f22 = some ⟨oc22, od22, .func (PySem.W.fnOf "_law_kinds" "_law_kinds" (defArgs sKinds) (defBody sKinds) (defScope sKinds) .none kV22 dc22 pm22 an22 cd22 ct22), sl22⟩) (c22 : PySem.W.codeIn K cd22 "_law_kinds" = true) (k22 : PySem.W.keepIn K (.ref f22) = true)
    (a23 : PySem.W.nsIn K mainGlobals "_law_fit" = some (some (.ref f23))) (l23 : K.lookup f23 = some ⟨oc23, od23, .func (PySem.W.fnOf "_law_fit" "_law_fit" (defArgs sFit) (defBody sFit) (defScope sFit) .none kV23 dc23 pm23 an23 cd23 ct23), sl23⟩) (c23 : PySem.W.codeIn K cd23 "_law_fit" = true) (k23 : PySem.W.keepIn K (.ref f23) = true)
    (a24 : PySem.W.nsIn K mainGlobals "_law_step" = some (some (.ref f24))) (l24 : K.lookup f24 = some ⟨oc24, od24, .func (PySem.W.fnOf "_law_step" "_law_step" (defArgs sLStep) (defBody sLStep) (defScope sLStep) .none kV24 dc24 pm24 an24 cd24 ct24), sl24⟩) (c24 : PySem.W.codeIn K cd24 "_law_step" = true) (k24 : PySem.W.keepIn K (.ref f24) = true)
    (a25 : PySem.W.nsIn K mainGlobals "_law_things_for" = some (some (.ref f25))) (l25 : K.lookup f25 = some ⟨oc25, od25, .func (PySem.W.fnOf "_law_things_for" "_law_things_for" (defArgs sFor) (defBody sFor) (defScope sFor) .none kV25 dc25 pm25 an25 cd25 ct25), sl25⟩) (c25 : PySem.W.codeIn K cd25 "_law_things_for" = true) (k25 : PySem.W.keepIn K (.ref f25) = true)
    (a26 : PySem.W.nsIn K mainGlobals "_law_book" = some (some (.ref f26))) (l26 : K.lookup f26 = some ⟨oc26, od26, .func (PySem.W.fnOf "_law_book" "_law_book" (defArgs sBook) (defBody sBook) (defScope sBook) .none kV26 dc26 pm26 an26 cd26 ct26), sl26⟩) (c26 : PySem.W.codeIn K cd26 "_law_book" = true) (k26 : PySem.W.keepIn K (.ref f26) = true)
    (a27 : PySem.W.nsIn K mainGlobals "number_thing" = some (some (.ref f27))) (l27 : K.lookup f27 = some ⟨oc27, od27, .func (PySem.W.fnOf "number_thing" "number_thing" (defArgs sNumThing) (defBody sNumThing) (defScope sNumThing) .none kV27 dc27 pm27 an27 cd27 ct27), sl27⟩) (c27 : PySem.W.codeIn K cd27 "number_thing" = true) (k27 : PySem.W.keepIn K (.ref f27) = true)
    (a28 : PySem.W.nsIn K mainGlobals "is_shuffle" = some (some (.ref f28))) (l28 : K.lookup f28 = some ⟨oc28, od28, .func (PySem.W.fnOf "is_shuffle" "is_shuffle" (defArgs K10P.sIsSh) (defBody K10P.sIsSh) (defScope K10P.sIsSh) .none kV28 dc28 pm28 an28 cd28 ct28), sl28⟩) (c28 : PySem.W.codeIn K cd28 "is_shuffle" = true) (k28 : PySem.W.keepIn K (.ref f28) = true)
    (a29 : PySem.W.nsIn K mainGlobals "taken_left" = some (some (.ref f29))) (l29 : K.lookup f29 = some ⟨oc29, od29, .func (PySem.W.fnOf "taken_left" "taken_left" (defArgs K10P.sTaken) (defBody K10P.sTaken) (defScope K10P.sTaken) .none kV29 dc29 pm29 an29 cd29 ct29), sl29⟩) (c29 : PySem.W.codeIn K cd29 "taken_left" = true) (k29 : PySem.W.keepIn K (.ref f29) = true)
    (a30 : PySem.W.nsIn K mainGlobals "effect_of_shuffle" = some (some (.ref f30))) (l30 : K.lookup f30 = some ⟨oc30, od30, .func (PySem.W.fnOf "effect_of_shuffle" "effect_of_shuffle" (defArgs sEffShuf) (defBody sEffShuf) (defScope sEffShuf) .none kV30 dc30 pm30 an30 cd30 ct30), sl30⟩) (c30 : PySem.W.codeIn K cd30 "effect_of_shuffle" = true) (k30 : PySem.W.keepIn K (.ref f30) = true)
    (a31 : PySem.W.nsIn K mainGlobals "row_told" = some (some (.ref f31))) (l31 : K.lookup f31 = some ⟨oc31, od31, .func (PySem.W.fnOf "row_told" "row_told" (defArgs sRowTold) (defBody sRowTold) (defScope sRowTold) .none kV31 dc31 pm31 an31 cd31 ct31), sl31⟩) (c31 : PySem.W.codeIn K cd31 "row_told" = true) (k31 : PySem.W.keepIn K (.ref f31) = true)
    (a32 : PySem.W.nsIn K mainGlobals "law" = some (some (.ref f32))) (l32 : K.lookup f32 = some ⟨oc32, od32, .func (PySem.W.fnOf "law" "law" (defArgs sLaw) (defBody sLaw) (defScope sLaw) .none kV32 dc32 pm32 an32 cd32 ct32), sl32⟩) (c32 : PySem.W.codeIn K cd32 "law" = true) (k32 : PySem.W.keepIn K (.ref f32) = true)
    (z_len : PySem.W.nsIn K mainGlobals "len" = some none)
    (z_list : PySem.W.nsIn K mainGlobals "list" = some none)
    (z_sum : PySem.W.nsIn K mainGlobals "sum" = some none)
    (z_range : PySem.W.nsIn K mainGlobals "range" = some none)
    (z_isinstance : PySem.W.nsIn K mainGlobals "isinstance" = some none)
    (z_tuple : PySem.W.nsIn K mainGlobals "tuple" = some none)
    (z_int : PySem.W.nsIn K mainGlobals "int" = some none)
    (z_zip : PySem.W.nsIn K mainGlobals "zip" = some none)
    (z_str : PySem.W.nsIn K mainGlobals "str" = some none)
    (z_all : PySem.W.nsIn K mainGlobals "all" = some none)
    {d : Addr} (g_SORTS_TAKEN : PySem.W.nsIn K mainGlobals "SORTS_TAKEN" = some (some (.ref d)))
    {dd : Addr} (g_DOES : PySem.W.nsIn K mainGlobals "DOES" = some (some (.ref dd)))
    {tN : Tok} (g_NUMBERS : PySem.W.nsIn K mainGlobals "NUMBERS" = some (some (.int 1000000000000 tN)))
    {tL : Tok} (g_LETTERS : PySem.W.nsIn K mainGlobals "LETTERS" = some (some (.str "abcdefgh" tL)))
    {tM : Tok} (g_MOST_LEFT : PySem.W.nsIn K mainGlobals "MOST_LEFT" = some (some (.int 12 tM)))
    (xt : K.lookup d = some ⟨.type "dict", none, .dict es n, #[]⟩)
    (xk : PySem.W.KeysLit w.params es.toList)
    (xs : (d == sysModules) = false)
    (xx : kTab K es.toList = some Cm.table)
    (yt : K.lookup dd = some ⟨.type "dict", none, .dict es2 n2, #[]⟩)
    (yk : PySem.W.KeysLit w.params es2.toList)
    (y1 : PySem.W.nsIn K dd "do" = some (some (.ref f3)))
    (y2 : PySem.W.nsIn K dd "dip" = some (some (.ref f4)))
    (y3 : PySem.W.nsIn K dd "if" = some (some (.ref f5)))
    (y4 : PySem.W.nsIn K dd "while" = some (some (.ref f6)))
    (y5 : PySem.W.nsIn K dd "repeat" = some (some (.ref f7)))
    (sa : PySem.W.nsIn K mainGlobals "step" = some (some (.ref fs)))
    (sl : K.lookup fs = some ⟨ocs, ods, .func (PySem.W.fnOf "step" "step" (defArgs sStep) (defBody sStep) (defScope sStep) (.ref T) kVs dcs pms ans cds cts), sls⟩)
    (sc : PySem.W.codeIn K cds "step" = true)
    (sk : PySem.W.keepIn K (.ref fs) = true)
    (sT : K.lookup T = some ⟨ocT, odT, .seq #[Value.none] nT, slT⟩)
    : ∃ fd : FuncData, (∀ (s : Shared) (v : Value), BindsTo s fd ⟨[v], []⟩ [("_law_script", v)]) ∧ ∀ base : Heap, K.In base → base.Ns mainGlobals mg → FnOk l.prog w K mg base CX0 22 fa fd ["_law_script"] (spLaw K) := by
  have e := hfa.symm.trans (PySem.W.mg_of X G a32)
  cases e
  have F1 := fun_mk (st := sIsBasic) l1 c1 k1
  have b1 := F1.binds (ps := ["text"]) fun _ _ _ _ _ _ us hl => match us, hl with | [_], _ => rfl
  have m1 := PySem.W.mg_of X G a1
  have F2 := fun_mk (st := sPushRow) l2 c2 k2
  have b2 := F2.binds (ps := ["row"]) fun _ _ _ _ _ _ us hl => match us, hl with | [_], _ => rfl
  have m2 := PySem.W.mg_of X G a2
  have F3 := fun_mk (st := sDo) l3 c3 k3
  have b3 := F3.binds (ps := ["held"]) fun _ _ _ _ _ _ us hl => match us, hl with | [_], _ => rfl
  have m3 := PySem.W.mg_of X G a3
  have F4 := fun_mk (st := sDip) l4 c4 k4
  have b4 := F4.binds (ps := ["held"]) fun _ _ _ _ _ _ us hl => match us, hl with | [_], _ => rfl
  have m4 := PySem.W.mg_of X G a4
  have F5 := fun_mk (st := sIf) l5 c5 k5
  have b5 := F5.binds (ps := ["held"]) fun _ _ _ _ _ _ us hl => match us, hl with | [_], _ => rfl
  have m5 := PySem.W.mg_of X G a5
  have F6 := fun_mk (st := sWhile) l6 c6 k6
  have b6 := F6.binds (ps := ["held"]) fun _ _ _ _ _ _ us hl => match us, hl with | [_], _ => rfl
  have m6 := PySem.W.mg_of X G a6
  have F7 := fun_mk (st := sRepeat) l7 c7 k7
  have b7 := F7.binds (ps := ["held"]) fun _ _ _ _ _ _ us hl => match us, hl with | [_], _ => rfl
  have m7 := PySem.W.mg_of X G a7
  have F8 := fun_mk (st := sEffect) l8 c8 k8
  have b8 := F8.binds (ps := ["word", "stack", "book"]) fun _ _ _ _ _ _ us hl => match us, hl with | [_, _, _], _ => rfl
  have m8 := PySem.W.mg_of X G a8
  have F9 := fun_mk (st := sEffBasic) l9 c9 k9
  have b9 := F9.binds (ps := ["word", "stack"]) fun _ _ _ _ _ _ us hl => match us, hl with | [_, _], _ => rfl
  have m9 := PySem.W.mg_of X G a9
  have F10 := fun_mk (st := sTopOf) l10 c10 k10
  have b10 := F10.binds (ps := ["stack", "many"]) fun _ _ _ _ _ _ us hl => match us, hl with | [_, _], _ => rfl
  have m10 := PySem.W.mg_of X G a10
  have F11 := fun_mk (st := sHeldAs) l11 c11 k11
  have b11 := F11.binds (ps := ["sort", "thing"]) fun _ _ _ _ _ _ us hl => match us, hl with | [_, _], _ => rfl
  have m11 := PySem.W.mg_of X G a11
  have F12 := fun_mk (st := sMixed) l12 c12 k12
  have b12 := F12.binds (ps := ["_law_number_here"]) fun _ _ _ _ _ _ us hl => match us, hl with | [_], _ => rfl
  have m12 := PySem.W.mg_of X G a12
  have F13 := fun_mk (st := sDeck) l13 c13 k13
  have b13 := F13.binds (ps := ["_law_script", "_law_most"]) fun _ _ _ _ _ _ us hl => match us, hl with | [_, _], _ => rfl
  have m13 := PySem.W.mg_of X G a13
  have F14 := fun_mk (st := sDraw) l14 c14 k14
  have b14 := F14.binds (ps := ["_law_deck_here", "_law_most"]) fun _ _ _ _ _ _ us hl => match us, hl with | [_, _], _ => rfl
  have m14 := PySem.W.mg_of X G a14
  have F15 := fun_mk (st := sSize) l15 c15 k15
  have b15 := F15.binds (ps := ["_law_things"]) fun _ _ _ _ _ _ us hl => match us, hl with | [_], _ => rfl
  have m15 := PySem.W.mg_of X G a15
  have F16 := fun_mk (st := sCut) l16 c16 k16
  have b16 := F16.binds (ps := ["_law_words", "_law_most"]) fun _ _ _ _ _ _ us hl => match us, hl with | [_, _], _ => rfl
  have m16 := PySem.W.mg_of X G a16
  have F17 := fun_mk (st := sNumber) l17 c17 k17
  have b17 := F17.binds (ps := ["_law_deck_here"]) fun _ _ _ _ _ _ us hl => match us, hl with | [_], _ => rfl
  have m17 := PySem.W.mg_of X G a17
  have F18 := fun_mk (st := sThing) l18 c18 k18
  have b18 := F18.binds (ps := ["_law_deck_here", "_law_deep"]) fun _ _ _ _ _ _ us hl => match us, hl with | [_, _], _ => rfl
  have m18 := PySem.W.mg_of X G a18
  have F19 := fun_mk (st := sShuffle) l19 c19 k19
  have b19 := F19.binds (ps := ["_law_deck_here", "_law_most"]) fun _ _ _ _ _ _ us hl => match us, hl with | [_, _], _ => rfl
  have m19 := PySem.W.mg_of X G a19
  have F20 := fun_mk (st := sAnyWord) l20 c20 k20
  have b20 := F20.binds (ps := ["_law_deck_here", "_law_deep"]) fun _ _ _ _ _ _ us hl => match us, hl with | [_, _], _ => rfl
  have m20 := PySem.W.mg_of X G a20
  have F21 := fun_mk (st := sRowDeed) l21 c21 k21
  have b21 := F21.binds (ps := ["_law_word", "_law_things"]) fun _ _ _ _ _ _ us hl => match us, hl with | [_, _], _ => rfl
  have m21 := PySem.W.mg_of X G a21
  have F22 := fun_mk (st := sKinds) l22 c22 k22
  have b22 := F22.binds (ps := ["_law_word"]) fun _ _ _ _ _ _ us hl => match us, hl with | [_], _ => rfl
  have m22 := PySem.W.mg_of X G a22
  have F23 := fun_mk (st := sFit) l23 c23 k23
  have b23 := F23.binds (ps := ["_law_kind", "_law_thing_here"]) fun _ _ _ _ _ _ us hl => match us, hl with | [_, _], _ => rfl
  have m23 := PySem.W.mg_of X G a23
  have F24 := fun_mk (st := sLStep) l24 c24 k24
  have b24 := F24.binds (ps := ["_law_stack", "_law_todo", "_law_book_here"]) fun _ _ _ _ _ _ us hl => match us, hl with | [_, _, _], _ => rfl
  have m24 := PySem.W.mg_of X G a24
  have F25 := fun_mk (st := sFor) l25 c25 k25
  have b25 := F25.binds (ps := ["_law_deck_here", "_law_word"]) fun _ _ _ _ _ _ us hl => match us, hl with | [_, _], _ => rfl
  have m25 := PySem.W.mg_of X G a25
  have F26 := fun_mk (st := sBook) l26 c26 k26
  have b26 := F26.binds (ps := ["_law_deck_here"]) fun _ _ _ _ _ _ us hl => match us, hl with | [_], _ => rfl
  have m26 := PySem.W.mg_of X G a26
  have F27 := fun_mk (st := sNumThing) l27 c27 k27
  have b27 := F27.binds (ps := ["n"]) fun _ _ _ _ _ _ us hl => match us, hl with | [_], _ => rfl
  have m27 := PySem.W.mg_of X G a27
  have F28 := fun_mk (st := K10P.sIsSh) l28 c28 k28
  have b28 := F28.binds (ps := ["thing"]) fun _ _ _ _ _ _ us hl => match us, hl with | [_], _ => rfl
  have m28 := PySem.W.mg_of X G a28
  have F29 := fun_mk (st := K10P.sTaken) l29 c29 k29
  have b29 := F29.binds (ps := ["shuffle"]) fun _ _ _ _ _ _ us hl => match us, hl with | [_], _ => rfl
  have m29 := PySem.W.mg_of X G a29
  have F30 := fun_mk (st := sEffShuf) l30 c30 k30
  have b30 := F30.binds (ps := ["word", "stack"]) fun _ _ _ _ _ _ us hl => match us, hl with | [_, _], _ => rfl
  have m30 := PySem.W.mg_of X G a30
  have F31 := fun_mk (st := sRowTold) l31 c31 k31
  have b31 := F31.binds (ps := ["name", "book"]) fun _ _ _ _ _ _ us hl => match us, hl with | [_, _], _ => rfl
  have m31 := PySem.W.mg_of X G a31
  have F32 := fun_mk (st := sLaw) l32 c32 k32
  have y_len := PySem.W.mg_none_of X G z_len
  have y_list := PySem.W.mg_none_of X G z_list
  have y_sum := PySem.W.mg_none_of X G z_sum
  have y_range := PySem.W.mg_none_of X G z_range
  have y_isinstance := PySem.W.mg_none_of X G z_isinstance
  have y_tuple := PySem.W.mg_none_of X G z_tuple
  have y_int := PySem.W.mg_none_of X G z_int
  have y_zip := PySem.W.mg_none_of X G z_zip
  have y_str := PySem.W.mg_none_of X G z_str
  have y_all := PySem.W.mg_none_of X G z_all
  have v_SORTS_TAKEN := PySem.W.mg_of X G g_SORTS_TAKEN
  have v_DOES := PySem.W.mg_of X G g_DOES
  have v_NUMBERS := PySem.W.mg_of X G g_NUMBERS
  have v_LETTERS := PySem.W.mg_of X G g_LETTERS
  have v_MOST_LEFT := PySem.W.mg_of X G g_MOST_LEFT
  refine ⟨PySem.W.fnOf "law" "law" (defArgs sLaw) (defBody sLaw) (defScope sLaw) .none kV32 dc32 pm32 an32 cd32 ct32, fun s v => .of_eq rfl, fun base _ _ => ?_⟩
  have mN : ∃ t, mg "NUMBERS" = some (.int (10 ^ 12) t) := ⟨_, by rw [show ((10 : Int) ^ 12) = 1000000000000 by decide]; exact v_NUMBERS⟩
  have TS : K10P.TxtS mg := ⟨y_isinstance, y_str, y_len, y_all, ⟨_, v_LETTERS⟩, ⟨_, v_MOST_LEFT⟩⟩
  have TB : Tab K w mg d es n := ⟨⟨xt, xk, xs⟩, xx, v_SORTS_TAKEN⟩
  have O1 : FnOk l.prog w K mg base CX0 1 f1 _ ["text"] spBasic := ok_basic F1 TB
  have O2 : FnOk l.prog w K mg base CX0 1 f2 _ ["row"] (spPush K) := ok_push F2
  have O27 : FnOk l.prog w K mg base CX0 1 f27 _ ["n"] (spNumT K) := ok_numT F27 mN
  have O3 : FnOk l.prog w K mg base CX0 2 f3 _ ["held"] (spDo K cDo) := ok_do F3
  have O4 : FnOk l.prog w K mg base CX0 2 f4 _ ["held"] (spDo K cDip) := ok_dip F4
  have O5 : FnOk l.prog w K mg base CX0 2 f5 _ ["held"] (spDo K cIf) := ok_if F5
  have O6 : FnOk l.prog w K mg base CX0 2 f6 _ ["held"] (spDo K cWhile) := ok_while F6 O2 b2 k2 m2
  have O7 : FnOk l.prog w K mg base CX0 2 f7 _ ["held"] (spDo K cRepeat) := ok_repeat F7 O2 b2 k2 m2 O27 b27 k27 m27
  have O10 : FnOk l.prog w K mg base CX0 1 f10 _ ["stack", "many"] (spTop K) := ok_top F10 y_len
  have O11 : FnOk l.prog w K mg base CX0 1 f11 _ ["sort", "thing"] (spHeld K) := ok_held F11
  have hDo : ∀ z g, cOf z = some g → ∃ f, KDct K w dd z (.ref f) ∧ Held l.prog w K mg base 2 f (spDo K g) := fun z g hz => by
    have hf := cof_five hz
    simp only [List.mem_cons, List.not_mem_nil, or_false] at hf
    rcases hf with rfl | rfl | rfl | rfl | rfl
    · cases hz; exact ⟨f3, ⟨es2, n2, _, yt, yk, y1, rfl⟩, ⟨⟨_, _, O3, k3, b3⟩⟩⟩
    · cases hz; exact ⟨f4, ⟨es2, n2, _, yt, yk, y2, rfl⟩, ⟨⟨_, _, O4, k4, b4⟩⟩⟩
    · cases hz; exact ⟨f5, ⟨es2, n2, _, yt, yk, y3, rfl⟩, ⟨⟨_, _, O5, k5, b5⟩⟩⟩
    · cases hz; exact ⟨f6, ⟨es2, n2, _, yt, yk, y4, rfl⟩, ⟨⟨_, _, O6, k6, b6⟩⟩⟩
    · cases hz; exact ⟨f7, ⟨es2, n2, _, yt, yk, y5, rfl⟩, ⟨⟨_, _, O7, k7, b7⟩⟩⟩
  have O9 := ok_effB F9 TB hDo v_DOES O11 b11 k11 m11 O10 b10 k10 m10 y_len y_zip
  have O28 : FnOk l.prog w K mg base CX0 1 f28 _ ["thing"] K10P.spIsSh := K10P.ok_isSh F28 TS
  have O29 : FnOk l.prog w K mg base CX0 2 f29 _ ["shuffle"] (K10P.spTaken K) := K10P.ok_taken F29 TS y_tuple O28 b28 k28 m28
  have O30 := ok_effS F30 O29 b29 k29 m29 O10 b10 k10 m10 y_tuple
  have O31 : FnOk l.prog w K mg base CX0 1 f31 _ ["name", "book"] (spTold K) := ok_told F31
  have O8 := ok_eff F8 y_isinstance y_tuple O1 b1 k1 m1 O9 b9 k9 m9 O28 b28 k28 m28 O30 b30 k30 m30 O31 b31 k31 m31
  have FS : FunD K "step" "step" (defArgs sStep) (defBody sStep) (defScope sStep) [.non] [] fs (PySem.W.fnOf "step" "step" (defArgs sStep) (defBody sStep) (defScope sStep) (.ref T) kVs dcs pms ans cds cts) :=
    ⟨⟨_, _, _, _, _, _, _, _, _, _, rfl, sl, sc, .inr ⟨by decide, T, _, [Value.none], nT, rfl, sT, rfl, .cons rfl .nil⟩, .inl rfl⟩, sk⟩
  obtain ⟨dsS, vS, bS⟩ := FS.binds1 (ps := ["state", "book"]) 2 1 (by decide) rfl (fun T kV doc pm an cdv ct us its h1 h2 => match us, its, h1, h2 with | [_, _], [_], _, _ => ⟨_, rfl, rfl⟩)
  cases vS
  have mS := PySem.W.mg_of X G sa
  have OS := ok_step FS y_len O8 b8 k8 m8
  have O12 : FnOk l.prog w K mg base CX0 1 f12 _ ["_law_number_here"] spMixed := ok_mixed F12
  have O13 := ok_deck F13 O12 b12 k12 m12 y_list y_sum y_len
  have O14 := ok_draw F14 O12 b12 k12 m12
  have O15 := all_size (P := l.prog) (w := w) (mg := mg) (base := base) F15 b15 k15 m15 y_len y_isinstance y_tuple 10
  have O16 := ok_cut F16 O15 b15 k15 m15 y_tuple
  have O17 := ok_number F17 O14 b14 k14 m14
  have O19 := ok_shuffle F19 O14 b14 k14 m14 y_range
  have OT := all_things O14 b14 k14 m14 O17 b17 k17 m17 O19 b19 k19 m19 O16 b16 k16 m16 F18 b18 k18 m18 F20 b20 k20 m20 y_range y_tuple
  have O21 : FnOk l.prog w K mg base CX0 1 f21 _ ["_law_word", "_law_things"] (spRDeed K) := ok_rdeed F21 y_list y_int
  have O22 : FnOk l.prog w K mg base CX0 1 f22 _ ["_law_word"] spKinds := ok_kinds F22
  have O23 : FnOk l.prog w K mg base CX0 1 f23 _ ["_law_kind", "_law_thing_here"] (spFit K) := ok_fit F23
  have O24 := ok_lstep F24 O22 b22 k22 m22 O23 b23 k23 m23 O21 b21 k21 m21 y_isinstance y_tuple y_len y_zip y_list
  have O25 := ok_for F25 O22 b22 k22 m22 O14 b14 k14 m14 O17 b17 k17 m17 (OT 3).1 b18 k18 m18 (OT 3).2 b20 k20 m20 O16 b16 k16 m16 y_range
  have O26 := ok_book F26 O14 b14 k14 m14 (OT 2).2 b20 k20 m20 y_range y_int y_tuple
  exact ok_law F32 O13 b13 k13 m13 O14 b14 k14 m14 (ok_th (OT 3).1 (OT 2).1 (by decide)) b18 k18 m18 (OT 2).2 b20 k20 m20 O19 b19 k19 m19 O26 b26 k26 m26 O25 b25 k25 m25 O24 b24 k24 m24 OS bS sk mS y_range y_tuple y_isinstance
theorem walk {l : PySem.W.OpenLaw} {q : Program} {loose : List Str} {XP : (Str → Option Value) → Heap → Prop} {YP : World → Heap → Prop} {d : DefRec} {K : Params → PySem.W.Frag} (hn : l.most = some 63) (hdf : d.params.defaults = [])
    (hY : ∀ (w : World) (h : Heap), YP w h → (K w.params).In h)
    (F : ∀ (w : World) (mg : Str → Option Value) (fa : Addr) (h : Heap), (K w.params).In h → h.Ns mainGlobals mg → mg d.name = some (.ref fa) →
      ∃ fd : FuncData, (∀ (s : Shared) (u : Value), BindsTo s fd ⟨[u], []⟩ [("_law_script", u)]) ∧ ∀ base : Heap, (K w.params).In base → base.Ns mainGlobals mg → FnOk l.prog w (K w.params) mg base CX0 22 fa fd ["_law_script"] (spLaw (K w.params))) :
    PySem.W.WalkO q loose XP YP l.row.toRowW d [] (fun f vs => PySem.call f vs) :=
  L2.walk_of (n := 63) (k := 22) (x := "_law_script") (CX := fun _ => CX0) (sp := fun w => spLaw (K w.params)) hn (by decide) hdf ⟨rfl, by decide, by decide⟩ hY F (fun _ _ a ns hl _ hS => ⟨a, ns, rfl, hS, hl, fun _ => rfl⟩) fun _ _ _ _ _ z => z
end K10
open PySem PySem.W PyProof.Rows
set_option maxRecDepth 100000 in
set_option maxHeartbeats 0 in
theorem PySem.Challenge.cw_takeleave_k10_rows_done_holds : PySem.Challenge.rw_takeleave_k10_rows_done.Holds := by
  w_on; o_law; k_head; (case hw => w_witness2)
  k_fill
  refine K10.walk (l := PySem.Challenge.rw_takeleave_k10_rows_done) rfl rfl (fun w h Y => PySem.W.kIn_of Y) ?F
  case F =>
    intro w mg fa h KX G hmg
    refine' K10.all_mk (w := w) KX G hmg ?a1 ?l1 ?c1 ?k1 ?a2 ?l2 ?c2 ?k2 ?a3 ?l3 ?c3 ?k3 ?a4 ?l4 ?c4 ?k4 ?a5 ?l5 ?c5 ?k5 ?a6 ?l6 ?c6 ?k6 ?a7 ?l7 ?c7 ?k7 ?a8 ?l8 ?c8 ?k8 ?a9 ?l9 ?c9 ?k9 ?a10 ?l10 ?c10 ?k10 ?a11 ?l11 ?c11 ?k11 ?a12 ?l12 ?c12 ?k12 ?a13 ?l13 ?c13 ?k13 ?a14 ?l14 ?c14 ?k14 ?a15 ?l15 ?c15 ?k15 ?a16 ?l16 ?c16 ?k16 ?a17 ?l17 ?c17 ?k17 ?a18 ?l18 ?c18 ?k18 ?a19 ?l19 ?c19 ?k19 ?a20 ?l20 ?c20 ?k20 ?a21 ?l21 ?c21 ?k21 ?a22 ?l22 ?c22 ?k22 ?a23 ?l23 ?c23 ?k23 ?a24 ?l24 ?c24 ?k24 ?a25 ?l25 ?c25 ?k25 ?a26 ?l26 ?c26 ?k26 ?a27 ?l27 ?c27 ?k27 ?a28 ?l28 ?c28 ?k28 ?a29 ?l29 ?c29 ?k29 ?a30 ?l30 ?c30 ?k30 ?a31 ?l31 ?c31 ?k31 ?a32 ?l32 ?c32 ?k32 ?z_len ?z_list ?z_sum ?z_range ?z_isinstance ?z_tuple ?z_int ?z_zip ?z_str ?z_all ?g_SORTS_TAKEN ?g_DOES ?g_NUMBERS ?g_LETTERS ?g_MOST_LEFT ?xt ?xk ?xs ?xx ?yt ?yk ?y1 ?y2 ?y3 ?y4 ?y5 ?sa ?sl ?sc ?sk ?sT
    (case a1 => k_is)
    (case l1 => k_is)
    (case c1 => k_is)
    (case k1 => k_is)
    (case a2 => k_is)
    (case l2 => k_is)
    (case c2 => k_is)
    (case k2 => k_is)
    (case a3 => k_is)
    (case l3 => k_is)
    (case c3 => k_is)
    (case k3 => k_is)
    (case a4 => k_is)
    (case l4 => k_is)
    (case c4 => k_is)
    (case k4 => k_is)
    (case a5 => k_is)
    (case l5 => k_is)
    (case c5 => k_is)
    (case k5 => k_is)
    (case a6 => k_is)
    (case l6 => k_is)
    (case c6 => k_is)
    (case k6 => k_is)
    (case a7 => k_is)
    (case l7 => k_is)
    (case c7 => k_is)
    (case k7 => k_is)
    (case a8 => k_is)
    (case l8 => k_is)
    (case c8 => k_is)
    (case k8 => k_is)
    (case a9 => k_is)
    (case l9 => k_is)
    (case c9 => k_is)
    (case k9 => k_is)
    (case a10 => k_is)
    (case l10 => k_is)
    (case c10 => k_is)
    (case k10 => k_is)
    (case a11 => k_is)
    (case l11 => k_is)
    (case c11 => k_is)
    (case k11 => k_is)
    (case a12 => k_is)
    (case l12 => k_is)
    (case c12 => k_is)
    (case k12 => k_is)
    (case a13 => k_is)
    (case l13 => k_is)
    (case c13 => k_is)
    (case k13 => k_is)
    (case a14 => k_is)
    (case l14 => k_is)
    (case c14 => k_is)
    (case k14 => k_is)
    (case a15 => k_is)
    (case l15 => k_is)
    (case c15 => k_is)
    (case k15 => k_is)
    (case a16 => k_is)
    (case l16 => k_is)
    (case c16 => k_is)
    (case k16 => k_is)
    (case a17 => k_is)
    (case l17 => k_is)
    (case c17 => k_is)
    (case k17 => k_is)
    (case a18 => k_is)
    (case l18 => k_is)
    (case c18 => k_is)
    (case k18 => k_is)
    (case a19 => k_is)
    (case l19 => k_is)
    (case c19 => k_is)
    (case k19 => k_is)
    (case a20 => k_is)
    (case l20 => k_is)
    (case c20 => k_is)
    (case k20 => k_is)
    (case a21 => k_is)
    (case l21 => k_is)
    (case c21 => k_is)
    (case k21 => k_is)
    (case a22 => k_is)
    (case l22 => k_is)
    (case c22 => k_is)
    (case k22 => k_is)
    (case a23 => k_is)
    (case l23 => k_is)
    (case c23 => k_is)
    (case k23 => k_is)
    (case a24 => k_is)
    (case l24 => k_is)
    (case c24 => k_is)
    (case k24 => k_is)
    (case a25 => k_is)
    (case l25 => k_is)
    (case c25 => k_is)
    (case k25 => k_is)
    (case a26 => k_is)
    (case l26 => k_is)
    (case c26 => k_is)
    (case k26 => k_is)
    (case a27 => k_is)
    (case l27 => k_is)
    (case c27 => k_is)
    (case k27 => k_is)
    (case a28 => k_is)
    (case l28 => k_is)
    (case c28 => k_is)
    (case k28 => k_is)
    (case a29 => k_is)
    (case l29 => k_is)
    (case c29 => k_is)
    (case k29 => k_is)
    (case a30 => k_is)
    (case l30 => k_is)
    (case c30 => k_is)
    (case k30 => k_is)
    (case a31 => k_is)
    (case l31 => k_is)
    (case c31 => k_is)
    (case k31 => k_is)
    (case a32 => k_is)
    (case l32 => k_is)
    (case c32 => k_is)
    (case k32 => k_is)
    (case z_len => k_is)
    (case z_list => k_is)
    (case z_sum => k_is)
    (case z_range => k_is)
    (case z_isinstance => k_is)
    (case z_tuple => k_is)
    (case z_int => k_is)
    (case z_zip => k_is)
    (case z_str => k_is)
    (case z_all => k_is)
    (case g_SORTS_TAKEN => k_is)
    (case g_DOES => k_is)
    (case g_NUMBERS => k_is)
    (case g_LETTERS => k_is)
    (case g_MOST_LEFT => k_is)
    (case xt => k_is)
    (case xk => first | k_is | (refine ⟨⟨_, _, rfl, rfl⟩, ⟨_, _, rfl, rfl⟩, ⟨_, _, rfl, rfl⟩, ⟨_, _, rfl, rfl⟩, ⟨_, _, rfl, rfl⟩, ⟨_, _, rfl, rfl⟩, ⟨_, _, rfl, rfl⟩, ⟨_, _, rfl, rfl⟩, ⟨_, _, rfl, rfl⟩, ⟨_, _, rfl, rfl⟩, ⟨_, _, rfl, rfl⟩, ⟨_, _, rfl, rfl⟩, ⟨_, _, rfl, rfl⟩, ⟨_, _, rfl, rfl⟩, ⟨_, _, rfl, rfl⟩, trivial⟩))
    (case xs => first | k_is | rfl | decide)
    (case xx => kernel_rfl)
    (case yt => k_is)
    (case yk => first | k_is | (refine ⟨⟨_, _, rfl, rfl⟩, ⟨_, _, rfl, rfl⟩, ⟨_, _, rfl, rfl⟩, ⟨_, _, rfl, rfl⟩, ⟨_, _, rfl, rfl⟩, ⟨_, _, rfl, rfl⟩, ⟨_, _, rfl, rfl⟩, ⟨_, _, rfl, rfl⟩, ⟨_, _, rfl, rfl⟩, ⟨_, _, rfl, rfl⟩, ⟨_, _, rfl, rfl⟩, ⟨_, _, rfl, rfl⟩, ⟨_, _, rfl, rfl⟩, ⟨_, _, rfl, rfl⟩, ⟨_, _, rfl, rfl⟩, trivial⟩))
    (case y1 => k_is)
    (case y2 => k_is)
    (case y3 => k_is)
    (case y4 => k_is)
    (case y5 => k_is)
    (case sa => k_is)
    (case sl => k_is)
    (case sc => k_is)
    (case sk => k_is)
    (case sT => k_is)
