import PyProof.Rows.All
import Wide.All
import OpenK.AllK
import Wide.FinOn
import HandS.ForMost
import HandS.Rev
import KE.KDictList
import HandS.Style
import HandS.More
import HandS.IsInst
import HandS.StrMore
import HandS.Wide
import HandS.Codes
import HandS.Walk
import HandS.NoneIn
import HandS.WordsExc
import PyProof.AutoSeq1
import HandS.Conv
import HandS.SetFor
import HandS.TupAny
import HandS.TupMul
import HandS.ForExc
import HandS.ExcIs
import HandS.ExcOwn
import HandS.TupLe
import PySem.Challenge.RW_takeleave_k04_shuffles_by_numbers
set_option Elab.async false
set_option linter.all false
set_option maxRecDepth 100000
set_option maxHeartbeats 4000000
namespace Cm
open PySem PySem.Spec PyProof.Rows L2 RT
section
variable {prog : Program} {w : World} {A : Around} {E : Value → Shared → Prop} {s : Shared}
/-- list.extend over a reversed list, into the empty list at T -/
theorem revExt {J l T : Addr} {vs : Array Value} {res : Value} {c : Nat} {R : Result → Shared → Prop} (hh : A.handled = none) (hJ : s.heap.IsRevIter J l ((vs.size : Int) - 1)) (hl : s.heap.IsList l vs) (nJ : l ≠ J) (hn : vs.size ≤ sizeLine)
    (nTJ : T ≠ J) (nTl : T ≠ l) (hT : s.heap.get? T = some { cls := .type "list", data := .seq #[] c })
    (hR : ∀ h' tk acc' c', (∀ b o, b ≠ T → b ≠ J → s.heap.get? b = some o → h'.get? b = some o) → h'.get? T = some { cls := .type "list", dict := none, data := .seq acc' c', slots := #[] } → ItemsOf (fun i v => vs[vs.size - 1 - i]? = some v) acc' vs.size → R (.ok (.ret res)) { s with heap := h', toks := tk }) :
    wpAny (model prog w) A.in1 (Builtin.List.listExtendWith (.ref T) (.ref J) res)
      (fun fin s' => match fin with | .done f => R (.ok f) s' | .again c' => c'.quiet = true ∧ codeAny (model prog w) A c' R s') (fun e s' => R (.error e) s') s := by
  have WS := (Walks.listRev (prog := prog) (w := w) (A := A.in1) hh J l nJ vs).toS
  have tyJ : s.TypeIs (.ref J) "list_reverseiterator" := Heap.IsRevIter.typeIs hJ
  have nf : T ∉ [J, l] := by simp only [List.mem_cons, List.not_mem_nil, or_false, not_or]; exact And.intro nTJ nTl
  have ns : Builtin.List.listSameRef (.ref T) (.ref J) = false := by simp [Builtin.List.listSameRef, nTJ]
  unfold Builtin.List.listExtendWith
  refine wpAny_bind (wpAny_typeOf tyJ ?_)
  rw [if_neg (by rw [ns]; decide)]
  refine wpAny_bind (wpAny_pyIter_revIter hJ (wpAny_bind (wpAny_holding ?_)))
  unfold Builtin.List.listLengthHint
  refine wpAny_bind (wpAny_specialOf tyJ nolen_lri ?_)
  show wpAny _ A.in1 (specialOf (Value.ref J) (Str.ofString "__length_hint__") >>= _) _ _ _
  refine wpAny_bind (wpAny_specialOf tyJ hint_lri ?_)
  generalize eid : ("list_reverseiterator.__length_hint__" : String) = idz
  wp_delta
  rw [show splitId idz = some ("list_reverseiterator", "__length_hint__") from by subst eid; decide +kernel]
  subst eid
  refine wpAny_bind (wpAny_isInstance (b := true) tyJ (by rw [isSubtype_type]; kernel_rfl) (wpAny_pure ?_))
  rw [if_neg (by decide)]
  have z0 : ((vs.size : Nat) : Int) - 1 - ((0 : Nat) : Int) = (vs.size : Int) - 1 := by omega
  refine wpAny_pure ⟨plainId_quiet F.plain_extend_loop _, codeAny_extend_loopS WS hn _ nf _ vs.size 0 _ _ _ rfl (Nat.zero_le _) ⟨Nat.zero_le _, by rw [z0]; exact hJ, hl⟩ hT (ItemsOf.nil _) fun s' acc' c' hm hS' hacc => ?_⟩
  rw [Moved.eq_with hm]
  refine hR s'.heap s'.toks acc' c' (fun b o n1 n2 e => hm.heap b o (fun q => ?_) e) hS' hacc
  rcases List.mem_cons.mp q with z | z
  · exact n1 z
  · exact n2 (List.mem_singleton.mp z)
theorem revInit {J l T : Addr} {vs : Array Value} {R : Result → Shared → Prop} (hh : A.handled = none) (hJ : s.heap.IsRevIter J l ((vs.size : Int) - 1)) (hl : s.heap.IsList l vs) (nJ : l ≠ J) (hn : vs.size ≤ sizeLine)
    (nTJ : T ≠ J) (nTl : T ≠ l) (hT : s.heap.get? T = some { cls := .type "list", data := .seq #[] })
    (hR : ∀ h' tk acc' c', (∀ b o, b ≠ T → b ≠ J → s.heap.get? b = some o → h'.get? b = some o) → h'.get? T = some { cls := .type "list", dict := none, data := .seq acc' c', slots := #[] } → ItemsOf (fun i v => vs[vs.size - 1 - i]? = some v) acc' vs.size → R (.ok (.ret .none)) { s with heap := h', toks := tk }) :
    wpAny (model prog w) A.in1 (Builtin.«list.__init__» ⟨[.ref T, .ref J], []⟩)
      (fun fin s' => match fin with | .done f => R (.ok f) s' | .again c' => c'.quiet = true ∧ codeAny (model prog w) A c' R s') (fun e s' => R (.error e) s') s := by
  show wpAny _ _ (do let old ← Builtin.List.listItems (.ref T); Builtin.List.listUpdate (.ref T) (fun _ => #[]); letGo old.toList.reverse; Builtin.List.listExtendWith (.ref T) (.ref J) .none) _ _ s
  refine wpAny_bind ?_; unfold Builtin.List.listItems
  refine wpAny_bind (wpAny_seqItems hT rfl (wpAny_pure ?_))
  show wpAny _ _ (updateSeq T (fun _ => #[]) >>= fun _ => letGo (#[] : Array Value).toList.reverse >>= fun _ => Builtin.List.listExtendWith (.ref T) (.ref J) .none) _ _ s
  refine wpAny_bind (wpAny_updateSeq hT rfl ?_)
  have hT2 := Heap.get?_update_self (Obj.mapSeq (fun _ => (#[] : Array Value))) hT rfl
  have other : ∀ b o, b ≠ T → s.heap.get? b = some o → (s.heap.update T (Obj.mapSeq (fun _ => (#[] : Array Value)))).get? b = some o :=
    fun b o hb e => (Heap.get?_update_other _ _ (Ne.symm hb)).trans e
  refine wpAny_bind (wpAny_letGo (revExt hh (hJ.at fun o e => other _ o nTJ.symm e) (hl.at fun o e => other _ o nTl.symm e) nJ hn nTJ nTl hT2 fun h' tk acc' c' hk hS' hacc => ?_))
  exact hR h' tk acc' c' (fun b o n1 n2 e => hk b o n1 n2 (other b o n1 e)) hS' hacc
theorem call_list_rev {J l : Addr} {vs : Array Value} {Q : Value → Shared → Prop} (hh : A.handled = none) (hJ : s.heap.IsRevIter J l ((vs.size : Int) - 1)) (hl : s.heap.IsList l vs) (nJ : l ≠ J) (hn : vs.size ≤ sizeLine)
    (hQ : ∀ h' tk acc' c', (∀ b o, b ≠ J → s.heap.get? b = some o → h'.get? b = some o) → h'.get? s.heap.objs.size = some { cls := .type "list", dict := none, data := .seq acc' c', slots := #[] } → ItemsOf (fun i v => vs[vs.size - 1 - i]? = some v) acc' vs.size → Q (.ref s.heap.objs.size) { s with heap := h', toks := tk }) :
    wpAny (model prog w) A (call (.type "list") [.ref J]) Q E s := by
  refine callType_codes (Q₁ := fun obj s₁ => obj = .ref s.heap.objs.size ∧ s₁ = { s with heap := s.heap.push { cls := .type "list", data := .seq #[] } }) PySem.F.called_list (PySem.F.typeCall_list_1 _) PySem.F.entry_list_init
    (code_list_new _ ⟨rfl, rfl⟩) fun obj s₁ z => ?_
  obtain ⟨rfl, rfl⟩ := z
  have hT : (s.heap.push { cls := .type "list", data := .seq #[] }).get? s.heap.objs.size = some { cls := .type "list", data := .seq #[] } := Heap.get?_push_size _ rfl
  obtain ⟨oi, hoi, _⟩ := id hJ
  obtain ⟨ol, hol, _⟩ := id hl
  refine ⟨⟨_, hT, rfl⟩, PySem.F.args_list_init_2 _ _, revInit (A := A.in1) hh (hJ.at fun o e => Heap.get?_push_of_some _ e) (hl.push _) nJ hn (Nat.ne_of_gt (Heap.lt_size hoi)) (Nat.ne_of_gt (Heap.lt_size hol)) hT (fun h' tk acc' c' hk hS' hacc => ?_)⟩
  exact ⟨rfl, hQ h' tk acc' c' (fun b o n e => hk b o (Nat.ne_of_lt (Heap.lt_size e)) n (Heap.get?_push_of_some _ e)) hS' hacc⟩
end
/-- list(reversed(x)), x a list: a new list -/
def tLstRev (K : PySem.W.Frag) (te : TE) : TE := fun σ H Q => te σ H fun v H1 => ∃ (a : Addr) (xs : List V), v = .ref a ∧ SqL K H1 a xs ∧ ∀ q, H1 q = none → Q (.ref q) (upd H1 q (.lst xs.reverse))
section
variable {X : Cx}
theorem pe_lstRev {e : Expr} {te : TE} {p p2 pos pos2 : Pos} (hc : X.calm = true) (hg : Gl X "list") (hm : X.mg "list" = none) (hg2 : Gl X "reversed") (hm2 : X.mg "reversed" = none) (he : PE X e te)
    (hs : starEach [e] X.env = (false, eval e X.env) :: starEach [] X.env := by rfl)
    (hs2 : starEach [.Call (.Name "reversed" p2) [e] [] pos2] X.env = (false, eval (.Call (.Name "reversed" p2) [e] [] pos2) X.env) :: starEach [] X.env := by rfl) :
    PE X (.Call (.Name "list" p) [.Call (.Name "reversed" p2) [e] [] pos2] [] pos) (tLstRev X.K te) := by
  refine ⟨fun pins s σ H Q I h => ?_⟩
  refine Call_ (ld_blt I hg hm (show bootBuiltins "list" = some (.type "list") by decide +kernel) (PyProof.Rows.callWith_type1 (args_cons (Call_ (ld_blt I hg2 hm2 PyProof.Rows.boot_reversed (PyProof.Rows.callWith_type1 (args_cons (thn (he.run pins s σ H _ I h) fun u s1 ⟨v, H1, I1, r1, q1⟩ => args_nil ?_) hs) hs rfl))) hs2) hs2 rfl))
  obtain ⟨a, xs, ev, hq, q⟩ := q1
  subst ev; obtain rfl : u = Value.ref a := r1
  obtain ⟨its, rv, p', hz⟩ := I1.list hq
  refine call_reversed_list p'.isList (args_nil ?_)
  have k0 : ∀ b o, s1.heap.get? b = some o → (s1.heap.push (revObj a ((its.toArray.size : Int) - 1))).get? b = some o := fun b o e' => Heap.get?_push_of_some _ e'
  have I2 : Inv X pins σ H1 { s1 with heap := s1.heap.push (revObj a ((its.toArray.size : Int) - 1)) } := I1.kept (t' := s1.toks) k0
  obtain ⟨f0, f1, f2, f3, f4, f5⟩ := I1.fpOk (H' := H1) (b := s1.heap.objs.size) (Nat.le_refl _) (I1.hok.fresh (Nat.le_refl _))
  have isl := p'.isList
  obtain ⟨ol, hol, _⟩ := id isl
  have hne : a ≠ s1.heap.objs.size := Nat.ne_of_lt (Heap.lt_size hol)
  have hn : its.toArray.size ≤ sizeLine := by rw [List.size_toArray, ← rv.length]; exact hz
  refine call_list_rev (s := { s1 with heap := s1.heap.push (revObj a ((its.toArray.size : Int) - 1)) }) (I1.ok.hd hc) ⟨_, Heap.get?_push_size _ rfl, rfl, rfl⟩ (isl.push _) hne hn fun h' tk acc c' hk hT hi => ?_
  have hk' : ∀ b o, s1.heap.get? b = some o → h'.get? b = some o := fun b o e' => hk b o (Nat.ne_of_lt (Heap.lt_size e')) (k0 b o e')
  have sz : s1.heap.objs.size ≤ (s1.heap.push (revObj a ((its.toArray.size : Int) - 1))).objs.size := by
    rw [Heap.size_push]; exact Nat.le_succ _
  refine ⟨.ref _, upd H1 _ (.lst xs.reverse), I1.laid (t' := tk) hk' sz (show ObjOk X.prog X.w _ _ _ (.lst xs.reverse) from ⟨by rw [List.length_reverse]; exact hz, acc.toList, c', vals_rev rv hi, ?_⟩), rfl, q _ (I1.hok.fresh sz)⟩
  rw [Array.toArray_toList]
  exact hT
end
end Cm
namespace Cm
open PySem PySem.W L2 SX
theorem same_new {H : Hp} {p : Addr} (h : H p = none) (o : HO) : Same H (upd H p o) := fun b u q => by rw [upd_ne (ne_of_none q h)]; exact q
theorem own_new {H H' : Hp} {p : Addr} {o : HO} (s : Same H H') (h : H p = none) : Same H (upd H' p o) := fun b u q => by rw [upd_ne (ne_of_none q h)]; exact s _ _ q
theorem cut_map {α : Type} (f : α → V) (xs : List α) (lo hi : Option Int) : ∃ ys : List α, cutV (xs.map f) lo hi = ys.map f ∧ ys.length ≤ xs.length := by
  unfold cutV
  refine ⟨(xs.drop (HT.sIx (xs.map f).length 0 lo)).take (HT.sIx (xs.map f).length (xs.map f).length hi - HT.sIx (xs.map f).length 0 lo), ?_, ?_⟩
  · rw [List.map_take, List.map_drop]
  · rw [List.length_take, List.length_drop]; omega
theorem dp_ints {K : PySem.W.Frag} {H : Hp} : ∀ ns : List Int, DpAll K H (ns.map V.int) (ns.map PyData.int)
  | [] => .nil
  | n :: r => .cons (.int n) (dp_ints r)
theorem lay_ints : ∀ ns : List Int, PyData.canLayAll0 (ns.map PyData.int) = true
  | [] => rfl
  | n :: r => by
    show (PyData.canLay0 (PyData.int n) && PyData.canLayAll0 (r.map PyData.int)) = true
    rw [lay_ints r]; rfl
theorem deep_ints : ∀ ns : List Int, PyData.depthAll (ns.map PyData.int) = 0
  | [] => rfl
  | n :: r => by
    show max (PyData.depth (PyData.int n)) (PyData.depthAll (r.map PyData.int)) = 0
    rw [deep_ints r]; rfl
theorem shaped_ints (ns : List Int) : SeqAt.shaped (.list (ns.map PyData.int)) = true := by
  show (PyData.canLayAll0 (ns.map PyData.int) && decide (PyData.depthAll (ns.map PyData.int) + 1 ≤ 64)) = true
  rw [lay_ints, deep_ints]; rfl
theorem kn {H : Hp} {a t : Addr} {o o' : HO} (h : H a = some o) (n : H t = none) : upd H t o' a = some o := by rw [upd_ne (ne_of_none h n)]; exact h
/-- all but what stands at the places L is kept -/
def Kp (L : List Addr) (H H' : Hp) : Prop := ∀ b o, b ∉ L → H b = some o → H' b = some o
theorem Kp.refl (L : List Addr) (H : Hp) : Kp L H H := fun _ _ _ h => h
theorem Kp.trans {L : List Addr} {H H1 H2 : Hp} (a : Kp L H H1) (b : Kp L H1 H2) : Kp L H H2 := fun c o n h => b c o n (a c o n h)
theorem Kp.of {L : List Addr} {H H' : Hp} (s : Same H H') : Kp L H H' := fun b o _ h => s b o h
theorem Kp.new {L : List Addr} {p : Addr} {H H' : Hp} {o : HO} (a : Kp L H H') (h : H' p = none) : Kp L H (upd H' p o) := a.trans (.of (same_new h o))
theorem Kp.own {L : List Addr} {d : Addr} {H H' : Hp} {o : HO} (a : Kp L H H') (m : d ∈ L) : Kp L H (upd H' d o) := fun b u n h => by rw [upd_ne (show b ≠ d from fun z => n (by rw [z]; exact m))]; exact a b u n h
theorem Kp.mono {L M : List Addr} {H H' : Hp} (a : Kp L H H') (h : ∀ b ∈ L, b ∈ M) : Kp M H H' := fun b o n e => a b o (fun z => n (h b z)) e
theorem Kp.free {L : List Addr} {p : Addr} {H H' : Hp} (k : Kp L H H') (n : H' p = none) (m : p ∉ L) : H p = none := by
  cases e : H p with
  | none => rfl
  | some o => rw [k p o m e] at n; cases n
theorem Kp.put {L : List Addr} {p : Addr} {H H' : Hp} {o : HO} (k : Kp L H H') (n : H p = none) : Kp L H (upd H' p o) := fun b u m e => by rw [upd_ne (ne_of_none e n)]; exact k b u m e
theorem Kp.same {L : List Addr} {H0 H H' : Hp} (a : Kp L H H') (s : Same H0 H) (h : ∀ b ∈ L, H0 b = none) : Same H0 H' := fun b o e => a b o (fun z => by rw [h b z] at e; cases e) (s b o e)
theorem cutS_to {a : List Nat} {i : Int} (h : 0 ≤ i) : cutS (S a) none (some i) = S (a.take i.toNat) := by
  obtain ⟨n, rfl⟩ := Int.eq_ofNat_of_zero_le h
  unfold cutS
  rw [HT.sIx_none, HT.sIx_nat, S_len]
  show S (List.take (min n a.length - 0) (List.drop 0 a)) = S (a.take n)
  rw [List.drop_zero, Nat.sub_zero]
  by_cases h : n ≤ a.length
  · rw [Nat.min_eq_left h]
  · rw [Nat.min_eq_right (by omega), List.take_of_length_le (Nat.le_refl a.length), List.take_of_length_le (show a.length ≤ n by omega)]
/-- a comprehension over a text's signs, whose element is a plain value -/
theorem lc_txt {z : List Nat} (f : Nat → V) {g : TG} {te : TE} {vs : List Nat} {σ : St} {H1 : Hp} {D : Addr} {Qd : Hp → Prop} (hl : z.length ≤ 1000)
    (hs : ∀ c H (R : V → Hp → Prop), c ∈ z → R (f c) H → g (.str ⟨#[c]⟩) (wipe σ vs) H fun σ2 H2 => wipe σ2 vs = wipe σ vs ∧ te σ2 H2 R) (hd : Qd (upd H1 D (.lst (z.map f)))) :
    ∃ W : Nat → Nat → Hp → Prop, (∃ m, W 0 m (upd H1 D (.lst []))) ∧ ∀ i m H, W i m H →
      ((Its (S z)).stop i H ∧ Qd H) ∨ ((Its (S z)).go i H ∧ ∃ Nx : Hp → Prop, (∀ H', Nx H' → ∃ m', m' < m ∧ W (i + 1) m' H') ∧ ∀ x H', (Its (S z)).yld i H x H' → g x (wipe σ vs) H' fun σ2 H2 => wipe σ2 vs = wipe σ vs ∧ tYes σ2 H2 fun b H3 =>
        if b = true then te σ2 H3 fun y H4 => ∃ acc, H4 D = some (.lst acc) ∧ acc.length < sizeLine ∧ Nx (upd H4 D (.lst (acc ++ [y]))) else Nx H3) := by
  refine lc_it (walk_str (z := S z)) (fun i H => H = upd H1 D (.lst ((z.take i).map f))) rfl (fun _ _ _ _ => trivial) ?_ ?_
  · rintro i x H H' hi rfl ⟨rfl, c, hc, rfl⟩
    have hc' : z[i]? = some c := by
      rw [← hc]; show z[i]? = (z.toArray)[i]?; rw [List.getElem?_toArray]
    refine hs c _ (fun y H4 => ∃ acc, H4 D = some (.lst acc) ∧ acc.length < sizeLine ∧ upd H4 D (.lst (acc ++ [y])) = upd H1 D (.lst ((z.take (i + 1)).map f))) (List.mem_of_getElem? hc') ⟨_, upd_same, ?_, ?_⟩
    · rw [List.length_map, List.length_take]; exact small1000 (by omega)
    · rw [upd_upd, List.take_add_one, hc', List.map_append]; rfl
  · rintro H rfl
    have e : (S z).cps.size = z.length := by show z.toArray.size = _; rw [List.size_toArray]
    rw [e, List.take_length]
    exact hd
theorem starts_S (x y : List Nat) : Txt.startswith (S x) (S y) = decide (x.take y.length = y) := by
  unfold Txt.startswith PySem.Builtin.Str.subAt
  rw [S_len, S_len]
  show (decide (0 + y.length ≤ x.length) && ((x.toArray.extract 0 (0 + (S y).length)) == y.toArray)) = _
  rw [S_len, Nat.zero_add, List.extract_toArray]
  have e : (List.extract x 0 y.length) = x.take y.length := by unfold List.extract; rw [List.drop_zero, Nat.sub_zero]
  rw [e]
  by_cases h : x.take y.length = y
  · have hl : y.length ≤ x.length := by
      have := congrArg List.length h
      rw [List.length_take] at this; omega
    rw [decide_eq_true h, decide_eq_true hl, h, beq_self_eq_true]; rfl
  · rw [decide_eq_false h]
    have : ((x.take y.length).toArray == y.toArray) = false := by
      rw [beq_eq_false_iff_ne]; intro z; exact h (by have := congrArg Array.toList z; exact this)
    rw [this, Bool.and_false]
theorem par_len : ∀ (x acc t l : List Nat), TL.par [45] acc x = some (t, l) → l.length ≤ x.length
  | [], _, _, _, h => by cases h
  | c :: r, acc, t, l, h => by
    have h' : (if TL.pre [45] (c :: r) = true then some (acc, (c :: r).drop 1) else TL.par [45] (acc ++ [c]) r) = some (t, l) := h
    by_cases hp : TL.pre [45] (c :: r) = true
    · rw [if_pos hp] at h'
      cases h'
      show r.length ≤ r.length + 1
      omega
    · rw [if_neg hp] at h'
      have := par_len r _ _ _ h'
      show l.length ≤ r.length + 1
      omega
/-- the letters a to h -/
def abc8 : List Nat := [97, 98, 99, 100, 101, 102, 103, 104]
/-- whether signs are a shuffle's -/
def shufB (x : List Nat) : Bool := match TL.par [45] [] x with
  | none => false
  | some (t, l) => decide (abc8.take t.length = t) && (decide (l.length ≤ 12) && (l.map fun c => decide (c ∈ t)).all id)
def kStr : Value → Option Str
  | .str x _ => some x
  | _ => none
def absAll : List Value → Option (List V)
  | [] => some []
  | u :: r => match absV u, absAll r with
    | some x, some t => some (x :: t)
    | _, _ => none
def kTup (K : Frag) (t : Addr) : Option (List V) := match K.lookup t with
  | some ⟨.type c, _, .seq its _, _⟩ => if c = "tuple" ∧ its.size ≤ 1000 then absAll its.toList else none
  | _ => none
def kEnt (K : Frag) (e : DictEntry) : Option (Str × List V) := match e.val, kStr e.key with
  | .ref t, some k => (kTup K t).map fun xs => (k, xs)
  | _, _ => none
/-- the entries es: keys, each with what its tuple holds -/
def kTab (K : Frag) : List DictEntry → Option (List (Str × List V))
  | [] => some []
  | e :: r => match kEnt K e, kTab K r with
    | some x, some t => some (x :: t)
    | _, _ => none
theorem abs_rel {u : Value} {x : V} (h : absV u = some x) : RelV x u := by
  cases u <;> simp only [absV] at h <;> first | (cases h; done) | (cases h; first | exact rfl | exact ⟨_, rfl⟩) | cases h
theorem abs_all : ∀ {us : List Value} {xs : List V}, absAll us = some xs → Vals xs us
  | [], xs, h => by cases h; exact .nil
  | u :: r, xs, h => by
    unfold absAll at h
    cases e1 : absV u with
    | none => rw [e1] at h; cases h
    | some x =>
      cases e2 : absAll r with
      | none => rw [e1, e2] at h; cases h
      | some t =>
        rw [e1, e2] at h
        cases h
        exact .cons (abs_rel e1) (abs_all e2)
theorem kTup_ok {K : Frag} {t : Addr} {xs : List V} (h : kTup K t = some xs) (H : Hp) : SqT K H t xs := by
  unfold kTup at h
  cases e : K.lookup t with
  | none => rw [e] at h; cases h
  | some o =>
    rw [e] at h
    obtain ⟨oc, od, dt, sl⟩ := o
    cases oc with
    | type c =>
      cases dt with
      | seq its n =>
        have h' : (if c = "tuple" ∧ its.size ≤ 1000 then absAll its.toList else none) = some xs := h
        by_cases hc : c = "tuple" ∧ its.size ≤ 1000
        · rw [if_pos hc] at h'
          obtain ⟨rfl, hz⟩ := hc
          exact .inr ⟨_, its, n, e, rfl, rfl, Nat.le_of_lt (small1000 hz), abs_all h'⟩
        · rw [if_neg hc] at h'; cases h'
      | _ => cases h
    | _ => cases h
/-- what the table tells of a text -/
theorem tab_look {K : Frag} (z : Str) : ∀ {es : List DictEntry} {T : List (Str × List V)}, kTab K es = some T →
    (∀ xs, T.lookup z = some xs → ∃ e t, es.find? (·.key.isStr z) = some e ∧ e.val = .ref t ∧ kTup K t = some xs) ∧ (T.lookup z = none → es.find? (·.key.isStr z) = none) ∧ es.any (·.refKey) = false
  | [], T, h => by cases h; exact ⟨(fun xs q => by cases q), (fun _ => rfl), rfl⟩
  | e :: r, T, h => by
    unfold kTab at h
    cases e1 : kEnt K e with
    | none => rw [e1] at h; cases h
    | some x =>
      cases e2 : kTab K r with
      | none => rw [e1, e2] at h; cases h
      | some t =>
        rw [e1, e2] at h
        cases h
        obtain ⟨ih1, ih2, ih3⟩ := tab_look z e2
        obtain ⟨k, ys⟩ := x
        obtain ⟨a, hv, hk, ht⟩ : ∃ a, e.val = .ref a ∧ kStr e.key = some k ∧ kTup K a = some ys := by
          unfold kEnt at e1
          cases hv : e.val with
          | ref a =>
            cases hk : kStr e.key with
            | none => rw [hv, hk] at e1; cases e1
            | some k' =>
              rw [hv, hk] at e1
              have e1' : (kTup K a).map (fun xs => (k', xs)) = some (k, ys) := e1
              cases ht : kTup K a with
              | none => rw [ht] at e1'; cases e1'
              | some zs => rw [ht] at e1'; cases e1'; exact ⟨a, rfl, rfl, ht⟩
          | _ => rw [hv] at e1; cases e1
        obtain ⟨tk, hkey⟩ : ∃ tk, e.key = .str k tk := by
          unfold kStr at hk
          cases q : e.key with
          | str x' t' => rw [q] at hk; cases hk; exact ⟨_, rfl⟩
          | _ => rw [q] at hk; cases hk
        have hst : e.key.isStr z = (k == z) := by rw [hkey]; rfl
        have hrf : e.refKey = false := by unfold DictEntry.refKey; rw [hkey]
        refine ⟨fun xs q => ?_, fun q => ?_, ?_⟩
        · rw [List.lookup_cons] at q
          by_cases hz : z = k
          · subst hz
            rw [beq_self_eq_true] at q
            cases q
            exact ⟨e, a, by rw [List.find?_cons_of_pos (by rw [hst]; exact beq_self_eq_true z)], hv, ht⟩
          · rw [show (z == k) = false from beq_eq_false_iff_ne.mpr hz] at q
            obtain ⟨e', t', h1, h2, h3⟩ := ih1 xs q
            exact ⟨e', t', by rw [List.find?_cons_of_neg (by rw [hst]; intro y; exact hz (beq_iff_eq.mp y).symm)]; exact h1, h2, h3⟩
        · rw [List.lookup_cons] at q
          by_cases hz : z = k
          · subst hz
            rw [beq_self_eq_true] at q
            cases q
          · rw [show (z == k) = false from beq_eq_false_iff_ne.mpr hz] at q
            rw [List.find?_cons_of_neg (by rw [hst]; intro y; exact hz (beq_iff_eq.mp y).symm)]
            exact ih2 q
        · rw [List.any_cons, hrf, ih3]; rfl
def nn : List V := [V.str "number", V.str "number"]
def table : List (Str × List V) := [((("plus" : Str)), nn), ("minus", nn), ("times", nn), ("less", nn), ("same", nn), ("do", [V.str "row"]), ("dip", [V.str "any", V.str "row"]), ("if", [V.str "number", V.str "row", V.str "row"]), ("while", [V.str "row", V.str "row"]), ("repeat", [V.str "number", V.str "row"]), ("join", [V.str "row", V.str "row"]), ("wrap", [V.str "any"]), ("put", [V.str "list", V.str "any"]), ("part", [V.str "list", V.str "row", V.str "row"]), ("each", [V.str "list", V.str "row"])]
/-- the basic words' table stands at d -/
structure Tab (K : Frag) (w : World) (mg : Str → Option Value) (d : Addr) (es : Array DictEntry) (n : Nat) : Prop where
  kd : KDict K w d es n
  tab : kTab K es.toList = some table
  mg_ : mg "SORTS_TAKEN" = some (.ref d)
theorem Tab.ns {w : World} {K : PySem.W.Frag} {mg : Str → Option Value} {d : Addr} {es : Array DictEntry} {n : Nat} (T : Tab K w mg d es n) (z : Str) : (table.lookup z = none → nsIn K d z = some none) ∧ ∀ xs, table.lookup z = some xs → ∃ t, nsIn K d z = some (some (.ref t)) ∧ kTup K t = some xs := by
  obtain ⟨h1, h2, h3⟩ := tab_look z T.tab
  constructor
  · intro q
    unfold nsIn
    rw [T.kd.at_]
    show (match es.toList.find? (·.key.isStr z) with | some e => some (some e.val) | none => if es.toList.any (·.refKey) then none else some none) = some none
    rw [h2 q]
    show (if es.toList.any (·.refKey) = true then none else some none) = some none
    rw [h3]; rfl
  · intro xs q
    obtain ⟨e, t, e1, e2, e3⟩ := h1 xs q
    refine ⟨t, ?_, e3⟩
    unfold nsIn
    rw [T.kd.at_]
    show (match es.toList.find? (·.key.isStr z) with | some e => some (some e.val) | none => if es.toList.any (·.refKey) then none else some none) = some (some (.ref t))
    rw [e1]
    show some (some e.val) = _
    rw [e2]
theorem lookup_mem {z : Str} {xs : List V} : ∀ {T : List (Str × List V)}, T.lookup z = some xs → (z, xs) ∈ T
  | (k, ys) :: r, h => by
    rw [List.lookup_cons] at h
    by_cases hz : z = k
    · subst hz; rw [beq_self_eq_true] at h; cases h; exact List.mem_cons_self ..
    · rw [show (z == k) = false from beq_eq_false_iff_ne.mpr hz] at h
      exact List.mem_cons_of_mem _ (lookup_mem h)
end Cm
namespace Cm
open PySem PySem.W L2 SX
/-- a comprehension over a text's signs with a test -/
theorem lc_txtIf {z : List Nat} (p : Nat → Bool) (f : Nat → V) {g : TG} {tt : TT} {te : TE} {vs : List Nat} {σ : St} {H1 : Hp} {D : Addr} {Qd : Hp → Prop} (hl : z.length ≤ 1000)
    (hs : ∀ c H (R : V → Hp → Prop) (R0 : Hp → Prop), c ∈ z → (p c = true → R (f c) H) → (p c = false → R0 H) → g (.str ⟨#[c]⟩) (wipe σ vs) H fun σ2 H2 => wipe σ2 vs = wipe σ vs ∧ tt σ2 H2 fun b H3 => if b = true then te σ2 H3 R else R0 H3) (hd : Qd (upd H1 D (.lst ((z.filter p).map f)))) :
    ∃ W : Nat → Nat → Hp → Prop, (∃ m, W 0 m (upd H1 D (.lst []))) ∧ ∀ i m H, W i m H →
      ((Its (S z)).stop i H ∧ Qd H) ∨ ((Its (S z)).go i H ∧ ∃ Nx : Hp → Prop, (∀ H', Nx H' → ∃ m', m' < m ∧ W (i + 1) m' H') ∧ ∀ x H', (Its (S z)).yld i H x H' → g x (wipe σ vs) H' fun σ2 H2 => wipe σ2 vs = wipe σ vs ∧ tt σ2 H2 fun b H3 =>
        if b = true then te σ2 H3 fun y H4 => ∃ acc, H4 D = some (.lst acc) ∧ acc.length < sizeLine ∧ Nx (upd H4 D (.lst (acc ++ [y]))) else Nx H3) := by
  refine lc_it (walk_str (z := S z)) (fun i H => H = upd H1 D (.lst (((z.take i).filter p).map f))) rfl (fun _ _ _ _ => trivial) ?_ ?_
  · rintro i x H H' hi rfl ⟨rfl, c, hc, rfl⟩
    have hc' : z[i]? = some c := by
      rw [← hc]; show z[i]? = (z.toArray)[i]?; rw [List.getElem?_toArray]
    refine hs c _ (fun y H4 => ∃ acc, H4 D = some (.lst acc) ∧ acc.length < sizeLine ∧ upd H4 D (.lst (acc ++ [y])) = upd H1 D (.lst (((z.take (i + 1)).filter p).map f))) (fun H4 => H4 = upd H1 D (.lst (((z.take (i + 1)).filter p).map f))) (List.mem_of_getElem? hc') (fun hp => ⟨_, upd_same, ?_, ?_⟩) (fun hp => ?_)
    · have h1 := List.length_filter_le p (z.take i)
      rw [List.length_take] at h1
      rw [List.length_map]; exact small1000 (by omega)
    · rw [upd_upd, List.take_add_one, hc', List.filter_append, List.map_append]
      show _ = upd H1 D (HO.lst (List.map f (List.filter p (List.take i z)) ++ List.map f (List.filter p [c])))
      rw [List.filter_cons_of_pos hp]; rfl
    · show _ = _
      rw [List.take_add_one, hc', List.filter_append]
      show _ = upd H1 D (HO.lst (List.map f (List.filter p (List.take i z) ++ List.filter p [c])))
      rw [List.filter_cons_of_neg (by rw [hp]; decide), List.filter_nil, List.append_nil]
  · rintro H rfl
    have e : (S z).cps.size = z.length := by show z.toArray.size = _; rw [List.size_toArray]
    rw [e, List.take_length]
    exact hd
/-- a text, or something else that the law hands in -/
def Vl (H : Hp) (v : V) : Option (List Nat) → Prop
  | some x => v = .str (S x) ∧ x.length ≤ 1000
  | none => (v = .non ∨ (∃ b, v = .bl b) ∨ (∃ i, v = .int i) ∨ (∃ a xs, v = .ref a ∧ H a = some (.lst xs)) ∨ (∃ a kvs, v = .ref a ∧ H a = some (.dK kvs))) ∨ (∃ a xs, v = .ref a ∧ H a = some (.tup xs) ∧ (xs = [] ∨ ∃ z, xs = [.str z]))
theorem Vl.same {H H' : Hp} {v : V} {o : Option (List Nat)} (h : Vl H v o) (s : Same H H') : Vl H' v o := by
  cases o with
  | some x => exact h
  | none =>
    rcases h with (h | h | h | ⟨a, xs, e, h⟩ | ⟨a, xs, e, h⟩) | ⟨a, xs, e, h, g⟩
    · exact .inl (.inl h)
    · exact .inl (.inr (.inl h))
    · exact .inl (.inr (.inr (.inl h)))
    · exact .inl (.inr (.inr (.inr (.inl ⟨a, xs, e, s _ _ h⟩))))
    · exact .inl (.inr (.inr (.inr (.inr ⟨a, xs, e, s _ _ h⟩))))
    · exact .inr ⟨a, xs, e, s _ _ h, g⟩
theorem Vl.isStr {K : Frag} {H : Hp} {v : V} {o : Option (List Nat)} (h : Vl H v o) : ∃ t, TyX K H v t ∧ kitOne K t (.type "str") = some o.isSome := by
  cases o with
  | some x => exact ⟨_, by rw [h.1]; exact .base (.str _), kit_ty (r := true) (by decide +kernel)⟩
  | none =>
    rcases h with (h | ⟨b, h⟩ | ⟨i, h⟩ | ⟨a, xs, e, h⟩ | ⟨a, xs, e, h⟩) | ⟨a, xs, e, h, g⟩
    · exact ⟨_, by rw [h]; exact .base .non, kit_ty (r := false) (by decide +kernel)⟩
    · exact ⟨_, by rw [h]; exact .base (.bl _), kit_ty (r := false) (by decide +kernel)⟩
    · exact ⟨_, by rw [h]; exact .base (.int _), kit_ty (r := false) (by decide +kernel)⟩
    · exact ⟨_, by rw [e]; exact .base (.lst h), kit_ty (r := false) (by decide +kernel)⟩
    · exact ⟨_, by rw [e]; exact .base (.dK h), kit_ty (r := false) (by decide +kernel)⟩
    · exact ⟨_, by rw [e]; exact .base (.tup h), kit_ty (r := false) (by decide +kernel)⟩
/-- no tuple, or one without, or with one part -/
theorem Vl.isTup {K : Frag} {H : Hp} {v : V} (h : Vl H v none) : (∃ t, TyX K H v t ∧ kitOne K t (.type "tuple") = some false) ∨ (∃ a xs t, v = .ref a ∧ H a = some (.tup xs) ∧ (xs = [] ∨ ∃ z, xs = [.str z]) ∧ TyX K H v t ∧ kitOne K t (.type "tuple") = some true) := by
  rcases h with (h | ⟨b, h⟩ | ⟨i, h⟩ | ⟨a, xs, e, h⟩ | ⟨a, xs, e, h⟩) | ⟨a, xs, e, h, g⟩
  · exact .inl ⟨_, by rw [h]; exact .base .non, kit_ty (r := false) (by decide +kernel)⟩
  · exact .inl ⟨_, by rw [h]; exact .base (.bl _), kit_ty (r := false) (by decide +kernel)⟩
  · exact .inl ⟨_, by rw [h]; exact .base (.int _), kit_ty (r := false) (by decide +kernel)⟩
  · exact .inl ⟨_, by rw [e]; exact .base (.lst h), kit_ty (r := false) (by decide +kernel)⟩
  · exact .inl ⟨_, by rw [e]; exact .base (.dK h), kit_ty (r := false) (by decide +kernel)⟩
  · exact .inr ⟨a, xs, _, e, h, g, by rw [e]; exact .base (.tup h), kit_ty (r := true) (by decide +kernel)⟩
/-- the small letters -/
def az : List Nat := [97, 98, 99, 100, 101, 102, 103, 104, 105, 106, 107, 108, 109, 110, 111, 112, 113, 114, 115, 116, 117, 118, 119, 120, 121, 122]
/-- whether signs are a told word's name -/
def nameB (x : List Nat) : Bool := (decide (1 ≤ x.length) && decide (x.length ≤ 8)) && ((x.map fun c => decide (c ∈ az)).all id && !(table.lookup (S x)).isSome)
/-- whether signs are a word -/
def wordB (x : List Nat) : Bool := (table.lookup (S x)).isSome || (shufB x || nameB x)
def onT (f : List Nat → Bool) : Option (List Nat) → Bool
  | some x => f x
  | none => false
theorem par_spec : ∀ (x acc t l : List Nat), TL.par [45] acc x = some (t, l) → ∃ p, t = acc ++ p ∧ x = p ++ 45 :: l ∧ 45 ∉ p
  | [], _, _, _, h => by cases h
  | c :: r, acc, t, l, h => by
    have h' : (if TL.pre [45] (c :: r) = true then some (acc, (c :: r).drop 1) else TL.par [45] (acc ++ [c]) r) = some (t, l) := h
    by_cases hp : TL.pre [45] (c :: r) = true
    · rw [if_pos hp] at h'
      cases h'
      have hc : c = 45 := by
        have := eq_of_beq hp
        exact List.head_eq_of_cons_eq this
      exact ⟨[], by simp, by rw [hc]; rfl, by simp⟩
    · rw [if_neg hp] at h'
      obtain ⟨p, e1, e2, e3⟩ := par_spec r _ _ _ h'
      refine ⟨c :: p, by rw [e1]; simp, by rw [e2]; rfl, ?_⟩
      intro z
      rcases List.mem_cons.mp z with z | z
      · exact hp (by rw [← z]; rfl)
      · exact e3 z
theorem par_no : ∀ (x acc : List Nat), TL.par [45] acc x = none → 45 ∉ x
  | [], _, _ => by simp
  | c :: r, acc, h => by
    have h' : (if TL.pre [45] (c :: r) = true then some (acc, (c :: r).drop 1) else TL.par [45] (acc ++ [c]) r) = none := h
    by_cases hp : TL.pre [45] (c :: r) = true
    · rw [if_pos hp] at h'; cases h'
    · rw [if_neg hp] at h'
      intro z
      rcases List.mem_cons.mp z with z | z
      · exact hp (by rw [← z]; rfl)
      · exact par_no r _ h' z
theorem cnt_len (x : List Nat) : PyProof.Rows.cnt 45 x = (x.count 45 : Nat) := by
  induction x with
  | nil => rfl
  | cons n r ih =>
    rw [PyProof.Rows.cnt_cons, ih, List.count_cons]
    by_cases h : n = 45
    · rw [if_pos h, h]; simp; omega
    · rw [if_neg h]; simp [h]
/-- the first stroke -/
theorem index_dash {x p q : List Nat} (hx : x = p ++ 45 :: q) (hp : 45 ∉ p) (hq : 45 ∉ q) : Txt.index0 (S x) (S [45]) = some p.length := by
  obtain ⟨f, hc⟩ := PySem.StrLaws.occ_chain (S x) (S [45]) 1
  have hm : (!(Builtin.Str.occurrences (S x) (S [45]) 0 (S x).length 1).isEmpty) = decide (45 ∈ x) := in_one x 45
  have hx' : (45 : Nat) ∈ x := by rw [hx]; exact List.mem_append.mpr (.inr (List.mem_cons_self ..))
  rw [decide_eq_true hx'] at hm
  unfold Txt.index0
  cases ho : Builtin.Str.occurrences (S x) (S [45]) 0 (S x).length 1 with
  | nil => rw [ho] at hm; cases hm
  | cons i r =>
    rw [ho] at hc
    have h2 := (TL.at_iff (x := S x) (y := S [45]) (List.cons_ne_nil _ _) i).mp hc.2.1
    have h3 : (x.drop i).take 1 = [45] := eq_of_beq h2
    show some i = some p.length
    congr 1
    have h4 : x[i]? = some 45 := by
      have := congrArg (fun l => l[0]?) h3
      simp only [List.getElem?_take, List.getElem?_drop] at this
      simpa using this
    rw [hx] at h4
    by_cases h5 : i < p.length
    · rw [List.getElem?_append_left h5] at h4
      exact absurd (List.mem_of_getElem? h4) hp
    · rw [List.getElem?_append_right (by omega)] at h4
      by_cases h6 : i - p.length = 0
      · omega
      · obtain ⟨j, hj⟩ : ∃ j, i - p.length = j + 1 := ⟨i - p.length - 1, by omega⟩
        rw [hj, List.getElem?_cons_succ] at h4
        exact absurd (List.mem_of_getElem? h4) hq
end Cm
namespace Cm
open PySem PySem.W L2 SX
/-- a text of at most n signs that a text may have -/
structure Tx (z : Str) (n : Nat) : Prop where
  len : z.length ≤ n
  ch : ∀ c ∈ z.cps.toList, c < 1114112
theorem Tx.add {a b : Str} {m n : Nat} (h : Tx a m) (g : Tx b n) : Tx (a ++ b) (m + n) := by
  refine ⟨?_, fun c hc => ?_⟩
  · have e : (a ++ b).length = a.length + b.length := by
      rw [TL.len_tl, TL.tl_append, List.length_append, ← TL.len_tl, ← TL.len_tl]
    have := h.len; have := g.len; omega
  · have e : c ∈ TL.tl a ++ TL.tl b := by rw [← TL.tl_append]; exact hc
    rcases List.mem_append.mp e with e | e
    · exact h.ch c e
    · exact g.ch c e
theorem Tx.mono {a : Str} {m n : Nat} (h : Tx a m) (l : m ≤ n) : Tx a n := ⟨Nat.le_trans h.len l, h.ch⟩
theorem Tx.cut {z : Str} {n : Nat} (h : Tx z n) (lo hi : Option Int) : Tx (cutS z lo hi) n := by
  refine ⟨Nat.le_trans (cutS_length z lo hi) h.len, fun c hc => h.ch c ?_⟩
  have e : c ∈ (z.cps.toList.drop (HT.sIx z.length 0 lo)).take (HT.sIx z.length z.length hi - HT.sIx z.length 0 lo) := hc
  exact List.mem_of_mem_drop (List.mem_of_mem_take e)
theorem Tx.at_ {z : Str} {n : Nat} (h : Tx z n) {i : Int} {c : Nat} (e : atI z.cps.toList i = some c) : Tx ⟨#[c]⟩ 1 := by
  refine ⟨Nat.le_refl 1, fun d hd => ?_⟩
  have hd' : d ∈ [c] := hd
  rw [List.mem_singleton.mp hd']
  refine h.ch c ?_
  unfold atI at e
  cases q : ixN z.cps.toList.length i with
  | none => rw [q] at e; cases e
  | some j => rw [q] at e; exact List.mem_of_getElem? e
theorem Tx.sz {z : Str} {n : Nat} (h : Tx z n) (l : n ≤ 1000 := by decide) : z.length ≤ sizeLine := Nat.le_of_lt (small1000 (Nat.le_trans h.len l))
theorem Tx.sz2 {y z : Str} {m n : Nat} (h : Tx y m) (g : Tx z n) (l : m + n ≤ 1000 := by decide) : y.length + z.length ≤ sizeLine := by
  have := h.len; have := g.len
  exact Nat.le_of_lt (small1000 (by omega))
/-- a written text -/
def litB (z : Str) (n : Nat) : Bool := decide (z.length ≤ n) && z.cps.toList.all fun c => decide (c < 1114112)
theorem Tx.lit {z : Str} {n : Nat} (h : litB z n = true) : Tx z n := by
  unfold litB at h
  rw [Bool.and_eq_true] at h
  exact ⟨of_decide_eq_true h.1, fun c hc => of_decide_eq_true (List.all_eq_true.mp h.2 c hc)⟩
theorem joinL_nil : ∀ l : List (List Nat), TL.joinL [] l = l.flatten
  | [] => rfl
  | [x] => by show x = [x].flatten; simp
  | x :: y :: r => by
    have ih := joinL_nil (y :: r)
    show x ++ ([] ++ TL.joinL [] (y :: r)) = (x :: y :: r).flatten
    rw [ih]; simp
theorem Tx.join {ys : List Str} (h : ∀ y ∈ ys, Tx y 1) : Tx (Txt.join ("" : Str) ys) ys.length := by
  have e0 : ("" : Str) = S [] := by decide +kernel
  have e1 : ys = (ys.map TL.tl).map S := by
    rw [List.map_map]
    conv => lhs; rw [← List.map_id ys]
    exact List.map_congr_left fun y _ => (S_tl y).symm
  have e2 : Txt.join ("" : Str) ys = S ((ys.map TL.tl).flatten) := by
    rw [e0]; conv => lhs; rw [e1]
    rw [join_S, joinL_nil]
  rw [e2]
  refine ⟨?_, fun c hc => ?_⟩
  · rw [S_len, List.length_flatten]
    have : ∀ l : List Str, (∀ y ∈ l, Tx y 1) → ((l.map TL.tl).map List.length).sum ≤ l.length := by
      intro l
      induction l with
      | nil => intro _; exact Nat.le_refl 0
      | cons y r ih =>
        intro hh
        have h1 := (hh y (List.mem_cons_self ..)).len
        rw [TL.len_tl] at h1
        have h2 := ih fun z hz => hh z (List.mem_cons_of_mem _ hz)
        rw [List.map_cons, List.map_cons, List.sum_cons, List.length_cons]
        omega
    exact this ys h
  · have hc' : c ∈ (ys.map TL.tl).flatten := hc
    obtain ⟨l, hl, hcl⟩ := List.mem_flatten.mp hc'
    obtain ⟨y, hy, rfl⟩ := List.mem_map.mp hl
    exact (h y hy).ch c hcl
theorem sum_one {ys : List Str} (h : ∀ y ∈ ys, Tx y 1) (l : ys.length ≤ 1000) : (ys.map (·.length)).sum + ys.length * ("" : Str).length ≤ 16777216 := by
  have e0 : ("" : Str).length = 0 := by decide +kernel
  rw [e0, Nat.mul_zero, Nat.add_zero]
  have : ∀ l : List Str, (∀ y ∈ l, Tx y 1) → (l.map (·.length)).sum ≤ l.length := by
    intro l
    induction l with
    | nil => intro _; exact Nat.le_refl 0
    | cons y r ih =>
      intro hh
      have h1 := (hh y (List.mem_cons_self ..)).len
      have h2 := ih fun z hz => hh z (List.mem_cons_of_mem _ hz)
      rw [List.map_cons, List.sum_cons, List.length_cons]
      omega
  have := this ys h
  omega
end Cm
namespace Cm
open PySem PySem.Spec PyProof.Rows L2
theorem ext_tup (l : Addr) (its : Array Value) (n : Nat) (b : Addr) (js : Array Value) (m : Nat) (dd : Option Addr) (sl : Array (Option Value)) (h0 : ¬(!its.isEmpty && Builtin.List.listTooLong (its.size + js.size)) = true) (h1 : its.size ≤ sizeLine) (h2 : its.size + js.size ≤ sizeLine + 1) :
    Meets (Builtin.«list.extend» ⟨[.ref l, .ref b], []⟩) (fun _ R s => s.heap.get? l = some { cls := .type "list", dict := none, data := .seq its n, slots := #[] } ∧ s.heap.get? b = some { cls := .type "tuple", dict := dd, data := .seq js m, slots := sl } ∧ R (.ok (.ret Value.none)) { s with heap := s.heap.update l (Obj.mapSeq fun x => x ++ js), toks := s.toks }) :=
  .of_wp fun prog w A R s h => by
    obtain ⟨hp, g, d, tk, os⟩ := s
    obtain ⟨hl, hb, h⟩ := h
    have f2 := sub_tuple_tuple; have f3 := sub_list_list; have f4 := sub_tuple_list; have f5 := sub_list_tuple; have f1 := AutoSeq1.idx_int
    have hz : (its ++ js).size ≤ sizeLine + 1 := by rw [Array.size_append]; exact h2
    wp_walk using (wpAny_updateSeq hl rfl (hz := h1) (_hz' := hz)), wpAny_loadPart' hl, wpAny_loadPart' hb
    exact ⟨_, rfl, h⟩
def rExtT (K : PySem.W.Frag) : V → List V → Hp → VK → Prop := fun x vs H Q => ∃ l b xs zs, x = .ref l ∧ vs = [.ref b] ∧ H l = some (.lst xs) ∧ SqT K H b zs ∧ xs.length + zs.length ≤ sizeLine ∧ Q .non (upd H l (.lst (xs ++ zs)))
/-- xs.extend(t), t a tuple -/
theorem mt_extT {X : Cx} : MtM X "list.extend" (rExtT X.K) := by
  intro pins s σ H x vs v us Q I rx rv h
  obtain ⟨l, b, xs, zs, rfl, rfl, hH, hB, hz, q⟩ := h
  cases rx
  obtain ⟨u, rfl, ru⟩ := rv.one
  cases ru
  obtain ⟨z, its, n, r, hl, e⟩ := I.lstM hH
  obtain ⟨js, r2, ⟨ob, e2, c2, m, d2⟩, z2⟩ := I.tuple hB
  obtain ⟨oc, od, dt, sl⟩ := ob
  cases (show oc = .type "tuple" from c2)
  cases (show dt = .seq js.toArray m from d2)
  have l2 := r2.length
  have hsz : its.toArray.size + js.toArray.size ≤ sizeLine := by rw [List.size_toArray, List.size_toArray]; omega
  have hlong : ¬ (!its.toArray.isEmpty && Builtin.List.listTooLong (its.toArray.size + js.toArray.size)) = true := by
    rw [notLongL hsz, Bool.and_false]; exact Bool.false_ne_true
  refine call_meets F.slot_list_extend ⟨_, e, rfl⟩ F.entry_list_extend (F.args_list_extend_2 _ _)
    (ext_tup l its.toArray n b js.toArray m od sl hlong (by rw [List.size_toArray]; omega) (by omega)) ⟨e, e2, ?_⟩
  refine ⟨.non, _, I.lset (its' := its ++ js) hH e (by simp) (r.append r2) ?_, rfl, q⟩
  rw [List.length_append]; omega
end Cm
namespace Cm
open PySem PySem.W L2 SX
/-! ### data of tuples, texts and numbers as it lies in the heap -/
mutual
inductive Tr (K : Frag) (H : Hp) : V → PyData → Prop
  | int (i : Int) : Tr K H (.int i) (.int i)
  | str (x : Str) : Tr K H (.str x) (.str x)
  | tup {a : Addr} {xs : List V} {ds : List PyData} : SqT K H a xs → TrAll K H xs ds → Tr K H (.ref a) (.tuple ds)
inductive TrAll (K : Frag) (H : Hp) : List V → List PyData → Prop
  | nil : TrAll K H [] []
  | cons {v : V} {vs : List V} {d : PyData} {ds : List PyData} : Tr K H v d → TrAll K H vs ds → TrAll K H (v :: vs) (d :: ds)
end
/-- tuples are kept -/
def TKs (K : Frag) (H H' : Hp) : Prop := ∀ a xs, SqT K H a xs → SqT K H' a xs
theorem TKs.refl {K : Frag} (H : Hp) : TKs K H H := fun _ _ h => h
theorem TKs.trans {K : Frag} {H H1 H2 : Hp} (a : TKs K H H1) (b : TKs K H1 H2) : TKs K H H2 := fun c x h => b c x (a c x h)
theorem TKs.of {K : Frag} {H H' : Hp} (s : Same H H') : TKs K H H' := fun a xs h => by
  rcases h with (h | ⟨o, h⟩) | h
  · exact .inl (.inl (s _ _ h))
  · exact .inl (.inr ⟨o, s _ _ h⟩)
  · exact .inr h
theorem TKs.kp {K : Frag} {L : List Addr} {H H' : Hp} (k : Kp L H H') (hl : ∀ b ∈ L, ∃ xs, H b = some (.lst xs)) : TKs K H H' := fun a xs h => by
  have nm : ∀ o, H a = some o → (∀ ys, o ≠ .lst ys) → a ∉ L := fun o e n z => by
    obtain ⟨ys, ey⟩ := hl a z
    rw [ey] at e
    exact n ys (Option.some.inj e).symm
  rcases h with (h | ⟨o, h⟩) | h
  · exact .inl (.inl (k _ _ (nm _ h (fun _ z => by cases z)) h))
  · exact .inl (.inr ⟨o, k _ _ (nm _ h (fun _ z => by cases z)) h⟩)
  · exact .inr h
theorem TKs.lst {K : Frag} {H : Hp} {d : Addr} {xs ys : List V} (h : H d = some (.lst xs)) : TKs K H (upd H d (.lst ys)) :=
  TKs.kp (L := [d]) (fun b o m e => by rw [upd_ne (fun z => m (List.mem_singleton.mpr z))]; exact e) (fun b hb => by rw [List.mem_singleton.mp hb]; exact ⟨xs, h⟩)
mutual
theorem Tr.mono {K : Frag} {H H' : Hp} (k : TKs K H H') : ∀ {v : V} {d : PyData}, Tr K H v d → Tr K H' v d
  | _, _, .int i => .int i
  | _, _, .str x => .str x
  | _, _, .tup h t => .tup (k _ _ h) (TrAll.mono k t)
theorem TrAll.mono {K : Frag} {H H' : Hp} (k : TKs K H H') : ∀ {v : List V} {d : List PyData}, TrAll K H v d → TrAll K H' v d
  | _, _, .nil => .nil
  | _, _, .cons h t => .cons (Tr.mono k h) (TrAll.mono k t)
end
mutual
theorem Tr.dp {K : Frag} {H : Hp} : ∀ {v : V} {d : PyData}, Tr K H v d → Dp K H v d
  | _, _, .int i => .int i
  | _, _, .str x => .str x
  | _, _, .tup h t => .tup h (TrAll.dp t)
theorem TrAll.dp {K : Frag} {H : Hp} : ∀ {v : List V} {d : List PyData}, TrAll K H v d → DpAll K H v d
  | _, _, .nil => .nil
  | _, _, .cons h t => .cons (Tr.dp h) (TrAll.dp t)
end
theorem TrAll.len {K : Frag} {H : Hp} : ∀ {v : List V} {d : List PyData}, TrAll K H v d → v.length = d.length
  | _, _, .nil => rfl
  | _, _, .cons _ t => congrArg (· + 1) (TrAll.len t)
theorem TrAll.append {K : Frag} {H : Hp} : ∀ {v v' : List V} {d d' : List PyData}, TrAll K H v d → TrAll K H v' d' → TrAll K H (v ++ v') (d ++ d')
  | _, _, _, _, .nil, h => h
  | _, _, _, _, .cons h t, h' => .cons h (TrAll.append t h')
theorem TrAll.get {K : Frag} {H : Hp} : ∀ {v : List V} {d : List PyData} {i : Nat} {x : V}, TrAll K H v d → v[i]? = some x → ∃ y, d[i]? = some y ∧ Tr K H x y
  | _, _, i, x, .nil, h => by simp at h
  | _, _, 0, x, .cons h t, e => ⟨_, rfl, by cases e; exact h⟩
  | _, _, i + 1, x, .cons h t, e => by
    rw [List.getElem?_cons_succ] at e ⊢
    exact TrAll.get t e
theorem TrAll.snoc {K : Frag} {H : Hp} {v : List V} {d : List PyData} {x : V} (h : TrAll K H (v ++ [x]) d) : ∃ d' y, d = d' ++ [y] ∧ TrAll K H v d' ∧ Tr K H x y := by
  induction v generalizing d with
  | nil =>
    cases h with
    | cons a b => cases b; exact ⟨[], _, rfl, .nil, a⟩
  | cons u r ih =>
    cases h with
    | cons a b =>
      obtain ⟨d', y, rfl, h1, h2⟩ := ih b
      exact ⟨_ :: d', y, rfl, .cons a h1, h2⟩
/-! ### things, rows, stacks: depth, words in all, size -/
mutual
inductive Thg : Nat → Nat → Nat → PyData → Prop
  | num {k : Nat} (n : Int) (h0 : 0 ≤ n) (h1 : n < 10 ^ 12) : Thg k 0 1 (.tuple [.str "number", .int n])
  | row {k k' w m : Nat} {ws : List PyData} : Rw k w m ws → k < k' → Thg k' w (m + 1) (.tuple [.str "row", .tuple ws])
  | lst {k k' w m : Nat} {ts : List PyData} : Stk k w m ts → k < k' → Thg k' w (m + 1) (.tuple [.str "list", .tuple ts])
inductive Rw : Nat → Nat → Nat → List PyData → Prop
  | nil {k : Nat} : Rw k 0 0 []
  | txt {k w m : Nat} {z : Str} {ws : List PyData} : Tx z 100 → Rw k w m ws → Rw k (w + 1) (m + 1) (.str z :: ws)
  | push {k w m w' m' : Nat} {t : PyData} {ws : List PyData} : Thg k w m t → Rw k w' m' ws → Rw k (w + w' + 1) (m + m' + 1) (.tuple [.str "push", t] :: ws)
inductive Stk : Nat → Nat → Nat → List PyData → Prop
  | nil {k : Nat} : Stk k 0 0 []
  | cons {k w m w' m' : Nat} {t : PyData} {ts : List PyData} : Thg k w m t → Stk k w' m' ts → Stk k (w + w') (m + m') (t :: ts)
end
theorem Thg.up {k k' w m : Nat} {t : PyData} (h : Thg k w m t) (l : k ≤ k') : Thg k' w m t := by
  cases h with
  | num n h0 h1 => exact .num n h0 h1
  | row h q => exact .row h (Nat.lt_of_lt_of_le q l)
  | lst h q => exact .lst h (Nat.lt_of_lt_of_le q l)
theorem Rw.up {k k' : Nat} (l : k ≤ k') : ∀ {ws : List PyData} {w m : Nat}, Rw k w m ws → Rw k' w m ws
  | _, _, _, .nil => .nil
  | _, _, _, .txt h t => .txt h (Rw.up l t)
  | _, _, _, .push h t => .push (h.up l) (Rw.up l t)
theorem Stk.up {k k' : Nat} (l : k ≤ k') : ∀ {ws : List PyData} {w m : Nat}, Stk k w m ws → Stk k' w m ws
  | _, _, _, .nil => .nil
  | _, _, _, .cons h t => .cons (h.up l) (Stk.up l t)
theorem Rw.append {k : Nat} : ∀ {a b : List PyData} {w m w' m' : Nat}, Rw k w m a → Rw k w' m' b → Rw k (w + w') (m + m') (a ++ b)
  | _, _, _, _, _, _, .nil, h => by rw [Nat.zero_add, Nat.zero_add]; exact h
  | _, _, _, _, w', m', .txt (w := w) (m := m) h t, h' => by
    have := Rw.txt h (Rw.append t h')
    rw [show w + 1 + w' = w + w' + 1 by omega, show m + 1 + m' = m + m' + 1 by omega]
    exact this
  | _, _, _, _, w', m', .push (w := w) (m := m) (w' := x) (m' := y) h t, h' => by
    have := Rw.push h (Rw.append t h')
    rw [show w + x + 1 + w' = w + (x + w') + 1 by omega, show m + y + 1 + m' = m + (y + m') + 1 by omega]
    exact this
theorem Stk.append {k : Nat} : ∀ {a b : List PyData} {w m w' m' : Nat}, Stk k w m a → Stk k w' m' b → Stk k (w + w') (m + m') (a ++ b)
  | _, _, _, _, _, _, .nil, h => by rw [Nat.zero_add, Nat.zero_add]; exact h
  | _, _, _, _, _, _, .cons h t, h' => by
    rw [Nat.add_assoc, Nat.add_assoc]; exact .cons h (Stk.append t h')
theorem Stk.snoc {k : Nat} : ∀ {a : List PyData} {t : PyData} {w m : Nat}, Stk k w m (a ++ [t]) → ∃ w1 m1 w2 m2, Stk k w1 m1 a ∧ Thg k w2 m2 t ∧ w = w1 + w2 ∧ m = m1 + m2
  | [], t, w, m, h => by
    have h' : Stk k w m [t] := h
    cases h' with
    | cons a b => cases b; exact ⟨0, 0, _, _, .nil, a, by omega, by omega⟩
  | x :: r, t, w, m, h => by
    have h' : Stk k w m (x :: (r ++ [t])) := h
    cases h' with
    | cons a q =>
      obtain ⟨w1, m1, w2, m2, a', b, rfl, rfl⟩ := Stk.snoc q
      exact ⟨_, _, w2, m2, .cons a a', b, by omega, by omega⟩
theorem Thg.pos {k w m : Nat} {t : PyData} (h : Thg k w m t) : 1 ≤ m := by
  cases h <;> omega
theorem Stk.len {k : Nat} : ∀ {a : List PyData} {w m : Nat}, Stk k w m a → a.length ≤ m
  | _, _, _, .nil => Nat.le_refl 0
  | _, _, _, .cons h t => by
    have h1 := Stk.len t
    have h2 := h.pos
    rw [List.length_cons]; omega
theorem Rw.len {k : Nat} : ∀ {a : List PyData} {w m : Nat}, Rw k w m a → a.length ≤ m
  | _, _, _, .nil => Nat.le_refl 0
  | _, _, _, .txt h t => by have := Rw.len t; rw [List.length_cons]; omega
  | _, _, _, .push h t => by have := Rw.len t; rw [List.length_cons]; omega
/-- what a word pushes -/
def psh : PyData → Option PyData
  | .tuple [_, t] => some t
  | _ => none
theorem Rw.psh {k : Nat} : ∀ {ws : List PyData} {w m : Nat}, Rw k w m ws → ∃ w' m', Stk k w' m' (ws.filterMap psh) ∧ w = ws.length + w' ∧ m' ≤ m
  | _, _, _, .nil => ⟨0, 0, .nil, rfl, Nat.le_refl 0⟩
  | _, _, _, .txt h t => by
    obtain ⟨w', m', a, b, c⟩ := Rw.psh t
    exact ⟨w', m', a, by rw [List.length_cons]; omega, by omega⟩
  | _, _, _, .push h t => by
    obtain ⟨w', m', a, b, c⟩ := Rw.psh t
    exact ⟨_, _, .cons h a, by rw [List.length_cons]; omega, by omega⟩
theorem Rw.at_ {k : Nat} : ∀ {ws : List PyData} {w m i : Nat} {d : PyData}, Rw k w m ws → ws[i]? = some d → (∃ z, d = .str z) ∨ (∃ t, d = .tuple [.str "push", t])
  | _, _, _, i, d, .nil, h => by simp at h
  | _, _, _, 0, d, .txt (z := z) h t, e => .inl ⟨z, by cases e; rfl⟩
  | _, _, _, 0, d, .push (t := t) h _, e => .inr ⟨t, by cases e; rfl⟩
  | _, _, _, i + 1, d, .txt h t, e => Rw.at_ t e
  | _, _, _, i + 1, d, .push h t, e => Rw.at_ t e
theorem mid {n : Nat} (h : n ≤ 1000000) : n ≤ sizeLine := Nat.le_trans h (by decide)
theorem midlt {n : Nat} (h : n < 1000000) : n < sizeLine := Nat.lt_of_lt_of_le h (by decide)
theorem tyTup {K : Frag} {H : Hp} {a : Addr} {xs : List V} (h : SqT K H a xs) : TyX K H (.ref a) (.type "tuple") := by
  rcases h with (h | ⟨o, h⟩) | ⟨o, _, _, e, c, _⟩
  · exact .base (.tup h)
  · exact .fTuple h
  · exact .kTuple e c
mutual
theorem Thg.lay : ∀ {k w m : Nat} {t : PyData}, Thg k w m t → PyData.canLay0 t = true ∧ PyData.depth t ≤ 3 * k + 1
  | k, _, _, _, .num n h0 h1 => ⟨by show (PyData.canLay0 (.str "number") && (true && true)) = true; decide +kernel, Nat.le_add_left 1 _⟩
  | k', _, _, _, .row (k := k) (ws := ws) h l => by
    obtain ⟨a, b⟩ := Rw.lay h
    refine ⟨?_, ?_⟩
    · show (PyData.canLay0 (.str "row") && (PyData.canLayAll0 ws && true)) = true
      rw [a]; decide +kernel
    · show max 0 (max (PyData.depthAll ws + 1) 0) + 1 ≤ _
      omega
  | k', _, _, _, .lst (k := k) (ts := ts) h l => by
    obtain ⟨a, b⟩ := Stk.lay h
    refine ⟨?_, ?_⟩
    · show (PyData.canLay0 (.str "list") && (PyData.canLayAll0 ts && true)) = true
      rw [a]; decide +kernel
    · show max 0 (max (PyData.depthAll ts + 1) 0) + 1 ≤ _
      omega
theorem Rw.lay : ∀ {k w m : Nat} {ws : List PyData}, Rw k w m ws → PyData.canLayAll0 ws = true ∧ PyData.depthAll ws ≤ 3 * k + 2
  | k, _, _, _, .nil => ⟨rfl, Nat.zero_le _⟩
  | k, _, _, _, .txt (z := z) (ws := ws) h t => by
    obtain ⟨a, b⟩ := Rw.lay t
    refine ⟨?_, ?_⟩
    · show (z.cps.all (· < 0x110000) && PyData.canLayAll0 ws) = true
      rw [a, Bool.and_true, ← Array.all_toList, List.all_eq_true]
      intro c hc
      exact decide_eq_true (h.ch c hc)
    · show max 0 (PyData.depthAll ws) ≤ _
      omega
  | k, _, _, _, .push (t := t) (ws := ws) h r => by
    obtain ⟨a, b⟩ := Rw.lay r
    obtain ⟨a', b'⟩ := Thg.lay h
    refine ⟨?_, ?_⟩
    · show ((PyData.canLay0 (.str "push") && (PyData.canLay0 t && true)) && PyData.canLayAll0 ws) = true
      rw [a, a']; decide +kernel
    · show max (max 0 (max (PyData.depth t) 0) + 1) (PyData.depthAll ws) ≤ _
      omega
theorem Stk.lay : ∀ {k w m : Nat} {ts : List PyData}, Stk k w m ts → PyData.canLayAll0 ts = true ∧ PyData.depthAll ts ≤ 3 * k + 1
  | k, _, _, _, .nil => ⟨rfl, Nat.zero_le _⟩
  | k, _, _, _, .cons (t := t) (ts := ts) h r => by
    obtain ⟨a, b⟩ := Stk.lay r
    obtain ⟨a', b'⟩ := Thg.lay h
    refine ⟨?_, ?_⟩
    · show (PyData.canLay0 t && PyData.canLayAll0 ts) = true
      rw [a, a']; rfl
    · show max (PyData.depth t) (PyData.depthAll ts) ≤ _
      omega
end
theorem Stk.shaped {k w m : Nat} {ts : List PyData} (h : Stk k w m ts) (l : k ≤ 20) : SeqAt.shaped (.list ts) = true := by
  obtain ⟨a, b⟩ := h.lay
  show (PyData.canLayAll0 ts && decide (PyData.depthAll ts + 1 ≤ 64)) = true
  rw [a, Bool.true_and]; exact decide_eq_true (by omega)
end Cm
namespace Cm
open PySem PySem.W L2 SX
/-! ### maps: what stays lowest -/
/-- the thing c stays where it is and stands nowhere behind -/
def Stays (ps : List Int) (c : Nat) : Prop := ps[c]? = some (c : Int) ∧ (c : Int) ∉ ps.drop (c + 1)
/-- as many as c may be cut -/
def IsCut (ps : List Int) (c : Nat) : Prop := (∀ j, j < c → Stays ps j) ∧ ¬ Stays ps c
def cutM (c : Nat) (ps : List Int) : List Int := (ps.drop c).map fun p => p - (c : Int)
theorem IsCut.uniq {ps : List Int} {c d : Nat} (a : IsCut ps c) (b : IsCut ps d) : c = d := by
  rcases Nat.lt_trichotomy c d with h | h | h
  · exact absurd (b.1 c h) a.2
  · exact h
  · exact absurd (a.1 d h) b.2
theorem Stays.lt {ps : List Int} {c : Nat} (h : Stays ps c) : c < ps.length := by
  have := h.1
  exact (List.getElem?_eq_some_iff.mp this).1
theorem cutM_zero (ps : List Int) : cutM 0 ps = ps := by
  unfold cutM
  rw [List.drop_zero]
  have : (fun p : Int => p - ((0 : Nat) : Int)) = id := by funext p; show p - 0 = p; omega
  rw [this, List.map_id]
theorem cutM_length (c : Nat) (ps : List Int) : (cutM c ps).length ≤ ps.length := by
  unfold cutM
  rw [List.length_map, List.length_drop]; omega
theorem mem_cutM {c : Nat} {ps : List Int} {x : Int} : x ∈ cutM c ps ↔ x + c ∈ ps.drop c := by
  unfold cutM
  rw [List.mem_map]
  constructor
  · rintro ⟨y, hy, rfl⟩
    rw [show y - (c : Int) + (c : Int) = y by omega]; exact hy
  · intro h
    exact ⟨_, h, by omega⟩
theorem IsCut.least {ps : List Int} {c : Nat} (h : IsCut ps c) : IsCut (cutM c ps) 0 := by
  refine ⟨fun j hj => absurd hj (Nat.not_lt_zero j), fun s => h.2 ?_⟩
  obtain ⟨s1, s2⟩ := s
  have e1 : (cutM c ps)[0]? = (ps[c]?).map fun p => p - (c : Int) := by
    unfold cutM
    rw [List.getElem?_map, List.getElem?_drop, Nat.add_zero]
  rw [e1] at s1
  constructor
  · cases e : ps[c]? with
    | none => rw [e] at s1; cases s1
    | some p =>
      rw [e] at s1
      have s1' : p - (c : Int) = ((0 : Nat) : Int) := Option.some.inj s1
      congr 1
      omega
  · intro m
    refine s2 ?_
    have e2 : (cutM c ps).drop (0 + 1) = (ps.drop (c + 1)).map fun p => p - (c : Int) := by
      unfold cutM
      rw [← List.map_drop, List.drop_drop]
    rw [e2, List.mem_map]
    exact ⟨_, m, by omega⟩
/-- the numbers from 0 on -/
def nums (m : Nat) : List Int := (List.range m).map fun i => ((i : Nat) : Int)
theorem nums_length (m : Nat) : (nums m).length = m := by unfold nums; rw [List.length_map, List.length_range]
theorem nums_get {m i : Nat} (h : i < m) : (nums m)[i]? = some (i : Int) := by
  unfold nums
  rw [List.getElem?_map, List.getElem?_range h]; rfl
theorem mem_nums {m : Nat} {x : Int} : x ∈ nums m ↔ 0 ≤ x ∧ x < m := by
  unfold nums
  rw [List.mem_map]
  constructor
  · rintro ⟨i, hi, rfl⟩
    have := List.mem_range.mp hi
    omega
  · rintro ⟨h1, h2⟩
    exact ⟨x.toNat, List.mem_range.mpr (by omega), by omega⟩
theorem mem_drop_nums {m c : Nat} {x : Int} (h : x ∈ (nums m).drop c) : (c : Int) ≤ x := by
  obtain ⟨i, hi⟩ := List.mem_iff_getElem?.mp h
  rw [List.getElem?_drop] at hi
  have hl := (List.getElem?_eq_some_iff.mp hi).1
  rw [nums_length] at hl
  rw [nums_get hl] at hi
  have := Option.some.inj hi
  omega
def moreM (m : Nat) (ps : List Int) : List Int := nums m ++ ps.map fun p => p + (m : Int)
theorem stays_more {m c : Nat} {ps : List Int} : Stays (moreM m ps) (m + c) ↔ Stays ps c := by
  unfold Stays moreM
  have e1 : (nums m ++ ps.map fun p => p + (m : Int))[m + c]? = (ps[c]?).map fun p => p + (m : Int) := by
    rw [List.getElem?_append_right (by rw [nums_length]; omega), nums_length, Nat.add_sub_cancel_left, List.getElem?_map]
  have e2 : (nums m ++ ps.map fun p => p + (m : Int)).drop (m + c + 1) = (ps.drop (c + 1)).map fun p => p + (m : Int) := by
    rw [List.drop_append, nums_length, List.drop_of_length_le (by rw [nums_length]; omega), List.nil_append, List.map_drop]
    congr 1; omega
  rw [e1, e2]
  constructor
  · rintro ⟨h1, h2⟩
    constructor
    · cases e : ps[c]? with
      | none => rw [e] at h1; cases h1
      | some p =>
        rw [e] at h1
        have h1' : p + (m : Int) = ((m + c : Nat) : Int) := Option.some.inj h1
        congr 1; omega
    · intro z
      exact h2 (List.mem_map.mpr ⟨_, z, by omega⟩)
  · rintro ⟨h1, h2⟩
    constructor
    · rw [h1]
      show some ((c : Int) + (m : Int)) = _
      congr 1; omega
    · intro z
      obtain ⟨y, hy, e⟩ := List.mem_map.mp z
      exact h2 (by rw [show (c : Int) = y by omega]; exact hy)
theorem IsCut.more {m c : Nat} {ps : List Int} (h : IsCut ps c) (h0 : ∀ p ∈ ps, (0 : Int) ≤ p) : IsCut (moreM m ps) (m + c) := by
  refine ⟨fun j hj => ?_, fun s => h.2 (stays_more.mp s)⟩
  by_cases hm : j < m
  · constructor
    · unfold moreM
      rw [List.getElem?_append_left (by rw [nums_length]; exact hm), nums_get hm]
    · unfold moreM
      rw [List.drop_append]
      intro z
      rcases List.mem_append.mp z with z | z
      · have := mem_drop_nums z; omega
      · obtain ⟨y, hy, e⟩ := List.mem_map.mp (List.mem_of_mem_drop z)
        have := h0 y hy
        omega
  · have : j = m + (j - m) := by omega
    rw [this]
    exact stays_more.mpr (h.1 _ (by omega))
theorem cutM_more (m c : Nat) (ps : List Int) : cutM (m + c) (moreM m ps) = cutM c ps := by
  unfold cutM moreM
  rw [List.drop_append, nums_length, List.drop_of_length_le (by rw [nums_length]; omega), List.nil_append, ← List.map_drop, List.map_map, Nat.add_sub_cancel_left]
  congr 1
  funext p
  show p + (m : Int) - ((m + c : Nat) : Int) = p - (c : Int)
  omega
theorem count_stays {ps : List Int} {c : Nat} (h : ∀ j, j < c → Stays ps j) (hc : ps[c]? = some (c : Int)) : ps.count (c : Int) = 1 ↔ (c : Int) ∉ ps.drop (c + 1) := by
  have e : ps = ps.take c ++ ((c : Int) :: ps.drop (c + 1)) := by
    obtain ⟨h1, h2⟩ := List.getElem?_eq_some_iff.mp hc
    rw [← h2, List.getElem_cons_drop, List.take_append_drop]
  have e0 : (ps.take c).count (c : Int) = 0 := by
    rw [List.count_eq_zero]
    intro z
    obtain ⟨i, hi⟩ := List.mem_iff_getElem?.mp z
    rw [List.getElem?_take] at hi
    by_cases hl : i < c
    · rw [if_pos hl, (h i hl).1] at hi
      have := Option.some.inj hi
      omega
    · rw [if_neg hl] at hi; cases hi
  have : ps.count (c : Int) = (ps.drop (c + 1)).count (c : Int) + 1 := by
    conv => lhs; rw [e]
    rw [List.count_append, e0, List.count_cons_self]; omega
  rw [this]
  constructor
  · intro q
    exact List.count_eq_zero.mp (by omega)
  · intro q
    rw [List.count_eq_zero.mpr q]
theorem in_ints (c : Int) : ∀ ns : List Int, inV (.int c) (ns.map V.int) = decide (c ∈ ns)
  | [] => rfl
  | n :: r => by
    have ih : ((r.map V.int).any fun y => eqV y (.int c)) = decide (c ∈ r) := in_ints c r
    show ((n == c) || (r.map V.int).any fun y => eqV y (.int c)) = _
    rw [ih]
    by_cases h : n = c
    · subst h
      rw [beq_self_eq_true, Bool.true_or, decide_eq_true (List.mem_cons_self ..)]
    · rw [show (n == c) = false from beq_eq_false_iff_ne.mpr h, Bool.false_or]
      congr 1
      refine propext ⟨fun m => List.mem_cons_of_mem _ m, fun m => ?_⟩
      rcases List.mem_cons.mp m with z | z
      · exact absurd z.symm h
      · exact z
theorem flat_ints : ∀ ns : List Int, (ns.map V.int).all flatV = true
  | [] => rfl
  | n :: r => by
    show (true && (r.map V.int).all flatV) = true
    rw [flat_ints r]; rfl
/-- a map as data: a number and a tuple of numbers -/
def mapD (n : Int) (ps : List Int) : PyData := .tuple [.int n, .tuple (ps.map PyData.int)]
theorem mapD_lay (n : Int) (ps : List Int) : PyData.canLay0 (mapD n ps) = true := by
  show (PyData.canLay0 (PyData.int n) && (PyData.canLayAll0 (ps.map PyData.int) && true)) = true
  rw [lay_ints]; rfl
theorem mapD_shaped (n : Int) (ps : List Int) : SeqAt.shaped (mapD n ps) = true := by
  show (PyData.canLay0 (mapD n ps) && decide (PyData.depth (mapD n ps) ≤ 64)) = true
  rw [mapD_lay]
  have : PyData.depth (mapD n ps) = 2 := by
    show max 0 (max (PyData.depthAll (ps.map PyData.int) + 1) 0) + 1 = 2
    rw [deep_ints]; rfl
  rw [this]; rfl
/-- a map stands at p -/
def MapAt (K : Frag) (H : Hp) (p : Addr) (n : Int) (ps : List Int) : Prop := ∃ t, SqT K H p [.int n, .ref t] ∧ SqT K H t (ps.map V.int)
/-! ### rules -/
theorem Same.seqT {K : PySem.W.Frag} {H H' : Hp} {a : Addr} {xs : List V} (e : Same H H') (h : SqT K H a xs) : SqT K H' a xs := by
  rcases h with (h | ⟨o, h⟩) | h
  · exact .inl (.inl (e _ _ h))
  · exact .inl (.inr ⟨o, e _ _ h⟩)
  · exact .inr h
theorem MapAt.same {K : Frag} {H H' : Hp} {p : Addr} {n : Int} {ps : List Int} (h : MapAt K H p n ps) (s : Same H H') : MapAt K H' p n ps := by
  obtain ⟨t, h1, h2⟩ := h
  exact ⟨t, Same.seqT s h1, Same.seqT s h2⟩
theorem MapAt.dp {K : Frag} {H : Hp} {p : Addr} {n : Int} {ps : List Int} (h : MapAt K H p n ps) : Dp K H (.ref p) (mapD n ps) := by
  obtain ⟨t, h1, h2⟩ := h
  exact .tup h1 (.cons (.int _) (.cons (.tup h2 (dp_ints ps)) .nil))
section
variable {X : Cx}
def rCntT (K : PySem.W.Frag) : V → List V → Hp → VK → Prop := fun x xs H Q => ∃ (p : Addr) (ns : List Int) (k : Int), x = .ref p ∧ xs = [.int k] ∧ SqT K H p (ns.map V.int) ∧ Q (.int (ns.count k : Nat)) H
theorem mt_tcount : MtR X "tuple.count" (rCntT X.K) := by
  intro pins s σ H x xs v us Q I rx rxs h
  obtain ⟨p, ns, k, rfl, rfl, hs, q⟩ := h
  cases rx
  obtain ⟨u, rfl, ru⟩ := rxs.one
  obtain ⟨t, rfl⟩ := ru
  obtain ⟨its, rv, ⟨⟨cls, dd, data, sl⟩, ho, hc, n, hd⟩, hlen⟩ := I.tuple hs
  simp only at hc hd
  subst hc hd
  have hi := ints_of_vals rv
  refine call_meets PySem.F.slot_tuple_count ⟨_, ho, rfl⟩ PySem.F.entry_tuple_count (PySem.F.args_tuple_count_2 _ _)
    (SeqAt.tuple_countAt p its.toArray n dd sl (.int k t) (eqk k)) ⟨ho, fun y hy => (eqk_gives hi y (by simpa using hy)).at _ _, ?_⟩
  have ec : its.toArray.toList.countP (eqk k) = ns.count k := eqk_count hi
  refine ⟨.int (ns.count k : Nat), H, I.tok _, ⟨s.toks, ?_⟩, q⟩
  show Value.int ((its.toArray.toList.countP (eqk k) : Nat) : Int) s.toks = Value.int ((ns.count k : Nat) : Int) s.toks
  rw [ec]
end
/-! ### a tuple's method: the tuple is kept as the object that was made, which has no dict -/
/-- a tuple of xs stands at p, as an object without a dict -/
def TupO (H : Hp) (p : Addr) (xs : List V) : Prop := ∃ o : Obj, o.dict = none ∧ H p = some (.frz o (.tup xs))
theorem TupO.sq {K : Frag} {H : Hp} {p : Addr} {xs : List V} (h : TupO H p xs) : SqT K H p xs := by
  obtain ⟨o, _, h⟩ := h
  exact .inl (.inr ⟨o, h⟩)
theorem TupO.same {H H' : Hp} {p : Addr} {xs : List V} (h : TupO H p xs) (s : Same H H') : TupO H' p xs := by
  obtain ⟨o, d, h⟩ := h
  exact ⟨o, d, s _ _ h⟩
theorem TupO.kp {H H' : Hp} {d p : Addr} {xs ys : List V} (h : TupO H p xs) (hd : H d = some (.lst ys)) (s : Kp [d] H H') : TupO H' p xs := by
  obtain ⟨o, e, h⟩ := h
  exact ⟨o, e, s p _ (fun z => by rw [List.mem_singleton.mp z, hd] at h; cases h) h⟩
section
open PySem.Spec PyProof.Rows
variable {X : Cx}
theorem call_tuple_ofD : CallR X (.type "tuple") (fun xs H Q => ∃ p ys, xs = [.ref p] ∧ SqL X.K H p ys ∧ ∀ (l : Addr) (o : Obj), H l = none → o.dict = none → Q (.ref l) (upd H l (.frz o (.tup ys)))) := by
  intro pins s σ H xs us Q I r h
  obtain ⟨p, ys, rfl, hq, q⟩ := h
  obtain ⟨u, rfl, rx⟩ := r.one
  cases rx
  obtain ⟨its, r', pl, hz⟩ := I.list hq
  have hlen := r'.length
  refine call_tuple_list pl.isList (fun h' kp => ?_) (by simp only [List.size_toArray] <;> omega)
  have I1 : Inv X pins σ H { s with heap := h' } := I.kept (t' := s.toks) kp
  have I2 : Inv X pins σ (upd H h'.objs.size (.frz { cls := .type "tuple", data := .seq its.toArray } (.tup ys))) { s with heap := h'.push { cls := .type "tuple", data := .seq its.toArray } } :=
    I1.laid (t' := s.toks) (fun b o e => Heap.get?_push_of_some _ e) (Nat.le_refl _) (show ObjOk X.prog X.w _ _ _ (.frz { cls := .type "tuple", data := .seq its.toArray } (.tup ys)) from ⟨Heap.get?_push_size _ rfl, hz, its, r', IsTup.new _ _⟩)
  exact ⟨.ref h'.objs.size, _, I2, rfl, q _ _ (I1.hok.fresh (Nat.le_refl _)) rfl⟩
def tBMT (r : V → List V → Hp → VK → Prop) (to : TE) (t : TA) : TE := fun σ H Q => to σ H fun x H1 => (∃ p ys, x = .ref p ∧ TupO H1 p ys) ∧ t σ H1 fun xs H2 => r x xs H2 Q
variable {o e : Expr} {es : List Expr} {to : TE} {t : TA} {name : Str} {apos cpos : Pos} {id : String} {r : V → List V → Hp → VK → Prop}
theorem pe_bmT (slot : Slot "tuple" name id) (hty : typeOf (.builtin id) = pure (.type "method_descriptor")) (hm : MtR X id r) (ho : PE X o to) (ha : PA X (e :: es) t)
    (hbase : attributeBase o name X.env (eval o X.env) = eval o X.env := by rfl)
    (hfew : ((backTo cpos (starEach (e :: es) X.env)).all (fun x => !x.1) && (backToKw cpos (keywordEach [] X.env)).all (fun x => x.1.isSome)
      && decide ((e :: es).length + ([] : List Keyword).length + (if ([] : List Keyword).isEmpty then 0 else 1) < 30)) = true := by rfl)
    (hline : (apos.endLine == cpos.line) = true := by rfl) (hs : starEach (e :: es) X.env = (false, eval e X.env) :: starEach es X.env := by rfl) (hplain : (backTo cpos (starEach es X.env)).any (·.1) = false := by rfl) :
    PE X (.Call (.Attribute o name apos) (e :: es) [] cpos) (tBMT r to t) := by
  refine ⟨fun pins s σ H Q I h => ?_⟩
  refine wpAny_Call_method_late hbase hfew hline rfl (thn (ho.run pins s σ H _ I h) fun v s1 ⟨x, H1, I1, r1, ty, q1⟩ => ?_)
  obtain ⟨p, ys, ex, ob, hd, hp⟩ := ty
  subst ex
  obtain rfl : v = Value.ref p := r1
  obtain ⟨hg, ho2⟩ := I1.hok p _ hp
  obtain ⟨_, its, rv, ob', hg', hc, _⟩ := ho2
  have e1 : ob = ob' := Option.some.inj (hg.symm.trans hg')
  subst e1
  refine ⟨"tuple", id, PySem.F.plainAttrs_tuple, slot, hty, ⟨ob, hg, hc⟩, fun a e => ?_, ?_⟩
  · cases e
    exact ⟨ob, hg, hd⟩
  have hA := ha.run cpos pins s1 σ H1 _ I1 q1
  rw [hs] at hA ⊢
  refine Calls.callWith_builtin (by show (false || (backTo cpos (starEach es X.env)).any (·.1)) = false; rw [hplain] <;> rfl) (Calls.evalArgs_plain ?_)
  exact thn hA fun us s2 ⟨vs, H2, I2, r2, q2⟩ => hm pins s2 σ H2 (.ref p) vs (.ref p) us Q I2 rfl r2 q2
end
/-- a comprehension over a tuple, each element a plain value, none left out -/
theorem lc_mapT {K : Frag} {a : Addr} {xs : List V} (f : V → V) {g : TG} {te : TE} {vs : List Nat} {σ : St} {H1 : Hp} {D : Addr} {Qd : Hp → Prop} (ha : SqT K H1 a xs) (hD : H1 D = none) (hl : xs.length ≤ 1000000)
    (hs : ∀ x H (R : V → Hp → Prop), x ∈ xs → Same H1 H → R (f x) H → g x (wipe σ vs) H fun σ2 H2 => wipe σ2 vs = wipe σ vs ∧ te σ2 H2 R) (hd : Qd (upd H1 D (.lst (xs.map f)))) :
    ∃ W : Nat → Nat → Hp → Prop, (∃ m, W 0 m (upd H1 D (.lst []))) ∧ ∀ i m H, W i m H →
      ((Itt K a).stop i H ∧ Qd H) ∨ ((Itt K a).go i H ∧ ∃ Nx : Hp → Prop, (∀ H', Nx H' → ∃ m', m' < m ∧ W (i + 1) m' H') ∧ ∀ x H', (Itt K a).yld i H x H' → g x (wipe σ vs) H' fun σ2 H2 => wipe σ2 vs = wipe σ vs ∧ tYes σ2 H2 fun b H3 =>
        if b = true then te σ2 H3 fun y H4 => ∃ acc, H4 D = some (.lst acc) ∧ acc.length < sizeLine ∧ Nx (upd H4 D (.lst (acc ++ [y]))) else Nx H3) := by
  refine lc_tup (K := K) (a := a) (xs := xs) (fun i H => H = upd H1 D (.lst ((xs.take i).map f))) rfl (fun i H _ e => ?_) ?_ ?_
  · rw [e]; exact Same.seqT (same_new hD _) ha
  · rintro i x H hx rfl
    refine hs x _ (fun y H4 => ∃ acc, H4 D = some (.lst acc) ∧ acc.length < sizeLine ∧ upd H4 D (.lst (acc ++ [y])) = upd H1 D (.lst ((xs.take (i + 1)).map f))) (List.mem_of_getElem? hx) (same_new hD _) ⟨_, upd_same, ?_, ?_⟩
    · rw [List.length_map, List.length_take]; rw [sizeLine_eq]; omega
    · rw [upd_upd, List.take_add_one, hx, List.map_append]; rfl
  · rintro H rfl
    rw [List.take_length]
    exact hd
/-- and over a list -/
theorem lc_mapL {K : Frag} {a : Addr} {xs : List V} (f : V → V) {g : TG} {te : TE} {vs : List Nat} {σ : St} {H1 : Hp} {D : Addr} {Qd : Hp → Prop} (ha : SqL K H1 a xs) (hD : H1 D = none) (hl : xs.length ≤ 1000000)
    (hs : ∀ x H (R : V → Hp → Prop), x ∈ xs → Same H1 H → R (f x) H → g x (wipe σ vs) H fun σ2 H2 => wipe σ2 vs = wipe σ vs ∧ te σ2 H2 R) (hd : Qd (upd H1 D (.lst (xs.map f)))) :
    ∃ W : Nat → Nat → Hp → Prop, (∃ m, W 0 m (upd H1 D (.lst []))) ∧ ∀ i m H, W i m H →
      ((Itl K a).stop i H ∧ Qd H) ∨ ((Itl K a).go i H ∧ ∃ Nx : Hp → Prop, (∀ H', Nx H' → ∃ m', m' < m ∧ W (i + 1) m' H') ∧ ∀ x H', (Itl K a).yld i H x H' → g x (wipe σ vs) H' fun σ2 H2 => wipe σ2 vs = wipe σ vs ∧ tYes σ2 H2 fun b H3 =>
        if b = true then te σ2 H3 fun y H4 => ∃ acc, H4 D = some (.lst acc) ∧ acc.length < sizeLine ∧ Nx (upd H4 D (.lst (acc ++ [y]))) else Nx H3) := by
  refine lc_list (K := K) (a := a) (xs := xs) (fun i H => H = upd H1 D (.lst ((xs.take i).map f))) rfl (fun i H _ e => ?_) ?_ ?_
  · rw [e]; exact Same.seq (same_new hD _) ha
  · rintro i x H hx rfl
    refine hs x _ (fun y H4 => ∃ acc, H4 D = some (.lst acc) ∧ acc.length < sizeLine ∧ upd H4 D (.lst (acc ++ [y])) = upd H1 D (.lst ((xs.take (i + 1)).map f))) (List.mem_of_getElem? hx) (same_new hD _) ⟨_, upd_same, ?_, ?_⟩
    · rw [List.length_map, List.length_take]; rw [sizeLine_eq]; omega
    · rw [upd_upd, List.take_add_one, hx, List.map_append]; rfl
  · rintro H rfl
    rw [List.take_length]
    exact hd
theorem cut_from {α : Type} (f : α → V) (xs : List α) (i : Nat) : cutV (xs.map f) (some (i : Int)) none = (xs.drop i).map f := by
  unfold cutV
  rw [HT.sIx_nat, HT.sIx_none, List.length_map, ← List.map_drop, ← List.map_take]
  congr 1
  by_cases h : i ≤ xs.length
  · rw [Nat.min_eq_left h, List.take_of_length_le (by rw [List.length_drop]; omega)]
  · rw [Nat.min_eq_right (by omega), List.drop_of_length_le (Nat.le_refl _), List.drop_of_length_le (by omega), List.take_nil]
theorem cut_upto {α : Type} (f : α → V) (xs : List α) (i : Nat) : cutV (xs.map f) none (some (i : Int)) = (xs.take i).map f := by
  unfold cutV
  rw [HT.sIx_nat, HT.sIx_none, List.length_map, ← List.map_drop, ← List.map_take, List.drop_zero, Nat.sub_zero]
  congr 1
  by_cases h : i ≤ xs.length
  · rw [Nat.min_eq_left h]
  · rw [Nat.min_eq_right (by omega), List.take_of_length_le (Nat.le_refl _), List.take_of_length_le (by omega)]
/-- a tuple's slice t[i:], as what it holds -/
theorem slT_from {K : Frag} {H : Hp} {a : Addr} {α : Type} {f : α → V} {xs : List α} {i : Nat} {Q : VK} (ha : SqT K H a (xs.map f)) (q : ∀ p H', Same H H' → SqT K H' p ((xs.drop i).map f) → Q (.ref p) H') : rSlA K (.ref a) (some (i : Int)) none H Q := by
  refine ⟨a, _, rfl, ha, fun c => ?_, fun _ p np => ?_⟩
  · have c1 := c.1
    rw [HT.sIx_nat, List.length_map] at c1
    have : xs.drop i = xs := by
      rcases Nat.eq_zero_or_pos i with h | h
      · rw [h, List.drop_zero]
      · have : xs.length = 0 := by omega
        rw [List.length_eq_zero_iff.mp this, List.drop_nil]
    refine q a H (Same.refl H) ?_
    rw [this]; exact ha
  · rw [cut_from]
    exact q p _ (same_new np _) (SqT.of upd_same)
theorem slT_fromP {K : Frag} {H : Hp} {a : Addr} {α : Type} {f : α → V} {xs : List α} {i : Nat} {Q : VK} {σ : St} (ha : SqT K H a (xs.map f)) (q : ∀ p H', Same H H' → SqT K H' p ((xs.drop i).map f) → Q (.ref p) H') : tNoPart σ H fun u H3 => rSlA K (.ref a) (some (i : Int)) u H3 Q := slT_from ha q
theorem slT_upto {K : Frag} {H : Hp} {a : Addr} {α : Type} {f : α → V} {xs : List α} {i : Nat} {Q : VK} (ha : SqT K H a (xs.map f)) (q : ∀ p H', Same H H' → SqT K H' p ((xs.take i).map f) → Q (.ref p) H') : rSlA K (.ref a) none (some (i : Int)) H Q := by
  refine ⟨a, _, rfl, ha, fun c => ?_, fun _ p np => ?_⟩
  · have c1 := c.2
    rw [HT.sIx_nat, List.length_map] at c1
    refine q a H (Same.refl H) ?_
    rw [List.take_of_length_le (by omega)]; exact ha
  · rw [cut_upto]
    exact q p _ (same_new np _) (SqT.of upd_same)
/-- two tuples' sum, by what they hold -/
theorem catT_map {K : Frag} {H : Hp} {a b : Addr} {xs ys : List V} {Q : VK} (ha : SqT K H a xs) (hb : SqT K H b ys) (hl : xs.length + ys.length ≤ 1000000)
    (q : ∀ p H', Same H H' → SqT K H' p (xs ++ ys) → Q (.ref p) H') : rCatA K (.ref a) (.ref b) H Q := by
  refine ⟨a, b, xs, ys, rfl, rfl, ha, hb, by rw [sizeLine_eq]; omega, fun e => ?_, fun _ e => ?_, fun _ _ p np => ?_⟩
  · subst e; exact q b H (Same.refl H) hb
  · subst e; exact q a H (Same.refl H) (by rw [List.append_nil]; exact ha)
  · exact q p _ (same_new np _) (SqT.of upd_same)
end Cm
namespace Cm
open PySem PySem.W L2 SX
/-! ### xs[a:] = ys, another list -/
section
open PySem.Spec PyProof.Rows
variable {prog : Program} {w : World} {A : Around} {E : Value → Shared → Prop} {s : Shared}
theorem bounds_tail {a n : Nat} (h : a ≤ n) : sliceBounds (some (a : Int)) none none n = ((a : Int), (n : Int), 1) := by
  have h1 : ¬ ((a : Int) < 0) := by omega
  simp only [sliceBounds, Option.getD_none, h1, if_false, show (1 : Int) > 0 by decide, if_true]
  congr 1; omega
theorem setItem_tail {l b sl : Addr} {items new : Array Value} {n n2 a : Nat} {vl vu : Value} {Q : Unit → Shared → Prop} (e : s.heap.get? l = some { cls := .type "list", data := .seq items n }) (e2 : s.heap.get? b = some { cls := .type "list", data := .seq new n2 })
    (hne : l ≠ b) (hs : s.heap.IsSliceOf sl vl vu .none) (pl : IsPart vl (some (a : Int))) (pu : IsPart vu none) (ha : a ≤ items.size) (hsz : items.size + new.size ≤ sizeLine)
    (h : Q () { s with heap := s.heap.update l (Obj.mapSeq fun xs => xs.extract 0 a ++ new ++ xs.extract items.size xs.size) }) : wpAny (model prog w) A (setItem (.ref l) (.ref sl) (.ref b)) Q E s := by
  have tl : s.TypeIs (.ref l) "list" := (PySem.IsL.isList e).typeIs
  have tb : s.TypeIs (.ref b) "list" := (PySem.IsL.isList e2).typeIs
  obtain ⟨os, hos, hcs, hds⟩ := id hs
  have ts : s.TypeIs (.ref sl) "slice" := ⟨os, hos, hcs⟩
  have st0 : ¬ ((rawPart none == rawInt 0) = true) := Bool.false_ne_true
  have sr : Builtin.List.listSameRef (.ref l) (.ref b) = false := by
    unfold Builtin.List.listSameRef; exact beq_eq_false_iff_ne.mpr hne
  have mx : (max (a : Int) (items.size : Int)).toNat = items.size := by omega
  have long' : ((fun xs : Array Value => xs.extract 0 a ++ new ++ xs.extract items.size xs.size) items).size ≤ sizeLine + 1 := by
    simp only [Array.size_append, Array.size_extract]; omega
  unfold setItem
  (try with_reducible refine wpAny_holding ?_); (first | refine wpAny_bind (wpAny_pure ?_) | skip)
  refine wpAny_bind (wpAny_sequenceKey tl (by decide) (wpAny_bind (wpAny_callSpecial?_slot (name := Str.ofString "__setitem__") tl slot_list_setitem (wpAny_call_entry slot_list_setitem tl entry_list_setitem ?_ (args_list_setitem _ _ _)))))
  show wpAny _ _ (Builtin.List.listSubscript? (.ref sl) >>= _) _ _ s
  refine wpAny_bind ?_; unfold Builtin.List.listSubscript?
  refine wpAny_bind (wpAny_specialOf ts slice_no_index ?_)
  simp only [Option.isNone_none, if_true]
  refine wpAny_pure ?_
  show wpAny _ _ (typeOf (.ref sl) >>= _) _ _ s
  refine wpAny_bind (wpAny_typeOf ts ?_)
  first | rw [if_neg (by decide)] | refine PySem.W.KFB.if_not (by decide) ?_
  rw [listSliceParts_eq]
  refine wpAny_bind (wpAny_bind (wpAny_field hos hds (x := .none) rfl (wpAny_bind (wpAny_listPart .none ?_)))); rw [if_neg st0]
  refine wpAny_bind (wpAny_field hos hds (x := vl) rfl (wpAny_bind (wpAny_listPart pl (wpAny_bind (wpAny_field hos hds (x := vu) rfl (wpAny_bind (wpAny_listPart pu (wpAny_pure ?_))))))))
  first | simp only [sr, Bool.false_eq_true, if_false] | refine PySem.W.KFB.if_not sr ?_ | (dsimp only; rw [if_neg (by rw [sr]; exact Bool.false_ne_true)])
  refine wpAny_bind (m := Builtin.List.listAllItems (.ref b) "must assign iterable to extended slice") ?_; unfold Builtin.List.listAllItems
  refine wpAny_bind (wpAny_typeOf tb ?_)
  first | refine PySem.W.KFB.if_so (by decide) ?_ | rw [if_pos (by decide)] | simp only [beq_self_eq_true, Bool.true_or, if_true]
  unfold Builtin.List.listItems
  refine wpAny_bind (wpAny_seqItems e2 rfl (wpAny_pure (wpAny_bind (wpAny_bind (wpAny_seqItems e rfl (wpAny_pure ?_))))))
  refine wpAny_bind (wpAny_of_eq ((sliceIndices_raw (some (a : Int)) none none items.size (by simp)).trans (congrArg (pure : Int × Int × Int → Sem (Int × Int × Int)) (bounds_tail ha))) ?_)
  show wpAny _ _ (if ((1 : Int) == 1) = true then _ else _) _ _ s
  rw [if_pos (by decide)]; refine wpAny_bind (wpAny_rule ?_)
  first | simp only [notLongL hsz, Bool.false_eq_true, if_false] | refine PySem.W.KFB.if_not (notLongL hsz) ?_
  (first | refine wpAny_bind (wpAny_pure ?_) | skip)
  show wpAny _ _ (updateSeq l (fun xs => xs.extract 0 ((a : Int)).toNat ++ new ++ xs.extract (max (a : Int) (items.size : Int)).toNat xs.size) >>= _) _ _ s
  rw [mx, Int.toNat_natCast]
  refine wpAny_bind (wpAny_updateSeq (hz := Nat.le_trans (Nat.le_add_right _ _) hsz) (_hz' := long') e rfl (wpAny_bind (wpAny_letGo ?_)))
  first | exact wpAny_bind (wpAny_pure (wpAny_pure ⟨.none, rfl, wpAny_pure h⟩)) | exact wpAny_pure ⟨.none, rfl, wpAny_pure h⟩
variable {X : Cx}
/-- o[lo:] = v -/
def gTail (to tl : TE) : TG := fun v σ H Q => to σ H fun x H1 => tl σ H1 fun y H2 => ∃ (l b : Addr) (a : Int) (xs ys : List V), x = .ref l ∧ v = .ref b ∧ y = .int a ∧ H2 l = some (.lst xs) ∧ H2 b = some (.lst ys) ∧ l ≠ b ∧ 0 ≤ a ∧ a ≤ xs.length ∧ xs.length + ys.length ≤ sizeLine ∧ Q σ (upd H2 l (.lst (xs.take a.toNat ++ ys)))
theorem pg_tail {o lo : Expr} {to tl : TE} {p2 pos : Pos} (ho : PE X o to) (hi : PE X lo tl) : PG X (.Subscript o (.Slice (some lo) none none p2) pos) (gTail to tl) := by
  refine ⟨fun pins s σ H v u Q I r h => ?_⟩
  rw [arm_assign_Subscript]
  refine wpAny_bind (wpAny_holding (thn (ho.run pins s σ H _ I h) fun ov s1 ⟨x, H1, I1, r1, q1⟩ => wpAny_bind (wpAny_holding ?_)))
  refine wpAny_Slice ?_
  rw [evalPart_some]
  refine thn (hi.run pins s1 σ H1 _ I1 q1) fun vl s2 ⟨y, H2, I2, r2, q2⟩ => ?_
  rw [evalPart_none]
  refine wpAny_pure (wpAny_pure ?_)
  obtain ⟨l, b, a, xs, ys, rfl, rfl, rfl, hl, hb, ne, a0, a1, hz, q⟩ := q2
  cases r1
  obtain rfl : u = Value.ref b := r
  obtain ⟨t, rfl⟩ := r2
  have I3 : Inv X pins σ H2 { s2 with heap := s2.heap.push { cls := .type "slice", data := .fields #[.int a t, .none, .none] } } := I2.kept (t' := s2.toks) fun b ob q => Heap.get?_push_of_some _ q
  refine wpAny_bind (wpAny_standAt (wpAny_bind (wpAny_holding ?_)))
  obtain ⟨z, its, n, rv, hln, e⟩ := I3.lstM hl
  obtain ⟨z2, its2, n2, rv2, hln2, e2⟩ := I3.lstM hb
  obtain ⟨a', rfl⟩ := Int.eq_ofNat_of_zero_le a0
  refine setItem_tail (a := a') e e2 ne (Heap.IsSliceOf.new ..) (.int _ _) .none (by rw [List.size_toArray]; omega) (by rw [List.size_toArray, List.size_toArray]; omega) (wpAny_release ⟨σ, _, ?_, q⟩)
  refine I3.lset (its' := its.take a' ++ its2) (t' := s2.toks) hl e ?_ (Vals.append (rv.take _) rv2) ?_
  · have := splice_eq its its2 a' its.length
    rw [List.drop_of_length_le (Nat.le_refl _), List.append_nil] at this
    rw [← this, List.size_toArray]
  · rw [List.length_append, List.length_take]; omega
end
end Cm
namespace Cm
open PySem PySem.W L2 SX
/-! ### shuffles by their signs -/
/-- the first n letters -/
def abc (n : Nat) : List Nat := abc8.take n
theorem abc_len {n : Nat} (h : n ≤ 8) : (abc n).length = n := by
  unfold abc; rw [List.length_take]; show min n 8 = n; omega
theorem lit_abc : ("abcdefgh" : Str) = S abc8 := by decide +kernel
/-- a shuffle's signs: n letters taken, l left -/
def shuf (n : Nat) (l : List Nat) : List Nat := abc n ++ (45 :: l)
structure Shuf (n : Nat) (l : List Nat) : Prop where
  n8 : n ≤ 8
  l12 : l.length ≤ 12
  inn : ∀ c ∈ l, c ∈ abc n
theorem abc_sub {n : Nat} {c : Nat} (h : c ∈ abc n) : c ∈ abc8 := List.mem_of_mem_take h
theorem no45 {c : Nat} (h : c ∈ abc8) : c ≠ 45 := by
  intro e; subst e; revert h; decide
theorem shuf_par {n : Nat} {l : List Nat} (h : Shuf n l) : TL.par [45] [] (shuf n l) = some (abc n, l) :=
  par_head (c := 45) (sep := []) (p := abc n) l (fun z => no45 (abc_sub z) rfl)
theorem shuf_spl {n : Nat} {l : List Nat} (h : Shuf n l) : TL.spl [45] 0 [] (shuf n l) = [abc n, l] := by
  have e := spl_free (sep := [45]) (p := abc n) l (List.cons_ne_nil _ _) (free_head (fun z => no45 (abc_sub z) rfl))
  have e2 := spl_join (c := 45) (sep := []) (parts := [l]) (List.cons_ne_nil _ _) (fun p hp => by
    rw [List.mem_singleton.mp hp]; exact fun z => no45 (abc_sub (h.inn _ z)) rfl)
  have e3 : TL.joinL [45] [l] = l := rfl
  rw [e3] at e2
  exact e.trans (by rw [e2])
theorem shuf_len {n : Nat} {l : List Nat} (h : Shuf n l) : (shuf n l).length ≤ 21 := by
  unfold shuf; rw [List.length_append, abc_len h.n8, List.length_cons]; have := h.n8; have := h.l12; omega
theorem shuf_ok {n : Nat} {l : List Nat} (h : Shuf n l) : shufB (shuf n l) = true := by
  unfold shufB
  rw [shuf_par h]
  show (decide (abc8.take (abc n).length = abc n) && (decide (l.length ≤ 12) && (l.map fun c => decide (c ∈ abc n)).all id)) = true
  rw [abc_len h.n8, decide_eq_true (show abc8.take n = abc n from rfl), decide_eq_true h.l12, Bool.true_and, Bool.true_and, List.all_eq_true]
  intro b hb
  obtain ⟨c, hc, rfl⟩ := List.mem_map.mp hb
  exact decide_eq_true (h.inn c hc)
theorem index_abc : ∀ c ∈ abc8, Txt.index0 (S abc8) (S [c]) = some (c - 97) := by decide +kernel
theorem abc_at : ∀ n ≤ 8, ∀ c ∈ abc n, c - 97 < n := by decide +kernel
/-! ### a row of shuffles as a map -/
/-- a word: how many letters are taken, and the signs that are left -/
abbrev Wd := Nat × List Nat
def wV (x : Wd) : V := .str (S (shuf x.1 x.2))
def pk (x : Wd) : List Nat := x.2.map fun c => c - 97
def Good (ws : List Wd) : Prop := ∀ x ∈ ws, Shuf x.1 x.2
theorem pk_lt {x : Wd} (h : Shuf x.1 x.2) {p : Nat} (hp : p ∈ pk x) : p < x.1 := by
  obtain ⟨c, hc, rfl⟩ := List.mem_map.mp hp
  exact abc_at x.1 h.n8 c (h.inn c hc)
theorem pk_len {x : Wd} (h : Shuf x.1 x.2) : (pk x).length ≤ 12 := by unfold pk; rw [List.length_map]; exact h.l12
theorem getD_at {l : List Int} {i : Nat} (h : i < l.length) : l.getD i 0 = l[i] := by
  rw [List.getD_eq_getElem?_getD, List.getElem?_eq_getElem h]; rfl
/-- k things more from beneath -/
def up (need : Nat) : Nat → List Int → List Int
  | 0, ts => ts
  | k + 1, ts => ((need + k : Nat) : Int) :: up need k ts
theorem up_len (need : Nat) : ∀ (k : Nat) (ts : List Int), (up need k ts).length = ts.length + k
  | 0, ts => rfl
  | k + 1, ts => by
    show (up need k ts).length + 1 = _
    rw [up_len need k ts]; omega
theorem up_add (need : Nat) : ∀ (j k : Nat) (ts : List Int), up (need + k) j (up need k ts) = up need (k + j) ts
  | 0, k, ts => rfl
  | j + 1, k, ts => by
    show ((need + k + j : Nat) : Int) :: up (need + k) j (up need k ts) = ((need + (k + j) : Nat) : Int) :: up need (k + j) ts
    rw [up_add need j k ts, Nat.add_assoc]
theorem up_mem {need : Nat} : ∀ {k : Nat} {ts : List Int}, (∀ t ∈ ts, 0 ≤ t ∧ t < need) → ∀ t ∈ up need k ts, 0 ≤ t ∧ t < ((need + k : Nat) : Int)
  | 0, ts, h, t, ht => h t ht
  | k + 1, ts, h, t, ht => by
    rcases List.mem_cons.mp ht with z | z
    · omega
    · have := up_mem h t z; omega
theorem up_take (need m : Nat) : ∀ (k : Nat) (ts : List Int), (up need k ts).take (m + k) = up need k (ts.take m)
  | 0, ts => rfl
  | k + 1, ts => by
    show List.take (m + k + 1) (((need + k : Nat) : Int) :: up need k ts) = ((need + k : Nat) : Int) :: up need k (ts.take m)
    rw [List.take_succ_cons, up_take need m k ts]
theorem up_drop (need m : Nat) : ∀ (k : Nat) (ts : List Int), (up need k ts).drop (m + k) = ts.drop m
  | 0, ts => rfl
  | k + 1, ts => by
    show List.drop (m + k + 1) (((need + k : Nat) : Int) :: up need k ts) = _
    rw [List.drop_succ_cons, up_drop need m k ts]
theorem up_append (need : Nat) : ∀ (k : Nat) (ts us : List Int), up need k (ts ++ us) = up need k ts ++ us
  | 0, ts, us => rfl
  | k + 1, ts, us => by
    show ((need + k : Nat) : Int) :: up need k (ts ++ us) = (((need + k : Nat) : Int) :: up need k ts) ++ us
    rw [up_append need k ts us]; rfl
/-- what a word leaves: taken from the last n -/
def left (n : Nat) (ps : List Nat) (us : List Int) : List Int := us.take (us.length - n) ++ ps.map fun p => (us.drop (us.length - n)).getD p 0
def wstep (st : Nat × List Int) (x : Wd) : Nat × List Int := (st.1 + (x.1 - st.2.length), left x.1 (pk x) (up st.1 (x.1 - st.2.length) st.2))
def wrun (st : Nat × List Int) (ws : List Wd) : Nat × List Int := ws.foldl wstep st
def wmap (ws : List Wd) : Nat × List Int := ((wrun (0, []) ws).1, (wrun (0, []) ws).2.map fun t => ((wrun (0, []) ws).1 : Int) - 1 - t)
theorem left_len (n : Nat) (ps : List Nat) (us : List Int) : (left n ps us).length = us.length - n + ps.length := by
  unfold left
  rw [List.length_append, List.length_map, List.length_take]; omega
theorem left_mem {n : Nat} {ps : List Nat} {us : List Int} (hn : n ≤ us.length) (hp : ∀ p ∈ ps, p < n) {t : Int} (h : t ∈ left n ps us) : t ∈ us := by
  unfold left at h
  rcases List.mem_append.mp h with z | z
  · exact List.mem_of_mem_take z
  · obtain ⟨p, hp', rfl⟩ := List.mem_map.mp z
    have hl : p < (us.drop (us.length - n)).length := by rw [List.length_drop]; have := hp p hp'; omega
    rw [getD_at hl]
    exact List.mem_of_mem_drop (List.getElem_mem hl)
/-- a state: as many as need, each thing one of these -/
structure Stt (st : Nat × List Int) (m : Nat) : Prop where
  need : st.1 ≤ 8 * m
  len : st.2.length ≤ 12 * m
  inn : ∀ t ∈ st.2, 0 ≤ t ∧ t < st.1
theorem Stt.step {st : Nat × List Int} {m : Nat} (h : Stt st m) {x : Wd} (hx : Shuf x.1 x.2) : Stt (wstep st x) (m + 1) := by
  have n8 := hx.n8
  have l12 := pk_len hx
  have hl := up_len st.1 (x.1 - st.2.length) st.2
  refine ⟨?_, ?_, ?_⟩
  · show st.1 + (x.1 - st.2.length) ≤ _
    have := h.need; omega
  · show (left x.1 (pk x) _).length ≤ _
    rw [left_len, hl]; have := h.len; omega
  · intro t ht
    exact up_mem h.inn t (left_mem (by rw [hl]; omega) (fun p hp => pk_lt hx hp) ht)
theorem Stt.run : ∀ {ws : List Wd} {st : Nat × List Int} {m : Nat}, Stt st m → Good ws → Stt (wrun st ws) (m + ws.length)
  | [], st, m, h, _ => h
  | x :: r, st, m, h, g => by
    have := Stt.run (h.step (g x (List.mem_cons_self ..))) (fun y hy => g y (List.mem_cons_of_mem _ hy))
    rw [show m + (x :: r).length = m + 1 + r.length by rw [List.length_cons]; omega]
    exact this
theorem stt0 : Stt (0, []) 0 := ⟨Nat.le_refl _, Nat.le_refl _, fun t h => nomatch h⟩
theorem wmap_ok {ws : List Wd} (g : Good ws) : (wmap ws).1 ≤ 8 * ws.length ∧ (wmap ws).2.length ≤ 12 * ws.length ∧ ∀ p ∈ (wmap ws).2, 0 ≤ p ∧ p < (wmap ws).1 := by
  have h := stt0.run g
  rw [Nat.zero_add] at h
  refine ⟨h.need, ?_, ?_⟩
  · show ((wrun (0, []) ws).2.map _).length ≤ _
    rw [List.length_map]; exact h.len
  · intro p hp
    obtain ⟨t, ht, rfl⟩ := List.mem_map.mp hp
    have := h.inn t ht
    show 0 ≤ ((wrun (0, []) ws).1 : Int) - 1 - t ∧ ((wrun (0, []) ws).1 : Int) - 1 - t < ((wrun (0, []) ws).1 : Int)
    omega
theorem wrun_need (ws : List Wd) : ∀ st : Nat × List Int, st.1 ≤ (wrun st ws).1 := by
  induction ws with
  | nil => intro st; exact Nat.le_refl _
  | cons x r ih =>
    intro st
    refine Nat.le_trans ?_ (ih (wstep st x))
    show st.1 ≤ st.1 + _
    omega
theorem wrun_append (st : Nat × List Int) (a b : List Wd) : wrun st (a ++ b) = wrun (wrun st a) b := List.foldl_append ..
/-- a state with things put beneath goes on with things beneath -/
theorem wstep_up (need k : Nat) (ts : List Int) {x : Wd} (hx : Shuf x.1 x.2) : ∃ j, wstep (need + k, up need k ts) x = ((wstep (need, ts) x).1 + j, up (wstep (need, ts) x).1 j (wstep (need, ts) x).2) := by
  have lu := up_len need k ts
  refine ⟨(k + (x.1 - (ts.length + k))) - (x.1 - ts.length), ?_⟩
  generalize ej : (k + (x.1 - (ts.length + k))) - (x.1 - ts.length) = j
  have e1 : k + (x.1 - (ts.length + k)) = (x.1 - ts.length) + j := by omega
  unfold wstep
  show (need + k + (x.1 - (up need k ts).length), left x.1 (pk x) (up (need + k) (x.1 - (up need k ts).length) (up need k ts))) = (need + (x.1 - ts.length) + j, up (need + (x.1 - ts.length)) j (left x.1 (pk x) (up need (x.1 - ts.length) ts)))
  rw [lu, up_add, e1, ← up_add]
  generalize eu : up need (x.1 - ts.length) ts = us
  have lus : us.length = ts.length + (x.1 - ts.length) := by rw [← eu, up_len]
  congr 1
  · omega
  · unfold left
    rw [up_len, show us.length + j - x.1 = us.length - x.1 + j by omega, up_take, up_drop, up_append]
theorem wrun_up : ∀ {ws : List Wd} (need k : Nat) (ts : List Int), Good ws → ∃ j, wrun (need + k, up need k ts) ws = ((wrun (need, ts) ws).1 + j, up (wrun (need, ts) ws).1 j (wrun (need, ts) ws).2)
  | [], need, k, ts, _ => ⟨k, rfl⟩
  | x :: r, need, k, ts, g => by
    obtain ⟨j, e⟩ := wstep_up need k ts (g x (List.mem_cons_self ..))
    obtain ⟨i, e2⟩ := wrun_up (ws := r) (wstep (need, ts) x).1 j (wstep (need, ts) x).2 (fun y hy => g y (List.mem_cons_of_mem _ hy))
    refine ⟨i, ?_⟩
    show wrun (wstep (need + k, up need k ts) x) r = _
    rw [e, e2]; rfl
theorem up_moreM (N : Nat) : ∀ (j : Nat) (T : List Int), (up N j T).map (fun t => ((N + j : Nat) : Int) - 1 - t) = moreM j (T.map fun t => (N : Int) - 1 - t) := by
  intro j T
  have h1 : ∀ (i : Nat) (T : List Int), (up N i T) = (up N i []) ++ T := fun i T => by
    have := up_append N i [] T
    rw [List.nil_append] at this; exact this
  rw [h1, List.map_append]
  unfold moreM
  congr 1
  · have : ∀ i, i ≤ j → (up N i []).map (fun t => ((N + j : Nat) : Int) - 1 - t) = (nums j).drop (j - i) := by
      intro i
      induction i with
      | zero =>
        intro _
        rw [Nat.sub_zero, List.drop_of_length_le (by rw [nums_length]; exact Nat.le_refl _)]; rfl
      | succ i ih =>
        intro hi
        show (((N + j : Nat) : Int) - 1 - ((N + i : Nat) : Int)) :: (up N i []).map _ = _
        rw [ih (by omega)]
        have hl : j - (i + 1) < (nums j).length := by rw [nums_length]; omega
        rw [List.drop_eq_getElem_cons hl]
        congr 1
        · have := nums_get (m := j) (i := j - (i + 1)) (by omega)
          rw [List.getElem?_eq_getElem hl] at this
          rw [Option.some.inj this]; omega
        · congr 1; omega
    have h := this j (Nat.le_refl _)
    rw [Nat.sub_self, List.drop_zero] at h
    exact h
  · rw [List.map_map]
    congr 1
    funext t
    show ((N + j : Nat) : Int) - 1 - t = (N : Int) - 1 - t + (j : Int)
    omega
/-- a shuffle that leaves things as they lie -/
def Still (x : Wd) : Prop := pk x = List.range x.1
theorem wstep_still (st : Nat × List Int) {x : Wd} (h : Still x) : wstep st x = (st.1 + (x.1 - st.2.length), up st.1 (x.1 - st.2.length) st.2) := by
  unfold wstep
  congr 1
  have hl := up_len st.1 (x.1 - st.2.length) st.2
  generalize up st.1 (x.1 - st.2.length) st.2 = us at hl
  unfold left
  rw [h]
  have e : (List.range x.1).map (fun p => (us.drop (us.length - x.1)).getD p 0) = us.drop (us.length - x.1) := by
    apply List.ext_getElem
    · rw [List.length_map, List.length_range, List.length_drop]; omega
    · intro i h1 h2
      rw [List.getElem_map, List.getElem_range, getD_at h2]
  rw [e, List.take_append_drop]
/-- a word that does nothing, put in: the map with things beneath -/
theorem wmap_still {a b : List Wd} {x : Wd} (h : Still x) (gb : Good b) : ∃ j, wmap (a ++ x :: b) = ((wmap (a ++ b)).1 + j, moreM j (wmap (a ++ b)).2) := by
  have e1 : wrun (0, []) (a ++ x :: b) = wrun (wstep (wrun (0, []) a) x) b := by
    rw [wrun_append]; rfl
  have e2 : wrun (0, []) (a ++ b) = wrun (wrun (0, []) a) b := wrun_append ..
  rw [wstep_still _ h] at e1
  obtain ⟨j, ej⟩ := wrun_up (ws := b) (wrun (0, []) a).1 (x.1 - (wrun (0, []) a).2.length) (wrun (0, []) a).2 gb
  rw [ej] at e1
  refine ⟨j, ?_⟩
  unfold wmap
  rw [e1, e2]
  show (_, List.map _ (up _ j _)) = _
  rw [up_moreM]
theorem wmap_need (a b : List Wd) : (wmap a).1 ≤ (wmap (a ++ b)).1 := by
  show (wrun (0, []) a).1 ≤ (wrun (0, []) (a ++ b)).1
  rw [wrun_append]
  exact wrun_need b _
end Cm
namespace Cm
open PySem PySem.W L2 SX
section
open PySem.Spec PyProof.Rows
theorem mul_one (l : Addr) (items : Array Value) (n : Nat) (dd : Option Addr) (sl : Array (Option Value)) (u : Tok) :
    Meets (Builtin.«tuple.__mul__» ⟨[.ref l, .int 1 u], []⟩) (fun _ R s => s.heap.get? l = some { cls := .type "tuple", dict := dd, data := .seq items n, slots := sl } ∧ R (.ok (.ret (Value.ref l))) s) :=
  .of_wp fun prog w A R s h => by
    obtain ⟨hp, g, d, tk, os⟩ := s
    obtain ⟨hl, h⟩ := h
    have f1 := AutoSeq1.idx_int
    have c0 : (decide ((1 : Int) < -(2 ^ 63)) || decide ((1 : Int) ≥ 2 ^ 63)) = false := by decide
    have c1 : (items.isEmpty || (1 : Int) == 1) = true := by rw [Bool.or_eq_true]; exact .inr rfl
    wp_walk using wpAny_loadPart' hl
    repeat (first
      | (refine wpAny_ite_false (decide_eq_false (by rw [c0]; exact Bool.false_ne_true)) ?_; wp_walk using wpAny_loadPart' hl)
      | (refine wpAny_ite_true (decide_eq_true c1) ?_; wp_walk using wpAny_loadPart' hl))
    exact ⟨_, rfl, h⟩
theorem mul_none (l : Addr) (items : Array Value) (n : Nat) (dd : Option Addr) (sl : Array (Option Value)) (u : Tok) (hi : items.isEmpty = false) :
    Meets (Builtin.«tuple.__mul__» ⟨[.ref l, .int 0 u], []⟩) (fun _ R s => s.heap.get? l = some { cls := .type "tuple", dict := dd, data := .seq items n, slots := sl } ∧
      R (.ok (.ret (Value.ref s.heap.objs.size))) { s with heap := s.heap.push { cls := Value.type "tuple", data := Data.seq #[] }, toks := s.toks }) :=
  .of_wp fun prog w A R s h => by
    obtain ⟨hp, g, d, tk, os⟩ := s
    obtain ⟨hl, h⟩ := h
    have f1 := AutoSeq1.idx_int
    have c0 : (decide ((0 : Int) < -(2 ^ 63)) || decide ((0 : Int) ≥ 2 ^ 63)) = false := by decide
    have c1 : (items.isEmpty || (0 : Int) == 1) = false := by rw [hi]; rfl
    have c2 : (decide ((0 : Int) ≤ 0) || items.isEmpty) = true := by rw [Bool.or_eq_true]; exact .inl rfl
    wp_walk using wpAny_loadPart' hl
    repeat (first
      | (refine wpAny_ite_false (decide_eq_false (by rw [c0]; exact Bool.false_ne_true)) ?_; wp_walk using wpAny_loadPart' hl)
      | (refine wpAny_ite_false (decide_eq_false (by rw [c1]; exact Bool.false_ne_true)) ?_; wp_walk using wpAny_loadPart' hl)
      | (refine wpAny_ite_true (decide_eq_true c2) ?_; wp_walk using wpAny_loadPart' hl))
    exact ⟨_, rfl, h⟩
/-- t * k, k from 0 on -/
def rRepA (K : PySem.W.Frag) : R2 := fun x y H Q => ∃ (l : Addr) (k : Int) (xs : List V), x = .ref l ∧ y = .int k ∧ SqT K H l xs ∧ xs ≠ [] ∧ 0 ≤ k ∧ k ≤ 1000 ∧ xs.length ≤ 1000 ∧ ∀ (p : Addr) (H' : Hp), Same H H' → SqT K H' p (List.replicate k.toNat xs).flatten → Q (.ref p) H'
variable {X : Cx}
theorem op_repA : OpR X (binaryOp .Mult) (rRepA X.K) := by
  intro pins s σ H x y v u Q I rx ry h
  obtain ⟨l, k, xs, rfl, rfl, hT, hne, h1, h2, hz, q⟩ := h
  by_cases hk : 2 ≤ k
  · exact op_repT pins s σ H _ _ v u Q I rx ry ⟨l, k, xs, rfl, rfl, hT, hne, hk, h2, hz, fun p np => q p _ (same_new np _) (SqT.of upd_same)⟩
  cases rx
  obtain ⟨t, rfl⟩ := ry
  obtain ⟨its, r, ⟨⟨cls, dd, data, sl⟩, ho, hc, n, hd⟩, hs⟩ := I.tuple hT
  simp only at hc hd
  subst hc hd
  have hle : its.length = xs.length := r.length.symm
  have hi : its.toArray.isEmpty = false := by
    cases its with
    | nil => exact absurd (List.eq_nil_of_length_eq_zero hle.symm) hne
    | cons a b => rfl
  have road : ∀ (k : Int) (t : Tok) (R : Value → Shared → Prop), wpAny (model X.prog X.w) X.A (call (.builtin "tuple.__mul__") [.ref l, .int k t]) R X.xe s → wpAny (model X.prog X.w) X.A (binaryOp .Mult (.ref l) (.int k t)) R X.xe s := fun k t R hc =>
    wpAny_binaryOp_repeat_ref (T := "tuple") (U := "int") (by decide) ⟨_, ho, rfl⟩ (fun s' => typeIs_int s' k t) noFill_tuple_mul F.fills_int_mul F.slot_int_rmul repeat_tuple F.slot_int_index.lookup
      (call_meets F.slot_int_rmul (typeIs_int s k t) F.entry_int_rmul (F.args_int_rmul_2 _ _) (int_rmul_tuple k t l its.toArray n dd sl) ⟨ho, rfl, ⟨_, ho, rfl⟩, hc⟩)
  rcases (show k = 0 ∨ k = 1 by omega) with rfl | rfl
  · refine road 0 t _ (call_meets F.slot_tuple_mul ⟨_, ho, rfl⟩ F.entry_tuple_mul (F.args_tuple_mul_2 _ _) (mul_none l its.toArray n dd sl t hi) ⟨ho, ?_⟩)
    refine ⟨.ref s.heap.objs.size, _, I.laid (t' := s.toks) (o := .tup []) (fun b ob q => Heap.get?_push_of_some _ q) (Nat.le_refl _) ?_, rfl, q _ _ (same_new (I.hok.fresh (Nat.le_refl _)) _) (SqT.of upd_same)⟩
    exact ⟨Nat.zero_le _, [], .nil, IsTup.new _ _⟩
  · refine road 1 t _ (call_meets F.slot_tuple_mul ⟨_, ho, rfl⟩ F.entry_tuple_mul (F.args_tuple_mul_2 _ _) (mul_one l its.toArray n dd sl t) ⟨ho, ?_⟩)
    refine ⟨.ref l, H, I, rfl, q l H (Same.refl H) ?_⟩
    rw [show ((1 : Int).toNat) = 1 from rfl, List.replicate_one, List.flatten_singleton]
    exact hT
end
end Cm
namespace Cm
open PySem PySem.W L2 SX
/-! ### isinstance of a caught error, its class and dict told by the reading -/
def rIsEc (K : PySem.W.Frag) (D a : Addr) (cls : Value) (d : Option Addr) : List V → Hp → VK → Prop := fun xs H Q => cls = .ref D ∧ d = none ∧ rIsE K D a xs H Q
/-- isinstance(e, (c1, ..)) -/
def rIsEt (K : PySem.W.Frag) (D a : Addr) (cls : Value) (d : Option Addr) : List V → Hp → VK → Prop := fun xs H Q => cls = .ref D ∧ d = none ∧
  ∃ (tp : Addr) (cs : List V) (us : List Value) (b : Bool), xs = [.ref a, .ref tp] ∧ H tp = some (.tup cs) ∧ Paired ClsV cs us ∧ PySem.W.kitAny K (.ref D) us = some b ∧ Q (.bl b) H
section
open PySem.Spec PyProof.Rows
variable {X : Cx} {a D : Addr} {oe : Obj} {cls : Value} {d : Option Addr} {pn : List (Addr × Obj)}
theorem call_isEc (C : ExcC X.K D) (hz : Zc cls d oe) (hf : ∃ vs, oe.data = .fields vs) : CallR (X.suite a ((a, oe) :: pn)) (.builtin "isinstance") (rIsEc X.K D a cls d) := by
  intro pins s σ H xs us Q I r h
  obtain ⟨rfl, rfl, h⟩ := h
  exact call_isE C hz hf pins s σ H xs us Q I r h
theorem call_isEt (C : ExcC X.K D) (hz : Zc cls d oe) (hf : ∃ vs, oe.data = .fields vs) : CallR (X.suite a ((a, oe) :: pn)) (.builtin "isinstance") (rIsEt X.K D a cls d) := by
  intro pins s σ H xs us Q I r h
  obtain ⟨rfl, rfl, tp, cs, ws, b, rfl, hT, k, e, q⟩ := h
  obtain ⟨u1, u2, rfl, r1, r2⟩ := r.two
  cases r1
  cases (show u2 = Value.ref tp from r2)
  obtain ⟨hget, _⟩ := I.pin (a, oe) (List.mem_append.mpr (.inl List.mem_cons_self))
  obtain ⟨vs, hv⟩ := hf
  have J : PySem.W.InstAt s.heap a oe D none := by
    obtain ⟨oc, od, oda, osl⟩ := oe
    obtain ⟨h1, h2⟩ := hz
    dsimp only at h1 h2 hv
    subst h1 h2 hv
    exact ⟨hget, rfl, rfl, trivial⟩
  obtain ⟨_, its, rv, o, h1, h2, n, h3⟩ := (show ObjOk X.prog X.w H s.heap tp (.tup cs) from I.hok tp _ hT)
  have e3 := ClsV.all k rv
  subst e3
  obtain ⟨oc, od, dt, sl⟩ := o
  simp only at h2 h3
  subst h2 h3
  exact PySem.W.kia_tup (PySem.W.handS_kitx_exc C.hg C.hk C.hs C.hd C.ha C.hn C.ht C.hm) I.kIn J h1 e (fun z => nomatch z) fun tk => ⟨.bl b, H, I.kept (t' := tk) fun _ _ z => z, rfl, q⟩
end
end Cm
/-! an error that is caught and held beyond its suite: behind the suite its place is told by what its object is -/
namespace Cm
open PySem PySem.W L2 SX
/-- an error of the class cls, with the dict d, stands at a -/
def ExcAt (a : Addr) (cls : Value) (d : Option Addr) : Heap → Prop := fun h => ∃ oe vs, h.get? a = some oe ∧ Zc cls d oe ∧ oe.data = .fields vs
def eOb (a : Addr) (cls : Value) (d : Option Addr) : HO := .ext (ExcAt a cls d)
theorem eOb_ok {P : Program} {w : World} {H : Hp} {h : Heap} {a : Addr} {cls : Value} {d : Option Addr} {oe : Obj} {vs : Array Value} (e : h.get? a = some oe) (z : Zc cls d oe) (f : oe.data = .fields vs) : ObjOk P w H h a (eOb a cls d) :=
  ⟨⟨oe, vs, e, z, f⟩, ⟨oe, e⟩, fun h1 h2 ⟨o1, v1, e1, z1, f1⟩ k => ⟨o1, v1, k _ e1, z1, f1⟩⟩
section
open PySem.Spec PyProof.Rows
variable {X : Cx} {pins : List (Addr × Obj)} {σ : L2.St} {H : Hp} {s : Shared}
/-- what was not told is told from now on -/
theorem track {a : Addr} {o : HO} (I : Inv X pins σ H s) (na : H a = none) (h0 : ∀ u, X.s_0.heap.get? a = some u → a ∈ X.ex) (nL : a ≠ X.env.locals) (nC : ∀ x c, X.env.cells.lookup x = some c → c ≠ a) (np : ∀ p ∈ X.pn ++ pins, p.1 ≠ a)
    (new : ObjOk X.prog X.w (upd H a o) s.heap a o) : Inv X pins σ (upd H a o) s where
  ok := I.ok
  os := I.os
  bare := I.bare
  base :=
    { keep := I.base.keep
      slot := I.base.slot
      free := fun b u e n hx => by
        by_cases hb : b = a
        · subst hb; exact absurd (h0 u e) hx
        · rw [upd_ne hb]; exact I.base.free b u e n hx
      there := I.base.there
      tups := fun b xs q => by rw [upd_ne (ne_of_none (I.base.tups b xs q) na)]; exact I.base.tups b xs q
      frzs := fun b u x q => by rw [upd_ne (ne_of_none (I.base.frzs b u x q) na)]; exact I.base.frzs b u x q
      tbls := fun b ps q => by
        obtain ⟨more, hm⟩ := I.base.tbls b ps q
        exact ⟨more, by rw [upd_ne (ne_of_none hm na)]; exact hm⟩ }
  loc := I.loc
  cell := I.cell
  free := by rw [upd_ne nL.symm]; exact I.free
  freeC := fun x c e => by rw [upd_ne (nC x c e)]; exact I.freeC x c e
  pin := fun p hp => by
    obtain ⟨h1, h2, h3⟩ := I.pin p hp
    exact ⟨h1, by rw [upd_ne (np p hp)]; exact h2, h3⟩
  hok := fun b u e => by
    by_cases hb : b = a
    · subst hb; rw [upd_same] at e; cases e; exact new
    · rw [upd_ne hb] at e
      exact (I.hok b u e).stay (fun _ _ _ q => q) (fun c q => by rw [upd_ne (ne_of_none q na)]; exact q) fun c xs q => by rw [upd_ne (ne_of_none q na)]; exact q
  len := I.len
/-- what the clause wishes of an error of the body: as in wAs, and behind the suite the error stays told -/
def wHold (K : PySem.W.Frag) (c : Value) (i : Nat) (ts : Addr → Value → Option Addr → TS) (Wout : WX) (D : Ends) : WX := fun cls d σ H =>
  ∃ b, PySem.W.exmOne K cls c = some b ∧ (b = true → ∀ a, H a = none → ts a cls d { nx := fun σ' H' => H' a = none → D.nx (σ'.set i none) (upd H' a (eOb a cls d)), rt := D.rt, bk := fun σ' H' => D.bk (σ'.set i none) H', ct := fun σ' H' => D.ct (σ'.set i none) H' } (σ.set i (some (.ref a))) H) ∧ (b = false → Wout cls d σ H)
variable {x n : Str} {c : Value} {i : Nat} {body suite : List Stmt} {b₀ : Stmt} {np pos pos' : Pos} {tb : WX → TS} {ts : Addr → Value → Option Addr → TS} {Wout : WX}
theorem ps_try_hold (hs : X.stack = X.env :: X.outer) (hf : X.env.frame = some X.env.locals) (hN : X.N.Nodup) (hi : X.N[i]? = some n) (hln : X.env.kindOf n = some .local) (hc : Names X x c) (tk : Takes X Wout)
    (hb : ∀ (W : WX) (pn : List (Addr × Obj)) (xe : Value → Shared → Prop), Takes (X.tr pn xe) W → PassesOwn (model X.prog X.w) X.A X.env xe → PSs (X.tr pn xe) body (tb W)) (hsu : ∀ (a : Addr) (oe : Obj) (cls : Value) (d : Option Addr) (pn : List (Addr × Obj)), Zc cls d oe → (∃ vs, oe.data = .fields vs) → PSs (X.suite a ((a, oe) :: pn)) (b₀ :: suite) (ts a cls d)) :
    PS X (.Try body [.ExceptHandler (some (.Name x np)) (some n) (b₀ :: suite) pos'] [] [] pos) (fun D σ H => tb (wHold X.K c i ts Wout D) D σ H) := by
  refine ⟨fun pins s σ H D I h => ?_⟩
  have ok := I.ok
  have frm : X.A.frames = some (X.env :: X.outer) := by rw [ok.frames, hs]
  refine wpAny_Try_except (wpAny_mono ((hb (wHold X.K c i ts Wout D) (X.pn ++ pins) (fun e s₁ => wpAny (model X.prog X.w) X.A (noteFrame e X.env) (fun _ s₂ => wpAny (model X.prog X.w) X.A (setFlight e none) (fun _ s₃ => wpAny (model X.prog X.w) X.A (handleBy e X.env [.ExceptHandler (some (.Name x np)) (some n) (b₀ :: suite) pos']) (SP X pins D) X.xe s₃) X.xe s₂) X.xe s₁) (fun u s' xx => ?_) PassesOwn.looking).run [] s σ H D (I.toTry _) h) (fun f s1 hsp => ?_) (fun e s1 he => he))
  · obtain ⟨a, B, sI, pins', σ', H', cls, d, rfl, JT, nb, up, sky, na, os, ag, b, hb1, hyes, hno⟩ := xx
    have J : Inv X pins σ' H' sI := JT.ofTry ok
    have sk : Sky B (X.env :: X.outer) a (Zc cls d) X.env.locals s'.heap := by rw [← hs]; exact sky
    show wpAny (model X.prog X.w) X.A (noteFrame (.ref a) X.env) _ _ _
    refine Sky.land Zc.steady frm hf sk fun h3 fl3 up3 => ?_
    have J3 : Inv X pins σ' H' { s' with heap := h3 } := J.landed nb fl3.1 (up.trans up3) os ag
    obtain ⟨oe3, vs3, he3, hz3, hd3⟩ := fl3.there
    have nfr : a ∉ frs (X.env :: X.outer) := fun hm => by
      obtain ⟨_, o', e', hnf⟩ := fl3.2.2.1.mem hm
      rw [he3] at e'; cases e'; exact hnf _ hd3
    have nL : a ≠ X.env.locals := fun z => nfr (List.mem_filterMap.mpr ⟨X.env, List.mem_cons_self, by rw [hf, z]⟩)
    have nF : a ∉ X.fs := fun hm => by
      obtain ⟨e, he, q⟩ := List.mem_filterMap.mp hm; exact nfr (List.mem_filterMap.mpr ⟨e, List.mem_cons_of_mem _ he, q⟩)
    have nI : ∀ u, sI.heap.get? a = some u → False := fun u e => by
      have q := nb a u e (by rw [hs]; exact nfr)
      rw [fl3.2.1] at q; cases q
    have h0 : ∀ u, X.s_0.heap.get? a = some u → a ∈ X.ex := fun u e => Classical.byContradiction fun hx => by
      obtain ⟨o', e'⟩ := J.base.there a u e hx; exact nI _ e'
    have nC : ∀ x c, X.env.cells.lookup x = some c → c ≠ a := fun x c e z => by
      obtain ⟨v, o, e', _⟩ := J.cell x c e; rw [z] at e'; exact nI _ e'
    have nP : ∀ p ∈ X.pn ++ pins, p.1 ≠ a := fun p hp z => by
      have e' := (J.pin p hp).1; rw [z] at e'; exact nI _ e'
    have S3 := J3.suite he3 hd3 na nL nF
    refine wpAny_handleBy_cons (codeAny_handlers_test ?_) (by intro q; cases q)
    have LT : PySem.W.Looks (model X.prog X.w) h3 (typeOf (.ref a)) cls := fun A Q E s k q => wpAny_typeOf_ref (k _ _ he3) (by rw [hz3.1]; exact q)
    have LM := PySem.W.exm_one (M := model X.prog X.w) (J3.kIn) LT hb1
    have test : ∀ {Q : Value → Shared → Prop} {E : Value → Shared → Prop}, Q c { s' with heap := h3 } → wpAny (model X.prog X.w) (X.A.mark (some (.ref a))) (eval (.Name x np) X.env) Q E { s' with heap := h3 } := fun {Q E} q => by
      obtain ⟨hg, hdbg, hm | ⟨hm, hv, hnn⟩⟩ := hc
      · exact ld_glob (X := X.suite a ((a, oe3) :: (X.pn ++ pins))) S3 hg hm q hdbg
      · exact ld_blt (X := X.suite a ((a, oe3) :: (X.pn ++ pins))) S3 hg hm hv q hnn hdbg
    refine test (LM.here ?_)
    cases b with
    | true =>
      refine codeAny_handlers_suite_as (HandSPX.lands_againZ fl3 fun h4 fl4 up4 => ?_)
      have J4 : Inv X pins σ' H' { s' with heap := h4 } := J.landed nb fl4.1 ((up.trans up3).trans up4) os ag
      obtain ⟨oe4, vs4, he4, hz4, hd4⟩ := fl4.there
      refine store_ok (X := X.suite a ((a, oe4) :: (X.pn ++ pins))) (v := .ref a) (J4.suite he4 hd4 na nL nF) hN hi (.inl hln) rfl (fun s5 S5 => ?_) (.inr hln)
      refine wpAny_mono ((hsu a oe4 cls d (X.pn ++ pins) hz4 ⟨_, hd4⟩).run [] s5 _ H' _ S5 (hyes rfl a na)) (fun f s6 hsp => ?_) (fun _ _ z => False.elim z)
      have tell : ∀ {σ6 : L2.St} {H6 : Hp}, Inv (X.suite a ((a, oe4) :: (X.pn ++ pins))) [] σ6 H6 s6 → H6 a = none ∧ Inv X pins σ6 (upd H6 a (eOb a cls d)) s6 := fun {σ6 H6} S6 => by
        obtain ⟨g6, n6, _⟩ := S6.pin (a, oe4) (List.mem_append_left _ List.mem_cons_self)
        exact ⟨n6, track (S6.unsuite ok) n6 h0 nL nC nP (eOb_ok g6 hz4 hd4)⟩
      cases f with
      | next =>
        obtain ⟨σ6, H6, S6, q6⟩ := hsp
        obtain ⟨n6, T6⟩ := tell S6
        exact gone_ok T6 hN hi hln fun s7 J7 => ⟨_, _, J7, q6 n6⟩
      | brk => obtain ⟨σ6, H6, S6, q6⟩ := hsp; exact gone_ok (S6.unsuite ok) hN hi hln fun s7 J7 => ⟨_, _, J7, q6⟩
      | cont => obtain ⟨σ6, H6, S6, q6⟩ := hsp; exact gone_ok (S6.unsuite ok) hN hi hln fun s7 J7 => ⟨_, _, J7, q6⟩
      | ret u => obtain ⟨v6, σ6, H6, S6, r6, q6⟩ := hsp; exact gone_ok (S6.unsuite ok) hN hi hln fun s7 J7 => ⟨_, _, _, J7, r6, q6⟩
    | false =>
      show wpAny _ X.A (handleBy (.ref a) X.env []) _ _ _
      refine wpAny_handleBy_nil ?_
      obtain ⟨_, _, _, oe, vs, T, oT, ts', he, hz, hd, h1, hr⟩ := id fl3
      unfold PySem.passOn
      refine wpAny_bind (wpAny_field he hd h1 ?_); rw [if_neg (show ¬ ((Value.ref T == Value.none) = true) from by simp)]
      have fin : wpAny (model X.prog X.w) X.A (setFlight (.ref a) X.env.frame) (fun _ s4 => wpAny (model X.prog X.w) X.A (throw (.ref a) : Sem Flow) (SP X pins D) X.xe s4) X.xe { s' with heap := h3 } := by
        rw [hf]; exact HandSPX.setFlight_upZ fl3 fun h4 hh4 up4 => wpAny_throw (tk _ _ ⟨a, B, sI, pins, σ', H', cls, d, rfl, J, nb, (up.trans up3).trans up4, .inr (.inr (by rw [hs]; exact hh4)), na, os, ag, hno rfl⟩)
      first | exact wpAny_bind (wpAny_pure (wpAny_bind fin)) | exact wpAny_bind fin
  · cases f with
    | next => obtain ⟨σ', H', J', q⟩ := hsp; exact wpAny_execs_nil ⟨σ', H', J'.ofTry ok, q⟩
    | brk => obtain ⟨σ', H', J', q⟩ := hsp; exact ⟨σ', H', J'.ofTry ok, q⟩
    | cont => obtain ⟨σ', H', J', q⟩ := hsp; exact ⟨σ', H', J'.ofTry ok, q⟩
    | ret u => obtain ⟨v, σ', H', J', r, q⟩ := hsp; exact ⟨v, σ', H', J'.ofTry ok, r, q⟩
/-! ### isinstance of an error that is held -/
def rIsH (K : PySem.W.Frag) : List V → Hp → VK → Prop := fun xs H Q => ∃ (a D : Addr) (c : V) (cv : Value) (b : Bool), xs = [.ref a, c] ∧ ExcC K D ∧ H a = some (eOb a (.ref D) none) ∧ (∀ u, RelV c u → u = cv) ∧ PySem.W.kitOne K (.ref D) cv = some b ∧ Q (.bl b) H
def rIsHt (K : PySem.W.Frag) : List V → Hp → VK → Prop := fun xs H Q => ∃ (a D tp : Addr) (cs : List V) (us : List Value) (b : Bool), xs = [.ref a, .ref tp] ∧ ExcC K D ∧ H a = some (eOb a (.ref D) none) ∧ H tp = some (.tup cs) ∧ Paired ClsV cs us ∧ PySem.W.kitAny K (.ref D) us = some b ∧ Q (.bl b) H
theorem eOb_inst {P : Program} {w : World} {h : Heap} {a D : Addr} (x : ObjOk P w H h a (eOb a (.ref D) none)) : ∃ oe, PySem.W.InstAt h a oe D none := by
  obtain ⟨⟨oe, vs, e, z, f⟩, _⟩ := x
  obtain ⟨oc, od, oda, osl⟩ := oe
  obtain ⟨h1, h2⟩ := z
  dsimp only at h1 h2 f
  subst h1 h2 f
  exact ⟨_, e, rfl, rfl, trivial⟩
theorem call_isH : CallR X (.builtin "isinstance") (rIsH X.K) := by
  intro pins s σ H xs us Q I r h
  obtain ⟨a, D, c, cv, b, rfl, C, ha, hcv, e, q⟩ := h
  obtain ⟨u1, u2, rfl, r1, r2⟩ := r.two
  cases r1
  have ec := hcv _ r2
  subst ec
  obtain ⟨oe, J⟩ := eOb_inst (I.hok a _ ha)
  exact PySem.W.kia_one (PySem.W.handS_kitx_exc C.hg C.hk C.hs C.hd C.ha C.hn C.ht C.hm) I.kIn J e (fun z => nomatch z) fun tk => ⟨.bl b, H, I.tok tk, rfl, q⟩
theorem call_isHt : CallR X (.builtin "isinstance") (rIsHt X.K) := by
  intro pins s σ H xs us Q I r h
  obtain ⟨a, D, tp, cs, ws, b, rfl, C, ha, hT, k, e, q⟩ := h
  obtain ⟨u1, u2, rfl, r1, r2⟩ := r.two
  cases r1
  cases (show u2 = Value.ref tp from r2)
  obtain ⟨oe, J⟩ := eOb_inst (I.hok a _ ha)
  obtain ⟨_, its, rv, o, h1, h2, n, h3⟩ := (show ObjOk X.prog X.w H s.heap tp (.tup cs) from I.hok tp _ hT)
  have e3 := ClsV.all k rv
  subst e3
  obtain ⟨oc, od, dt, sl⟩ := o
  simp only at h2 h3
  subst h2 h3
  exact PySem.W.kia_tup (PySem.W.handS_kitx_exc C.hg C.hk C.hs C.hd C.ha C.hn C.ht C.hm) I.kIn J h1 e (fun z => nomatch z) fun tk => ⟨.bl b, H, I.tok tk, rfl, q⟩
end
end Cm
namespace K04
open PySem PySem.W L2 SX Cm
def top (i : Nat) : Stmt := PySem.Challenge.pw_takeleave_k04_shuffles_by_numbers.main.body.getD i (.Pass ⟨0, 0, 0, 0⟩)
abbrev sIsSh : Stmt := top 16
abbrev sTaken : Stmt := top 17
abbrev sShufOf : Stmt := top 18
abbrev sMixed : Stmt := top 20
abbrev sDeck : Stmt := top 21
abbrev sTake : Stmt := top 22
abbrev sRefused : Stmt := top 23
abbrev sLaw : Stmt := top 24
/-- a deck stands at d, its cells at c -/
structure Deck (H : Hp) (d c : Addr) : Prop where
  ne : d ≠ c
  at_ : ∃ (s k : Int), H d = some (.lst [.ref c, .int s, .int k])
  cells : ∃ ms : List Int, H c = some (.lst (ms.map V.int)) ∧ ms.length ≤ 1000
theorem Deck.new {H : Hp} {d c p : Addr} {o : HO} (D : Deck H d c) (h : H p = none) : Deck (upd H p o) d c := by
  obtain ⟨s, k, e⟩ := D.at_
  obtain ⟨ms, e2, l⟩ := D.cells
  exact ⟨D.ne, ⟨s, k, kn e h⟩, ms, kn e2 h, l⟩
theorem Deck.same {H H' : Hp} {d c : Addr} (D : Deck H d c) (s : Same H H') : Deck H' d c := by
  obtain ⟨a, k, e⟩ := D.at_
  obtain ⟨ms, e2, l⟩ := D.cells
  exact ⟨D.ne, ⟨a, k, s _ _ e⟩, ms, s _ _ e2, l⟩
theorem Deck.nd {H : Hp} {d c p : Addr} (D : Deck H d c) (h : H p = none) : p ∉ [d, c] := by
  obtain ⟨a, k, e⟩ := D.at_
  obtain ⟨ms, e2, l⟩ := D.cells
  intro z
  rcases List.mem_cons.mp z with z | z
  · rw [z, e] at h; cases h
  · rw [List.mem_singleton.mp z, e2] at h; cases h
theorem Deck.put {H : Hp} {d c p : Addr} {o : HO} (D : Deck H d c) (h : p ∉ [d, c]) : Deck (upd H p o) d c := by
  obtain ⟨s, k, e⟩ := D.at_
  obtain ⟨ms, e2, l⟩ := D.cells
  have h1 : d ≠ p := fun z => h (by rw [← z]; exact List.mem_cons_self ..)
  have h2 : c ≠ p := fun z => h (by rw [← z]; exact List.mem_cons_of_mem _ (List.mem_singleton.mpr rfl))
  exact ⟨D.ne, ⟨s, k, by rw [upd_ne h1]; exact e⟩, ms, by rw [upd_ne h2]; exact e2, l⟩
section
variable {P : Program} {w : World} {K : PySem.W.Frag} {mg : Str → Option Value} {base : Heap}
def spMixed : Sp := fun vs H Q _ => ∃ n k : Int, vs = [.int n, .int k] ∧ ∀ m : Int, Q (.int m) H
theorem scMixed : FnScope ["_law_cell", "_law_k", "_law_number"] ["_law_cell", "_law_k"] (defScope sMixed) := ⟨rfl, rfl, rfl, by decide +kernel, rfl, by decide +kernel, by decide +kernel⟩
theorem ok_mixed {f : Addr} {fd : FuncData} (F : Fun K "_law_mixed" "_law_mixed" sMixed f fd) : FnOk P w K mg base CX0 1 f fd ["_law_cell", "_law_k"] spMixed := by
  refine F.ok scMixed (fun vs H Q E h => ?_) (fun cdv A outer s H vs Q E hr h => ?_)
  · obtain ⟨n, k, rfl, _⟩ := h
    rfl
  obtain ⟨n, k, rfl, q⟩ := h
  refine ⟨_, pss_cons (ps_set (i := 2) scMixed.nd rfl (.inl rfl) (pe_op op_mod (pe_op op_mul (pe_op op_add (pe_op op_add (pe_op op_mod (pv 0) pe_int) (pe_op op_mul pe_int (pv 1))) pe_int) pe_int) pe_int))
    (pss_cons (ps_set (i := 2) scMixed.nd rfl (.inl rfl) (pe_op op_mod (pe_op op_add (pe_op op_add (pe_op op_mul (pv 2) (pv 2)) (pe_op op_mul pe_int (pv 1))) pe_int) pe_int))
    (pss_one (ps_ret (pe_op op_add (pe_op op_mul (pv 2) pe_int) (pe_op op_mod (pe_op op_add (pe_op op_add (pe_op op_mul (pv 2) (pv 2)) (pe_op op_mul pe_int (pv 2))) (pv 1)) pe_int))))), ?_⟩
  refine ⟨_, rfl, _, _, rfl, rfl, (by show (0 : Int) < 2147483629; decide), _, rfl, _, _, rfl, rfl, .inl ⟨by decide, by decide⟩, _, _, rfl, rfl, _, _, rfl, rfl, _, _, rfl, rfl, .inr ⟨by decide, by decide⟩, _, _, rfl, rfl, (by show (0 : Int) < 2147483647; decide), ?_⟩
  generalize e1 : ((n % 2147483629 + 7919 * k + 1) * 48271) % 2147483647 = n1
  have b1 : 0 ≤ n1 ∧ n1 < 2147483647 := by
    constructor
    · rw [← e1]; exact Int.emod_nonneg _ (by decide)
    · rw [← e1]; exact Int.emod_lt_of_pos _ (by decide)
  refine ⟨_, rfl, _, rfl, _, _, rfl, rfl, .inl ⟨by omega, by omega⟩, _, rfl, _, _, rfl, rfl, .inl ⟨by decide, by decide⟩, _, _, rfl, rfl, _, _, rfl, rfl, _, _, rfl, rfl, (by show (0 : Int) < 2147483587; decide), ?_⟩
  generalize e2 : (n1 * n1 + 69621 * k + 7) % 2147483587 = n2
  have b2 : 0 ≤ n2 ∧ n2 < 2147483587 := by
    constructor
    · rw [← e2]; exact Int.emod_nonneg _ (by decide)
    · rw [← e2]; exact Int.emod_lt_of_pos _ (by decide)
  refine ⟨_, rfl, _, _, rfl, rfl, .inr ⟨by decide, by decide⟩, _, rfl, _, rfl, _, _, rfl, rfl, .inl ⟨by omega, by omega⟩, _, rfl, _, _, rfl, rfl, .inl ⟨by decide, by decide⟩, _, _, rfl, rfl, _, rfl, _, _, rfl, rfl, _, _, rfl, rfl, (by show (0 : Int) < 2147483563; decide), _, _, rfl, rfl, ?_⟩
  exact q _
def spDeck (K : PySem.W.Frag) : Sp := fun vs H Q _ => ∃ (a : Addr) (ns : List Int), vs = [.ref a] ∧ SqL K H a (ns.map V.int) ∧ ns.length ≤ 63 ∧
  ∀ (d c : Addr) (H' : Hp), Same H H' → H d = none → H c = none → Deck H' d c → Q (.ref d) H'
theorem scDeck : FnScope ["_law_script"] ["_law_script"] (defScope sDeck) := ⟨rfl, rfl, rfl, by decide +kernel, rfl, by decide +kernel, by decide +kernel⟩
theorem ok_deck {f : Addr} {fd : FuncData} (F : Fun K "_law_deck" "_law_deck" sDeck f fd) (mlist : mg "list" = none) (mrev : mg "reversed" = none) (msum : mg "sum" = none) (mlen : mg "len" = none) : FnOk P w K mg base CX0 1 f fd ["_law_script"] (spDeck K) := by
  refine F.ok scDeck (fun vs H Q E h => ?_) (fun cdv A outer s H vs Q E hr h => ?_)
  · obtain ⟨a, ns, rfl, _⟩ := h
    rfl
  obtain ⟨a, ns, rfl, hS, h63, q⟩ := h
  refine ⟨_, pss_one (ps_ret (pe_lst (pa_cons (pe_lstRev rfl (by rfl) mlist (by rfl) mrev (pe_slice sl_list (pv 0) po_none (po_some pe_int)))
    (pa_cons (pe_op op_add (pe_callB (cr_sum rfl) (by rfl) msum PyProof.Rows.boot_sum (pa_cons (pe_slice sl_list (pv 0) po_none (po_some pe_int)) pa_nil)) (pe_callB call_len_seq (by rfl) mlen PySem.boot_len (pa_cons (pe_slice sl_list (pv 0) po_none (po_some pe_int)) pa_nil)))
    (pa_cons pe_int pa_nil))))), ?_⟩
  obtain ⟨ds, e1, l1⟩ := cut_map V.int ns none (some 63)
  refine ⟨_, rfl, 63, rfl, a, _, rfl, hS, fun p1 n1 => ?_⟩
  rw [e1]
  have s1 : Same H (upd H p1 (.lst (ds.map V.int))) := same_new n1 _
  refine ⟨p1, _, rfl, SqL.of upd_same, fun c nc => ?_⟩
  have s2 := s1.trans (same_new nc (.lst (ds.map V.int).reverse))
  refine ⟨_, rfl, 63, rfl, a, _, rfl, s2.seq hS, fun p2 n2 => ?_⟩
  rw [e1]
  have s3 := s2.trans (same_new n2 (.lst (ds.map V.int)))
  refine ⟨p2, ds, rfl, SqL.of upd_same, _, rfl, 63, rfl, a, _, rfl, s3.seq hS, fun p3 n3 => ?_⟩
  rw [e1]
  have s4 := s3.trans (same_new n3 (.lst (ds.map V.int)))
  refine ⟨p3, _, rfl, .inl (SqL.of upd_same), _, _, rfl, rfl, (by show 3 ≤ sizeLine; decide), fun d nd => ?_⟩
  have ec := kn (o' := .lst (ds.map V.int)) (kn (o' := .lst (ds.map V.int)) (upd_same (H := upd H p1 (.lst (ds.map V.int))) (a := c) (o := .lst (ds.map V.int).reverse)) n2) n3
  refine q d c _ (s4.trans (same_new nd _)) (s4.free nd) (s1.free nc) ⟨(ne_of_none ec nd).symm, ⟨_, _, upd_same⟩, ds.reverse, ?_, ?_⟩
  · rw [List.map_reverse]; exact kn ec nd
  · rw [List.length_reverse]; omega
def spTake : Sp := fun vs H Q _ => ∃ (d c : Addr) (m : Int), vs = [.ref d, .int m] ∧ Deck H d c ∧ 0 < m ∧ m < 2 ^ 64 ∧
  ∀ (r : Int) (H' : Hp), 0 ≤ r → r < m → Kp [d, c] H H' → Deck H' d c → Q (.int r) H'
theorem scTake : FnScope ["_law_deck_here", "_law_most", "_law_cells", "_law_cell"] ["_law_deck_here", "_law_most"] (defScope sTake) := ⟨rfl, rfl, rfl, by decide +kernel, rfl, by decide +kernel, by decide +kernel⟩
theorem ok_take {f g : Addr} {fd gd : FuncData} (F : Fun K "_law_take" "_law_take" sTake f fd) (G : FnOk P w K mg base CX0 1 g gd ["_law_cell", "_law_k"] spMixed) (bG : Binds K gd ["_law_cell", "_law_k"] []) (kG : PySem.W.keepIn K (.ref g) = true) (mG : mg "_law_mixed" = some (.ref g)) :
    FnOk P w K mg base CX0 2 f fd ["_law_deck_here", "_law_most"] spTake := by
  refine F.ok scTake (fun vs H Q E h => ?_) (fun cdv A outer s H vs Q E hr h => ?_)
  · obtain ⟨d, c, m, rfl, _⟩ := h
    rfl
  obtain ⟨d, c, m, rfl, D, m0, m1, q⟩ := h
  obtain ⟨sm, k, hd⟩ := D.at_
  obtain ⟨ms, hc, hl⟩ := D.cells
  have dm : d ∈ [d, c] := List.mem_cons_self ..
  have cm : c ∈ [d, c] := List.mem_cons_of_mem _ (List.mem_singleton.mpr rfl)
  refine ⟨_, pss_cons (ps_set (i := 2) scTake.nd rfl (.inl rfl) (pe_ix ix_list (pv 0) pe_int (fun _ _ => rfl)))
    (pss_cons (ps_asg (pe_op op_add (pe_ix ix_list (pv 0) pe_int (fun _ _ => rfl)) pe_int) (pg_sub (pv 0) pe_int set_list))
    (pss_cons (ps_if (pt_cmpR (op_eqD hr.units) (pv 2) (pe_lst pa_nil) (nomark _)) (pss_one (ps_ret (pe_op op_mod (pe_call G hr rfl mG kG bG .nil pass0 (pa_cons (pe_ix ix_list (pv 0) pe_int (fun _ _ => rfl)) (pa_cons (pe_ix ix_list (pv 0) pe_int (fun _ _ => rfl)) pa_nil))) (pv 1)))) pss_nil)
    (pss_cons (ps_set (i := 3) scTake.nd rfl (.inl rfl) (pe_bm0 PySem.F.plainAttrs_list PySem.F.slot_list_pop PySem.F.type_list_pop mt_pop (pv 2)))
    (pss_cons (ps_if (pt_cmpR op_lt (pv 3) (pe_op op_pow pe_int pe_int) (nomark _)) (pss_one (ps_ret (pe_op op_mod (pe_call G hr rfl mG kG bG .nil pass0 (pa_cons (pv 3) (pa_cons (pe_ix ix_list (pv 0) pe_int (fun _ _ => rfl)) pa_nil))) (pv 1)))) pss_nil)
    (pss_cons (ps_if (pt_cmpR op_gt (pe_op op_fdivW (pv 3) (pv 1)) pe_int (nomark _)) (pss_one (ps_expr (pe_bm PySem.F.plainAttrs_list PySem.F.slot_list_append PySem.F.type_list_append mt_append (pv 2) (pa_cons (pe_op op_fdivW (pv 3) (pv 1)) pa_nil)))) pss_nil)
    (pss_one (ps_ret (pe_op op_mod (pv 3) (pv 1))))))))), ?_⟩
  have ix : ∀ (j : Nat) (v : V) (k' : Int), [V.ref c, .int sm, .int k'][j]? = some v → atI [V.ref c, .int sm, .int k'] (j : Int) = some v := fun j v k' h => atI_nat h
  refine ⟨_, rfl, d, _, _, _, rfl, rfl, SqL.of hd, ix 0 _ k rfl, ?_⟩
  refine ⟨_, rfl, d, _, _, _, rfl, rfl, SqL.of hd, ix 2 _ k rfl, _, _, rfl, rfl, _, rfl, d, _, _, 2, rfl, rfl, hd, rfl, ?_⟩
  have hd1 : upd H d (.lst [.ref c, .int sm, .int (k + 1)]) d = some (.lst [.ref c, .int sm, .int (k + 1)]) := upd_same
  have hc1 : upd H d (.lst [.ref c, .int sm, .int (k + 1)]) c = some (.lst (ms.map V.int)) := by rw [upd_ne D.ne.symm]; exact hc
  have k1 : Kp [d, c] H (upd H d (.lst [.ref c, .int sm, .int (k + 1)])) := (Kp.refl _ H).own dm
  show tSeq _ _ _ _ (upd H d (.lst [.ref c, .int sm, .int (k + 1)]))
  generalize upd H d (.lst [.ref c, .int sm, .int (k + 1)]) = H1 at hd1 hc1 k1
  refine ⟨_, rfl, (by show 0 ≤ sizeLine; decide), fun p hp => ?_⟩
  have k2 : Kp [d, c] H (upd H1 p (.lst [])) := k1.new hp
  have hd2 := kn (o' := .lst []) hd1 hp
  have hc2 := kn (o' := .lst []) hc1 hp
  refine ⟨_, _, .lst (SqL.of hc2) (dp_ints ms), .lst (SqL.of upd_same) .nil, Cm.shaped_ints ms, rfl, _, rfl, ?_⟩
  generalize upd H1 p (.lst []) = H2 at hd2 hc2 k2
  rcases List.eq_nil_or_concat ms with rfl | ⟨ns, n, rfl⟩
  · refine iteT ?_
    refine ⟨_, rfl, d, _, _, _, rfl, rfl, SqL.of hd2, ix 1 _ (k + 1) rfl, _, rfl, d, _, _, _, rfl, rfl, SqL.of hd2, ix 2 _ (k + 1) rfl, _, _, rfl, fun r => ?_⟩
    refine ⟨_, rfl, _, _, rfl, rfl, m0, ?_⟩
    exact q _ _ (Int.emod_nonneg _ (by omega)) (Int.emod_lt_of_pos _ m0) k2 ⟨D.ne, ⟨_, _, hd2⟩, [], hc2, by decide⟩
  · have ne : PyData.eqv (.list ((ns.concat n).map PyData.int)) (.list []) = false := by
      cases ns with
      | nil => rfl
      | cons x r => rfl
    rw [ne]
    refine iteF ?_
    rw [List.length_concat] at hl
    have hq : (((ns.concat n).map V.int) : List V)[((ns.concat n).map V.int).length - 1]? = some (V.int n) := by
      rw [List.concat_eq_append, List.map_append, List.length_append]
      simp
    have hdl : ((ns.concat n).map V.int).dropLast = ns.map V.int := by
      rw [List.concat_eq_append, List.map_append]
      simp
    refine ⟨_, rfl, .inl ⟨rfl, _, SqL.of hc2⟩, c, _, _, rfl, rfl, hc2, hq, ?_⟩
    rw [hdl]
    have hd3 : upd H2 c (.lst (ns.map V.int)) d = some (.lst [.ref c, .int sm, .int (k + 1)]) := by rw [upd_ne D.ne]; exact hd2
    have k3 : Kp [d, c] H (upd H2 c (.lst (ns.map V.int))) := k2.own cm
    refine ⟨_, rfl, _, _, rfl, rfl, ⟨by decide, by decide, by decide⟩, _, _, rfl, rfl, _, rfl, ?_⟩
    refine ite2 (fun _ => ?_) (fun _ => ?_)
    · refine ⟨_, rfl, _, rfl, d, _, _, _, rfl, rfl, SqL.of hd3, ix 2 _ (k + 1) rfl, _, _, rfl, fun r => ?_⟩
      refine ⟨_, rfl, _, _, rfl, rfl, m0, ?_⟩
      exact q _ _ (Int.emod_nonneg _ (by omega)) (Int.emod_lt_of_pos _ m0) k3 ⟨D.ne, ⟨_, _, hd3⟩, ns, upd_same, by omega⟩
    · refine ⟨_, rfl, _, rfl, _, _, rfl, rfl, wide_div m0 (b := 64) (by omega) (by decide) (by decide), _, _, rfl, rfl, _, rfl, ?_⟩
      refine ite2 (fun _ => ?_) (fun _ => ?_)
      · refine ⟨_, rfl, .inl ⟨rfl, _, SqL.of upd_same⟩, _, rfl, _, rfl, _, _, rfl, rfl, wide_div m0 (b := 64) (by omega) (by decide) (by decide), c, _, _, rfl, rfl, upd_same, by rw [List.length_map]; exact small1000 (by omega), ?_⟩
        refine ⟨_, rfl, _, rfl, _, _, rfl, rfl, m0, ?_⟩
        refine q _ _ (Int.emod_nonneg _ (by omega)) (Int.emod_lt_of_pos _ m0) (k3.own cm) ⟨D.ne, ⟨_, _, by rw [upd_ne D.ne]; exact hd3⟩, ns ++ [n / m], ?_, ?_⟩
        · rw [upd_same, List.map_append]; rfl
        · rw [List.length_append, List.length_singleton]; omega
      · refine ⟨_, rfl, _, rfl, _, _, rfl, rfl, m0, ?_⟩
        exact q _ _ (Int.emod_nonneg _ (by omega)) (Int.emod_lt_of_pos _ m0) k3 ⟨D.ne, ⟨_, _, hd3⟩, ns, upd_same, by omega⟩
end
end K04
namespace K04
open PySem PySem.W L2 SX Cm
structure TxtS (mg : Str → Option Value) : Prop where
  isi : mg "isinstance" = none
  str : mg "str" = none
  len : mg "len" = none
  all : mg "all" = none
  letters : ∃ t, mg "LETTERS" = some (.str "abcdefgh" t)
  most : ∃ t, mg "MOST_LEFT" = some (.int 12 t)
section
variable {P : Program} {w : World} {K : PySem.W.Frag} {mg : Str → Option Value} {base : Heap}
def spIsSh : Sp := fun vs H Q _ => ∃ x : List Nat, vs = [.str (S x)] ∧ x.length ≤ 1000 ∧ ∀ H', Same H H' → Q (.bl (shufB x)) H'
theorem scIsSh : FnScope ["thing", "taken", "stroke", "left", "letter"] ["thing"] (defScope sIsSh) := ⟨rfl, rfl, rfl, by decide +kernel, rfl, by decide +kernel, by decide +kernel⟩
theorem ok_isSh {f : Addr} {fd : FuncData} (F : Fun K "is_shuffle" "is_shuffle" sIsSh f fd) (T : TxtS mg) : FnOk P w K mg base CX0 1 f fd ["thing"] spIsSh := by
  refine F.ok scIsSh (fun vs H Q E h => ?_) (fun cdv A outer s H vs Q E hr h => ?_)
  · obtain ⟨x, rfl, _⟩ := h
    rfl
  obtain ⟨x, rfl, hl, q⟩ := h
  obtain ⟨tL, mL⟩ := T.letters
  obtain ⟨tM, mM⟩ := T.most
  refine ⟨_, pss_cons (ps_if (pt_not (pt_val (pe_callB call_isi (by rfl) T.isi PyProof.Rows.boot_isinstance (pa_cons (pv 0) (pa_cons (pe_bltn (v := .ty "str") (by rfl) T.str (by decide +kernel) rfl) pa_nil))))) (pss_one (ps_ret pe_bl)) pss_nil)
    (pss_cons (ps_asg (pe_partition (pv 0) pe_str) (pg_tup rfl (pgs_cons (pg_name (i := 1) scIsSh.nd rfl (.inr rfl)) (pgs_cons (pg_name (i := 2) scIsSh.nd rfl (.inl rfl)) (pgs_cons (pg_name (i := 3) scIsSh.nd rfl (.inl rfl)) pgs_nil)))))
    (pss_cons (ps_if (PW.pt (pw_or (pt_cmpR op_eq (pv 2) pe_str (nomark _)) (pw_or1 (pt_not (pt_val (pe_m1 PySem.F.slot_str_startswith PySem.F.type_str_startswith mt_startswith (pe_glob (v := .str "abcdefgh") rfl mL ⟨_, rfl⟩) (pv 1))))))) (pss_one (ps_ret pe_bl)) pss_nil)
    (pss_one (ps_ret (pe_and (pe_cmpR op_le (pe_callB call_len_str (by rfl) T.len PySem.boot_len (pa_cons (pv 3) pa_nil)) (pe_glob (v := .int 12) rfl mM ⟨_, rfl⟩) (nomark _))
      (pe_one (pe_callB (cr_all rfl) (by rfl) T.all PyProof.Rows.boot_all (pa_cons (pe_lc (own := [("letter", 4)]) (g := gName 4) (tt := tYes) rfl scIsSh.nd (pi_str (pv 3)) (blkOk_by (own := [("letter", 4)]) (N := ["thing", "taken", "stroke", "left", "letter"]) (sc := defScope sIsSh) (by decide +kernel))
        (fun _ _ _ _ _ => pg_name (i := 4) scIsSh.nd rfl (Or.inl rfl)) (fun _ _ _ _ _ => pts_nil) (fun _ _ _ _ _ => pe_cmpR op_in_sign (pv 4) (pv 1) rfl)) pa_nil)))))))), ?_⟩
  have e1 : ("-" : Str) = S [45] := by decide +kernel
  have e2 : ("" : Str) = S [] := by decide +kernel
  have e3 : ("abcdefgh" : Str) = S abc8 := by decide +kernel
  rw [e1, e2, e3]
  have hsz : ∀ y : List Nat, y.length ≤ 1000 → (S y).length ≤ sizeLine := fun y h => by rw [S_len]; exact Nat.le_of_lt (small1000 h)
  refine ⟨_, rfl, _, _, _, _, true, rfl, .ty _, .base (.str _), kit_ty (r := true) (by decide +kernel), _, rfl, iteF ?_⟩
  refine ⟨_, rfl, ⟨_, rfl⟩, _, _, rfl, rfl, rfl, hsz x hl, fun p hp => ?_⟩
  have hp' : ∀ o, Same H (upd H p o) := same_new hp
  cases hpar : TL.par [45] [] x with
  | none =>
    have hb : shufB x = false := by unfold shufB; rw [hpar]
    rw [partition_none (List.cons_ne_nil _ _) hpar]
    refine ⟨p, _, rfl, SqT.of upd_same, rfl, _, _, rfl, _, _, rfl, _, _, rfl, rfl, ?_⟩
    refine ⟨_, rfl, rfl, _, rfl, iteT (iteT ?_)⟩
    rw [hb] at q
    exact q _ (hp' _)
  | some tl =>
    obtain ⟨t, l⟩ := tl
    have hb : shufB x = (decide (abc8.take t.length = t) && (decide (l.length ≤ 12) && (l.map fun c => decide (c ∈ t)).all id)) := by unfold shufB; rw [hpar]
    rw [partition_some (List.cons_ne_nil _ _) hpar]
    have ll : l.length ≤ 1000 := Nat.le_trans (par_len _ _ _ _ hpar) hl
    refine ⟨p, _, rfl, SqT.of upd_same, rfl, _, _, rfl, _, _, rfl, _, _, rfl, rfl, ?_⟩
    refine ⟨_, rfl, rfl, _, rfl, iteF ?_⟩
    refine ⟨⟨_, rfl⟩, _, rfl, _, _, rfl, rfl, _, rfl, ?_⟩
    rw [starts_S]
    by_cases h1 : abc8.take t.length = t
    · rw [decide_eq_true h1]
      refine iteF ?_
      refine ⟨_, rfl, _, rfl, hsz l ll, _, _, rfl, rfl, _, rfl, ?_⟩
      rw [S_len]
      by_cases h2 : l.length ≤ 12
      · have h2' : (l.length : Int) ≤ 12 := by omega
        rw [decide_eq_true h2']
        refine iteT ?_
        refine ⟨_, rfl, _, rfl, fun D hD => ?_⟩
        refine lc_txt (fun c => .bl (decide (c ∈ t))) ll (fun c H R hc r => ?_) ?_
        · exact ⟨rfl, _, rfl, _, rfl, c, _, rfl, rfl, r⟩
        · refine ⟨D, l.map fun c => decide (c ∈ t), rfl, ?_, ?_⟩
          · rw [List.map_map]; exact SqL.of upd_same
          · rw [decide_eq_true h1, decide_eq_true h2, Bool.true_and, Bool.true_and] at hb
            rw [hb] at q
            exact q _ ((hp' _).trans (same_new hD _))
      · have h2' : ¬ (l.length : Int) ≤ 12 := by omega
        rw [decide_eq_false h2']
        refine iteF ?_
        rw [decide_eq_false h2, Bool.false_and, Bool.and_false] at hb
        rw [hb] at q
        exact q _ (hp' _)
    · rw [decide_eq_false h1]
      refine iteT ?_
      rw [decide_eq_false h1, Bool.false_and] at hb
      rw [hb] at q
      exact q _ (hp' _)
def spTaken (K : PySem.W.Frag) : Sp := fun vs H Q _ => ∃ (n : Nat) (l : List Nat), vs = [.str (S (shuf n l))] ∧ Shuf n l ∧ ∀ (p t : Addr) H', Same H H' → SqT K H' t ((pk (n, l)).map fun i : Nat => V.int (i : Int)) → SqT K H' p [.int n, .ref t] → Q (.ref p) H'
theorem scTaken : FnScope ["shuffle", "taken", "left", "letter"] ["shuffle"] (defScope sTaken) := ⟨rfl, rfl, rfl, by decide +kernel, rfl, by decide +kernel, by decide +kernel⟩
theorem ok_taken {f g : Addr} {fd gd : FuncData} (F : Fun K "taken_left" "taken_left" sTaken f fd) (T : TxtS mg) (mtup : mg "tuple" = none) (G : FnOk P w K mg base CX0 1 g gd ["thing"] spIsSh) (bG : L2.Binds K gd ["thing"] []) (kG : PySem.W.keepIn K (.ref g) = true) (mG : mg "is_shuffle" = some (.ref g)) : FnOk P w K mg base CX0 2 f fd ["shuffle"] (spTaken K) := by
  refine F.ok scTaken (fun vs H Q E h => ?_) (fun cdv A outer s H vs Q E hr h => ?_)
  · obtain ⟨n, l, rfl, _⟩ := h
    rfl
  obtain ⟨n, l, rfl, hs, q⟩ := h
  obtain ⟨tL, mL⟩ := T.letters
  refine ⟨_, pss_cons (ps_if (pt_not (pt_val (pe_call G hr rfl mG kG bG .nil pass0 (pa_cons (pv 0) pa_nil)))) (pss_one ps_never) pss_nil)
    (pss_cons (ps_asg (pe_split (pv 0) pe_str) (pg_unl rfl (pgs_cons (pg_name (i := 1) scTaken.nd rfl (.inl rfl)) (pgs_cons (pg_name (i := 2) scTaken.nd rfl (.inl rfl)) pgs_nil))))
    (pss_one (ps_ret (pe_tup (pa_cons (pe_callB call_len_str (by rfl) T.len PySem.boot_len (pa_cons (pv 1) pa_nil)) (pa_cons
      (pe_callTy call_tuple_of (by rfl) mtup (by decide +kernel) (pa_cons (pe_lc (own := [("letter", 3)]) (g := gName 3) (tt := tYes) (te := tBMS K "str" (rIndexX fun _ _ _ _ => False) (tC (.str "abcdefgh")) (tCons (tVar 3) tNil)) rfl scTaken.nd (pi_str (pv 2)) (blkOk_by (own := [("letter", 3)]) (N := ["shuffle", "taken", "left", "letter"]) (sc := defScope sTaken) (by decide +kernel))
        (fun _ _ _ _ _ => pg_name (i := 3) scTaken.nd rfl (Or.inl rfl)) (fun _ _ _ _ _ => pts_nil) (fun _ _ _ _ _ => pe_bmS PySem.F.plainAttrs_str PySem.F.slot_str_index PySem.F.type_str_index (mt_indexX rfl takes0) (pe_glob (v := .str "abcdefgh") rfl mL ⟨_, rfl⟩) (pa_cons (pv 3) pa_nil))) pa_nil)) pa_nil)))))), ?_⟩
  have e1 : ("-" : Str) = S [45] := by decide +kernel
  have e3 : ("abcdefgh" : Str) = S abc8 := by decide +kernel
  rw [e1, e3]
  refine ⟨_, rfl, _, rfl, by have := shuf_len hs; omega, fun H1 s1 => ?_⟩
  rw [shuf_ok hs]
  refine ⟨_, rfl, iteF ?_⟩
  refine ⟨_, rfl, ⟨_, rfl⟩, _, _, rfl, rfl, rfl, ?_, fun p hp => ?_⟩
  · rw [S_len]; exact Nat.le_of_lt (small1000 (by have := shuf_len hs; omega))
  rw [split_S (List.cons_ne_nil _ _) (by decide), shuf_spl hs]
  refine ⟨p, _, rfl, SqL.of upd_same, rfl, _, _, rfl, _, _, rfl, rfl, ?_⟩
  refine ⟨_, rfl, _, rfl, ?_, _, rfl, _, rfl, fun D hD => ?_⟩
  · rw [S_len, abc_len hs.n8]; exact Nat.le_of_lt (small1000 (by have := hs.n8; omega))
  refine lc_txt (fun c => .int ((c - 97 : Nat) : Int)) (by have := hs.l12; omega) (fun c H R hc r => ?_) ?_
  · refine ⟨rfl, rfl, _, rfl, _, _, rfl, rfl, fun k hk => ?_, fun hk => ?_⟩
    · rw [index_abc c (abc_sub (hs.inn c hc))] at hk
      cases hk; exact r
    · rw [index_abc c (abc_sub (hs.inn c hc))] at hk
      cases hk
  · refine ⟨D, _, rfl, .inl ⟨SqL.of upd_same, fun t ht => ?_⟩⟩
    refine ⟨(by show 2 ≤ sizeLine; decide), fun r hr' => ?_⟩
    rw [S_len, abc_len hs.n8]
    refine q r t _ (s1.trans ((same_new hp _).trans ((same_new hD _).trans ((same_new ht _).trans (same_new hr' _))))) ?_ (SqT.of upd_same)
    refine SqT.of ((kn upd_same hr').trans ?_)
    unfold pk
    rw [List.map_map]; rfl
end
end K04
namespace K04
open PySem PySem.W L2 SX Cm
/-- the class NoShuffle stands at C -/
structure ExT (K : PySem.W.Frag) (mg : Str → Option Value) (C : Addr) : Prop where
  gP : mg "NoShuffle" = some (.ref C)
  xP : excIn K C [.type "ValueError", .type "Exception", .type "BaseException", .type "object"] "ValueError.__new__" = true
  kP : keepIn K (.ref C) = true
  bP : subIn K (.ref C) (.type "BaseException") = some true
  tP : typeIn K (.ref C) = some (.type "type")
structure ExA (K : PySem.W.Frag) (mg : Str → Option Value) (C TE c1 c2 c3 c4 c5 c6 c7 c8 c9 c10 : Addr) : Prop where
  gTE : mg "TakeError" = some (.ref TE)
  em : exmOne K (.ref C) (.ref TE) = some true
  ec : ExcC K C
  g1 : mg "NoBook" = some (.ref c1)
  g2 : mg "NoCode" = some (.ref c2)
  g3 : mg "NoKind" = some (.ref c3)
  g4 : mg "NoRow" = some (.ref c4)
  g5 : mg "NoStep" = some (.ref c5)
  g6 : mg "NoText" = some (.ref c6)
  g7 : mg "NoTurn" = some (.ref c7)
  g8 : mg "NoWord" = some (.ref c8)
  g9 : mg "TooMany" = some (.ref c9)
  g10 : mg "Twice" = some (.ref c10)
  ka : kitAny K (.ref C) [.ref c1, .ref c2, .ref c3, .ref c4, .ref c5, .ref c6] = some false
  kb : kitAny K (.ref C) [.ref c7, .ref c8, .ref c9, .ref c10] = some false
  k1 : kitOne K (.ref C) (.ref C) = some true
  kv : kitOne K (.ref C) (.type "ValueError") = some true
  mve : mg "ValueError" = none
theorem abc_in : ∀ m ≤ 8, ∀ k < m, k + 97 ∈ abc m := by decide +kernel
theorem abc8_at : ∀ k < 8, abc8[k]? = some (k + 97) := by decide +kernel
def lets (ks : List Nat) : List Nat := ks.map fun k => k + 97
theorem shuf_lets {m : Nat} {ks : List Nat} (hm : m ≤ 8) (hl : ks.length ≤ 12) (hk : ∀ k ∈ ks, k < m) : Shuf m (lets ks) := by
  refine ⟨hm, by unfold lets; rw [List.length_map]; exact hl, fun c hc => ?_⟩
  obtain ⟨k, hk', rfl⟩ := List.mem_map.mp hc
  exact abc_in m hm k (hk k hk')
theorem pk_lets (m : Nat) (ks : List Nat) : pk (m, lets ks) = ks := by
  unfold pk lets
  rw [List.map_map]
  have : ((fun c => c - 97) ∘ fun k : Nat => k + 97) = id := by funext k; show k + 97 - 97 = k; omega
  rw [this, List.map_id]
theorem flat_one (l : List Nat) : (l.map fun c => [c]).flatten = l := by
  induction l with
  | nil => rfl
  | cons c r ih => rw [List.map_cons, List.flatten_cons, ih]; rfl
theorem map_true {α : Type} (l : List α) : (l.map fun _ => V.bl true) = (List.replicate l.length true).map V.bl := by
  induction l with
  | nil => rfl
  | cons c r ih => rw [List.map_cons, ih, List.length_cons, List.replicate_succ, List.map_cons]
theorem join_lets (l : List Nat) : Txt.join ("" : Str) (l.map fun c => S [c]) = S l := by
  have e0 : ("" : Str) = S [] := by decide +kernel
  have e1 : (l.map fun c => S [c]) = (l.map fun c => [c]).map S := by rw [List.map_map]; rfl
  rw [e0, e1, join_S, joinL_nil, flat_one]
section
variable {P : Program} {w : World} {K : PySem.W.Frag} {mg : Str → Option Value} {base : Heap} {C TE c1 c2 c3 c4 c5 c6 c7 c8 c9 c10 : Addr}
/-- no shuffle by these numbers -/
def Bad (n : Int) (ps : List Int) : Prop := n > 8 ∨ (0 ≤ n ∧ ps.length > 12)
def spShufOf (K : PySem.W.Frag) (C : Addr) : Sp := fun vs H Q E => ∃ (n : Int) (a : Addr) (ps : List Int), vs = [.int n, .ref a] ∧ SqT K H a (ps.map V.int) ∧ ps.length ≤ 1000 ∧
  ((∃ (m : Nat) (ks : List Nat), n = (m : Int) ∧ m ≤ 8 ∧ ks.length ≤ 12 ∧ ps = ks.map (fun k : Nat => (k : Int)) ∧ (∀ k ∈ ks, k < m) ∧ ∀ H', Same H H' → Q (.str (S (shuf m (lets ks)))) H') ∨ (Bad n ps ∧ ∀ H', Same H H' → E (.ref C) none H'))
theorem scShufOf : FnScope ["n", "picks", "pick"] ["n", "picks"] (defScope sShufOf) := ⟨rfl, rfl, rfl, by decide +kernel, rfl, by decide +kernel, by decide +kernel⟩
theorem ok_shufOf {f : Addr} {fd : FuncData} (F : Fun K "shuffle_of" "shuffle_of" sShufOf f fd) (T : TxtS mg) (X : ExT K mg C) : FnOk P w K mg base (L2.CX P w) 1 f fd ["n", "picks"] (spShufOf K C) := by
  refine F.okX scShufOf (fun vs H Q E h => ?_) (fun cdv A outer s H vs Q E hr h => ?_)
  · obtain ⟨n, a, ps, rfl, _⟩ := h
    rfl
  obtain ⟨n, a, ps, rfl, ha, hl, h⟩ := h
  obtain ⟨tL, mL⟩ := T.letters
  obtain ⟨tM, mM⟩ := T.most
  refine ⟨_, pss_cons (ps_if (PT.nox (PW.pt (pw_or (pt_not (pt_chain op_le op_le pe_int (pv 0) (pe_callB call_len_str (by rfl) T.len PySem.boot_len (pa_cons (pe_glob (v := .str "abcdefgh") rfl mL ⟨_, rfl⟩) pa_nil))))
        (pw_or1 (pt_cmpR op_gt (pe_callB call_len_seq (by rfl) T.len PySem.boot_len (pa_cons (pv 1) pa_nil)) (pe_glob (v := .int 12) rfl mM ⟨_, rfl⟩) (nomark _)))))) (pss_one (ps_raise rfl (takes_of rfl rfl rfl rfl) (pmk_own PySem.F.excBase_ValueError X.xP X.gP X.kP (raises_own X.bP X.tP) rfl))) pss_nil)
    (pss_cons (ps_if (PT.nox (pt_not (pt_val (pe_callB (cr_all rfl) (by rfl) T.all PyProof.Rows.boot_all (pa_cons (pe_lc (own := [("pick", 2)]) (g := gName 2) (tt := tYes) rfl scShufOf.nd (pi_tup (pv 1)) (blkOk_by (own := [("pick", 2)]) (N := ["n", "picks", "pick"]) (sc := defScope sShufOf) (by decide +kernel))
        (fun _ _ _ _ _ => pg_name (i := 2) scShufOf.nd rfl (Or.inl rfl)) (fun _ _ _ _ _ => pts_nil) (fun _ _ _ _ _ => pe_chain op_le op_lt pe_int (pv 2) (pv 0))) pa_nil))))) (pss_one (ps_raise rfl (takes_of rfl rfl rfl rfl) (pmk_own PySem.F.excBase_ValueError X.xP X.gP X.kP (raises_own X.bP X.tP) rfl))) pss_nil)
    (PSs.nox (pss_one (ps_ret (pe_op op_add_str (pe_op op_add_str (pe_slice sl_str (pe_glob (v := .str "abcdefgh") rfl mL ⟨_, rfl⟩) po_none (po_some (pv 0))) pe_str) (pe_join pe_str (pe_lc (own := [("pick", 2)]) (g := gName 2) (tt := tYes) rfl scShufOf.nd (pi_tup (pv 1)) (blkOk_by (own := [("pick", 2)]) (N := ["n", "picks", "pick"]) (sc := defScope sShufOf) (by decide +kernel))
        (fun _ _ _ _ _ => pg_name (i := 2) scShufOf.nd rfl (Or.inl rfl)) (fun _ _ _ _ _ => pts_nil) (fun _ _ _ _ _ => pe_ix ix_str (pe_glob (v := .str "abcdefgh") rfl mL ⟨_, rfl⟩) (pv 2) (fun _ _ => rfl))))))))), ?_⟩
  have l8 : ("abcdefgh" : Str).length = 8 := by decide +kernel
  refine ⟨_, rfl, _, _, rfl, rfl, _, rfl, ?_⟩
  rcases h with ⟨m, ks, rfl, hm, hk12, rfl, hk, q⟩ | ⟨hbad, q⟩
  · rw [decide_eq_true (show (0 : Int) ≤ (m : Int) by omega)]
    refine iteT ?_
    refine ⟨_, rfl, (by rw [l8]; decide), _, _, rfl, rfl, _, rfl, ?_⟩
    rw [l8, decide_eq_true (show (m : Int) ≤ ((8 : Nat) : Int) by omega)]
    refine iteF ?_
    refine ⟨_, rfl, a, _, rfl, .inr ha, _, _, rfl, rfl, _, rfl, ?_⟩
    rw [List.length_map, List.length_map, decide_eq_false (show ¬ ((ks.length : Nat) : Int) > 12 by omega)]
    refine iteF ?_
    refine ⟨_, rfl, a, rfl, ⟨_, ha⟩, fun D hD => ?_⟩
    refine lc_mapT (fun v => .bl true) ha hD (by rw [List.length_map, List.length_map]; omega) (fun x H3 R hx _ r => ?_) ?_
    · obtain ⟨p, hp, rfl⟩ := List.mem_map.mp hx
      obtain ⟨k, hk', rfl⟩ := List.mem_map.mp hp
      have := hk k hk'
      refine ⟨rfl, _, rfl, _, _, rfl, rfl, _, rfl, ?_⟩
      rw [decide_eq_true (show (0 : Int) ≤ (k : Int) by omega)]
      refine iteT ?_
      refine ⟨_, rfl, _, _, rfl, rfl, ?_⟩
      show R (V.bl (decide ((k : Int) < (m : Int)))) H3
      rw [decide_eq_true (show (k : Int) < (m : Int) by omega)]
      exact r
    have eD : ((ks.map fun k : Nat => (k : Int)).map V.int).map (fun _ => V.bl true) = (List.replicate ks.length true).map V.bl := by
      rw [List.map_map, List.map_map]
      exact map_true ks
    rw [eD]
    refine ⟨D, _, rfl, SqL.of upd_same, ?_⟩
    rw [show (List.replicate ks.length true).all id = true from List.all_eq_true.mpr fun b hb => by rw [(List.mem_replicate.mp hb).2]; rfl]
    refine ⟨_, rfl, iteF ?_⟩
    have sD := same_new hD (.lst ((List.replicate ks.length true).map V.bl))
    refine ⟨_, rfl, _, rfl, _, rfl, (by rw [l8]; decide), ?_⟩
    rw [lit_abc, cutS_to (show (0 : Int) ≤ (m : Int) by omega)]
    have en : List.take (m : Int).toNat abc8 = abc m := rfl
    have es : ("-" : Str) = S [45] := by decide +kernel
    rw [en, es]
    refine ⟨_, _, rfl, rfl, ?_, ⟨_, rfl⟩, _, rfl, a, rfl, ⟨_, Same.seqT sD ha⟩, fun E hE => ?_⟩
    · rw [S_len, S_len, abc_len hm]; exact Nat.le_of_lt (small1000 (by show m + 1 ≤ 1000; omega))
    refine lc_mapT (fun v => match v with | .int p => .str (S [p.toNat + 97]) | v => v) (Same.seqT sD ha) hE (by rw [List.length_map, List.length_map]; omega) (fun x H3 R hx _ r => ?_) ?_
    · obtain ⟨p, hp, rfl⟩ := List.mem_map.mp hx
      obtain ⟨k, hk', rfl⟩ := List.mem_map.mp hp
      have := hk k hk'
      refine ⟨rfl, _, rfl, _, _, _, rfl, rfl, (by rw [S_len]; show 8 ≤ sizeLine; decide), atI_nat (j := k) (abc8_at k (by omega)), ?_⟩
      exact r
    have eE : ((ks.map fun k : Nat => (k : Int)).map V.int).map (fun v => match v with | .int p => V.str (S [p.toNat + 97]) | v => v) = ((lets ks).map fun c => S [c]).map V.str := by
      unfold lets
      rw [List.map_map, List.map_map, List.map_map, List.map_map]; rfl
    rw [eE]
    refine ⟨_, E, _, rfl, rfl, .inl (SqL.of upd_same), ?_, ?_⟩
    · have : ∀ l : List Nat, ((l.map fun c => S [c]).map (·.length)).sum = l.length := fun l => by
        induction l with
        | nil => rfl
        | cons c r ih => rw [List.map_cons, List.map_cons, List.sum_cons, ih, S_len]; show 1 + r.length = r.length + 1; omega
      rw [this]
      unfold lets
      rw [List.length_map, List.length_map]
      have : ("" : Str).length = 0 := by decide +kernel
      rw [this]; omega
    rw [join_lets]
    refine ⟨_, _, rfl, rfl, ?_, ?_⟩
    · rw [S_cat, S_len, S_len, List.length_append, abc_len hm]
      unfold lets
      rw [List.length_map]
      exact Nat.le_of_lt (small1000 (by show m + 1 + ks.length ≤ 1000; omega))
    · rw [S_cat, S_cat, List.append_assoc]
      exact q _ (sD.trans (same_new hE _))
  · rcases hbad with hb | ⟨hb0, hb⟩
    · rw [decide_eq_true (show (0 : Int) ≤ n by omega)]
      refine iteT ?_
      refine ⟨_, rfl, (by rw [l8]; decide), _, _, rfl, rfl, _, rfl, ?_⟩
      rw [l8, decide_eq_false (show ¬ n ≤ ((8 : Nat) : Int) by omega)]
      refine iteT (iteT ?_)
      exact q H (Same.refl H)
    · rw [decide_eq_true hb0]
      refine iteT ?_
      refine ⟨_, rfl, (by rw [l8]; decide), _, _, rfl, rfl, _, rfl, ?_⟩
      rw [l8]
      by_cases c : n ≤ ((8 : Nat) : Int)
      · rw [decide_eq_true c]
        refine iteF ?_
        refine ⟨_, rfl, a, _, rfl, .inr ha, _, _, rfl, rfl, _, rfl, ?_⟩
        rw [List.length_map, decide_eq_true (show ((ps.length : Nat) : Int) > 12 by omega)]
        exact iteT (q H (Same.refl H))
      · rw [decide_eq_false c]
        exact iteT (iteT (q H (Same.refl H)))
def spRefused (K : PySem.W.Frag) : Sp := fun vs H Q _ => ∃ (n : Int) (a : Addr) (ps : List Int), vs = [.int n, .ref a] ∧ SqT K H a (ps.map V.int) ∧ ps.length ≤ 1000 ∧ Bad n ps ∧ ∀ H', Same H H' → Q (.bl true) H'
abbrev NR : List Str := ["_law_many", "_law_picks", "_law_error", "e"]
theorem scRefused : FnScope NR ["_law_many", "_law_picks"] (defScope sRefused) := ⟨rfl, rfl, rfl, by decide +kernel, rfl, by decide +kernel, by decide +kernel⟩
theorem ok_refused {f g : Addr} {fd gd : FuncData} (F : Fun K "_law_refused" "_law_refused" sRefused f fd) (X : ExT K mg C) (A : ExA K mg C TE c1 c2 c3 c4 c5 c6 c7 c8 c9 c10)
    (M : FnOk P w K mg base (L2.CX P w) 1 g gd ["n", "picks"] (spShufOf K C)) (bM : L2.Binds K gd ["n", "picks"] []) (kM : keepIn K (.ref g) = true) (mM : mg "shuffle_of" = some (.ref g))
    (misi : mg "isinstance" = none) : FnOk P w K mg base CX0 2 f fd ["_law_many", "_law_picks"] (spRefused K) := by
  refine F.ok scRefused (fun vs H Q E h => ?_) (fun cdv A0 outer s H vs Q E hr h => ?_)
  · obtain ⟨n, a, ps, rfl, _⟩ := h
    rfl
  obtain ⟨n, a, ps, rfl, ha, hl, hb, q⟩ := h
  refine ⟨_, pss_cons (ps_set (i := 2) scRefused.nd rfl (.inl rfl) pe_non)
    (C8.pss_cut (ps_try_hold (i := 3) rfl rfl scRefused.nd rfl rfl ⟨rfl, by decide, .inl A.gTE⟩ takes0
      (fun W pn xe tk _ => pss_one (ps_expr (pe_callS M hr rfl mM kM bM (fun σ => passAt tk σ) (pa_cons (pv 0) (pa_cons (pv 1) pa_nil)))))
      (fun a oe cls d pn hz hf => pss_one (ps_set (i := 2) scRefused.nd rfl (.inl rfl) (pv 3))))
    (pss_cons (ps_if (PW.pt (pw_or (pt_not (pt_val (pe_callB call_isH (by rfl) misi PyProof.Rows.boot_isinstance (pa_cons (pv 2) (pa_cons (pe_glob (v := .ref C) rfl X.gP rfl) pa_nil)))))
        (pw_or1 (pt_not (pt_val (pe_callB call_isH (by rfl) misi PyProof.Rows.boot_isinstance (pa_cons (pv 2) (pa_cons (pe_bltn (v := .ty "ValueError") (by rfl) A.mve (by decide +kernel) rfl) pa_nil)))))))) (pss_one (ps_ret pe_bl)) pss_nil)
    (pss_cons (ps_if (pt_val (pe_callB call_isHt (by rfl) misi PyProof.Rows.boot_isinstance (pa_cons (pv 2) (pa_cons (pe_tup (pa_cons (pe_glob (v := .ref c1) rfl A.g1 rfl) (pa_cons (pe_glob (v := .ref c2) rfl A.g2 rfl) (pa_cons (pe_glob (v := .ref c3) rfl A.g3 rfl) (pa_cons (pe_glob (v := .ref c4) rfl A.g4 rfl) (pa_cons (pe_glob (v := .ref c5) rfl A.g5 rfl) (pa_cons (pe_glob (v := .ref c6) rfl A.g6 rfl) pa_nil))))))) pa_nil)))) (pss_one (ps_ret pe_bl)) pss_nil)
    (pss_one (ps_ret (pe_not (pe_callB call_isHt (by rfl) misi PyProof.Rows.boot_isinstance (pa_cons (pv 2) (pa_cons (pe_tup (pa_cons (pe_glob (v := .ref c7) rfl A.g7 rfl) (pa_cons (pe_glob (v := .ref c8) rfl A.g8 rfl) (pa_cons (pe_glob (v := .ref c9) rfl A.g9 rfl) (pa_cons (pe_glob (v := .ref c10) rfl A.g10 rfl) pa_nil))))) pa_nil))))))))), ?_⟩
  refine ⟨fun σ H' => ∃ x, σ = [some (.int n), some (.ref a), some (.ref x), none] ∧ Same H H' ∧ H' x = some (eOb x (.ref C) none), ?_, ?_⟩
  · refine ⟨_, rfl, _, rfl, n, a, ps, rfl, ha, hl, .inr ⟨hb, fun H1 s1 => ?_⟩⟩
    refine ⟨true, A.em, fun _ x nx => ?_, fun q => nomatch q⟩
    exact ⟨_, rfl, fun _ => ⟨x, rfl, s1.trans (same_new nx _), upd_same⟩⟩
  · rintro σ' H1 ⟨x, rfl, s1, hx⟩
    refine ⟨_, rfl, x, C, _, .ref C, true, rfl, A.ec, hx, (fun u hu => hu), A.k1, _, rfl, iteF ?_⟩
    refine ⟨_, rfl, x, C, _, .type "ValueError", true, rfl, A.ec, hx, (fun u hu => hu), A.kv, _, rfl, iteF ?_⟩
    refine ⟨_, rfl, (by show 6 ≤ sizeLine; decide), fun t1 n1 => ?_⟩
    refine ⟨x, C, t1, _, _, false, rfl, A.ec, kn hx n1, upd_same, .cons (.own _) (.cons (.own _) (.cons (.own _) (.cons (.own _) (.cons (.own _) (.cons (.own _) .nil))))), A.ka, _, rfl, iteF ?_⟩
    refine ⟨_, rfl, (by show 4 ≤ sizeLine; decide), fun t2 n2 => ?_⟩
    exact ⟨x, C, t2, _, _, false, rfl, A.ec, kn (kn hx n1) n2, upd_same, .cons (.own _) (.cons (.own _) (.cons (.own _) (.cons (.own _) .nil))), A.kb, _, rfl, q _ ((s1.trans (same_new n1 _)).trans (same_new n2 _))⟩
end
end K04
namespace K04
open PySem PySem.W L2 SX Cm
def ofN (k : Nat) : Int := (k : Int)
theorem cut_one (x y : V) : cutV [x, y] none (some 1) = [x] := rfl
theorem rep13 : (List.replicate (13 : Int).toNat [V.int 0]).flatten = (List.replicate 13 (0 : Int)).map V.int := rfl
theorem Deck.sq {K : Frag} {H H' : Hp} {d c a : Addr} {xs : List V} (g : Deck H d c) (k : Kp [d, c] H H') (h : SqT K H a xs) : SqT K H' a xs := by
  obtain ⟨sm, kk, hd⟩ := g.at_
  obtain ⟨ms, hc, _⟩ := g.cells
  have tk := TKs.kp (K := K) k fun b hb => by
    rcases List.mem_cons.mp hb with z | z
    · rw [z]; exact ⟨_, hd⟩
    · rw [List.mem_singleton.mp z]; exact ⟨_, hc⟩
  exact tk _ _ h
section
variable {P : Program} {w : World} {K : PySem.W.Frag} {mg : Str → Option Value} {base : Heap} {C : Addr}
def spLaw (K : PySem.W.Frag) : Sp := fun vs H Q _ => ∃ (a : Addr) (ns : List Int), vs = [.ref a] ∧ SqL K H a (ns.map V.int) ∧ ns.length ≤ 63 ∧ ∀ H', Q (.bl true) H'
abbrev NZ : List Str := ["_law_script", "_law_deck_here", "_law_k", "_law_many", "_law_lots", "_law_j", "_law_picks", "_law_text", "_law_number", "_law_found", "_law_told", "_law_far", "_law_more"]
theorem scLaw : FnScope NZ ["_law_script"] (defScope sLaw) := ⟨rfl, rfl, rfl, by decide +kernel, rfl, by decide +kernel, by decide +kernel⟩
theorem ok_law {f gd gt gs gi gl gr : Addr} {fd gdd gtd gsd gid gld grd : FuncData} (F : Fun K "law" "law" sLaw f fd)
    (D : FnOk P w K mg base CX0 1 gd gdd ["_law_script"] (spDeck K)) (bD : L2.Binds K gdd ["_law_script"] []) (kD : keepIn K (.ref gd) = true) (mD : mg "_law_deck" = some (.ref gd))
    (G : FnOk P w K mg base CX0 2 gt gtd ["_law_deck_here", "_law_most"] spTake) (bG : L2.Binds K gtd ["_law_deck_here", "_law_most"] []) (kG : keepIn K (.ref gt) = true) (mG : mg "_law_take" = some (.ref gt))
    (M : FnOk P w K mg base (L2.CX P w) 1 gs gsd ["n", "picks"] (spShufOf K C)) (bM : L2.Binds K gsd ["n", "picks"] []) (kM : keepIn K (.ref gs) = true) (mM : mg "shuffle_of" = some (.ref gs))
    (I : FnOk P w K mg base CX0 1 gi gid ["thing"] spIsSh) (bI : L2.Binds K gid ["thing"] []) (kI : keepIn K (.ref gi) = true) (mI : mg "is_shuffle" = some (.ref gi))
    (L : FnOk P w K mg base CX0 2 gl gld ["shuffle"] (spTaken K)) (bL : L2.Binds K gld ["shuffle"] []) (kL : keepIn K (.ref gl) = true) (mL : mg "taken_left" = some (.ref gl))
    (R : FnOk P w K mg base CX0 2 gr grd ["_law_many", "_law_picks"] (spRefused K)) (bR : L2.Binds K grd ["_law_many", "_law_picks"] []) (kR : keepIn K (.ref gr) = true) (mR : mg "_law_refused" = some (.ref gr))
    (mrange : mg "range" = none) (mint : mg "int" = none) (mtup : mg "tuple" = none) (misi : mg "isinstance" = none) (mstr : mg "str" = none) (mbool : mg "bool" = none) (mmax : mg "max" = none) : FnOk P w K mg base CX0 3 f fd ["_law_script"] (spLaw K) := by
  refine F.ok scLaw (fun vs H Q E h => ?_) (fun cdv A outer s H vs Q E hr h => ?_)
  · obtain ⟨a, ns, rfl, _⟩ := h
    rfl
  obtain ⟨a, ns, rfl, hS, h63, q⟩ := h
  have hr1 := hr.mono (show 1 ≤ 2 by decide)
  refine ⟨_, pss_cons (ps_set (i := 1) scLaw.nd rfl (.inr rfl) (pe_call D hr1 rfl mD kD bD .nil pass0 (pa_cons (pv 0) pa_nil)))
    (pss_cons (ps_for PassesOwn.never rfl (pi_range1 rfl mrange (pa_cons pe_int pa_nil)) (pg_name (i := 2) scLaw.nd rfl (Or.inl rfl))
      (pss_cons (ps_set (i := 3) scLaw.nd rfl (.inr rfl) (pe_call G hr rfl mG kG bG .nil pass0 (pa_cons (pv 1) (pa_cons pe_int pa_nil))))
      (pss_cons (ps_set (i := 4) scLaw.nd rfl (.inl rfl) (pe_op op_mul (pe_call G hr rfl mG kG bG .nil pass0 (pa_cons (pv 1) (pa_cons pe_int pa_nil))) (pe_callTy call_int1 (by rfl) mint (by decide +kernel) (pa_cons (pe_cmpR op_gt (pv 3) pe_int (nomark _)) pa_nil))))
      (pss_cons (ps_set (i := 6) scLaw.nd rfl (.inl rfl) (pe_callTy call_tuple_of (by rfl) mtup (by decide +kernel) (pa_cons (pe_lc (own := [("_law_j", 5)]) (g := gName 5) (tt := tYes) rfl scLaw.nd (pi_range1 rfl mrange (pa_cons (pv 4) pa_nil)) (blkOk_by (own := [("_law_j", 5)]) (N := NZ) (sc := defScope sLaw) (by decide +kernel))
          (fun _ _ _ _ _ => pg_name (i := 5) scLaw.nd rfl (Or.inl rfl)) (fun _ _ _ _ _ => pts_nil) (fun _ _ _ _ _ => pe_call G hr rfl mG kG bG .nil pass0 (pa_cons (pv 1) (pa_cons (pv 3) pa_nil)))) pa_nil)))
      (pss_cons (ps_set (i := 7) scLaw.nd rfl (.inl rfl) (pe_op op_add_str (pe_slice sl_str pe_str po_none (po_some (pv 3))) pe_str))
      (C8.pss_cut (ps_for PassesOwn.never rfl (pi_tup (pv 6)) (pg_name (i := 8) scLaw.nd rfl (Or.inl rfl)) (pss_one (ps_set (i := 7) scLaw.nd rfl (.inl rfl) (pe_op op_add_str (pv 7) (pe_ix ix_str pe_str (pv 8) (fun _ _ => rfl))))))
      (pss_cons (ps_set (i := 9) scLaw.nd rfl (.inl rfl) (pe_call M hr1 rfl mM kM bM .nil (passes_call (E := fun _ _ _ => False) takes0 (fun _ _ _ _ h => h)) (pa_cons (pv 3) (pa_cons (pv 6) pa_nil))))
      (pss_cons (ps_if (PW.pt (pw_or (pt_not (pt_val (pe_callB call_isi (by rfl) misi PyProof.Rows.boot_isinstance (pa_cons (pv 9) (pa_cons (pe_bltn (v := .ty "str") (by rfl) mstr (by decide +kernel) rfl) pa_nil)))))
          (pw_or (pt_cmpR op_ne (pv 9) (pv 7) (nomark _)) (pw_or1 (pt_cmpR op_isnot_bl (pe_call I hr1 rfl mI kI bI .nil pass0 (pa_cons (pv 9) pa_nil)) pe_bl (nomark _)))))) (pss_one (ps_ret pe_bl)) pss_nil)
      (pss_cons (ps_set (i := 10) scLaw.nd rfl (.inl rfl) (pe_call L hr rfl mL kL bL .nil pass0 (pa_cons (pv 7) pa_nil)))
      (pss_cons (ps_if (PW.pt (pw_or (pt_not (pt_val (pe_callB call_isi (by rfl) misi PyProof.Rows.boot_isinstance (pa_cons (pv 10) (pa_cons (pe_bltn (v := .ty "tuple") (by rfl) mtup (by decide +kernel) rfl) pa_nil)))))
          (pw_or (pt_cmpR (op_neD hr.units) (pv 10) (pe_tup (pa_cons (pv 3) (pa_cons (pv 6) pa_nil))) (nomark _)) (pw_or1 (pt_not (pt_val (pe_callB call_isi (by rfl) misi PyProof.Rows.boot_isinstance (pa_cons (pe_ix ix_tup (pv 10) pe_int (fun _ _ => rfl)) (pa_cons (pe_bltn (v := .ty "tuple") (by rfl) mtup (by decide +kernel) rfl) pa_nil))))))))) (pss_one (ps_ret pe_bl)) pss_nil)
      (pss_cons (ps_if (pt_cmpR (op_neD hr.units) (pe_lc (own := [("_law_number", 8)]) (g := gName 8) (tt := tOr (tNot (tB (tCB (rIsi K) (tCons (tVar 8) (tCons (tC (V.ty "int")) tNil))))) (tB (tCB (rIsi K) (tCons (tVar 8) (tCons (tC (V.ty "bool")) tNil))))) rfl scLaw.nd (pi_tup (pe_op op_catA (pe_ix ix_tup (pv 10) pe_int (fun _ _ => rfl)) (pe_slice sl_tupA (pv 10) po_none (po_some pe_int)))) (blkOk_by (own := [("_law_number", 8)]) (N := NZ) (sc := defScope sLaw) (by decide +kernel))
          (fun _ _ _ _ _ => pg_name (i := 8) scLaw.nd rfl (Or.inl rfl)) (fun _ _ _ _ _ => pts_one (PW.pt (pw_or (pt_not (pt_val (pe_callB call_isi (by rfl) misi PyProof.Rows.boot_isinstance (pa_cons (pv 8) (pa_cons (pe_bltn (v := .ty "int") (by rfl) mint (by decide +kernel) rfl) pa_nil))))) (pw_or1 (pt_val (pe_callB call_isi (by rfl) misi PyProof.Rows.boot_isinstance (pa_cons (pv 8) (pa_cons (pe_bltn (v := .ty "bool") (by rfl) mbool (by decide +kernel) rfl) pa_nil)))))))) (fun _ _ _ _ _ => pv 8)) (pe_lst pa_nil) (nomark _)) (pss_one (ps_ret pe_bl)) pss_nil)
      (pss_cons (ps_set (i := 11) scLaw.nd rfl (.inr rfl) (pe_ix ix_list (pe_lst (pa_cons pe_int (pa_cons pe_int (pa_cons pe_int (pa_cons pe_int pa_nil))))) (pe_call G hr rfl mG kG bG .nil pass0 (pa_cons (pv 1) (pa_cons pe_int pa_nil))) (fun _ _ => rfl)))
      (pss_cons (ps_if (pt_not (pt_val (pe_call R hr rfl mR kR bR .nil pass0 (pa_cons (pv 11) (pa_cons (pe_callTy call_tuple_of (by rfl) mtup (by decide +kernel) (pa_cons (pe_lc (own := [("_law_number", 8)]) (g := gName 8) (tt := tYes) rfl scLaw.nd (pi_tup (pv 6)) (blkOk_by (own := [("_law_number", 8)]) (N := NZ) (sc := defScope sLaw) (by decide +kernel))
          (fun _ _ _ _ _ => pg_name (i := 8) scLaw.nd rfl (Or.inl rfl)) (fun _ _ _ _ _ => pts_nil) (fun _ _ _ _ _ => pe_op op_mod (pv 8) (pv 11))) pa_nil)) pa_nil))))) (pss_one (ps_ret pe_bl)) pss_nil)
      (pss_cons (ps_set (i := 12) scLaw.nd rfl (.inl rfl) (pe_slice sl_tupA (pe_op op_catA (pv 6) (pe_op op_repA (pe_tup (pa_cons pe_int pa_nil)) pe_int)) po_none (po_some (pe_op op_add pe_int (pe_call G hr rfl mG kG bG .nil pass0 (pa_cons (pv 1) (pa_cons pe_int pa_nil)))))))
      (pss_one (ps_if (pt_not (pt_val (pe_call R hr rfl mR kR bR .nil pass0 (pa_cons (pe_callB (call_max2 rfl) (by rfl) mmax (by decide +kernel) (pa_cons pe_int (pa_cons (pv 3) pa_nil))) (pa_cons (pv 12) pa_nil))))) (pss_one (ps_ret pe_bl)) pss_nil))))))))))))))))
    (pss_one (ps_ret (pe_and (pe_cmpR op_eq (pe_call M hr1 rfl mM kM bM .nil (passes_call (E := fun _ _ _ => False) takes0 (fun _ _ _ _ h => h)) (pa_cons pe_int (pa_cons (pe_tup pa_nil) pa_nil))) pe_str (nomark _)) (pe_one (pe_cmpR (op_eqD hr.units) (pe_call L hr rfl mL kL bL .nil pass0 (pa_cons pe_str pa_nil)) (pe_tup (pa_cons pe_int (pa_cons (pe_tup pa_nil) pa_nil))) (nomark _))))))), ?_⟩
  have l8 : ("abcdefgh" : Str).length = 8 := by decide +kernel
  have es : ("-" : Str) = S [45] := by decide +kernel
  refine ⟨_, rfl, a, ns, rfl, hS, h63, fun d c H1 s1 nd nc D1 => ?_⟩
  refine ⟨12, rfl, by decide, by decide, for_range (lo := 0) (n := 12) (fun i σ H' => ∃ (x2 x3 x4 x6 x7 x8 x9 x10 x11 x12 : Option V), σ = [some (.ref a), some (.ref d), x2, x3, x4, none, x6, x7, x8, x9, x10, x11, x12] ∧ Deck H' d c)
    ⟨none, none, none, none, none, none, none, none, none, none, rfl, D1⟩ ?_ ?_⟩
  · rintro i σ H2 hi ⟨x2, x3, x4, x6, x7, x8, x9, x10, x11, x12, rfl, D2⟩
    refine ⟨_, rfl, d, c, 9, rfl, D2, by decide, by decide, fun m H3 m0 m1 k3 D3 => ?_⟩
    obtain ⟨m, rfl⟩ := Int.eq_ofNat_of_zero_le m0
    have m8 : m ≤ 8 := by omega
    refine ⟨_, rfl, d, c, 13, rfl, D3, by decide, by decide, fun r H4 r0 r1 k4 D4 => ?_⟩
    refine ⟨_, rfl, _, _, rfl, rfl, .inr ⟨_, rfl, _, _, rfl, rfl, .inl ⟨by omega, by omega⟩, ?_⟩⟩
    obtain ⟨j, ej, j0, j1, j2⟩ : ∃ j : Int, r * (if (decide ((m : Int) > 0)) = true then 1 else 0) = j ∧ 0 ≤ j ∧ j ≤ 12 ∧ (0 < j → 0 < m) := by
      by_cases c : m = 0
      · subst c
        exact ⟨0, Int.mul_zero r, by omega, by omega, by omega⟩
      · rw [decide_eq_true (show (m : Int) > 0 by omega)]
        exact ⟨r, Int.mul_one r, r0, by omega, by omega⟩
    refine ⟨_, rfl, j, congrArg (fun z : Int => [V.int z]) ej, by omega, by omega, fun B nB => ?_⟩
    have nBd := D4.nd nB
    refine lc_range (lo := 0) (n := j.toNat) (fun i H' => ∃ (ks : List Nat), H' B = some (.lst ((ks.map ofN).map V.int)) ∧ ks.length = i ∧ (∀ k ∈ ks, k < m) ∧ Deck H' d c)
      ⟨[], upd_same, rfl, (fun x h => nomatch h), D4.new nB⟩ ?_ ?_
    · rintro i H6 hi ⟨ks, e1, e2, e3, g6⟩
      refine ⟨rfl, _, rfl, _, rfl, d, c, m, rfl, g6, by have := j2 (by omega); omega, by omega, fun y H7 y0 y1 k7 g7 => ?_⟩
      obtain ⟨y, rfl⟩ := Int.eq_ofNat_of_zero_le y0
      have hB := k7 B _ nBd e1
      refine ⟨_, hB, ?_, ks ++ [y], ?_, ?_, ?_, g7.put nBd⟩
      · rw [List.length_map, List.length_map, sizeLine_eq]; omega
      · rw [upd_same, List.map_append, List.map_append]; rfl
      · rw [List.length_append, e2]; rfl
      · intro z hz
        rcases List.mem_append.mp hz with h | h
        · exact e3 z h
        · rw [List.mem_singleton.mp h]; omega
    rintro H5 ⟨ks, hB5, lks, hks, D5⟩
    have l12 : ks.length ≤ 12 := by omega
    refine ⟨B, _, rfl, .inl ⟨SqL.of hB5, fun p np => ?_⟩⟩
    have hp : SqT K (upd H5 p (.tup ((ks.map ofN).map V.int))) p ((ks.map ofN).map V.int) := SqT.of upd_same
    have D6 := D5.new np (o := .tup ((ks.map ofN).map V.int))
    generalize upd H5 p (.tup ((ks.map ofN).map V.int)) = H6 at hp D6
    have hsh := shuf_lets m8 l12 hks
    refine ⟨_, rfl, _, rfl, _, rfl, (by rw [l8]; decide), ?_⟩
    rw [lit_abc, cutS_to (show (0 : Int) ≤ (m : Int) by omega), es]
    have en : List.take (m : Int).toNat abc8 = abc m := rfl
    rw [en]
    refine ⟨_, _, rfl, rfl, ?_, ?_⟩
    · rw [S_len, S_len, abc_len m8]; exact Nat.le_of_lt (small1000 (by show m + 1 ≤ 1000; omega))
    rw [S_cat]
    refine ⟨fun σ H' => ∃ (y8 : Option V), σ = [some (.ref a), some (.ref d), some (.int (0 + (i : Int))), some (.int m), some (.int (r * (if (decide ((m : Int) > 0)) = true then 1 else 0))), none, some (.ref p), some (.str (S (shuf m (lets ks)))), y8, x9, x10, x11, x12] ∧ H' = H6, ?_, ?_⟩
    · refine ⟨_, rfl, p, rfl, ⟨_, hp⟩, ?_⟩
      refine for_tup (K := K) (a := p) (xs := (ks.map ofN).map V.int) (fun e σ H' => ∃ (y8 : Option V), σ = [some (.ref a), some (.ref d), some (.int (0 + (i : Int))), some (.int m), some (.int (r * (if (decide ((m : Int) > 0)) = true then 1 else 0))), none, some (.ref p), some (.str (S (abc m ++ [45] ++ (lets ks).take e))), y8, x9, x10, x11, x12] ∧ H' = H6)
        ⟨_, by rw [List.take_zero, List.append_nil]; rfl, rfl⟩ (fun e σ H' _ h => by obtain ⟨_, _, rfl⟩ := h; exact hp) ?_ ?_
      · rintro e x σ H' hx ⟨y8, rfl, rfl⟩
        rw [List.getElem?_map, List.getElem?_map] at hx
        obtain ⟨y, hy, rfl⟩ := Option.map_eq_some_iff.mp hx
        obtain ⟨k, hk, rfl⟩ := Option.map_eq_some_iff.mp hy
        have hkm := hks k (List.mem_of_getElem? hk)
        have he : e < ks.length := (List.getElem?_eq_some_iff.mp hk).1
        refine ⟨_, rfl, _, rfl, _, _, _, rfl, rfl, (by rw [S_len]; show 8 ≤ sizeLine; decide), atI_nat (j := k) (abc8_at k (by omega)), ?_⟩
        have ll : ((lets ks).take e).length ≤ 12 := by rw [List.length_take]; unfold lets; rw [List.length_map]; omega
        refine ⟨_, _, rfl, rfl, ?_, ?_⟩
        · rw [S_len, List.length_append, List.length_append, abc_len m8]
          exact Nat.le_of_lt (small1000 (by show m + 1 + ((lets ks).take e).length + 1 ≤ 1000; omega))
        · have e1 : S (abc m ++ [45] ++ (lets ks).take e) ++ (⟨#[k + 97]⟩ : Str) = S (abc m ++ [45] ++ (lets ks).take e ++ [k + 97]) := S_cat _ [k + 97]
          rw [e1]
          refine ⟨some (V.int (ofN k)), ?_, rfl⟩
          have e2 : (lets ks).take (e + 1) = (lets ks).take e ++ [k + 97] := by
            rw [List.take_add_one]
            unfold lets
            rw [List.getElem?_map, hk]; rfl
          rw [e2, ← List.append_assoc]; rfl
      · rintro σ H' ⟨y8, rfl, rfl⟩
        refine ⟨y8, ?_, rfl⟩
        have e3 : (lets ks).take ((ks.map ofN).map V.int).length = lets ks := by
          rw [List.length_map, List.length_map]
          exact List.take_of_length_le (by unfold lets; rw [List.length_map]; exact Nat.le_refl _)
        rw [e3, List.append_assoc]; rfl
    rintro σ' H6' ⟨y8, rfl, rfl⟩
    have eks : ks.map ofN = ks.map (fun k : Nat => (k : Int)) := rfl
    refine ⟨_, rfl, _, rfl, m, p, ks.map ofN, rfl, hp, by rw [List.length_map]; omega, .inl ⟨m, ks, rfl, m8, l12, eks, hks, fun H7 s7 => ?_⟩⟩
    refine ⟨_, rfl, _, _, _, _, true, rfl, .ty _, .base (.str _), kit_ty (r := true) (by decide +kernel), _, rfl, iteF ?_⟩
    refine ⟨_, rfl, _, rfl, rfl, _, rfl, ?_⟩
    rw [decide_eq_true (show V.str (S (shuf m (lets ks))) = V.str (S (shuf m (lets ks))) from rfl)]
    refine iteF ?_
    refine ⟨_, rfl, _, rfl, by have := shuf_len hsh; omega, fun H8 s8 => ?_⟩
    rw [shuf_ok hsh]
    refine ⟨_, _, rfl, rfl, _, rfl, iteF ?_⟩
    refine ⟨_, rfl, m, lets ks, rfl, hsh, fun t0 t1 H9 s9 ht1 ht0 => ?_⟩
    rw [pk_lets] at ht1
    have ht1' : SqT K H9 t1 ((ks.map ofN).map V.int) := by rw [List.map_map]; exact ht1
    have s69 := (s7.trans s8).trans s9
    refine ⟨_, rfl, _, _, _, _, true, rfl, .ty _, tyTup ht0, kit_ty (r := true) (by decide +kernel), _, rfl, iteF ?_⟩
    refine ⟨_, rfl, _, rfl, _, rfl, (by show 2 ≤ sizeLine; decide), fun t2 n2 => ?_⟩
    have s2 := same_new n2 (.tup [V.int (m : Int), .ref p])
    have A1 : MapAt K (upd H9 t2 (.tup [V.int (m : Int), .ref p])) t0 (m : Int) (ks.map ofN) := ⟨t1, Same.seqT s2 ht0, Same.seqT s2 ht1'⟩
    have A2 : MapAt K (upd H9 t2 (.tup [V.int (m : Int), .ref p])) t2 (m : Int) (ks.map ofN) := ⟨p, SqT.of upd_same, Same.seqT (s69.trans s2) hp⟩
    refine ⟨_, _, A1.dp, A2.dp, mapD_shaped _ _, mapD_shaped _ _, _, rfl, ?_⟩
    rw [SeqAt.eqv_refl _ (mapD_lay _ _)]
    refine iteF ?_
    have ht0 := Same.seqT s2 ht0
    have ht1' := Same.seqT s2 ht1'
    have s610 := s69.trans s2
    generalize upd H9 t2 (.tup [V.int (m : Int), .ref p]) = H10 at ht0 ht1' s610
    clear A1 A2
    refine ⟨_, rfl, t0, _, 1, _, rfl, rfl, ht0, atI_nat (j := 1) rfl, _, _, _, _, true, rfl, .ty _, tyTup ht1', kit_ty (r := true) (by decide +kernel), _, rfl, iteF ?_⟩
    refine ⟨_, rfl, t0, _, 1, _, rfl, rfl, ht0, atI_nat (j := 1) rfl, _, rfl, 1, rfl, ?_⟩
    refine ⟨t0, _, rfl, ht0, fun c => ?_, fun _ t3 n3 => ?_⟩
    · exact absurd c.2 (show ¬ (1 : Nat) = 2 by decide)
    rw [cut_one]
    have s3 := same_new n3 (.tup [V.int (m : Int)])
    refine catT_map (Same.seqT s3 ht1') (SqT.of upd_same) ?_ fun t4 H11 s11 ht4 => ?_
    · rw [List.length_map, List.length_map]; show _ + 1 ≤ _; omega
    refine ⟨t4, rfl, ⟨_, ht4⟩, fun E nE => ?_⟩
    have ht4' : SqT K H11 t4 ((ks.map ofN ++ [(m : Int)]).map V.int) := by rw [List.map_append]; exact ht4
    refine lc_tup (K := K) (a := t4) (xs := (ks.map ofN ++ [(m : Int)]).map V.int) (fun i H' => H' = upd H11 E (.lst [])) rfl (fun i H' _ e => ?_) ?_ ?_
    · rw [e]; exact Same.seqT (same_new nE _) ht4'
    · rintro i x H' hx rfl
      obtain ⟨y, _, rfl⟩ := List.mem_map.mp (List.mem_of_getElem? hx)
      refine ⟨rfl, _, rfl, _, _, _, _, true, rfl, .ty _, .base (.int _), kit_ty (r := true) (by decide +kernel), _, rfl, iteF ?_⟩
      exact ⟨_, rfl, _, _, _, _, false, rfl, .ty _, .base (.int _), kit_ty (r := false) (by decide +kernel), _, rfl, rfl⟩
    rintro H' rfl
    refine ⟨(by show 0 ≤ sizeLine; decide), fun e ne => ?_⟩
    refine ⟨_, _, .lst (SqL.of (kn upd_same ne)) .nil, .lst (SqL.of upd_same) .nil, rfl, rfl, _, rfl, iteF ?_⟩
    have s612 := ((s610.trans s3).trans s11).trans ((same_new nE (.lst [])).trans (same_new ne (.lst [])))
    have D12 := D6.same s612
    have hp12 := Same.seqT s612 hp
    generalize upd (upd H11 E (.lst [])) e (.lst []) = H12 at s612 D12 hp12
    refine ⟨(by show 4 ≤ sizeLine; decide), fun l1 nl1 => ?_⟩
    have nl1d := D12.nd nl1
    have DL := D12.new nl1 (o := .lst [V.int 9, V.int 10, V.int 13, V.int 40])
    refine ⟨_, rfl, d, c, 4, rfl, DL, by decide, by decide, fun u H13 u0 u1 k13 D13 => ?_⟩
    have hl13 := k13 l1 _ nl1d upd_same
    have hp13 := DL.sq k13 (Same.seqT (same_new nl1 (.lst [V.int 9, V.int 10, V.int 13, V.int 40])) hp12)
    obtain ⟨fr, hfr, fr8⟩ : ∃ fr : Int, atI [V.int 9, V.int 10, V.int 13, V.int 40] u = some (.int fr) ∧ fr > 8 := by
      have e : u = 0 ∨ u = 1 ∨ u = 2 ∨ u = 3 := by omega
      rcases e with e | e | e | e
      · rw [e]; exact ⟨9, atI_nat (j := 0) rfl, by decide⟩
      · rw [e]; exact ⟨10, atI_nat (j := 1) rfl, by decide⟩
      · rw [e]; exact ⟨13, atI_nat (j := 2) rfl, by decide⟩
      · rw [e]; exact ⟨40, atI_nat (j := 3) rfl, by decide⟩
    refine ⟨l1, _, _, _, rfl, rfl, SqL.of hl13, hfr, ?_⟩
    refine ⟨_, rfl, _, rfl, p, rfl, ⟨_, hp13⟩, fun G1 nG1 => ?_⟩
    refine lc_mapT (fun v => match v with | .int y => .int (y % fr) | v => v) hp13 nG1 (by rw [List.length_map, List.length_map]; omega) (fun x H3 R hx _ r' => ?_) ?_
    · obtain ⟨y, _, rfl⟩ := List.mem_map.mp hx
      exact ⟨rfl, _, rfl, _, rfl, _, _, rfl, rfl, by omega, r'⟩
    refine ⟨G1, _, rfl, .inl ⟨SqL.of upd_same, fun t5 n5 => ?_⟩⟩
    have s1315 := (same_new nG1 (.lst (((ks.map ofN).map V.int).map fun v => match v with | .int y => V.int (y % fr) | v => v))).trans (same_new n5 (.tup (((ks.map ofN).map V.int).map fun v => match v with | .int y => V.int (y % fr) | v => v)))
    refine ⟨fr, t5, (ks.map ofN).map (fun y => y % fr), rfl, ?_, by rw [List.length_map, List.length_map]; omega, .inl fr8, fun H16 s16 => ⟨_, rfl, iteF ?_⟩⟩
    · refine SqT.of (upd_same.trans ?_)
      rw [List.map_map, List.map_map, List.map_map, List.map_map]; rfl
    have s1316 := s1315.trans s16
    have D16 := D13.same s1316
    have hp16 := Same.seqT s1316 hp13
    refine ⟨_, rfl, (by show 1 ≤ sizeLine; decide), fun t6 n6 => ?_⟩
    have s6 := same_new n6 (.tup [V.int 0])
    refine ⟨t6, 13, _, rfl, rfl, SqT.of upd_same, List.cons_ne_nil _ _, by decide, by decide, by show 1 ≤ 1000; decide, fun t7 H17 s17 ht7 => ?_⟩
    rw [rep13] at ht7
    refine catT_map (Same.seqT (s6.trans s17) hp16) ht7 ?_ fun t8 H18 s18 ht8 => ?_
    · rw [List.length_map, List.length_map, List.length_map, List.length_replicate]; omega
    rw [← List.map_append] at ht8
    have D18 := D16.same ((s6.trans s17).trans s18)
    refine ⟨_, rfl, d, c, 2, rfl, D18, by decide, by decide, fun e2 H19 e20 e21 k19 D19 => ?_⟩
    obtain ⟨e2, rfl⟩ := Int.eq_ofNat_of_zero_le e20
    refine ⟨_, _, rfl, rfl, ((13 + e2 : Nat) : Int), rfl, ?_⟩
    refine slT_upto (i := 13 + e2) (D18.sq k19 ht8) fun t9 H20 s20 ht9 => ?_
    refine ⟨_, rfl, _, _, rfl, ?_⟩
    refine ⟨_, rfl, _, t9, _, rfl, ht9, ?_, ?_, fun H21 s21 => ⟨_, rfl, iteF ?_⟩⟩
    · rw [List.length_take, List.length_append, List.length_map, List.length_replicate]; omega
    · refine .inr ⟨?_, ?_⟩
      · by_cases cm : (m : Int) > 1
        · rw [if_pos cm]; omega
        · rw [if_neg cm]; decide
      · rw [List.length_take, List.length_append, List.length_map, List.length_replicate]; omega
    exact ⟨_, _, _, _, _, _, _, _, _, _, rfl, D19.same (s20.trans s21)⟩
  · rintro σ H2 ⟨x2, x3, x4, x6, x7, x8, x9, x10, x11, x12, rfl, D2⟩
    refine ⟨(by show 0 ≤ sizeLine; decide), fun t0 nt0 => ?_⟩
    refine ⟨0, t0, [], rfl, SqT.of upd_same, by decide, .inl ⟨0, [], rfl, by decide, by decide, rfl, (fun k h => nomatch h), fun H3 s3 => ?_⟩⟩
    have e0 : S (shuf 0 (lets [])) = ("-" : Str) := by decide +kernel
    rw [e0]
    refine ⟨rfl, _, rfl, ?_⟩
    rw [decide_eq_true (show V.str ("-" : Str) = V.str "-" from rfl)]
    refine iteT ?_
    refine ⟨0, [], by rw [show S (shuf 0 []) = ("-" : Str) by decide +kernel]; rfl, ⟨by decide, by decide, fun c h => nomatch h⟩, fun p1 t1 H4 s4 ht1 hp1 => ?_⟩
    refine ⟨(by show 0 ≤ sizeLine; decide), fun t2 nt2 => ⟨(by show 2 ≤ sizeLine; decide), fun t3 nt3 => ?_⟩⟩
    have sx := (same_new nt2 (.tup [])).trans (same_new nt3 (.tup [V.int 0, .ref t2]))
    have A1 : MapAt K (upd (upd H4 t2 (.tup [])) t3 (.tup [V.int 0, .ref t2])) p1 0 [] := ⟨t1, Same.seqT sx hp1, Same.seqT sx ht1⟩
    have A2 : MapAt K (upd (upd H4 t2 (.tup [])) t3 (.tup [V.int 0, .ref t2])) t3 0 [] := ⟨t2, SqT.of upd_same, SqT.of (kn upd_same nt3)⟩
    refine ⟨_, _, A1.dp, A2.dp, mapD_shaped _ _, mapD_shaped _ _, ?_⟩
    rw [SeqAt.eqv_refl _ (mapD_lay _ _)]
    exact q _
end
end K04
namespace K04
open PySem PySem.W L2 SX Cm
theorem all_mk {l : PySem.W.OpenLaw} {w : World} {K : PySem.W.Frag} {h : Heap} {mg : Str → Option Value} {fa f1 f2 f3 f4 f5 f6 f7 f8 : Addr} (X : K.In h) (G : h.Ns mainGlobals mg) (hfa : mg "law" = some (.ref fa))
    {od1 an1 od2 an2 od3 an3 od4 an4 od5 an5 od6 an6 od7 an7 od8 an8 : Option Addr} {sl1 sl2 sl3 sl4 sl5 sl6 sl7 sl8 : Array (Option Value)} {oc1 kV1 dc1 pm1 cd1 ct1 oc2 kV2 dc2 pm2 cd2 ct2 oc3 kV3 dc3 pm3 cd3 ct3 oc4 kV4 dc4 pm4 cd4 ct4 oc5 kV5 dc5 pm5 cd5 ct5 oc6 kV6 dc6 pm6 cd6 ct6 oc7 kV7 dc7 pm7 cd7 ct7 oc8 kV8 dc8 pm8 cd8 ct8 : Value}
    (a1 : PySem.W.nsIn K mainGlobals "is_shuffle" = some (some (.ref f1))) (l1 : K.lookup f1 = some ⟨oc1, od1, .func (PySem.W.fnOf "is_shuffle" "is_shuffle" (defArgs sIsSh) (defBody sIsSh) (defScope sIsSh) .none kV1 dc1 pm1 an1 cd1 ct1), sl1⟩) (c1 : PySem.W.codeIn K cd1 "is_shuffle" = true) (k1 : PySem.W.keepIn K (.ref f1) = true)
    (a2 : PySem.W.nsIn K mainGlobals "taken_left" = some (some (.ref f2))) (l2 : K.lookup f2 = some ⟨oc2, od2, .func (PySem.W.fnOf "taken_left" "taken_left" (defArgs sTaken) (defBody sTaken) (defScope sTaken) .none kV2 dc2 pm2 an2 cd2 ct2), sl2⟩) (c2 : PySem.W.codeIn K cd2 "taken_left" = true) (k2 : PySem.W.keepIn K (.ref f2) = true)
    (a3 : PySem.W.nsIn K mainGlobals "shuffle_of" = some (some (.ref f3))) (l3 : K.lookup f3 = some ⟨oc3, od3, .func (PySem.W.fnOf "shuffle_of" "shuffle_of" (defArgs sShufOf) (defBody sShufOf) (defScope sShufOf) .none kV3 dc3 pm3 an3 cd3 ct3), sl3⟩) (c3 : PySem.W.codeIn K cd3 "shuffle_of" = true) (k3 : PySem.W.keepIn K (.ref f3) = true)
    (a4 : PySem.W.nsIn K mainGlobals "_law_mixed" = some (some (.ref f4))) (l4 : K.lookup f4 = some ⟨oc4, od4, .func (PySem.W.fnOf "_law_mixed" "_law_mixed" (defArgs sMixed) (defBody sMixed) (defScope sMixed) .none kV4 dc4 pm4 an4 cd4 ct4), sl4⟩) (c4 : PySem.W.codeIn K cd4 "_law_mixed" = true) (k4 : PySem.W.keepIn K (.ref f4) = true)
    (a5 : PySem.W.nsIn K mainGlobals "_law_deck" = some (some (.ref f5))) (l5 : K.lookup f5 = some ⟨oc5, od5, .func (PySem.W.fnOf "_law_deck" "_law_deck" (defArgs sDeck) (defBody sDeck) (defScope sDeck) .none kV5 dc5 pm5 an5 cd5 ct5), sl5⟩) (c5 : PySem.W.codeIn K cd5 "_law_deck" = true) (k5 : PySem.W.keepIn K (.ref f5) = true)
    (a6 : PySem.W.nsIn K mainGlobals "_law_take" = some (some (.ref f6))) (l6 : K.lookup f6 = some ⟨oc6, od6, .func (PySem.W.fnOf "_law_take" "_law_take" (defArgs sTake) (defBody sTake) (defScope sTake) .none kV6 dc6 pm6 an6 cd6 ct6), sl6⟩) (c6 : PySem.W.codeIn K cd6 "_law_take" = true) (k6 : PySem.W.keepIn K (.ref f6) = true)
    (a7 : PySem.W.nsIn K mainGlobals "_law_refused" = some (some (.ref f7))) (l7 : K.lookup f7 = some ⟨oc7, od7, .func (PySem.W.fnOf "_law_refused" "_law_refused" (defArgs sRefused) (defBody sRefused) (defScope sRefused) .none kV7 dc7 pm7 an7 cd7 ct7), sl7⟩) (c7 : PySem.W.codeIn K cd7 "_law_refused" = true) (k7 : PySem.W.keepIn K (.ref f7) = true)
    (a8 : PySem.W.nsIn K mainGlobals "law" = some (some (.ref f8))) (l8 : K.lookup f8 = some ⟨oc8, od8, .func (PySem.W.fnOf "law" "law" (defArgs sLaw) (defBody sLaw) (defScope sLaw) .none kV8 dc8 pm8 an8 cd8 ct8), sl8⟩) (c8 : PySem.W.codeIn K cd8 "law" = true) (k8 : PySem.W.keepIn K (.ref f8) = true)
    (z_len : PySem.W.nsIn K mainGlobals "len" = some none)
    (z_tuple : PySem.W.nsIn K mainGlobals "tuple" = some none)
    (z_list : PySem.W.nsIn K mainGlobals "list" = some none)
    (z_reversed : PySem.W.nsIn K mainGlobals "reversed" = some none)
    (z_sum : PySem.W.nsIn K mainGlobals "sum" = some none)
    (z_range : PySem.W.nsIn K mainGlobals "range" = some none)
    (z_isinstance : PySem.W.nsIn K mainGlobals "isinstance" = some none)
    (z_str : PySem.W.nsIn K mainGlobals "str" = some none)
    (z_all : PySem.W.nsIn K mainGlobals "all" = some none)
    (z_int : PySem.W.nsIn K mainGlobals "int" = some none)
    (z_bool : PySem.W.nsIn K mainGlobals "bool" = some none)
    (z_max : PySem.W.nsIn K mainGlobals "max" = some none)
    (z_ValueError : PySem.W.nsIn K mainGlobals "ValueError" = some none)
    {tL : Tok} (g_LETTERS : PySem.W.nsIn K mainGlobals "LETTERS" = some (some (.str "abcdefgh" tL)))
    {tM : Tok} (g_MOST_LEFT : PySem.W.nsIn K mainGlobals "MOST_LEFT" = some (some (.int 12 tM)))
    {C : Addr} (g_NoShuffle : PySem.W.nsIn K mainGlobals "NoShuffle" = some (some (.ref C)))
    {TE : Addr} (g_TakeError : PySem.W.nsIn K mainGlobals "TakeError" = some (some (.ref TE)))
    {D1 : Addr} (g_NoBook : PySem.W.nsIn K mainGlobals "NoBook" = some (some (.ref D1)))
    {D2 : Addr} (g_NoCode : PySem.W.nsIn K mainGlobals "NoCode" = some (some (.ref D2)))
    {D3 : Addr} (g_NoKind : PySem.W.nsIn K mainGlobals "NoKind" = some (some (.ref D3)))
    {D4 : Addr} (g_NoRow : PySem.W.nsIn K mainGlobals "NoRow" = some (some (.ref D4)))
    {D5 : Addr} (g_NoStep : PySem.W.nsIn K mainGlobals "NoStep" = some (some (.ref D5)))
    {D6 : Addr} (g_NoText : PySem.W.nsIn K mainGlobals "NoText" = some (some (.ref D6)))
    {D7 : Addr} (g_NoTurn : PySem.W.nsIn K mainGlobals "NoTurn" = some (some (.ref D7)))
    {D8 : Addr} (g_NoWord : PySem.W.nsIn K mainGlobals "NoWord" = some (some (.ref D8)))
    {D9 : Addr} (g_TooMany : PySem.W.nsIn K mainGlobals "TooMany" = some (some (.ref D9)))
    {D10 : Addr} (g_Twice : PySem.W.nsIn K mainGlobals "Twice" = some (some (.ref D10)))
    (xP : PySem.W.excIn K C [.type "ValueError", .type "Exception", .type "BaseException", .type "object"] "ValueError.__new__" = true)
    (kP : PySem.W.keepIn K (.ref C) = true)
    (bP : PySem.W.subIn K (.ref C) (.type "BaseException") = some true)
    (tP : PySem.W.typeIn K (.ref C) = some (.type "type"))
    (e1 : PySem.W.subIn K (.ref TE) (.type "BaseException") = some true)
    (e2 : PySem.W.hasDictIn K TE = true)
    (e3 : PySem.W.typeIn K (.ref TE) = some (.type "type"))
    (e4 : PySem.W.subIn K (.ref C) (.ref TE) = some true)
    (h1 : PySem.W.findIn K (.ref C) "__getattribute__" = some (some (.builtin "BaseException.__getattribute__")))
    (h2 : PySem.W.findIn K (.ref C) "__getattr__" = some none)
    (h4 : PySem.W.hasDictIn K C = true)
    (h5 : PySem.W.findIn K (.ref C) "__class__" = some (some (.builtin "object.__class__")))
    (h6 : PySem.W.specialIn K (.builtin "object.__class__") "__get__" = some (some (.builtin "getset_descriptor.__get__")))
    (h7 : PySem.W.takesIn K (.builtin "object.__class__") = some true)
    (h8 : PySem.W.mroIn K C (.type "object") = some true)
    (ka : PySem.W.kitAny K (.ref C) [.ref D1, .ref D2, .ref D3, .ref D4, .ref D5, .ref D6] = some false)
    (kb : PySem.W.kitAny K (.ref C) [.ref D7, .ref D8, .ref D9, .ref D10] = some false)
    (q1 : PySem.W.kitOne K (.ref C) (.ref C) = some true)
    (qv : PySem.W.kitOne K (.ref C) (.type "ValueError") = some true)
    : ∃ fd : FuncData, (∀ (s : Shared) (v : Value), BindsTo s fd ⟨[v], []⟩ [("_law_script", v)]) ∧ ∀ base : Heap, K.In base → base.Ns mainGlobals mg → FnOk l.prog w K mg base CX0 3 fa fd ["_law_script"] (spLaw K) := by
  have e := hfa.symm.trans (PySem.W.mg_of X G a8)
  cases e
  have F1 := fun_mk (st := sIsSh) l1 c1 k1
  have b1 := F1.binds (ps := ["thing"]) fun _ _ _ _ _ _ us hl => match us, hl with | [_], _ => rfl
  have m1 := PySem.W.mg_of X G a1
  have F2 := fun_mk (st := sTaken) l2 c2 k2
  have b2 := F2.binds (ps := ["shuffle"]) fun _ _ _ _ _ _ us hl => match us, hl with | [_], _ => rfl
  have m2 := PySem.W.mg_of X G a2
  have F3 := fun_mk (st := sShufOf) l3 c3 k3
  have b3 := F3.binds (ps := ["n", "picks"]) fun _ _ _ _ _ _ us hl => match us, hl with | [_, _], _ => rfl
  have m3 := PySem.W.mg_of X G a3
  have F4 := fun_mk (st := sMixed) l4 c4 k4
  have b4 := F4.binds (ps := ["_law_cell", "_law_k"]) fun _ _ _ _ _ _ us hl => match us, hl with | [_, _], _ => rfl
  have m4 := PySem.W.mg_of X G a4
  have F5 := fun_mk (st := sDeck) l5 c5 k5
  have b5 := F5.binds (ps := ["_law_script"]) fun _ _ _ _ _ _ us hl => match us, hl with | [_], _ => rfl
  have m5 := PySem.W.mg_of X G a5
  have F6 := fun_mk (st := sTake) l6 c6 k6
  have b6 := F6.binds (ps := ["_law_deck_here", "_law_most"]) fun _ _ _ _ _ _ us hl => match us, hl with | [_, _], _ => rfl
  have m6 := PySem.W.mg_of X G a6
  have F7 := fun_mk (st := sRefused) l7 c7 k7
  have b7 := F7.binds (ps := ["_law_many", "_law_picks"]) fun _ _ _ _ _ _ us hl => match us, hl with | [_, _], _ => rfl
  have m7 := PySem.W.mg_of X G a7
  have F8 := fun_mk (st := sLaw) l8 c8 k8
  have y_len := PySem.W.mg_none_of X G z_len
  have y_tuple := PySem.W.mg_none_of X G z_tuple
  have y_list := PySem.W.mg_none_of X G z_list
  have y_reversed := PySem.W.mg_none_of X G z_reversed
  have y_sum := PySem.W.mg_none_of X G z_sum
  have y_range := PySem.W.mg_none_of X G z_range
  have y_isinstance := PySem.W.mg_none_of X G z_isinstance
  have y_str := PySem.W.mg_none_of X G z_str
  have y_all := PySem.W.mg_none_of X G z_all
  have y_int := PySem.W.mg_none_of X G z_int
  have y_bool := PySem.W.mg_none_of X G z_bool
  have y_max := PySem.W.mg_none_of X G z_max
  have y_ValueError := PySem.W.mg_none_of X G z_ValueError
  have v_LETTERS := PySem.W.mg_of X G g_LETTERS
  have v_MOST_LEFT := PySem.W.mg_of X G g_MOST_LEFT
  have v_NoShuffle := PySem.W.mg_of X G g_NoShuffle
  have v_TakeError := PySem.W.mg_of X G g_TakeError
  have v_NoBook := PySem.W.mg_of X G g_NoBook
  have v_NoCode := PySem.W.mg_of X G g_NoCode
  have v_NoKind := PySem.W.mg_of X G g_NoKind
  have v_NoRow := PySem.W.mg_of X G g_NoRow
  have v_NoStep := PySem.W.mg_of X G g_NoStep
  have v_NoText := PySem.W.mg_of X G g_NoText
  have v_NoTurn := PySem.W.mg_of X G g_NoTurn
  have v_NoWord := PySem.W.mg_of X G g_NoWord
  have v_TooMany := PySem.W.mg_of X G g_TooMany
  have v_Twice := PySem.W.mg_of X G g_Twice
  refine ⟨PySem.W.fnOf "law" "law" (defArgs sLaw) (defBody sLaw) (defScope sLaw) .none kV8 dc8 pm8 an8 cd8 ct8, fun s v => .of_eq rfl, fun base _ _ => ?_⟩
  have TS : TxtS mg := ⟨y_isinstance, y_str, y_len, y_all, ⟨_, v_LETTERS⟩, ⟨_, v_MOST_LEFT⟩⟩
  have XT : ExT K mg C := ⟨v_NoShuffle, xP, kP, bP, tP⟩
  have XA : ExA K mg C TE D1 D2 D3 D4 D5 D6 D7 D8 D9 D10 := ⟨v_TakeError, PySem.W.exm_ref e1 e2 e3 e4, ⟨h1, h2, bP, h4, h5, h6, h7, h8⟩, v_NoBook, v_NoCode, v_NoKind, v_NoRow, v_NoStep, v_NoText, v_NoTurn, v_NoWord, v_TooMany, v_Twice, ka, kb, q1, qv, y_ValueError⟩
  have O1 : FnOk l.prog w K mg base CX0 1 f1 _ ["thing"] spIsSh := ok_isSh F1 TS
  have O2 : FnOk l.prog w K mg base CX0 2 f2 _ ["shuffle"] (spTaken K) := ok_taken F2 TS y_tuple O1 b1 k1 m1
  have O3 := ok_shufOf (P := l.prog) (w := w) (base := base) F3 TS XT
  have O4 : FnOk l.prog w K mg base CX0 1 f4 _ ["_law_cell", "_law_k"] spMixed := ok_mixed F4
  have O5 : FnOk l.prog w K mg base CX0 1 f5 _ ["_law_script"] (spDeck K) := ok_deck F5 y_list y_reversed y_sum y_len
  have O6 := ok_take F6 O4 b4 k4 m4
  have O7 := ok_refused F7 XT XA O3 b3 k3 m3 y_isinstance
  exact ok_law F8 O5 b5 k5 m5 O6 b6 k6 m6 O3 b3 k3 m3 O1 b1 k1 m1 O2 b2 k2 m2 O7 b7 k7 m7 y_range y_int y_tuple y_isinstance y_str y_bool y_max
theorem walk {l : PySem.W.OpenLaw} {q : Program} {loose : List Str} {XP : (Str → Option Value) → Heap → Prop} {YP : World → Heap → Prop} {d : DefRec} {K : Params → PySem.W.Frag} (hn : l.most = some 63) (hdf : d.params.defaults = [])
    (hY : ∀ (w : World) (h : Heap), YP w h → (K w.params).In h)
    (F : ∀ (w : World) (mg : Str → Option Value) (fa : Addr) (h : Heap), (K w.params).In h → h.Ns mainGlobals mg → mg d.name = some (.ref fa) →
      ∃ fd : FuncData, (∀ (s : Shared) (u : Value), BindsTo s fd ⟨[u], []⟩ [("_law_script", u)]) ∧ ∀ base : Heap, (K w.params).In base → base.Ns mainGlobals mg → FnOk l.prog w (K w.params) mg base CX0 3 fa fd ["_law_script"] (spLaw (K w.params))) :
    PySem.W.WalkO q loose XP YP l.row.toRowW d [] (fun f vs => PySem.call f vs) :=
  L2.walk_of (n := 63) (k := 3) (x := "_law_script") (CX := fun _ => CX0) (sp := fun w => spLaw (K w.params)) hn (by decide) hdf ⟨rfl, by decide, by decide⟩ hY F (fun _ _ a ns hl _ hS => ⟨a, ns, rfl, hS, hl, fun _ => rfl⟩) fun _ _ _ _ _ z => z
end K04
open PySem PySem.W PyProof.Rows
set_option maxRecDepth 100000 in
set_option maxHeartbeats 0 in
theorem PySem.Challenge.cw_takeleave_k04_shuffles_by_numbers_holds : PySem.Challenge.rw_takeleave_k04_shuffles_by_numbers.Holds := by
  w_on; o_law; k_head; (case hw => w_witness2)
  k_fill
  refine K04.walk (l := PySem.Challenge.rw_takeleave_k04_shuffles_by_numbers) rfl rfl (fun w h Y => PySem.W.kIn_of Y) ?F
  case F =>
    intro w mg fa h KX G hmg
    refine' K04.all_mk (w := w) KX G hmg ?a1 ?l1 ?c1 ?k1 ?a2 ?l2 ?c2 ?k2 ?a3 ?l3 ?c3 ?k3 ?a4 ?l4 ?c4 ?k4 ?a5 ?l5 ?c5 ?k5 ?a6 ?l6 ?c6 ?k6 ?a7 ?l7 ?c7 ?k7 ?a8 ?l8 ?c8 ?k8 ?z_len ?z_tuple ?z_list ?z_reversed ?z_sum ?z_range ?z_isinstance ?z_str ?z_all ?z_int ?z_bool ?z_max ?z_ValueError ?g_LETTERS ?g_MOST_LEFT ?g_NoShuffle ?g_TakeError ?g_NoBook ?g_NoCode ?g_NoKind ?g_NoRow ?g_NoStep ?g_NoText ?g_NoTurn ?g_NoWord ?g_TooMany ?g_Twice ?xP ?kP ?bP ?tP ?e1 ?e2 ?e3 ?e4 ?h1 ?h2 ?h4 ?h5 ?h6 ?h7 ?h8 ?ka ?kb ?q1 ?qv
    (case a1 => k_is)
    (case l1 => k_is)
    (case c1 => k_is)
    (case k1 => k_is)
    (case a2 => k_is)
    (case l2 => k_is)
    (case c2 => k_is)
    (case k2 => k_is)
    (case a3 => k_is)
    (case l3 => k_is)
    (case c3 => k_is)
    (case k3 => k_is)
    (case a4 => k_is)
    (case l4 => k_is)
    (case c4 => k_is)
    (case k4 => k_is)
    (case a5 => k_is)
    (case l5 => k_is)
    (case c5 => k_is)
    (case k5 => k_is)
    (case a6 => k_is)
    (case l6 => k_is)
    (case c6 => k_is)
    (case k6 => k_is)
    (case a7 => k_is)
    (case l7 => k_is)
    (case c7 => k_is)
    (case k7 => k_is)
    (case a8 => k_is)
    (case l8 => k_is)
    (case c8 => k_is)
    (case k8 => k_is)
    (case z_len => k_is)
    (case z_tuple => k_is)
    (case z_list => k_is)
    (case z_reversed => k_is)
    (case z_sum => k_is)
    (case z_range => k_is)
    (case z_isinstance => k_is)
    (case z_str => k_is)
    (case z_all => k_is)
    (case z_int => k_is)
    (case z_bool => k_is)
    (case z_max => k_is)
    (case z_ValueError => k_is)
    (case g_LETTERS => k_is)
    (case g_MOST_LEFT => k_is)
    (case g_NoShuffle => k_is)
    (case g_TakeError => k_is)
    (case g_NoBook => k_is)
    (case g_NoCode => k_is)
    (case g_NoKind => k_is)
    (case g_NoRow => k_is)
    (case g_NoStep => k_is)
    (case g_NoText => k_is)
    (case g_NoTurn => k_is)
    (case g_NoWord => k_is)
    (case g_TooMany => k_is)
    (case g_Twice => k_is)
    (case xP => first | k_exc | k_is)
    (case kP => k_is)
    (case bP => k_is)
    (case tP => k_is)
    (case e1 => k_is)
    (case e2 => k_is)
    (case e3 => k_is)
    (case e4 => k_is)
    (case h1 => k_is)
    (case h2 => k_is)
    (case h4 => k_is)
    (case h5 => k_is)
    (case h6 => k_is)
    (case h7 => k_is)
    (case h8 => k_is)
    (case ka => first | k_is | kernel_rfl)
    (case kb => first | k_is | kernel_rfl)
    (case q1 => first | k_is | kernel_rfl)
    (case qv => first | k_is | kernel_rfl)
