import PyProof.Rows.All
import Wide.All
import OpenK.AllK
import Wide.FinOn
import HandS.ForMost
import HandS.Rev
import KE.KDictList
import HandS.Style
import HandS.More
import HandS.IsInst
import HandS.StrMore
import HandS.Wide
import HandS.Codes
import HandS.Walk
import HandS.NoneIn
import HandS.WordsExc
import PyProof.AutoSeq1
import HandS.Conv
import HandS.SetFor
import HandS.TupAny
import HandS.TupMul
import HandS.ForExc
import HandS.ExcIs
import HandS.ExcOwn
import HandS.FStrTup
import PySem.Challenge.RW_takeleave_k46_parted_rows
set_option Elab.async false
set_option linter.all false
set_option maxRecDepth 100000
set_option maxHeartbeats 4000000
namespace Cm
open PySem PySem.Spec PyProof.Rows L2 RT
section
variable {prog : Program} {w : World} {A : Around} {E : Value → Shared → Prop} {s : Shared}
/-- list.extend over a reversed list, into the empty list at T -/
theorem revExt {J l T : Addr} {vs : Array Value} {res : Value} {c : Nat} {R : Result → Shared → Prop} (hh : A.handled = none) (hJ : s.heap.IsRevIter J l ((vs.size : Int) - 1)) (hl : s.heap.IsList l vs) (nJ : l ≠ J) (hn : vs.size ≤ sizeLine)
    (nTJ : T ≠ J) (nTl : T ≠ l) (hT : s.heap.get? T = some { cls := .type "list", data := .seq #[] c })
    (hR : ∀ h' tk acc' c', (∀ b o, b ≠ T → b ≠ J → s.heap.get? b = some o → h'.get? b = some o) → h'.get? T = some { cls := .type "list", dict := none, data := .seq acc' c', slots := #[] } → ItemsOf (fun i v => vs[vs.size - 1 - i]? = some v) acc' vs.size → R (.ok (.ret res)) { s with heap := h', toks := tk }) :
    wpAny (model prog w) A.in1 (Builtin.List.listExtendWith (.ref T) (.ref J) res)
      (fun fin s' => match fin with | .done f => R (.ok f) s' | .again c' => c'.quiet = true ∧ codeAny (model prog w) A c' R s') (fun e s' => R (.error e) s') s := by
  have WS := (Walks.listRev (prog := prog) (w := w) (A := A.in1) hh J l nJ vs).toS
  have tyJ : s.TypeIs (.ref J) "list_reverseiterator" := Heap.IsRevIter.typeIs hJ
  have nf : T ∉ [J, l] := by simp only [List.mem_cons, List.not_mem_nil, or_false, not_or]; exact And.intro nTJ nTl
  have ns : Builtin.List.listSameRef (.ref T) (.ref J) = false := by simp [Builtin.List.listSameRef, nTJ]
  unfold Builtin.List.listExtendWith
  refine wpAny_bind (wpAny_typeOf tyJ ?_)
  rw [if_neg (by rw [ns]; decide)]
  refine wpAny_bind (wpAny_pyIter_revIter hJ (wpAny_bind (wpAny_holding ?_)))
  unfold Builtin.List.listLengthHint
  refine wpAny_bind (wpAny_specialOf tyJ nolen_lri ?_)
  show wpAny _ A.in1 (specialOf (Value.ref J) (Str.ofString "__length_hint__") >>= _) _ _ _
  refine wpAny_bind (wpAny_specialOf tyJ hint_lri ?_)
  generalize eid : ("list_reverseiterator.__length_hint__" : String) = idz
  wp_delta
  rw [show splitId idz = some ("list_reverseiterator", "__length_hint__") from by subst eid; decide +kernel]
  subst eid
  refine wpAny_bind (wpAny_isInstance (b := true) tyJ (by rw [isSubtype_type]; kernel_rfl) (wpAny_pure ?_))
  rw [if_neg (by decide)]
  have z0 : ((vs.size : Nat) : Int) - 1 - ((0 : Nat) : Int) = (vs.size : Int) - 1 := by omega
  refine wpAny_pure ⟨plainId_quiet F.plain_extend_loop _, codeAny_extend_loopS WS hn _ nf _ vs.size 0 _ _ _ rfl (Nat.zero_le _) ⟨Nat.zero_le _, by rw [z0]; exact hJ, hl⟩ hT (ItemsOf.nil _) fun s' acc' c' hm hS' hacc => ?_⟩
  rw [Moved.eq_with hm]
  refine hR s'.heap s'.toks acc' c' (fun b o n1 n2 e => hm.heap b o (fun q => ?_) e) hS' hacc
  rcases List.mem_cons.mp q with z | z
  · exact n1 z
  · exact n2 (List.mem_singleton.mp z)
theorem revInit {J l T : Addr} {vs : Array Value} {R : Result → Shared → Prop} (hh : A.handled = none) (hJ : s.heap.IsRevIter J l ((vs.size : Int) - 1)) (hl : s.heap.IsList l vs) (nJ : l ≠ J) (hn : vs.size ≤ sizeLine)
    (nTJ : T ≠ J) (nTl : T ≠ l) (hT : s.heap.get? T = some { cls := .type "list", data := .seq #[] })
    (hR : ∀ h' tk acc' c', (∀ b o, b ≠ T → b ≠ J → s.heap.get? b = some o → h'.get? b = some o) → h'.get? T = some { cls := .type "list", dict := none, data := .seq acc' c', slots := #[] } → ItemsOf (fun i v => vs[vs.size - 1 - i]? = some v) acc' vs.size → R (.ok (.ret .none)) { s with heap := h', toks := tk }) :
    wpAny (model prog w) A.in1 (Builtin.«list.__init__» ⟨[.ref T, .ref J], []⟩)
      (fun fin s' => match fin with | .done f => R (.ok f) s' | .again c' => c'.quiet = true ∧ codeAny (model prog w) A c' R s') (fun e s' => R (.error e) s') s := by
  show wpAny _ _ (do let old ← Builtin.List.listItems (.ref T); Builtin.List.listUpdate (.ref T) (fun _ => #[]); letGo old.toList.reverse; Builtin.List.listExtendWith (.ref T) (.ref J) .none) _ _ s
  refine wpAny_bind ?_; unfold Builtin.List.listItems
  refine wpAny_bind (wpAny_seqItems hT rfl (wpAny_pure ?_))
  show wpAny _ _ (updateSeq T (fun _ => #[]) >>= fun _ => letGo (#[] : Array Value).toList.reverse >>= fun _ => Builtin.List.listExtendWith (.ref T) (.ref J) .none) _ _ s
  refine wpAny_bind (wpAny_updateSeq hT rfl ?_)
  have hT2 := Heap.get?_update_self (Obj.mapSeq (fun _ => (#[] : Array Value))) hT rfl
  have other : ∀ b o, b ≠ T → s.heap.get? b = some o → (s.heap.update T (Obj.mapSeq (fun _ => (#[] : Array Value)))).get? b = some o :=
    fun b o hb e => (Heap.get?_update_other _ _ (Ne.symm hb)).trans e
  refine wpAny_bind (wpAny_letGo (revExt hh (hJ.at fun o e => other _ o nTJ.symm e) (hl.at fun o e => other _ o nTl.symm e) nJ hn nTJ nTl hT2 fun h' tk acc' c' hk hS' hacc => ?_))
  exact hR h' tk acc' c' (fun b o n1 n2 e => hk b o n1 n2 (other b o n1 e)) hS' hacc
theorem call_list_rev {J l : Addr} {vs : Array Value} {Q : Value → Shared → Prop} (hh : A.handled = none) (hJ : s.heap.IsRevIter J l ((vs.size : Int) - 1)) (hl : s.heap.IsList l vs) (nJ : l ≠ J) (hn : vs.size ≤ sizeLine)
    (hQ : ∀ h' tk acc' c', (∀ b o, b ≠ J → s.heap.get? b = some o → h'.get? b = some o) → h'.get? s.heap.objs.size = some { cls := .type "list", dict := none, data := .seq acc' c', slots := #[] } → ItemsOf (fun i v => vs[vs.size - 1 - i]? = some v) acc' vs.size → Q (.ref s.heap.objs.size) { s with heap := h', toks := tk }) :
    wpAny (model prog w) A (call (.type "list") [.ref J]) Q E s := by
  refine callType_codes (Q₁ := fun obj s₁ => obj = .ref s.heap.objs.size ∧ s₁ = { s with heap := s.heap.push { cls := .type "list", data := .seq #[] } }) PySem.F.called_list (PySem.F.typeCall_list_1 _) PySem.F.entry_list_init
    (code_list_new _ ⟨rfl, rfl⟩) fun obj s₁ z => ?_
  obtain ⟨rfl, rfl⟩ := z
  have hT : (s.heap.push { cls := .type "list", data := .seq #[] }).get? s.heap.objs.size = some { cls := .type "list", data := .seq #[] } := Heap.get?_push_size _ rfl
  obtain ⟨oi, hoi, _⟩ := id hJ
  obtain ⟨ol, hol, _⟩ := id hl
  refine ⟨⟨_, hT, rfl⟩, PySem.F.args_list_init_2 _ _, revInit (A := A.in1) hh (hJ.at fun o e => Heap.get?_push_of_some _ e) (hl.push _) nJ hn (Nat.ne_of_gt (Heap.lt_size hoi)) (Nat.ne_of_gt (Heap.lt_size hol)) hT (fun h' tk acc' c' hk hS' hacc => ?_)⟩
  exact ⟨rfl, hQ h' tk acc' c' (fun b o n e => hk b o (Nat.ne_of_lt (Heap.lt_size e)) n (Heap.get?_push_of_some _ e)) hS' hacc⟩
end
/-- list(reversed(x)), x a list: a new list -/
def tLstRev (K : PySem.W.Frag) (te : TE) : TE := fun σ H Q => te σ H fun v H1 => ∃ (a : Addr) (xs : List V), v = .ref a ∧ SqL K H1 a xs ∧ ∀ q, H1 q = none → Q (.ref q) (upd H1 q (.lst xs.reverse))
section
variable {X : Cx}
theorem pe_lstRev {e : Expr} {te : TE} {p p2 pos pos2 : Pos} (hc : X.calm = true) (hg : Gl X "list") (hm : X.mg "list" = none) (hg2 : Gl X "reversed") (hm2 : X.mg "reversed" = none) (he : PE X e te)
    (hs : starEach [e] X.env = (false, eval e X.env) :: starEach [] X.env := by rfl)
    (hs2 : starEach [.Call (.Name "reversed" p2) [e] [] pos2] X.env = (false, eval (.Call (.Name "reversed" p2) [e] [] pos2) X.env) :: starEach [] X.env := by rfl) :
    PE X (.Call (.Name "list" p) [.Call (.Name "reversed" p2) [e] [] pos2] [] pos) (tLstRev X.K te) := by
  refine ⟨fun pins s σ H Q I h => ?_⟩
  refine Call_ (ld_blt I hg hm (show bootBuiltins "list" = some (.type "list") by decide +kernel) (PyProof.Rows.callWith_type1 (args_cons (Call_ (ld_blt I hg2 hm2 PyProof.Rows.boot_reversed (PyProof.Rows.callWith_type1 (args_cons (thn (he.run pins s σ H _ I h) fun u s1 ⟨v, H1, I1, r1, q1⟩ => args_nil ?_) hs) hs rfl))) hs2) hs2 rfl))
  obtain ⟨a, xs, ev, hq, q⟩ := q1
  subst ev; obtain rfl : u = Value.ref a := r1
  obtain ⟨its, rv, p', hz⟩ := I1.list hq
  refine call_reversed_list p'.isList (args_nil ?_)
  have k0 : ∀ b o, s1.heap.get? b = some o → (s1.heap.push (revObj a ((its.toArray.size : Int) - 1))).get? b = some o := fun b o e' => Heap.get?_push_of_some _ e'
  have I2 : Inv X pins σ H1 { s1 with heap := s1.heap.push (revObj a ((its.toArray.size : Int) - 1)) } := I1.kept (t' := s1.toks) k0
  obtain ⟨f0, f1, f2, f3, f4, f5⟩ := I1.fpOk (H' := H1) (b := s1.heap.objs.size) (Nat.le_refl _) (I1.hok.fresh (Nat.le_refl _))
  have isl := p'.isList
  obtain ⟨ol, hol, _⟩ := id isl
  have hne : a ≠ s1.heap.objs.size := Nat.ne_of_lt (Heap.lt_size hol)
  have hn : its.toArray.size ≤ sizeLine := by rw [List.size_toArray, ← rv.length]; exact hz
  refine call_list_rev (s := { s1 with heap := s1.heap.push (revObj a ((its.toArray.size : Int) - 1)) }) (I1.ok.hd hc) ⟨_, Heap.get?_push_size _ rfl, rfl, rfl⟩ (isl.push _) hne hn fun h' tk acc c' hk hT hi => ?_
  have hk' : ∀ b o, s1.heap.get? b = some o → h'.get? b = some o := fun b o e' => hk b o (Nat.ne_of_lt (Heap.lt_size e')) (k0 b o e')
  have sz : s1.heap.objs.size ≤ (s1.heap.push (revObj a ((its.toArray.size : Int) - 1))).objs.size := by
    rw [Heap.size_push]; exact Nat.le_succ _
  refine ⟨.ref _, upd H1 _ (.lst xs.reverse), I1.laid (t' := tk) hk' sz (show ObjOk X.prog X.w _ _ _ (.lst xs.reverse) from ⟨by rw [List.length_reverse]; exact hz, acc.toList, c', vals_rev rv hi, ?_⟩), rfl, q _ (I1.hok.fresh sz)⟩
  rw [Array.toArray_toList]
  exact hT
end
end Cm
namespace Cm
open PySem PySem.W L2 SX
theorem same_new {H : Hp} {p : Addr} (h : H p = none) (o : HO) : Same H (upd H p o) := fun b u q => by rw [upd_ne (ne_of_none q h)]; exact q
theorem own_new {H H' : Hp} {p : Addr} {o : HO} (s : Same H H') (h : H p = none) : Same H (upd H' p o) := fun b u q => by rw [upd_ne (ne_of_none q h)]; exact s _ _ q
theorem cut_map {α : Type} (f : α → V) (xs : List α) (lo hi : Option Int) : ∃ ys : List α, cutV (xs.map f) lo hi = ys.map f ∧ ys.length ≤ xs.length := by
  unfold cutV
  refine ⟨(xs.drop (HT.sIx (xs.map f).length 0 lo)).take (HT.sIx (xs.map f).length (xs.map f).length hi - HT.sIx (xs.map f).length 0 lo), ?_, ?_⟩
  · rw [List.map_take, List.map_drop]
  · rw [List.length_take, List.length_drop]; omega
theorem dp_ints {K : PySem.W.Frag} {H : Hp} : ∀ ns : List Int, DpAll K H (ns.map V.int) (ns.map PyData.int)
  | [] => .nil
  | n :: r => .cons (.int n) (dp_ints r)
theorem lay_ints : ∀ ns : List Int, PyData.canLayAll0 (ns.map PyData.int) = true
  | [] => rfl
  | n :: r => by
    show (PyData.canLay0 (PyData.int n) && PyData.canLayAll0 (r.map PyData.int)) = true
    rw [lay_ints r]; rfl
theorem deep_ints : ∀ ns : List Int, PyData.depthAll (ns.map PyData.int) = 0
  | [] => rfl
  | n :: r => by
    show max (PyData.depth (PyData.int n)) (PyData.depthAll (r.map PyData.int)) = 0
    rw [deep_ints r]; rfl
theorem shaped_ints (ns : List Int) : SeqAt.shaped (.list (ns.map PyData.int)) = true := by
  show (PyData.canLayAll0 (ns.map PyData.int) && decide (PyData.depthAll (ns.map PyData.int) + 1 ≤ 64)) = true
  rw [lay_ints, deep_ints]; rfl
theorem kn {H : Hp} {a t : Addr} {o o' : HO} (h : H a = some o) (n : H t = none) : upd H t o' a = some o := by rw [upd_ne (ne_of_none h n)]; exact h
/-- all but what stands at the places L is kept -/
def Kp (L : List Addr) (H H' : Hp) : Prop := ∀ b o, b ∉ L → H b = some o → H' b = some o
theorem Kp.refl (L : List Addr) (H : Hp) : Kp L H H := fun _ _ _ h => h
theorem Kp.trans {L : List Addr} {H H1 H2 : Hp} (a : Kp L H H1) (b : Kp L H1 H2) : Kp L H H2 := fun c o n h => b c o n (a c o n h)
theorem Kp.of {L : List Addr} {H H' : Hp} (s : Same H H') : Kp L H H' := fun b o _ h => s b o h
theorem Kp.new {L : List Addr} {p : Addr} {H H' : Hp} {o : HO} (a : Kp L H H') (h : H' p = none) : Kp L H (upd H' p o) := a.trans (.of (same_new h o))
theorem Kp.own {L : List Addr} {d : Addr} {H H' : Hp} {o : HO} (a : Kp L H H') (m : d ∈ L) : Kp L H (upd H' d o) := fun b u n h => by rw [upd_ne (show b ≠ d from fun z => n (by rw [z]; exact m))]; exact a b u n h
theorem Kp.mono {L M : List Addr} {H H' : Hp} (a : Kp L H H') (h : ∀ b ∈ L, b ∈ M) : Kp M H H' := fun b o n e => a b o (fun z => n (h b z)) e
theorem Kp.free {L : List Addr} {p : Addr} {H H' : Hp} (k : Kp L H H') (n : H' p = none) (m : p ∉ L) : H p = none := by
  cases e : H p with
  | none => rfl
  | some o => rw [k p o m e] at n; cases n
theorem Kp.put {L : List Addr} {p : Addr} {H H' : Hp} {o : HO} (k : Kp L H H') (n : H p = none) : Kp L H (upd H' p o) := fun b u m e => by rw [upd_ne (ne_of_none e n)]; exact k b u m e
theorem Kp.same {L : List Addr} {H0 H H' : Hp} (a : Kp L H H') (s : Same H0 H) (h : ∀ b ∈ L, H0 b = none) : Same H0 H' := fun b o e => a b o (fun z => by rw [h b z] at e; cases e) (s b o e)
theorem cutS_to {a : List Nat} {i : Int} (h : 0 ≤ i) : cutS (S a) none (some i) = S (a.take i.toNat) := by
  obtain ⟨n, rfl⟩ := Int.eq_ofNat_of_zero_le h
  unfold cutS
  rw [HT.sIx_none, HT.sIx_nat, S_len]
  show S (List.take (min n a.length - 0) (List.drop 0 a)) = S (a.take n)
  rw [List.drop_zero, Nat.sub_zero]
  by_cases h : n ≤ a.length
  · rw [Nat.min_eq_left h]
  · rw [Nat.min_eq_right (by omega), List.take_of_length_le (Nat.le_refl a.length), List.take_of_length_le (show a.length ≤ n by omega)]
/-- a comprehension over a text's signs, whose element is a plain value -/
theorem lc_txt {z : List Nat} (f : Nat → V) {g : TG} {te : TE} {vs : List Nat} {σ : St} {H1 : Hp} {D : Addr} {Qd : Hp → Prop} (hl : z.length ≤ 1000)
    (hs : ∀ c H (R : V → Hp → Prop), c ∈ z → R (f c) H → g (.str ⟨#[c]⟩) (wipe σ vs) H fun σ2 H2 => wipe σ2 vs = wipe σ vs ∧ te σ2 H2 R) (hd : Qd (upd H1 D (.lst (z.map f)))) :
    ∃ W : Nat → Nat → Hp → Prop, (∃ m, W 0 m (upd H1 D (.lst []))) ∧ ∀ i m H, W i m H →
      ((Its (S z)).stop i H ∧ Qd H) ∨ ((Its (S z)).go i H ∧ ∃ Nx : Hp → Prop, (∀ H', Nx H' → ∃ m', m' < m ∧ W (i + 1) m' H') ∧ ∀ x H', (Its (S z)).yld i H x H' → g x (wipe σ vs) H' fun σ2 H2 => wipe σ2 vs = wipe σ vs ∧ tYes σ2 H2 fun b H3 =>
        if b = true then te σ2 H3 fun y H4 => ∃ acc, H4 D = some (.lst acc) ∧ acc.length < sizeLine ∧ Nx (upd H4 D (.lst (acc ++ [y]))) else Nx H3) := by
  refine lc_it (walk_str (z := S z)) (fun i H => H = upd H1 D (.lst ((z.take i).map f))) rfl (fun _ _ _ _ => trivial) ?_ ?_
  · rintro i x H H' hi rfl ⟨rfl, c, hc, rfl⟩
    have hc' : z[i]? = some c := by
      rw [← hc]; show z[i]? = (z.toArray)[i]?; rw [List.getElem?_toArray]
    refine hs c _ (fun y H4 => ∃ acc, H4 D = some (.lst acc) ∧ acc.length < sizeLine ∧ upd H4 D (.lst (acc ++ [y])) = upd H1 D (.lst ((z.take (i + 1)).map f))) (List.mem_of_getElem? hc') ⟨_, upd_same, ?_, ?_⟩
    · rw [List.length_map, List.length_take]; exact small1000 (by omega)
    · rw [upd_upd, List.take_add_one, hc', List.map_append]; rfl
  · rintro H rfl
    have e : (S z).cps.size = z.length := by show z.toArray.size = _; rw [List.size_toArray]
    rw [e, List.take_length]
    exact hd
theorem starts_S (x y : List Nat) : Txt.startswith (S x) (S y) = decide (x.take y.length = y) := by
  unfold Txt.startswith PySem.Builtin.Str.subAt
  rw [S_len, S_len]
  show (decide (0 + y.length ≤ x.length) && ((x.toArray.extract 0 (0 + (S y).length)) == y.toArray)) = _
  rw [S_len, Nat.zero_add, List.extract_toArray]
  have e : (List.extract x 0 y.length) = x.take y.length := by unfold List.extract; rw [List.drop_zero, Nat.sub_zero]
  rw [e]
  by_cases h : x.take y.length = y
  · have hl : y.length ≤ x.length := by
      have := congrArg List.length h
      rw [List.length_take] at this; omega
    rw [decide_eq_true h, decide_eq_true hl, h, beq_self_eq_true]; rfl
  · rw [decide_eq_false h]
    have : ((x.take y.length).toArray == y.toArray) = false := by
      rw [beq_eq_false_iff_ne]; intro z; exact h (by have := congrArg Array.toList z; exact this)
    rw [this, Bool.and_false]
theorem par_len : ∀ (x acc t l : List Nat), TL.par [45] acc x = some (t, l) → l.length ≤ x.length
  | [], _, _, _, h => by cases h
  | c :: r, acc, t, l, h => by
    have h' : (if TL.pre [45] (c :: r) = true then some (acc, (c :: r).drop 1) else TL.par [45] (acc ++ [c]) r) = some (t, l) := h
    by_cases hp : TL.pre [45] (c :: r) = true
    · rw [if_pos hp] at h'
      cases h'
      show r.length ≤ r.length + 1
      omega
    · rw [if_neg hp] at h'
      have := par_len r _ _ _ h'
      show l.length ≤ r.length + 1
      omega
/-- the letters a to h -/
def abc8 : List Nat := [97, 98, 99, 100, 101, 102, 103, 104]
/-- whether signs are a shuffle's -/
def shufB (x : List Nat) : Bool := match TL.par [45] [] x with
  | none => false
  | some (t, l) => decide (abc8.take t.length = t) && (decide (l.length ≤ 12) && (l.map fun c => decide (c ∈ t)).all id)
def kStr : Value → Option Str
  | .str x _ => some x
  | _ => none
def absAll : List Value → Option (List V)
  | [] => some []
  | u :: r => match absV u, absAll r with
    | some x, some t => some (x :: t)
    | _, _ => none
def kTup (K : Frag) (t : Addr) : Option (List V) := match K.lookup t with
  | some ⟨.type c, _, .seq its _, _⟩ => if c = "tuple" ∧ its.size ≤ 1000 then absAll its.toList else none
  | _ => none
def kEnt (K : Frag) (e : DictEntry) : Option (Str × List V) := match e.val, kStr e.key with
  | .ref t, some k => (kTup K t).map fun xs => (k, xs)
  | _, _ => none
/-- the entries es: keys, each with what its tuple holds -/
def kTab (K : Frag) : List DictEntry → Option (List (Str × List V))
  | [] => some []
  | e :: r => match kEnt K e, kTab K r with
    | some x, some t => some (x :: t)
    | _, _ => none
theorem abs_rel {u : Value} {x : V} (h : absV u = some x) : RelV x u := by
  cases u <;> simp only [absV] at h <;> first | (cases h; done) | (cases h; first | exact rfl | exact ⟨_, rfl⟩) | cases h
theorem abs_all : ∀ {us : List Value} {xs : List V}, absAll us = some xs → Vals xs us
  | [], xs, h => by cases h; exact .nil
  | u :: r, xs, h => by
    unfold absAll at h
    cases e1 : absV u with
    | none => rw [e1] at h; cases h
    | some x =>
      cases e2 : absAll r with
      | none => rw [e1, e2] at h; cases h
      | some t =>
        rw [e1, e2] at h
        cases h
        exact .cons (abs_rel e1) (abs_all e2)
theorem kTup_ok {K : Frag} {t : Addr} {xs : List V} (h : kTup K t = some xs) (H : Hp) : SqT K H t xs := by
  unfold kTup at h
  cases e : K.lookup t with
  | none => rw [e] at h; cases h
  | some o =>
    rw [e] at h
    obtain ⟨oc, od, dt, sl⟩ := o
    cases oc with
    | type c =>
      cases dt with
      | seq its n =>
        have h' : (if c = "tuple" ∧ its.size ≤ 1000 then absAll its.toList else none) = some xs := h
        by_cases hc : c = "tuple" ∧ its.size ≤ 1000
        · rw [if_pos hc] at h'
          obtain ⟨rfl, hz⟩ := hc
          exact .inr ⟨_, its, n, e, rfl, rfl, Nat.le_of_lt (small1000 hz), abs_all h'⟩
        · rw [if_neg hc] at h'; cases h'
      | _ => cases h
    | _ => cases h
/-- what the table tells of a text -/
theorem tab_look {K : Frag} (z : Str) : ∀ {es : List DictEntry} {T : List (Str × List V)}, kTab K es = some T →
    (∀ xs, T.lookup z = some xs → ∃ e t, es.find? (·.key.isStr z) = some e ∧ e.val = .ref t ∧ kTup K t = some xs) ∧ (T.lookup z = none → es.find? (·.key.isStr z) = none) ∧ es.any (·.refKey) = false
  | [], T, h => by cases h; exact ⟨(fun xs q => by cases q), (fun _ => rfl), rfl⟩
  | e :: r, T, h => by
    unfold kTab at h
    cases e1 : kEnt K e with
    | none => rw [e1] at h; cases h
    | some x =>
      cases e2 : kTab K r with
      | none => rw [e1, e2] at h; cases h
      | some t =>
        rw [e1, e2] at h
        cases h
        obtain ⟨ih1, ih2, ih3⟩ := tab_look z e2
        obtain ⟨k, ys⟩ := x
        obtain ⟨a, hv, hk, ht⟩ : ∃ a, e.val = .ref a ∧ kStr e.key = some k ∧ kTup K a = some ys := by
          unfold kEnt at e1
          cases hv : e.val with
          | ref a =>
            cases hk : kStr e.key with
            | none => rw [hv, hk] at e1; cases e1
            | some k' =>
              rw [hv, hk] at e1
              have e1' : (kTup K a).map (fun xs => (k', xs)) = some (k, ys) := e1
              cases ht : kTup K a with
              | none => rw [ht] at e1'; cases e1'
              | some zs => rw [ht] at e1'; cases e1'; exact ⟨a, rfl, rfl, ht⟩
          | _ => rw [hv] at e1; cases e1
        obtain ⟨tk, hkey⟩ : ∃ tk, e.key = .str k tk := by
          unfold kStr at hk
          cases q : e.key with
          | str x' t' => rw [q] at hk; cases hk; exact ⟨_, rfl⟩
          | _ => rw [q] at hk; cases hk
        have hst : e.key.isStr z = (k == z) := by rw [hkey]; rfl
        have hrf : e.refKey = false := by unfold DictEntry.refKey; rw [hkey]
        refine ⟨fun xs q => ?_, fun q => ?_, ?_⟩
        · rw [List.lookup_cons] at q
          by_cases hz : z = k
          · subst hz
            rw [beq_self_eq_true] at q
            cases q
            exact ⟨e, a, by rw [List.find?_cons_of_pos (by rw [hst]; exact beq_self_eq_true z)], hv, ht⟩
          · rw [show (z == k) = false from beq_eq_false_iff_ne.mpr hz] at q
            obtain ⟨e', t', h1, h2, h3⟩ := ih1 xs q
            exact ⟨e', t', by rw [List.find?_cons_of_neg (by rw [hst]; intro y; exact hz (beq_iff_eq.mp y).symm)]; exact h1, h2, h3⟩
        · rw [List.lookup_cons] at q
          by_cases hz : z = k
          · subst hz
            rw [beq_self_eq_true] at q
            cases q
          · rw [show (z == k) = false from beq_eq_false_iff_ne.mpr hz] at q
            rw [List.find?_cons_of_neg (by rw [hst]; intro y; exact hz (beq_iff_eq.mp y).symm)]
            exact ih2 q
        · rw [List.any_cons, hrf, ih3]; rfl
def nn : List V := [V.str "number", V.str "number"]
def table : List (Str × List V) := [((("plus" : Str)), nn), ("minus", nn), ("times", nn), ("less", nn), ("same", nn), ("do", [V.str "row"]), ("dip", [V.str "any", V.str "row"]), ("if", [V.str "number", V.str "row", V.str "row"]), ("while", [V.str "row", V.str "row"]), ("repeat", [V.str "number", V.str "row"]), ("join", [V.str "row", V.str "row"]), ("wrap", [V.str "any"]), ("put", [V.str "list", V.str "any"]), ("part", [V.str "list", V.str "row", V.str "row"]), ("each", [V.str "list", V.str "row"])]
/-- the basic words' table stands at d -/
structure Tab (K : Frag) (w : World) (mg : Str → Option Value) (d : Addr) (es : Array DictEntry) (n : Nat) : Prop where
  kd : KDict K w d es n
  tab : kTab K es.toList = some table
  mg_ : mg "SORTS_TAKEN" = some (.ref d)
theorem Tab.ns {w : World} {K : PySem.W.Frag} {mg : Str → Option Value} {d : Addr} {es : Array DictEntry} {n : Nat} (T : Tab K w mg d es n) (z : Str) : (table.lookup z = none → nsIn K d z = some none) ∧ ∀ xs, table.lookup z = some xs → ∃ t, nsIn K d z = some (some (.ref t)) ∧ kTup K t = some xs := by
  obtain ⟨h1, h2, h3⟩ := tab_look z T.tab
  constructor
  · intro q
    unfold nsIn
    rw [T.kd.at_]
    show (match es.toList.find? (·.key.isStr z) with | some e => some (some e.val) | none => if es.toList.any (·.refKey) then none else some none) = some none
    rw [h2 q]
    show (if es.toList.any (·.refKey) = true then none else some none) = some none
    rw [h3]; rfl
  · intro xs q
    obtain ⟨e, t, e1, e2, e3⟩ := h1 xs q
    refine ⟨t, ?_, e3⟩
    unfold nsIn
    rw [T.kd.at_]
    show (match es.toList.find? (·.key.isStr z) with | some e => some (some e.val) | none => if es.toList.any (·.refKey) then none else some none) = some (some (.ref t))
    rw [e1]
    show some (some e.val) = _
    rw [e2]
theorem lookup_mem {z : Str} {xs : List V} : ∀ {T : List (Str × List V)}, T.lookup z = some xs → (z, xs) ∈ T
  | (k, ys) :: r, h => by
    rw [List.lookup_cons] at h
    by_cases hz : z = k
    · subst hz; rw [beq_self_eq_true] at h; cases h; exact List.mem_cons_self ..
    · rw [show (z == k) = false from beq_eq_false_iff_ne.mpr hz] at h
      exact List.mem_cons_of_mem _ (lookup_mem h)
end Cm
namespace Cm
open PySem PySem.W L2 SX
/-- a comprehension over a text's signs with a test -/
theorem lc_txtIf {z : List Nat} (p : Nat → Bool) (f : Nat → V) {g : TG} {tt : TT} {te : TE} {vs : List Nat} {σ : St} {H1 : Hp} {D : Addr} {Qd : Hp → Prop} (hl : z.length ≤ 1000)
    (hs : ∀ c H (R : V → Hp → Prop) (R0 : Hp → Prop), c ∈ z → (p c = true → R (f c) H) → (p c = false → R0 H) → g (.str ⟨#[c]⟩) (wipe σ vs) H fun σ2 H2 => wipe σ2 vs = wipe σ vs ∧ tt σ2 H2 fun b H3 => if b = true then te σ2 H3 R else R0 H3) (hd : Qd (upd H1 D (.lst ((z.filter p).map f)))) :
    ∃ W : Nat → Nat → Hp → Prop, (∃ m, W 0 m (upd H1 D (.lst []))) ∧ ∀ i m H, W i m H →
      ((Its (S z)).stop i H ∧ Qd H) ∨ ((Its (S z)).go i H ∧ ∃ Nx : Hp → Prop, (∀ H', Nx H' → ∃ m', m' < m ∧ W (i + 1) m' H') ∧ ∀ x H', (Its (S z)).yld i H x H' → g x (wipe σ vs) H' fun σ2 H2 => wipe σ2 vs = wipe σ vs ∧ tt σ2 H2 fun b H3 =>
        if b = true then te σ2 H3 fun y H4 => ∃ acc, H4 D = some (.lst acc) ∧ acc.length < sizeLine ∧ Nx (upd H4 D (.lst (acc ++ [y]))) else Nx H3) := by
  refine lc_it (walk_str (z := S z)) (fun i H => H = upd H1 D (.lst (((z.take i).filter p).map f))) rfl (fun _ _ _ _ => trivial) ?_ ?_
  · rintro i x H H' hi rfl ⟨rfl, c, hc, rfl⟩
    have hc' : z[i]? = some c := by
      rw [← hc]; show z[i]? = (z.toArray)[i]?; rw [List.getElem?_toArray]
    refine hs c _ (fun y H4 => ∃ acc, H4 D = some (.lst acc) ∧ acc.length < sizeLine ∧ upd H4 D (.lst (acc ++ [y])) = upd H1 D (.lst (((z.take (i + 1)).filter p).map f))) (fun H4 => H4 = upd H1 D (.lst (((z.take (i + 1)).filter p).map f))) (List.mem_of_getElem? hc') (fun hp => ⟨_, upd_same, ?_, ?_⟩) (fun hp => ?_)
    · have h1 := List.length_filter_le p (z.take i)
      rw [List.length_take] at h1
      rw [List.length_map]; exact small1000 (by omega)
    · rw [upd_upd, List.take_add_one, hc', List.filter_append, List.map_append]
      show _ = upd H1 D (HO.lst (List.map f (List.filter p (List.take i z)) ++ List.map f (List.filter p [c])))
      rw [List.filter_cons_of_pos hp]; rfl
    · show _ = _
      rw [List.take_add_one, hc', List.filter_append]
      show _ = upd H1 D (HO.lst (List.map f (List.filter p (List.take i z) ++ List.filter p [c])))
      rw [List.filter_cons_of_neg (by rw [hp]; decide), List.filter_nil, List.append_nil]
  · rintro H rfl
    have e : (S z).cps.size = z.length := by show z.toArray.size = _; rw [List.size_toArray]
    rw [e, List.take_length]
    exact hd
/-- a text, or something else that the law hands in -/
def Vl (H : Hp) (v : V) : Option (List Nat) → Prop
  | some x => v = .str (S x) ∧ x.length ≤ 1000
  | none => (v = .non ∨ (∃ b, v = .bl b) ∨ (∃ i, v = .int i) ∨ (∃ a xs, v = .ref a ∧ H a = some (.lst xs)) ∨ (∃ a kvs, v = .ref a ∧ H a = some (.dK kvs))) ∨ (∃ a xs, v = .ref a ∧ H a = some (.tup xs) ∧ (xs = [] ∨ ∃ z, xs = [.str z]))
theorem Vl.same {H H' : Hp} {v : V} {o : Option (List Nat)} (h : Vl H v o) (s : Same H H') : Vl H' v o := by
  cases o with
  | some x => exact h
  | none =>
    rcases h with (h | h | h | ⟨a, xs, e, h⟩ | ⟨a, xs, e, h⟩) | ⟨a, xs, e, h, g⟩
    · exact .inl (.inl h)
    · exact .inl (.inr (.inl h))
    · exact .inl (.inr (.inr (.inl h)))
    · exact .inl (.inr (.inr (.inr (.inl ⟨a, xs, e, s _ _ h⟩))))
    · exact .inl (.inr (.inr (.inr (.inr ⟨a, xs, e, s _ _ h⟩))))
    · exact .inr ⟨a, xs, e, s _ _ h, g⟩
theorem Vl.isStr {K : Frag} {H : Hp} {v : V} {o : Option (List Nat)} (h : Vl H v o) : ∃ t, TyX K H v t ∧ kitOne K t (.type "str") = some o.isSome := by
  cases o with
  | some x => exact ⟨_, by rw [h.1]; exact .base (.str _), kit_ty (r := true) (by decide +kernel)⟩
  | none =>
    rcases h with (h | ⟨b, h⟩ | ⟨i, h⟩ | ⟨a, xs, e, h⟩ | ⟨a, xs, e, h⟩) | ⟨a, xs, e, h, g⟩
    · exact ⟨_, by rw [h]; exact .base .non, kit_ty (r := false) (by decide +kernel)⟩
    · exact ⟨_, by rw [h]; exact .base (.bl _), kit_ty (r := false) (by decide +kernel)⟩
    · exact ⟨_, by rw [h]; exact .base (.int _), kit_ty (r := false) (by decide +kernel)⟩
    · exact ⟨_, by rw [e]; exact .base (.lst h), kit_ty (r := false) (by decide +kernel)⟩
    · exact ⟨_, by rw [e]; exact .base (.dK h), kit_ty (r := false) (by decide +kernel)⟩
    · exact ⟨_, by rw [e]; exact .base (.tup h), kit_ty (r := false) (by decide +kernel)⟩
/-- no tuple, or one without, or with one part -/
theorem Vl.isTup {K : Frag} {H : Hp} {v : V} (h : Vl H v none) : (∃ t, TyX K H v t ∧ kitOne K t (.type "tuple") = some false) ∨ (∃ a xs t, v = .ref a ∧ H a = some (.tup xs) ∧ (xs = [] ∨ ∃ z, xs = [.str z]) ∧ TyX K H v t ∧ kitOne K t (.type "tuple") = some true) := by
  rcases h with (h | ⟨b, h⟩ | ⟨i, h⟩ | ⟨a, xs, e, h⟩ | ⟨a, xs, e, h⟩) | ⟨a, xs, e, h, g⟩
  · exact .inl ⟨_, by rw [h]; exact .base .non, kit_ty (r := false) (by decide +kernel)⟩
  · exact .inl ⟨_, by rw [h]; exact .base (.bl _), kit_ty (r := false) (by decide +kernel)⟩
  · exact .inl ⟨_, by rw [h]; exact .base (.int _), kit_ty (r := false) (by decide +kernel)⟩
  · exact .inl ⟨_, by rw [e]; exact .base (.lst h), kit_ty (r := false) (by decide +kernel)⟩
  · exact .inl ⟨_, by rw [e]; exact .base (.dK h), kit_ty (r := false) (by decide +kernel)⟩
  · exact .inr ⟨a, xs, _, e, h, g, by rw [e]; exact .base (.tup h), kit_ty (r := true) (by decide +kernel)⟩
/-- the small letters -/
def az : List Nat := [97, 98, 99, 100, 101, 102, 103, 104, 105, 106, 107, 108, 109, 110, 111, 112, 113, 114, 115, 116, 117, 118, 119, 120, 121, 122]
/-- whether signs are a told word's name -/
def nameB (x : List Nat) : Bool := (decide (1 ≤ x.length) && decide (x.length ≤ 8)) && ((x.map fun c => decide (c ∈ az)).all id && !(table.lookup (S x)).isSome)
/-- whether signs are a word -/
def wordB (x : List Nat) : Bool := (table.lookup (S x)).isSome || (shufB x || nameB x)
def onT (f : List Nat → Bool) : Option (List Nat) → Bool
  | some x => f x
  | none => false
theorem par_spec : ∀ (x acc t l : List Nat), TL.par [45] acc x = some (t, l) → ∃ p, t = acc ++ p ∧ x = p ++ 45 :: l ∧ 45 ∉ p
  | [], _, _, _, h => by cases h
  | c :: r, acc, t, l, h => by
    have h' : (if TL.pre [45] (c :: r) = true then some (acc, (c :: r).drop 1) else TL.par [45] (acc ++ [c]) r) = some (t, l) := h
    by_cases hp : TL.pre [45] (c :: r) = true
    · rw [if_pos hp] at h'
      cases h'
      have hc : c = 45 := by
        have := eq_of_beq hp
        exact List.head_eq_of_cons_eq this
      exact ⟨[], by simp, by rw [hc]; rfl, by simp⟩
    · rw [if_neg hp] at h'
      obtain ⟨p, e1, e2, e3⟩ := par_spec r _ _ _ h'
      refine ⟨c :: p, by rw [e1]; simp, by rw [e2]; rfl, ?_⟩
      intro z
      rcases List.mem_cons.mp z with z | z
      · exact hp (by rw [← z]; rfl)
      · exact e3 z
theorem par_no : ∀ (x acc : List Nat), TL.par [45] acc x = none → 45 ∉ x
  | [], _, _ => by simp
  | c :: r, acc, h => by
    have h' : (if TL.pre [45] (c :: r) = true then some (acc, (c :: r).drop 1) else TL.par [45] (acc ++ [c]) r) = none := h
    by_cases hp : TL.pre [45] (c :: r) = true
    · rw [if_pos hp] at h'; cases h'
    · rw [if_neg hp] at h'
      intro z
      rcases List.mem_cons.mp z with z | z
      · exact hp (by rw [← z]; rfl)
      · exact par_no r _ h' z
theorem cnt_len (x : List Nat) : PyProof.Rows.cnt 45 x = (x.count 45 : Nat) := by
  induction x with
  | nil => rfl
  | cons n r ih =>
    rw [PyProof.Rows.cnt_cons, ih, List.count_cons]
    by_cases h : n = 45
    · rw [if_pos h, h]; simp; omega
    · rw [if_neg h]; simp [h]
/-- the first stroke -/
theorem index_dash {x p q : List Nat} (hx : x = p ++ 45 :: q) (hp : 45 ∉ p) (hq : 45 ∉ q) : Txt.index0 (S x) (S [45]) = some p.length := by
  obtain ⟨f, hc⟩ := PySem.StrLaws.occ_chain (S x) (S [45]) 1
  have hm : (!(Builtin.Str.occurrences (S x) (S [45]) 0 (S x).length 1).isEmpty) = decide (45 ∈ x) := in_one x 45
  have hx' : (45 : Nat) ∈ x := by rw [hx]; exact List.mem_append.mpr (.inr (List.mem_cons_self ..))
  rw [decide_eq_true hx'] at hm
  unfold Txt.index0
  cases ho : Builtin.Str.occurrences (S x) (S [45]) 0 (S x).length 1 with
  | nil => rw [ho] at hm; cases hm
  | cons i r =>
    rw [ho] at hc
    have h2 := (TL.at_iff (x := S x) (y := S [45]) (List.cons_ne_nil _ _) i).mp hc.2.1
    have h3 : (x.drop i).take 1 = [45] := eq_of_beq h2
    show some i = some p.length
    congr 1
    have h4 : x[i]? = some 45 := by
      have := congrArg (fun l => l[0]?) h3
      simp only [List.getElem?_take, List.getElem?_drop] at this
      simpa using this
    rw [hx] at h4
    by_cases h5 : i < p.length
    · rw [List.getElem?_append_left h5] at h4
      exact absurd (List.mem_of_getElem? h4) hp
    · rw [List.getElem?_append_right (by omega)] at h4
      by_cases h6 : i - p.length = 0
      · omega
      · obtain ⟨j, hj⟩ : ∃ j, i - p.length = j + 1 := ⟨i - p.length - 1, by omega⟩
        rw [hj, List.getElem?_cons_succ] at h4
        exact absurd (List.mem_of_getElem? h4) hq
end Cm
namespace Cm
open PySem PySem.W L2 SX
/-- a text of at most n signs that a text may have -/
structure Tx (z : Str) (n : Nat) : Prop where
  len : z.length ≤ n
  ch : ∀ c ∈ z.cps.toList, c < 1114112
theorem Tx.add {a b : Str} {m n : Nat} (h : Tx a m) (g : Tx b n) : Tx (a ++ b) (m + n) := by
  refine ⟨?_, fun c hc => ?_⟩
  · have e : (a ++ b).length = a.length + b.length := by
      rw [TL.len_tl, TL.tl_append, List.length_append, ← TL.len_tl, ← TL.len_tl]
    have := h.len; have := g.len; omega
  · have e : c ∈ TL.tl a ++ TL.tl b := by rw [← TL.tl_append]; exact hc
    rcases List.mem_append.mp e with e | e
    · exact h.ch c e
    · exact g.ch c e
theorem Tx.mono {a : Str} {m n : Nat} (h : Tx a m) (l : m ≤ n) : Tx a n := ⟨Nat.le_trans h.len l, h.ch⟩
theorem Tx.cut {z : Str} {n : Nat} (h : Tx z n) (lo hi : Option Int) : Tx (cutS z lo hi) n := by
  refine ⟨Nat.le_trans (cutS_length z lo hi) h.len, fun c hc => h.ch c ?_⟩
  have e : c ∈ (z.cps.toList.drop (HT.sIx z.length 0 lo)).take (HT.sIx z.length z.length hi - HT.sIx z.length 0 lo) := hc
  exact List.mem_of_mem_drop (List.mem_of_mem_take e)
theorem Tx.at_ {z : Str} {n : Nat} (h : Tx z n) {i : Int} {c : Nat} (e : atI z.cps.toList i = some c) : Tx ⟨#[c]⟩ 1 := by
  refine ⟨Nat.le_refl 1, fun d hd => ?_⟩
  have hd' : d ∈ [c] := hd
  rw [List.mem_singleton.mp hd']
  refine h.ch c ?_
  unfold atI at e
  cases q : ixN z.cps.toList.length i with
  | none => rw [q] at e; cases e
  | some j => rw [q] at e; exact List.mem_of_getElem? e
theorem Tx.sz {z : Str} {n : Nat} (h : Tx z n) (l : n ≤ 1000 := by decide) : z.length ≤ sizeLine := Nat.le_of_lt (small1000 (Nat.le_trans h.len l))
theorem Tx.sz2 {y z : Str} {m n : Nat} (h : Tx y m) (g : Tx z n) (l : m + n ≤ 1000 := by decide) : y.length + z.length ≤ sizeLine := by
  have := h.len; have := g.len
  exact Nat.le_of_lt (small1000 (by omega))
/-- a written text -/
def litB (z : Str) (n : Nat) : Bool := decide (z.length ≤ n) && z.cps.toList.all fun c => decide (c < 1114112)
theorem Tx.lit {z : Str} {n : Nat} (h : litB z n = true) : Tx z n := by
  unfold litB at h
  rw [Bool.and_eq_true] at h
  exact ⟨of_decide_eq_true h.1, fun c hc => of_decide_eq_true (List.all_eq_true.mp h.2 c hc)⟩
theorem joinL_nil : ∀ l : List (List Nat), TL.joinL [] l = l.flatten
  | [] => rfl
  | [x] => by show x = [x].flatten; simp
  | x :: y :: r => by
    have ih := joinL_nil (y :: r)
    show x ++ ([] ++ TL.joinL [] (y :: r)) = (x :: y :: r).flatten
    rw [ih]; simp
theorem Tx.join {ys : List Str} (h : ∀ y ∈ ys, Tx y 1) : Tx (Txt.join ("" : Str) ys) ys.length := by
  have e0 : ("" : Str) = S [] := by decide +kernel
  have e1 : ys = (ys.map TL.tl).map S := by
    rw [List.map_map]
    conv => lhs; rw [← List.map_id ys]
    exact List.map_congr_left fun y _ => (S_tl y).symm
  have e2 : Txt.join ("" : Str) ys = S ((ys.map TL.tl).flatten) := by
    rw [e0]; conv => lhs; rw [e1]
    rw [join_S, joinL_nil]
  rw [e2]
  refine ⟨?_, fun c hc => ?_⟩
  · rw [S_len, List.length_flatten]
    have : ∀ l : List Str, (∀ y ∈ l, Tx y 1) → ((l.map TL.tl).map List.length).sum ≤ l.length := by
      intro l
      induction l with
      | nil => intro _; exact Nat.le_refl 0
      | cons y r ih =>
        intro hh
        have h1 := (hh y (List.mem_cons_self ..)).len
        rw [TL.len_tl] at h1
        have h2 := ih fun z hz => hh z (List.mem_cons_of_mem _ hz)
        rw [List.map_cons, List.map_cons, List.sum_cons, List.length_cons]
        omega
    exact this ys h
  · have hc' : c ∈ (ys.map TL.tl).flatten := hc
    obtain ⟨l, hl, hcl⟩ := List.mem_flatten.mp hc'
    obtain ⟨y, hy, rfl⟩ := List.mem_map.mp hl
    exact (h y hy).ch c hcl
theorem sum_one {ys : List Str} (h : ∀ y ∈ ys, Tx y 1) (l : ys.length ≤ 1000) : (ys.map (·.length)).sum + ys.length * ("" : Str).length ≤ 16777216 := by
  have e0 : ("" : Str).length = 0 := by decide +kernel
  rw [e0, Nat.mul_zero, Nat.add_zero]
  have : ∀ l : List Str, (∀ y ∈ l, Tx y 1) → (l.map (·.length)).sum ≤ l.length := by
    intro l
    induction l with
    | nil => intro _; exact Nat.le_refl 0
    | cons y r ih =>
      intro hh
      have h1 := (hh y (List.mem_cons_self ..)).len
      have h2 := ih fun z hz => hh z (List.mem_cons_of_mem _ hz)
      rw [List.map_cons, List.sum_cons, List.length_cons]
      omega
  have := this ys h
  omega
end Cm
namespace Cm
open PySem PySem.Spec PyProof.Rows L2
theorem ext_tup (l : Addr) (its : Array Value) (n : Nat) (b : Addr) (js : Array Value) (m : Nat) (dd : Option Addr) (sl : Array (Option Value)) (h0 : ¬(!its.isEmpty && Builtin.List.listTooLong (its.size + js.size)) = true) (h1 : its.size ≤ sizeLine) (h2 : its.size + js.size ≤ sizeLine + 1) :
    Meets (Builtin.«list.extend» ⟨[.ref l, .ref b], []⟩) (fun _ R s => s.heap.get? l = some { cls := .type "list", dict := none, data := .seq its n, slots := #[] } ∧ s.heap.get? b = some { cls := .type "tuple", dict := dd, data := .seq js m, slots := sl } ∧ R (.ok (.ret Value.none)) { s with heap := s.heap.update l (Obj.mapSeq fun x => x ++ js), toks := s.toks }) :=
  .of_wp fun prog w A R s h => by
    obtain ⟨hp, g, d, tk, os⟩ := s
    obtain ⟨hl, hb, h⟩ := h
    have f2 := sub_tuple_tuple; have f3 := sub_list_list; have f4 := sub_tuple_list; have f5 := sub_list_tuple; have f1 := AutoSeq1.idx_int
    have hz : (its ++ js).size ≤ sizeLine + 1 := by rw [Array.size_append]; exact h2
    wp_walk using (wpAny_updateSeq hl rfl (hz := h1) (_hz' := hz)), wpAny_loadPart' hl, wpAny_loadPart' hb
    exact ⟨_, rfl, h⟩
def rExtT (K : PySem.W.Frag) : V → List V → Hp → VK → Prop := fun x vs H Q => ∃ l b xs zs, x = .ref l ∧ vs = [.ref b] ∧ H l = some (.lst xs) ∧ SqT K H b zs ∧ xs.length + zs.length ≤ sizeLine ∧ Q .non (upd H l (.lst (xs ++ zs)))
/-- xs.extend(t), t a tuple -/
theorem mt_extT {X : Cx} : MtM X "list.extend" (rExtT X.K) := by
  intro pins s σ H x vs v us Q I rx rv h
  obtain ⟨l, b, xs, zs, rfl, rfl, hH, hB, hz, q⟩ := h
  cases rx
  obtain ⟨u, rfl, ru⟩ := rv.one
  cases ru
  obtain ⟨z, its, n, r, hl, e⟩ := I.lstM hH
  obtain ⟨js, r2, ⟨ob, e2, c2, m, d2⟩, z2⟩ := I.tuple hB
  obtain ⟨oc, od, dt, sl⟩ := ob
  cases (show oc = .type "tuple" from c2)
  cases (show dt = .seq js.toArray m from d2)
  have l2 := r2.length
  have hsz : its.toArray.size + js.toArray.size ≤ sizeLine := by rw [List.size_toArray, List.size_toArray]; omega
  have hlong : ¬ (!its.toArray.isEmpty && Builtin.List.listTooLong (its.toArray.size + js.toArray.size)) = true := by
    rw [notLongL hsz, Bool.and_false]; exact Bool.false_ne_true
  refine call_meets F.slot_list_extend ⟨_, e, rfl⟩ F.entry_list_extend (F.args_list_extend_2 _ _)
    (ext_tup l its.toArray n b js.toArray m od sl hlong (by rw [List.size_toArray]; omega) (by omega)) ⟨e, e2, ?_⟩
  refine ⟨.non, _, I.lset (its' := its ++ js) hH e (by simp) (r.append r2) ?_, rfl, q⟩
  rw [List.length_append]; omega
end Cm
namespace Cm
open PySem PySem.W L2 SX
/-! ### data of tuples, texts and numbers as it lies in the heap -/
mutual
inductive Tr (K : Frag) (H : Hp) : V → PyData → Prop
  | int (i : Int) : Tr K H (.int i) (.int i)
  | str (x : Str) : Tr K H (.str x) (.str x)
  | tup {a : Addr} {xs : List V} {ds : List PyData} : SqT K H a xs → TrAll K H xs ds → Tr K H (.ref a) (.tuple ds)
inductive TrAll (K : Frag) (H : Hp) : List V → List PyData → Prop
  | nil : TrAll K H [] []
  | cons {v : V} {vs : List V} {d : PyData} {ds : List PyData} : Tr K H v d → TrAll K H vs ds → TrAll K H (v :: vs) (d :: ds)
end
/-- tuples are kept -/
def TKs (K : Frag) (H H' : Hp) : Prop := ∀ a xs, SqT K H a xs → SqT K H' a xs
theorem TKs.refl {K : Frag} (H : Hp) : TKs K H H := fun _ _ h => h
theorem TKs.trans {K : Frag} {H H1 H2 : Hp} (a : TKs K H H1) (b : TKs K H1 H2) : TKs K H H2 := fun c x h => b c x (a c x h)
theorem TKs.of {K : Frag} {H H' : Hp} (s : Same H H') : TKs K H H' := fun a xs h => by
  rcases h with (h | ⟨o, h⟩) | h
  · exact .inl (.inl (s _ _ h))
  · exact .inl (.inr ⟨o, s _ _ h⟩)
  · exact .inr h
theorem TKs.kp {K : Frag} {L : List Addr} {H H' : Hp} (k : Kp L H H') (hl : ∀ b ∈ L, ∃ xs, H b = some (.lst xs)) : TKs K H H' := fun a xs h => by
  have nm : ∀ o, H a = some o → (∀ ys, o ≠ .lst ys) → a ∉ L := fun o e n z => by
    obtain ⟨ys, ey⟩ := hl a z
    rw [ey] at e
    exact n ys (Option.some.inj e).symm
  rcases h with (h | ⟨o, h⟩) | h
  · exact .inl (.inl (k _ _ (nm _ h (fun _ z => by cases z)) h))
  · exact .inl (.inr ⟨o, k _ _ (nm _ h (fun _ z => by cases z)) h⟩)
  · exact .inr h
theorem TKs.lst {K : Frag} {H : Hp} {d : Addr} {xs ys : List V} (h : H d = some (.lst xs)) : TKs K H (upd H d (.lst ys)) :=
  TKs.kp (L := [d]) (fun b o m e => by rw [upd_ne (fun z => m (List.mem_singleton.mpr z))]; exact e) (fun b hb => by rw [List.mem_singleton.mp hb]; exact ⟨xs, h⟩)
mutual
theorem Tr.mono {K : Frag} {H H' : Hp} (k : TKs K H H') : ∀ {v : V} {d : PyData}, Tr K H v d → Tr K H' v d
  | _, _, .int i => .int i
  | _, _, .str x => .str x
  | _, _, .tup h t => .tup (k _ _ h) (TrAll.mono k t)
theorem TrAll.mono {K : Frag} {H H' : Hp} (k : TKs K H H') : ∀ {v : List V} {d : List PyData}, TrAll K H v d → TrAll K H' v d
  | _, _, .nil => .nil
  | _, _, .cons h t => .cons (Tr.mono k h) (TrAll.mono k t)
end
mutual
theorem Tr.dp {K : Frag} {H : Hp} : ∀ {v : V} {d : PyData}, Tr K H v d → Dp K H v d
  | _, _, .int i => .int i
  | _, _, .str x => .str x
  | _, _, .tup h t => .tup h (TrAll.dp t)
theorem TrAll.dp {K : Frag} {H : Hp} : ∀ {v : List V} {d : List PyData}, TrAll K H v d → DpAll K H v d
  | _, _, .nil => .nil
  | _, _, .cons h t => .cons (Tr.dp h) (TrAll.dp t)
end
theorem TrAll.len {K : Frag} {H : Hp} : ∀ {v : List V} {d : List PyData}, TrAll K H v d → v.length = d.length
  | _, _, .nil => rfl
  | _, _, .cons _ t => congrArg (· + 1) (TrAll.len t)
theorem TrAll.append {K : Frag} {H : Hp} : ∀ {v v' : List V} {d d' : List PyData}, TrAll K H v d → TrAll K H v' d' → TrAll K H (v ++ v') (d ++ d')
  | _, _, _, _, .nil, h => h
  | _, _, _, _, .cons h t, h' => .cons h (TrAll.append t h')
theorem TrAll.get {K : Frag} {H : Hp} : ∀ {v : List V} {d : List PyData} {i : Nat} {x : V}, TrAll K H v d → v[i]? = some x → ∃ y, d[i]? = some y ∧ Tr K H x y
  | _, _, i, x, .nil, h => by simp at h
  | _, _, 0, x, .cons h t, e => ⟨_, rfl, by cases e; exact h⟩
  | _, _, i + 1, x, .cons h t, e => by
    rw [List.getElem?_cons_succ] at e ⊢
    exact TrAll.get t e
theorem TrAll.snoc {K : Frag} {H : Hp} {v : List V} {d : List PyData} {x : V} (h : TrAll K H (v ++ [x]) d) : ∃ d' y, d = d' ++ [y] ∧ TrAll K H v d' ∧ Tr K H x y := by
  induction v generalizing d with
  | nil =>
    cases h with
    | cons a b => cases b; exact ⟨[], _, rfl, .nil, a⟩
  | cons u r ih =>
    cases h with
    | cons a b =>
      obtain ⟨d', y, rfl, h1, h2⟩ := ih b
      exact ⟨_ :: d', y, rfl, .cons a h1, h2⟩
/-! ### things, rows, stacks: depth, words in all, size -/
mutual
inductive Thg : Nat → Nat → Nat → PyData → Prop
  | num {k : Nat} (n : Int) (h0 : 0 ≤ n) (h1 : n < 10 ^ 12) : Thg k 0 1 (.tuple [.str "number", .int n])
  | row {k k' w m : Nat} {ws : List PyData} : Rw k w m ws → k < k' → Thg k' w (m + 1) (.tuple [.str "row", .tuple ws])
  | lst {k k' w m : Nat} {ts : List PyData} : Stk k w m ts → k < k' → Thg k' w (m + 1) (.tuple [.str "list", .tuple ts])
inductive Rw : Nat → Nat → Nat → List PyData → Prop
  | nil {k : Nat} : Rw k 0 0 []
  | txt {k w m : Nat} {z : Str} {ws : List PyData} : Tx z 100 → Rw k w m ws → Rw k (w + 1) (m + 1) (.str z :: ws)
  | push {k w m w' m' : Nat} {t : PyData} {ws : List PyData} : Thg k w m t → Rw k w' m' ws → Rw k (w + w' + 1) (m + m' + 1) (.tuple [.str "push", t] :: ws)
inductive Stk : Nat → Nat → Nat → List PyData → Prop
  | nil {k : Nat} : Stk k 0 0 []
  | cons {k w m w' m' : Nat} {t : PyData} {ts : List PyData} : Thg k w m t → Stk k w' m' ts → Stk k (w + w') (m + m') (t :: ts)
end
theorem Thg.up {k k' w m : Nat} {t : PyData} (h : Thg k w m t) (l : k ≤ k') : Thg k' w m t := by
  cases h with
  | num n h0 h1 => exact .num n h0 h1
  | row h q => exact .row h (Nat.lt_of_lt_of_le q l)
  | lst h q => exact .lst h (Nat.lt_of_lt_of_le q l)
theorem Rw.up {k k' : Nat} (l : k ≤ k') : ∀ {ws : List PyData} {w m : Nat}, Rw k w m ws → Rw k' w m ws
  | _, _, _, .nil => .nil
  | _, _, _, .txt h t => .txt h (Rw.up l t)
  | _, _, _, .push h t => .push (h.up l) (Rw.up l t)
theorem Stk.up {k k' : Nat} (l : k ≤ k') : ∀ {ws : List PyData} {w m : Nat}, Stk k w m ws → Stk k' w m ws
  | _, _, _, .nil => .nil
  | _, _, _, .cons h t => .cons (h.up l) (Stk.up l t)
theorem Rw.append {k : Nat} : ∀ {a b : List PyData} {w m w' m' : Nat}, Rw k w m a → Rw k w' m' b → Rw k (w + w') (m + m') (a ++ b)
  | _, _, _, _, _, _, .nil, h => by rw [Nat.zero_add, Nat.zero_add]; exact h
  | _, _, _, _, w', m', .txt (w := w) (m := m) h t, h' => by
    have := Rw.txt h (Rw.append t h')
    rw [show w + 1 + w' = w + w' + 1 by omega, show m + 1 + m' = m + m' + 1 by omega]
    exact this
  | _, _, _, _, w', m', .push (w := w) (m := m) (w' := x) (m' := y) h t, h' => by
    have := Rw.push h (Rw.append t h')
    rw [show w + x + 1 + w' = w + (x + w') + 1 by omega, show m + y + 1 + m' = m + (y + m') + 1 by omega]
    exact this
theorem Stk.append {k : Nat} : ∀ {a b : List PyData} {w m w' m' : Nat}, Stk k w m a → Stk k w' m' b → Stk k (w + w') (m + m') (a ++ b)
  | _, _, _, _, _, _, .nil, h => by rw [Nat.zero_add, Nat.zero_add]; exact h
  | _, _, _, _, _, _, .cons h t, h' => by
    rw [Nat.add_assoc, Nat.add_assoc]; exact .cons h (Stk.append t h')
theorem Stk.snoc {k : Nat} : ∀ {a : List PyData} {t : PyData} {w m : Nat}, Stk k w m (a ++ [t]) → ∃ w1 m1 w2 m2, Stk k w1 m1 a ∧ Thg k w2 m2 t ∧ w = w1 + w2 ∧ m = m1 + m2
  | [], t, w, m, h => by
    have h' : Stk k w m [t] := h
    cases h' with
    | cons a b => cases b; exact ⟨0, 0, _, _, .nil, a, by omega, by omega⟩
  | x :: r, t, w, m, h => by
    have h' : Stk k w m (x :: (r ++ [t])) := h
    cases h' with
    | cons a q =>
      obtain ⟨w1, m1, w2, m2, a', b, rfl, rfl⟩ := Stk.snoc q
      exact ⟨_, _, w2, m2, .cons a a', b, by omega, by omega⟩
theorem Thg.pos {k w m : Nat} {t : PyData} (h : Thg k w m t) : 1 ≤ m := by
  cases h <;> omega
theorem Stk.len {k : Nat} : ∀ {a : List PyData} {w m : Nat}, Stk k w m a → a.length ≤ m
  | _, _, _, .nil => Nat.le_refl 0
  | _, _, _, .cons h t => by
    have h1 := Stk.len t
    have h2 := h.pos
    rw [List.length_cons]; omega
theorem Rw.len {k : Nat} : ∀ {a : List PyData} {w m : Nat}, Rw k w m a → a.length ≤ m
  | _, _, _, .nil => Nat.le_refl 0
  | _, _, _, .txt h t => by have := Rw.len t; rw [List.length_cons]; omega
  | _, _, _, .push h t => by have := Rw.len t; rw [List.length_cons]; omega
/-- what a word pushes -/
def psh : PyData → Option PyData
  | .tuple [_, t] => some t
  | _ => none
theorem Rw.psh {k : Nat} : ∀ {ws : List PyData} {w m : Nat}, Rw k w m ws → ∃ w' m', Stk k w' m' (ws.filterMap psh) ∧ w = ws.length + w' ∧ m' ≤ m
  | _, _, _, .nil => ⟨0, 0, .nil, rfl, Nat.le_refl 0⟩
  | _, _, _, .txt h t => by
    obtain ⟨w', m', a, b, c⟩ := Rw.psh t
    exact ⟨w', m', a, by rw [List.length_cons]; omega, by omega⟩
  | _, _, _, .push h t => by
    obtain ⟨w', m', a, b, c⟩ := Rw.psh t
    exact ⟨_, _, .cons h a, by rw [List.length_cons]; omega, by omega⟩
theorem Rw.at_ {k : Nat} : ∀ {ws : List PyData} {w m i : Nat} {d : PyData}, Rw k w m ws → ws[i]? = some d → (∃ z, d = .str z) ∨ (∃ t, d = .tuple [.str "push", t])
  | _, _, _, i, d, .nil, h => by simp at h
  | _, _, _, 0, d, .txt (z := z) h t, e => .inl ⟨z, by cases e; rfl⟩
  | _, _, _, 0, d, .push (t := t) h _, e => .inr ⟨t, by cases e; rfl⟩
  | _, _, _, i + 1, d, .txt h t, e => Rw.at_ t e
  | _, _, _, i + 1, d, .push h t, e => Rw.at_ t e
theorem mid {n : Nat} (h : n ≤ 1000000) : n ≤ sizeLine := Nat.le_trans h (by decide)
theorem midlt {n : Nat} (h : n < 1000000) : n < sizeLine := Nat.lt_of_lt_of_le h (by decide)
theorem tyTup {K : Frag} {H : Hp} {a : Addr} {xs : List V} (h : SqT K H a xs) : TyX K H (.ref a) (.type "tuple") := by
  rcases h with (h | ⟨o, h⟩) | ⟨o, _, _, e, c, _⟩
  · exact .base (.tup h)
  · exact .fTuple h
  · exact .kTuple e c
mutual
theorem Thg.lay : ∀ {k w m : Nat} {t : PyData}, Thg k w m t → PyData.canLay0 t = true ∧ PyData.depth t ≤ 3 * k + 1
  | k, _, _, _, .num n h0 h1 => ⟨by show (PyData.canLay0 (.str "number") && (true && true)) = true; decide +kernel, Nat.le_add_left 1 _⟩
  | k', _, _, _, .row (k := k) (ws := ws) h l => by
    obtain ⟨a, b⟩ := Rw.lay h
    refine ⟨?_, ?_⟩
    · show (PyData.canLay0 (.str "row") && (PyData.canLayAll0 ws && true)) = true
      rw [a]; decide +kernel
    · show max 0 (max (PyData.depthAll ws + 1) 0) + 1 ≤ _
      omega
  | k', _, _, _, .lst (k := k) (ts := ts) h l => by
    obtain ⟨a, b⟩ := Stk.lay h
    refine ⟨?_, ?_⟩
    · show (PyData.canLay0 (.str "list") && (PyData.canLayAll0 ts && true)) = true
      rw [a]; decide +kernel
    · show max 0 (max (PyData.depthAll ts + 1) 0) + 1 ≤ _
      omega
theorem Rw.lay : ∀ {k w m : Nat} {ws : List PyData}, Rw k w m ws → PyData.canLayAll0 ws = true ∧ PyData.depthAll ws ≤ 3 * k + 2
  | k, _, _, _, .nil => ⟨rfl, Nat.zero_le _⟩
  | k, _, _, _, .txt (z := z) (ws := ws) h t => by
    obtain ⟨a, b⟩ := Rw.lay t
    refine ⟨?_, ?_⟩
    · show (z.cps.all (· < 0x110000) && PyData.canLayAll0 ws) = true
      rw [a, Bool.and_true, ← Array.all_toList, List.all_eq_true]
      intro c hc
      exact decide_eq_true (h.ch c hc)
    · show max 0 (PyData.depthAll ws) ≤ _
      omega
  | k, _, _, _, .push (t := t) (ws := ws) h r => by
    obtain ⟨a, b⟩ := Rw.lay r
    obtain ⟨a', b'⟩ := Thg.lay h
    refine ⟨?_, ?_⟩
    · show ((PyData.canLay0 (.str "push") && (PyData.canLay0 t && true)) && PyData.canLayAll0 ws) = true
      rw [a, a']; decide +kernel
    · show max (max 0 (max (PyData.depth t) 0) + 1) (PyData.depthAll ws) ≤ _
      omega
theorem Stk.lay : ∀ {k w m : Nat} {ts : List PyData}, Stk k w m ts → PyData.canLayAll0 ts = true ∧ PyData.depthAll ts ≤ 3 * k + 1
  | k, _, _, _, .nil => ⟨rfl, Nat.zero_le _⟩
  | k, _, _, _, .cons (t := t) (ts := ts) h r => by
    obtain ⟨a, b⟩ := Stk.lay r
    obtain ⟨a', b'⟩ := Thg.lay h
    refine ⟨?_, ?_⟩
    · show (PyData.canLay0 t && PyData.canLayAll0 ts) = true
      rw [a, a']; rfl
    · show max (PyData.depth t) (PyData.depthAll ts) ≤ _
      omega
end
theorem Stk.shaped {k w m : Nat} {ts : List PyData} (h : Stk k w m ts) (l : k ≤ 20) : SeqAt.shaped (.list ts) = true := by
  obtain ⟨a, b⟩ := h.lay
  show (PyData.canLayAll0 ts && decide (PyData.depthAll ts + 1 ≤ 64)) = true
  rw [a, Bool.true_and]; exact decide_eq_true (by omega)
end Cm
namespace Cm
open PySem PySem.W L2 SX
/-! ### maps: what stays lowest -/
/-- the thing c stays where it is and stands nowhere behind -/
def Stays (ps : List Int) (c : Nat) : Prop := ps[c]? = some (c : Int) ∧ (c : Int) ∉ ps.drop (c + 1)
/-- as many as c may be cut -/
def IsCut (ps : List Int) (c : Nat) : Prop := (∀ j, j < c → Stays ps j) ∧ ¬ Stays ps c
def cutM (c : Nat) (ps : List Int) : List Int := (ps.drop c).map fun p => p - (c : Int)
theorem IsCut.uniq {ps : List Int} {c d : Nat} (a : IsCut ps c) (b : IsCut ps d) : c = d := by
  rcases Nat.lt_trichotomy c d with h | h | h
  · exact absurd (b.1 c h) a.2
  · exact h
  · exact absurd (a.1 d h) b.2
theorem Stays.lt {ps : List Int} {c : Nat} (h : Stays ps c) : c < ps.length := by
  have := h.1
  exact (List.getElem?_eq_some_iff.mp this).1
theorem cutM_zero (ps : List Int) : cutM 0 ps = ps := by
  unfold cutM
  rw [List.drop_zero]
  have : (fun p : Int => p - ((0 : Nat) : Int)) = id := by funext p; show p - 0 = p; omega
  rw [this, List.map_id]
theorem cutM_length (c : Nat) (ps : List Int) : (cutM c ps).length ≤ ps.length := by
  unfold cutM
  rw [List.length_map, List.length_drop]; omega
theorem mem_cutM {c : Nat} {ps : List Int} {x : Int} : x ∈ cutM c ps ↔ x + c ∈ ps.drop c := by
  unfold cutM
  rw [List.mem_map]
  constructor
  · rintro ⟨y, hy, rfl⟩
    rw [show y - (c : Int) + (c : Int) = y by omega]; exact hy
  · intro h
    exact ⟨_, h, by omega⟩
theorem IsCut.least {ps : List Int} {c : Nat} (h : IsCut ps c) : IsCut (cutM c ps) 0 := by
  refine ⟨fun j hj => absurd hj (Nat.not_lt_zero j), fun s => h.2 ?_⟩
  obtain ⟨s1, s2⟩ := s
  have e1 : (cutM c ps)[0]? = (ps[c]?).map fun p => p - (c : Int) := by
    unfold cutM
    rw [List.getElem?_map, List.getElem?_drop, Nat.add_zero]
  rw [e1] at s1
  constructor
  · cases e : ps[c]? with
    | none => rw [e] at s1; cases s1
    | some p =>
      rw [e] at s1
      have s1' : p - (c : Int) = ((0 : Nat) : Int) := Option.some.inj s1
      congr 1
      omega
  · intro m
    refine s2 ?_
    have e2 : (cutM c ps).drop (0 + 1) = (ps.drop (c + 1)).map fun p => p - (c : Int) := by
      unfold cutM
      rw [← List.map_drop, List.drop_drop]
    rw [e2, List.mem_map]
    exact ⟨_, m, by omega⟩
/-- the numbers from 0 on -/
def nums (m : Nat) : List Int := (List.range m).map fun i => ((i : Nat) : Int)
theorem nums_length (m : Nat) : (nums m).length = m := by unfold nums; rw [List.length_map, List.length_range]
theorem nums_get {m i : Nat} (h : i < m) : (nums m)[i]? = some (i : Int) := by
  unfold nums
  rw [List.getElem?_map, List.getElem?_range h]; rfl
theorem mem_nums {m : Nat} {x : Int} : x ∈ nums m ↔ 0 ≤ x ∧ x < m := by
  unfold nums
  rw [List.mem_map]
  constructor
  · rintro ⟨i, hi, rfl⟩
    have := List.mem_range.mp hi
    omega
  · rintro ⟨h1, h2⟩
    exact ⟨x.toNat, List.mem_range.mpr (by omega), by omega⟩
theorem mem_drop_nums {m c : Nat} {x : Int} (h : x ∈ (nums m).drop c) : (c : Int) ≤ x := by
  obtain ⟨i, hi⟩ := List.mem_iff_getElem?.mp h
  rw [List.getElem?_drop] at hi
  have hl := (List.getElem?_eq_some_iff.mp hi).1
  rw [nums_length] at hl
  rw [nums_get hl] at hi
  have := Option.some.inj hi
  omega
def moreM (m : Nat) (ps : List Int) : List Int := nums m ++ ps.map fun p => p + (m : Int)
theorem stays_more {m c : Nat} {ps : List Int} : Stays (moreM m ps) (m + c) ↔ Stays ps c := by
  unfold Stays moreM
  have e1 : (nums m ++ ps.map fun p => p + (m : Int))[m + c]? = (ps[c]?).map fun p => p + (m : Int) := by
    rw [List.getElem?_append_right (by rw [nums_length]; omega), nums_length, Nat.add_sub_cancel_left, List.getElem?_map]
  have e2 : (nums m ++ ps.map fun p => p + (m : Int)).drop (m + c + 1) = (ps.drop (c + 1)).map fun p => p + (m : Int) := by
    rw [List.drop_append, nums_length, List.drop_of_length_le (by rw [nums_length]; omega), List.nil_append, List.map_drop]
    congr 1; omega
  rw [e1, e2]
  constructor
  · rintro ⟨h1, h2⟩
    constructor
    · cases e : ps[c]? with
      | none => rw [e] at h1; cases h1
      | some p =>
        rw [e] at h1
        have h1' : p + (m : Int) = ((m + c : Nat) : Int) := Option.some.inj h1
        congr 1; omega
    · intro z
      exact h2 (List.mem_map.mpr ⟨_, z, by omega⟩)
  · rintro ⟨h1, h2⟩
    constructor
    · rw [h1]
      show some ((c : Int) + (m : Int)) = _
      congr 1; omega
    · intro z
      obtain ⟨y, hy, e⟩ := List.mem_map.mp z
      exact h2 (by rw [show (c : Int) = y by omega]; exact hy)
theorem IsCut.more {m c : Nat} {ps : List Int} (h : IsCut ps c) (h0 : ∀ p ∈ ps, (0 : Int) ≤ p) : IsCut (moreM m ps) (m + c) := by
  refine ⟨fun j hj => ?_, fun s => h.2 (stays_more.mp s)⟩
  by_cases hm : j < m
  · constructor
    · unfold moreM
      rw [List.getElem?_append_left (by rw [nums_length]; exact hm), nums_get hm]
    · unfold moreM
      rw [List.drop_append]
      intro z
      rcases List.mem_append.mp z with z | z
      · have := mem_drop_nums z; omega
      · obtain ⟨y, hy, e⟩ := List.mem_map.mp (List.mem_of_mem_drop z)
        have := h0 y hy
        omega
  · have : j = m + (j - m) := by omega
    rw [this]
    exact stays_more.mpr (h.1 _ (by omega))
theorem cutM_more (m c : Nat) (ps : List Int) : cutM (m + c) (moreM m ps) = cutM c ps := by
  unfold cutM moreM
  rw [List.drop_append, nums_length, List.drop_of_length_le (by rw [nums_length]; omega), List.nil_append, ← List.map_drop, List.map_map, Nat.add_sub_cancel_left]
  congr 1
  funext p
  show p + (m : Int) - ((m + c : Nat) : Int) = p - (c : Int)
  omega
theorem count_stays {ps : List Int} {c : Nat} (h : ∀ j, j < c → Stays ps j) (hc : ps[c]? = some (c : Int)) : ps.count (c : Int) = 1 ↔ (c : Int) ∉ ps.drop (c + 1) := by
  have e : ps = ps.take c ++ ((c : Int) :: ps.drop (c + 1)) := by
    obtain ⟨h1, h2⟩ := List.getElem?_eq_some_iff.mp hc
    rw [← h2, List.getElem_cons_drop, List.take_append_drop]
  have e0 : (ps.take c).count (c : Int) = 0 := by
    rw [List.count_eq_zero]
    intro z
    obtain ⟨i, hi⟩ := List.mem_iff_getElem?.mp z
    rw [List.getElem?_take] at hi
    by_cases hl : i < c
    · rw [if_pos hl, (h i hl).1] at hi
      have := Option.some.inj hi
      omega
    · rw [if_neg hl] at hi; cases hi
  have : ps.count (c : Int) = (ps.drop (c + 1)).count (c : Int) + 1 := by
    conv => lhs; rw [e]
    rw [List.count_append, e0, List.count_cons_self]; omega
  rw [this]
  constructor
  · intro q
    exact List.count_eq_zero.mp (by omega)
  · intro q
    rw [List.count_eq_zero.mpr q]
theorem in_ints (c : Int) : ∀ ns : List Int, inV (.int c) (ns.map V.int) = decide (c ∈ ns)
  | [] => rfl
  | n :: r => by
    have ih : ((r.map V.int).any fun y => eqV y (.int c)) = decide (c ∈ r) := in_ints c r
    show ((n == c) || (r.map V.int).any fun y => eqV y (.int c)) = _
    rw [ih]
    by_cases h : n = c
    · subst h
      rw [beq_self_eq_true, Bool.true_or, decide_eq_true (List.mem_cons_self ..)]
    · rw [show (n == c) = false from beq_eq_false_iff_ne.mpr h, Bool.false_or]
      congr 1
      refine propext ⟨fun m => List.mem_cons_of_mem _ m, fun m => ?_⟩
      rcases List.mem_cons.mp m with z | z
      · exact absurd z.symm h
      · exact z
theorem flat_ints : ∀ ns : List Int, (ns.map V.int).all flatV = true
  | [] => rfl
  | n :: r => by
    show (true && (r.map V.int).all flatV) = true
    rw [flat_ints r]; rfl
/-- a map as data: a number and a tuple of numbers -/
def mapD (n : Int) (ps : List Int) : PyData := .tuple [.int n, .tuple (ps.map PyData.int)]
theorem mapD_lay (n : Int) (ps : List Int) : PyData.canLay0 (mapD n ps) = true := by
  show (PyData.canLay0 (PyData.int n) && (PyData.canLayAll0 (ps.map PyData.int) && true)) = true
  rw [lay_ints]; rfl
theorem mapD_shaped (n : Int) (ps : List Int) : SeqAt.shaped (mapD n ps) = true := by
  show (PyData.canLay0 (mapD n ps) && decide (PyData.depth (mapD n ps) ≤ 64)) = true
  rw [mapD_lay]
  have : PyData.depth (mapD n ps) = 2 := by
    show max 0 (max (PyData.depthAll (ps.map PyData.int) + 1) 0) + 1 = 2
    rw [deep_ints]; rfl
  rw [this]; rfl
/-- a map stands at p -/
def MapAt (K : Frag) (H : Hp) (p : Addr) (n : Int) (ps : List Int) : Prop := ∃ t, SqT K H p [.int n, .ref t] ∧ SqT K H t (ps.map V.int)
/-! ### rules -/
theorem Same.seqT {K : PySem.W.Frag} {H H' : Hp} {a : Addr} {xs : List V} (e : Same H H') (h : SqT K H a xs) : SqT K H' a xs := by
  rcases h with (h | ⟨o, h⟩) | h
  · exact .inl (.inl (e _ _ h))
  · exact .inl (.inr ⟨o, e _ _ h⟩)
  · exact .inr h
theorem MapAt.same {K : Frag} {H H' : Hp} {p : Addr} {n : Int} {ps : List Int} (h : MapAt K H p n ps) (s : Same H H') : MapAt K H' p n ps := by
  obtain ⟨t, h1, h2⟩ := h
  exact ⟨t, Same.seqT s h1, Same.seqT s h2⟩
theorem MapAt.dp {K : Frag} {H : Hp} {p : Addr} {n : Int} {ps : List Int} (h : MapAt K H p n ps) : Dp K H (.ref p) (mapD n ps) := by
  obtain ⟨t, h1, h2⟩ := h
  exact .tup h1 (.cons (.int _) (.cons (.tup h2 (dp_ints ps)) .nil))
section
variable {X : Cx}
def rCntT (K : PySem.W.Frag) : V → List V → Hp → VK → Prop := fun x xs H Q => ∃ (p : Addr) (ns : List Int) (k : Int), x = .ref p ∧ xs = [.int k] ∧ SqT K H p (ns.map V.int) ∧ Q (.int (ns.count k : Nat)) H
theorem mt_tcount : MtR X "tuple.count" (rCntT X.K) := by
  intro pins s σ H x xs v us Q I rx rxs h
  obtain ⟨p, ns, k, rfl, rfl, hs, q⟩ := h
  cases rx
  obtain ⟨u, rfl, ru⟩ := rxs.one
  obtain ⟨t, rfl⟩ := ru
  obtain ⟨its, rv, ⟨⟨cls, dd, data, sl⟩, ho, hc, n, hd⟩, hlen⟩ := I.tuple hs
  simp only at hc hd
  subst hc hd
  have hi := ints_of_vals rv
  refine call_meets PySem.F.slot_tuple_count ⟨_, ho, rfl⟩ PySem.F.entry_tuple_count (PySem.F.args_tuple_count_2 _ _)
    (SeqAt.tuple_countAt p its.toArray n dd sl (.int k t) (eqk k)) ⟨ho, fun y hy => (eqk_gives hi y (by simpa using hy)).at _ _, ?_⟩
  have ec : its.toArray.toList.countP (eqk k) = ns.count k := eqk_count hi
  refine ⟨.int (ns.count k : Nat), H, I.tok _, ⟨s.toks, ?_⟩, q⟩
  show Value.int ((its.toArray.toList.countP (eqk k) : Nat) : Int) s.toks = Value.int ((ns.count k : Nat) : Int) s.toks
  rw [ec]
end
/-! ### a tuple's method: the tuple is kept as the object that was made, which has no dict -/
/-- a tuple of xs stands at p, as an object without a dict -/
def TupO (H : Hp) (p : Addr) (xs : List V) : Prop := ∃ o : Obj, o.dict = none ∧ H p = some (.frz o (.tup xs))
theorem TupO.sq {K : Frag} {H : Hp} {p : Addr} {xs : List V} (h : TupO H p xs) : SqT K H p xs := by
  obtain ⟨o, _, h⟩ := h
  exact .inl (.inr ⟨o, h⟩)
theorem TupO.same {H H' : Hp} {p : Addr} {xs : List V} (h : TupO H p xs) (s : Same H H') : TupO H' p xs := by
  obtain ⟨o, d, h⟩ := h
  exact ⟨o, d, s _ _ h⟩
theorem TupO.kp {H H' : Hp} {d p : Addr} {xs ys : List V} (h : TupO H p xs) (hd : H d = some (.lst ys)) (s : Kp [d] H H') : TupO H' p xs := by
  obtain ⟨o, e, h⟩ := h
  exact ⟨o, e, s p _ (fun z => by rw [List.mem_singleton.mp z, hd] at h; cases h) h⟩
section
open PySem.Spec PyProof.Rows
variable {X : Cx}
theorem call_tuple_ofD : CallR X (.type "tuple") (fun xs H Q => ∃ p ys, xs = [.ref p] ∧ SqL X.K H p ys ∧ ∀ (l : Addr) (o : Obj), H l = none → o.dict = none → Q (.ref l) (upd H l (.frz o (.tup ys)))) := by
  intro pins s σ H xs us Q I r h
  obtain ⟨p, ys, rfl, hq, q⟩ := h
  obtain ⟨u, rfl, rx⟩ := r.one
  cases rx
  obtain ⟨its, r', pl, hz⟩ := I.list hq
  have hlen := r'.length
  refine call_tuple_list pl.isList (fun h' kp => ?_) (by simp only [List.size_toArray] <;> omega)
  have I1 : Inv X pins σ H { s with heap := h' } := I.kept (t' := s.toks) kp
  have I2 : Inv X pins σ (upd H h'.objs.size (.frz { cls := .type "tuple", data := .seq its.toArray } (.tup ys))) { s with heap := h'.push { cls := .type "tuple", data := .seq its.toArray } } :=
    I1.laid (t' := s.toks) (fun b o e => Heap.get?_push_of_some _ e) (Nat.le_refl _) (show ObjOk X.prog X.w _ _ _ (.frz { cls := .type "tuple", data := .seq its.toArray } (.tup ys)) from ⟨Heap.get?_push_size _ rfl, hz, its, r', IsTup.new _ _⟩)
  exact ⟨.ref h'.objs.size, _, I2, rfl, q _ _ (I1.hok.fresh (Nat.le_refl _)) rfl⟩
def tBMT (r : V → List V → Hp → VK → Prop) (to : TE) (t : TA) : TE := fun σ H Q => to σ H fun x H1 => (∃ p ys, x = .ref p ∧ TupO H1 p ys) ∧ t σ H1 fun xs H2 => r x xs H2 Q
variable {o e : Expr} {es : List Expr} {to : TE} {t : TA} {name : Str} {apos cpos : Pos} {id : String} {r : V → List V → Hp → VK → Prop}
theorem pe_bmT (slot : Slot "tuple" name id) (hty : typeOf (.builtin id) = pure (.type "method_descriptor")) (hm : MtR X id r) (ho : PE X o to) (ha : PA X (e :: es) t)
    (hbase : attributeBase o name X.env (eval o X.env) = eval o X.env := by rfl)
    (hfew : ((backTo cpos (starEach (e :: es) X.env)).all (fun x => !x.1) && (backToKw cpos (keywordEach [] X.env)).all (fun x => x.1.isSome)
      && decide ((e :: es).length + ([] : List Keyword).length + (if ([] : List Keyword).isEmpty then 0 else 1) < 30)) = true := by rfl)
    (hline : (apos.endLine == cpos.line) = true := by rfl) (hs : starEach (e :: es) X.env = (false, eval e X.env) :: starEach es X.env := by rfl) (hplain : (backTo cpos (starEach es X.env)).any (·.1) = false := by rfl) :
    PE X (.Call (.Attribute o name apos) (e :: es) [] cpos) (tBMT r to t) := by
  refine ⟨fun pins s σ H Q I h => ?_⟩
  refine wpAny_Call_method_late hbase hfew hline rfl (thn (ho.run pins s σ H _ I h) fun v s1 ⟨x, H1, I1, r1, ty, q1⟩ => ?_)
  obtain ⟨p, ys, ex, ob, hd, hp⟩ := ty
  subst ex
  obtain rfl : v = Value.ref p := r1
  obtain ⟨hg, ho2⟩ := I1.hok p _ hp
  obtain ⟨_, its, rv, ob', hg', hc, _⟩ := ho2
  have e1 : ob = ob' := Option.some.inj (hg.symm.trans hg')
  subst e1
  refine ⟨"tuple", id, PySem.F.plainAttrs_tuple, slot, hty, ⟨ob, hg, hc⟩, fun a e => ?_, ?_⟩
  · cases e
    exact ⟨ob, hg, hd⟩
  have hA := ha.run cpos pins s1 σ H1 _ I1 q1
  rw [hs] at hA ⊢
  refine Calls.callWith_builtin (by show (false || (backTo cpos (starEach es X.env)).any (·.1)) = false; rw [hplain] <;> rfl) (Calls.evalArgs_plain ?_)
  exact thn hA fun us s2 ⟨vs, H2, I2, r2, q2⟩ => hm pins s2 σ H2 (.ref p) vs (.ref p) us Q I2 rfl r2 q2
end
/-- a comprehension over a tuple, each element a plain value, none left out -/
theorem lc_mapT {K : Frag} {a : Addr} {xs : List V} (f : V → V) {g : TG} {te : TE} {vs : List Nat} {σ : St} {H1 : Hp} {D : Addr} {Qd : Hp → Prop} (ha : SqT K H1 a xs) (hD : H1 D = none) (hl : xs.length ≤ 1000000)
    (hs : ∀ x H (R : V → Hp → Prop), x ∈ xs → Same H1 H → R (f x) H → g x (wipe σ vs) H fun σ2 H2 => wipe σ2 vs = wipe σ vs ∧ te σ2 H2 R) (hd : Qd (upd H1 D (.lst (xs.map f)))) :
    ∃ W : Nat → Nat → Hp → Prop, (∃ m, W 0 m (upd H1 D (.lst []))) ∧ ∀ i m H, W i m H →
      ((Itt K a).stop i H ∧ Qd H) ∨ ((Itt K a).go i H ∧ ∃ Nx : Hp → Prop, (∀ H', Nx H' → ∃ m', m' < m ∧ W (i + 1) m' H') ∧ ∀ x H', (Itt K a).yld i H x H' → g x (wipe σ vs) H' fun σ2 H2 => wipe σ2 vs = wipe σ vs ∧ tYes σ2 H2 fun b H3 =>
        if b = true then te σ2 H3 fun y H4 => ∃ acc, H4 D = some (.lst acc) ∧ acc.length < sizeLine ∧ Nx (upd H4 D (.lst (acc ++ [y]))) else Nx H3) := by
  refine lc_tup (K := K) (a := a) (xs := xs) (fun i H => H = upd H1 D (.lst ((xs.take i).map f))) rfl (fun i H _ e => ?_) ?_ ?_
  · rw [e]; exact Same.seqT (same_new hD _) ha
  · rintro i x H hx rfl
    refine hs x _ (fun y H4 => ∃ acc, H4 D = some (.lst acc) ∧ acc.length < sizeLine ∧ upd H4 D (.lst (acc ++ [y])) = upd H1 D (.lst ((xs.take (i + 1)).map f))) (List.mem_of_getElem? hx) (same_new hD _) ⟨_, upd_same, ?_, ?_⟩
    · rw [List.length_map, List.length_take]; rw [sizeLine_eq]; omega
    · rw [upd_upd, List.take_add_one, hx, List.map_append]; rfl
  · rintro H rfl
    rw [List.take_length]
    exact hd
/-- and over a list -/
theorem lc_mapL {K : Frag} {a : Addr} {xs : List V} (f : V → V) {g : TG} {te : TE} {vs : List Nat} {σ : St} {H1 : Hp} {D : Addr} {Qd : Hp → Prop} (ha : SqL K H1 a xs) (hD : H1 D = none) (hl : xs.length ≤ 1000000)
    (hs : ∀ x H (R : V → Hp → Prop), x ∈ xs → Same H1 H → R (f x) H → g x (wipe σ vs) H fun σ2 H2 => wipe σ2 vs = wipe σ vs ∧ te σ2 H2 R) (hd : Qd (upd H1 D (.lst (xs.map f)))) :
    ∃ W : Nat → Nat → Hp → Prop, (∃ m, W 0 m (upd H1 D (.lst []))) ∧ ∀ i m H, W i m H →
      ((Itl K a).stop i H ∧ Qd H) ∨ ((Itl K a).go i H ∧ ∃ Nx : Hp → Prop, (∀ H', Nx H' → ∃ m', m' < m ∧ W (i + 1) m' H') ∧ ∀ x H', (Itl K a).yld i H x H' → g x (wipe σ vs) H' fun σ2 H2 => wipe σ2 vs = wipe σ vs ∧ tYes σ2 H2 fun b H3 =>
        if b = true then te σ2 H3 fun y H4 => ∃ acc, H4 D = some (.lst acc) ∧ acc.length < sizeLine ∧ Nx (upd H4 D (.lst (acc ++ [y]))) else Nx H3) := by
  refine lc_list (K := K) (a := a) (xs := xs) (fun i H => H = upd H1 D (.lst ((xs.take i).map f))) rfl (fun i H _ e => ?_) ?_ ?_
  · rw [e]; exact Same.seq (same_new hD _) ha
  · rintro i x H hx rfl
    refine hs x _ (fun y H4 => ∃ acc, H4 D = some (.lst acc) ∧ acc.length < sizeLine ∧ upd H4 D (.lst (acc ++ [y])) = upd H1 D (.lst ((xs.take (i + 1)).map f))) (List.mem_of_getElem? hx) (same_new hD _) ⟨_, upd_same, ?_, ?_⟩
    · rw [List.length_map, List.length_take]; rw [sizeLine_eq]; omega
    · rw [upd_upd, List.take_add_one, hx, List.map_append]; rfl
  · rintro H rfl
    rw [List.take_length]
    exact hd
theorem cut_from {α : Type} (f : α → V) (xs : List α) (i : Nat) : cutV (xs.map f) (some (i : Int)) none = (xs.drop i).map f := by
  unfold cutV
  rw [HT.sIx_nat, HT.sIx_none, List.length_map, ← List.map_drop, ← List.map_take]
  congr 1
  by_cases h : i ≤ xs.length
  · rw [Nat.min_eq_left h, List.take_of_length_le (by rw [List.length_drop]; omega)]
  · rw [Nat.min_eq_right (by omega), List.drop_of_length_le (Nat.le_refl _), List.drop_of_length_le (by omega), List.take_nil]
theorem cut_upto {α : Type} (f : α → V) (xs : List α) (i : Nat) : cutV (xs.map f) none (some (i : Int)) = (xs.take i).map f := by
  unfold cutV
  rw [HT.sIx_nat, HT.sIx_none, List.length_map, ← List.map_drop, ← List.map_take, List.drop_zero, Nat.sub_zero]
  congr 1
  by_cases h : i ≤ xs.length
  · rw [Nat.min_eq_left h]
  · rw [Nat.min_eq_right (by omega), List.take_of_length_le (Nat.le_refl _), List.take_of_length_le (by omega)]
/-- a tuple's slice t[i:], as what it holds -/
theorem slT_from {K : Frag} {H : Hp} {a : Addr} {α : Type} {f : α → V} {xs : List α} {i : Nat} {Q : VK} (ha : SqT K H a (xs.map f)) (q : ∀ p H', Same H H' → SqT K H' p ((xs.drop i).map f) → Q (.ref p) H') : rSlA K (.ref a) (some (i : Int)) none H Q := by
  refine ⟨a, _, rfl, ha, fun c => ?_, fun _ p np => ?_⟩
  · have c1 := c.1
    rw [HT.sIx_nat, List.length_map] at c1
    have : xs.drop i = xs := by
      rcases Nat.eq_zero_or_pos i with h | h
      · rw [h, List.drop_zero]
      · have : xs.length = 0 := by omega
        rw [List.length_eq_zero_iff.mp this, List.drop_nil]
    refine q a H (Same.refl H) ?_
    rw [this]; exact ha
  · rw [cut_from]
    exact q p _ (same_new np _) (SqT.of upd_same)
theorem slT_fromP {K : Frag} {H : Hp} {a : Addr} {α : Type} {f : α → V} {xs : List α} {i : Nat} {Q : VK} {σ : St} (ha : SqT K H a (xs.map f)) (q : ∀ p H', Same H H' → SqT K H' p ((xs.drop i).map f) → Q (.ref p) H') : tNoPart σ H fun u H3 => rSlA K (.ref a) (some (i : Int)) u H3 Q := slT_from ha q
theorem slT_upto {K : Frag} {H : Hp} {a : Addr} {α : Type} {f : α → V} {xs : List α} {i : Nat} {Q : VK} (ha : SqT K H a (xs.map f)) (q : ∀ p H', Same H H' → SqT K H' p ((xs.take i).map f) → Q (.ref p) H') : rSlA K (.ref a) none (some (i : Int)) H Q := by
  refine ⟨a, _, rfl, ha, fun c => ?_, fun _ p np => ?_⟩
  · have c1 := c.2
    rw [HT.sIx_nat, List.length_map] at c1
    refine q a H (Same.refl H) ?_
    rw [List.take_of_length_le (by omega)]; exact ha
  · rw [cut_upto]
    exact q p _ (same_new np _) (SqT.of upd_same)
/-- two tuples' sum, by what they hold -/
theorem catT_map {K : Frag} {H : Hp} {a b : Addr} {xs ys : List V} {Q : VK} (ha : SqT K H a xs) (hb : SqT K H b ys) (hl : xs.length + ys.length ≤ 1000000)
    (q : ∀ p H', Same H H' → SqT K H' p (xs ++ ys) → Q (.ref p) H') : rCatA K (.ref a) (.ref b) H Q := by
  refine ⟨a, b, xs, ys, rfl, rfl, ha, hb, by rw [sizeLine_eq]; omega, fun e => ?_, fun _ e => ?_, fun _ _ p np => ?_⟩
  · subst e; exact q b H (Same.refl H) hb
  · subst e; exact q a H (Same.refl H) (by rw [List.append_nil]; exact ha)
  · exact q p _ (same_new np _) (SqT.of upd_same)
end Cm
namespace Cm
open PySem PySem.W L2 SX
/-! ### xs[a:] = ys, another list -/
section
open PySem.Spec PyProof.Rows
variable {prog : Program} {w : World} {A : Around} {E : Value → Shared → Prop} {s : Shared}
theorem bounds_tail {a n : Nat} (h : a ≤ n) : sliceBounds (some (a : Int)) none none n = ((a : Int), (n : Int), 1) := by
  have h1 : ¬ ((a : Int) < 0) := by omega
  simp only [sliceBounds, Option.getD_none, h1, if_false, show (1 : Int) > 0 by decide, if_true]
  congr 1; omega
theorem setItem_tail {l b sl : Addr} {items new : Array Value} {n n2 a : Nat} {vl vu : Value} {Q : Unit → Shared → Prop} (e : s.heap.get? l = some { cls := .type "list", data := .seq items n }) (e2 : s.heap.get? b = some { cls := .type "list", data := .seq new n2 })
    (hne : l ≠ b) (hs : s.heap.IsSliceOf sl vl vu .none) (pl : IsPart vl (some (a : Int))) (pu : IsPart vu none) (ha : a ≤ items.size) (hsz : items.size + new.size ≤ sizeLine)
    (h : Q () { s with heap := s.heap.update l (Obj.mapSeq fun xs => xs.extract 0 a ++ new ++ xs.extract items.size xs.size) }) : wpAny (model prog w) A (setItem (.ref l) (.ref sl) (.ref b)) Q E s := by
  have tl : s.TypeIs (.ref l) "list" := (PySem.IsL.isList e).typeIs
  have tb : s.TypeIs (.ref b) "list" := (PySem.IsL.isList e2).typeIs
  obtain ⟨os, hos, hcs, hds⟩ := id hs
  have ts : s.TypeIs (.ref sl) "slice" := ⟨os, hos, hcs⟩
  have st0 : ¬ ((rawPart none == rawInt 0) = true) := Bool.false_ne_true
  have sr : Builtin.List.listSameRef (.ref l) (.ref b) = false := by
    unfold Builtin.List.listSameRef; exact beq_eq_false_iff_ne.mpr hne
  have mx : (max (a : Int) (items.size : Int)).toNat = items.size := by omega
  have long' : ((fun xs : Array Value => xs.extract 0 a ++ new ++ xs.extract items.size xs.size) items).size ≤ sizeLine + 1 := by
    simp only [Array.size_append, Array.size_extract]; omega
  unfold setItem
  (try with_reducible refine wpAny_holding ?_); (first | refine wpAny_bind (wpAny_pure ?_) | skip)
  refine wpAny_bind (wpAny_sequenceKey tl (by decide) (wpAny_bind (wpAny_callSpecial?_slot (name := Str.ofString "__setitem__") tl slot_list_setitem (wpAny_call_entry slot_list_setitem tl entry_list_setitem ?_ (args_list_setitem _ _ _)))))
  show wpAny _ _ (Builtin.List.listSubscript? (.ref sl) >>= _) _ _ s
  refine wpAny_bind ?_; unfold Builtin.List.listSubscript?
  refine wpAny_bind (wpAny_specialOf ts slice_no_index ?_)
  simp only [Option.isNone_none, if_true]
  refine wpAny_pure ?_
  show wpAny _ _ (typeOf (.ref sl) >>= _) _ _ s
  refine wpAny_bind (wpAny_typeOf ts ?_)
  first | rw [if_neg (by decide)] | refine PySem.W.KFB.if_not (by decide) ?_
  rw [listSliceParts_eq]
  refine wpAny_bind (wpAny_bind (wpAny_field hos hds (x := .none) rfl (wpAny_bind (wpAny_listPart .none ?_)))); rw [if_neg st0]
  refine wpAny_bind (wpAny_field hos hds (x := vl) rfl (wpAny_bind (wpAny_listPart pl (wpAny_bind (wpAny_field hos hds (x := vu) rfl (wpAny_bind (wpAny_listPart pu (wpAny_pure ?_))))))))
  first | simp only [sr, Bool.false_eq_true, if_false] | refine PySem.W.KFB.if_not sr ?_ | (dsimp only; rw [if_neg (by rw [sr]; exact Bool.false_ne_true)])
  refine wpAny_bind (m := Builtin.List.listAllItems (.ref b) "must assign iterable to extended slice") ?_; unfold Builtin.List.listAllItems
  refine wpAny_bind (wpAny_typeOf tb ?_)
  first | refine PySem.W.KFB.if_so (by decide) ?_ | rw [if_pos (by decide)] | simp only [beq_self_eq_true, Bool.true_or, if_true]
  unfold Builtin.List.listItems
  refine wpAny_bind (wpAny_seqItems e2 rfl (wpAny_pure (wpAny_bind (wpAny_bind (wpAny_seqItems e rfl (wpAny_pure ?_))))))
  refine wpAny_bind (wpAny_of_eq ((sliceIndices_raw (some (a : Int)) none none items.size (by simp)).trans (congrArg (pure : Int × Int × Int → Sem (Int × Int × Int)) (bounds_tail ha))) ?_)
  show wpAny _ _ (if ((1 : Int) == 1) = true then _ else _) _ _ s
  rw [if_pos (by decide)]; refine wpAny_bind (wpAny_rule ?_)
  first | simp only [notLongL hsz, Bool.false_eq_true, if_false] | refine PySem.W.KFB.if_not (notLongL hsz) ?_
  (first | refine wpAny_bind (wpAny_pure ?_) | skip)
  show wpAny _ _ (updateSeq l (fun xs => xs.extract 0 ((a : Int)).toNat ++ new ++ xs.extract (max (a : Int) (items.size : Int)).toNat xs.size) >>= _) _ _ s
  rw [mx, Int.toNat_natCast]
  refine wpAny_bind (wpAny_updateSeq (hz := Nat.le_trans (Nat.le_add_right _ _) hsz) (_hz' := long') e rfl (wpAny_bind (wpAny_letGo ?_)))
  first | exact wpAny_bind (wpAny_pure (wpAny_pure ⟨.none, rfl, wpAny_pure h⟩)) | exact wpAny_pure ⟨.none, rfl, wpAny_pure h⟩
variable {X : Cx}
/-- o[lo:] = v -/
def gTail (to tl : TE) : TG := fun v σ H Q => to σ H fun x H1 => tl σ H1 fun y H2 => ∃ (l b : Addr) (a : Int) (xs ys : List V), x = .ref l ∧ v = .ref b ∧ y = .int a ∧ H2 l = some (.lst xs) ∧ H2 b = some (.lst ys) ∧ l ≠ b ∧ 0 ≤ a ∧ a ≤ xs.length ∧ xs.length + ys.length ≤ sizeLine ∧ Q σ (upd H2 l (.lst (xs.take a.toNat ++ ys)))
theorem pg_tail {o lo : Expr} {to tl : TE} {p2 pos : Pos} (ho : PE X o to) (hi : PE X lo tl) : PG X (.Subscript o (.Slice (some lo) none none p2) pos) (gTail to tl) := by
  refine ⟨fun pins s σ H v u Q I r h => ?_⟩
  rw [arm_assign_Subscript]
  refine wpAny_bind (wpAny_holding (thn (ho.run pins s σ H _ I h) fun ov s1 ⟨x, H1, I1, r1, q1⟩ => wpAny_bind (wpAny_holding ?_)))
  refine wpAny_Slice ?_
  rw [evalPart_some]
  refine thn (hi.run pins s1 σ H1 _ I1 q1) fun vl s2 ⟨y, H2, I2, r2, q2⟩ => ?_
  rw [evalPart_none]
  refine wpAny_pure (wpAny_pure ?_)
  obtain ⟨l, b, a, xs, ys, rfl, rfl, rfl, hl, hb, ne, a0, a1, hz, q⟩ := q2
  cases r1
  obtain rfl : u = Value.ref b := r
  obtain ⟨t, rfl⟩ := r2
  have I3 : Inv X pins σ H2 { s2 with heap := s2.heap.push { cls := .type "slice", data := .fields #[.int a t, .none, .none] } } := I2.kept (t' := s2.toks) fun b ob q => Heap.get?_push_of_some _ q
  refine wpAny_bind (wpAny_standAt (wpAny_bind (wpAny_holding ?_)))
  obtain ⟨z, its, n, rv, hln, e⟩ := I3.lstM hl
  obtain ⟨z2, its2, n2, rv2, hln2, e2⟩ := I3.lstM hb
  obtain ⟨a', rfl⟩ := Int.eq_ofNat_of_zero_le a0
  refine setItem_tail (a := a') e e2 ne (Heap.IsSliceOf.new ..) (.int _ _) .none (by rw [List.size_toArray]; omega) (by rw [List.size_toArray, List.size_toArray]; omega) (wpAny_release ⟨σ, _, ?_, q⟩)
  refine I3.lset (its' := its.take a' ++ its2) (t' := s2.toks) hl e ?_ (Vals.append (rv.take _) rv2) ?_
  · have := splice_eq its its2 a' its.length
    rw [List.drop_of_length_le (Nat.le_refl _), List.append_nil] at this
    rw [← this, List.size_toArray]
  · rw [List.length_append, List.length_take]; omega
end
end Cm
namespace Cm
open PySem PySem.W L2 SX
/-! ### shuffles by their signs -/
/-- the first n letters -/
def abc (n : Nat) : List Nat := abc8.take n
theorem abc_len {n : Nat} (h : n ≤ 8) : (abc n).length = n := by
  unfold abc; rw [List.length_take]; show min n 8 = n; omega
theorem lit_abc : ("abcdefgh" : Str) = S abc8 := by decide +kernel
/-- a shuffle's signs: n letters taken, l left -/
def shuf (n : Nat) (l : List Nat) : List Nat := abc n ++ (45 :: l)
structure Shuf (n : Nat) (l : List Nat) : Prop where
  n8 : n ≤ 8
  l12 : l.length ≤ 12
  inn : ∀ c ∈ l, c ∈ abc n
theorem abc_sub {n : Nat} {c : Nat} (h : c ∈ abc n) : c ∈ abc8 := List.mem_of_mem_take h
theorem no45 {c : Nat} (h : c ∈ abc8) : c ≠ 45 := by
  intro e; subst e; revert h; decide
theorem shuf_par {n : Nat} {l : List Nat} (h : Shuf n l) : TL.par [45] [] (shuf n l) = some (abc n, l) :=
  par_head (c := 45) (sep := []) (p := abc n) l (fun z => no45 (abc_sub z) rfl)
theorem shuf_spl {n : Nat} {l : List Nat} (h : Shuf n l) : TL.spl [45] 0 [] (shuf n l) = [abc n, l] := by
  have e := spl_free (sep := [45]) (p := abc n) l (List.cons_ne_nil _ _) (free_head (fun z => no45 (abc_sub z) rfl))
  have e2 := spl_join (c := 45) (sep := []) (parts := [l]) (List.cons_ne_nil _ _) (fun p hp => by
    rw [List.mem_singleton.mp hp]; exact fun z => no45 (abc_sub (h.inn _ z)) rfl)
  have e3 : TL.joinL [45] [l] = l := rfl
  rw [e3] at e2
  exact e.trans (by rw [e2])
theorem shuf_len {n : Nat} {l : List Nat} (h : Shuf n l) : (shuf n l).length ≤ 21 := by
  unfold shuf; rw [List.length_append, abc_len h.n8, List.length_cons]; have := h.n8; have := h.l12; omega
theorem shuf_ok {n : Nat} {l : List Nat} (h : Shuf n l) : shufB (shuf n l) = true := by
  unfold shufB
  rw [shuf_par h]
  show (decide (abc8.take (abc n).length = abc n) && (decide (l.length ≤ 12) && (l.map fun c => decide (c ∈ abc n)).all id)) = true
  rw [abc_len h.n8, decide_eq_true (show abc8.take n = abc n from rfl), decide_eq_true h.l12, Bool.true_and, Bool.true_and, List.all_eq_true]
  intro b hb
  obtain ⟨c, hc, rfl⟩ := List.mem_map.mp hb
  exact decide_eq_true (h.inn c hc)
theorem index_abc : ∀ c ∈ abc8, Txt.index0 (S abc8) (S [c]) = some (c - 97) := by decide +kernel
theorem abc_at : ∀ n ≤ 8, ∀ c ∈ abc n, c - 97 < n := by decide +kernel
/-! ### a row of shuffles as a map -/
/-- a word: how many letters are taken, and the signs that are left -/
abbrev Wd := Nat × List Nat
def wV (x : Wd) : V := .str (S (shuf x.1 x.2))
def pk (x : Wd) : List Nat := x.2.map fun c => c - 97
def Good (ws : List Wd) : Prop := ∀ x ∈ ws, Shuf x.1 x.2
theorem pk_lt {x : Wd} (h : Shuf x.1 x.2) {p : Nat} (hp : p ∈ pk x) : p < x.1 := by
  obtain ⟨c, hc, rfl⟩ := List.mem_map.mp hp
  exact abc_at x.1 h.n8 c (h.inn c hc)
theorem pk_len {x : Wd} (h : Shuf x.1 x.2) : (pk x).length ≤ 12 := by unfold pk; rw [List.length_map]; exact h.l12
theorem getD_at {l : List Int} {i : Nat} (h : i < l.length) : l.getD i 0 = l[i] := by
  rw [List.getD_eq_getElem?_getD, List.getElem?_eq_getElem h]; rfl
/-- k things more from beneath -/
def up (need : Nat) : Nat → List Int → List Int
  | 0, ts => ts
  | k + 1, ts => ((need + k : Nat) : Int) :: up need k ts
theorem up_len (need : Nat) : ∀ (k : Nat) (ts : List Int), (up need k ts).length = ts.length + k
  | 0, ts => rfl
  | k + 1, ts => by
    show (up need k ts).length + 1 = _
    rw [up_len need k ts]; omega
theorem up_add (need : Nat) : ∀ (j k : Nat) (ts : List Int), up (need + k) j (up need k ts) = up need (k + j) ts
  | 0, k, ts => rfl
  | j + 1, k, ts => by
    show ((need + k + j : Nat) : Int) :: up (need + k) j (up need k ts) = ((need + (k + j) : Nat) : Int) :: up need (k + j) ts
    rw [up_add need j k ts, Nat.add_assoc]
theorem up_mem {need : Nat} : ∀ {k : Nat} {ts : List Int}, (∀ t ∈ ts, 0 ≤ t ∧ t < need) → ∀ t ∈ up need k ts, 0 ≤ t ∧ t < ((need + k : Nat) : Int)
  | 0, ts, h, t, ht => h t ht
  | k + 1, ts, h, t, ht => by
    rcases List.mem_cons.mp ht with z | z
    · omega
    · have := up_mem h t z; omega
theorem up_take (need m : Nat) : ∀ (k : Nat) (ts : List Int), (up need k ts).take (m + k) = up need k (ts.take m)
  | 0, ts => rfl
  | k + 1, ts => by
    show List.take (m + k + 1) (((need + k : Nat) : Int) :: up need k ts) = ((need + k : Nat) : Int) :: up need k (ts.take m)
    rw [List.take_succ_cons, up_take need m k ts]
theorem up_drop (need m : Nat) : ∀ (k : Nat) (ts : List Int), (up need k ts).drop (m + k) = ts.drop m
  | 0, ts => rfl
  | k + 1, ts => by
    show List.drop (m + k + 1) (((need + k : Nat) : Int) :: up need k ts) = _
    rw [List.drop_succ_cons, up_drop need m k ts]
theorem up_append (need : Nat) : ∀ (k : Nat) (ts us : List Int), up need k (ts ++ us) = up need k ts ++ us
  | 0, ts, us => rfl
  | k + 1, ts, us => by
    show ((need + k : Nat) : Int) :: up need k (ts ++ us) = (((need + k : Nat) : Int) :: up need k ts) ++ us
    rw [up_append need k ts us]; rfl
/-- what a word leaves: taken from the last n -/
def left (n : Nat) (ps : List Nat) (us : List Int) : List Int := us.take (us.length - n) ++ ps.map fun p => (us.drop (us.length - n)).getD p 0
def wstep (st : Nat × List Int) (x : Wd) : Nat × List Int := (st.1 + (x.1 - st.2.length), left x.1 (pk x) (up st.1 (x.1 - st.2.length) st.2))
def wrun (st : Nat × List Int) (ws : List Wd) : Nat × List Int := ws.foldl wstep st
def wmap (ws : List Wd) : Nat × List Int := ((wrun (0, []) ws).1, (wrun (0, []) ws).2.map fun t => ((wrun (0, []) ws).1 : Int) - 1 - t)
theorem left_len (n : Nat) (ps : List Nat) (us : List Int) : (left n ps us).length = us.length - n + ps.length := by
  unfold left
  rw [List.length_append, List.length_map, List.length_take]; omega
theorem left_mem {n : Nat} {ps : List Nat} {us : List Int} (hn : n ≤ us.length) (hp : ∀ p ∈ ps, p < n) {t : Int} (h : t ∈ left n ps us) : t ∈ us := by
  unfold left at h
  rcases List.mem_append.mp h with z | z
  · exact List.mem_of_mem_take z
  · obtain ⟨p, hp', rfl⟩ := List.mem_map.mp z
    have hl : p < (us.drop (us.length - n)).length := by rw [List.length_drop]; have := hp p hp'; omega
    rw [getD_at hl]
    exact List.mem_of_mem_drop (List.getElem_mem hl)
/-- a state: as many as need, each thing one of these -/
structure Stt (st : Nat × List Int) (m : Nat) : Prop where
  need : st.1 ≤ 8 * m
  len : st.2.length ≤ 12 * m
  inn : ∀ t ∈ st.2, 0 ≤ t ∧ t < st.1
theorem Stt.step {st : Nat × List Int} {m : Nat} (h : Stt st m) {x : Wd} (hx : Shuf x.1 x.2) : Stt (wstep st x) (m + 1) := by
  have n8 := hx.n8
  have l12 := pk_len hx
  have hl := up_len st.1 (x.1 - st.2.length) st.2
  refine ⟨?_, ?_, ?_⟩
  · show st.1 + (x.1 - st.2.length) ≤ _
    have := h.need; omega
  · show (left x.1 (pk x) _).length ≤ _
    rw [left_len, hl]; have := h.len; omega
  · intro t ht
    exact up_mem h.inn t (left_mem (by rw [hl]; omega) (fun p hp => pk_lt hx hp) ht)
theorem Stt.run : ∀ {ws : List Wd} {st : Nat × List Int} {m : Nat}, Stt st m → Good ws → Stt (wrun st ws) (m + ws.length)
  | [], st, m, h, _ => h
  | x :: r, st, m, h, g => by
    have := Stt.run (h.step (g x (List.mem_cons_self ..))) (fun y hy => g y (List.mem_cons_of_mem _ hy))
    rw [show m + (x :: r).length = m + 1 + r.length by rw [List.length_cons]; omega]
    exact this
theorem stt0 : Stt (0, []) 0 := ⟨Nat.le_refl _, Nat.le_refl _, fun t h => nomatch h⟩
theorem wmap_ok {ws : List Wd} (g : Good ws) : (wmap ws).1 ≤ 8 * ws.length ∧ (wmap ws).2.length ≤ 12 * ws.length ∧ ∀ p ∈ (wmap ws).2, 0 ≤ p ∧ p < (wmap ws).1 := by
  have h := stt0.run g
  rw [Nat.zero_add] at h
  refine ⟨h.need, ?_, ?_⟩
  · show ((wrun (0, []) ws).2.map _).length ≤ _
    rw [List.length_map]; exact h.len
  · intro p hp
    obtain ⟨t, ht, rfl⟩ := List.mem_map.mp hp
    have := h.inn t ht
    show 0 ≤ ((wrun (0, []) ws).1 : Int) - 1 - t ∧ ((wrun (0, []) ws).1 : Int) - 1 - t < ((wrun (0, []) ws).1 : Int)
    omega
theorem wrun_need (ws : List Wd) : ∀ st : Nat × List Int, st.1 ≤ (wrun st ws).1 := by
  induction ws with
  | nil => intro st; exact Nat.le_refl _
  | cons x r ih =>
    intro st
    refine Nat.le_trans ?_ (ih (wstep st x))
    show st.1 ≤ st.1 + _
    omega
theorem wrun_append (st : Nat × List Int) (a b : List Wd) : wrun st (a ++ b) = wrun (wrun st a) b := List.foldl_append ..
/-- a state with things put beneath goes on with things beneath -/
theorem wstep_up (need k : Nat) (ts : List Int) {x : Wd} (hx : Shuf x.1 x.2) : ∃ j, wstep (need + k, up need k ts) x = ((wstep (need, ts) x).1 + j, up (wstep (need, ts) x).1 j (wstep (need, ts) x).2) := by
  have lu := up_len need k ts
  refine ⟨(k + (x.1 - (ts.length + k))) - (x.1 - ts.length), ?_⟩
  generalize ej : (k + (x.1 - (ts.length + k))) - (x.1 - ts.length) = j
  have e1 : k + (x.1 - (ts.length + k)) = (x.1 - ts.length) + j := by omega
  unfold wstep
  show (need + k + (x.1 - (up need k ts).length), left x.1 (pk x) (up (need + k) (x.1 - (up need k ts).length) (up need k ts))) = (need + (x.1 - ts.length) + j, up (need + (x.1 - ts.length)) j (left x.1 (pk x) (up need (x.1 - ts.length) ts)))
  rw [lu, up_add, e1, ← up_add]
  generalize eu : up need (x.1 - ts.length) ts = us
  have lus : us.length = ts.length + (x.1 - ts.length) := by rw [← eu, up_len]
  congr 1
  · omega
  · unfold left
    rw [up_len, show us.length + j - x.1 = us.length - x.1 + j by omega, up_take, up_drop, up_append]
theorem wrun_up : ∀ {ws : List Wd} (need k : Nat) (ts : List Int), Good ws → ∃ j, wrun (need + k, up need k ts) ws = ((wrun (need, ts) ws).1 + j, up (wrun (need, ts) ws).1 j (wrun (need, ts) ws).2)
  | [], need, k, ts, _ => ⟨k, rfl⟩
  | x :: r, need, k, ts, g => by
    obtain ⟨j, e⟩ := wstep_up need k ts (g x (List.mem_cons_self ..))
    obtain ⟨i, e2⟩ := wrun_up (ws := r) (wstep (need, ts) x).1 j (wstep (need, ts) x).2 (fun y hy => g y (List.mem_cons_of_mem _ hy))
    refine ⟨i, ?_⟩
    show wrun (wstep (need + k, up need k ts) x) r = _
    rw [e, e2]; rfl
theorem up_moreM (N : Nat) : ∀ (j : Nat) (T : List Int), (up N j T).map (fun t => ((N + j : Nat) : Int) - 1 - t) = moreM j (T.map fun t => (N : Int) - 1 - t) := by
  intro j T
  have h1 : ∀ (i : Nat) (T : List Int), (up N i T) = (up N i []) ++ T := fun i T => by
    have := up_append N i [] T
    rw [List.nil_append] at this; exact this
  rw [h1, List.map_append]
  unfold moreM
  congr 1
  · have : ∀ i, i ≤ j → (up N i []).map (fun t => ((N + j : Nat) : Int) - 1 - t) = (nums j).drop (j - i) := by
      intro i
      induction i with
      | zero =>
        intro _
        rw [Nat.sub_zero, List.drop_of_length_le (by rw [nums_length]; exact Nat.le_refl _)]; rfl
      | succ i ih =>
        intro hi
        show (((N + j : Nat) : Int) - 1 - ((N + i : Nat) : Int)) :: (up N i []).map _ = _
        rw [ih (by omega)]
        have hl : j - (i + 1) < (nums j).length := by rw [nums_length]; omega
        rw [List.drop_eq_getElem_cons hl]
        congr 1
        · have := nums_get (m := j) (i := j - (i + 1)) (by omega)
          rw [List.getElem?_eq_getElem hl] at this
          rw [Option.some.inj this]; omega
        · congr 1; omega
    have h := this j (Nat.le_refl _)
    rw [Nat.sub_self, List.drop_zero] at h
    exact h
  · rw [List.map_map]
    congr 1
    funext t
    show ((N + j : Nat) : Int) - 1 - t = (N : Int) - 1 - t + (j : Int)
    omega
/-- a shuffle that leaves things as they lie -/
def Still (x : Wd) : Prop := pk x = List.range x.1
theorem wstep_still (st : Nat × List Int) {x : Wd} (h : Still x) : wstep st x = (st.1 + (x.1 - st.2.length), up st.1 (x.1 - st.2.length) st.2) := by
  unfold wstep
  congr 1
  have hl := up_len st.1 (x.1 - st.2.length) st.2
  generalize up st.1 (x.1 - st.2.length) st.2 = us at hl
  unfold left
  rw [h]
  have e : (List.range x.1).map (fun p => (us.drop (us.length - x.1)).getD p 0) = us.drop (us.length - x.1) := by
    apply List.ext_getElem
    · rw [List.length_map, List.length_range, List.length_drop]; omega
    · intro i h1 h2
      rw [List.getElem_map, List.getElem_range, getD_at h2]
  rw [e, List.take_append_drop]
/-- a word that does nothing, put in: the map with things beneath -/
theorem wmap_still {a b : List Wd} {x : Wd} (h : Still x) (gb : Good b) : ∃ j, wmap (a ++ x :: b) = ((wmap (a ++ b)).1 + j, moreM j (wmap (a ++ b)).2) := by
  have e1 : wrun (0, []) (a ++ x :: b) = wrun (wstep (wrun (0, []) a) x) b := by
    rw [wrun_append]; rfl
  have e2 : wrun (0, []) (a ++ b) = wrun (wrun (0, []) a) b := wrun_append ..
  rw [wstep_still _ h] at e1
  obtain ⟨j, ej⟩ := wrun_up (ws := b) (wrun (0, []) a).1 (x.1 - (wrun (0, []) a).2.length) (wrun (0, []) a).2 gb
  rw [ej] at e1
  refine ⟨j, ?_⟩
  unfold wmap
  rw [e1, e2]
  show (_, List.map _ (up _ j _)) = _
  rw [up_moreM]
theorem wmap_need (a b : List Wd) : (wmap a).1 ≤ (wmap (a ++ b)).1 := by
  show (wrun (0, []) a).1 ≤ (wrun (0, []) (a ++ b)).1
  rw [wrun_append]
  exact wrun_need b _
end Cm
namespace Cm
open PySem PySem.W L2 SX
section
open PySem.Spec PyProof.Rows
theorem mul_one (l : Addr) (items : Array Value) (n : Nat) (dd : Option Addr) (sl : Array (Option Value)) (u : Tok) :
    Meets (Builtin.«tuple.__mul__» ⟨[.ref l, .int 1 u], []⟩) (fun _ R s => s.heap.get? l = some { cls := .type "tuple", dict := dd, data := .seq items n, slots := sl } ∧ R (.ok (.ret (Value.ref l))) s) :=
  .of_wp fun prog w A R s h => by
    obtain ⟨hp, g, d, tk, os⟩ := s
    obtain ⟨hl, h⟩ := h
    have f1 := AutoSeq1.idx_int
    have c0 : (decide ((1 : Int) < -(2 ^ 63)) || decide ((1 : Int) ≥ 2 ^ 63)) = false := by decide
    have c1 : (items.isEmpty || (1 : Int) == 1) = true := by rw [Bool.or_eq_true]; exact .inr rfl
    wp_walk using wpAny_loadPart' hl
    repeat (first
      | (refine wpAny_ite_false (decide_eq_false (by rw [c0]; exact Bool.false_ne_true)) ?_; wp_walk using wpAny_loadPart' hl)
      | (refine wpAny_ite_true (decide_eq_true c1) ?_; wp_walk using wpAny_loadPart' hl))
    exact ⟨_, rfl, h⟩
theorem mul_none (l : Addr) (items : Array Value) (n : Nat) (dd : Option Addr) (sl : Array (Option Value)) (u : Tok) (hi : items.isEmpty = false) :
    Meets (Builtin.«tuple.__mul__» ⟨[.ref l, .int 0 u], []⟩) (fun _ R s => s.heap.get? l = some { cls := .type "tuple", dict := dd, data := .seq items n, slots := sl } ∧
      R (.ok (.ret (Value.ref s.heap.objs.size))) { s with heap := s.heap.push { cls := Value.type "tuple", data := Data.seq #[] }, toks := s.toks }) :=
  .of_wp fun prog w A R s h => by
    obtain ⟨hp, g, d, tk, os⟩ := s
    obtain ⟨hl, h⟩ := h
    have f1 := AutoSeq1.idx_int
    have c0 : (decide ((0 : Int) < -(2 ^ 63)) || decide ((0 : Int) ≥ 2 ^ 63)) = false := by decide
    have c1 : (items.isEmpty || (0 : Int) == 1) = false := by rw [hi]; rfl
    have c2 : (decide ((0 : Int) ≤ 0) || items.isEmpty) = true := by rw [Bool.or_eq_true]; exact .inl rfl
    wp_walk using wpAny_loadPart' hl
    repeat (first
      | (refine wpAny_ite_false (decide_eq_false (by rw [c0]; exact Bool.false_ne_true)) ?_; wp_walk using wpAny_loadPart' hl)
      | (refine wpAny_ite_false (decide_eq_false (by rw [c1]; exact Bool.false_ne_true)) ?_; wp_walk using wpAny_loadPart' hl)
      | (refine wpAny_ite_true (decide_eq_true c2) ?_; wp_walk using wpAny_loadPart' hl))
    exact ⟨_, rfl, h⟩
/-- t * k, k from 0 on -/
def rRepA (K : PySem.W.Frag) : R2 := fun x y H Q => ∃ (l : Addr) (k : Int) (xs : List V), x = .ref l ∧ y = .int k ∧ SqT K H l xs ∧ xs ≠ [] ∧ 0 ≤ k ∧ k ≤ 1000 ∧ xs.length ≤ 1000 ∧ ∀ (p : Addr) (H' : Hp), Same H H' → SqT K H' p (List.replicate k.toNat xs).flatten → Q (.ref p) H'
variable {X : Cx}
theorem op_repA : OpR X (binaryOp .Mult) (rRepA X.K) := by
  intro pins s σ H x y v u Q I rx ry h
  obtain ⟨l, k, xs, rfl, rfl, hT, hne, h1, h2, hz, q⟩ := h
  by_cases hk : 2 ≤ k
  · exact op_repT pins s σ H _ _ v u Q I rx ry ⟨l, k, xs, rfl, rfl, hT, hne, hk, h2, hz, fun p np => q p _ (same_new np _) (SqT.of upd_same)⟩
  cases rx
  obtain ⟨t, rfl⟩ := ry
  obtain ⟨its, r, ⟨⟨cls, dd, data, sl⟩, ho, hc, n, hd⟩, hs⟩ := I.tuple hT
  simp only at hc hd
  subst hc hd
  have hle : its.length = xs.length := r.length.symm
  have hi : its.toArray.isEmpty = false := by
    cases its with
    | nil => exact absurd (List.eq_nil_of_length_eq_zero hle.symm) hne
    | cons a b => rfl
  have road : ∀ (k : Int) (t : Tok) (R : Value → Shared → Prop), wpAny (model X.prog X.w) X.A (call (.builtin "tuple.__mul__") [.ref l, .int k t]) R X.xe s → wpAny (model X.prog X.w) X.A (binaryOp .Mult (.ref l) (.int k t)) R X.xe s := fun k t R hc =>
    wpAny_binaryOp_repeat_ref (T := "tuple") (U := "int") (by decide) ⟨_, ho, rfl⟩ (fun s' => typeIs_int s' k t) noFill_tuple_mul F.fills_int_mul F.slot_int_rmul repeat_tuple F.slot_int_index.lookup
      (call_meets F.slot_int_rmul (typeIs_int s k t) F.entry_int_rmul (F.args_int_rmul_2 _ _) (int_rmul_tuple k t l its.toArray n dd sl) ⟨ho, rfl, ⟨_, ho, rfl⟩, hc⟩)
  rcases (show k = 0 ∨ k = 1 by omega) with rfl | rfl
  · refine road 0 t _ (call_meets F.slot_tuple_mul ⟨_, ho, rfl⟩ F.entry_tuple_mul (F.args_tuple_mul_2 _ _) (mul_none l its.toArray n dd sl t hi) ⟨ho, ?_⟩)
    refine ⟨.ref s.heap.objs.size, _, I.laid (t' := s.toks) (o := .tup []) (fun b ob q => Heap.get?_push_of_some _ q) (Nat.le_refl _) ?_, rfl, q _ _ (same_new (I.hok.fresh (Nat.le_refl _)) _) (SqT.of upd_same)⟩
    exact ⟨Nat.zero_le _, [], .nil, IsTup.new _ _⟩
  · refine road 1 t _ (call_meets F.slot_tuple_mul ⟨_, ho, rfl⟩ F.entry_tuple_mul (F.args_tuple_mul_2 _ _) (mul_one l its.toArray n dd sl t) ⟨ho, ?_⟩)
    refine ⟨.ref l, H, I, rfl, q l H (Same.refl H) ?_⟩
    rw [show ((1 : Int).toNat) = 1 from rfl, List.replicate_one, List.flatten_singleton]
    exact hT
end
end Cm
namespace Cm
open PySem PySem.W L2 SX
/-! ### isinstance of a caught error, its class and dict told by the reading -/
def rIsEc (K : PySem.W.Frag) (D a : Addr) (cls : Value) (d : Option Addr) : List V → Hp → VK → Prop := fun xs H Q => cls = .ref D ∧ d = none ∧ rIsE K D a xs H Q
/-- isinstance(e, (c1, ..)) -/
def rIsEt (K : PySem.W.Frag) (D a : Addr) (cls : Value) (d : Option Addr) : List V → Hp → VK → Prop := fun xs H Q => cls = .ref D ∧ d = none ∧
  ∃ (tp : Addr) (cs : List V) (us : List Value) (b : Bool), xs = [.ref a, .ref tp] ∧ H tp = some (.tup cs) ∧ Paired ClsV cs us ∧ PySem.W.kitAny K (.ref D) us = some b ∧ Q (.bl b) H
section
open PySem.Spec PyProof.Rows
variable {X : Cx} {a D : Addr} {oe : Obj} {cls : Value} {d : Option Addr} {pn : List (Addr × Obj)}
theorem call_isEc (C : ExcC X.K D) (hz : Zc cls d oe) (hf : ∃ vs, oe.data = .fields vs) : CallR (X.suite a ((a, oe) :: pn)) (.builtin "isinstance") (rIsEc X.K D a cls d) := by
  intro pins s σ H xs us Q I r h
  obtain ⟨rfl, rfl, h⟩ := h
  exact call_isE C hz hf pins s σ H xs us Q I r h
theorem call_isEt (C : ExcC X.K D) (hz : Zc cls d oe) (hf : ∃ vs, oe.data = .fields vs) : CallR (X.suite a ((a, oe) :: pn)) (.builtin "isinstance") (rIsEt X.K D a cls d) := by
  intro pins s σ H xs us Q I r h
  obtain ⟨rfl, rfl, tp, cs, ws, b, rfl, hT, k, e, q⟩ := h
  obtain ⟨u1, u2, rfl, r1, r2⟩ := r.two
  cases r1
  cases (show u2 = Value.ref tp from r2)
  obtain ⟨hget, _⟩ := I.pin (a, oe) (List.mem_append.mpr (.inl List.mem_cons_self))
  obtain ⟨vs, hv⟩ := hf
  have J : PySem.W.InstAt s.heap a oe D none := by
    obtain ⟨oc, od, oda, osl⟩ := oe
    obtain ⟨h1, h2⟩ := hz
    dsimp only at h1 h2 hv
    subst h1 h2 hv
    exact ⟨hget, rfl, rfl, trivial⟩
  obtain ⟨_, its, rv, o, h1, h2, n, h3⟩ := (show ObjOk X.prog X.w H s.heap tp (.tup cs) from I.hok tp _ hT)
  have e3 := ClsV.all k rv
  subst e3
  obtain ⟨oc, od, dt, sl⟩ := o
  simp only at h2 h3
  subst h2 h3
  exact PySem.W.kia_tup (PySem.W.handS_kitx_exc C.hg C.hk C.hs C.hd C.ha C.hn C.ht C.hm) I.kIn J h1 e (fun z => nomatch z) fun tk => ⟨.bl b, H, I.kept (t' := tk) fun _ _ z => z, rfl, q⟩
end
end Cm
/-! an error that is caught and held beyond its suite: behind the suite its place is told by what its object is -/
namespace Cm
open PySem PySem.W L2 SX
/-- an error of the class cls, with the dict d, stands at a -/
def ExcAt (a : Addr) (cls : Value) (d : Option Addr) : Heap → Prop := fun h => ∃ oe vs, h.get? a = some oe ∧ Zc cls d oe ∧ oe.data = .fields vs
def eOb (a : Addr) (cls : Value) (d : Option Addr) : HO := .ext (ExcAt a cls d)
theorem eOb_ok {P : Program} {w : World} {H : Hp} {h : Heap} {a : Addr} {cls : Value} {d : Option Addr} {oe : Obj} {vs : Array Value} (e : h.get? a = some oe) (z : Zc cls d oe) (f : oe.data = .fields vs) : ObjOk P w H h a (eOb a cls d) :=
  ⟨⟨oe, vs, e, z, f⟩, ⟨oe, e⟩, fun h1 h2 ⟨o1, v1, e1, z1, f1⟩ k => ⟨o1, v1, k _ e1, z1, f1⟩⟩
section
open PySem.Spec PyProof.Rows
variable {X : Cx} {pins : List (Addr × Obj)} {σ : L2.St} {H : Hp} {s : Shared}
/-- what was not told is told from now on -/
theorem track {a : Addr} {o : HO} (I : Inv X pins σ H s) (na : H a = none) (h0 : ∀ u, X.s_0.heap.get? a = some u → a ∈ X.ex) (nL : a ≠ X.env.locals) (nC : ∀ x c, X.env.cells.lookup x = some c → c ≠ a) (np : ∀ p ∈ X.pn ++ pins, p.1 ≠ a)
    (new : ObjOk X.prog X.w (upd H a o) s.heap a o) : Inv X pins σ (upd H a o) s where
  ok := I.ok
  os := I.os
  bare := I.bare
  base :=
    { keep := I.base.keep
      slot := I.base.slot
      free := fun b u e n hx => by
        by_cases hb : b = a
        · subst hb; exact absurd (h0 u e) hx
        · rw [upd_ne hb]; exact I.base.free b u e n hx
      there := I.base.there
      tups := fun b xs q => by rw [upd_ne (ne_of_none (I.base.tups b xs q) na)]; exact I.base.tups b xs q
      frzs := fun b u x q => by rw [upd_ne (ne_of_none (I.base.frzs b u x q) na)]; exact I.base.frzs b u x q
      tbls := fun b ps q => by
        obtain ⟨more, hm⟩ := I.base.tbls b ps q
        exact ⟨more, by rw [upd_ne (ne_of_none hm na)]; exact hm⟩ }
  loc := I.loc
  cell := I.cell
  free := by rw [upd_ne nL.symm]; exact I.free
  freeC := fun x c e => by rw [upd_ne (nC x c e)]; exact I.freeC x c e
  pin := fun p hp => by
    obtain ⟨h1, h2, h3⟩ := I.pin p hp
    exact ⟨h1, by rw [upd_ne (np p hp)]; exact h2, h3⟩
  hok := fun b u e => by
    by_cases hb : b = a
    · subst hb; rw [upd_same] at e; cases e; exact new
    · rw [upd_ne hb] at e
      exact (I.hok b u e).stay (fun _ _ _ q => q) (fun c q => by rw [upd_ne (ne_of_none q na)]; exact q) fun c xs q => by rw [upd_ne (ne_of_none q na)]; exact q
  len := I.len
/-- what the clause wishes of an error of the body: as in wAs, and behind the suite the error stays told -/
def wHold (K : PySem.W.Frag) (c : Value) (i : Nat) (ts : Addr → Value → Option Addr → TS) (Wout : WX) (D : Ends) : WX := fun cls d σ H =>
  ∃ b, PySem.W.exmOne K cls c = some b ∧ (b = true → ∀ a, H a = none → ts a cls d { nx := fun σ' H' => H' a = none → D.nx (σ'.set i none) (upd H' a (eOb a cls d)), rt := D.rt, bk := fun σ' H' => D.bk (σ'.set i none) H', ct := fun σ' H' => D.ct (σ'.set i none) H' } (σ.set i (some (.ref a))) H) ∧ (b = false → Wout cls d σ H)
variable {x n : Str} {c : Value} {i : Nat} {body suite : List Stmt} {b₀ : Stmt} {np pos pos' : Pos} {tb : WX → TS} {ts : Addr → Value → Option Addr → TS} {Wout : WX}
theorem ps_try_hold (hs : X.stack = X.env :: X.outer) (hf : X.env.frame = some X.env.locals) (hN : X.N.Nodup) (hi : X.N[i]? = some n) (hln : X.env.kindOf n = some .local) (hc : Names X x c) (tk : Takes X Wout)
    (hb : ∀ (W : WX) (pn : List (Addr × Obj)) (xe : Value → Shared → Prop), Takes (X.tr pn xe) W → PassesOwn (model X.prog X.w) X.A X.env xe → PSs (X.tr pn xe) body (tb W)) (hsu : ∀ (a : Addr) (oe : Obj) (cls : Value) (d : Option Addr) (pn : List (Addr × Obj)), Zc cls d oe → (∃ vs, oe.data = .fields vs) → PSs (X.suite a ((a, oe) :: pn)) (b₀ :: suite) (ts a cls d)) :
    PS X (.Try body [.ExceptHandler (some (.Name x np)) (some n) (b₀ :: suite) pos'] [] [] pos) (fun D σ H => tb (wHold X.K c i ts Wout D) D σ H) := by
  refine ⟨fun pins s σ H D I h => ?_⟩
  have ok := I.ok
  have frm : X.A.frames = some (X.env :: X.outer) := by rw [ok.frames, hs]
  refine wpAny_Try_except (wpAny_mono ((hb (wHold X.K c i ts Wout D) (X.pn ++ pins) (fun e s₁ => wpAny (model X.prog X.w) X.A (noteFrame e X.env) (fun _ s₂ => wpAny (model X.prog X.w) X.A (setFlight e none) (fun _ s₃ => wpAny (model X.prog X.w) X.A (handleBy e X.env [.ExceptHandler (some (.Name x np)) (some n) (b₀ :: suite) pos']) (SP X pins D) X.xe s₃) X.xe s₂) X.xe s₁) (fun u s' xx => ?_) PassesOwn.looking).run [] s σ H D (I.toTry _) h) (fun f s1 hsp => ?_) (fun e s1 he => he))
  · obtain ⟨a, B, sI, pins', σ', H', cls, d, rfl, JT, nb, up, sky, na, os, ag, b, hb1, hyes, hno⟩ := xx
    have J : Inv X pins σ' H' sI := JT.ofTry ok
    have sk : Sky B (X.env :: X.outer) a (Zc cls d) X.env.locals s'.heap := by rw [← hs]; exact sky
    show wpAny (model X.prog X.w) X.A (noteFrame (.ref a) X.env) _ _ _
    refine Sky.land Zc.steady frm hf sk fun h3 fl3 up3 => ?_
    have J3 : Inv X pins σ' H' { s' with heap := h3 } := J.landed nb fl3.1 (up.trans up3) os ag
    obtain ⟨oe3, vs3, he3, hz3, hd3⟩ := fl3.there
    have nfr : a ∉ frs (X.env :: X.outer) := fun hm => by
      obtain ⟨_, o', e', hnf⟩ := fl3.2.2.1.mem hm
      rw [he3] at e'; cases e'; exact hnf _ hd3
    have nL : a ≠ X.env.locals := fun z => nfr (List.mem_filterMap.mpr ⟨X.env, List.mem_cons_self, by rw [hf, z]⟩)
    have nF : a ∉ X.fs := fun hm => by
      obtain ⟨e, he, q⟩ := List.mem_filterMap.mp hm; exact nfr (List.mem_filterMap.mpr ⟨e, List.mem_cons_of_mem _ he, q⟩)
    have nI : ∀ u, sI.heap.get? a = some u → False := fun u e => by
      have q := nb a u e (by rw [hs]; exact nfr)
      rw [fl3.2.1] at q; cases q
    have h0 : ∀ u, X.s_0.heap.get? a = some u → a ∈ X.ex := fun u e => Classical.byContradiction fun hx => by
      obtain ⟨o', e'⟩ := J.base.there a u e hx; exact nI _ e'
    have nC : ∀ x c, X.env.cells.lookup x = some c → c ≠ a := fun x c e z => by
      obtain ⟨v, o, e', _⟩ := J.cell x c e; rw [z] at e'; exact nI _ e'
    have nP : ∀ p ∈ X.pn ++ pins, p.1 ≠ a := fun p hp z => by
      have e' := (J.pin p hp).1; rw [z] at e'; exact nI _ e'
    have S3 := J3.suite he3 hd3 na nL nF
    refine wpAny_handleBy_cons (codeAny_handlers_test ?_) (by intro q; cases q)
    have LT : PySem.W.Looks (model X.prog X.w) h3 (typeOf (.ref a)) cls := fun A Q E s k q => wpAny_typeOf_ref (k _ _ he3) (by rw [hz3.1]; exact q)
    have LM := PySem.W.exm_one (M := model X.prog X.w) (J3.kIn) LT hb1
    have test : ∀ {Q : Value → Shared → Prop} {E : Value → Shared → Prop}, Q c { s' with heap := h3 } → wpAny (model X.prog X.w) (X.A.mark (some (.ref a))) (eval (.Name x np) X.env) Q E { s' with heap := h3 } := fun {Q E} q => by
      obtain ⟨hg, hdbg, hm | ⟨hm, hv, hnn⟩⟩ := hc
      · exact ld_glob (X := X.suite a ((a, oe3) :: (X.pn ++ pins))) S3 hg hm q hdbg
      · exact ld_blt (X := X.suite a ((a, oe3) :: (X.pn ++ pins))) S3 hg hm hv q hnn hdbg
    refine test (LM.here ?_)
    cases b with
    | true =>
      refine codeAny_handlers_suite_as (HandSPX.lands_againZ fl3 fun h4 fl4 up4 => ?_)
      have J4 : Inv X pins σ' H' { s' with heap := h4 } := J.landed nb fl4.1 ((up.trans up3).trans up4) os ag
      obtain ⟨oe4, vs4, he4, hz4, hd4⟩ := fl4.there
      refine store_ok (X := X.suite a ((a, oe4) :: (X.pn ++ pins))) (v := .ref a) (J4.suite he4 hd4 na nL nF) hN hi (.inl hln) rfl (fun s5 S5 => ?_) (.inr hln)
      refine wpAny_mono ((hsu a oe4 cls d (X.pn ++ pins) hz4 ⟨_, hd4⟩).run [] s5 _ H' _ S5 (hyes rfl a na)) (fun f s6 hsp => ?_) (fun _ _ z => False.elim z)
      have tell : ∀ {σ6 : L2.St} {H6 : Hp}, Inv (X.suite a ((a, oe4) :: (X.pn ++ pins))) [] σ6 H6 s6 → H6 a = none ∧ Inv X pins σ6 (upd H6 a (eOb a cls d)) s6 := fun {σ6 H6} S6 => by
        obtain ⟨g6, n6, _⟩ := S6.pin (a, oe4) (List.mem_append_left _ List.mem_cons_self)
        exact ⟨n6, track (S6.unsuite ok) n6 h0 nL nC nP (eOb_ok g6 hz4 hd4)⟩
      cases f with
      | next =>
        obtain ⟨σ6, H6, S6, q6⟩ := hsp
        obtain ⟨n6, T6⟩ := tell S6
        exact gone_ok T6 hN hi hln fun s7 J7 => ⟨_, _, J7, q6 n6⟩
      | brk => obtain ⟨σ6, H6, S6, q6⟩ := hsp; exact gone_ok (S6.unsuite ok) hN hi hln fun s7 J7 => ⟨_, _, J7, q6⟩
      | cont => obtain ⟨σ6, H6, S6, q6⟩ := hsp; exact gone_ok (S6.unsuite ok) hN hi hln fun s7 J7 => ⟨_, _, J7, q6⟩
      | ret u => obtain ⟨v6, σ6, H6, S6, r6, q6⟩ := hsp; exact gone_ok (S6.unsuite ok) hN hi hln fun s7 J7 => ⟨_, _, _, J7, r6, q6⟩
    | false =>
      show wpAny _ X.A (handleBy (.ref a) X.env []) _ _ _
      refine wpAny_handleBy_nil ?_
      obtain ⟨_, _, _, oe, vs, T, oT, ts', he, hz, hd, h1, hr⟩ := id fl3
      unfold PySem.passOn
      refine wpAny_bind (wpAny_field he hd h1 ?_); rw [if_neg (show ¬ ((Value.ref T == Value.none) = true) from by simp)]
      have fin : wpAny (model X.prog X.w) X.A (setFlight (.ref a) X.env.frame) (fun _ s4 => wpAny (model X.prog X.w) X.A (throw (.ref a) : Sem Flow) (SP X pins D) X.xe s4) X.xe { s' with heap := h3 } := by
        rw [hf]; exact HandSPX.setFlight_upZ fl3 fun h4 hh4 up4 => wpAny_throw (tk _ _ ⟨a, B, sI, pins, σ', H', cls, d, rfl, J, nb, (up.trans up3).trans up4, .inr (.inr (by rw [hs]; exact hh4)), na, os, ag, hno rfl⟩)
      first | exact wpAny_bind (wpAny_pure (wpAny_bind fin)) | exact wpAny_bind fin
  · cases f with
    | next => obtain ⟨σ', H', J', q⟩ := hsp; exact wpAny_execs_nil ⟨σ', H', J'.ofTry ok, q⟩
    | brk => obtain ⟨σ', H', J', q⟩ := hsp; exact ⟨σ', H', J'.ofTry ok, q⟩
    | cont => obtain ⟨σ', H', J', q⟩ := hsp; exact ⟨σ', H', J'.ofTry ok, q⟩
    | ret u => obtain ⟨v, σ', H', J', r, q⟩ := hsp; exact ⟨v, σ', H', J'.ofTry ok, r, q⟩
/-! ### isinstance of an error that is held -/
def rIsH (K : PySem.W.Frag) : List V → Hp → VK → Prop := fun xs H Q => ∃ (a D : Addr) (c : V) (cv : Value) (b : Bool), xs = [.ref a, c] ∧ ExcC K D ∧ H a = some (eOb a (.ref D) none) ∧ (∀ u, RelV c u → u = cv) ∧ PySem.W.kitOne K (.ref D) cv = some b ∧ Q (.bl b) H
def rIsHt (K : PySem.W.Frag) : List V → Hp → VK → Prop := fun xs H Q => ∃ (a D tp : Addr) (cs : List V) (us : List Value) (b : Bool), xs = [.ref a, .ref tp] ∧ ExcC K D ∧ H a = some (eOb a (.ref D) none) ∧ H tp = some (.tup cs) ∧ Paired ClsV cs us ∧ PySem.W.kitAny K (.ref D) us = some b ∧ Q (.bl b) H
theorem eOb_inst {P : Program} {w : World} {h : Heap} {a D : Addr} (x : ObjOk P w H h a (eOb a (.ref D) none)) : ∃ oe, PySem.W.InstAt h a oe D none := by
  obtain ⟨⟨oe, vs, e, z, f⟩, _⟩ := x
  obtain ⟨oc, od, oda, osl⟩ := oe
  obtain ⟨h1, h2⟩ := z
  dsimp only at h1 h2 f
  subst h1 h2 f
  exact ⟨_, e, rfl, rfl, trivial⟩
theorem call_isH : CallR X (.builtin "isinstance") (rIsH X.K) := by
  intro pins s σ H xs us Q I r h
  obtain ⟨a, D, c, cv, b, rfl, C, ha, hcv, e, q⟩ := h
  obtain ⟨u1, u2, rfl, r1, r2⟩ := r.two
  cases r1
  have ec := hcv _ r2
  subst ec
  obtain ⟨oe, J⟩ := eOb_inst (I.hok a _ ha)
  exact PySem.W.kia_one (PySem.W.handS_kitx_exc C.hg C.hk C.hs C.hd C.ha C.hn C.ht C.hm) I.kIn J e (fun z => nomatch z) fun tk => ⟨.bl b, H, I.tok tk, rfl, q⟩
theorem call_isHt : CallR X (.builtin "isinstance") (rIsHt X.K) := by
  intro pins s σ H xs us Q I r h
  obtain ⟨a, D, tp, cs, ws, b, rfl, C, ha, hT, k, e, q⟩ := h
  obtain ⟨u1, u2, rfl, r1, r2⟩ := r.two
  cases r1
  cases (show u2 = Value.ref tp from r2)
  obtain ⟨oe, J⟩ := eOb_inst (I.hok a _ ha)
  obtain ⟨_, its, rv, o, h1, h2, n, h3⟩ := (show ObjOk X.prog X.w H s.heap tp (.tup cs) from I.hok tp _ hT)
  have e3 := ClsV.all k rv
  subst e3
  obtain ⟨oc, od, dt, sl⟩ := o
  simp only at h2 h3
  subst h2 h3
  exact PySem.W.kia_tup (PySem.W.handS_kitx_exc C.hg C.hk C.hs C.hd C.ha C.hn C.ht C.hm) I.kIn J h1 e (fun z => nomatch z) fun tk => ⟨.bl b, H, I.tok tk, rfl, q⟩
end
end Cm
set_option maxHeartbeats 2000000
/-! CmGuard: defs whose body asks for repr of nested data: the promise holds where no repr is under way (A.guards = some []). -/
namespace Cm
open PySem PySem.Spec PyProof.Rows L2 SX

/-- a def's promise where no repr is under way -/
structure FnG (P : Program) (w : World) (K : PySem.W.Frag) (mg : Str → Option Value) (base : Heap) (CX : CXT) (k : Nat) (f : Addr) (fd : FuncData) (ps : List Str) (sp : Sp) : Prop where
  len : ∀ vs H Q E, sp vs H Q E → vs.length = ps.length
  run : ∀ (A : Around) (outer : List Env) (s : Shared) (H : Hp) (args : Args) (us : List Value) (vs : List V) (Q : VK) (E : XK), A.guards = some [] → Room k A → Env0 P w K mg base A outer s H → BindsTo s fd args (ps.zip us) → Vals vs us → sp vs H Q E →
    codeAny (model P w) A (.call (.ref f) args) (CR CX outer P w H s Q E) s

theorem fnG_of {CX : CXT} {P : Program} {w : World} {K : PySem.W.Frag} {mg : Str → Option Value} {base : Heap} {k : Nat} {f : Addr} {name qual : Str} {params : Arguments} {body : List Stmt} {scope : Scope} {dV kV doc pm cdv ct oc : Value} {an od : Option Addr}
    {osl : Array (Option Value)} {N ps : List Str} {sp : Sp} (lk : K.lookup f = some ⟨oc, od, .func (PySem.W.fnOf name qual params body scope dV kV doc pm an cdv ct), osl⟩) (hcd : PySem.W.codeIn K cdv qual = true) (S : FnScope N ps scope)
    (len : ∀ vs H Q E, sp vs H Q E → vs.length = ps.length)
    (hbody : ∀ (A : Around) (outer : List Env) (s : Shared) (H : Hp) (vs : List V) (Q : VK) (E : XK), A.guards = some [] → Room k (A.deeper (envOfC qual scope s.heap.objs.size f cdv)) → sp vs H Q E →
      ∃ t, PSs (cxOf CX P w K mg base N qual scope f cdv A outer s H E) body t ∧ t { nx := fun _ H' => Q .non H', rt := Q } (start N vs) H) :
    FnG P w K mg base CX (k + 1) f (PySem.W.fnOf name qual params body scope dV kV doc pm an cdv ct) ps sp where
  len := len
  run A outer s H args us vs Q E hgd hr e0 hb r hsp := by
    have KX : K.In s.heap := e0.mod.kin.keeps fun b o e => (e0.bs b o e).1
    have lim : s.heap.NoLimit := e0.mod.nolimit.keeps fun b o e => (e0.bs b o e).1
    refine codeAny_call_function hr.depth (KX _ _ lk) rfl S.co S.gen rfl (PySem.W.codeRec_of KX hcd) (hb _ _ _ _ ?_)
    refine wpAny_newFunctionEnv_cells S.kind (fun y hy => (S.par y.1 (List.of_mem_zip (show (y.1, y.2) ∈ _ from hy)).1).imp id fun q => ⟨q, PySem.W.cellsFrom_some _ _ _ (.inl q)⟩) fun env he s1 x => ?_
    subst he
    obtain ⟨t, ht, hq⟩ := hbody A outer s H vs Q E hgd (hr.deeper _) hsp
    refine ⟨lim.keeps x.toInCall.keep, codeAny_func (wpAny_mono (ht.run [] s1 (start N vs) H _ (inv_start S hr.hd e0 (len _ _ _ _ hsp) r x) hq) (fun fl s' hs => ?_) fun e s' hs => hs)⟩
    match fl, hs with
    | .ret _, ⟨v, _, H', J, rv, q⟩ => exact ⟨v, H', J.os, J.bare, J.base, J.hok, rv, q⟩
    | .next, ⟨_, H', J, q⟩ => exact ⟨V.non, H', J.os, J.bare, J.base, J.hok, rfl, q⟩
    | .brk, ⟨_, _, _, q⟩ => exact q.elim
    | .cont, ⟨_, _, _, q⟩ => exact q.elim
theorem okG {P : Program} {w : World} {K : PySem.W.Frag} {mg : Str → Option Value} {base : Heap} {x qual : Str} {st : Stmt} {f : Addr} {fd : FuncData} {N ps : List Str} {k : Nat} {sp : Sp} (F : Fun K x qual st f fd) (S : FnScope N ps (defScope st)) (len : ∀ vs H Q E, sp vs H Q E → vs.length = ps.length)
    (hbody : ∀ (cdv : Value) (A : Around) (outer : List Env) (s : Shared) (H : Hp) (vs : List V) (Q : VK) (E : XK), A.guards = some [] → Room k (A.deeper (envOfC qual (defScope st) s.heap.objs.size f cdv)) → sp vs H Q E →
      ∃ t, PSs (cxOf CX0 P w K mg base N qual (defScope st) f cdv A outer s H E).nox (defBody st) t ∧ t { nx := fun _ H' => Q .non H', rt := Q } (start N vs) H) : FnG P w K mg base CX0 (k + 1) f fd ps sp := by
  obtain ⟨oc, od, kV, doc, pm, an, cdv, ct, osl, rfl, lk, hcd⟩ := F.ex
  refine fnG_of lk hcd S len fun A outer s H vs Q E hg hr hsp => ?_
  obtain ⟨t, h, q⟩ := hbody cdv A outer s H vs Q E hg hr hsp
  exact ⟨t, h.nox, q⟩
section
variable {X : Cx} {CX : CXT} {k : Nat} {f : Addr} {fd : FuncData} {ps : List Str} {sp : Sp} {E : XK} {x : Str} {p pos : Pos} {e : Expr} {es : List Expr} {t : TA}
theorem pe_callG (hgd : X.A.guards = some []) (F : FnG X.prog X.w X.K X.mg X.base CX k f fd ps sp) (hr : Room k X.A) (hg : Gl X x) (hm : X.mg x = some (.ref f)) (hk : PySem.W.keepIn X.K (.ref f) = true) (hb : L2.Binds X.K fd ps []) (hx : Passes CX X E)
    (ha : PA X (e :: es) t) (hdb : (x == ("__debug__" : Str)) = false := by decide) (he : starEach (e :: es) X.env = (false, eval e X.env) :: starEach es X.env := by rfl) (hpl : (backTo pos (starEach es X.env)).any (·.1) = false := by rfl) :
    PE X (.Call (.Name x p) (e :: es) [] pos) (tCall sp [] E t) := by
  refine ⟨fun pins s σ H Q I h => wpAny_Call_Name_kw (ld_glob I hg hm ?_ hdb)⟩
  refine PySem.W.callWith_K (h₀ := X.base) I.ok.mod.kin hk (thn (ha.run pos pins s σ H _ I h) fun us s1 ⟨vs, H1, I1, r, q⟩ => ⟨I1.kIn, ?_⟩) he hpl
  have r2 : Vals (vs ++ []) (us ++ []) := by rw [List.append_nil, List.append_nil]; exact r
  refine wpAny_call (codeAny_mono (F.run X.A X.stack s1 H1 ⟨us, []⟩ (us ++ []) (vs ++ []) Q E hgd hr I1.env0 (hb s1 us I1.kIn (by rw [← r2.length]; exact F.len _ _ _ _ q)) r2 q) fun r s' hq => ?_)
  match r, hq with
  | .error e, hq => exact hx pins σ H1 s1 e s' I1 hq
  | .ok (.ret u), hq => exact I1.after hq
/-- repr(x) of data, where no repr is under way -/
def rRepr (K : PySem.W.Frag) : List V → Hp → VK → Prop := fun xs H Q => ∃ a d, xs = [.ref a] ∧ Dp K H (.ref a) d ∧ d.showable = true ∧ d.hasDict = false ∧ d.depth ≤ 60 ∧ d.shown.length ≤ sizeLine ∧ Q (.str d.shown) H
theorem call_reprG (hgd : X.A.guards = some []) (hu : X.A.units + 64 < cLine) : CallR X (.builtin "repr") (rRepr X.K) := by
  intro pins s σ H xs us Q I r h
  obtain ⟨a, d, rfl, hd, hs, hn, hdp, hz, q⟩ := h
  obtain ⟨u, rfl, ru⟩ := vals1 r
  obtain rfl : u = Value.ref a := ru
  obtain ⟨as, rd⟩ := Dp.reads I d _ _ hd rfl
  exact PySem.repr_of_reads' rd hs (fun z => by rw [hn] at z; cases z) hgd (by omega) (fun _ _ e => e) (fun h' u tk hk => ⟨.str _, H, I.kept hk, ⟨_, rfl⟩, q⟩) hz
end

/-! ### the law's call -/
section
variable {P : Program} {w : World} {K : PySem.W.Frag} {mg mb : Str → Option Value} {CX : CXT} {k : Nat} {fa a : Addr} {fd : FuncData} {x : Str} {sp : Sp} {s : Shared} {vs : List Value}
/-- from an abstract heap that tracks nothing, or the script alone as it stands -/
theorem call_from (KX : K.In s.heap) (hns : s.heap.Ns mainGlobals mg) (hb : s.heap.Ns builtinsNs mb) (hbb : ∀ x : Str, x ≠ "__name__" → mb x = bootBuiltins x) (hlim : s.heap.NoLimit) (hg : s.gens = #[])
    (ha : s.heap.get? a = some { cls := .type "list", data := .seq vs.toArray }) (hr : Room k callerA)
    (F : ∀ base : Heap, K.In base → base.Ns mainGlobals mg → FnG P w K mg base CX k fa fd [x] sp) (hbind : ∀ (s : Shared) (u : Value), BindsTo s fd ⟨[u], []⟩ [(x, u)])
    (H : Hp) (hO : Only H) (hok : HOk P w H s.heap) (hA : ∀ b, H b ≠ none → b = a) (hK : H a ≠ none → K.lookup a = none) (hsp : sp [.ref a] H (fun v _ => v = .bl true) fun _ _ _ => False) (hCX : ∀ e s', CX [] H s (fun _ _ _ => False) e s' → False) :
    codeAny (model P w) callerA (.call (.ref fa) ⟨[.ref a], []⟩) (fun r s' => r = .ok (.ret (.bool true)) ∧ OldK s.heap s'.heap ∧ s'.os = s.os ∧ AllBare s'.gens) s := by
  have free : ∀ {b : Addr}, b ≠ a → H b = none := fun {b} n => Classical.byContradiction fun z => n (hA b z)
  have nsK : ∀ {b : Addr} {m : Str → Option Value}, s.heap.Ns b m → (hidT s.heap H).Ns b m := fun {b m} ⟨o, es, ep, e, d, r⟩ => ⟨o, es, ep, hidT_get e (free fun z => by
    subst z
    rw [ha] at e; cases e
    have d' : Data.seq vs.toArray _ = Data.dict es ep := d
    cases d'), d, r⟩
  have hKb : K.In (hidT s.heap H) := fun b o e => hidT_get (KX b o e) (Classical.byContradiction fun z => by
    obtain rfl := hA b z
    rw [hK z] at e; cases e)
  obtain ⟨mc, h1, h2⟩ := hlim
  have e0 : Env0 P w K mg (hidT s.heap H) callerA [] s H := ⟨rfl, ⟨hKb, nsK hns, ⟨mb, nsK hb, hbb⟩, ⟨mc, nsK h1, h2⟩⟩, fun b o e => of_hidT e, Nat.le_of_eq (hidT_size _ _), trivial, fun b hb => absurd (show b ∈ ([] : List Addr) from hb) (by simp), hok, .of_eq hg⟩
  refine codeAny_mono ((F _ hKb (nsK hns)).run callerA [] s H ⟨[.ref a], []⟩ [.ref a] [.ref a] _ _ rfl hr e0 (hbind s (.ref a)) (.cons rfl .nil) hsp) fun r s' h => ?_
  match r, h with
  | .error e, h => exact (hCX e s' h).elim
  | .ok (.ret u), ⟨v, H', os, bare, un, hok', r', q⟩ =>
    have q' : v = .bl true := q
    subst q'
    obtain rfl : u = Value.bool true := r'
    refine ⟨rfl, OldK.of_keep fun b o e => ?_, os, bare⟩
    rcases hO b with z | ⟨ob, xs, z⟩
    · exact un.keep b o e z (by intro z; exact absurd (show b ∈ ([] : List Addr) from z) (by simp)) (by simp)
    · obtain ⟨e1, _⟩ := hok b _ z
      obtain ⟨e2, _⟩ := hok' b _ (un.frzs b ob _ z)
      rw [e] at e1; cases e1
      exact e2
theorem law_callG {ns : List Int} (KX : K.In s.heap) (hns : s.heap.Ns mainGlobals mg) (hb : s.heap.Ns builtinsNs mb) (hbb : ∀ x : Str, x ≠ "__name__" → mb x = bootBuiltins x) (hlim : s.heap.NoLimit) (hg : s.gens = #[])
    (ha : s.heap.get? a = some { cls := .type "list", data := .seq vs.toArray }) (hi : IntsAre vs ns) (hl : ns.length ≤ sizeLine) (hr : Room k callerA)
    (F : ∀ base : Heap, K.In base → base.Ns mainGlobals mg → FnG P w K mg base CX k fa fd [x] sp) (hbind : ∀ (s : Shared) (u : Value), BindsTo s fd ⟨[u], []⟩ [(x, u)])
    (hsp : ∀ H : Hp, SqL K H a (ns.map V.int) → sp [.ref a] H (fun v _ => v = .bl true) fun _ _ _ => False)
    (hCX : ∀ H e s', CX [] H s (fun _ _ _ => False) e s' → False) :
    codeAny (model P w) callerA (.call (.ref fa) ⟨[.ref a], []⟩) (fun r s' => r = .ok (.ret (.bool true)) ∧ OldK s.heap s'.heap ∧ s'.os = s.os ∧ AllBare s'.gens) s := by
  have rv := vals_ints hi
  cases hk : K.lookup a with
  | some o =>
    have e := KX a o hk
    rw [ha] at e
    cases e
    refine call_from KX hns hb hbb hlim hg ha hr F hbind (fun _ => none) (fun _ => .inl rfl) (fun b u z => ?_) (fun b z => absurd rfl z) (fun z => absurd rfl z) (hsp _ (.inr ⟨_, vs.toArray, _, hk, rfl, rfl, rfl, by rw [List.size_toArray, hi.length]; exact hl, by simpa using rv⟩)) (hCX _)
    cases (show (none : Option HO) = some u from z)
  | none =>
    have self : ∀ {b : Addr}, (if b = a then some (HO.frz { cls := .type "list", data := .seq vs.toArray } (.lst (ns.map V.int))) else none) ≠ none → b = a := fun {b} z => Classical.byContradiction fun n => z (if_neg n)
    refine call_from KX hns hb hbb hlim hg ha hr F hbind (fun b => if b = a then some (.frz { cls := .type "list", data := .seq vs.toArray } (.lst (ns.map V.int))) else none) (fun b => ?_) (fun b u z => ?_) (fun b z => self z) (fun _ => hk) (hsp _ (.inl (.inr ⟨{ cls := .type "list", data := .seq vs.toArray }, if_pos rfl⟩))) (hCX _)
    · by_cases h : b = a
      · exact .inr ⟨_, _, if_pos h⟩
      · exact .inl (if_neg h)
    · have h : b = a := self fun n => nomatch n.symm.trans z
      subst h
      cases (if_pos rfl).symm.trans z
      exact ⟨ha, by rw [List.length_map]; exact hl, vs, _, rv, ha⟩
end
theorem walk_ofG {l : PySem.W.OpenLaw} {n k : Nat} {q : Program} {loose : List Str} {XP : (Str → Option Value) → Heap → Prop} {YP : World → Heap → Prop} {d : DefRec} {K : Params → PySem.W.Frag} {CX : World → CXT} {sp : World → Sp} {x : Str}
    (hn : l.most = some n) (hn2 : n ≤ sizeLine) (hdf : d.params.defaults = []) (hr : Room k callerA)
    (hY : ∀ (w : World) (h : Heap), YP w h → (K w.params).In h)
    (F : ∀ (w : World) (mg : Str → Option Value) (fa : Addr) (h : Heap), (K w.params).In h → h.Ns mainGlobals mg → mg d.name = some (.ref fa) →
      ∃ fd : FuncData, (∀ (s : Shared) (u : Value), BindsTo s fd ⟨[u], []⟩ [(x, u)]) ∧
        ∀ base : Heap, (K w.params).In base → base.Ns mainGlobals mg → FnG l.prog w (K w.params) mg base (CX w) k fa fd [x] (sp w))
    (hsp : ∀ (w : World) (H : Hp) (a : Addr) (ns : List Int), ns.length ≤ n → SqL (K w.params) H a (ns.map V.int) → sp w [.ref a] H (fun v _ => v = .bl true) fun _ _ _ => False)
    (hCX : ∀ (w : World) (H : Hp) (s : Shared) (e : Value) (s' : Shared), CX w [] H s (fun _ _ _ => False) e s' → False) :
    PySem.W.WalkO q loose XP YP l.row.toRowW d [] (fun f vs => PySem.call f vs) := by
  refine Att.attach_call hn hdf fun w s₀ s₁ mg mb fa o pm cd doc a vs ns G Y ho hd hcd hmg hobj hints hlen hg => ?_
  obtain ⟨fd, hb, hF⟩ := F w mg fa _ (hY w _ Y) G.T.g hmg
  exact law_callG (hY w _ Y) G.T.g G.T.b G.T.builtins G.T.nolimit hg hobj hints (Nat.le_trans hlen hn2) hr hF hb (fun H hS => hsp w H a ns hlen hS) fun H e s' => hCX w H s₁ e s'
end Cm
namespace K46
open PySem PySem.W L2 SX Cm
def top (i : Nat) : Stmt := PySem.Challenge.pw_takeleave_k46_parted_rows.main.body.getD i (.Pass ⟨0, 0, 0, 0⟩)
abbrev sIsSh : Stmt := top 6
abbrev sShRow : Stmt := top 7
abbrev sTaken : Stmt := top 8
abbrev sLeast : Stmt := top 10
abbrev sNeedOf : Stmt := top 11
abbrev sWholeMap : Stmt := top 12
abbrev sParting : Stmt := top 13
abbrev sMixed : Stmt := top 15
abbrev sDeck : Stmt := top 16
abbrev sDraw : Stmt := top 17
abbrev sShuffle : Stmt := top 18
abbrev sWord : Stmt := top 19
abbrev sRow : Stmt := top 20
abbrev sRead : Stmt := top 21
abbrev sWhole : Stmt := top 22
abbrev sLLeast : Stmt := top 23
abbrev sWider : Stmt := top 24
abbrev sTog : Stmt := top 25
abbrev sOther : Stmt := top 26
abbrev sLeft : Stmt := top 27
abbrev sRight : Stmt := top 28
abbrev sLaw : Stmt := top 29
/-- a deck stands at d: a count, a sum, cells -/
def Dk (H : Hp) (d : Addr) : Prop := ∃ (k s : Int) (ms : List Int), H d = some (.lst (V.int k :: V.int s :: ms.map V.int)) ∧ ms.length ≤ 1000
theorem Dk.new {d p : Addr} {H : Hp} {o : HO} (a : Dk H d) (h : H p = none) : Dk (upd H p o) d := by
  obtain ⟨k, s, ms, e, l⟩ := a
  exact ⟨k, s, ms, kn e h, l⟩
theorem Dk.same {d : Addr} {H H' : Hp} (a : Dk H d) (h : Same H H') : Dk H' d := by
  obtain ⟨k, s, ms, e, l⟩ := a
  exact ⟨k, s, ms, h _ _ e, l⟩
theorem Dk.put {d p : Addr} {H : Hp} {o : HO} (a : Dk H d) (h : p ≠ d) : Dk (upd H p o) d := by
  obtain ⟨k, s, ms, e, l⟩ := a
  exact ⟨k, s, ms, by rw [upd_ne h.symm]; exact e, l⟩
theorem Dk.ne {d p : Addr} {H : Hp} (a : Dk H d) (h : H p = none) : p ≠ d := fun z => by
  obtain ⟨k, s, ms, e, l⟩ := a
  rw [z, e] at h; cases h
theorem dm {d : Addr} : d ∈ [d] := List.mem_singleton.mpr rfl
section
variable {P : Program} {w : World} {K : PySem.W.Frag} {mg : Str → Option Value} {base : Heap}
def spMixed : Sp := fun vs H Q _ => ∃ n k : Int, vs = [.int n, .int k] ∧ ∀ m : Int, Q (.int m) H
theorem scMixed : FnScope ["_law_cell", "_law_k", "_law_number"] ["_law_cell", "_law_k"] (defScope sMixed) := ⟨rfl, rfl, rfl, by decide +kernel, rfl, by decide +kernel, by decide +kernel⟩
theorem ok_mixed {f : Addr} {fd : FuncData} (F : Fun K "_law_mixed" "_law_mixed" sMixed f fd) : FnOk P w K mg base CX0 1 f fd ["_law_cell", "_law_k"] spMixed := by
  refine F.ok scMixed (fun vs H Q E h => ?_) (fun cdv A outer s H vs Q E hr h => ?_)
  · obtain ⟨n, k, rfl, _⟩ := h
    rfl
  obtain ⟨n, k, rfl, q⟩ := h
  refine ⟨_, pss_cons (ps_set (i := 2) scMixed.nd rfl (.inl rfl) (pe_op op_mod (pe_op op_add (pe_op op_add (pe_op op_mul (pe_op op_mod (pv 0) pe_int) pe_int) (pe_op op_mul (pv 1) pe_int)) pe_int) pe_int))
    (pss_cons (ps_set (i := 2) scMixed.nd rfl (.inl rfl) (pe_op op_mod (pe_op op_add (pe_op op_add (pe_op op_mul (pv 2) (pv 2)) (pe_op op_mul pe_int (pv 2))) (pv 1)) pe_int))
    (pss_one (ps_ret (pe_op op_mod (pe_op op_mul (pe_op op_add (pe_op op_mul (pe_op op_mod (pv 2) pe_int) pe_int) (pe_op op_fdiv (pv 2) pe_int)) pe_int) pe_int)))), ?_⟩
  refine ⟨_, rfl, _, _, rfl, rfl, (by show (0 : Int) < 2147483647; decide), _, _, rfl, rfl, .inr ⟨by decide, by decide⟩, _, rfl, _, _, rfl, rfl, .inr ⟨by decide, by decide⟩, _, _, rfl, rfl, _, _, rfl, rfl, _, _, rfl, rfl, (by show (0 : Int) < 2147483629; decide), ?_⟩
  generalize e1 : (n % 2147483647 * 48271 + k * 69621 + 7919) % 2147483629 = n1
  have b1 : 0 ≤ n1 ∧ n1 < 2147483629 := by
    constructor
    · rw [← e1]; exact Int.emod_nonneg _ (by decide)
    · rw [← e1]; exact Int.emod_lt_of_pos _ (by decide)
  refine ⟨_, rfl, _, rfl, _, _, rfl, rfl, .inl ⟨by omega, by omega⟩, _, rfl, _, _, rfl, rfl, .inl ⟨by decide, by decide⟩, _, _, rfl, rfl, _, rfl, _, _, rfl, rfl, _, _, rfl, rfl, (by show (0 : Int) < 2147483587; decide), ?_⟩
  refine ⟨_, rfl, _, _, rfl, rfl, (by show (0 : Int) < 65536; decide), _, _, rfl, rfl, .inr ⟨by decide, by decide⟩, _, rfl, _, _, rfl, rfl, ⟨by decide, by decide⟩, _, _, rfl, rfl, _, _, rfl, rfl, .inr ⟨by decide, by decide⟩, _, _, rfl, rfl, (by show (0 : Int) < 2147483563; decide), ?_⟩
  exact q _
def spDeck (K : PySem.W.Frag) : Sp := fun vs H Q _ => ∃ (a : Addr) (ns : List Int), vs = [.ref a] ∧ SqL K H a (ns.map V.int) ∧ ns.length ≤ 63 ∧
  ∀ (p : Addr) (H' : Hp), Same H H' → H p = none → Dk H' p → Q (.ref p) H'
theorem scDeck : FnScope ["_law_script", "_law_cells"] ["_law_script"] (defScope sDeck) := ⟨rfl, rfl, rfl, by decide +kernel, rfl, by decide +kernel, by decide +kernel⟩
theorem ok_deck {f : Addr} {fd : FuncData} (F : Fun K "_law_deck" "_law_deck" sDeck f fd) (mlist : mg "list" = none) (msum : mg "sum" = none) : FnOk P w K mg base CX0 1 f fd ["_law_script"] (spDeck K) := by
  refine F.ok scDeck (fun vs H Q E h => ?_) (fun cdv A outer s H vs Q E hr h => ?_)
  · obtain ⟨a, ns, rfl, _⟩ := h
    rfl
  obtain ⟨a, ns, rfl, hS, h63, q⟩ := h
  refine ⟨_, pss_cons (ps_set (i := 1) scDeck.nd rfl (.inl rfl) (pe_callTy call_list_of (by rfl) mlist (by decide +kernel) (pa_cons (pe_slice sl_list (pv 0) po_none (po_some pe_int)) pa_nil)))
    (pss_one (ps_ret (pe_op op_cat (pe_lst (pa_cons pe_int (pa_cons (pe_op op_mod (pe_callB (cr_sum rfl) (by rfl) msum PyProof.Rows.boot_sum (pa_cons (pv 1) pa_nil)) pe_int) pa_nil))) (pe_revL (pv 1))))), ?_⟩
  refine ⟨_, rfl, 63, rfl, a, _, rfl, hS, fun p1 n1 => ?_⟩
  obtain ⟨ds, e1, l1⟩ := cut_map V.int ns none (some 63)
  rw [e1]
  refine ⟨p1, _, rfl, .inl (SqL.of upd_same), fun p2 n2 => ?_⟩
  have s1 : Same H (upd H p1 (.lst (ds.map V.int))) := same_new n1 _
  have s2 := s1.trans (same_new n2 (.lst (ds.map V.int)))
  refine ⟨_, rfl, p2, ds, rfl, SqL.of upd_same, _, _, rfl, rfl, (by show (0 : Int) < 2147483647; decide), (by show 2 ≤ sizeLine; decide), fun p3 n3 => ?_⟩
  refine ⟨_, rfl, p2, _, rfl, SqL.of (kn upd_same n3), fun p4 n4 => ?_⟩
  have s4 := (s2.trans (same_new n3 (.lst [.int 0, .int (ds.sum % 2147483647)]))).trans (same_new n4 (.lst (ds.map V.int).reverse))
  refine ⟨p3, p4, _, _, rfl, rfl, kn upd_same n4, upd_same, ?_, fun p5 n5 => ?_⟩
  · rw [sizeLine_eq, List.length_reverse, List.length_map]
    show 2 + ds.length ≤ _
    omega
  refine q p5 _ (s4.trans (same_new n5 _)) (s4.free n5) ⟨0, ds.sum % 2147483647, ds.reverse, ?_, ?_⟩
  · rw [upd_same, List.map_reverse]; rfl
  · rw [List.length_reverse]; omega
def spDraw : Sp := fun vs H Q _ => ∃ (d : Addr) (m : Int), vs = [.ref d, .int m] ∧ Dk H d ∧ 0 < m ∧ m < 2 ^ 64 ∧
  ∀ (r : Int) (H' : Hp), 0 ≤ r → r < m → Kp [d] H H' → Dk H' d → Q (.int r) H'
theorem scDraw : FnScope ["_law_deck_here", "_law_most", "_law_cell"] ["_law_deck_here", "_law_most"] (defScope sDraw) := ⟨rfl, rfl, rfl, by decide +kernel, rfl, by decide +kernel, by decide +kernel⟩
theorem ok_draw {f g : Addr} {fd gd : FuncData} (F : Fun K "_law_draw" "_law_draw" sDraw f fd) (G : FnOk P w K mg base CX0 1 g gd ["_law_cell", "_law_k"] spMixed) (bG : L2.Binds K gd ["_law_cell", "_law_k"] []) (kG : PySem.W.keepIn K (.ref g) = true) (mG : mg "_law_mixed" = some (.ref g)) (mlen : mg "len" = none) :
    FnOk P w K mg base CX0 2 f fd ["_law_deck_here", "_law_most"] spDraw := by
  refine F.ok scDraw (fun vs H Q E h => ?_) (fun cdv A outer s H vs Q E hr h => ?_)
  · obtain ⟨d, m, rfl, _⟩ := h
    rfl
  obtain ⟨d, m, rfl, ⟨k, sm, ms, hd, hl⟩, m0, m1, q⟩ := h
  refine ⟨_, pss_cons (ps_asg (pe_op op_add (pe_ix ix_list (pv 0) pe_int (fun _ _ => rfl)) pe_int) (pg_sub (pv 0) pe_int set_list))
    (pss_cons (ps_if (pt_cmpR op_lt (pe_callB call_len_seq (by rfl) mlen PySem.boot_len (pa_cons (pv 0) pa_nil)) pe_int (nomark _))
      (pss_one (ps_ret (pe_op op_mod (pe_call G hr rfl mG kG bG .nil pass0 (pa_cons (pe_ix ix_list (pv 0) pe_int (fun _ _ => rfl)) (pa_cons (pe_ix ix_list (pv 0) pe_int (fun _ _ => rfl)) pa_nil))) (pv 1)))) pss_nil)
    (pss_cons (ps_set (i := 2) scDraw.nd rfl (.inl rfl) (pe_bm0 PySem.F.plainAttrs_list PySem.F.slot_list_pop PySem.F.type_list_pop mt_pop (pv 0)))
    (pss_cons (ps_if (pt_cmpR op_lt (pv 2) (pe_op op_pow pe_int pe_int) (nomark _))
      (pss_one (ps_ret (pe_op op_mod (pe_call G hr rfl mG kG bG .nil pass0 (pa_cons (pv 2) (pa_cons (pe_ix ix_list (pv 0) pe_int (fun _ _ => rfl)) pa_nil))) (pv 1)))) pss_nil)
    (pss_cons (ps_expr (pe_bm PySem.F.plainAttrs_list PySem.F.slot_list_append PySem.F.type_list_append mt_append (pv 0) (pa_cons (pe_op op_fdivW (pv 2) (pv 1)) pa_nil)))
    (pss_one (ps_ret (pe_op op_mod (pv 2) (pv 1)))))))), ?_⟩
  have at0 : ∀ (x y : Int) (r : List V), atI (V.int x :: V.int y :: r) 0 = some (V.int x) := fun x y r => atI_nat (j := 0) rfl
  have at1 : ∀ (x y : Int) (r : List V), atI (V.int x :: V.int y :: r) 1 = some (V.int y) := fun x y r => atI_nat (j := 1) rfl
  have ix0 : ∀ n : Nat, ixN (n + 2) 0 = some 0 := fun n => by
    unfold ixN
    simp
    omega
  refine ⟨_, rfl, d, _, _, _, rfl, rfl, SqL.of hd, at0 _ _ _, _, _, rfl, rfl, _, rfl, d, _, _, 0, rfl, rfl, hd, ix0 _, ?_⟩
  have k1 : Kp [d] H (upd H d (.lst (V.int (k + 1) :: V.int sm :: ms.map V.int))) := (Kp.refl _ H).own dm
  have hd1 : upd H d (.lst (V.int (k + 1) :: V.int sm :: ms.map V.int)) d = some (.lst (V.int (k + 1) :: V.int sm :: ms.map V.int)) := upd_same
  show tSeq _ _ _ _ (upd H d (.lst (V.int (k + 1) :: V.int sm :: ms.map V.int)))
  generalize upd H d (.lst (V.int (k + 1) :: V.int sm :: ms.map V.int)) = H1 at hd1 k1
  refine ⟨_, rfl, d, _, rfl, .inl (SqL.of hd1), _, _, rfl, rfl, _, rfl, ?_⟩
  rcases List.eq_nil_or_concat ms with rfl | ⟨ns, n, rfl⟩
  · refine iteT ?_
    refine ⟨_, rfl, d, _, _, _, rfl, rfl, SqL.of hd1, at1 _ _ _, _, rfl, d, _, _, _, rfl, rfl, SqL.of hd1, at0 _ _ _, _, _, rfl, fun r => ?_⟩
    refine ⟨_, rfl, _, _, rfl, rfl, m0, ?_⟩
    exact q _ _ (Int.emod_nonneg _ (by omega)) (Int.emod_lt_of_pos _ m0) k1 ⟨_, _, [], hd1, by decide⟩
  · rw [List.length_concat] at hl
    have hlt : ¬ ((V.int (k + 1) :: V.int sm :: (ns.concat n).map V.int).length : Int) < 3 := by
      rw [List.length_cons, List.length_cons, List.length_map, List.length_concat]; omega
    rw [decide_eq_false hlt]
    refine iteF ?_
    have hq : (V.int (k + 1) :: V.int sm :: (ns.concat n).map V.int)[(V.int (k + 1) :: V.int sm :: (ns.concat n).map V.int).length - 1]? = some (V.int n) := by
      rw [List.concat_eq_append, List.map_append]
      simp
    have hdl : (V.int (k + 1) :: V.int sm :: (ns.concat n).map V.int).dropLast = V.int (k + 1) :: V.int sm :: ns.map V.int := by
      rw [List.concat_eq_append, List.map_append]
      show (([V.int (k + 1), V.int sm] ++ ns.map V.int) ++ [V.int n]).dropLast = _
      rw [List.dropLast_concat]; rfl
    refine ⟨_, rfl, .inl ⟨rfl, _, SqL.of hd1⟩, d, _, _, rfl, rfl, hd1, hq, ?_⟩
    rw [hdl]
    have k3 : Kp [d] H (upd H1 d (.lst (V.int (k + 1) :: V.int sm :: ns.map V.int))) := k1.own dm
    refine ⟨_, rfl, _, _, rfl, rfl, ⟨by decide, by decide, by decide⟩, _, _, rfl, rfl, _, rfl, ?_⟩
    refine ite2 (fun _ => ?_) (fun _ => ?_)
    · refine ⟨_, rfl, _, rfl, d, _, _, _, rfl, rfl, SqL.of upd_same, at0 _ _ _, _, _, rfl, fun r => ?_⟩
      refine ⟨_, rfl, _, _, rfl, rfl, m0, ?_⟩
      exact q _ _ (Int.emod_nonneg _ (by omega)) (Int.emod_lt_of_pos _ m0) k3 ⟨_, _, ns, upd_same, by omega⟩
    · refine ⟨_, rfl, .inl ⟨rfl, _, SqL.of upd_same⟩, _, rfl, _, rfl, _, _, rfl, rfl, wide_div m0 (b := 64) (by omega) (by decide) (by decide), d, _, _, rfl, rfl, upd_same, ?_, ?_⟩
      · rw [sizeLine_eq, List.length_cons, List.length_cons, List.length_map]; omega
      refine ⟨_, rfl, _, rfl, _, _, rfl, rfl, m0, ?_⟩
      refine q _ _ (Int.emod_nonneg _ (by omega)) (Int.emod_lt_of_pos _ m0) (k3.own dm) ⟨k + 1, sm, ns ++ [n / m], ?_, ?_⟩
      · rw [upd_same, List.map_append]; rfl
      · rw [List.length_append, List.length_singleton]; omega
end
end K46
namespace K46
open PySem PySem.W L2 SX Cm
section
variable {P : Program} {w : World} {K : PySem.W.Frag} {mg : Str → Option Value} {base : Heap}
def spLeast (K : PySem.W.Frag) : Sp := fun vs H Q _ => ∃ (n : Int) (a : Addr) (ps : List Int), vs = [.int n, .ref a] ∧ SqT K H a (ps.map V.int) ∧ ps.length ≤ 1000 ∧
  ∀ (c : Nat) (p : Addr) (H' : Hp), Same H H' → IsCut ps c → MapAt K H' p (n - c) (cutM c ps) → Q (.ref p) H'
theorem scLeast : FnScope ["n", "picks", "cut", "pick"] ["n", "picks"] (defScope sLeast) := ⟨rfl, rfl, rfl, by decide +kernel, rfl, by decide +kernel, by decide +kernel⟩
theorem ok_least {f : Addr} {fd : FuncData} (F : Fun K "least_map" "least_map" sLeast f fd) (mlen : mg "len" = none) (mtup : mg "tuple" = none) : FnOk P w K mg base CX0 1 f fd ["n", "picks"] (spLeast K) := by
  refine F.ok scLeast (fun vs H Q E h => ?_) (fun cdv A outer s H vs Q E hr h => ?_)
  · obtain ⟨n, a, ps, rfl, _⟩ := h
    rfl
  obtain ⟨n, a, ps, rfl, ha, hl, q⟩ := h
  refine ⟨_, pss_cons (ps_set (i := 2) scLeast.nd rfl (.inr rfl) pe_int)
    (C8.pss_cut (ps_while PassesOwn.never (PW.pt (pw_and (pt_cmpR op_lt (pv 2) (pe_callB call_len_seq (by rfl) mlen PySem.boot_len (pa_cons (pv 1) pa_nil)) (nomark _))
        (pw_and (pt_cmpR op_eq (pe_ix ix_tup (pv 1) (pv 2) (fun _ _ => rfl)) (pv 2) (nomark _))
        (pw_and1 (pt_cmpR op_notIn_seq (pv 2) (pe_slice sl_tupA (pv 1) (po_some (pe_op op_add (pv 2) pe_int)) po_none) rfl)))))
      (pss_one (ps_aug (i := 2) scLeast.nd rfl (.inr rfl) pe_int ip_add)))
    (pss_one (ps_ret (pe_tup (pa_cons (pe_op op_sub (pv 0) (pv 2)) (pa_cons (pe_callTy call_tuple_of (by rfl) mtup (by decide +kernel) (pa_cons
      (pe_lc (own := [("pick", 3)]) (g := gName 3) (tt := tYes) rfl scLeast.nd (pi_tup (pe_slice sl_tupA (pv 1) (po_some (pv 2)) po_none)) (blkOk_by (own := [("pick", 3)]) (N := ["n", "picks", "cut", "pick"]) (sc := defScope sLeast) (by decide +kernel))
        (fun _ _ _ _ _ => pg_name (i := 3) scLeast.nd rfl (Or.inl rfl)) (fun _ _ _ _ _ => pts_nil) (fun _ _ _ _ _ => pe_op op_sub (pv 3) (pv 2))) pa_nil)) pa_nil)))))), ?_⟩
  refine ⟨fun σ H' => ∃ c : Nat, σ = [some (.int n), some (.ref a), some (.int c), none] ∧ Same H H' ∧ IsCut ps c, ?_, ?_⟩
  · refine ⟨fun k σ H' => ∃ c : Nat, σ = [some (.int n), some (.ref a), some (.int c), none] ∧ Same H H' ∧ (∀ j, j < c → Stays ps j) ∧ k = ps.length - c, ⟨_, 0, rfl, Same.refl H, (fun j hj => absurd hj (Nat.not_lt_zero j)), rfl⟩, ?_⟩
    rintro k σ H' ⟨c, rfl, sm, hc, rfl⟩
    have ha' := Same.seqT sm ha
    refine ⟨_, rfl, _, rfl, a, _, rfl, .inr ha', _, _, rfl, rfl, _, rfl, ?_⟩
    rw [List.length_map]
    by_cases h1 : c < ps.length
    · rw [decide_eq_true (show (c : Int) < (ps.length : Int) by omega)]
      refine iteT ?_
      have hp : ps[c]? = some ps[c] := List.getElem?_eq_getElem h1
      refine ⟨_, rfl, _, rfl, a, _, _, .int ps[c], rfl, rfl, ha', atI_nat (by rw [List.getElem?_map, hp]; rfl), _, rfl, rfl, _, rfl, ?_⟩
      by_cases h2 : ps[c] = (c : Int)
      · rw [decide_eq_true (show V.int ps[c] = V.int (c : Int) by rw [h2])]
        refine iteT ?_
        refine ⟨_, rfl, _, rfl, _, rfl, _, _, rfl, rfl, ((c + 1 : Nat) : Int), rfl, ?_⟩
        refine slT_fromP (i := c + 1) ha' fun t H2 s2 ht => ?_
        refine ⟨t, _, rfl, .inr ht, rfl, flat_ints _, _, rfl, ?_⟩
        rw [in_ints]
        by_cases h3 : (c : Int) ∈ ps.drop (c + 1)
        · rw [decide_eq_true h3]
          refine iteF ?_
          exact ⟨c, rfl, sm.trans s2, hc, fun z => z.2 h3⟩
        · rw [decide_eq_false h3]
          refine iteT ?_
          refine ⟨fun σ' H3 => ∃ c' : Nat, σ' = [some (.int n), some (.ref a), some (.int c'), none] ∧ Same H H3 ∧ c' = c + 1, ?_, ?_⟩
          · rintro σ' H3 ⟨c', rfl, s3, rfl⟩
            refine ⟨_, ?_, c + 1, rfl, s3, fun j hj => ?_, rfl⟩
            · omega
            · by_cases e : j = c
              · subst e; exact ⟨by rw [hp, h2], h3⟩
              · exact hc j (by omega)
          · exact ⟨_, rfl, _, _, rfl, rfl, c + 1, rfl, sm.trans s2, rfl⟩
      · rw [decide_eq_false (show ¬ V.int ps[c] = V.int (c : Int) from fun z => h2 (V.int.inj z))]
        refine iteF ?_
        exact ⟨c, rfl, sm, hc, fun z => h2 (by have := z.1; rw [hp] at this; exact Option.some.inj this)⟩
    · rw [decide_eq_false (show ¬ (c : Int) < (ps.length : Int) by omega)]
      refine iteF ?_
      exact ⟨c, rfl, sm, hc, fun z => h1 z.lt⟩
  · rintro σ' H1 ⟨c, rfl, s1, hc⟩
    have ha1 := Same.seqT s1 ha
    refine ⟨_, rfl, _, rfl, _, _, rfl, rfl, _, rfl, _, rfl, (c : Int), rfl, ?_⟩
    refine slT_fromP (i := c) ha1 fun t H2 s2 ht => ?_
    refine ⟨t, rfl, ⟨_, ht⟩, fun D hD => ?_⟩
    refine lc_mapT (fun v => match v with | .int p => .int (p - c) | v => v) ht hD (by rw [List.length_map, List.length_drop]; omega) (fun x H3 R hx _ r => ?_) ?_
    · obtain ⟨p, _, rfl⟩ := List.mem_map.mp hx
      exact ⟨rfl, _, rfl, _, rfl, _, _, rfl, rfl, r⟩
    · refine ⟨D, _, rfl, .inl ⟨SqL.of upd_same, fun u nu => ?_⟩⟩
      refine ⟨(by show 2 ≤ sizeLine; decide), fun v nv => ?_⟩
      refine q c v _ (((s1.trans s2).trans (same_new hD _)).trans ((same_new nu _).trans (same_new nv _))) hc ⟨u, SqT.of upd_same, SqT.of ?_⟩
      refine (kn upd_same nv).trans ?_
      rw [List.map_map]
      unfold cutM
      rw [List.map_map]; rfl
def spLLeast (K : PySem.W.Frag) : Sp := fun vs H Q _ => ∃ (n : Int) (a : Addr) (ps : List Int), vs = [.int n, .ref a] ∧ TupO H a (ps.map V.int) ∧ ps.length ≤ 1000 ∧ (∀ p ∈ ps, p < n) ∧
  ∀ (c : Nat) (p : Addr) (H' : Hp), Same H H' → IsCut ps c → MapAt K H' p (n - c) (cutM c ps) → Q (.ref p) H'
theorem scLLeast : FnScope ["_law_n", "_law_picks", "_law_k", "_law_pick"] ["_law_n", "_law_picks"] (defScope sLLeast) := ⟨rfl, rfl, rfl, by decide +kernel, rfl, by decide +kernel, by decide +kernel⟩
theorem ok_lleast {f : Addr} {fd : FuncData} (F : Fun K "_law_least" "_law_least" sLLeast f fd) (mlen : mg "len" = none) (mtup : mg "tuple" = none) : FnOk P w K mg base CX0 1 f fd ["_law_n", "_law_picks"] (spLLeast K) := by
  refine F.ok scLLeast (fun vs H Q E h => ?_) (fun cdv A outer s H vs Q E hr h => ?_)
  · obtain ⟨n, a, ps, rfl, _⟩ := h
    rfl
  obtain ⟨n, a, ps, rfl, hT, hl, hn, q⟩ := h
  have ha : SqT K H a (ps.map V.int) := hT.sq
  refine ⟨_, pss_cons (ps_set (i := 2) scLLeast.nd rfl (.inr rfl) pe_int)
    (C8.pss_cut (ps_while PassesOwn.never (PW.pt (pw_and (pt_cmpR op_lt (pv 2) (pv 0) (nomark _)) (pw_and (pt_cmpR op_lt (pv 2) (pe_callB call_len_seq (by rfl) mlen PySem.boot_len (pa_cons (pv 1) pa_nil)) (nomark _))
        (pw_and (pt_cmpR op_eq (pe_ix ix_tup (pv 1) (pv 2) (fun _ _ => rfl)) (pv 2) (nomark _))
        (pw_and1 (pt_cmpR op_eq (pe_bmT PySem.F.slot_tuple_count PySem.F.type_tuple_count mt_tcount (pv 1) (pa_cons (pv 2) pa_nil)) pe_int (nomark _)))))))
      (pss_one (ps_set (i := 2) scLLeast.nd rfl (.inr rfl) (pe_op op_add (pv 2) pe_int))))
    (pss_one (ps_ret (pe_tup (pa_cons (pe_op op_sub (pv 0) (pv 2)) (pa_cons (pe_callTy call_tuple_of (by rfl) mtup (by decide +kernel) (pa_cons
      (pe_lc (own := [("_law_pick", 3)]) (g := gName 3) (tt := tYes) rfl scLLeast.nd (pi_tup (pe_slice sl_tupA (pv 1) (po_some (pv 2)) po_none)) (blkOk_by (own := [("_law_pick", 3)]) (N := ["_law_n", "_law_picks", "_law_k", "_law_pick"]) (sc := defScope sLLeast) (by decide +kernel))
        (fun _ _ _ _ _ => pg_name (i := 3) scLLeast.nd rfl (Or.inl rfl)) (fun _ _ _ _ _ => pts_nil) (fun _ _ _ _ _ => pe_op op_sub (pv 3) (pv 2))) pa_nil)) pa_nil)))))), ?_⟩
  refine ⟨fun σ H' => ∃ c : Nat, σ = [some (.int n), some (.ref a), some (.int c), none] ∧ Same H H' ∧ IsCut ps c, ?_, ?_⟩
  · refine ⟨fun k σ H' => ∃ c : Nat, σ = [some (.int n), some (.ref a), some (.int c), none] ∧ Same H H' ∧ (∀ j, j < c → Stays ps j) ∧ k = ps.length - c, ⟨_, 0, rfl, Same.refl H, (fun j hj => absurd hj (Nat.not_lt_zero j)), rfl⟩, ?_⟩
    rintro k σ H' ⟨c, rfl, sm, hc, rfl⟩
    have ha' := Same.seqT sm ha
    refine ⟨_, rfl, _, rfl, _, _, rfl, rfl, _, rfl, ?_⟩
    by_cases h0 : (c : Int) < n
    · rw [decide_eq_true h0]
      refine iteT ?_
      refine ⟨_, rfl, _, rfl, a, _, rfl, .inr ha', _, _, rfl, rfl, _, rfl, ?_⟩
      rw [List.length_map]
      by_cases h1 : c < ps.length
      · rw [decide_eq_true (show (c : Int) < (ps.length : Int) by omega)]
        refine iteT ?_
        have hp : ps[c]? = some ps[c] := List.getElem?_eq_getElem h1
        refine ⟨_, rfl, _, rfl, a, _, _, .int ps[c], rfl, rfl, ha', atI_nat (by rw [List.getElem?_map, hp]; rfl), _, rfl, rfl, _, rfl, ?_⟩
        by_cases h2 : ps[c] = (c : Int)
        · rw [decide_eq_true (show V.int ps[c] = V.int (c : Int) by rw [h2])]
          refine iteT ?_
          refine ⟨_, rfl, ⟨a, _, rfl, hT.same sm⟩, _, rfl, a, ps, (c : Int), rfl, rfl, ha', rfl, _, rfl, ?_⟩
          have ec := count_stays hc (by rw [hp, h2])
          by_cases h3 : (c : Int) ∈ ps.drop (c + 1)
          · have h3' : ¬ ps.count (c : Int) = 1 := fun z => ec.mp z h3
            rw [decide_eq_false (show ¬ V.int ((ps.count (c : Int) : Nat) : Int) = V.int 1 from fun z => h3' (by have := V.int.inj z; omega))]
            refine iteF ?_
            exact ⟨c, rfl, sm, hc, fun z => z.2 h3⟩
          · have h3' : ps.count (c : Int) = 1 := ec.mpr h3
            rw [decide_eq_true (show V.int ((ps.count (c : Int) : Nat) : Int) = V.int 1 by rw [h3']; rfl)]
            refine iteT ?_
            refine ⟨fun σ' H3 => ∃ c' : Nat, σ' = [some (.int n), some (.ref a), some (.int c'), none] ∧ Same H H3 ∧ c' = c + 1, ?_, ?_⟩
            · rintro σ' H3 ⟨c', rfl, s3, rfl⟩
              refine ⟨_, ?_, c + 1, rfl, s3, fun j hj => ?_, rfl⟩
              · omega
              · by_cases e : j = c
                · subst e; exact ⟨by rw [hp, h2], h3⟩
                · exact hc j (by omega)
            · exact ⟨_, rfl, _, _, rfl, rfl, c + 1, rfl, sm, rfl⟩
        · rw [decide_eq_false (show ¬ V.int ps[c] = V.int (c : Int) from fun z => h2 (V.int.inj z))]
          refine iteF ?_
          exact ⟨c, rfl, sm, hc, fun z => h2 (by have := z.1; rw [hp] at this; exact Option.some.inj this)⟩
      · rw [decide_eq_false (show ¬ (c : Int) < (ps.length : Int) by omega)]
        refine iteF ?_
        exact ⟨c, rfl, sm, hc, fun z => h1 z.lt⟩
    · rw [decide_eq_false h0]
      refine iteF ?_
      exact ⟨c, rfl, sm, hc, fun z => h0 (hn _ (List.mem_of_getElem? z.1))⟩
  · rintro σ' H1 ⟨c, rfl, s1, hc⟩
    have ha1 := Same.seqT s1 ha
    refine ⟨_, rfl, _, rfl, _, _, rfl, rfl, _, rfl, _, rfl, (c : Int), rfl, ?_⟩
    refine slT_fromP (i := c) ha1 fun t H2 s2 ht => ?_
    refine ⟨t, rfl, ⟨_, ht⟩, fun D hD => ?_⟩
    refine lc_mapT (fun v => match v with | .int p => .int (p - c) | v => v) ht hD (by rw [List.length_map, List.length_drop]; omega) (fun x H3 R hx _ r => ?_) ?_
    · obtain ⟨p, _, rfl⟩ := List.mem_map.mp hx
      exact ⟨rfl, _, rfl, _, rfl, _, _, rfl, rfl, r⟩
    · refine ⟨D, _, rfl, .inl ⟨SqL.of upd_same, fun u nu => ?_⟩⟩
      refine ⟨(by show 2 ≤ sizeLine; decide), fun v nv => ?_⟩
      refine q c v _ (((s1.trans s2).trans (same_new hD _)).trans ((same_new nu _).trans (same_new nv _))) hc ⟨u, SqT.of upd_same, SqT.of ?_⟩
      refine (kn upd_same nv).trans ?_
      rw [List.map_map]
      unfold cutM
      rw [List.map_map]; rfl
end
end K46
namespace K46
open PySem PySem.W L2 SX Cm
structure TxtS (mg : Str → Option Value) : Prop where
  isi : mg "isinstance" = none
  str : mg "str" = none
  len : mg "len" = none
  all : mg "all" = none
  letters : ∃ t, mg "LETTERS" = some (.str "abcdefgh" t)
  most : ∃ t, mg "MOST_LEFT" = some (.int 12 t)
section
variable {P : Program} {w : World} {K : PySem.W.Frag} {mg : Str → Option Value} {base : Heap}
def spIsSh : Sp := fun vs H Q _ => ∃ x : List Nat, vs = [.str (S x)] ∧ x.length ≤ 1000 ∧ ∀ H', Same H H' → Q (.bl (shufB x)) H'
theorem scIsSh : FnScope ["thing", "taken", "stroke", "left", "letter"] ["thing"] (defScope sIsSh) := ⟨rfl, rfl, rfl, by decide +kernel, rfl, by decide +kernel, by decide +kernel⟩
theorem ok_isSh {f : Addr} {fd : FuncData} (F : Fun K "is_shuffle" "is_shuffle" sIsSh f fd) (T : TxtS mg) : FnOk P w K mg base CX0 1 f fd ["thing"] spIsSh := by
  refine F.ok scIsSh (fun vs H Q E h => ?_) (fun cdv A outer s H vs Q E hr h => ?_)
  · obtain ⟨x, rfl, _⟩ := h
    rfl
  obtain ⟨x, rfl, hl, q⟩ := h
  obtain ⟨tL, mL⟩ := T.letters
  obtain ⟨tM, mM⟩ := T.most
  refine ⟨_, pss_cons (ps_if (pt_not (pt_val (pe_callB call_isi (by rfl) T.isi PyProof.Rows.boot_isinstance (pa_cons (pv 0) (pa_cons (pe_bltn (v := .ty "str") (by rfl) T.str (by decide +kernel) rfl) pa_nil))))) (pss_one (ps_ret pe_bl)) pss_nil)
    (pss_cons (ps_asg (pe_partition (pv 0) pe_str) (pg_tup rfl (pgs_cons (pg_name (i := 1) scIsSh.nd rfl (.inr rfl)) (pgs_cons (pg_name (i := 2) scIsSh.nd rfl (.inl rfl)) (pgs_cons (pg_name (i := 3) scIsSh.nd rfl (.inl rfl)) pgs_nil)))))
    (pss_cons (ps_if (PW.pt (pw_or (pt_cmpR op_eq (pv 2) pe_str (nomark _)) (pw_or1 (pt_not (pt_val (pe_m1 PySem.F.slot_str_startswith PySem.F.type_str_startswith mt_startswith (pe_glob (v := .str "abcdefgh") rfl mL ⟨_, rfl⟩) (pv 1))))))) (pss_one (ps_ret pe_bl)) pss_nil)
    (pss_one (ps_ret (pe_and (pe_cmpR op_le (pe_callB call_len_str (by rfl) T.len PySem.boot_len (pa_cons (pv 3) pa_nil)) (pe_glob (v := .int 12) rfl mM ⟨_, rfl⟩) (nomark _))
      (pe_one (pe_callB (cr_all rfl) (by rfl) T.all PyProof.Rows.boot_all (pa_cons (pe_lc (own := [("letter", 4)]) (g := gName 4) (tt := tYes) rfl scIsSh.nd (pi_str (pv 3)) (blkOk_by (own := [("letter", 4)]) (N := ["thing", "taken", "stroke", "left", "letter"]) (sc := defScope sIsSh) (by decide +kernel))
        (fun _ _ _ _ _ => pg_name (i := 4) scIsSh.nd rfl (Or.inl rfl)) (fun _ _ _ _ _ => pts_nil) (fun _ _ _ _ _ => pe_cmpR op_in_sign (pv 4) (pv 1) rfl)) pa_nil)))))))), ?_⟩
  have e1 : ("-" : Str) = S [45] := by decide +kernel
  have e2 : ("" : Str) = S [] := by decide +kernel
  have e3 : ("abcdefgh" : Str) = S abc8 := by decide +kernel
  rw [e1, e2, e3]
  have hsz : ∀ y : List Nat, y.length ≤ 1000 → (S y).length ≤ sizeLine := fun y h => by rw [S_len]; exact Nat.le_of_lt (small1000 h)
  refine ⟨_, rfl, _, _, _, _, true, rfl, .ty _, .base (.str _), kit_ty (r := true) (by decide +kernel), _, rfl, iteF ?_⟩
  refine ⟨_, rfl, ⟨_, rfl⟩, _, _, rfl, rfl, rfl, hsz x hl, fun p hp => ?_⟩
  have hp' : ∀ o, Same H (upd H p o) := same_new hp
  cases hpar : TL.par [45] [] x with
  | none =>
    have hb : shufB x = false := by unfold shufB; rw [hpar]
    rw [partition_none (List.cons_ne_nil _ _) hpar]
    refine ⟨p, _, rfl, SqT.of upd_same, rfl, _, _, rfl, _, _, rfl, _, _, rfl, rfl, ?_⟩
    refine ⟨_, rfl, rfl, _, rfl, iteT (iteT ?_)⟩
    rw [hb] at q
    exact q _ (hp' _)
  | some tl =>
    obtain ⟨t, l⟩ := tl
    have hb : shufB x = (decide (abc8.take t.length = t) && (decide (l.length ≤ 12) && (l.map fun c => decide (c ∈ t)).all id)) := by unfold shufB; rw [hpar]
    rw [partition_some (List.cons_ne_nil _ _) hpar]
    have ll : l.length ≤ 1000 := Nat.le_trans (par_len _ _ _ _ hpar) hl
    refine ⟨p, _, rfl, SqT.of upd_same, rfl, _, _, rfl, _, _, rfl, _, _, rfl, rfl, ?_⟩
    refine ⟨_, rfl, rfl, _, rfl, iteF ?_⟩
    refine ⟨⟨_, rfl⟩, _, rfl, _, _, rfl, rfl, _, rfl, ?_⟩
    rw [starts_S]
    by_cases h1 : abc8.take t.length = t
    · rw [decide_eq_true h1]
      refine iteF ?_
      refine ⟨_, rfl, _, rfl, hsz l ll, _, _, rfl, rfl, _, rfl, ?_⟩
      rw [S_len]
      by_cases h2 : l.length ≤ 12
      · have h2' : (l.length : Int) ≤ 12 := by omega
        rw [decide_eq_true h2']
        refine iteT ?_
        refine ⟨_, rfl, _, rfl, fun D hD => ?_⟩
        refine lc_txt (fun c => .bl (decide (c ∈ t))) ll (fun c H R hc r => ?_) ?_
        · exact ⟨rfl, _, rfl, _, rfl, c, _, rfl, rfl, r⟩
        · refine ⟨D, l.map fun c => decide (c ∈ t), rfl, ?_, ?_⟩
          · rw [List.map_map]; exact SqL.of upd_same
          · rw [decide_eq_true h1, decide_eq_true h2, Bool.true_and, Bool.true_and] at hb
            rw [hb] at q
            exact q _ ((hp' _).trans (same_new hD _))
      · have h2' : ¬ (l.length : Int) ≤ 12 := by omega
        rw [decide_eq_false h2']
        refine iteF ?_
        rw [decide_eq_false h2, Bool.false_and, Bool.and_false] at hb
        rw [hb] at q
        exact q _ (hp' _)
    · rw [decide_eq_false h1]
      refine iteT ?_
      rw [decide_eq_false h1, Bool.false_and] at hb
      rw [hb] at q
      exact q _ (hp' _)
def spTaken (K : PySem.W.Frag) : Sp := fun vs H Q _ => ∃ (n : Nat) (l : List Nat), vs = [.str (S (shuf n l))] ∧ Shuf n l ∧ ∀ (p t : Addr) H', Same H H' → SqT K H' t ((pk (n, l)).map fun i : Nat => V.int (i : Int)) → SqT K H' p [.int n, .ref t] → Q (.ref p) H'
theorem scTaken : FnScope ["shuffle", "taken", "left", "letter"] ["shuffle"] (defScope sTaken) := ⟨rfl, rfl, rfl, by decide +kernel, rfl, by decide +kernel, by decide +kernel⟩
theorem ok_taken {f g : Addr} {fd gd : FuncData} (F : Fun K "taken_left" "taken_left" sTaken f fd) (T : TxtS mg) (mtup : mg "tuple" = none) (G : FnOk P w K mg base CX0 1 g gd ["thing"] spIsSh) (bG : L2.Binds K gd ["thing"] []) (kG : PySem.W.keepIn K (.ref g) = true) (mG : mg "is_shuffle" = some (.ref g)) : FnOk P w K mg base CX0 2 f fd ["shuffle"] (spTaken K) := by
  refine F.ok scTaken (fun vs H Q E h => ?_) (fun cdv A outer s H vs Q E hr h => ?_)
  · obtain ⟨n, l, rfl, _⟩ := h
    rfl
  obtain ⟨n, l, rfl, hs, q⟩ := h
  obtain ⟨tL, mL⟩ := T.letters
  refine ⟨_, pss_cons (ps_if (pt_not (pt_val (pe_call G hr rfl mG kG bG .nil pass0 (pa_cons (pv 0) pa_nil)))) (pss_one ps_never) pss_nil)
    (pss_cons (ps_asg (pe_split (pv 0) pe_str) (pg_unl rfl (pgs_cons (pg_name (i := 1) scTaken.nd rfl (.inl rfl)) (pgs_cons (pg_name (i := 2) scTaken.nd rfl (.inl rfl)) pgs_nil))))
    (pss_one (ps_ret (pe_tup (pa_cons (pe_callB call_len_str (by rfl) T.len PySem.boot_len (pa_cons (pv 1) pa_nil)) (pa_cons
      (pe_callTy call_tuple_of (by rfl) mtup (by decide +kernel) (pa_cons (pe_lc (own := [("letter", 3)]) (g := gName 3) (tt := tYes) (te := tBMS K "str" (rIndexX fun _ _ _ _ => False) (tC (.str "abcdefgh")) (tCons (tVar 3) tNil)) rfl scTaken.nd (pi_str (pv 2)) (blkOk_by (own := [("letter", 3)]) (N := ["shuffle", "taken", "left", "letter"]) (sc := defScope sTaken) (by decide +kernel))
        (fun _ _ _ _ _ => pg_name (i := 3) scTaken.nd rfl (Or.inl rfl)) (fun _ _ _ _ _ => pts_nil) (fun _ _ _ _ _ => pe_bmS PySem.F.plainAttrs_str PySem.F.slot_str_index PySem.F.type_str_index (mt_indexX rfl takes0) (pe_glob (v := .str "abcdefgh") rfl mL ⟨_, rfl⟩) (pa_cons (pv 3) pa_nil))) pa_nil)) pa_nil)))))), ?_⟩
  have e1 : ("-" : Str) = S [45] := by decide +kernel
  have e3 : ("abcdefgh" : Str) = S abc8 := by decide +kernel
  rw [e1, e3]
  refine ⟨_, rfl, _, rfl, by have := shuf_len hs; omega, fun H1 s1 => ?_⟩
  rw [shuf_ok hs]
  refine ⟨_, rfl, iteF ?_⟩
  refine ⟨_, rfl, ⟨_, rfl⟩, _, _, rfl, rfl, rfl, ?_, fun p hp => ?_⟩
  · rw [S_len]; exact Nat.le_of_lt (small1000 (by have := shuf_len hs; omega))
  rw [split_S (List.cons_ne_nil _ _) (by decide), shuf_spl hs]
  refine ⟨p, _, rfl, SqL.of upd_same, rfl, _, _, rfl, _, _, rfl, rfl, ?_⟩
  refine ⟨_, rfl, _, rfl, ?_, _, rfl, _, rfl, fun D hD => ?_⟩
  · rw [S_len, abc_len hs.n8]; exact Nat.le_of_lt (small1000 (by have := hs.n8; omega))
  refine lc_txt (fun c => .int ((c - 97 : Nat) : Int)) (by have := hs.l12; omega) (fun c H R hc r => ?_) ?_
  · refine ⟨rfl, rfl, _, rfl, _, _, rfl, rfl, fun k hk => ?_, fun hk => ?_⟩
    · rw [index_abc c (abc_sub (hs.inn c hc))] at hk
      cases hk; exact r
    · rw [index_abc c (abc_sub (hs.inn c hc))] at hk
      cases hk
  · refine ⟨D, _, rfl, .inl ⟨SqL.of upd_same, fun t ht => ?_⟩⟩
    refine ⟨(by show 2 ≤ sizeLine; decide), fun r hr' => ?_⟩
    rw [S_len, abc_len hs.n8]
    refine q r t _ (s1.trans ((same_new hp _).trans ((same_new hD _).trans ((same_new ht _).trans (same_new hr' _))))) ?_ (SqT.of upd_same)
    refine SqT.of ((kn upd_same hr').trans ?_)
    unfold pk
    rw [List.map_map]; rfl
end
end K46
namespace K46
open PySem PySem.W L2 SX Cm
theorem all_rep (n : Nat) : (List.replicate n true).all id = true := by
  rw [List.all_eq_true]
  intro b hb
  rw [(List.mem_replicate.mp hb).2]; rfl
section
variable {P : Program} {w : World} {K : PySem.W.Frag} {mg : Str → Option Value} {base : Heap}
def spWholeMap (K : PySem.W.Frag) : Sp := fun vs H Q _ => ∃ (a : Addr) (ws : List Wd), vs = [.ref a] ∧ SqT K H a (ws.map wV) ∧ Cm.Good ws ∧ ws.length ≤ 100 ∧
  ∀ (p : Addr) (H' : Hp), Same H H' → MapAt K H' p (wmap ws).1 (wmap ws).2 → Q (.ref p) H'
def spShRow (K : PySem.W.Frag) : Sp := fun vs H Q _ => ∃ (a : Addr) (ws : List Wd), vs = [.ref a] ∧ SqT K H a (ws.map wV) ∧ Cm.Good ws ∧ ws.length ≤ 100 ∧ ∀ H', Same H H' → Q (.bl true) H'
theorem scShRow : FnScope ["row", "word"] ["row"] (defScope sShRow) := ⟨rfl, rfl, rfl, by decide +kernel, rfl, by decide +kernel, by decide +kernel⟩
theorem ok_shRow {f gi : Addr} {fd gid : FuncData} (F : Fun K "is_shuffle_row" "is_shuffle_row" sShRow f fd)
    (I : FnOk P w K mg base CX0 1 gi gid ["thing"] spIsSh) (bI : L2.Binds K gid ["thing"] []) (kI : keepIn K (.ref gi) = true) (mI : mg "is_shuffle" = some (.ref gi))
    (mall : mg "all" = none) : FnOk P w K mg base CX0 2 f fd ["row"] (spShRow K) := by
  refine F.ok scShRow (fun vs H Q E h => ?_) (fun cdv A outer s H vs Q E hr h => ?_)
  · obtain ⟨a, ws, rfl, _⟩ := h
    rfl
  refine ⟨_, pss_one (ps_ret (pe_callB (cr_all rfl) (by rfl) mall PyProof.Rows.boot_all (pa_cons (pe_lc (own := [("word", 1)]) (g := gName 1) (tt := tYes) rfl scShRow.nd (pi_tup (pv 0)) (blkOk_by (own := [("word", 1)]) (N := ["row", "word"]) (sc := defScope sShRow) (by decide +kernel))
      (fun _ _ _ _ _ => pg_name (i := 1) scShRow.nd rfl (Or.inl rfl)) (fun _ _ _ _ _ => pts_nil) (fun _ _ _ _ _ => pe_call I hr rfl mI kI bI .nil pass0 (pa_cons (pv 1) pa_nil))) pa_nil))), ?_⟩
  obtain ⟨a, ws, rfl, ha, g, hl, q⟩ := h
  refine ⟨_, rfl, a, rfl, ⟨_, ha⟩, fun D hD => ?_⟩
  refine lc_tup (K := K) (a := a) (xs := ws.map wV) (fun i H' => Same H H' ∧ H' D = some (.lst ((List.replicate i true).map V.bl))) ⟨same_new hD _, upd_same⟩ (fun i H' _ e => Same.seqT e.1 ha) ?_ ?_
  · rintro i x H' hx ⟨sH, hDD⟩
    rw [List.getElem?_map] at hx
    obtain ⟨y, hy, rfl⟩ := Option.map_eq_some_iff.mp hx
    have hy' := g y (List.mem_of_getElem? hy)
    refine ⟨rfl, _, rfl, _, rfl, by have := shuf_len hy'; omega, fun H2 s2 => ?_⟩
    rw [shuf_ok hy']
    have hi : i < ws.length := (List.getElem?_eq_some_iff.mp hy).1
    refine ⟨_, s2 _ _ hDD, ?_, own_new (sH.trans s2) hD, ?_⟩
    · rw [List.length_map, List.length_replicate, sizeLine_eq]; omega
    · rw [upd_same, List.replicate_succ', List.map_append]; rfl
  rintro H1 ⟨s1, hD1⟩
  refine ⟨D, _, rfl, SqL.of hD1, ?_⟩
  rw [all_rep]
  exact q H1 s1
abbrev NW : List Str := ["row", "need", "things", "word", "n", "picks", "taken", "pick", "thing"]
theorem scWholeMap : FnScope NW ["row"] (defScope sWholeMap) := ⟨rfl, rfl, rfl, by decide +kernel, rfl, by decide +kernel, by decide +kernel⟩
theorem ok_wholeMap {f gi gt : Addr} {fd gid gtd : FuncData} (F : Fun K "whole_map" "whole_map" sWholeMap f fd)
    (I : FnOk P w K mg base CX0 2 gi gid ["row"] (spShRow K)) (bI : L2.Binds K gid ["row"] []) (kI : keepIn K (.ref gi) = true) (mI : mg "is_shuffle_row" = some (.ref gi))
    (T : FnOk P w K mg base CX0 2 gt gtd ["shuffle"] (spTaken K)) (bT : L2.Binds K gtd ["shuffle"] []) (kT : keepIn K (.ref gt) = true) (mT : mg "taken_left" = some (.ref gt))
    (mlen : mg "len" = none) (mtup : mg "tuple" = none) : FnOk P w K mg base CX0 3 f fd ["row"] (spWholeMap K) := by
  refine F.ok scWholeMap (fun vs H Q E h => ?_) (fun cdv A outer s H vs Q E hr h => ?_)
  · obtain ⟨a, ws, rfl, _⟩ := h
    rfl
  obtain ⟨a, ws, rfl, ha, g, hl, q⟩ := h
  refine ⟨_, pss_cons (ps_if (pt_not (pt_val (pe_call I hr rfl mI kI bI .nil pass0 (pa_cons (pv 0) pa_nil)))) (pss_one ps_never) pss_nil)
    (pss_cons (ps_set (i := 1) scWholeMap.nd rfl (.inr rfl) pe_int)
    (pss_cons (ps_set (i := 2) scWholeMap.nd rfl (.inl rfl) (pe_lst pa_nil))
    (pss_cons (ps_for PassesOwn.never rfl (pi_tup (pv 0)) (pg_name (i := 3) scWholeMap.nd rfl (Or.inl rfl))
      (pss_cons (ps_asg (pe_call T hr rfl mT kT bT .nil pass0 (pa_cons (pv 3) pa_nil)) (pg_tup rfl (pgs_cons (pg_name (i := 4) scWholeMap.nd rfl (.inl rfl)) (pgs_cons (pg_name (i := 5) scWholeMap.nd rfl (.inl rfl)) pgs_nil))))
      (C8.pss_cut (ps_while PassesOwn.never (pt_cmpR op_lt (pe_callB call_len_seq (by rfl) mlen PySem.boot_len (pa_cons (pv 2) pa_nil)) (pv 4) (nomark _))
        (pss_cons (ps_expr (pe_bm PySem.F.plainAttrs_list PySem.F.slot_list_insert PySem.F.type_list_insert mt_insert (pv 2) (pa_cons pe_int (pa_cons (pv 1) pa_nil))))
        (pss_one (ps_aug (i := 1) scWholeMap.nd rfl (.inr rfl) pe_int ip_add))))
      (pss_cons (ps_set (i := 6) scWholeMap.nd rfl (.inr rfl) (pe_slice sl_list (pv 2) (po_some (pe_op op_sub (pe_callB call_len_seq (by rfl) mlen PySem.boot_len (pa_cons (pv 2) pa_nil)) (pv 4))) po_none))
      (pss_one (ps_asg (pe_lc (own := [("pick", 7)]) (g := gName 7) (tt := tYes) (te := tOp (rIxL K) (tVar 6) (tVar 7)) rfl scWholeMap.nd (pi_tup (pv 5)) (blkOk_by (own := [("pick", 7)]) (N := NW) (sc := defScope sWholeMap) (by decide +kernel))
        (fun _ _ _ _ _ => pg_name (i := 7) scWholeMap.nd rfl (Or.inl rfl)) (fun _ _ _ _ _ => pts_nil) (fun _ _ _ _ _ => pe_ix ix_list (pv 6) (pv 7) (fun _ _ => rfl))) (pg_tail (pv 2) (pe_op op_sub (pe_callB call_len_seq (by rfl) mlen PySem.boot_len (pa_cons (pv 2) pa_nil)) (pv 4)))))))))
    (pss_one (ps_ret (pe_tup (pa_cons (pv 1) (pa_cons (pe_callTy call_tuple_of (by rfl) mtup (by decide +kernel) (pa_cons
      (pe_lc (own := [("thing", 8)]) (g := gName 8) (tt := tYes) rfl scWholeMap.nd (pi_list (pv 2)) (blkOk_by (own := [("thing", 8)]) (N := NW) (sc := defScope sWholeMap) (by decide +kernel))
        (fun _ _ _ _ _ => pg_name (i := 8) scWholeMap.nd rfl (Or.inl rfl)) (fun _ _ _ _ _ => pts_nil) (fun _ _ _ _ _ => pe_op op_sub (pe_op op_sub (pv 1) pe_int) (pv 8))) pa_nil)) pa_nil)))))))), ?_⟩
  refine ⟨_, rfl, a, ws, rfl, ha, g, hl, fun H1 s1 => ?_⟩
  refine ⟨_, rfl, iteF ?_⟩
  refine ⟨(by show 0 ≤ sizeLine; decide), fun L nL => ?_⟩
  have fL : H L = none := s1.free nL
  have s2 : Same H (upd H1 L (.lst [])) := s1.trans (same_new nL _)
  refine ⟨_, rfl, a, rfl, ⟨_, Same.seqT s2 ha⟩, ?_⟩
  refine for_tup (K := K) (a := a) (xs := ws.map wV) (fun i σ H' => ∃ (x1 x4 x5 x6 : Option V), σ = [some (.ref a), some (.int (wrun (0, []) (ws.take i)).1), some (.ref L), x1, x4, x5, x6, none, none] ∧ Same H H' ∧ H' L = some (.lst ((wrun (0, []) (ws.take i)).2.map V.int)))
    ⟨none, none, none, none, rfl, s2, upd_same⟩ (fun i σ H' _ h => by obtain ⟨_, _, _, _, _, e, _⟩ := h; exact Same.seqT e ha) ?_ ?_
  · rintro i x σ H3 hx ⟨x1, x4, x5, x6, rfl, s3, hL3⟩
    rw [List.getElem?_map] at hx
    obtain ⟨y, hy, rfl⟩ := Option.map_eq_some_iff.mp hx
    have hy' := g y (List.mem_of_getElem? hy)
    have hi : i < ws.length := (List.getElem?_eq_some_iff.mp hy).1
    have et : wrun (0, []) (ws.take (i + 1)) = wstep (wrun (0, []) (ws.take i)) y := by
      rw [List.take_add_one, hy, wrun_append]; rfl
    have stt := stt0.run (ws := ws.take i) (fun z hz => g z (List.mem_of_mem_take hz))
    rw [Nat.zero_add, List.length_take] at stt
    generalize wrun (0, []) (ws.take i) = st at et stt hL3
    obtain ⟨need, ts⟩ := st
    have b1 : need ≤ 8 * 100 := Nat.le_trans stt.need (by omega)
    have b2 : ts.length ≤ 12 * 100 := Nat.le_trans stt.len (by omega)
    have n8 := hy'.n8
    refine ⟨_, rfl, y.1, y.2, rfl, hy', fun p t H4 s4 ht hp => ?_⟩
    refine ⟨p, _, rfl, hp, rfl, _, _, rfl, _, _, rfl, rfl, ?_⟩
    refine ⟨fun σ H' => σ = [some (.ref a), some (.int ((need + (y.1 - ts.length) : Nat) : Int)), some (.ref L), some (wV y), some (.int y.1), some (.ref t), x6, none, none] ∧ Same H H' ∧ SqT K H' t ((pk y).map fun i : Nat => V.int (i : Int)) ∧ H' L = some (.lst ((up need (y.1 - ts.length) ts).map V.int)), ?_, ?_⟩
    · refine ⟨fun k σ H' => ∃ j : Nat, j ≤ y.1 - ts.length ∧ σ = [some (.ref a), some (.int ((need + j : Nat) : Int)), some (.ref L), some (wV y), some (.int y.1), some (.ref t), x6, none, none] ∧ Same H H' ∧ SqT K H' t ((pk y).map fun i : Nat => V.int (i : Int)) ∧ H' L = some (.lst ((up need j ts).map V.int)) ∧ k = y.1 - ts.length - j,
        ⟨_, 0, Nat.zero_le _, rfl, s3.trans s4, ht, s4 _ _ hL3, rfl⟩, ?_⟩
      rintro k σ H' ⟨j, hj, rfl, sj, htj, hLj, rfl⟩
      refine ⟨_, rfl, L, _, rfl, .inl (SqL.of hLj), _, rfl, _, _, rfl, rfl, _, rfl, ?_⟩
      rw [List.length_map, up_len]
      by_cases c : ts.length + j < y.1
      · rw [decide_eq_true (show ((ts.length + j : Nat) : Int) < (y.1 : Int) by omega)]
        refine iteT ?_
        refine ⟨fun σ' H5 => σ' = [some (.ref a), some (.int ((need + (j + 1) : Nat) : Int)), some (.ref L), some (wV y), some (.int y.1), some (.ref t), x6, none, none] ∧ Same H H5 ∧ SqT K H5 t ((pk y).map fun i : Nat => V.int (i : Int)) ∧ H5 L = some (.lst ((up need (j + 1) ts).map V.int)), ?_, ?_⟩
        · rintro σ' H5 ⟨rfl, s5, ht5, hL5⟩
          exact ⟨_, by omega, j + 1, by omega, rfl, s5, ht5, hL5, rfl⟩
        · refine ⟨_, rfl, .inl ⟨rfl, _, SqL.of hLj⟩, _, rfl, L, _, 0, _, rfl, rfl, hLj, ?_, by decide, by decide, ?_⟩
          · rw [List.length_map, up_len, sizeLine_eq]; omega
          refine ⟨_, rfl, _, _, rfl, rfl, rfl, own_new sj fL, ?_, ?_⟩
          · rcases htj with (h | ⟨o, h⟩) | h
            · exact .inl (.inl (by rw [upd_ne (fun z => by rw [z, hLj] at h; cases h)]; exact h))
            · exact .inl (.inr ⟨o, by rw [upd_ne (fun z => by rw [z, hLj] at h; cases h)]; exact h⟩)
            · exact .inr h
          · rw [upd_same]; rfl
      · rw [decide_eq_false (show ¬ ((ts.length + j : Nat) : Int) < (y.1 : Int) by omega)]
        refine iteF ?_
        have : j = y.1 - ts.length := by omega
        subst this
        exact ⟨rfl, sj, htj, hLj⟩
    rintro σ' H6 ⟨rfl, s6, ht6, hL6⟩
    have lu := up_len need (y.1 - ts.length) ts
    have est : wstep (need, ts) y = (need + (y.1 - ts.length), left y.1 (pk y) (up need (y.1 - ts.length) ts)) := rfl
    rw [est] at et
    generalize up need (y.1 - ts.length) ts = us at lu hL6 et
    have len : y.1 ≤ us.length := by omega
    have lus : us.length ≤ 2100 := by omega
    have ec : ((us.map V.int).length : Int) - (y.1 : Int) = ((us.length - y.1 : Nat) : Int) := by rw [List.length_map]; omega
    refine ⟨_, rfl, _, rfl, L, _, rfl, .inl (SqL.of hL6), _, rfl, _, _, rfl, rfl, _, rfl, L, _, rfl, SqL.of hL6, fun R nR => ?_⟩
    rw [ec, cut_from]
    have sR := same_new nR (.lst ((us.drop (us.length - y.1)).map V.int))
    have ht7 := Same.seqT sR ht6
    refine ⟨_, rfl, t, rfl, ⟨_, ht7⟩, fun E hE => ?_⟩
    refine lc_mapT (fun v => match v with | .int p => .int ((us.drop (us.length - y.1)).getD p.toNat 0) | v => v) ht7 hE (by rw [List.length_map]; have := pk_len hy'; omega) (fun x H8 R' hx sm r' => ?_) ?_
    · obtain ⟨m, hm, rfl⟩ := List.mem_map.mp hx
      have hlt := pk_lt hy' hm
      have hlt' : m < (us.drop (us.length - y.1)).length := by rw [List.length_drop]; omega
      refine ⟨rfl, _, rfl, _, rfl, R, _, _, _, rfl, rfl, SqL.of (sm _ _ upd_same), atI_nat (j := m) ?_, r'⟩
      rw [List.getElem?_map, List.getElem?_eq_getElem hlt']
      show some (V.int _) = some (V.int _)
      rw [Int.toNat_natCast, Cm.getD_at hlt']
    have hL8 := kn (o' := .lst (((pk y).map fun i : Nat => V.int (i : Int)).map fun v => match v with | .int p => V.int ((us.drop (us.length - y.1)).getD p.toNat 0) | v => v)) (kn (o' := .lst ((us.drop (us.length - y.1)).map V.int)) hL6 nR) hE
    refine ⟨_, rfl, _, rfl, L, _, rfl, .inl (SqL.of hL8), _, rfl, _, _, rfl, rfl, ?_⟩
    refine ⟨L, E, _, _, _, rfl, rfl, rfl, hL8, upd_same, ne_of_none (kn (o' := .lst ((us.drop (us.length - y.1)).map V.int)) hL6 nR) hE, ?_, ?_, ?_, ?_⟩
    · rw [ec]; omega
    · rw [ec, List.length_map]; omega
    · rw [List.length_map, List.length_map, List.length_map, sizeLine_eq]; have := pk_len hy'; omega
    rw [ec, et]
    refine ⟨_, _, _, _, rfl, own_new ((s6.trans sR).trans (same_new hE _)) fL, ?_⟩
    rw [upd_same, Int.toNat_natCast]
    unfold left
    rw [List.map_append, ← List.map_take, List.map_map, List.map_map]
    rfl
  · rintro σ H3 ⟨x1, x4, x5, x6, rfl, s3, hL3⟩
    rw [List.length_map, List.take_length] at hL3
    rw [List.length_map, List.take_length]
    have stt := stt0.run g
    rw [Nat.zero_add] at stt
    have b2 : (wrun (0, []) ws).2.length ≤ 12 * 100 := Nat.le_trans stt.len (by omega)
    refine ⟨_, rfl, _, rfl, L, rfl, ⟨_, SqL.of hL3⟩, fun E hE => ?_⟩
    refine lc_mapL (fun v => match v with | .int t => .int (((wrun (0, []) ws).1 : Int) - 1 - t) | v => v) (SqL.of hL3) hE (by rw [List.length_map]; omega) (fun x H8 R' hx sm r' => ?_) ?_
    · obtain ⟨m, hm, rfl⟩ := List.mem_map.mp hx
      exact ⟨rfl, _, rfl, _, _, rfl, rfl, _, rfl, _, _, rfl, rfl, r'⟩
    refine ⟨E, _, rfl, .inl ⟨SqL.of upd_same, fun u nu => ?_⟩⟩
    refine ⟨(by show 2 ≤ sizeLine; decide), fun v nv => ?_⟩
    refine q v _ ((s3.trans (same_new hE _)).trans ((same_new nu _).trans (same_new nv _))) ⟨u, SqT.of upd_same, SqT.of ((kn upd_same nv).trans ?_)⟩
    unfold wmap
    rw [List.map_map, List.map_map]; rfl
def spNeedOf (K : PySem.W.Frag) : Sp := fun vs H Q _ => ∃ (a : Addr) (ws : List Wd), vs = [.ref a] ∧ SqT K H a (ws.map wV) ∧ Cm.Good ws ∧ ws.length ≤ 80 ∧ ∀ (H' : Hp), Same H H' → Q (.int (wmap ws).1) H'
theorem scNeedOf : FnScope ["row"] ["row"] (defScope sNeedOf) := ⟨rfl, rfl, rfl, by decide +kernel, rfl, by decide +kernel, by decide +kernel⟩
theorem ok_needOf {f gi : Addr} {fd gid : FuncData} (F : Fun K "need_of" "need_of" sNeedOf f fd)
    (I : FnOk P w K mg base CX0 3 gi gid ["row"] (spWholeMap K)) (bI : L2.Binds K gid ["row"] []) (kI : keepIn K (.ref gi) = true) (mI : mg "whole_map" = some (.ref gi)) : FnOk P w K mg base CX0 4 f fd ["row"] (spNeedOf K) := by
  refine F.ok scNeedOf (fun vs H Q E h => ?_) (fun cdv A outer s H vs Q E hr h => ?_)
  · obtain ⟨a, ws, rfl, _⟩ := h
    rfl
  obtain ⟨a, ws, rfl, ha, g, hl, q⟩ := h
  refine ⟨_, pss_one (ps_ret (pe_ix ix_tup (pe_call I hr rfl mI kI bI .nil pass0 (pa_cons (pv 0) pa_nil)) pe_int (fun _ _ => rfl))), ?_⟩
  refine ⟨_, rfl, a, ws, rfl, ha, g, by omega, fun p H1 s1 hp => ?_⟩
  obtain ⟨t, hp1, hp2⟩ := hp
  exact ⟨p, _, 0, _, rfl, rfl, hp1, atI_nat (j := 0) rfl, q H1 s1⟩
end
end K46
namespace K46
open PySem PySem.W L2 SX Cm
def ng (t : Int) : V := .int (-1 - t)
theorem cutV_from (xs : List V) (i : Nat) : cutV xs (some (i : Int)) none = xs.drop i := by
  have := cut_from (fun v : V => v) xs i
  rw [List.map_id', List.map_id'] at this
  exact this
theorem cutV_upto (xs : List V) (i : Nat) : cutV xs none (some (i : Int)) = xs.take i := by
  have := cut_upto (fun v : V => v) xs i
  rw [List.map_id', List.map_id'] at this
  exact this
section
variable {P : Program} {w : World} {K : PySem.W.Frag} {mg : Str → Option Value} {base : Heap}
def spRead (K : PySem.W.Frag) : Sp := fun vs H Q _ => ∃ (n : Nat) (l : List Nat), vs = [.str (S (shuf n l))] ∧ Shuf n l ∧ ∀ (p t : Addr) H', Same H H' → H t = none → SqL K H' t ((pk (n, l)).map fun i : Nat => V.int (i : Int)) → SqT K H' p [.int n, .ref t] → Q (.ref p) H'
theorem scRead : FnScope ["_law_word_here", "_law_taken", "_law_left_here", "_law_letter"] ["_law_word_here"] (defScope sRead) := ⟨rfl, rfl, rfl, by decide +kernel, rfl, by decide +kernel, by decide +kernel⟩
theorem ok_read {f : Addr} {fd : FuncData} (F : Fun K "_law_read" "_law_read" sRead f fd) (mlen : mg "len" = none) : FnOk P w K mg base CX0 1 f fd ["_law_word_here"] (spRead K) := by
  refine F.ok scRead (fun vs H Q E h => ?_) (fun cdv A outer s H vs Q E hr h => ?_)
  · obtain ⟨n, l, rfl, _⟩ := h
    rfl
  obtain ⟨n, l, rfl, hs, q⟩ := h
  refine ⟨_, pss_cons (ps_asg (pe_split (pv 0) pe_str) (pg_unl rfl (pgs_cons (pg_name (i := 1) scRead.nd rfl (.inl rfl)) (pgs_cons (pg_name (i := 2) scRead.nd rfl (.inl rfl)) pgs_nil))))
    (pss_one (ps_ret (pe_tup (pa_cons (pe_callB call_len_str (by rfl) mlen PySem.boot_len (pa_cons (pv 1) pa_nil)) (pa_cons
      (pe_lc (own := [("_law_letter", 3)]) (g := gName 3) (tt := tYes) (te := tBMS K "str" (rIndexX fun _ _ _ _ => False) (tC (.str "abcdefgh")) (tCons (tVar 3) tNil)) rfl scRead.nd (pi_str (pv 2)) (blkOk_by (own := [("_law_letter", 3)]) (N := ["_law_word_here", "_law_taken", "_law_left_here", "_law_letter"]) (sc := defScope sRead) (by decide +kernel))
        (fun _ _ _ _ _ => pg_name (i := 3) scRead.nd rfl (Or.inl rfl)) (fun _ _ _ _ _ => pts_nil) (fun _ _ _ _ _ => pe_bmS PySem.F.plainAttrs_str PySem.F.slot_str_index PySem.F.type_str_index (mt_indexX rfl takes0) pe_str (pa_cons (pv 3) pa_nil))) pa_nil))))), ?_⟩
  have e1 : ("-" : Str) = S [45] := by decide +kernel
  rw [e1, lit_abc]
  refine ⟨_, rfl, ⟨_, rfl⟩, _, _, rfl, rfl, rfl, ?_, fun p hp => ?_⟩
  · rw [S_len]; exact Nat.le_of_lt (small1000 (by have := shuf_len hs; omega))
  rw [split_S (List.cons_ne_nil _ _) (by decide), shuf_spl hs]
  refine ⟨p, _, rfl, SqL.of upd_same, rfl, _, _, rfl, _, _, rfl, rfl, ?_⟩
  refine ⟨_, rfl, _, rfl, ?_, _, rfl, _, rfl, fun D hD => ?_⟩
  · rw [S_len, abc_len hs.n8]; exact Nat.le_of_lt (small1000 (by have := hs.n8; omega))
  refine lc_txt (fun c => .int ((c - 97 : Nat) : Int)) (by have := hs.l12; omega) (fun c H R hc r => ?_) ?_
  · refine ⟨rfl, rfl, _, rfl, _, _, rfl, rfl, fun k hk => ?_, fun hk => ?_⟩
    · rw [index_abc c (abc_sub (hs.inn c hc))] at hk
      cases hk; exact r
    · rw [index_abc c (abc_sub (hs.inn c hc))] at hk
      cases hk
  · refine ⟨(by show 2 ≤ sizeLine; decide), fun r hr' => ?_⟩
    rw [S_len, abc_len hs.n8]
    refine q r D _ ((same_new hp _).trans ((same_new hD _).trans (same_new hr' _))) ((same_new hp _).free hD) ?_ (SqT.of upd_same)
    refine SqL.of ((kn upd_same hr').trans ?_)
    unfold pk
    rw [List.map_map]; rfl
def spWhole (K : PySem.W.Frag) : Sp := fun vs H Q _ => ∃ (a : Addr) (ws : List Wd), vs = [.ref a] ∧ SqT K H a (ws.map wV) ∧ Cm.Good ws ∧ ws.length ≤ 100 ∧
  ∀ (p t : Addr) (H' : Hp), Same H H' → SqT K H' p [.int (wmap ws).1, .ref t] → TupO H' t ((wmap ws).2.map V.int) → Q (.ref p) H'
abbrev NL : List Str := ["_law_row_here", "_law_stack", "_law_gone", "_law_word_here", "_law_many", "_law_left_here", "_law_top", "_law_k", "_law_thing"]
theorem scWhole : FnScope NL ["_law_row_here"] (defScope sWhole) := ⟨rfl, rfl, rfl, by decide +kernel, rfl, by decide +kernel, by decide +kernel⟩
theorem ok_whole {f gt : Addr} {fd gtd : FuncData} (F : Fun K "_law_whole" "_law_whole" sWhole f fd)
    (T : FnOk P w K mg base CX0 1 gt gtd ["_law_word_here"] (spRead K)) (bT : L2.Binds K gtd ["_law_word_here"] []) (kT : keepIn K (.ref gt) = true) (mT : mg "_law_read" = some (.ref gt))
    (mlen : mg "len" = none) (mtup : mg "tuple" = none) : FnOk P w K mg base CX0 2 f fd ["_law_row_here"] (spWhole K) := by
  refine F.ok scWhole (fun vs H Q E h => ?_) (fun cdv A outer s H vs Q E hr h => ?_)
  · obtain ⟨a, ws, rfl, _⟩ := h
    rfl
  obtain ⟨a, ws, rfl, ha, g, hl, q⟩ := h
  refine ⟨_, pss_cons (ps_set (i := 1) scWhole.nd rfl (.inl rfl) (pe_lst pa_nil))
    (pss_cons (ps_set (i := 2) scWhole.nd rfl (.inr rfl) pe_int)
    (pss_cons (ps_for PassesOwn.never rfl (pi_tup (pv 0)) (pg_name (i := 3) scWhole.nd rfl (Or.inl rfl))
      (pss_cons (ps_asg (pe_call T hr rfl mT kT bT .nil pass0 (pa_cons (pv 3) pa_nil)) (pg_tup rfl (pgs_cons (pg_name (i := 4) scWhole.nd rfl (.inl rfl)) (pgs_cons (pg_name (i := 5) scWhole.nd rfl (.inl rfl)) pgs_nil))))
      (C8.pss_cut (ps_while PassesOwn.never (pt_cmpR op_lt (pe_callB call_len_seq (by rfl) mlen PySem.boot_len (pa_cons (pv 1) pa_nil)) (pv 4) (nomark _))
        (pss_cons (ps_set (i := 2) scWhole.nd rfl (.inr rfl) (pe_op op_add (pv 2) pe_int))
        (pss_one (ps_expr (pe_bm PySem.F.plainAttrs_list PySem.F.slot_list_insert PySem.F.type_list_insert mt_insert (pv 1) (pa_cons pe_int (pa_cons (pe_op op_sub pe_int (pv 2)) pa_nil)))))))
      (pss_cons (ps_set (i := 6) scWhole.nd rfl (.inr rfl) (pe_slice sl_list (pv 1) (po_some (pe_op op_sub (pe_callB call_len_seq (by rfl) mlen PySem.boot_len (pa_cons (pv 1) pa_nil)) (pv 4))) po_none))
      (pss_one (ps_set (i := 1) scWhole.nd rfl (.inl rfl) (pe_op op_cat (pe_slice sl_list (pv 1) po_none (po_some (pe_op op_sub (pe_callB call_len_seq (by rfl) mlen PySem.boot_len (pa_cons (pv 1) pa_nil)) (pv 4))))
        (pe_lc (own := [("_law_k", 7)]) (g := gName 7) (tt := tYes) (te := tOp (rIxL K) (tVar 6) (tVar 7)) rfl scWhole.nd (pi_list (pv 5)) (blkOk_by (own := [("_law_k", 7)]) (N := NL) (sc := defScope sWhole) (by decide +kernel))
          (fun _ _ _ _ _ => pg_name (i := 7) scWhole.nd rfl (Or.inl rfl)) (fun _ _ _ _ _ => pts_nil) (fun _ _ _ _ _ => pe_ix ix_list (pv 6) (pv 7) (fun _ _ => rfl))))))))))
    (pss_one (ps_ret (pe_tup (pa_cons (pv 2) (pa_cons (pe_callTy call_tuple_ofD (by rfl) mtup (by decide +kernel) (pa_cons
      (pe_lc (own := [("_law_thing", 8)]) (g := gName 8) (tt := tYes) rfl scWhole.nd (pi_list (pv 1)) (blkOk_by (own := [("_law_thing", 8)]) (N := NL) (sc := defScope sWhole) (by decide +kernel))
        (fun _ _ _ _ _ => pg_name (i := 8) scWhole.nd rfl (Or.inl rfl)) (fun _ _ _ _ _ => pts_nil) (fun _ _ _ _ _ => pe_op op_add (pv 2) (pv 8))) pa_nil)) pa_nil))))))), ?_⟩
  refine ⟨(by show 0 ≤ sizeLine; decide), fun L0 nL0 => ?_⟩
  have s2 : Same H (upd H L0 (.lst [])) := same_new nL0 _
  refine ⟨_, rfl, a, rfl, ⟨_, Same.seqT s2 ha⟩, ?_⟩
  refine for_tup (K := K) (a := a) (xs := ws.map wV) (fun i σ H' => ∃ (L : Addr) (x3 x4 x5 x6 : Option V), σ = [some (.ref a), some (.ref L), some (.int (wrun (0, []) (ws.take i)).1), x3, x4, x5, x6, none, none] ∧ Same H H' ∧ H L = none ∧ H' L = some (.lst ((wrun (0, []) (ws.take i)).2.map ng)))
    ⟨L0, none, none, none, none, rfl, s2, nL0, upd_same⟩ (fun i σ H' _ h => by obtain ⟨_, _, _, _, _, _, e, _⟩ := h; exact Same.seqT e ha) ?_ ?_
  · rintro i x σ H3 hx ⟨L, x3, x4, x5, x6, rfl, s3, fL, hL3⟩
    rw [List.getElem?_map] at hx
    obtain ⟨y, hy, rfl⟩ := Option.map_eq_some_iff.mp hx
    have hy' := g y (List.mem_of_getElem? hy)
    have hi : i < ws.length := (List.getElem?_eq_some_iff.mp hy).1
    have et : wrun (0, []) (ws.take (i + 1)) = wstep (wrun (0, []) (ws.take i)) y := by
      rw [List.take_add_one, hy, wrun_append]; rfl
    have stt := stt0.run (ws := ws.take i) (fun z hz => g z (List.mem_of_mem_take hz))
    rw [Nat.zero_add, List.length_take] at stt
    generalize wrun (0, []) (ws.take i) = st at et stt hL3
    obtain ⟨need, ts⟩ := st
    have b1 : need ≤ 8 * 100 := Nat.le_trans stt.need (by omega)
    have b2 : ts.length ≤ 12 * 100 := Nat.le_trans stt.len (by omega)
    have n8 := hy'.n8
    refine ⟨_, rfl, y.1, y.2, rfl, hy', fun p t H4 s4 nt ht hp => ?_⟩
    refine ⟨p, _, rfl, hp, rfl, _, _, rfl, _, _, rfl, rfl, ?_⟩
    have hLt : L ≠ t := ne_of_none hL3 nt
    refine ⟨fun σ H' => σ = [some (.ref a), some (.ref L), some (.int ((need + (y.1 - ts.length) : Nat) : Int)), some (wV y), some (.int y.1), some (.ref t), x6, none, none] ∧ Same H H' ∧ SqL K H' t ((pk y).map fun i : Nat => V.int (i : Int)) ∧ H' L = some (.lst ((up need (y.1 - ts.length) ts).map ng)), ?_, ?_⟩
    · refine ⟨fun k σ H' => ∃ j : Nat, j ≤ y.1 - ts.length ∧ σ = [some (.ref a), some (.ref L), some (.int ((need + j : Nat) : Int)), some (wV y), some (.int y.1), some (.ref t), x6, none, none] ∧ Same H H' ∧ SqL K H' t ((pk y).map fun i : Nat => V.int (i : Int)) ∧ H' L = some (.lst ((up need j ts).map ng)) ∧ k = y.1 - ts.length - j,
        ⟨_, 0, Nat.zero_le _, rfl, s3.trans s4, ht, s4 _ _ hL3, rfl⟩, ?_⟩
      rintro k σ H' ⟨j, hj, rfl, sj, htj, hLj, rfl⟩
      refine ⟨_, rfl, L, _, rfl, .inl (SqL.of hLj), _, rfl, _, _, rfl, rfl, _, rfl, ?_⟩
      rw [List.length_map, up_len]
      by_cases c : ts.length + j < y.1
      · rw [decide_eq_true (show ((ts.length + j : Nat) : Int) < (y.1 : Int) by omega)]
        refine iteT ?_
        refine ⟨fun σ' H5 => σ' = [some (.ref a), some (.ref L), some (.int ((need + (j + 1) : Nat) : Int)), some (wV y), some (.int y.1), some (.ref t), x6, none, none] ∧ Same H H5 ∧ SqL K H5 t ((pk y).map fun i : Nat => V.int (i : Int)) ∧ H5 L = some (.lst ((up need (j + 1) ts).map ng)), ?_, ?_⟩
        · rintro σ' H5 ⟨rfl, s5, ht5, hL5⟩
          exact ⟨_, by omega, j + 1, by omega, rfl, s5, ht5, hL5, rfl⟩
        · refine ⟨_, rfl, _, _, rfl, rfl, _, rfl, .inl ⟨rfl, _, SqL.of hLj⟩, _, rfl, _, _, rfl, rfl, L, _, 0, _, rfl, rfl, hLj, ?_, by decide, by decide, rfl, own_new sj fL, ?_, ?_⟩
          · rw [List.length_map, up_len, sizeLine_eq]; omega
          · rcases htj with (h | ⟨o, h⟩) | h
            · exact .inl (.inl (by rw [upd_ne hLt.symm]; exact h))
            · exact .inl (.inr ⟨o, by rw [upd_ne hLt.symm]; exact h⟩)
            · exact .inr h
          · rw [upd_same]
            have e : (0 : Int) - (((need + j : Nat) : Int) + 1) = -1 - ((need + j : Nat) : Int) := by omega
            show some (HO.lst ([] ++ [V.int (0 - (((need + j : Nat) : Int) + 1))] ++ (up need j ts).map ng)) = _
            rw [e]; rfl
      · rw [decide_eq_false (show ¬ ((ts.length + j : Nat) : Int) < (y.1 : Int) by omega)]
        refine iteF ?_
        have : j = y.1 - ts.length := by omega
        subst this
        exact ⟨rfl, sj, htj, hLj⟩
    rintro σ' H6 ⟨rfl, s6, ht6, hL6⟩
    have lu := up_len need (y.1 - ts.length) ts
    have est : wstep (need, ts) y = (need + (y.1 - ts.length), left y.1 (pk y) (up need (y.1 - ts.length) ts)) := rfl
    rw [est] at et
    generalize up need (y.1 - ts.length) ts = us at lu hL6 et
    have len : y.1 ≤ us.length := by omega
    have lus : us.length ≤ 2100 := by omega
    have ec : ((us.map ng).length : Int) - (y.1 : Int) = ((us.length - y.1 : Nat) : Int) := by rw [List.length_map]; omega
    refine ⟨_, rfl, _, rfl, L, _, rfl, .inl (SqL.of hL6), _, rfl, _, _, rfl, rfl, _, rfl, L, _, rfl, SqL.of hL6, fun R nR => ?_⟩
    rw [ec, cut_from]
    have sR := same_new nR (.lst ((us.drop (us.length - y.1)).map ng))
    have hL7 := kn (o' := .lst ((us.drop (us.length - y.1)).map ng)) hL6 nR
    refine ⟨_, rfl, _, rfl, L, _, rfl, .inl (SqL.of hL7), _, rfl, _, _, rfl, rfl, _, rfl, L, _, rfl, SqL.of hL7, fun U nU => ?_⟩
    rw [ec, cut_upto]
    have sU := same_new nU (.lst ((us.take (us.length - y.1)).map ng))
    have ht7 := Same.seq (sR.trans sU) ht6
    refine ⟨_, rfl, t, rfl, ⟨_, ht7⟩, fun E hE => ?_⟩
    refine lc_mapL (fun v => match v with | .int p => ng ((us.drop (us.length - y.1)).getD p.toNat 0) | v => v) ht7 hE (by rw [List.length_map]; have := pk_len hy'; omega) (fun x H8 R' hx sm r' => ?_) ?_
    · obtain ⟨m, hm, rfl⟩ := List.mem_map.mp hx
      have hlt := pk_lt hy' hm
      have hlt' : m < (us.drop (us.length - y.1)).length := by rw [List.length_drop]; omega
      refine ⟨rfl, _, rfl, _, rfl, R, _, _, _, rfl, rfl, SqL.of (sm _ _ (sU _ _ upd_same)), atI_nat (j := m) ?_, r'⟩
      rw [List.getElem?_map, List.getElem?_eq_getElem hlt']
      show some (ng _) = some (ng _)
      rw [Int.toNat_natCast, Cm.getD_at hlt']
    refine ⟨U, E, _, _, rfl, rfl, kn upd_same hE, upd_same, ?_, fun M nM => ?_⟩
    · rw [List.length_map, List.length_map, List.length_map, List.length_take, sizeLine_eq]; have := pk_len hy'; omega
    rw [et]
    have sM := (((s6.trans sR).trans sU).trans (same_new hE (.lst (((pk y).map fun i : Nat => V.int (i : Int)).map fun v => match v with | .int p => ng ((us.drop (us.length - y.1)).getD p.toNat 0) | v => v))))
    refine ⟨M, _, _, _, _, rfl, sM.trans (same_new nM _), sM.free nM, ?_⟩
    rw [upd_same]
    unfold left
    rw [List.map_append, List.map_map, List.map_map]
    rfl
  · rintro σ H3 ⟨L, x3, x4, x5, x6, rfl, s3, fL, hL3⟩
    rw [List.length_map, List.take_length] at hL3
    rw [List.length_map, List.take_length]
    have stt := stt0.run g
    rw [Nat.zero_add] at stt
    have b2 : (wrun (0, []) ws).2.length ≤ 12 * 100 := Nat.le_trans stt.len (by omega)
    refine ⟨_, rfl, _, rfl, L, rfl, ⟨_, SqL.of hL3⟩, fun E hE => ?_⟩
    refine lc_mapL (fun v => match v with | .int t => .int (((wrun (0, []) ws).1 : Int) + t) | v => v) (SqL.of hL3) hE (by rw [List.length_map]; omega) (fun x H8 R' hx sm r' => ?_) ?_
    · obtain ⟨m, hm, rfl⟩ := List.mem_map.mp hx
      exact ⟨rfl, _, rfl, _, rfl, _, _, rfl, rfl, r'⟩
    refine ⟨E, _, rfl, SqL.of upd_same, fun u o nu ho => ?_⟩
    refine ⟨(by show 2 ≤ sizeLine; decide), fun v nv => ?_⟩
    refine q v u _ ((s3.trans (same_new hE _)).trans ((same_new nu _).trans (same_new nv _))) (SqT.of upd_same) ⟨o, ho, (kn upd_same nv).trans ?_⟩
    unfold wmap
    rw [List.map_map, List.map_map]
    congr 4
    funext t
    show V.int (((wrun (0, []) ws).1 : Int) + (-1 - t)) = V.int (((wrun (0, []) ws).1 : Int) - 1 - t)
    congr 1; omega
end
end K46
namespace K46
open PySem PySem.W L2 SX Cm
def menu : List Wd := [(1, [97, 97]), (1, []), (2, [98, 97]), (3, [98, 99, 97]), (2, [97, 98, 97]), (0, []), (2, [98]), (3, [99, 97, 98]), (1, [97]), (2, [97, 98]), (3, [97, 99, 98]), (4, [100, 97, 98, 99])]
theorem menu_good : ∀ x ∈ menu, x.1 ≤ 8 ∧ x.2.length ≤ 12 ∧ ∀ c ∈ x.2, c ∈ abc x.1 := by decide +kernel
theorem menu_lit : [V.str "a-aa", V.str "a-", V.str "ab-ba", V.str "abc-bca", V.str "ab-aba", V.str "-", V.str "ab-b", V.str "abc-cab", V.str "a-a", V.str "ab-ab", V.str "abc-acb", V.str "abcd-dabc"] = menu.map wV := by decide +kernel
theorem Good.of_mem {x : Wd} (h : x.1 ≤ 8 ∧ x.2.length ≤ 12 ∧ ∀ c ∈ x.2, c ∈ abc x.1) : Shuf x.1 x.2 := ⟨h.1, h.2.1, h.2.2⟩
section
variable {P : Program} {w : World} {K : PySem.W.Frag} {mg : Str → Option Value} {base : Heap}
def spShuffle : Sp := fun vs H Q _ => ∃ (d : Addr) (m b : Int), vs = [.ref d, .int m, .int b] ∧ Dk H d ∧ 0 ≤ m ∧ m ≤ 8 ∧ 0 ≤ b ∧ b ≤ 12 ∧
  ∀ (x : Wd) (H' : Hp), Shuf x.1 x.2 → Kp [d] H H' → Dk H' d → Q (wV x) H'
abbrev NS : List Str := ["_law_deck_here", "_law_most", "_law_long", "_law_letters", "_law_left_here", "_law_k"]
theorem scShuffle : FnScope NS ["_law_deck_here", "_law_most", "_law_long"] (defScope sShuffle) := ⟨rfl, rfl, rfl, by decide +kernel, rfl, by decide +kernel, by decide +kernel⟩
theorem ok_shuffle {f g : Addr} {fd gd : FuncData} (F : Fun K "_law_shuffle" "_law_shuffle" sShuffle f fd) (G : FnOk P w K mg base CX0 2 g gd ["_law_deck_here", "_law_most"] spDraw) (bG : L2.Binds K gd ["_law_deck_here", "_law_most"] []) (kG : PySem.W.keepIn K (.ref g) = true) (mG : mg "_law_draw" = some (.ref g)) (mrange : mg "range" = none) (mint : mg "int" = none) (mlen : mg "len" = none) :
    FnOk P w K mg base CX0 3 f fd ["_law_deck_here", "_law_most", "_law_long"] spShuffle := by
  refine F.ok scShuffle (fun vs H Q E h => ?_) (fun cdv A outer s H vs Q E hr h => ?_)
  · obtain ⟨d, m, b, rfl, _⟩ := h
    rfl
  obtain ⟨d, m, b, rfl, hD, m0, m8, b0, b12, q⟩ := h
  refine ⟨_, pss_cons (ps_set (i := 3) scShuffle.nd rfl (.inl rfl) (pe_slice sl_str pe_str po_none (po_some (pe_call G hr rfl mG kG bG .nil pass0 (pa_cons (pv 0) (pa_cons (pe_op op_add (pv 1) pe_int) pa_nil))))))
    (pss_cons (ps_set (i := 4) scShuffle.nd rfl (.inl rfl) pe_str)
    (pss_cons (ps_for PassesOwn.never rfl (pi_range1 rfl mrange (pa_cons (pe_op op_mul (pe_call G hr rfl mG kG bG .nil pass0 (pa_cons (pv 0) (pa_cons (pe_op op_add (pv 2) pe_int) pa_nil))) (pe_callTy call_int1 (by rfl) mint (by decide +kernel) (pa_cons (pe_cmpR op_ne (pv 3) pe_str (nomark _)) pa_nil))) pa_nil)) (pg_name (i := 5) scShuffle.nd rfl (.inl rfl))
      (pss_one (ps_set (i := 4) scShuffle.nd rfl (.inl rfl) (pe_op op_add_str (pv 4) (pe_ix ix_str (pv 3) (pe_call G hr rfl mG kG bG .nil pass0 (pa_cons (pv 0) (pa_cons (pe_callB call_len_str (by rfl) mlen PySem.boot_len (pa_cons (pv 3) pa_nil)) pa_nil))) (fun _ _ => rfl))))))
    (pss_one (ps_ret (pe_op op_add_str (pe_op op_add_str (pv 3) pe_str) (pv 4)))))), ?_⟩
  refine ⟨_, rfl, _, rfl, _, _, rfl, rfl, d, m + 1, rfl, hD, by omega, by omega, fun n H1 n0 n1 k1 D1 => ?_⟩
  obtain ⟨n, rfl⟩ := Int.eq_ofNat_of_zero_le n0
  have n8 : n ≤ 8 := by omega
  refine ⟨_, rfl, _, rfl, (by show Str.length "abcdefgh" ≤ sizeLine; decide +kernel), ?_⟩
  rw [lit_abc, cutS_to n0]
  have ee : ("" : Str) = S [] := by decide +kernel
  have es : ("-" : Str) = S [45] := by decide +kernel
  rw [ee, es]
  have en : List.take (n : Int).toNat abc8 = abc n := rfl
  rw [en]
  refine ⟨_, rfl, _, rfl, _, _, rfl, rfl, d, b + 1, rfl, D1, by omega, by omega, fun r H2 r0 r1 k2 D2 => ?_⟩
  refine ⟨_, rfl, rfl, .inr ⟨_, rfl, _, _, rfl, rfl, .inl ⟨by omega, by omega⟩, ?_⟩⟩
  obtain ⟨j, ej, j0, j1, j2⟩ : ∃ j : Int, r * (if (!decide (V.str (S (abc n)) = V.str (S []))) = true then 1 else 0) = j ∧ 0 ≤ j ∧ j ≤ 12 ∧ (0 < j → 0 < n) := by
    by_cases c : n = 0
    · subst c
      exact ⟨0, Int.mul_zero r, by omega, by omega, by omega⟩
    · have h1 : ¬ (V.str (S (abc n)) = V.str (S [])) := fun z => by
        have z2 := congrArg (fun v => match v with | V.str y => Str.length y | _ => 0) z
        have z3 : (S (abc n)).length = (S []).length := z2
        rw [S_len, S_len, abc_len n8] at z3
        exact c z3
      rw [decide_eq_false h1]
      exact ⟨r, Int.mul_one r, r0, by omega, by omega⟩
  refine ⟨j, congrArg (fun z : Int => [V.int z]) ej, by omega, by omega, for_range (lo := 0) (n := j.toNat) (fun i σ H' => ∃ (l : List Nat) (x5 : Option V), σ = [some (.ref d), some (.int m), some (.int b), some (.str (S (abc n))), some (.str (S l)), x5] ∧ l.length = i ∧ (∀ c ∈ l, c ∈ abc n) ∧ Kp [d] H H' ∧ Dk H' d)
    ⟨[], none, rfl, rfl, (fun c h => nomatch h), k1.trans k2, D2⟩ ?_ ?_⟩
  · rintro i σ H' hi ⟨l, x5, rfl, hl, hc, k4, D4⟩
    have hn := j2 (by omega)
    refine ⟨_, rfl, _, rfl, _, rfl, _, rfl, _, rfl, ?_, d, _, rfl, D4, ?_, ?_, fun u H5 u0 u1 k5 D5 => ?_⟩
    · rw [S_len, abc_len n8]; exact Nat.le_of_lt (small1000 (by omega))
    · rw [S_len, abc_len n8]; omega
    · rw [S_len, abc_len n8]; omega
    rw [S_len, abc_len n8] at u1
    obtain ⟨u, rfl⟩ := Int.eq_ofNat_of_zero_le u0
    have hu : u < (abc n).length := by rw [abc_len n8]; omega
    refine ⟨_, _, _, rfl, rfl, ?_, atI_nat (List.getElem?_eq_getElem hu), ?_⟩
    · rw [S_len, abc_len n8]; exact Nat.le_of_lt (small1000 (by omega))
    refine ⟨_, _, rfl, rfl, ?_, ?_⟩
    · rw [S_len]; exact Nat.le_of_lt (small1000 (by show l.length + 1 ≤ 1000; omega))
    · have e1 : S l ++ (⟨#[(abc n)[u]]⟩ : Str) = S (l ++ [(abc n)[u]]) := S_cat l [(abc n)[u]]
      rw [e1]
      refine ⟨l ++ [(abc n)[u]], _, rfl, ?_, ?_, k4.trans k5, D5⟩
      · rw [List.length_append, List.length_singleton, hl]
      · intro z hz
        rcases List.mem_append.mp hz with h | h
        · exact hc z h
        · rw [List.mem_singleton.mp h]; exact List.getElem_mem hu
  · rintro σ H' ⟨l, x5, rfl, hl, hc, k4, D4⟩
    have hs : Shuf n l := ⟨n8, by omega, hc⟩
    refine ⟨_, rfl, _, _, rfl, rfl, ?_, _, rfl, _, _, rfl, rfl, ?_, ?_⟩
    · rw [S_len, S_len, abc_len n8]; exact Nat.le_of_lt (small1000 (by show n + 1 ≤ 1000; omega))
    · rw [S_cat, S_len, S_len, List.length_append, abc_len n8]; have := hs.l12; exact Nat.le_of_lt (small1000 (by show n + 1 + l.length ≤ 1000; omega))
    · rw [S_cat, S_cat, List.append_assoc]
      exact q (n, l) H' hs k4 D4
def spWord : Sp := fun vs H Q _ => ∃ (d : Addr), vs = [.ref d] ∧ Dk H d ∧ ∀ (x : Wd) (H' : Hp), Shuf x.1 x.2 → Kp [d] H H' → Dk H' d → Q (wV x) H'
theorem scWord : FnScope ["_law_deck_here", "_law_menu", "_law_way"] ["_law_deck_here"] (defScope sWord) := ⟨rfl, rfl, rfl, by decide +kernel, rfl, by decide +kernel, by decide +kernel⟩
theorem ok_word {f g gs : Addr} {fd gd gsd : FuncData} (F : Fun K "_law_word" "_law_word" sWord f fd) (G : FnOk P w K mg base CX0 2 g gd ["_law_deck_here", "_law_most"] spDraw) (bG : L2.Binds K gd ["_law_deck_here", "_law_most"] []) (kG : PySem.W.keepIn K (.ref g) = true) (mG : mg "_law_draw" = some (.ref g))
    (Z : FnOk P w K mg base CX0 3 gs gsd ["_law_deck_here", "_law_most", "_law_long"] spShuffle) (bZ : L2.Binds K gsd ["_law_deck_here", "_law_most", "_law_long"] []) (kZ : PySem.W.keepIn K (.ref gs) = true) (mZ : mg "_law_shuffle" = some (.ref gs)) :
    FnOk P w K mg base CX0 4 f fd ["_law_deck_here"] spWord := by
  refine F.ok scWord (fun vs H Q E h => ?_) (fun cdv A outer s H vs Q E hr h => ?_)
  · obtain ⟨d, rfl, _⟩ := h
    rfl
  obtain ⟨d, rfl, D0, q⟩ := h
  have hr2 := hr.mono (show 2 ≤ 3 by decide)
  refine ⟨_, pss_cons (ps_set (i := 1) scWord.nd rfl (.inl rfl) (pe_lst (pa_cons pe_str (pa_cons pe_str (pa_cons pe_str (pa_cons pe_str (pa_cons pe_str (pa_cons pe_str (pa_cons pe_str (pa_cons pe_str (pa_cons pe_str (pa_cons pe_str (pa_cons pe_str (pa_cons pe_str pa_nil))))))))))))))
    (pss_cons (ps_set (i := 2) scWord.nd rfl (.inl rfl) (pe_call G hr2 rfl mG kG bG .nil pass0 (pa_cons (pv 0) (pa_cons pe_int pa_nil))))
    (pss_cons (ps_if (pt_cmpR op_lt (pv 2) pe_int (nomark _)) (pss_one (ps_ret (pe_ix ix_list (pv 1) (pv 2) (fun _ _ => rfl)))) pss_nil)
    (pss_one (ps_ret (pe_call Z hr rfl mZ kZ bZ .nil pass0 (pa_cons (pv 0) (pa_cons (pe_ix ix_list (pe_lst (pa_cons pe_int (pa_cons pe_int (pa_cons pe_int (pa_cons pe_int pa_nil))))) (pe_op op_sub (pv 2) pe_int) (fun _ _ => rfl)) (pa_cons (pe_ix ix_list (pe_lst (pa_cons pe_int (pa_cons pe_int (pa_cons pe_int (pa_cons pe_int pa_nil))))) (pe_op op_sub (pv 2) pe_int) (fun _ _ => rfl)) pa_nil)))))))), ?_⟩
  refine ⟨(by show 12 ≤ sizeLine; decide), fun L nL => ?_⟩
  rw [menu_lit]
  have nLd := D0.ne nL
  refine ⟨_, rfl, d, 16, rfl, D0.new nL, by decide, by decide, fun r H1 r0 r1 k1 D1 => ?_⟩
  have hL1 := k1 L _ (fun z => nLd (List.mem_singleton.mp z)) upd_same
  have k01 : Kp [d] H H1 := ((Kp.refl _ H).new nL).trans k1
  refine ⟨_, rfl, _, _, rfl, rfl, _, rfl, ?_⟩
  refine ite2 (fun c => ?_) (fun c => ?_)
  · have c' : r < 12 := of_decide_eq_true c
    obtain ⟨r, rfl⟩ := Int.eq_ofNat_of_zero_le r0
    have hlt : r < menu.length := by show r < 12; omega
    refine ⟨_, rfl, _, rfl, L, _, _, _, rfl, rfl, SqL.of hL1, atI_nat (j := r) (by rw [List.getElem?_map, List.getElem?_eq_getElem hlt]; rfl), ?_⟩
    exact q menu[r] H1 (Good.of_mem (menu_good _ (List.getElem_mem hlt))) k01 D1
  · have c' : ¬ r < 12 := fun z => c (decide_eq_true z)
    refine ⟨_, rfl, (by show 4 ≤ sizeLine; decide), fun l1 nl1 => ?_⟩
    obtain ⟨e, h1, h2⟩ : ∃ e : Nat, r - 12 = (e : Int) ∧ e < 4 := ⟨(r - 12).toNat, by omega, by omega⟩
    have a1 : ∃ m : Int, atI [V.int 3, V.int 4, V.int 5, V.int 8] (e : Int) = some (.int m) ∧ 0 ≤ m ∧ m ≤ 8 := by
      match e, h2 with
      | 0, _ => exact ⟨3, atI_nat (j := 0) rfl, by decide, by decide⟩
      | 1, _ => exact ⟨4, atI_nat (j := 1) rfl, by decide, by decide⟩
      | 2, _ => exact ⟨5, atI_nat (j := 2) rfl, by decide, by decide⟩
      | 3, _ => exact ⟨8, atI_nat (j := 3) rfl, by decide, by decide⟩
    have a2 : ∃ m : Int, atI [V.int 4, V.int 4, V.int 6, V.int 12] (e : Int) = some (.int m) ∧ 0 ≤ m ∧ m ≤ 12 := by
      match e, h2 with
      | 0, _ => exact ⟨4, atI_nat (j := 0) rfl, by decide, by decide⟩
      | 1, _ => exact ⟨4, atI_nat (j := 1) rfl, by decide, by decide⟩
      | 2, _ => exact ⟨6, atI_nat (j := 2) rfl, by decide, by decide⟩
      | 3, _ => exact ⟨12, atI_nat (j := 3) rfl, by decide, by decide⟩
    obtain ⟨m, am, m0, m8⟩ := a1
    obtain ⟨b, ab, b0, b12⟩ := a2
    refine ⟨_, rfl, _, _, rfl, rfl, l1, _, _, _, rfl, rfl, SqL.of upd_same, by rw [h1]; exact am, ?_⟩
    refine ⟨(by show 4 ≤ sizeLine; decide), fun l2 nl2 => ?_⟩
    refine ⟨_, rfl, _, _, rfl, rfl, l2, _, _, _, rfl, rfl, SqL.of upd_same, by rw [h1]; exact ab, ?_⟩
    exact ⟨d, m, b, rfl, (D1.new nl1).new nl2, m0, m8, b0, b12, fun x H2 hx k2 D2 => q x H2 hx (((k01.new nl1).new nl2).trans k2) D2⟩
/-- a row of shuffles, new -/
def spRow (K : PySem.W.Frag) : Sp := fun vs H Q _ => ∃ (d : Addr) (m : Int), vs = [.ref d, .int m] ∧ Dk H d ∧ 0 ≤ m ∧ m ≤ 60 ∧
  ∀ (a : Addr) (ws : List Wd) (H' : Hp), Cm.Good ws → ws.length ≤ 60 → H a = none → SqT K H' a (ws.map wV) → Kp [d] H H' → Dk H' d → Q (.ref a) H'
abbrev NR : List Str := ["_law_deck_here", "_law_most", "_law_way", "_law_many", "_law_k"]
theorem scRow : FnScope NR ["_law_deck_here", "_law_most"] (defScope sRow) := ⟨rfl, rfl, rfl, by decide +kernel, rfl, by decide +kernel, by decide +kernel⟩
theorem ok_row {f g gs : Addr} {fd gd gsd : FuncData} (F : Fun K "_law_row" "_law_row" sRow f fd) (G : FnOk P w K mg base CX0 2 g gd ["_law_deck_here", "_law_most"] spDraw) (bG : L2.Binds K gd ["_law_deck_here", "_law_most"] []) (kG : PySem.W.keepIn K (.ref g) = true) (mG : mg "_law_draw" = some (.ref g))
    (Z : FnOk P w K mg base CX0 4 gs gsd ["_law_deck_here"] spWord) (bZ : L2.Binds K gsd ["_law_deck_here"] []) (kZ : PySem.W.keepIn K (.ref gs) = true) (mZ : mg "_law_word" = some (.ref gs)) (mtup : mg "tuple" = none) (mrange : mg "range" = none) :
    FnOk P w K mg base CX0 5 f fd ["_law_deck_here", "_law_most"] (spRow K) := by
  refine F.ok scRow (fun vs H Q E h => ?_) (fun cdv A outer s H vs Q E hr h => ?_)
  · obtain ⟨d, m, rfl, _⟩ := h
    rfl
  obtain ⟨d, m, rfl, D0, m0, m60, q⟩ := h
  have hr2 := hr.mono (show 2 ≤ 4 by decide)
  refine ⟨_, pss_cons (ps_set (i := 2) scRow.nd rfl (.inl rfl) (pe_ix ix_list (pe_lst (pa_cons pe_int (pa_cons pe_int (pa_cons pe_int (pa_cons pe_int (pa_cons pe_int (pa_cons pe_int (pa_cons pe_int (pa_cons pe_int pa_nil))))))))) (pe_call G hr2 rfl mG kG bG .nil pass0 (pa_cons (pv 0) (pa_cons pe_int pa_nil))) (fun _ _ => rfl)))
    (pss_cons (ps_set (i := 3) scRow.nd rfl (.inl rfl) (pe_ix ix_list (pe_lst (pa_cons (pe_call G hr2 rfl mG kG bG .nil pass0 (pa_cons (pv 0) (pa_cons pe_int pa_nil))) (pa_cons (pe_call G hr2 rfl mG kG bG .nil pass0 (pa_cons (pv 0) (pa_cons pe_int pa_nil))) (pa_cons (pe_op op_add pe_int (pe_call G hr2 rfl mG kG bG .nil pass0 (pa_cons (pv 0) (pa_cons pe_int pa_nil)))) (pa_cons (pv 1) pa_nil))))) (pv 2) (fun _ _ => rfl)))
    (pss_one (ps_ret (pe_callTy call_tuple_of (by rfl) mtup (by decide +kernel) (pa_cons (pe_lc (own := [("_law_k", 4)]) (g := gName 4) (tt := tYes) rfl scRow.nd (pi_range1 rfl mrange (pa_cons (pv 3) pa_nil)) (blkOk_by (own := [("_law_k", 4)]) (N := NR) (sc := defScope sRow) (by decide +kernel))
      (fun _ _ _ _ _ => pg_name (i := 4) scRow.nd rfl (Or.inl rfl)) (fun _ _ _ _ _ => pts_nil) (fun _ _ _ _ _ => pe_call Z hr rfl mZ kZ bZ .nil pass0 (pa_cons (pv 0) pa_nil))) pa_nil))))), ?_⟩
  refine ⟨(by show 8 ≤ sizeLine; decide), fun l1 nl1 => ?_⟩
  have nl1d := D0.ne nl1
  refine ⟨_, rfl, d, 8, rfl, D0.new nl1, by decide, by decide, fun r H1 r0 r1 k1 D1 => ?_⟩
  have hl1 := k1 l1 _ (fun z => nl1d (List.mem_singleton.mp z)) upd_same
  obtain ⟨e, h1, h2⟩ : ∃ e : Nat, r = (e : Int) ∧ e < 8 := ⟨r.toNat, by omega, by omega⟩
  have a1 : ∃ v : Nat, atI [V.int 0, V.int 1, V.int 1, V.int 0, V.int 2, V.int 1, V.int 0, V.int 3] (e : Int) = some (.int (v : Int)) ∧ v < 4 := by
    match e, h2 with
    | 0, _ => exact ⟨0, atI_nat (j := 0) rfl, by decide⟩
    | 1, _ => exact ⟨1, atI_nat (j := 1) rfl, by decide⟩
    | 2, _ => exact ⟨1, atI_nat (j := 2) rfl, by decide⟩
    | 3, _ => exact ⟨0, atI_nat (j := 3) rfl, by decide⟩
    | 4, _ => exact ⟨2, atI_nat (j := 4) rfl, by decide⟩
    | 5, _ => exact ⟨1, atI_nat (j := 5) rfl, by decide⟩
    | 6, _ => exact ⟨0, atI_nat (j := 6) rfl, by decide⟩
    | 7, _ => exact ⟨3, atI_nat (j := 7) rfl, by decide⟩
  obtain ⟨v, av, v4⟩ := a1
  subst h1
  refine ⟨l1, _, _, _, rfl, rfl, SqL.of hl1, av, ?_⟩
  have k01 : Kp [d] H H1 := ((Kp.refl _ H).new nl1).trans k1
  refine ⟨_, rfl, d, 5, rfl, D1, by decide, by decide, fun r2 H2 r20 r21 k2 D2 => ?_⟩
  refine ⟨_, rfl, d, 10, rfl, D2, by decide, by decide, fun r3 H3 r30 r31 k3 D3 => ?_⟩
  refine ⟨_, rfl, d, 8, rfl, D3, by decide, by decide, fun r4 H4 r40 r41 k4 D4 => ?_⟩
  refine ⟨_, _, rfl, rfl, _, rfl, (by show 4 ≤ sizeLine; decide), fun l2 nl2 => ?_⟩
  have a2 : ∃ j : Int, atI [V.int r2, V.int r3, V.int (8 + r4), V.int m] (v : Int) = some (.int j) ∧ 0 ≤ j ∧ j ≤ 60 := by
    match v, v4 with
    | 0, _ => exact ⟨r2, atI_nat (j := 0) rfl, by omega, by omega⟩
    | 1, _ => exact ⟨r3, atI_nat (j := 1) rfl, by omega, by omega⟩
    | 2, _ => exact ⟨8 + r4, atI_nat (j := 2) rfl, by omega, by omega⟩
    | 3, _ => exact ⟨m, atI_nat (j := 3) rfl, by omega, by omega⟩
  obtain ⟨j, aj, j0, j60⟩ := a2
  refine ⟨_, rfl, l2, _, _, _, rfl, rfl, SqL.of upd_same, aj, ?_⟩
  have D5 := D4.new nl2 (o := .lst [V.int r2, V.int r3, V.int (8 + r4), V.int m])
  have k05 : Kp [d] H (upd H4 l2 (.lst [V.int r2, V.int r3, V.int (8 + r4), V.int m])) := (((k01.trans k2).trans k3).trans k4).new nl2
  refine ⟨_, rfl, j, rfl, by omega, by omega, fun B nB => ?_⟩
  have nBd := D5.ne nB
  have fB : H B = none := k05.free nB (fun z => nBd (List.mem_singleton.mp z))
  refine lc_range (lo := 0) (n := j.toNat) (fun i H' => ∃ (ws : List Wd), H' B = some (.lst (ws.map wV)) ∧ Cm.Good ws ∧ ws.length = i ∧ Kp [d] H H' ∧ Dk H' d)
    ⟨[], upd_same, (fun x h => nomatch h), rfl, k05.new nB, D5.new nB⟩ ?_ ?_
  · rintro i H6 hi ⟨ws, e1, e2, e3, k6, g6⟩
    refine ⟨rfl, _, rfl, d, rfl, g6, fun x H7 hx k7 g7 => ?_⟩
    have hB : H7 B = some (.lst (ws.map wV)) := k7 B _ (fun z => nBd (List.mem_singleton.mp z)) e1
    refine ⟨_, hB, ?_, ws ++ [x], ?_, ?_, ?_, (k6.trans k7).put fB, g7.put nBd⟩
    · rw [List.length_map, sizeLine_eq]; omega
    · rw [upd_same, List.map_append]; rfl
    · intro y hy
      rcases List.mem_append.mp hy with z | z
      · exact e2 y z
      · rw [List.mem_singleton.mp z]; exact hx
    · rw [List.length_append, e3]; rfl
  · rintro H6 ⟨ws, e1, e2, e3, k6, g6⟩
    refine ⟨B, _, rfl, .inl ⟨SqL.of e1, fun a na => ?_⟩⟩
    exact q a ws _ e2 (by omega) (k6.free na (fun z => g6.ne na (List.mem_singleton.mp z))) (SqT.of upd_same) (k6.new na) (g6.new na)
end
end K46
namespace K46
open PySem PySem.W L2 SX Cm
/-! ### a row done on a stack of M things -/
def lrun (M : Nat) (ws : List Wd) : List Int := up (wrun (0, []) ws).1 (M - (wrun (0, []) ws).1) (wrun (0, []) ws).2
theorem lrun_step {M : Nat} {a : List Wd} {x : Wd} (hx : Shuf x.1 x.2) (h : (wrun (0, []) (a ++ [x])).1 ≤ M) : x.1 ≤ (lrun M a).length ∧ lrun M (a ++ [x]) = left x.1 (pk x) (lrun M a) := by
  have e : wrun (0, []) (a ++ [x]) = wstep (wrun (0, []) a) x := by rw [wrun_append]; rfl
  unfold lrun
  rw [e] at h ⊢
  generalize wrun (0, []) a = st at h ⊢
  obtain ⟨need, ts⟩ := st
  have h' : need + (x.1 - ts.length) ≤ M := h
  have lu := up_len need (M - need) ts
  show x.1 ≤ (up need (M - need) ts).length ∧ _ = left x.1 (pk x) (up need (M - need) ts)
  have hlen : x.1 ≤ (up need (M - need) ts).length := by omega
  refine ⟨hlen, ?_⟩
  obtain ⟨j, hj⟩ := wstep_up need (M - need) ts hx
  have e1 : need + (M - need) + (x.1 - (up need (M - need) ts).length) = (wstep (need, ts) x).1 + j := congrArg Prod.fst hj
  have e2 : left x.1 (pk x) (up (need + (M - need)) (x.1 - (up need (M - need) ts).length) (up need (M - need) ts)) = up (wstep (need, ts) x).1 j (wstep (need, ts) x).2 := congrArg Prod.snd hj
  have z : x.1 - (up need (M - need) ts).length = 0 := by omega
  rw [z] at e1 e2
  have ej : M - (wstep (need, ts) x).1 = j := by omega
  rw [ej]
  exact e2.symm
theorem wrun_take {M : Nat} {ws : List Wd} (h : (wmap ws).1 ≤ M) (i : Nat) : (wrun (0, []) (ws.take i)).1 ≤ M := by
  have e := wrun_need (ws.drop i) (wrun (0, []) (ws.take i))
  rw [← wrun_append, List.take_append_drop] at e
  exact Nat.le_trans e h
theorem lrun_more {M : Nat} {ws : List Wd} (h : (wmap ws).1 ≤ M) : (lrun M ws).map (fun t => (M : Int) - 1 - t) = moreM (M - (wmap ws).1) (wmap ws).2 := by
  have e := up_moreM (wrun (0, []) ws).1 (M - (wrun (0, []) ws).1) (wrun (0, []) ws).2
  have h' : (wrun (0, []) ws).1 ≤ M := h
  rw [show (wrun (0, []) ws).1 + (M - (wrun (0, []) ws).1) = M by omega] at e
  exact e
theorem parted {M n1 n2 c1 c2 : Nat} {p1 p2 : List Int} (h1 : n1 ≤ M) (h2 : n2 ≤ M) (i1 : IsCut p1 c1) (i2 : IsCut p2 c2) (z1 : ∀ p ∈ p1, (0 : Int) ≤ p) (z2 : ∀ p ∈ p2, (0 : Int) ≤ p)
    (e : moreM (M - n1) p1 = moreM (M - n2) p2) : (n1 : Int) - c1 = (n2 : Int) - c2 ∧ cutM c1 p1 = cutM c2 p2 := by
  have j2 := i2.more (m := M - n2) z2
  rw [← e] at j2
  have u := (i1.more (m := M - n1) z1).uniq j2
  refine ⟨by omega, ?_⟩
  rw [← cutM_more (M - n1) c1 p1, ← cutM_more (M - n2) c2 p2, u, e]
theorem nums_at {xs : List V} {d : V} : (nums xs.length).map (fun i : Int => xs.getD i.toNat d) = xs := by
  apply List.ext_getElem?
  intro i
  rw [List.getElem?_map]
  by_cases h : i < xs.length
  · rw [nums_get h, List.getElem?_eq_getElem h]
    show some (xs.getD (i : Int).toNat d) = _
    rw [Int.toNat_natCast, List.getD_eq_getElem?_getD, List.getElem?_eq_getElem h]; rfl
  · rw [List.getElem?_eq_none (by rw [nums_length]; omega), List.getElem?_eq_none (by omega)]; rfl
/-! ### numbers as things -/
def numD (i : Int) : PyData := .tuple [.str "number", .int i]
def stkD (l : List Int) : PyData := .tuple (l.map numD)
theorem numD_lay : ∀ l : List Int, PyData.canLayAll0 (l.map numD) = true
  | [] => rfl
  | i :: r => by
    show (PyData.canLay0 (numD i) && PyData.canLayAll0 (r.map numD)) = true
    rw [numD_lay r, Bool.and_true]
    show (PyData.canLay0 (.str "number") && (true && true)) = true
    decide +kernel
theorem numD_deep : ∀ l : List Int, PyData.depthAll (l.map numD) ≤ 1
  | [] => by decide
  | i :: r => by
    show max (PyData.depth (numD i)) (PyData.depthAll (r.map numD)) ≤ 1
    exact Nat.max_le.mpr ⟨Nat.le_refl _, numD_deep r⟩
theorem stkD_lay (l : List Int) : PyData.canLay0 (stkD l) = true := numD_lay l
theorem stkD_depth (l : List Int) : PyData.depth (stkD l) ≤ 2 := Nat.succ_le_succ (numD_deep l)
theorem stkD_shaped (l : List Int) : SeqAt.shaped (stkD l) = true := by
  show (PyData.canLay0 (stkD l) && decide (PyData.depth (stkD l) ≤ 64)) = true
  rw [stkD_lay, decide_eq_true (Nat.le_trans (stkD_depth l) (by decide))]; rfl
theorem numD_eqv (i j : Int) : PyData.eqv (numD i) (numD j) = decide (i = j) := by
  have e : PyData.eqv (numD i) (numD j) = ((("number" : Str) == ("number" : Str)) && ((i == j) && true)) := by simp [numD, PyData.eqv, PyData.eqvAll]
  rw [e]
  have : (("number" : Str) == ("number" : Str)) = true := by decide +kernel
  rw [this]
  by_cases h : i = j
  · subst h; simp
  · simp [h]
theorem numD_ne : ∀ {l m : List Int}, l ≠ m → PyData.eqvAll (l.map numD) (m.map numD) = false
  | [], [], h => absurd rfl h
  | [], _ :: _, _ => by simp [PyData.eqvAll]
  | _ :: _, [], _ => by simp [PyData.eqvAll]
  | i :: l, j :: m, h => by
    show PyData.eqvAll (numD i :: l.map numD) (numD j :: m.map numD) = false
    rw [PyData.eqvAll, numD_eqv]
    by_cases e : i = j
    · subst e
      rw [numD_ne (l := l) (m := m) (fun z => h (by rw [z])), Bool.and_false]
    · rw [decide_eq_false e]; rfl
theorem stkD_ne {l m : List Int} (h : l ≠ m) : PyData.eqv (stkD l) (stkD m) = false := by
  have e : PyData.eqv (stkD l) (stkD m) = PyData.eqvAll (l.map numD) (m.map numD) := by simp [stkD, PyData.eqv]
  rw [e]; exact numD_ne h
/-- a tuple of numbers as things -/
def NumT (K : Frag) (H : Hp) (p : Addr) (l : List Int) : Prop := ∃ xs, SqT K H p xs ∧ TrAll K H xs (l.map numD)
theorem NumT.dp {K : Frag} {H : Hp} {p : Addr} {l : List Int} (h : NumT K H p l) : Dp K H (.ref p) (stkD l) := by
  obtain ⟨xs, h1, h2⟩ := h
  exact Tr.dp (.tup h1 h2)
theorem NumT.same {K : Frag} {H H' : Hp} {p : Addr} {l : List Int} (h : NumT K H p l) (s : Same H H') : NumT K H' p l := by
  obtain ⟨xs, h1, h2⟩ := h
  exact ⟨xs, TKs.of s _ _ h1, h2.mono (.of s)⟩
theorem pick_all {K : Frag} {H : Hp} {xs : List V} (h : TrAll K H xs ((nums xs.length).map numD)) : ∀ l : List Int, (∀ i ∈ l, 0 ≤ i ∧ i < xs.length) → TrAll K H (l.map fun i => xs.getD i.toNat .non) (l.map numD)
  | [], _ => .nil
  | i :: r, hi => by
    obtain ⟨h0, h1⟩ := hi i List.mem_cons_self
    refine .cons ?_ (pick_all h r fun j hj => hi j (List.mem_cons_of_mem _ hj))
    obtain ⟨k, rfl⟩ := Int.eq_ofNat_of_zero_le h0
    have hk : k < xs.length := by omega
    obtain ⟨y, hy, ht⟩ := h.get (List.getElem?_eq_getElem hk)
    rw [List.getElem?_map, nums_get hk] at hy
    cases hy
    show Tr K H (xs.getD (k : Int).toNat .non) _
    rw [Int.toNat_natCast, List.getD_eq_getElem?_getD, List.getElem?_eq_getElem hk]
    exact ht
section
variable {P : Program} {w : World} {K : PySem.W.Frag} {mg : Str → Option Value} {base : Heap}
/-! ### _law_left -/
def spLeft (K : PySem.W.Frag) : Sp := fun vs H Q _ => ∃ (a b : Addr) (ws : List Wd) (xs : List V), vs = [.ref a, .ref b] ∧ SqT K H a (ws.map wV) ∧ Cm.Good ws ∧ ws.length ≤ 80 ∧ SqT K H b xs ∧ (wmap ws).1 ≤ xs.length ∧ xs.length ≤ 1000 ∧
  ∀ (p : Addr) (H' : Hp), Same H H' → SqT K H' p ((moreM (xs.length - (wmap ws).1) (wmap ws).2).map fun i => xs.getD i.toNat .non) → Q (.ref p) H'
abbrev NE : List Str := ["_law_row_here", "_law_stack", "_law_word_here", "_law_many", "_law_left_here", "_law_top", "_law_k"]
theorem scLeft : FnScope NE ["_law_row_here", "_law_stack"] (defScope sLeft) := ⟨rfl, rfl, rfl, by decide +kernel, rfl, by decide +kernel, by decide +kernel⟩
theorem ok_left {f gt : Addr} {fd gtd : FuncData} (F : Fun K "_law_left" "_law_left" sLeft f fd)
    (T : FnOk P w K mg base CX0 1 gt gtd ["_law_word_here"] (spRead K)) (bT : L2.Binds K gtd ["_law_word_here"] []) (kT : keepIn K (.ref gt) = true) (mT : mg "_law_read" = some (.ref gt))
    (mlen : mg "len" = none) (mtup : mg "tuple" = none) : FnOk P w K mg base CX0 2 f fd ["_law_row_here", "_law_stack"] (spLeft K) := by
  refine F.ok scLeft (fun vs H Q E h => ?_) (fun cdv A outer s H vs Q E hr h => ?_)
  · obtain ⟨a, b, ws, xs, rfl, _⟩ := h
    rfl
  obtain ⟨a, b, ws, xs, rfl, ha, g, hl, hb, hn, hx, q⟩ := h
  refine ⟨_, pss_cons (ps_for PassesOwn.never rfl (pi_tup (pv 0)) (pg_name (i := 2) scLeft.nd rfl (Or.inl rfl))
      (pss_cons (ps_asg (pe_call T hr rfl mT kT bT .nil pass0 (pa_cons (pv 2) pa_nil)) (pg_tup rfl (pgs_cons (pg_name (i := 3) scLeft.nd rfl (.inl rfl)) (pgs_cons (pg_name (i := 4) scLeft.nd rfl (.inl rfl)) pgs_nil))))
      (pss_cons (ps_set (i := 5) scLeft.nd rfl (.inr rfl) (pe_slice sl_tupA (pv 1) (po_some (pe_op op_sub (pe_callB call_len_seq (by rfl) mlen PySem.boot_len (pa_cons (pv 1) pa_nil)) (pv 3))) po_none))
      (pss_one (ps_set (i := 1) scLeft.nd rfl (.inl rfl) (pe_op op_catA (pe_slice sl_tupA (pv 1) po_none (po_some (pe_op op_sub (pe_callB call_len_seq (by rfl) mlen PySem.boot_len (pa_cons (pv 1) pa_nil)) (pv 3))))
        (pe_callTy call_tuple_of (by rfl) mtup (by decide +kernel) (pa_cons
        (pe_lc (own := [("_law_k", 6)]) (g := gName 6) (tt := tYes) (te := tOp (rIxT K) (tVar 5) (tVar 6)) rfl scLeft.nd (pi_list (pv 4)) (blkOk_by (own := [("_law_k", 6)]) (N := NE) (sc := defScope sLeft) (by decide +kernel))
          (fun _ _ _ _ _ => pg_name (i := 6) scLeft.nd rfl (Or.inl rfl)) (fun _ _ _ _ _ => pts_nil) (fun _ _ _ _ _ => pe_ix ix_tup (pv 5) (pv 6) (fun _ _ => rfl))) pa_nil))))))))
    (pss_one (ps_ret (pv 1))), ?_⟩
  have tk : ∀ i, (wrun (0, []) (ws.take i)).1 ≤ xs.length := wrun_take hn
  have end_ : ∀ us : List Wd, (wmap us).1 ≤ xs.length → (lrun xs.length us).map (fun t => xs.getD ((xs.length : Int) - 1 - t).toNat .non) = (moreM (xs.length - (wmap us).1) (wmap us).2).map fun i => xs.getD i.toNat .non := fun us h => by
    rw [← lrun_more h, List.map_map]; rfl
  have beg : (lrun xs.length []).map (fun t => xs.getD ((xs.length : Int) - 1 - t).toNat V.non) = xs := by
    rw [end_ [] (Nat.zero_le _)]
    show (nums xs.length ++ []).map _ = _
    rw [List.append_nil]
    exact nums_at
  refine ⟨_, rfl, a, rfl, ⟨_, ha⟩, ?_⟩
  refine for_tup (K := K) (a := a) (xs := ws.map wV) (fun i σ H' => ∃ (L : Addr) (x2 x3 x4 x5 : Option V), σ = [some (.ref a), some (.ref L), x2, x3, x4, x5, none] ∧ Same H H' ∧ SqT K H' L ((lrun xs.length (ws.take i)).map (fun t => xs.getD ((xs.length : Int) - 1 - t).toNat .non)))
    ⟨b, none, none, none, none, rfl, Same.refl H, by rw [List.take_zero, beg]; exact hb⟩ (fun i σ H' _ h => by obtain ⟨_, _, _, _, _, _, e, _⟩ := h; exact Same.seqT e ha) ?_ ?_
  · rintro i x σ H3 hx' ⟨L, x2, x3, x4, x5, rfl, s3, hL3⟩
    rw [List.getElem?_map] at hx'
    obtain ⟨y, hy, rfl⟩ := Option.map_eq_some_iff.mp hx'
    have hy' := g y (List.mem_of_getElem? hy)
    have hi : i < ws.length := (List.getElem?_eq_some_iff.mp hy).1
    have et : ws.take (i + 1) = ws.take i ++ [y] := by rw [List.take_add_one, hy]; rfl
    obtain ⟨l1, l2⟩ := lrun_step (M := xs.length) (a := ws.take i) hy' (by rw [← et]; exact tk _)
    rw [← et] at l2
    have lb : (lrun xs.length (ws.take i)).length ≤ 3000 := by
      have stt := stt0.run (ws := ws.take i) (fun z hz => g z (List.mem_of_mem_take hz))
      have := stt.len
      rw [List.length_take] at this
      unfold lrun
      rw [up_len]
      omega
    rw [l2]
    generalize lrun xs.length (ws.take i) = us at hL3 l1 lb
    generalize hh : (fun t : Int => xs.getD ((xs.length : Int) - 1 - t).toNat V.non) = h at hL3
    have n8 := hy'.n8
    have ec : ((us.map h).length : Int) - (y.1 : Int) = ((us.length - y.1 : Nat) : Int) := by rw [List.length_map]; omega
    refine ⟨_, rfl, y.1, y.2, rfl, hy', fun p t H4 s4 nt ht hp => ?_⟩
    refine ⟨p, _, rfl, hp, rfl, _, _, rfl, _, _, rfl, rfl, ?_⟩
    have hL4 := Same.seqT s4 hL3
    refine ⟨_, rfl, _, rfl, L, _, rfl, .inr hL4, _, rfl, _, _, rfl, rfl, ((us.length - y.1 : Nat) : Int), congrArg V.int ec, ?_⟩
    refine slT_fromP (i := us.length - y.1) hL4 fun R H5 s5 hR => ?_
    have hL5 := Same.seqT s5 hL4
    refine ⟨_, rfl, _, rfl, L, _, rfl, .inr hL5, _, rfl, _, _, rfl, rfl, ((us.length - y.1 : Nat) : Int), congrArg V.int ec, ?_⟩
    refine slT_upto (i := us.length - y.1) hL5 fun U H6 s6 hU => ?_
    have ht' : SqL K H4 t ((pk y).map fun i : Nat => V.int (i : Int)) := ht
    have ht6 := Same.seq (s5.trans s6) ht'
    refine ⟨_, rfl, t, rfl, ⟨_, ht6⟩, fun E hE => ?_⟩
    have hR6 := Same.seqT s6 hR
    refine lc_mapL (fun v => match v with | .int p => h ((us.drop (us.length - y.1)).getD p.toNat 0) | v => v) ht6 hE (by rw [List.length_map]; have := pk_len hy'; omega) (fun x H8 R' hx sm r' => ?_) ?_
    · obtain ⟨m, hm, rfl⟩ := List.mem_map.mp hx
      have hlt := pk_lt hy' hm
      have hlt' : m < (us.drop (us.length - y.1)).length := by rw [List.length_drop]; omega
      refine ⟨rfl, _, rfl, _, rfl, R, _, _, _, rfl, rfl, Same.seqT sm hR6, atI_nat (j := m) ?_, r'⟩
      rw [List.getElem?_map, List.getElem?_eq_getElem hlt']
      show some (h _) = some (h _)
      rw [Int.toNat_natCast, Cm.getD_at hlt']
    refine ⟨E, _, rfl, .inl ⟨SqL.of upd_same, fun Z nZ => ?_⟩⟩
    have sEZ := (same_new hE (.lst (((pk y).map fun i : Nat => V.int (i : Int)).map fun v => match v with | .int p => h ((us.drop (us.length - y.1)).getD p.toNat 0) | v => v))).trans (same_new nZ (.tup (((pk y).map fun i : Nat => V.int (i : Int)).map fun v => match v with | .int p => h ((us.drop (us.length - y.1)).getD p.toNat 0) | v => v)))
    refine catT_map (Same.seqT sEZ hU) (SqT.of upd_same) ?_ fun M H9 s9 hM => ?_
    · rw [List.length_map, List.length_map, List.length_map, List.length_take]; have := pk_len hy'; omega
    refine ⟨M, _, _, _, _, rfl, ((((s3.trans s4).trans s5).trans s6).trans sEZ).trans s9, ?_⟩
    have eM : (us.take (us.length - y.1)).map h ++ (((pk y).map fun i : Nat => V.int (i : Int)).map fun v => match v with | .int p => h ((us.drop (us.length - y.1)).getD p.toNat 0) | v => v) = (left y.1 (pk y) us).map h := by
      unfold left
      rw [List.map_append, List.map_map, List.map_map]; rfl
    rw [eM] at hM
    exact hM
  · rintro σ H3 ⟨L, x2, x3, x4, x5, rfl, s3, hL3⟩
    rw [List.length_map, List.take_length, end_ ws hn] at hL3
    exact ⟨_, rfl, q L H3 s3 hL3⟩
end
end K46
namespace K46
open PySem PySem.W L2 SX Cm
theorem join1 (l : List Nat) : Txt.join (S []) (l.map fun c => S [c]) = S l := by
  have e : (l.map fun c => S [c]) = (l.map fun c => [c]).map S := by rw [List.map_map]; rfl
  rw [e, join_S, joinL_nil]
  congr 1
  induction l with
  | nil => rfl
  | cons c r ih =>
    show [c] ++ (r.map fun c => [c]).flatten = c :: r
    rw [ih (by rw [List.map_map]; rfl)]; rfl
theorem sum1 : ∀ l : List Nat, ((l.map fun c => S [c]).map (·.length)).sum = l.length
  | [] => rfl
  | c :: r => by
    show (S [c]).length + ((r.map fun c => S [c]).map (·.length)).sum = r.length + 1
    rw [sum1 r, S_len]
    show 1 + r.length = _
    omega
theorem sum12 {l : List Nat} (h : l.length ≤ 12) : ((l.map fun c => S [c]).map (·.length)).sum + (l.map fun c => S [c]).length * (S []).length ≤ 16777216 := by
  rw [sum1, S_len]
  show l.length + _ * 0 ≤ _
  omega
theorem nxt : ∀ c ∈ abc 7, atI abc8 (((c - 97 : Nat) : Int) + 1) = some (c + 1) := by decide +kernel
theorem sub7 : ∀ n ≤ 7, ∀ c ∈ abc n, c ∈ abc 7 := by decide +kernel
theorem wide7 : ∀ n ≤ 7, 97 ∈ abc (n + 1) ∧ ∀ c ∈ abc n, c + 1 ∈ abc (n + 1) := by decide +kernel
theorem let8 : ∀ m < 8, abc8[m]? = some (97 + m) := by decide +kernel
theorem in8 : ∀ n ≤ 8, ∀ m < n, 97 + m ∈ abc n := by decide +kernel
section
variable {P : Program} {w : World} {K : PySem.W.Frag} {mg : Str → Option Value} {base : Heap}
/-! ### parting -/
def spParting (K : PySem.W.Frag) : Sp := fun vs H Q _ => ∃ (a b : Addr) (us ws : List Wd), vs = [.ref a, .ref b] ∧ SqT K H a (us.map wV) ∧ Cm.Good us ∧ us.length ≤ 80 ∧ SqT K H b (ws.map wV) ∧ Cm.Good ws ∧ ws.length ≤ 80 ∧
  ∀ (c d : Nat) (v : V) (H' : Hp), Same H H' → IsCut (wmap us).2 c → IsCut (wmap ws).2 d →
    ((PyData.eqv (mapD ((wmap us).1 - c) (cutM c (wmap us).2)) (mapD ((wmap ws).1 - d) (cutM d (wmap ws).2)) = true ∧ v = .non) ∨
     (PyData.eqv (mapD ((wmap us).1 - c) (cutM c (wmap us).2)) (mapD ((wmap ws).1 - d) (cutM d (wmap ws).2)) = false ∧ ∃ p, v = .ref p ∧ NumT K H' p (nums (max (wmap us).1 (wmap ws).1)))) → Q v H'
abbrev NP : List Str := ["one", "other", "need", "picks", "other_need", "other_picks", "number"]
theorem scParting : FnScope NP ["one", "other"] (defScope sParting) := ⟨rfl, rfl, rfl, by decide +kernel, rfl, by decide +kernel, by decide +kernel⟩
theorem max_int (a b : Nat) : (if (b : Int) > (a : Int) then (b : Int) else (a : Int)) = ((max a b : Nat) : Int) := by
  by_cases h : (b : Int) > (a : Int)
  · rw [if_pos h, Nat.max_eq_right (by omega)]
  · rw [if_neg h, Nat.max_eq_left (by omega)]
theorem nums_succ (m : Nat) : nums (m + 1) = nums m ++ [(m : Int)] := by
  unfold nums; rw [List.range_succ, List.map_append]; rfl
theorem ok_parting {f gw gl : Addr} {fd gwd gld : FuncData} (F : Fun K "parting" "parting" sParting f fd)
    (W : FnOk P w K mg base CX0 3 gw gwd ["row"] (spWholeMap K)) (bW : L2.Binds K gwd ["row"] []) (kW : keepIn K (.ref gw) = true) (mW : mg "whole_map" = some (.ref gw))
    (L : FnOk P w K mg base CX0 1 gl gld ["n", "picks"] (spLeast K)) (bL : L2.Binds K gld ["n", "picks"] []) (kL : keepIn K (.ref gl) = true) (mL : mg "least_map" = some (.ref gl))
    (mtup : mg "tuple" = none) (mrange : mg "range" = none) (mmax : mg "max" = none) : FnOk P w K mg base CX0 4 f fd ["one", "other"] (spParting K) := by
  refine F.ok scParting (fun vs H Q E h => ?_) (fun cdv A outer s H vs Q E hr h => ?_)
  · obtain ⟨a, b, us, ws, rfl, _⟩ := h
    rfl
  obtain ⟨a, b, us, ws, rfl, ha, gu, lu, hb, gw', lw, q⟩ := h
  have hr1 := hr.mono (show 1 ≤ 3 by decide)
  refine ⟨_, pss_cons (ps_asg (pe_call W hr rfl mW kW bW .nil pass0 (pa_cons (pv 0) pa_nil)) (pg_tup rfl (pgs_cons (pg_name (i := 2) scParting.nd rfl (.inl rfl)) (pgs_cons (pg_name (i := 3) scParting.nd rfl (.inl rfl)) pgs_nil))))
    (pss_cons (ps_asg (pe_call W hr rfl mW kW bW .nil pass0 (pa_cons (pv 1) pa_nil)) (pg_tup rfl (pgs_cons (pg_name (i := 4) scParting.nd rfl (.inl rfl)) (pgs_cons (pg_name (i := 5) scParting.nd rfl (.inl rfl)) pgs_nil))))
    (pss_cons (ps_if (pt_cmpR (op_eqD hr.units) (pe_call L hr1 rfl mL kL bL .nil pass0 (pa_cons (pv 2) (pa_cons (pv 3) pa_nil))) (pe_call L hr1 rfl mL kL bL .nil pass0 (pa_cons (pv 4) (pa_cons (pv 5) pa_nil))) (nomark _)) (pss_one (ps_ret pe_non)) pss_nil)
    (pss_one (ps_ret (pe_callTy call_tuple_of (by rfl) mtup (by decide +kernel) (pa_cons (pe_lc (own := [("number", 6)]) (g := gName 6) (tt := tYes) rfl scParting.nd (pi_range1 rfl mrange (pa_cons (pe_callB (call_max2 rfl) (by rfl) mmax PyProof.Rows.boot_max (pa_cons (pv 2) (pa_cons (pv 4) pa_nil))) pa_nil)) (blkOk_by (own := [("number", 6)]) (N := NP) (sc := defScope sParting) (by decide +kernel))
      (fun _ _ _ _ _ => pg_name (i := 6) scParting.nd rfl (Or.inl rfl)) (fun _ _ _ _ _ => pts_nil) (fun _ _ _ _ _ => pe_tup (pa_cons pe_str (pa_cons (pv 6) pa_nil)))) pa_nil)))))), ?_⟩
  have wu := wmap_ok gu
  have ww := wmap_ok gw'
  refine ⟨_, rfl, a, us, rfl, ha, gu, by omega, fun p1 H1 s1 hp1 => ?_⟩
  obtain ⟨t1, h11, h12⟩ := hp1
  refine ⟨p1, _, rfl, h11, rfl, _, _, rfl, _, _, rfl, rfl, ?_⟩
  refine ⟨_, rfl, b, ws, rfl, Same.seqT s1 hb, gw', by omega, fun p2 H2 s2 hp2 => ?_⟩
  obtain ⟨t2, h21, h22⟩ := hp2
  refine ⟨p2, _, rfl, h21, rfl, _, _, rfl, _, _, rfl, rfl, ?_⟩
  refine ⟨_, rfl, _, rfl, _, t1, _, rfl, Same.seqT s2 h12, by omega, fun c u1 H3 s3 hc hu1 => ?_⟩
  refine ⟨_, rfl, _, rfl, _, t2, _, rfl, Same.seqT s3 h22, by omega, fun d u2 H4 s4 hd hu2 => ?_⟩
  have s04 := ((s1.trans s2).trans s3).trans s4
  refine ⟨_, _, (hu1.same s4).dp, hu2.dp, mapD_shaped _ _, mapD_shaped _ _, _, rfl, ?_⟩
  refine ite2 (fun cc => ?_) (fun cc => ?_)
  · exact q c d .non H4 s04 hc hd (.inl ⟨cc, rfl⟩)
  · have cf : PyData.eqv (mapD ((wmap us).1 - c) (cutM c (wmap us).2)) (mapD ((wmap ws).1 - d) (cutM d (wmap ws).2)) = false := by
      cases h : PyData.eqv (mapD ((wmap us).1 - c) (cutM c (wmap us).2)) (mapD ((wmap ws).1 - d) (cutM d (wmap ws).2)) with
      | true => exact absurd h cc
      | false => rfl
    have mb : max (wmap us).1 (wmap ws).1 ≤ 640 := Nat.max_le.mpr ⟨by omega, by omega⟩
    refine ⟨_, rfl, _, rfl, _, _, rfl, ((max (wmap us).1 (wmap ws).1 : Nat) : Int), congrArg (fun z : Int => [V.int z]) (max_int _ _), by omega, by omega, fun D hD => ?_⟩
    generalize max (wmap us).1 (wmap ws).1 = m at mb q
    refine lc_range (lo := 0) (n := (m : Int).toNat) (fun i H' => ∃ acc, Same H4 H' ∧ H' D = some (.lst acc) ∧ TrAll K H' acc ((nums i).map numD) ∧ acc.length = i) ⟨[], same_new hD _, upd_same, .nil, rfl⟩ ?_ ?_
    · rintro i H6 hi ⟨acc, s6, hD6, tr, la⟩
      refine ⟨rfl, _, rfl, (by show 2 ≤ sizeLine; decide), fun t nt => ?_⟩
      have hD7 := kn (o' := .tup [V.str "number", V.int (0 + (i : Int))]) hD6 nt
      refine ⟨acc, hD7, ?_, acc ++ [.ref t], ?_, upd_same, ?_, ?_⟩
      · rw [la, sizeLine_eq]; omega
      · exact own_new (s6.trans (same_new nt _)) hD
      · rw [nums_succ, List.map_append]
        refine ((tr.mono (.of (same_new nt _))).append (.cons (.tup (SqT.of upd_same) ?_) .nil)).mono (TKs.lst hD7)
        rw [Int.zero_add]
        exact .cons (.str _) (.cons (.int _) .nil)
      · rw [List.length_append, la]; rfl
    · rintro H6 ⟨acc, s6, hD6, tr, la⟩
      rw [Int.toNat_natCast] at tr
      refine ⟨D, _, rfl, .inl ⟨SqL.of hD6, fun u nu => ?_⟩⟩
      exact q c d (.ref u) _ ((s04.trans s6).trans (same_new nu _)) hc hd (.inr ⟨cf, u, rfl, acc, SqT.of upd_same, tr.mono (.of (same_new nu _))⟩)
/-! ### _law_wider -/
def spWider : Sp := fun vs H Q _ => ∃ (x : Wd), vs = [wV x] ∧ Shuf x.1 x.2 ∧ ∀ (y : Wd) (H' : Hp), Shuf y.1 y.2 → Same H H' → Q (wV y) H'
abbrev NI : List Str := ["_law_word_here", "_law_taken", "_law_left_here", "_law_letter", "_law_put"]
theorem scWider : FnScope NI ["_law_word_here"] (defScope sWider) := ⟨rfl, rfl, rfl, by decide +kernel, rfl, by decide +kernel, by decide +kernel⟩
theorem ok_wider {f : Addr} {fd : FuncData} (F : Fun K "_law_wider" "_law_wider" sWider f fd) (mlen : mg "len" = none) : FnOk P w K mg base CX0 1 f fd ["_law_word_here"] spWider := by
  refine F.ok scWider (fun vs H Q E h => ?_) (fun cdv A outer s H vs Q E hr h => ?_)
  · obtain ⟨x, rfl, _⟩ := h
    rfl
  obtain ⟨x, rfl, hs, q⟩ := h
  refine ⟨_, pss_cons (ps_asg (pe_split (pv 0) pe_str) (pg_unl rfl (pgs_cons (pg_name (i := 1) scWider.nd rfl (.inl rfl)) (pgs_cons (pg_name (i := 2) scWider.nd rfl (.inl rfl)) pgs_nil))))
    (pss_cons (ps_if (PW.pt (pw_or (pt_cmpR op_gt (pe_callB call_len_str (by rfl) mlen PySem.boot_len (pa_cons (pv 1) pa_nil)) pe_int (nomark _)) (pw_or1 (pt_cmpR op_gt (pe_callB call_len_str (by rfl) mlen PySem.boot_len (pa_cons (pv 2) pa_nil)) pe_int (nomark _))))) (pss_one (ps_ret (pv 0))) pss_nil)
    (pss_cons (ps_set (i := 4) scWider.nd rfl (.inl rfl) (pe_join pe_str (pe_lc (own := [("_law_letter", 3)]) (g := gName 3) (tt := tYes) (te := tOp rIxS (tC (.str "abcdefgh")) (tOp (rI0 fun i j => .int (i + j)) (tBMS K "str" (rIndexX fun _ _ _ _ => False) (tC (.str "abcdefgh")) (tCons (tVar 3) tNil)) (tC (.int 1)))) rfl scWider.nd (pi_str (pv 2)) (blkOk_by (own := [("_law_letter", 3)]) (N := NI) (sc := defScope sWider) (by decide +kernel))
        (fun _ _ _ _ _ => pg_name (i := 3) scWider.nd rfl (Or.inl rfl)) (fun _ _ _ _ _ => pts_nil) (fun _ _ _ _ _ => pe_ix ix_str pe_str (pe_op op_add (pe_bmS PySem.F.plainAttrs_str PySem.F.slot_str_index PySem.F.type_str_index (mt_indexX rfl takes0) pe_str (pa_cons (pv 3) pa_nil)) pe_int) (fun _ _ => rfl)))))
    (pss_one (ps_ret (pe_op op_add_str (pe_op op_add_str (pe_slice sl_str pe_str po_none (po_some (pe_op op_add (pe_callB call_len_str (by rfl) mlen PySem.boot_len (pa_cons (pv 1) pa_nil)) pe_int))) pe_str) (pv 4)))))), ?_⟩
  obtain ⟨n, l⟩ := x
  have e1 : ("-" : Str) = S [45] := by decide +kernel
  have e2 : ("-a" : Str) = S [45, 97] := by decide +kernel
  have ee : ("" : Str) = S [] := by decide +kernel
  rw [e1, lit_abc, e2, ee]
  have n8 : n ≤ 8 := hs.n8
  have l12 : l.length ≤ 12 := hs.l12
  refine ⟨_, rfl, ⟨_, rfl⟩, _, _, rfl, rfl, rfl, ?_, fun p hp => ?_⟩
  · rw [S_len]; exact Nat.le_of_lt (small1000 (by have := shuf_len hs; omega))
  rw [split_S (List.cons_ne_nil _ _) (by decide), shuf_spl hs]
  refine ⟨p, _, rfl, SqL.of upd_same, rfl, _, _, rfl, _, _, rfl, rfl, ?_⟩
  have sp := same_new hp (.lst ([abc n, l].map fun y => V.str (S y)))
  refine ⟨_, rfl, _, rfl, ?_, _, _, rfl, rfl, _, rfl, ?_⟩
  · rw [S_len, abc_len n8]; exact Nat.le_of_lt (small1000 (by omega))
  rw [S_len, abc_len n8]
  refine ite2 (fun c => ?_) (fun c => ?_)
  · exact ⟨_, rfl, q (n, l) _ hs (same_new hp _)⟩
  refine ⟨_, rfl, _, rfl, ?_, _, _, rfl, rfl, _, rfl, ?_⟩
  · rw [S_len]; exact Nat.le_of_lt (small1000 (by show l.length ≤ 1000; omega))
  rw [S_len]
  refine ite2 (fun c' => ?_) (fun c' => ?_)
  · exact ⟨_, rfl, q (n, l) _ hs (same_new hp _)⟩
  have n7 : n ≤ 7 := by
    have : ¬ ((7 : Int) < (n : Int)) := fun z => c (decide_eq_true z)
    omega
  have l11 : l.length ≤ 11 := by
    have : ¬ ((11 : Int) < (l.length : Int)) := fun z => c' (decide_eq_true z)
    omega
  refine ⟨⟨_, rfl⟩, _, rfl, _, rfl, fun D hD => ?_⟩
  refine lc_txt (fun c => .str (S [c + 1])) (by show l.length ≤ 1000; omega) (fun c H R hc r => ?_) ?_
  · refine ⟨rfl, rfl, _, rfl, _, _, rfl, rfl, fun k hk => ?_, fun hk => ?_⟩
    · rw [index_abc c (abc_sub (hs.inn c hc))] at hk
      cases hk
      refine ⟨_, _, rfl, rfl, _, _, _, rfl, rfl, ?_, nxt c (sub7 n n7 c (hs.inn c hc)), r⟩
      rw [S_len]; decide
    · rw [index_abc c (abc_sub (hs.inn c hc))] at hk
      cases hk
  · have el : l.map (fun c => V.str (S [c + 1])) = ((l.map (· + 1)).map fun c => S [c]).map V.str := by rw [List.map_map, List.map_map]; rfl
    rw [el]
    refine ⟨_, D, (l.map (· + 1)).map fun c => S [c], rfl, rfl, .inl (SqL.of upd_same), sum12 (by rw [List.length_map]; omega), ?_⟩
    rw [join1]
    refine ⟨_, rfl, _, rfl, ?_, _, _, rfl, rfl, ((n + 1 : Nat) : Int), ?_, _, rfl, (by rw [S_len]; decide), ?_⟩
    · rw [S_len, abc_len n8]; exact Nat.le_of_lt (small1000 (by omega))
    · rw [S_len, abc_len n8]; rfl
    rw [cutS_to (by omega), Int.toNat_natCast]
    have ea : abc8.take (n + 1) = abc (n + 1) := rfl
    rw [ea]
    refine ⟨_, _, rfl, rfl, ?_, ?_⟩
    · rw [S_len, S_len, abc_len (by omega)]; exact Nat.le_of_lt (small1000 (by show n + 1 + 2 ≤ 1000; omega))
    rw [S_cat]
    refine ⟨_, rfl, _, _, rfl, rfl, ?_, ?_⟩
    · rw [S_len, S_len, List.length_append, abc_len (by omega), List.length_map]; exact Nat.le_of_lt (small1000 (by show n + 1 + 2 + l.length ≤ 1000; omega))
    rw [S_cat, List.append_assoc]
    have hy : Shuf (n + 1) (97 :: l.map (· + 1)) := ⟨by omega, by rw [List.length_cons, List.length_map]; omega, fun c hc => by
      rcases List.mem_cons.mp hc with z | z
      · rw [z]; exact (wide7 n n7).1
      · obtain ⟨d, hd, rfl⟩ := List.mem_map.mp z
        exact (wide7 n n7).2 d (hs.inn d hd)⟩
    exact q (n + 1, 97 :: l.map (· + 1)) _ hy ((same_new hp _).trans (same_new hD _))
/-! ### _law_together -/
def spTog (K : PySem.W.Frag) : Sp := fun vs H Q _ => ∃ (x y : Wd), vs = [wV x, wV y] ∧ Shuf x.1 x.2 ∧ Shuf y.1 y.2 ∧ ∀ (zs : List Wd) (p : Addr) (H' : Hp), Cm.Good zs → zs.length ≤ 2 → Same H H' → SqT K H' p (zs.map wV) → Q (.ref p) H'
abbrev NT : List Str := ["_law_one", "_law_other_here", "_law_n", "_law_picks", "_law_pick"]
theorem scTog : FnScope NT ["_law_one", "_law_other_here"] (defScope sTog) := ⟨rfl, rfl, rfl, by decide +kernel, rfl, by decide +kernel, by decide +kernel⟩
theorem ok_tog {f gw : Addr} {fd gwd : FuncData} (F : Fun K "_law_together" "_law_together" sTog f fd)
    (O : FnOk P w K mg base CX0 2 gw gwd ["_law_row_here"] (spWhole K)) (bO : L2.Binds K gwd ["_law_row_here"] []) (kO : keepIn K (.ref gw) = true) (mO : mg "_law_whole" = some (.ref gw)) (mlen : mg "len" = none) :
    FnOk P w K mg base CX0 3 f fd ["_law_one", "_law_other_here"] (spTog K) := by
  refine F.ok scTog (fun vs H Q E h => ?_) (fun cdv A outer s H vs Q E hr h => ?_)
  · obtain ⟨x, y, rfl, _⟩ := h
    rfl
  obtain ⟨x, y, rfl, hx, hy, q⟩ := h
  refine ⟨_, pss_cons (ps_asg (pe_call O hr rfl mO kO bO .nil pass0 (pa_cons (pe_tup (pa_cons (pv 0) (pa_cons (pv 1) pa_nil))) pa_nil)) (pg_tup rfl (pgs_cons (pg_name (i := 2) scTog.nd rfl (.inl rfl)) (pgs_cons (pg_name (i := 3) scTog.nd rfl (.inl rfl)) pgs_nil))))
    (pss_cons (ps_if (PW.pt (pw_or (pt_cmpR op_gt (pv 2) pe_int (nomark _)) (pw_or1 (pt_cmpR op_gt (pe_callB call_len_seq (by rfl) mlen PySem.boot_len (pa_cons (pv 3) pa_nil)) pe_int (nomark _))))) (pss_one (ps_ret (pe_tup (pa_cons (pv 0) (pa_cons (pv 1) pa_nil))))) pss_nil)
    (pss_one (ps_ret (pe_tup (pa_cons (pe_op op_add_str (pe_op op_add_str (pe_slice sl_str pe_str po_none (po_some (pv 2))) pe_str) (pe_join pe_str (pe_lc (own := [("_law_pick", 4)]) (g := gName 4) (tt := tYes) rfl scTog.nd (pi_tup (pv 3)) (blkOk_by (own := [("_law_pick", 4)]) (N := NT) (sc := defScope sTog) (by decide +kernel))
        (fun _ _ _ _ _ => pg_name (i := 4) scTog.nd rfl (Or.inl rfl)) (fun _ _ _ _ _ => pts_nil) (fun _ _ _ _ _ => pe_ix ix_str pe_str (pv 4) (fun _ _ => rfl))))) pa_nil))))), ?_⟩
  have e1 : ("-" : Str) = S [45] := by decide +kernel
  have ee : ("" : Str) = S [] := by decide +kernel
  rw [e1, lit_abc, ee]
  have g : Cm.Good [x, y] := fun z hz => by
    rcases List.mem_cons.mp hz with h | h
    · rw [h]; exact hx
    · rw [List.mem_singleton.mp h]; exact hy
  have wo := wmap_ok g
  refine ⟨_, rfl, _, rfl, (by show 2 ≤ sizeLine; decide), fun r nr => ?_⟩
  have sr := same_new nr (.tup [wV x, wV y])
  refine ⟨r, [x, y], rfl, SqT.of upd_same, g, (by show 2 ≤ 100; decide), fun p t H1 s1 hp ht => ?_⟩
  refine ⟨p, _, rfl, hp, rfl, _, _, rfl, _, _, rfl, rfl, ?_⟩
  have s01 := sr.trans s1
  have asTwo : ∀ (z : Addr) (nz : H1 z = none), Q (.ref z) (upd H1 z (.tup [wV x, wV y])) := fun z nz => q [x, y] z _ g (by show 2 ≤ 2; decide) (s01.trans (same_new nz _)) (SqT.of upd_same)
  refine ⟨_, rfl, _, _, rfl, rfl, _, rfl, ?_⟩
  refine ite2 (fun c => ?_) (fun c => ?_)
  · exact ⟨_, rfl, _, rfl, (by show 2 ≤ sizeLine; decide), fun z nz => asTwo z nz⟩
  refine ⟨_, rfl, t, _, rfl, .inr ht.sq, _, _, rfl, rfl, _, rfl, ?_⟩
  refine ite2 (fun c' => ?_) (fun c' => ?_)
  · exact ⟨_, rfl, _, rfl, (by show 2 ≤ sizeLine; decide), fun z nz => asTwo z nz⟩
  have n8 : (wmap [x, y]).1 ≤ 8 := by
    have : ¬ ((8 : Int) < ((wmap [x, y]).1 : Int)) := fun z => c (decide_eq_true z)
    omega
  have l12 : (wmap [x, y]).2.length ≤ 12 := by
    have : ¬ ((12 : Int) < ((((wmap [x, y]).2.map V.int).length : Nat) : Int)) := fun z => c' (decide_eq_true z)
    rw [List.length_map] at this
    omega
  have ht' : SqT K H1 t ((wmap [x, y]).2.map V.int) := ht.sq
  have inn := wo.2.2
  generalize (wmap [x, y]).1 = n at n8 inn
  generalize (wmap [x, y]).2 = ps at l12 inn ht'
  refine ⟨_, rfl, (n : Int), rfl, _, rfl, (by rw [S_len]; decide), ?_⟩
  rw [cutS_to (by omega), Int.toNat_natCast]
  have ea : abc8.take n = abc n := rfl
  rw [ea]
  refine ⟨_, _, rfl, rfl, ?_, ?_⟩
  · rw [S_len, S_len, abc_len n8]; exact Nat.le_of_lt (small1000 (by show n + 1 ≤ 1000; omega))
  rw [S_cat]
  refine ⟨⟨_, rfl⟩, _, rfl, t, rfl, ⟨_, ht'⟩, fun D hD => ?_⟩
  refine lc_mapT (fun v => match v with | .int p => .str (S [97 + p.toNat]) | v => v) ht' hD (by rw [List.length_map]; omega) (fun v H R hv sm r => ?_) ?_
  · obtain ⟨i, hi, rfl⟩ := List.mem_map.mp hv
    obtain ⟨i0, i1⟩ := inn i hi
    obtain ⟨m, rfl⟩ := Int.eq_ofNat_of_zero_le i0
    refine ⟨rfl, _, rfl, _, _, _, rfl, rfl, (by rw [S_len]; decide), atI_nat (j := m) (let8 m (by omega)), r⟩
  · have el : (ps.map V.int).map (fun v => match v with | .int p => V.str (S [97 + p.toNat]) | v => v) = ((ps.map fun i : Int => 97 + i.toNat).map fun c => S [c]).map V.str := by rw [List.map_map, List.map_map, List.map_map]; rfl
    rw [el]
    refine ⟨_, D, (ps.map fun i : Int => 97 + i.toNat).map fun c => S [c], rfl, rfl, .inl (SqL.of upd_same), sum12 (by rw [List.length_map]; omega), ?_⟩
    rw [join1]
    refine ⟨_, _, rfl, rfl, ?_, (by show 1 ≤ sizeLine; decide), fun z nz => ?_⟩
    · rw [S_len, S_len, List.length_append, abc_len n8, List.length_map]; exact Nat.le_of_lt (small1000 (by show n + 1 + ps.length ≤ 1000; omega))
    rw [S_cat, List.append_assoc]
    have hs : Shuf n (ps.map fun i : Int => 97 + i.toNat) := ⟨n8, by rw [List.length_map]; omega, fun c hc => by
      obtain ⟨i, hi, rfl⟩ := List.mem_map.mp hc
      obtain ⟨i0, i1⟩ := inn i hi
      exact in8 n n8 _ (by omega)⟩
    exact q [(n, ps.map fun i : Int => 97 + i.toNat)] z _ (fun u hu => by rw [List.mem_singleton.mp hu]; exact hs) (by show 1 ≤ 2; decide) ((s01.trans (same_new hD _)).trans (same_new nz _)) (SqT.of upd_same)
end
end K46
namespace K46
open PySem PySem.W L2 SX Cm
theorem Dk.sq {K : Frag} {H H' : Hp} {d a : Addr} {xs : List V} (g : Dk H d) (k : Kp [d] H H') (h : SqT K H a xs) : SqT K H' a xs := by
  obtain ⟨kk, sm, ms, hd, _⟩ := g
  have tk := TKs.kp (K := K) k fun b hb => by rw [List.mem_singleton.mp hb]; exact ⟨_, hd⟩
  exact tk _ _ h
theorem good_app {a b : List Wd} (ha : Cm.Good a) (hb : Cm.Good b) : Cm.Good (a ++ b) := fun x hx => (List.mem_append.mp hx).elim (ha x) (hb x)
theorem good_of {l : List Wd} (h : ∀ x ∈ l, x.1 ≤ 8 ∧ x.2.length ≤ 12 ∧ ∀ c ∈ x.2, c ∈ abc x.1) : Cm.Good l := fun x hx => Good.of_mem (h x hx)
theorem kp_same {d : Addr} {H H' : Hp} (s : Same H H') : Kp [d] H H' := fun b o _ e => s b o e
theorem lit1 : [V.str "ab-ba", V.str "ab-ba"] = ([(2, [98, 97]), (2, [98, 97])] : List Wd).map wV := by decide +kernel
theorem lit2 : [V.str "a-aa", V.str "a-"] = ([(1, [97, 97]), (1, [])] : List Wd).map wV := by decide +kernel
theorem lit3 : [V.str "abc-bca", V.str "abc-cab"] = ([(3, [98, 99, 97]), (3, [99, 97, 98])] : List Wd).map wV := by decide +kernel
theorem lit4 : [V.str "-"] = ([(0, [])] : List Wd).map wV := by decide +kernel
theorem lit5 : [V.str "ab-aba", V.str "a-", V.str "ab-ab"] = ([(2, [97, 98, 97]), (1, []), (2, [97, 98])] : List Wd).map wV := by decide +kernel
theorem asW {K : Frag} {H : Hp} {z : Addr} {xs : List V} {l : List Wd} (e : xs = l.map wV) (h : SqT K H z xs) : SqT K H z (l.map wV) := e ▸ h
section
variable {P : Program} {w : World} {K : PySem.W.Frag} {mg : Str → Option Value} {base : Heap}
def spOther (K : PySem.W.Frag) : Sp := fun vs H Q _ => ∃ (d a : Addr) (ws : List Wd), vs = [.ref d, .ref a] ∧ Dk H d ∧ SqT K H a (ws.map wV) ∧ Cm.Good ws ∧ ws.length ≤ 60 ∧
  ∀ (p : Addr) (us : List Wd) (H' : Hp), Cm.Good us → us.length ≤ 70 → SqT K H' p (us.map wV) → Kp [d] H H' → Dk H' d → Q (.ref p) H'
abbrev NO : List Str := ["_law_deck_here", "_law_row_here", "_law_way", "_law_at", "_law_still"]
theorem scOther : FnScope NO ["_law_deck_here", "_law_row_here"] (defScope sOther) := ⟨rfl, rfl, rfl, by decide +kernel, rfl, by decide +kernel, by decide +kernel⟩
theorem ok_other {f gg gi gt gz gr : Addr} {fd ggd gid gtd gzd grd : FuncData} (F : Fun K "_law_other" "_law_other" sOther f fd)
    (G : FnOk P w K mg base CX0 2 gg ggd ["_law_deck_here", "_law_most"] spDraw) (bG : L2.Binds K ggd ["_law_deck_here", "_law_most"] []) (kG : keepIn K (.ref gg) = true) (mG : mg "_law_draw" = some (.ref gg))
    (I : FnOk P w K mg base CX0 1 gi gid ["_law_word_here"] spWider) (bI : L2.Binds K gid ["_law_word_here"] []) (kI : keepIn K (.ref gi) = true) (mI : mg "_law_wider" = some (.ref gi))
    (T : FnOk P w K mg base CX0 3 gt gtd ["_law_one", "_law_other_here"] (spTog K)) (bT : L2.Binds K gtd ["_law_one", "_law_other_here"] []) (kT : keepIn K (.ref gt) = true) (mT : mg "_law_together" = some (.ref gt))
    (Z : FnOk P w K mg base CX0 4 gz gzd ["_law_deck_here"] spWord) (bZ : L2.Binds K gzd ["_law_deck_here"] []) (kZ : keepIn K (.ref gz) = true) (mZ : mg "_law_word" = some (.ref gz))
    (R : FnOk P w K mg base CX0 5 gr grd ["_law_deck_here", "_law_most"] (spRow K)) (bR : L2.Binds K grd ["_law_deck_here", "_law_most"] []) (kR : keepIn K (.ref gr) = true) (mR : mg "_law_row" = some (.ref gr))
    (mlen : mg "len" = none) : FnOk P w K mg base CX0 6 f fd ["_law_deck_here", "_law_row_here"] (spOther K) := by
  refine F.ok scOther (fun vs H Q E h => ?_) (fun cdv A outer s H vs Q E hr h => ?_)
  · obtain ⟨d, a, ws, rfl, _⟩ := h
    rfl
  obtain ⟨d, a, ws, rfl, D0, ha, g, lw, q⟩ := h
  have hr1 := hr.mono (show 1 ≤ 5 by decide)
  have hr2 := hr.mono (show 2 ≤ 5 by decide)
  have hr3 := hr.mono (show 3 ≤ 5 by decide)
  have hr4 := hr.mono (show 4 ≤ 5 by decide)
  refine ⟨_, pss_cons (ps_set (i := 2) scOther.nd rfl (.inl rfl) (pe_call G hr2 rfl mG kG bG .nil pass0 (pa_cons (pv 0) (pa_cons pe_int pa_nil))))
    (pss_cons (ps_set (i := 3) scOther.nd rfl (.inl rfl) (pe_call G hr2 rfl mG kG bG .nil pass0 (pa_cons (pv 0) (pa_cons (pe_op op_add (pe_callB call_len_seq (by rfl) mlen PySem.boot_len (pa_cons (pv 1) pa_nil)) pe_int) pa_nil))))
    (pss_cons (ps_set (i := 4) scOther.nd rfl (.inl rfl) (pe_lst (pa_cons (pe_tup (pa_cons pe_str (pa_cons pe_str pa_nil))) (pa_cons (pe_tup (pa_cons pe_str (pa_cons pe_str pa_nil))) (pa_cons (pe_tup (pa_cons pe_str (pa_cons pe_str pa_nil))) (pa_cons (pe_tup (pa_cons pe_str pa_nil)) (pa_cons (pe_tup (pa_cons pe_str (pa_cons pe_str (pa_cons pe_str pa_nil)))) pa_nil)))))))
    (C8.pss_cut (ps_if (pt_cmpR op_eq (pv 2) pe_int (nomark _)) (pss_one (ps_ret (pe_op op_catA (pe_op op_catA (pe_slice sl_tupA (pv 1) po_none (po_some (pv 3))) (pe_ix ix_list (pv 4) (pe_call G hr2 rfl mG kG bG .nil pass0 (pa_cons (pv 0) (pa_cons pe_int pa_nil))) (fun _ _ => rfl))) (pe_slice sl_tupA (pv 1) (po_some (pv 3)) po_none)))) pss_nil)
    (C8.pss_cut (ps_if (PW.pt (pw_and (pt_cmpR op_eq (pv 2) pe_int (nomark _)) (pw_and1 (pt_cmpR op_lt (pv 3) (pe_callB call_len_seq (by rfl) mlen PySem.boot_len (pa_cons (pv 1) pa_nil)) (nomark _))))) (pss_one (ps_ret (pe_op op_catA (pe_op op_catA (pe_slice sl_tupA (pv 1) po_none (po_some (pv 3))) (pe_tup (pa_cons (pe_call I hr1 rfl mI kI bI .nil pass0 (pa_cons (pe_ix ix_tup (pv 1) (pv 3) (fun _ _ => rfl)) pa_nil)) pa_nil))) (pe_slice sl_tupA (pv 1) (po_some (pe_op op_add (pv 3) pe_int)) po_none)))) pss_nil)
    (C8.pss_cut (ps_if (PW.pt (pw_and (pt_cmpR op_eq (pv 2) pe_int (nomark _)) (pw_and1 (pt_cmpR op_lt (pe_op op_add (pv 3) pe_int) (pe_callB call_len_seq (by rfl) mlen PySem.boot_len (pa_cons (pv 1) pa_nil)) (nomark _))))) (pss_one (ps_ret (pe_op op_catA (pe_op op_catA (pe_slice sl_tupA (pv 1) po_none (po_some (pv 3))) (pe_call T hr3 rfl mT kT bT .nil pass0 (pa_cons (pe_ix ix_tup (pv 1) (pv 3) (fun _ _ => rfl)) (pa_cons (pe_ix ix_tup (pv 1) (pe_op op_add (pv 3) pe_int) (fun _ _ => rfl)) pa_nil)))) (pe_slice sl_tupA (pv 1) (po_some (pe_op op_add (pv 3) pe_int)) po_none)))) pss_nil)
    (C8.pss_cut (ps_if (PW.pt (pw_and (pt_cmpR op_eq (pv 2) pe_int (nomark _)) (pw_and1 (pt_cmpR op_lt (pv 3) (pe_callB call_len_seq (by rfl) mlen PySem.boot_len (pa_cons (pv 1) pa_nil)) (nomark _))))) (pss_one (ps_ret (pe_op op_catA (pe_op op_catA (pe_slice sl_tupA (pv 1) po_none (po_some (pv 3))) (pe_tup (pa_cons (pe_call Z hr4 rfl mZ kZ bZ .nil pass0 (pa_cons (pv 0) pa_nil)) pa_nil))) (pe_slice sl_tupA (pv 1) (po_some (pe_op op_add (pv 3) pe_int)) po_none)))) pss_nil)
    (C8.pss_cut (ps_if (pt_cmpR op_eq (pv 2) pe_int (nomark _)) (pss_one (ps_ret (pe_op op_catA (pe_slice sl_tupA (pv 1) po_none (po_some (pv 3))) (pe_slice sl_tupA (pv 1) (po_some (pe_op op_add (pv 3) pe_int)) po_none)))) pss_nil)
    (pss_one (ps_ret (pe_call R hr rfl mR kR bR .nil pass0 (pa_cons (pv 0) (pa_cons pe_int pa_nil)))))))))))), ?_⟩
  refine ⟨_, rfl, d, 6, rfl, D0, by decide, by decide, fun way H1 _ _ k1 D1 => ?_⟩
  have ha1 := D0.sq k1 ha
  refine ⟨_, rfl, _, rfl, a, _, rfl, .inr ha1, _, _, rfl, rfl, d, _, rfl, D1, ?_, ?_, fun at_ H2 at0 at1 k2 D2 => ?_⟩
  · omega
  · rw [List.length_map]; omega
  rw [List.length_map] at at1
  obtain ⟨m, rfl⟩ := Int.eq_ofNat_of_zero_le at0
  have hm : m ≤ ws.length := by omega
  have ha2 := D1.sq k2 ha1
  refine ⟨(by show 2 ≤ sizeLine; decide), fun z1 n1 => ⟨(by show 2 ≤ sizeLine; decide), fun z2 n2 => ⟨(by show 2 ≤ sizeLine; decide), fun z3 n3 => ⟨(by show 1 ≤ sizeLine; decide), fun z4 n4 => ⟨(by show 3 ≤ sizeLine; decide), fun z5 n5 => ⟨(by show 5 ≤ sizeLine; decide), fun L nL => ?_⟩⟩⟩⟩⟩⟩
  have t1 := same_new n1 (.tup [V.str "ab-ba", V.str "ab-ba"])
  have t2 := same_new n2 (.tup [V.str "a-aa", V.str "a-"])
  have t3 := same_new n3 (.tup [V.str "abc-bca", V.str "abc-cab"])
  have t4 := same_new n4 (.tup [V.str "-"])
  have t5 := same_new n5 (.tup [V.str "ab-aba", V.str "a-", V.str "ab-ab"])
  have tL := same_new nL (.lst [V.ref z1, V.ref z2, V.ref z3, V.ref z4, V.ref z5])
  have w1 := asW lit1 (Same.seqT (K := K) (a := z1) ((((t2.trans t3).trans t4).trans t5).trans tL) (SqT.of upd_same))
  have w2 := asW lit2 (Same.seqT (K := K) (a := z2) (((t3.trans t4).trans t5).trans tL) (SqT.of upd_same))
  have w3 := asW lit3 (Same.seqT (K := K) (a := z3) ((t4.trans t5).trans tL) (SqT.of upd_same))
  have w4 := asW lit4 (Same.seqT (K := K) (a := z4) (t5.trans tL) (SqT.of upd_same))
  have w5 := asW lit5 (Same.seqT (K := K) (a := z5) tL (SqT.of upd_same))
  have tt := ((((t1.trans t2).trans t3).trans t4).trans t5).trans tL
  have D3 := D2.same tt
  have ha3 := Same.seqT tt ha2
  have k03 : Kp [d] H _ := (k1.trans k2).trans (kp_same tt)
  have nLd := (((((D2.new n1 (o := .tup [V.str "ab-ba", V.str "ab-ba"])).new n2 (o := .tup [V.str "a-aa", V.str "a-"])).new n3 (o := .tup [V.str "abc-bca", V.str "abc-cab"])).new n4 (o := .tup [V.str "-"])).new n5 (o := .tup [V.str "ab-aba", V.str "a-", V.str "ab-ab"])).ne nL
  have hL : _ = some (HO.lst [V.ref z1, V.ref z2, V.ref z3, V.ref z4, V.ref z5]) := upd_same (H := (upd (upd (upd (upd (upd H2 z1 (.tup [V.str "ab-ba", V.str "ab-ba"])) z2 (.tup [V.str "a-aa", V.str "a-"])) z3 (.tup [V.str "abc-bca", V.str "abc-cab"])) z4 (.tup [V.str "-"])) z5 (.tup [V.str "ab-aba", V.str "a-", V.str "ab-ab"]))) (a := L) (o := .lst [V.ref z1, V.ref z2, V.ref z3, V.ref z4, V.ref z5])
  clear t1 t2 t3 t4 t5 tL tt
  generalize upd (upd (upd (upd (upd (upd H2 z1 (.tup [V.str "ab-ba", V.str "ab-ba"])) z2 (.tup [V.str "a-aa", V.str "a-"])) z3 (.tup [V.str "abc-bca", V.str "abc-cab"])) z4 (.tup [V.str "-"])) z5 (.tup [V.str "ab-aba", V.str "a-", V.str "ab-ab"])) L (.lst [V.ref z1, V.ref z2, V.ref z3, V.ref z4, V.ref z5]) = H3 at w1 w2 w3 w4 w5 D3 ha3 k03 hL
  have gt : Cm.Good (ws.take m) := fun x hx => g x (List.mem_of_mem_take hx)
  have gd : ∀ j, Cm.Good (ws.drop j) := fun j x hx => g x (List.mem_of_mem_drop hx)
  have lt : (ws.take m).length = m := by rw [List.length_take]; omega
  have ld : ∀ j, (ws.drop j).length ≤ 60 := fun j => by rw [List.length_drop]; omega
  -- the end of a way: three pieces
  have fin : ∀ {j : Nat} {ys : List Wd} {p1 p2 p4 : Addr} {H4 : Hp}, Cm.Good ys → ys.length ≤ 3 → m + (ws.drop j).length ≤ 61 → SqT K H4 p1 ((ws.take m).map wV ++ ys.map wV) → SqT K H4 p4 ((ws.drop j).map wV) → Kp [d] H H4 → Dk H4 d → rCatA K (.ref p1) (.ref p4) H4 Q := fun {j ys p1 p2 p4 H4} gy ly lj h1 h4 k D => by
    refine catT_map h1 h4 ?_ fun p5 H5 s5 h5 => ?_
    · rw [List.length_append, List.length_map, List.length_map, List.length_map, lt]; omega
    rw [← List.map_append, ← List.map_append] at h5
    refine q p5 _ H5 (good_app (good_app gt gy) (gd j)) ?_ h5 (k.trans (kp_same s5)) (D.same s5)
    rw [List.length_append, List.length_append, lt]; omega
  refine ⟨fun σ' H' => σ' = [some (.ref d), some (.ref a), some (.int way), some (.int (m : Int)), some (.ref L)] ∧ H' = H3, ?_, ?_⟩
  · refine ⟨_, rfl, rfl, _, rfl, ?_⟩
    refine ite2 (fun c => ?_) (fun c => ⟨rfl, rfl⟩)
    refine ⟨_, rfl, _, rfl, (m : Int), rfl, ?_⟩
    refine slT_upto (i := m) ha3 fun p1 H4 s4 hp1 => ?_
    have hL4 := s4 _ _ hL
    have D4 := D3.same s4
    refine ⟨_, rfl, _, rfl, d, 5, rfl, D4, by decide, by decide, fun e H5 e0 e1 k5 D5 => ?_⟩
    obtain ⟨e, rfl⟩ := Int.eq_ofNat_of_zero_le e0
    have hL5 := k5 L _ (fun z => nLd (List.mem_singleton.mp z)) hL4
    have sq := fun {z : Addr} {xs : List V} (h : SqT K H3 z xs) => D4.sq k5 (Same.seqT s4 h)
    have k05 := (k03.trans (kp_same s4)).trans k5
    obtain ⟨z, zs, az, hz, gz, lz⟩ : ∃ (z : Addr) (zs : List Wd), atI [V.ref z1, V.ref z2, V.ref z3, V.ref z4, V.ref z5] (e : Int) = some (.ref z) ∧ SqT K H5 z (zs.map wV) ∧ Cm.Good zs ∧ zs.length ≤ 3 := by
      have he : e < 5 := by omega
      match e, he with
      | 0, _ => exact ⟨z1, _, atI_nat (j := 0) rfl, sq w1, good_of (by decide +kernel), by decide⟩
      | 1, _ => exact ⟨z2, _, atI_nat (j := 1) rfl, sq w2, good_of (by decide +kernel), by decide⟩
      | 2, _ => exact ⟨z3, _, atI_nat (j := 2) rfl, sq w3, good_of (by decide +kernel), by decide⟩
      | 3, _ => exact ⟨z4, _, atI_nat (j := 3) rfl, sq w4, good_of (by decide +kernel), by decide⟩
      | 4, _ => exact ⟨z5, _, atI_nat (j := 4) rfl, sq w5, good_of (by decide +kernel), by decide⟩
    refine ⟨L, _, _, _, rfl, rfl, SqL.of hL5, az, ?_⟩
    refine catT_map (D4.sq k5 hp1) hz ?_ fun p3 H6 s6 hp3 => ?_
    · rw [List.length_map, List.length_map, lt]; omega
    refine ⟨_, rfl, _, rfl, (m : Int), rfl, ?_⟩
    refine slT_fromP (i := m) (Same.seqT s6 (sq ha3)) fun p4 H7 s7 hp4 => ?_
    exact fin (p2 := z) gz lz (by rw [List.length_drop]; omega) (Same.seqT s7 hp3) hp4 ((k05.trans (kp_same s6)).trans (kp_same s7)) ((D5.same s6).same s7)
  rintro σ' H' ⟨rfl, rfl⟩
  refine ⟨fun σ' H'' => σ' = [some (.ref d), some (.ref a), some (.int way), some (.int (m : Int)), some (.ref L)] ∧ H'' = H', ?_, ?_⟩
  · refine ⟨_, rfl, rfl, _, rfl, ?_⟩
    refine ite2 (fun c => ?_) (fun c => ⟨rfl, rfl⟩)
    refine ⟨_, rfl, _, rfl, a, _, rfl, .inr ha3, _, _, rfl, rfl, _, rfl, ?_⟩
    refine ite2 (fun c2 => ?_) (fun c2 => ⟨rfl, rfl⟩)
    have hlt : m < ws.length := by
      have := of_decide_eq_true c2
      rw [List.length_map] at this
      omega
    refine ⟨_, rfl, _, rfl, (m : Int), rfl, ?_⟩
    refine slT_upto (i := m) ha3 fun p1 H4 s4 hp1 => ?_
    refine ⟨_, rfl, _, rfl, a, _, _, _, rfl, rfl, Same.seqT s4 ha3, atI_nat (j := m) (by rw [List.getElem?_map, List.getElem?_eq_getElem hlt]; rfl), ?_⟩
    refine ⟨ws[m], rfl, g _ (List.getElem_mem hlt), fun y H5 hy s5 => ⟨(by show 1 ≤ sizeLine; decide), fun p2 np2 => ?_⟩⟩
    have s6 := same_new np2 (.tup [wV y])
    refine catT_map (xs := (ws.take m).map wV) (ys := [y].map wV) (Same.seqT (s5.trans s6) hp1) (SqT.of upd_same) ?_ fun p3 H7 s7 hp3 => ?_
    · rw [List.length_map, List.length_map, lt]; show m + 1 ≤ _; omega
    refine ⟨_, rfl, _, rfl, _, _, rfl, rfl, ((m + 1 : Nat) : Int), rfl, ?_⟩
    have s37 := ((s4.trans s5).trans s6).trans s7
    refine slT_fromP (i := m + 1) (Same.seqT s37 ha3) fun p4 H8 s8 hp4 => ?_
    exact fin (p2 := p2) (ys := [y]) (fun x hx => by rw [List.mem_singleton.mp hx]; exact hy) (by show 1 ≤ 3; decide) (by rw [List.length_drop]; omega) (Same.seqT s8 hp3) hp4 (k03.trans (kp_same (s37.trans s8))) (D3.same (s37.trans s8))
  rintro σ' H'' ⟨rfl, rfl⟩
  refine ⟨fun σ' H' => σ' = [some (.ref d), some (.ref a), some (.int way), some (.int (m : Int)), some (.ref L)] ∧ H' = H'', ?_, ?_⟩
  · refine ⟨_, rfl, rfl, _, rfl, ?_⟩
    refine ite2 (fun c => ?_) (fun c => ⟨rfl, rfl⟩)
    refine ⟨_, rfl, _, _, rfl, rfl, _, rfl, a, _, rfl, .inr ha3, _, _, rfl, rfl, _, rfl, ?_⟩
    refine ite2 (fun c2 => ?_) (fun c2 => ⟨rfl, rfl⟩)
    have hlt1 : m + 1 < ws.length := by
      have := of_decide_eq_true c2
      rw [List.length_map] at this
      omega
    have hlt : m < ws.length := by omega
    refine ⟨_, rfl, _, rfl, (m : Int), rfl, ?_⟩
    refine slT_upto (i := m) ha3 fun p1 H4 s4 hp1 => ?_
    refine ⟨_, rfl, _, rfl, a, _, _, _, rfl, rfl, Same.seqT s4 ha3, atI_nat (j := m) (by rw [List.getElem?_map, List.getElem?_eq_getElem hlt]; rfl), ?_⟩
    refine ⟨_, rfl, _, rfl, _, _, rfl, rfl, a, _, _, _, rfl, rfl, Same.seqT s4 ha3, atI_nat (j := m + 1) (by rw [List.getElem?_map, List.getElem?_eq_getElem hlt1]; rfl), ?_⟩
    refine ⟨ws[m], ws[m + 1], rfl, g _ (List.getElem_mem hlt), g _ (List.getElem_mem hlt1), fun zs p2 H5 gz lz s5 hz => ?_⟩
    refine catT_map (xs := (ws.take m).map wV) (ys := zs.map wV) (Same.seqT s5 hp1) hz ?_ fun p3 H7 s7 hp3 => ?_
    · rw [List.length_map, List.length_map, lt]; omega
    refine ⟨_, rfl, _, rfl, _, _, rfl, rfl, ((m + 2 : Nat) : Int), rfl, ?_⟩
    have s37 := (s4.trans s5).trans s7
    refine slT_fromP (i := m + 2) (Same.seqT s37 ha3) fun p4 H8 s8 hp4 => ?_
    exact fin (p2 := p2) gz (by omega) (by rw [List.length_drop]; omega) (Same.seqT s8 hp3) hp4 (k03.trans (kp_same (s37.trans s8))) (D3.same (s37.trans s8))
  rintro σ' H' ⟨rfl, rfl⟩
  refine ⟨fun σ' H'' => σ' = [some (.ref d), some (.ref a), some (.int way), some (.int (m : Int)), some (.ref L)] ∧ H'' = H', ?_, ?_⟩
  · refine ⟨_, rfl, rfl, _, rfl, ?_⟩
    refine ite2 (fun c => ?_) (fun c => ⟨rfl, rfl⟩)
    refine ⟨_, rfl, _, rfl, a, _, rfl, .inr ha3, _, _, rfl, rfl, _, rfl, ?_⟩
    refine ite2 (fun c2 => ?_) (fun c2 => ⟨rfl, rfl⟩)
    have hlt : m < ws.length := by
      have := of_decide_eq_true c2
      rw [List.length_map] at this
      omega
    refine ⟨_, rfl, _, rfl, (m : Int), rfl, ?_⟩
    refine slT_upto (i := m) ha3 fun p1 H4 s4 hp1 => ?_
    have D4 := D3.same s4
    refine ⟨_, rfl, d, rfl, D4, fun y H5 hy k5 D5 => ⟨(by show 1 ≤ sizeLine; decide), fun p2 np2 => ?_⟩⟩
    have s6 := same_new np2 (.tup [wV y])
    refine catT_map (xs := (ws.take m).map wV) (ys := [y].map wV) (Same.seqT s6 (D4.sq k5 hp1)) (SqT.of upd_same) ?_ fun p3 H7 s7 hp3 => ?_
    · rw [List.length_map, List.length_map, lt]; show m + 1 ≤ _; omega
    refine ⟨_, rfl, _, rfl, _, _, rfl, rfl, ((m + 1 : Nat) : Int), rfl, ?_⟩
    refine slT_fromP (i := m + 1) (Same.seqT (s6.trans s7) (D4.sq k5 (Same.seqT s4 ha3))) fun p4 H8 s8 hp4 => ?_
    exact fin (p2 := p2) (ys := [y]) (fun x hx => by rw [List.mem_singleton.mp hx]; exact hy) (by show 1 ≤ 3; decide) (by rw [List.length_drop]; omega) (Same.seqT s8 hp3) hp4 (((k03.trans (kp_same s4)).trans k5).trans (kp_same ((s6.trans s7).trans s8))) (D5.same ((s6.trans s7).trans s8))
  rintro σ' H'' ⟨rfl, rfl⟩
  refine ⟨fun σ' H' => σ' = [some (.ref d), some (.ref a), some (.int way), some (.int (m : Int)), some (.ref L)] ∧ H' = H'', ?_, ?_⟩
  · refine ⟨_, rfl, rfl, _, rfl, ?_⟩
    refine ite2 (fun c => ?_) (fun c => ⟨rfl, rfl⟩)
    refine ⟨_, rfl, _, rfl, (m : Int), rfl, ?_⟩
    refine slT_upto (i := m) ha3 fun p1 H4 s4 hp1 => ?_
    refine ⟨_, rfl, _, rfl, _, _, rfl, rfl, ((m + 1 : Nat) : Int), rfl, ?_⟩
    refine slT_fromP (i := m + 1) (Same.seqT s4 ha3) fun p4 H8 s8 hp4 => ?_
    exact fin (p2 := p1) (ys := []) (fun x hx => nomatch hx) (by decide) (by rw [List.length_drop]; omega) (by rw [List.map_nil, List.append_nil]; exact Same.seqT s8 hp1) hp4 (k03.trans (kp_same (s4.trans s8))) (D3.same (s4.trans s8))
  rintro σ' H' ⟨rfl, rfl⟩
  exact ⟨_, rfl, d, 57, rfl, D3, by decide, by decide, fun r us H9 g9 l9 nr hr9 k9 D9 => q r us H9 g9 (by omega) hr9 (k03.trans k9) D9⟩
end
end K46
namespace K46
open PySem PySem.W L2 SX Cm
/-! ### how numbers as things are shown -/
theorem show_int : ∀ k < 700, ((toString ((k : Nat) : Int) : String) : Str).length ≤ 3 := by decide +kernel
theorem show_word : (reprText ("number" : Str)).length = 8 := by decide +kernel
theorem numD_shown {k : Nat} (h : k < 700) : (numD (k : Int)).shown.length ≤ 20 := by
  have e : (numD (k : Int)).shown = tupleText [reprText ("number" : Str), (toString (k : Int) : String)] := by simp [numD, PyData.shown, PyData.shownAll]
  rw [e]
  have h1 := fmt_text [reprText ("number" : Str), ((toString (k : Int) : String) : Str)]
  rw [piled_cons, piled_cons, piled_nil, show_word] at h1
  have h2 := show_int k h
  omega
theorem shownAll_map : ∀ l : List Int, PyData.shownAll (l.map numD) = l.map fun i => (numD i).shown
  | [] => by simp [PyData.shownAll]
  | i :: r => by
    show PyData.shownAll (numD i :: r.map numD) = _
    rw [PyData.shownAll, shownAll_map r]; rfl
theorem piled_le : ∀ (l : List Str), (∀ y ∈ l, y.length ≤ 20) → piled l ≤ 22 * l.length
  | [], _ => by rw [piled_nil]; omega
  | y :: r, h => by
    rw [piled_cons, List.length_cons]
    have h1 := h y List.mem_cons_self
    have h2 := piled_le r fun z hz => h z (List.mem_cons_of_mem _ hz)
    omega
theorem stkD_shown {m : Nat} (h : m ≤ 700) : (stkD (nums m)).shown.length ≤ sizeLine := by
  have e : (stkD (nums m)).shown = tupleText ((nums m).map fun i => (numD i).shown) := by
    rw [← shownAll_map]; simp [stkD, PyData.shown]
  rw [e]
  have h1 := fmt_text ((nums m).map fun i => (numD i).shown)
  have h2 := piled_le ((nums m).map fun i => (numD i).shown) fun y hy => by
    obtain ⟨i, hi, rfl⟩ := List.mem_map.mp hy
    obtain ⟨i0, i1⟩ := mem_nums.mp hi
    obtain ⟨k, rfl⟩ := Int.eq_ofNat_of_zero_le i0
    exact numD_shown (by omega)
  rw [List.length_map, nums_length] at h2
  rw [sizeLine_eq]
  omega
theorem log_int : ∀ k < 700, ((k : Nat) : Int).natAbs.log2 < 1920 := by decide +kernel
theorem showable_all : ∀ l : List Int, (∀ i ∈ l, 0 ≤ i ∧ i < 700) → PyData.showableAll (l.map numD) = true
  | [], _ => by simp [PyData.showableAll]
  | i :: r, h => by
    show PyData.showableAll (numD i :: r.map numD) = true
    rw [PyData.showableAll, showable_all r fun j hj => h j (List.mem_cons_of_mem _ hj), Bool.and_true]
    obtain ⟨i0, i1⟩ := h i List.mem_cons_self
    obtain ⟨k, rfl⟩ := Int.eq_ofNat_of_zero_le i0
    have := log_int k (by omega)
    simp [numD, PyData.showable, PyData.showableAll]
    exact this
theorem stkD_showable {m : Nat} (h : m ≤ 700) : (stkD (nums m)).showable = true := by
  have e : (stkD (nums m)).showable = PyData.showableAll ((nums m).map numD) := by simp [stkD, PyData.showable]
  rw [e]
  exact showable_all _ fun i hi => by have := mem_nums.mp hi; omega
theorem noDict_all : ∀ l : List Int, PyData.hasDictAll (l.map numD) = false
  | [] => by simp [PyData.hasDictAll]
  | i :: r => by
    show PyData.hasDictAll (numD i :: r.map numD) = false
    rw [PyData.hasDictAll, noDict_all r]
    simp [numD, PyData.hasDict, PyData.hasDictAll]
theorem stkD_noDict (l : List Int) : (stkD l).hasDict = false := by
  have e : (stkD l).hasDict = PyData.hasDictAll (l.map numD) := by simp [stkD, PyData.hasDict]
  rw [e]; exact noDict_all l
theorem more_mem {j n : Nat} {ps : List Int} (h : ∀ p ∈ ps, (0 : Int) ≤ p ∧ p < n) : ∀ i ∈ moreM j ps, (0 : Int) ≤ i ∧ i < ((j + n : Nat) : Int) := fun i hi => by
  rcases List.mem_append.mp hi with z | z
  · have := mem_nums.mp z; omega
  · obtain ⟨p, hp, rfl⟩ := List.mem_map.mp z
    have := h p hp; omega
section
variable {P : Program} {w : World} {K : PySem.W.Frag} {mg : Str → Option Value} {base : Heap}
/-! ### _law_right -/
def spRight (K : PySem.W.Frag) : Sp := fun vs H Q _ => ∃ (a b : Addr) (us ws : List Wd), vs = [.ref a, .ref b] ∧ SqT K H a (us.map wV) ∧ Cm.Good us ∧ us.length ≤ 80 ∧ SqT K H b (ws.map wV) ∧ Cm.Good ws ∧ ws.length ≤ 80 ∧ ∀ (H' : Hp), Same H H' → Q (.bl true) H'
abbrev NX : List Str := ["_law_one", "_law_other_here", "_law_many", "_law_found", "_law_n", "_law_picks", "_law_m", "_law_others", "_law_k", "_law_due"]
theorem scRight : FnScope NX ["_law_one", "_law_other_here"] (defScope sRight) := ⟨rfl, rfl, rfl, by decide +kernel, rfl, by decide +kernel, by decide +kernel⟩
theorem ok_right {f gw gp gl gf gn : Addr} {fd gwd gpd gld gfd gnd : FuncData} (F : Fun K "_law_right" "_law_right" sRight f fd)
    (O : FnOk P w K mg base CX0 2 gw gwd ["_law_row_here"] (spWhole K)) (bO : L2.Binds K gwd ["_law_row_here"] []) (kO : keepIn K (.ref gw) = true) (mO : mg "_law_whole" = some (.ref gw))
    (T : FnOk P w K mg base CX0 4 gp gpd ["one", "other"] (spParting K)) (bT : L2.Binds K gpd ["one", "other"] []) (kT : keepIn K (.ref gp) = true) (mT : mg "parting" = some (.ref gp))
    (L : FnOk P w K mg base CX0 1 gl gld ["_law_n", "_law_picks"] (spLLeast K)) (bL : L2.Binds K gld ["_law_n", "_law_picks"] []) (kL : keepIn K (.ref gl) = true) (mL : mg "_law_least" = some (.ref gl))
    (Y : FnOk P w K mg base CX0 2 gf gfd ["_law_row_here", "_law_stack"] (spLeft K)) (bV : L2.Binds K gfd ["_law_row_here", "_law_stack"] []) (kV : keepIn K (.ref gf) = true) (mV : mg "_law_left" = some (.ref gf))
    (N : FnOk P w K mg base CX0 4 gn gnd ["row"] (spNeedOf K)) (bN : L2.Binds K gnd ["row"] []) (kN : keepIn K (.ref gn) = true) (mN : mg "need_of" = some (.ref gn))
    (mmax : mg "max" = none) (mtup : mg "tuple" = none) (mrange : mg "range" = none) (misi : mg "isinstance" = none) (mrepr : mg "repr" = none) (mlen : mg "len" = none) :
    FnG P w K mg base CX0 5 f fd ["_law_one", "_law_other_here"] (spRight K) := by
  refine okG F scRight (fun vs H Q E h => ?_) (fun cdv A outer s H vs Q E hg hr h => ?_)
  · obtain ⟨a, b, us, ws, rfl, _⟩ := h
    rfl
  obtain ⟨a, b, us, ws, rfl, ha, gu, lu, hb, gw', lw, q⟩ := h
  have hr1 := hr.mono (show 1 ≤ 4 by decide)
  have hr2 := hr.mono (show 2 ≤ 4 by decide)
  refine ⟨_, pss_cons (ps_set (i := 2) scRight.nd rfl (.inl rfl) (pe_callB (call_max2 rfl) (by rfl) mmax PyProof.Rows.boot_max (pa_cons (pe_ix ix_tup (pe_call O hr2 rfl mO kO bO .nil pass0 (pa_cons (pv 0) pa_nil)) pe_int (fun _ _ => rfl)) (pa_cons (pe_ix ix_tup (pe_call O hr2 rfl mO kO bO .nil pass0 (pa_cons (pv 1) pa_nil)) pe_int (fun _ _ => rfl)) pa_nil))))
    (pss_cons (ps_set (i := 3) scRight.nd rfl (.inl rfl) (pe_call T hr rfl mT kT bT .nil pass0 (pa_cons (pv 0) (pa_cons (pv 1) pa_nil))))
    (pss_cons (ps_asg (pe_call O hr2 rfl mO kO bO .nil pass0 (pa_cons (pv 0) pa_nil)) (pg_tup rfl (pgs_cons (pg_name (i := 4) scRight.nd rfl (.inl rfl)) (pgs_cons (pg_name (i := 5) scRight.nd rfl (.inl rfl)) pgs_nil))))
    (pss_cons (ps_asg (pe_call O hr2 rfl mO kO bO .nil pass0 (pa_cons (pv 1) pa_nil)) (pg_tup rfl (pgs_cons (pg_name (i := 6) scRight.nd rfl (.inl rfl)) (pgs_cons (pg_name (i := 7) scRight.nd rfl (.inl rfl)) pgs_nil))))
    (pss_cons (ps_if (pt_cmpR (op_eqD hr.units) (pe_call L hr1 rfl mL kL bL .nil pass0 (pa_cons (pv 4) (pa_cons (pv 5) pa_nil))) (pe_call L hr1 rfl mL kL bL .nil pass0 (pa_cons (pv 6) (pa_cons (pv 7) pa_nil))) (nomark _)) (pss_one (ps_ret (pe_cmpR op_isN (pv 3) pe_non (nomark _)))) pss_nil)
    (pss_cons (ps_set (i := 9) scRight.nd rfl (.inl rfl) (pe_callTy call_tuple_of (by rfl) mtup (by decide +kernel) (pa_cons (pe_lc (own := [("_law_k", 8)]) (g := gName 8) (tt := tYes) rfl scRight.nd (pi_range1 rfl mrange (pa_cons (pv 2) pa_nil)) (blkOk_by (own := [("_law_k", 8)]) (N := NX) (sc := defScope sRight) (by decide +kernel))
      (fun _ _ _ _ _ => pg_name (i := 8) scRight.nd rfl (Or.inl rfl)) (fun _ _ _ _ _ => pts_nil) (fun _ _ _ _ _ => pe_tup (pa_cons pe_str (pa_cons (pv 8) pa_nil)))) pa_nil)))
    (pss_cons (ps_if (PW.pt (pw_or (pt_not (pt_val (pe_callB call_isi (by rfl) misi PyProof.Rows.boot_isinstance (pa_cons (pv 3) (pa_cons (pe_bltn (v := .ty "tuple") (by rfl) mtup (by decide +kernel) rfl) pa_nil)))))
        (pw_or (pt_cmpR (op_neD hr.units) (pv 3) (pv 9) (nomark _))
        (pw_or1 (pt_cmpR op_ne (pe_callB (call_reprG hg hr.units) (by rfl) mrepr PyProof.Rows.boot_repr (pa_cons (pv 3) pa_nil)) (pe_callB (call_reprG hg hr.units) (by rfl) mrepr PyProof.Rows.boot_repr (pa_cons (pv 9) pa_nil)) (nomark _)))))) (pss_one (ps_ret pe_bl)) pss_nil)
    (pss_one (ps_ret (pe_and (pe_cmpR (op_neD hr.units) (pe_call Y hr2 rfl mV kV bV .nil pass0 (pa_cons (pv 0) (pa_cons (pv 3) pa_nil))) (pe_call Y hr2 rfl mV kV bV .nil pass0 (pa_cons (pv 1) (pa_cons (pv 3) pa_nil))) (nomark _))
        (pe_one (pe_cmpR op_eq (pe_callB call_len_seq (by rfl) mlen PySem.boot_len (pa_cons (pv 3) pa_nil)) (pe_callB (call_max2 rfl) (by rfl) mmax PyProof.Rows.boot_max (pa_cons (pe_call N hr rfl mN kN bN .nil pass0 (pa_cons (pv 0) pa_nil)) (pa_cons (pe_call N hr rfl mN kN bN .nil pass0 (pa_cons (pv 1) pa_nil)) pa_nil))) (nomark _)))))))))))), ?_⟩
  have wu := wmap_ok gu
  have ww := wmap_ok gw'
  refine ⟨_, rfl, a, us, rfl, ha, gu, by omega, fun p1 t1 H1 s1 hp1 ht1 => ⟨p1, _, 0, _, rfl, rfl, hp1, atI_nat (j := 0) rfl, ?_⟩⟩
  refine ⟨_, rfl, b, ws, rfl, Same.seqT s1 hb, gw', by omega, fun p2 t2 H2 s2 hp2 ht2 => ⟨p2, _, 0, _, rfl, rfl, hp2, atI_nat (j := 0) rfl, ?_⟩⟩
  refine ⟨_, _, rfl, ?_⟩
  rw [max_int]
  have s02 := s1.trans s2
  refine ⟨_, rfl, _, rfl, a, b, us, ws, rfl, Same.seqT s02 ha, gu, lu, Same.seqT s02 hb, gw', lw, fun c d v H3 s3 hc hd hv => ?_⟩
  have s03 := s02.trans s3
  refine ⟨_, rfl, a, us, rfl, Same.seqT s03 ha, gu, by omega, fun p4 t4 H4 s4 hp4 ht4 => ?_⟩
  refine ⟨p4, _, rfl, hp4, rfl, _, _, rfl, _, _, rfl, rfl, ?_⟩
  have s04 := s03.trans s4
  refine ⟨_, rfl, b, ws, rfl, Same.seqT s04 hb, gw', by omega, fun p5 t5 H5 s5 hp5 ht5 => ?_⟩
  refine ⟨p5, _, rfl, hp5, rfl, _, _, rfl, _, _, rfl, rfl, ?_⟩
  refine ⟨_, rfl, _, rfl, _, t4, _, rfl, ht4.same s5, by omega, fun x hx => (wu.2.2 x hx).2, fun c' u1 H6 s6 hc' hu1 => ?_⟩
  obtain rfl := hc.uniq hc'
  refine ⟨_, rfl, _, rfl, _, t5, _, rfl, ht5.same s6, by omega, fun x hx => (ww.2.2 x hx).2, fun d' u2 H7 s7 hd' hu2 => ?_⟩
  obtain rfl := hd.uniq hd'
  have s37 := ((s4.trans s5).trans s6).trans s7
  have s07 := s03.trans s37
  refine ⟨_, _, (hu1.same s7).dp, hu2.dp, mapD_shaped _ _, mapD_shaped _ _, _, rfl, ?_⟩
  refine ite2 (fun cc => ?_) (fun cc => ?_)
  · rcases hv with ⟨_, rfl⟩ | ⟨e, _⟩
    · exact ⟨_, rfl, rfl, q _ s07⟩
    · exact absurd (cc.symm.trans e) Bool.noConfusion
  rcases hv with ⟨e, _⟩ | ⟨cf, p, rfl, hF⟩
  · exact absurd e cc
  have n1 : (wmap us).1 ≤ max (wmap us).1 (wmap ws).1 := Nat.le_max_left _ _
  have n2 : (wmap ws).1 ≤ max (wmap us).1 (wmap ws).1 := Nat.le_max_right _ _
  have mb : max (wmap us).1 (wmap ws).1 ≤ 640 := Nat.max_le.mpr ⟨by omega, by omega⟩
  have em := max_int (wmap us).1 (wmap ws).1
  generalize max (wmap us).1 (wmap ws).1 = m at mb n1 n2 em hF
  refine ⟨_, rfl, (m : Int), rfl, by omega, by omega, fun D hD => ?_⟩
  refine lc_range (lo := 0) (n := (m : Int).toNat) (fun i H' => ∃ acc, Same H7 H' ∧ H' D = some (.lst acc) ∧ TrAll K H' acc ((nums i).map numD) ∧ acc.length = i) ⟨[], same_new hD _, upd_same, .nil, rfl⟩ ?_ ?_
  · rintro i H8 hi ⟨acc, s8, hD8, tr, la⟩
    refine ⟨rfl, _, rfl, (by show 2 ≤ sizeLine; decide), fun t nt => ?_⟩
    have hD9 := kn (o' := .tup [V.str "number", V.int (0 + (i : Int))]) hD8 nt
    refine ⟨acc, hD9, ?_, acc ++ [.ref t], ?_, upd_same, ?_, ?_⟩
    · rw [la, sizeLine_eq]; omega
    · exact own_new (s8.trans (same_new nt _)) hD
    · rw [nums_succ, List.map_append]
      refine ((tr.mono (.of (same_new nt _))).append (.cons (.tup (SqT.of upd_same) ?_) .nil)).mono (TKs.lst hD9)
      rw [Int.zero_add]
      exact .cons (.str _) (.cons (.int _) .nil)
    · rw [List.length_append, la]; rfl
  rintro H8 ⟨acc, s8, hD8, tr, la⟩
  rw [Int.toNat_natCast] at tr la
  refine ⟨D, _, rfl, .inl ⟨SqL.of hD8, fun u nu => ?_⟩⟩
  have s9 := same_new nu (.tup acc)
  have hG : NumT K (upd H8 u (.tup acc)) u (nums m) := ⟨acc, SqT.of upd_same, tr.mono (.of s9)⟩
  have s39 := (s37.trans s8).trans s9
  have s09 := s03.trans s39
  have hF9 := hF.same s39
  obtain ⟨xs, hx1, hx2⟩ := id hF9
  have lx : xs.length = m := by have := hx2.len; rw [List.length_map, nums_length] at this; exact this
  refine ⟨_, rfl, _, _, _, _, true, rfl, .ty _, tyTup hx1, kit_ty (r := true) (by decide +kernel), _, rfl, iteF ?_⟩
  refine ⟨_, rfl, _, rfl, _, _, hF9.dp, hG.dp, stkD_shaped _, stkD_shaped _, _, rfl, ?_⟩
  rw [SeqAt.eqv_refl _ (stkD_lay _)]
  refine iteF ?_
  have dz : (stkD (nums m)).depth ≤ 60 := Nat.le_trans (stkD_depth _) (by decide)
  refine ⟨_, rfl, p, _, rfl, hF9.dp, stkD_showable (by omega), stkD_noDict _, dz, stkD_shown (by omega), ?_⟩
  refine ⟨_, rfl, u, _, rfl, hG.dp, stkD_showable (by omega), stkD_noDict _, dz, stkD_shown (by omega), ?_⟩
  refine ⟨rfl, _, rfl, ?_⟩
  rw [decide_eq_true (rfl : V.str (stkD (nums m)).shown = V.str (stkD (nums m)).shown)]
  refine iteF ?_
  refine ⟨_, rfl, _, rfl, a, p, us, xs, rfl, Same.seqT s09 ha, gu, lu, hx1, by omega, by omega, fun r1 H10 s10 hr1' => ?_⟩
  refine ⟨_, rfl, _, rfl, b, p, ws, xs, rfl, Same.seqT (s09.trans s10) hb, gw', lw, Same.seqT s10 hx1, by omega, by omega, fun r2 H11 s11 hr2' => ?_⟩
  have s11' := s10.trans s11
  have tx : TrAll K H11 xs ((nums xs.length).map numD) := by rw [lx]; exact hx2.mono (.of s11')
  have z1 : NumT K H11 r1 (moreM (xs.length - (wmap us).1) (wmap us).2) := ⟨_, Same.seqT s11 hr1', pick_all tx _ fun i hi => by
    have := more_mem wu.2.2 i hi
    omega⟩
  have z2 : NumT K H11 r2 (moreM (xs.length - (wmap ws).1) (wmap ws).2) := ⟨_, hr2', pick_all tx _ fun i hi => by
    have := more_mem ww.2.2 i hi
    omega⟩
  refine ⟨_, _, z1.dp, z2.dp, stkD_shaped _, stkD_shaped _, ?_⟩
  have ne : moreM (xs.length - (wmap us).1) (wmap us).2 ≠ moreM (xs.length - (wmap ws).1) (wmap ws).2 := fun e => by
    obtain ⟨e1, e2⟩ := parted (M := xs.length) (by omega) (by omega) hc hd (fun x hx => (wu.2.2 x hx).1) (fun x hx => (ww.2.2 x hx).1) e
    rw [e1, e2, SeqAt.eqv_refl _ (mapD_lay _ _)] at cf
    exact Bool.noConfusion cf
  rw [stkD_ne ne]
  refine ⟨_, rfl, iteT ?_⟩
  refine ⟨_, rfl, p, _, rfl, .inr (Same.seqT s11' hx1), ?_⟩
  have s011 := s09.trans s11'
  refine ⟨_, rfl, a, us, rfl, Same.seqT s011 ha, gu, lu, fun H12 s12 => ?_⟩
  refine ⟨_, rfl, b, ws, rfl, Same.seqT (s011.trans s12) hb, gw', lw, fun H13 s13 => ?_⟩
  refine ⟨_, _, rfl, rfl, ?_⟩
  rw [em, lx, decide_eq_true (rfl : V.int (m : Int) = V.int (m : Int))]
  exact q _ ((s011.trans s12).trans s13)
/-! ### law -/
def spLaw (K : PySem.W.Frag) : Sp := fun vs H Q _ => ∃ (a : Addr) (ns : List Int), vs = [.ref a] ∧ SqL K H a (ns.map V.int) ∧ ns.length ≤ 63 ∧ ∀ H', Q (.bl true) H'
theorem scLaw : FnScope ["_law_script", "_law_deck_here", "_law_turn", "_law_one", "_law_other_here"] ["_law_script"] (defScope sLaw) := ⟨rfl, rfl, rfl, by decide +kernel, rfl, by decide +kernel, by decide +kernel⟩
theorem lita : [V.str "a-a"] = ([(1, [97])] : List Wd).map wV := by decide +kernel
theorem litb : [V.str "a-"] = ([(1, [])] : List Wd).map wV := by decide +kernel
theorem ok_law {f gd gr go gx : Addr} {fd gdd grd god gxd : FuncData} (F : Fun K "law" "law" sLaw f fd)
    (D : FnOk P w K mg base CX0 1 gd gdd ["_law_script"] (spDeck K)) (bD : L2.Binds K gdd ["_law_script"] []) (kD : keepIn K (.ref gd) = true) (mD : mg "_law_deck" = some (.ref gd))
    (R : FnOk P w K mg base CX0 5 gr grd ["_law_deck_here", "_law_most"] (spRow K)) (bR : L2.Binds K grd ["_law_deck_here", "_law_most"] []) (kR : keepIn K (.ref gr) = true) (mR : mg "_law_row" = some (.ref gr))
    (O : FnOk P w K mg base CX0 6 go god ["_law_deck_here", "_law_row_here"] (spOther K)) (bO : L2.Binds K god ["_law_deck_here", "_law_row_here"] []) (kO : keepIn K (.ref go) = true) (mO : mg "_law_other" = some (.ref go))
    (Z : FnG P w K mg base CX0 5 gx gxd ["_law_one", "_law_other_here"] (spRight K)) (bZ : L2.Binds K gxd ["_law_one", "_law_other_here"] []) (kZ : keepIn K (.ref gx) = true) (mZ : mg "_law_right" = some (.ref gx))
    (mrange : mg "range" = none) : FnG P w K mg base CX0 7 f fd ["_law_script"] (spLaw K) := by
  refine okG F scLaw (fun vs H Q E h => ?_) (fun cdv A outer s H vs Q E hg hr h => ?_)
  · obtain ⟨a, ns, rfl, _⟩ := h
    rfl
  obtain ⟨a, ns, rfl, hS, h63, q⟩ := h
  have hr1 := hr.mono (show 1 ≤ 6 by decide)
  have hr5 := hr.mono (show 5 ≤ 6 by decide)
  refine ⟨_, pss_cons (ps_set (i := 1) scLaw.nd rfl (.inl rfl) (pe_call D hr1 rfl mD kD bD .nil pass0 (pa_cons (pv 0) pa_nil)))
    (pss_cons (ps_for PassesOwn.never rfl (pi_range1 rfl mrange (pa_cons pe_int pa_nil)) (pg_name (i := 2) scLaw.nd rfl (Or.inl rfl))
      (pss_cons (ps_set (i := 3) scLaw.nd rfl (.inl rfl) (pe_call R hr5 rfl mR kR bR .nil pass0 (pa_cons (pv 1) (pa_cons pe_int pa_nil))))
      (pss_cons (ps_set (i := 4) scLaw.nd rfl (.inl rfl) (pe_call O hr rfl mO kO bO .nil pass0 (pa_cons (pv 1) (pa_cons (pv 3) pa_nil))))
      (pss_one (ps_if (PW.pt (pw_or (pt_not (pt_val (pe_callG hg Z hr5 rfl mZ kZ bZ pass0 (pa_cons (pv 3) (pa_cons (pv 4) pa_nil))))) (pw_or1 (pt_not (pt_val (pe_callG hg Z hr5 rfl mZ kZ bZ pass0 (pa_cons (pv 4) (pa_cons (pv 3) pa_nil)))))))) (pss_one (ps_ret pe_bl)) pss_nil)))))
    (pss_one (ps_ret (pe_and (pe_callG hg Z hr5 rfl mZ kZ bZ pass0 (pa_cons (pe_tup pa_nil) (pa_cons (pe_tup (pa_cons pe_str pa_nil)) pa_nil))) (pe_one (pe_callG hg Z hr5 rfl mZ kZ bZ pass0 (pa_cons (pe_tup pa_nil) (pa_cons (pe_tup (pa_cons pe_str pa_nil)) pa_nil)))))))), ?_⟩
  refine ⟨_, rfl, a, ns, rfl, hS, h63, fun d H1 s1 nd D1 => ?_⟩
  refine ⟨4, rfl, by decide, by decide, for_range (lo := 0) (n := 4) (fun i σ H' => ∃ (x2 x3 x4 : Option V), σ = [some (.ref a), some (.ref d), x2, x3, x4] ∧ Dk H' d)
    ⟨none, none, none, rfl, D1⟩ ?_ ?_⟩
  · rintro i σ H2 hi ⟨x2, x3, x4, rfl, D2⟩
    refine ⟨_, rfl, d, 57, rfl, D2, by decide, by decide, fun r ws H3 g lw nr hr3 k3 D3 => ?_⟩
    refine ⟨_, rfl, _, rfl, d, r, ws, rfl, D3, hr3, g, lw, fun p us H4 gu lu hp k4 D4 => ?_⟩
    have hr4 := D3.sq k4 hr3
    refine ⟨_, rfl, _, rfl, r, p, ws, us, rfl, hr4, g, by omega, hp, gu, by omega, fun H5 s5 => ⟨_, rfl, iteF ?_⟩⟩
    refine ⟨_, rfl, _, rfl, p, r, us, ws, rfl, Same.seqT s5 hp, gu, by omega, Same.seqT s5 hr4, g, by omega, fun H6 s6 => ⟨_, rfl, iteF ?_⟩⟩
    exact ⟨_, _, _, rfl, D4.same (s5.trans s6)⟩
  · rintro σ H2 ⟨x2, x3, x4, rfl, D2⟩
    refine ⟨(by show 0 ≤ sizeLine; decide), fun t0 nt0 => ⟨(by show 1 ≤ sizeLine; decide), fun t1 nt1 => ?_⟩⟩
    have w1 := asW lita (SqT.of (K := K) (upd_same (H := upd H2 t0 (.tup [])) (a := t1) (o := .tup [V.str "a-a"])))
    refine ⟨t0, t1, [], [(1, [97])], rfl, SqT.of (kn upd_same nt1), (fun x h => nomatch h), by decide, w1, good_of (by decide +kernel), by decide, fun H3 s3 => ⟨_, rfl, iteT ?_⟩⟩
    refine ⟨(by show 0 ≤ sizeLine; decide), fun t2 nt2 => ⟨(by show 1 ≤ sizeLine; decide), fun t3 nt3 => ?_⟩⟩
    have w2 := asW litb (SqT.of (K := K) (upd_same (H := upd H3 t2 (.tup [])) (a := t3) (o := .tup [V.str "a-"])))
    exact ⟨t2, t3, [], [(1, [])], rfl, SqT.of (kn upd_same nt3), (fun x h => nomatch h), by decide, w2, good_of (by decide +kernel), by decide, fun H4 s4 => q _⟩
end
end K46
namespace K46
open PySem PySem.W L2 SX Cm
theorem all_mk {l : PySem.W.OpenLaw} {w : World} {K : PySem.W.Frag} {h : Heap} {mg : Str → Option Value} {fa f1 f2 f3 f4 f5 f6 f7 f8 f9 f10 f11 f12 f13 f14 f15 f16 f17 f18 f19 f20 f21 f22 : Addr} (X : K.In h) (G : h.Ns mainGlobals mg) (hfa : mg "law" = some (.ref fa))
    {od1 an1 od2 an2 od3 an3 od4 an4 od5 an5 od6 an6 od7 an7 od8 an8 od9 an9 od10 an10 od11 an11 od12 an12 od13 an13 od14 an14 od15 an15 od16 an16 od17 an17 od18 an18 od19 an19 od20 an20 od21 an21 od22 an22 : Option Addr} {sl1 sl2 sl3 sl4 sl5 sl6 sl7 sl8 sl9 sl10 sl11 sl12 sl13 sl14 sl15 sl16 sl17 sl18 sl19 sl20 sl21 sl22 : Array (Option Value)} {oc1 kV1 dc1 pm1 cd1 ct1 oc2 kV2 dc2 pm2 cd2 ct2 oc3 kV3 dc3 pm3 cd3 ct3 oc4 kV4 dc4 pm4 cd4 ct4 oc5 kV5 dc5 pm5 cd5 ct5 oc6 kV6 dc6 pm6 cd6 ct6 oc7 kV7 dc7 pm7 cd7 ct7 oc8 kV8 dc8 pm8 cd8 ct8 oc9 kV9 dc9 pm9 cd9 ct9 oc10 kV10 dc10 pm10 cd10 ct10 oc11 kV11 dc11 pm11 cd11 ct11 oc12 kV12 dc12 pm12 cd12 ct12 oc13 kV13 dc13 pm13 cd13 ct13 oc14 kV14 dc14 pm14 cd14 ct14 oc15 kV15 dc15 pm15 cd15 ct15 oc16 kV16 dc16 pm16 cd16 ct16 oc17 kV17 dc17 pm17 cd17 ct17 oc18 kV18 dc18 pm18 cd18 ct18 oc19 kV19 dc19 pm19 cd19 ct19 oc20 kV20 dc20 pm20 cd20 ct20 oc21 kV21 dc21 pm21 cd21 ct21 oc22 kV22 dc22 pm22 cd22 ct22 : Value}
    (a1 : PySem.W.nsIn K mainGlobals "is_shuffle" = some (some (.ref f1))) (l1 : K.lookup f1 = some ⟨oc1, od1, .func (PySem.W.fnOf "is_shuffle" "is_shuffle" (defArgs sIsSh) (defBody sIsSh) (defScope sIsSh) .none kV1 dc1 pm1 an1 cd1 ct1), sl1⟩) (c1 : PySem.W.codeIn K cd1 "is_shuffle" = true) (k1 : PySem.W.keepIn K (.ref f1) = true)
    (a2 : PySem.W.nsIn K mainGlobals "taken_left" = some (some (.ref f2))) (l2 : K.lookup f2 = some ⟨oc2, od2, .func (PySem.W.fnOf "taken_left" "taken_left" (defArgs sTaken) (defBody sTaken) (defScope sTaken) .none kV2 dc2 pm2 an2 cd2 ct2), sl2⟩) (c2 : PySem.W.codeIn K cd2 "taken_left" = true) (k2 : PySem.W.keepIn K (.ref f2) = true)
    (a3 : PySem.W.nsIn K mainGlobals "least_map" = some (some (.ref f3))) (l3 : K.lookup f3 = some ⟨oc3, od3, .func (PySem.W.fnOf "least_map" "least_map" (defArgs sLeast) (defBody sLeast) (defScope sLeast) .none kV3 dc3 pm3 an3 cd3 ct3), sl3⟩) (c3 : PySem.W.codeIn K cd3 "least_map" = true) (k3 : PySem.W.keepIn K (.ref f3) = true)
    (a4 : PySem.W.nsIn K mainGlobals "need_of" = some (some (.ref f4))) (l4 : K.lookup f4 = some ⟨oc4, od4, .func (PySem.W.fnOf "need_of" "need_of" (defArgs sNeedOf) (defBody sNeedOf) (defScope sNeedOf) .none kV4 dc4 pm4 an4 cd4 ct4), sl4⟩) (c4 : PySem.W.codeIn K cd4 "need_of" = true) (k4 : PySem.W.keepIn K (.ref f4) = true)
    (a5 : PySem.W.nsIn K mainGlobals "whole_map" = some (some (.ref f5))) (l5 : K.lookup f5 = some ⟨oc5, od5, .func (PySem.W.fnOf "whole_map" "whole_map" (defArgs sWholeMap) (defBody sWholeMap) (defScope sWholeMap) .none kV5 dc5 pm5 an5 cd5 ct5), sl5⟩) (c5 : PySem.W.codeIn K cd5 "whole_map" = true) (k5 : PySem.W.keepIn K (.ref f5) = true)
    (a6 : PySem.W.nsIn K mainGlobals "parting" = some (some (.ref f6))) (l6 : K.lookup f6 = some ⟨oc6, od6, .func (PySem.W.fnOf "parting" "parting" (defArgs sParting) (defBody sParting) (defScope sParting) .none kV6 dc6 pm6 an6 cd6 ct6), sl6⟩) (c6 : PySem.W.codeIn K cd6 "parting" = true) (k6 : PySem.W.keepIn K (.ref f6) = true)
    (a7 : PySem.W.nsIn K mainGlobals "_law_mixed" = some (some (.ref f7))) (l7 : K.lookup f7 = some ⟨oc7, od7, .func (PySem.W.fnOf "_law_mixed" "_law_mixed" (defArgs sMixed) (defBody sMixed) (defScope sMixed) .none kV7 dc7 pm7 an7 cd7 ct7), sl7⟩) (c7 : PySem.W.codeIn K cd7 "_law_mixed" = true) (k7 : PySem.W.keepIn K (.ref f7) = true)
    (a8 : PySem.W.nsIn K mainGlobals "_law_deck" = some (some (.ref f8))) (l8 : K.lookup f8 = some ⟨oc8, od8, .func (PySem.W.fnOf "_law_deck" "_law_deck" (defArgs sDeck) (defBody sDeck) (defScope sDeck) .none kV8 dc8 pm8 an8 cd8 ct8), sl8⟩) (c8 : PySem.W.codeIn K cd8 "_law_deck" = true) (k8 : PySem.W.keepIn K (.ref f8) = true)
    (a9 : PySem.W.nsIn K mainGlobals "_law_draw" = some (some (.ref f9))) (l9 : K.lookup f9 = some ⟨oc9, od9, .func (PySem.W.fnOf "_law_draw" "_law_draw" (defArgs sDraw) (defBody sDraw) (defScope sDraw) .none kV9 dc9 pm9 an9 cd9 ct9), sl9⟩) (c9 : PySem.W.codeIn K cd9 "_law_draw" = true) (k9 : PySem.W.keepIn K (.ref f9) = true)
    (a10 : PySem.W.nsIn K mainGlobals "_law_shuffle" = some (some (.ref f10))) (l10 : K.lookup f10 = some ⟨oc10, od10, .func (PySem.W.fnOf "_law_shuffle" "_law_shuffle" (defArgs sShuffle) (defBody sShuffle) (defScope sShuffle) .none kV10 dc10 pm10 an10 cd10 ct10), sl10⟩) (c10 : PySem.W.codeIn K cd10 "_law_shuffle" = true) (k10 : PySem.W.keepIn K (.ref f10) = true)
    (a11 : PySem.W.nsIn K mainGlobals "_law_word" = some (some (.ref f11))) (l11 : K.lookup f11 = some ⟨oc11, od11, .func (PySem.W.fnOf "_law_word" "_law_word" (defArgs sWord) (defBody sWord) (defScope sWord) .none kV11 dc11 pm11 an11 cd11 ct11), sl11⟩) (c11 : PySem.W.codeIn K cd11 "_law_word" = true) (k11 : PySem.W.keepIn K (.ref f11) = true)
    (a12 : PySem.W.nsIn K mainGlobals "_law_row" = some (some (.ref f12))) (l12 : K.lookup f12 = some ⟨oc12, od12, .func (PySem.W.fnOf "_law_row" "_law_row" (defArgs sRow) (defBody sRow) (defScope sRow) .none kV12 dc12 pm12 an12 cd12 ct12), sl12⟩) (c12 : PySem.W.codeIn K cd12 "_law_row" = true) (k12 : PySem.W.keepIn K (.ref f12) = true)
    (a13 : PySem.W.nsIn K mainGlobals "_law_read" = some (some (.ref f13))) (l13 : K.lookup f13 = some ⟨oc13, od13, .func (PySem.W.fnOf "_law_read" "_law_read" (defArgs sRead) (defBody sRead) (defScope sRead) .none kV13 dc13 pm13 an13 cd13 ct13), sl13⟩) (c13 : PySem.W.codeIn K cd13 "_law_read" = true) (k13 : PySem.W.keepIn K (.ref f13) = true)
    (a14 : PySem.W.nsIn K mainGlobals "_law_whole" = some (some (.ref f14))) (l14 : K.lookup f14 = some ⟨oc14, od14, .func (PySem.W.fnOf "_law_whole" "_law_whole" (defArgs sWhole) (defBody sWhole) (defScope sWhole) .none kV14 dc14 pm14 an14 cd14 ct14), sl14⟩) (c14 : PySem.W.codeIn K cd14 "_law_whole" = true) (k14 : PySem.W.keepIn K (.ref f14) = true)
    (a15 : PySem.W.nsIn K mainGlobals "_law_least" = some (some (.ref f15))) (l15 : K.lookup f15 = some ⟨oc15, od15, .func (PySem.W.fnOf "_law_least" "_law_least" (defArgs sLLeast) (defBody sLLeast) (defScope sLLeast) .none kV15 dc15 pm15 an15 cd15 ct15), sl15⟩) (c15 : PySem.W.codeIn K cd15 "_law_least" = true) (k15 : PySem.W.keepIn K (.ref f15) = true)
    (a16 : PySem.W.nsIn K mainGlobals "_law_wider" = some (some (.ref f16))) (l16 : K.lookup f16 = some ⟨oc16, od16, .func (PySem.W.fnOf "_law_wider" "_law_wider" (defArgs sWider) (defBody sWider) (defScope sWider) .none kV16 dc16 pm16 an16 cd16 ct16), sl16⟩) (c16 : PySem.W.codeIn K cd16 "_law_wider" = true) (k16 : PySem.W.keepIn K (.ref f16) = true)
    (a17 : PySem.W.nsIn K mainGlobals "_law_together" = some (some (.ref f17))) (l17 : K.lookup f17 = some ⟨oc17, od17, .func (PySem.W.fnOf "_law_together" "_law_together" (defArgs sTog) (defBody sTog) (defScope sTog) .none kV17 dc17 pm17 an17 cd17 ct17), sl17⟩) (c17 : PySem.W.codeIn K cd17 "_law_together" = true) (k17 : PySem.W.keepIn K (.ref f17) = true)
    (a18 : PySem.W.nsIn K mainGlobals "_law_other" = some (some (.ref f18))) (l18 : K.lookup f18 = some ⟨oc18, od18, .func (PySem.W.fnOf "_law_other" "_law_other" (defArgs sOther) (defBody sOther) (defScope sOther) .none kV18 dc18 pm18 an18 cd18 ct18), sl18⟩) (c18 : PySem.W.codeIn K cd18 "_law_other" = true) (k18 : PySem.W.keepIn K (.ref f18) = true)
    (a19 : PySem.W.nsIn K mainGlobals "_law_left" = some (some (.ref f19))) (l19 : K.lookup f19 = some ⟨oc19, od19, .func (PySem.W.fnOf "_law_left" "_law_left" (defArgs sLeft) (defBody sLeft) (defScope sLeft) .none kV19 dc19 pm19 an19 cd19 ct19), sl19⟩) (c19 : PySem.W.codeIn K cd19 "_law_left" = true) (k19 : PySem.W.keepIn K (.ref f19) = true)
    (a20 : PySem.W.nsIn K mainGlobals "_law_right" = some (some (.ref f20))) (l20 : K.lookup f20 = some ⟨oc20, od20, .func (PySem.W.fnOf "_law_right" "_law_right" (defArgs sRight) (defBody sRight) (defScope sRight) .none kV20 dc20 pm20 an20 cd20 ct20), sl20⟩) (c20 : PySem.W.codeIn K cd20 "_law_right" = true) (k20 : PySem.W.keepIn K (.ref f20) = true)
    (a21 : PySem.W.nsIn K mainGlobals "is_shuffle_row" = some (some (.ref f21))) (l21 : K.lookup f21 = some ⟨oc21, od21, .func (PySem.W.fnOf "is_shuffle_row" "is_shuffle_row" (defArgs sShRow) (defBody sShRow) (defScope sShRow) .none kV21 dc21 pm21 an21 cd21 ct21), sl21⟩) (c21 : PySem.W.codeIn K cd21 "is_shuffle_row" = true) (k21 : PySem.W.keepIn K (.ref f21) = true)
    (a22 : PySem.W.nsIn K mainGlobals "law" = some (some (.ref f22))) (l22 : K.lookup f22 = some ⟨oc22, od22, .func (PySem.W.fnOf "law" "law" (defArgs sLaw) (defBody sLaw) (defScope sLaw) .none kV22 dc22 pm22 an22 cd22 ct22), sl22⟩) (c22 : PySem.W.codeIn K cd22 "law" = true) (k22 : PySem.W.keepIn K (.ref f22) = true)
    (z_len : PySem.W.nsIn K mainGlobals "len" = some none)
    (z_tuple : PySem.W.nsIn K mainGlobals "tuple" = some none)
    (z_list : PySem.W.nsIn K mainGlobals "list" = some none)
    (z_sum : PySem.W.nsIn K mainGlobals "sum" = some none)
    (z_range : PySem.W.nsIn K mainGlobals "range" = some none)
    (z_isinstance : PySem.W.nsIn K mainGlobals "isinstance" = some none)
    (z_str : PySem.W.nsIn K mainGlobals "str" = some none)
    (z_all : PySem.W.nsIn K mainGlobals "all" = some none)
    (z_int : PySem.W.nsIn K mainGlobals "int" = some none)
    (z_max : PySem.W.nsIn K mainGlobals "max" = some none)
    (z_repr : PySem.W.nsIn K mainGlobals "repr" = some none)
    {tL : Tok} (g_LETTERS : PySem.W.nsIn K mainGlobals "LETTERS" = some (some (.str "abcdefgh" tL)))
    {tM : Tok} (g_MOST_LEFT : PySem.W.nsIn K mainGlobals "MOST_LEFT" = some (some (.int 12 tM)))
    : ∃ fd : FuncData, (∀ (s : Shared) (v : Value), BindsTo s fd ⟨[v], []⟩ [("_law_script", v)]) ∧ ∀ base : Heap, K.In base → base.Ns mainGlobals mg → FnG l.prog w K mg base CX0 7 fa fd ["_law_script"] (spLaw K) := by
  have e := hfa.symm.trans (PySem.W.mg_of X G a22)
  cases e
  have F1 := fun_mk (st := sIsSh) l1 c1 k1
  have b1 := F1.binds (ps := ["thing"]) fun _ _ _ _ _ _ us hl => match us, hl with | [_], _ => rfl
  have m1 := PySem.W.mg_of X G a1
  have F2 := fun_mk (st := sTaken) l2 c2 k2
  have b2 := F2.binds (ps := ["shuffle"]) fun _ _ _ _ _ _ us hl => match us, hl with | [_], _ => rfl
  have m2 := PySem.W.mg_of X G a2
  have F3 := fun_mk (st := sLeast) l3 c3 k3
  have b3 := F3.binds (ps := ["n", "picks"]) fun _ _ _ _ _ _ us hl => match us, hl with | [_, _], _ => rfl
  have m3 := PySem.W.mg_of X G a3
  have F4 := fun_mk (st := sNeedOf) l4 c4 k4
  have b4 := F4.binds (ps := ["row"]) fun _ _ _ _ _ _ us hl => match us, hl with | [_], _ => rfl
  have m4 := PySem.W.mg_of X G a4
  have F5 := fun_mk (st := sWholeMap) l5 c5 k5
  have b5 := F5.binds (ps := ["row"]) fun _ _ _ _ _ _ us hl => match us, hl with | [_], _ => rfl
  have m5 := PySem.W.mg_of X G a5
  have F6 := fun_mk (st := sParting) l6 c6 k6
  have b6 := F6.binds (ps := ["one", "other"]) fun _ _ _ _ _ _ us hl => match us, hl with | [_, _], _ => rfl
  have m6 := PySem.W.mg_of X G a6
  have F7 := fun_mk (st := sMixed) l7 c7 k7
  have b7 := F7.binds (ps := ["_law_cell", "_law_k"]) fun _ _ _ _ _ _ us hl => match us, hl with | [_, _], _ => rfl
  have m7 := PySem.W.mg_of X G a7
  have F8 := fun_mk (st := sDeck) l8 c8 k8
  have b8 := F8.binds (ps := ["_law_script"]) fun _ _ _ _ _ _ us hl => match us, hl with | [_], _ => rfl
  have m8 := PySem.W.mg_of X G a8
  have F9 := fun_mk (st := sDraw) l9 c9 k9
  have b9 := F9.binds (ps := ["_law_deck_here", "_law_most"]) fun _ _ _ _ _ _ us hl => match us, hl with | [_, _], _ => rfl
  have m9 := PySem.W.mg_of X G a9
  have F10 := fun_mk (st := sShuffle) l10 c10 k10
  have b10 := F10.binds (ps := ["_law_deck_here", "_law_most", "_law_long"]) fun _ _ _ _ _ _ us hl => match us, hl with | [_, _, _], _ => rfl
  have m10 := PySem.W.mg_of X G a10
  have F11 := fun_mk (st := sWord) l11 c11 k11
  have b11 := F11.binds (ps := ["_law_deck_here"]) fun _ _ _ _ _ _ us hl => match us, hl with | [_], _ => rfl
  have m11 := PySem.W.mg_of X G a11
  have F12 := fun_mk (st := sRow) l12 c12 k12
  have b12 := F12.binds (ps := ["_law_deck_here", "_law_most"]) fun _ _ _ _ _ _ us hl => match us, hl with | [_, _], _ => rfl
  have m12 := PySem.W.mg_of X G a12
  have F13 := fun_mk (st := sRead) l13 c13 k13
  have b13 := F13.binds (ps := ["_law_word_here"]) fun _ _ _ _ _ _ us hl => match us, hl with | [_], _ => rfl
  have m13 := PySem.W.mg_of X G a13
  have F14 := fun_mk (st := sWhole) l14 c14 k14
  have b14 := F14.binds (ps := ["_law_row_here"]) fun _ _ _ _ _ _ us hl => match us, hl with | [_], _ => rfl
  have m14 := PySem.W.mg_of X G a14
  have F15 := fun_mk (st := sLLeast) l15 c15 k15
  have b15 := F15.binds (ps := ["_law_n", "_law_picks"]) fun _ _ _ _ _ _ us hl => match us, hl with | [_, _], _ => rfl
  have m15 := PySem.W.mg_of X G a15
  have F16 := fun_mk (st := sWider) l16 c16 k16
  have b16 := F16.binds (ps := ["_law_word_here"]) fun _ _ _ _ _ _ us hl => match us, hl with | [_], _ => rfl
  have m16 := PySem.W.mg_of X G a16
  have F17 := fun_mk (st := sTog) l17 c17 k17
  have b17 := F17.binds (ps := ["_law_one", "_law_other_here"]) fun _ _ _ _ _ _ us hl => match us, hl with | [_, _], _ => rfl
  have m17 := PySem.W.mg_of X G a17
  have F18 := fun_mk (st := sOther) l18 c18 k18
  have b18 := F18.binds (ps := ["_law_deck_here", "_law_row_here"]) fun _ _ _ _ _ _ us hl => match us, hl with | [_, _], _ => rfl
  have m18 := PySem.W.mg_of X G a18
  have F19 := fun_mk (st := sLeft) l19 c19 k19
  have b19 := F19.binds (ps := ["_law_row_here", "_law_stack"]) fun _ _ _ _ _ _ us hl => match us, hl with | [_, _], _ => rfl
  have m19 := PySem.W.mg_of X G a19
  have F20 := fun_mk (st := sRight) l20 c20 k20
  have b20 := F20.binds (ps := ["_law_one", "_law_other_here"]) fun _ _ _ _ _ _ us hl => match us, hl with | [_, _], _ => rfl
  have m20 := PySem.W.mg_of X G a20
  have F21 := fun_mk (st := sShRow) l21 c21 k21
  have b21 := F21.binds (ps := ["row"]) fun _ _ _ _ _ _ us hl => match us, hl with | [_], _ => rfl
  have m21 := PySem.W.mg_of X G a21
  have F22 := fun_mk (st := sLaw) l22 c22 k22
  have y_len := PySem.W.mg_none_of X G z_len
  have y_tuple := PySem.W.mg_none_of X G z_tuple
  have y_list := PySem.W.mg_none_of X G z_list
  have y_sum := PySem.W.mg_none_of X G z_sum
  have y_range := PySem.W.mg_none_of X G z_range
  have y_isinstance := PySem.W.mg_none_of X G z_isinstance
  have y_str := PySem.W.mg_none_of X G z_str
  have y_all := PySem.W.mg_none_of X G z_all
  have y_int := PySem.W.mg_none_of X G z_int
  have y_max := PySem.W.mg_none_of X G z_max
  have y_repr := PySem.W.mg_none_of X G z_repr
  have v_LETTERS := PySem.W.mg_of X G g_LETTERS
  have v_MOST_LEFT := PySem.W.mg_of X G g_MOST_LEFT
  refine ⟨PySem.W.fnOf "law" "law" (defArgs sLaw) (defBody sLaw) (defScope sLaw) .none kV22 dc22 pm22 an22 cd22 ct22, fun s v => .of_eq rfl, fun base _ _ => ?_⟩
  have TS : TxtS mg := ⟨y_isinstance, y_str, y_len, y_all, ⟨_, v_LETTERS⟩, ⟨_, v_MOST_LEFT⟩⟩
  have O1 : FnOk l.prog w K mg base CX0 1 f1 _ ["thing"] spIsSh := ok_isSh F1 TS
  have O2 : FnOk l.prog w K mg base CX0 2 f2 _ ["shuffle"] (spTaken K) := ok_taken F2 TS y_tuple O1 b1 k1 m1
  have O3 : FnOk l.prog w K mg base CX0 1 f3 _ ["n", "picks"] (spLeast K) := ok_least F3 y_len y_tuple
  have O21 := ok_shRow F21 O1 b1 k1 m1 y_all
  have O5 := ok_wholeMap F5 O21 b21 k21 m21 O2 b2 k2 m2 y_len y_tuple
  have O4 := ok_needOf F4 O5 b5 k5 m5
  have O6 := ok_parting F6 O5 b5 k5 m5 O3 b3 k3 m3 y_tuple y_range y_max
  have O7 : FnOk l.prog w K mg base CX0 1 f7 _ ["_law_cell", "_law_k"] spMixed := ok_mixed F7
  have O8 : FnOk l.prog w K mg base CX0 1 f8 _ ["_law_script"] (spDeck K) := ok_deck F8 y_list y_sum
  have O9 := ok_draw F9 O7 b7 k7 m7 y_len
  have O10 := ok_shuffle F10 O9 b9 k9 m9 y_range y_int y_len
  have O11 := ok_word F11 O9 b9 k9 m9 O10 b10 k10 m10
  have O12 : FnOk l.prog w K mg base CX0 5 f12 _ ["_law_deck_here", "_law_most"] (spRow K) := ok_row F12 O9 b9 k9 m9 O11 b11 k11 m11 y_tuple y_range
  have O13 : FnOk l.prog w K mg base CX0 1 f13 _ ["_law_word_here"] (spRead K) := ok_read F13 y_len
  have O14 := ok_whole F14 O13 b13 k13 m13 y_len y_tuple
  have O15 : FnOk l.prog w K mg base CX0 1 f15 _ ["_law_n", "_law_picks"] (spLLeast K) := ok_lleast F15 y_len y_tuple
  have O16 : FnOk l.prog w K mg base CX0 1 f16 _ ["_law_word_here"] spWider := ok_wider F16 y_len
  have O17 := ok_tog F17 O14 b14 k14 m14 y_len
  have O18 := ok_other F18 O9 b9 k9 m9 O16 b16 k16 m16 O17 b17 k17 m17 O11 b11 k11 m11 O12 b12 k12 m12 y_len
  have O19 := ok_left F19 O13 b13 k13 m13 y_len y_tuple
  have O20 := ok_right F20 O14 b14 k14 m14 O6 b6 k6 m6 O15 b15 k15 m15 O19 b19 k19 m19 O4 b4 k4 m4 y_max y_tuple y_range y_isinstance y_repr y_len
  exact ok_law F22 O8 b8 k8 m8 O12 b12 k12 m12 O18 b18 k18 m18 O20 b20 k20 m20 y_range
theorem walk {l : PySem.W.OpenLaw} {q : Program} {loose : List Str} {XP : (Str → Option Value) → Heap → Prop} {YP : World → Heap → Prop} {d : DefRec} {K : Params → PySem.W.Frag} (hn : l.most = some 63) (hdf : d.params.defaults = [])
    (hY : ∀ (w : World) (h : Heap), YP w h → (K w.params).In h)
    (F : ∀ (w : World) (mg : Str → Option Value) (fa : Addr) (h : Heap), (K w.params).In h → h.Ns mainGlobals mg → mg d.name = some (.ref fa) →
      ∃ fd : FuncData, (∀ (s : Shared) (u : Value), BindsTo s fd ⟨[u], []⟩ [("_law_script", u)]) ∧ ∀ base : Heap, (K w.params).In base → base.Ns mainGlobals mg → FnG l.prog w (K w.params) mg base CX0 7 fa fd ["_law_script"] (spLaw (K w.params))) :
    PySem.W.WalkO q loose XP YP l.row.toRowW d [] (fun f vs => PySem.call f vs) :=
  Cm.walk_ofG (n := 63) (k := 7) (x := "_law_script") (CX := fun _ => CX0) (sp := fun w => spLaw (K w.params)) hn (by decide) hdf ⟨rfl, by decide, by decide⟩ hY F (fun _ _ a ns hl hS => ⟨a, ns, rfl, hS, hl, fun _ => rfl⟩) fun _ _ _ _ _ z => z
end K46
open PySem PySem.W PyProof.Rows
set_option maxRecDepth 100000 in
set_option maxHeartbeats 0 in
theorem PySem.Challenge.cw_takeleave_k46_parted_rows_holds : PySem.Challenge.rw_takeleave_k46_parted_rows.Holds := by
  w_on; o_law; k_head; (case hw => w_witness2)
  k_fill
  refine K46.walk (l := PySem.Challenge.rw_takeleave_k46_parted_rows) rfl rfl (fun w h Y => PySem.W.kIn_of Y) ?F
  case F =>
    intro w mg fa h KX G hmg
    refine' K46.all_mk (w := w) KX G hmg ?a1 ?l1 ?c1 ?k1 ?a2 ?l2 ?c2 ?k2 ?a3 ?l3 ?c3 ?k3 ?a4 ?l4 ?c4 ?k4 ?a5 ?l5 ?c5 ?k5 ?a6 ?l6 ?c6 ?k6 ?a7 ?l7 ?c7 ?k7 ?a8 ?l8 ?c8 ?k8 ?a9 ?l9 ?c9 ?k9 ?a10 ?l10 ?c10 ?k10 ?a11 ?l11 ?c11 ?k11 ?a12 ?l12 ?c12 ?k12 ?a13 ?l13 ?c13 ?k13 ?a14 ?l14 ?c14 ?k14 ?a15 ?l15 ?c15 ?k15 ?a16 ?l16 ?c16 ?k16 ?a17 ?l17 ?c17 ?k17 ?a18 ?l18 ?c18 ?k18 ?a19 ?l19 ?c19 ?k19 ?a20 ?l20 ?c20 ?k20 ?a21 ?l21 ?c21 ?k21 ?a22 ?l22 ?c22 ?k22 ?z_len ?z_tuple ?z_list ?z_sum ?z_range ?z_isinstance ?z_str ?z_all ?z_int ?z_max ?z_repr ?g_LETTERS ?g_MOST_LEFT
    (case a1 => k_is)
    (case l1 => k_is)
    (case c1 => k_is)
    (case k1 => k_is)
    (case a2 => k_is)
    (case l2 => k_is)
    (case c2 => k_is)
    (case k2 => k_is)
    (case a3 => k_is)
    (case l3 => k_is)
    (case c3 => k_is)
    (case k3 => k_is)
    (case a4 => k_is)
    (case l4 => k_is)
    (case c4 => k_is)
    (case k4 => k_is)
    (case a5 => k_is)
    (case l5 => k_is)
    (case c5 => k_is)
    (case k5 => k_is)
    (case a6 => k_is)
    (case l6 => k_is)
    (case c6 => k_is)
    (case k6 => k_is)
    (case a7 => k_is)
    (case l7 => k_is)
    (case c7 => k_is)
    (case k7 => k_is)
    (case a8 => k_is)
    (case l8 => k_is)
    (case c8 => k_is)
    (case k8 => k_is)
    (case a9 => k_is)
    (case l9 => k_is)
    (case c9 => k_is)
    (case k9 => k_is)
    (case a10 => k_is)
    (case l10 => k_is)
    (case c10 => k_is)
    (case k10 => k_is)
    (case a11 => k_is)
    (case l11 => k_is)
    (case c11 => k_is)
    (case k11 => k_is)
    (case a12 => k_is)
    (case l12 => k_is)
    (case c12 => k_is)
    (case k12 => k_is)
    (case a13 => k_is)
    (case l13 => k_is)
    (case c13 => k_is)
    (case k13 => k_is)
    (case a14 => k_is)
    (case l14 => k_is)
    (case c14 => k_is)
    (case k14 => k_is)
    (case a15 => k_is)
    (case l15 => k_is)
    (case c15 => k_is)
    (case k15 => k_is)
    (case a16 => k_is)
    (case l16 => k_is)
    (case c16 => k_is)
    (case k16 => k_is)
    (case a17 => k_is)
    (case l17 => k_is)
    (case c17 => k_is)
    (case k17 => k_is)
    (case a18 => k_is)
    (case l18 => k_is)
    (case c18 => k_is)
    (case k18 => k_is)
    (case a19 => k_is)
    (case l19 => k_is)
    (case c19 => k_is)
    (case k19 => k_is)
    (case a20 => k_is)
    (case l20 => k_is)
    (case c20 => k_is)
    (case k20 => k_is)
    (case a21 => k_is)
    (case l21 => k_is)
    (case c21 => k_is)
    (case k21 => k_is)
    (case a22 => k_is)
    (case l22 => k_is)
    (case c22 => k_is)
    (case k22 => k_is)
    (case z_len => k_is)
    (case z_tuple => k_is)
    (case z_list => k_is)
    (case z_sum => k_is)
    (case z_range => k_is)
    (case z_isinstance => k_is)
    (case z_str => k_is)
    (case z_all => k_is)
    (case z_int => k_is)
    (case z_max => k_is)
    (case z_repr => k_is)
    (case g_LETTERS => k_is)
    (case g_MOST_LEFT => k_is)
