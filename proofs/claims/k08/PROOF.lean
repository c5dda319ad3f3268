import PyProof.Rows.All
import Wide.All
import OpenK.AllK
import Wide.FinOn
import HandS.ForMost
import HandS.Style
import HandS.More
import HandS.IsInst
import HandS.StrMore
import HandS.Wide
import HandS.Codes
import HandS.Walk
import HandS.NoneIn
import HandS.WordsExc
import PySem.Challenge.RW_takeleave_k08_takes_of_words
set_option Elab.async false
set_option linter.all false
set_option maxRecDepth 100000
set_option maxHeartbeats 4000000
namespace K08
open PySem L2
def top (i : Nat) : Stmt := PySem.Challenge.pw_takeleave_k08_takes_of_words.main.body.getD i (.Pass ⟨0, 0, 0, 0⟩)
abbrev sIsSh : Stmt := top 6
abbrev sTaken : Stmt := top 7
abbrev sBasic : Stmt := top 10
abbrev sTakes : Stmt := top 12
abbrev sMixed : Stmt := top 14
abbrev sDeck : Stmt := top 15
abbrev sDraw : Stmt := top 16
abbrev sShuffle : Stmt := top 21
abbrev sWhole : Stmt := top 23
abbrev sLaw : Stmt := top 24
theorem same_new {H : Hp} {p : Addr} (h : H p = none) (o : HO) : Same H (upd H p o) := fun b u q => by rw [upd_ne (ne_of_none q h)]; exact q
section
variable {P : Program} {w : World} {K : PySem.W.Frag} {mg : Str → Option Value} {base : Heap}
def spMixed : Sp := fun vs H Q _ => ∃ n : Int, vs = [.int n] ∧ ∀ m : Int, 0 ≤ m → m < 2147483587 → Q (.int m) H
theorem scMixed : FnScope ["_law_number_here"] ["_law_number_here"] (defScope sMixed) := ⟨rfl, rfl, rfl, by decide +kernel, rfl, by decide +kernel, by decide +kernel⟩
theorem ok_mixed {f : Addr} {fd : FuncData} (F : Fun K "_law_mixed" "_law_mixed" sMixed f fd) : FnOk P w K mg base CX0 1 f fd ["_law_number_here"] spMixed := by
  refine F.ok scMixed (fun vs H Q E h => ?_) (fun cdv A outer s H vs Q E hr h => ?_)
  · obtain ⟨n, rfl, _⟩ := h
    rfl
  obtain ⟨n, rfl, q⟩ := h
  refine ⟨_, pss_cons (ps_set (i := 0) scMixed.nd rfl (.inl rfl) (pe_op op_mod (pe_op op_add (pe_op op_mul (pe_op op_mod (pv 0) pe_int) pe_int) pe_int) pe_int))
    (pss_cons (ps_set (i := 0) scMixed.nd rfl (.inl rfl) (pe_op op_mod (pe_op op_add (pe_op op_add (pe_op op_mul (pv 0) (pv 0)) (pe_op op_mul pe_int (pv 0))) pe_int) pe_int))
    (pss_one (ps_ret (pe_op op_mod (pe_op op_add (pe_op op_mul (pv 0) pe_int) pe_int) pe_int)))), ?_⟩
  refine ⟨_, rfl, _, _, rfl, rfl, (by show (0 : Int) < 2147483629; decide), _, _, rfl, rfl, .inr ⟨by decide, by decide⟩, _, _, rfl, rfl, _, _, rfl, rfl, (by show (0 : Int) < 2147483647; decide), ?_⟩
  generalize e1 : (n % 2147483629 * 48271 + 7) % 2147483647 = n1
  have b1 : 0 ≤ n1 ∧ n1 < 2147483647 := by omega
  refine ⟨_, rfl, _, rfl, _, _, rfl, rfl, .inl ⟨by omega, by omega⟩, _, rfl, _, _, rfl, rfl, .inl ⟨by decide, by decide⟩, _, _, rfl, rfl, _, _, rfl, rfl, _, _, rfl, rfl, (by show (0 : Int) < 2147483629; decide), ?_⟩
  generalize e2 : (n1 * n1 + 69621 * n1 + 11) % 2147483629 = n2
  have b2 : 0 ≤ n2 ∧ n2 < 2147483629 := by
    constructor
    · rw [← e2]; exact Int.emod_nonneg _ (by decide)
    · rw [← e2]; exact Int.emod_lt_of_pos _ (by decide)
  refine ⟨_, rfl, _, _, rfl, rfl, .inr ⟨by decide, by decide⟩, _, _, rfl, rfl, _, _, rfl, rfl, (by show (0 : Int) < 2147483587; decide), ?_⟩
  exact q _ (Int.emod_nonneg _ (by decide)) (Int.emod_lt_of_pos _ (by decide))
end
end K08
namespace K08
open PySem L2
theorem own_new {H H' : Hp} {p : Addr} {o : HO} (s : Same H H') (h : H p = none) : Same H (upd H' p o) := fun b u q => by rw [upd_ne (ne_of_none q h)]; exact s _ _ q
theorem cut_map {α : Type} (f : α → V) (xs : List α) (lo hi : Option Int) : ∃ ys : List α, cutV (xs.map f) lo hi = ys.map f ∧ ys.length ≤ xs.length := by
  unfold cutV
  refine ⟨(xs.drop (HT.sIx (xs.map f).length 0 lo)).take (HT.sIx (xs.map f).length (xs.map f).length hi - HT.sIx (xs.map f).length 0 lo), ?_, ?_⟩
  · rw [List.map_take, List.map_drop]
  · rw [List.length_take, List.length_drop]; omega
theorem dp_ints {K : PySem.W.Frag} {H : Hp} : ∀ ns : List Int, DpAll K H (ns.map V.int) (ns.map PyData.int)
  | [] => .nil
  | n :: r => .cons (.int n) (dp_ints r)
theorem lay_ints : ∀ ns : List Int, PyData.canLayAll0 (ns.map PyData.int) = true
  | [] => rfl
  | n :: r => by
    show (PyData.canLay0 (PyData.int n) && PyData.canLayAll0 (r.map PyData.int)) = true
    rw [lay_ints r]; rfl
theorem deep_ints : ∀ ns : List Int, PyData.depthAll (ns.map PyData.int) = 0
  | [] => rfl
  | n :: r => by
    show max (PyData.depth (PyData.int n)) (PyData.depthAll (r.map PyData.int)) = 0
    rw [deep_ints r]; rfl
theorem shaped_ints (ns : List Int) : SeqAt.shaped (.list (ns.map PyData.int)) = true := by
  show (PyData.canLayAll0 (ns.map PyData.int) && decide (PyData.depthAll (ns.map PyData.int) + 1 ≤ 64)) = true
  rw [lay_ints, deep_ints]; rfl
section
variable {P : Program} {w : World} {K : PySem.W.Frag} {mg : Str → Option Value} {base : Heap}
def spDeck (K : PySem.W.Frag) : Sp := fun vs H Q _ => ∃ (a : Addr) (ns : List Int) (m : Int), vs = [.ref a, .int m] ∧ SqL K H a (ns.map V.int) ∧ ns.length ≤ 63 ∧ m ≤ 1000 ∧
  ∀ (p : Addr) (H' : Hp) (ds : List Int), Same H H' → H p = none → H' p = some (.lst (ds.map V.int)) → ds.length ≤ 1000 → Q (.ref p) H'
theorem scDeck : FnScope ["_law_script", "_law_most", "_law_deck_here", "_law_last"] ["_law_script", "_law_most"] (defScope sDeck) := ⟨rfl, rfl, rfl, by decide +kernel, rfl, by decide +kernel, by decide +kernel⟩
theorem ok_deck {f g : Addr} {fd gd : FuncData} (F : Fun K "_law_deck" "_law_deck" sDeck f fd) (G : FnOk P w K mg base CX0 1 g gd ["_law_number_here"] spMixed) (bG : Binds K gd ["_law_number_here"] []) (kG : PySem.W.keepIn K (.ref g) = true) (mG : mg "_law_mixed" = some (.ref g))
    (mlist : mg "list" = none) (msum : mg "sum" = none) (mlen : mg "len" = none) : FnOk P w K mg base CX0 2 f fd ["_law_script", "_law_most"] (spDeck K) := by
  refine F.ok scDeck (fun vs H Q E h => ?_) (fun cdv A outer s H vs Q E hr h => ?_)
  · obtain ⟨a, ns, m, rfl, _⟩ := h
    rfl
  obtain ⟨a, ns, m, rfl, hS, h63, hm, q⟩ := h
  refine ⟨_, pss_cons (ps_set (i := 2) scDeck.nd rfl (.inl rfl) (pe_callTy call_list_of (by rfl) mlist (by decide +kernel) (pa_cons (pe_slice sl_list (pv 0) po_none (po_some pe_int)) pa_nil)))
    (pss_cons (ps_set (i := 3) scDeck.nd rfl (.inl rfl) (pe_op op_add pe_int (pe_op op_mod (pe_callB (cr_sum rfl) (by rfl) msum PyProof.Rows.boot_sum (pa_cons (pv 2) pa_nil)) pe_int)))
    (pss_cons (ps_while PassesOwn.never (pt_cmpR op_lt (pe_callB call_len_seq (by rfl) mlen PySem.boot_len (pa_cons (pv 2) pa_nil)) (pv 1) (nomark _))
      (pss_cons (ps_set (i := 3) scDeck.nd rfl (.inl rfl) (pe_call G hr rfl mG kG bG .nil pass0 (pa_cons (pe_op op_add (pv 3) (pe_callB call_len_seq (by rfl) mlen PySem.boot_len (pa_cons (pv 2) pa_nil))) pa_nil)))
      (pss_one (ps_expr (pe_bm PySem.F.plainAttrs_list PySem.F.slot_list_append PySem.F.type_list_append mt_append (pv 2) (pa_cons (pv 3) pa_nil))))))
    (pss_one (ps_ret (pe_revL (pv 2)))))), ?_⟩
  refine ⟨_, rfl, 63, rfl, a, _, rfl, hS, fun p1 n1 => ?_⟩
  obtain ⟨ds, e1, l1⟩ := cut_map V.int ns none (some 63)
  rw [e1]
  refine ⟨p1, _, rfl, .inl (SqL.of upd_same), fun p2 n2 => ?_⟩
  have s1 : Same H (upd H p1 (.lst (ds.map V.int))) := same_new n1 _
  have f2 : H p2 = none := s1.free n2
  refine ⟨_, rfl, p2, ds, rfl, SqL.of upd_same, _, _, rfl, rfl, (by show (0 : Int) < 2147483647; decide), _, _, rfl, rfl, ?_⟩
  refine ⟨fun k σ H' => ∃ (es : List Int) (l : Int), σ = [some (.ref a), some (.int m), some (.ref p2), some (.int l)] ∧ Same H H' ∧ H' p2 = some (.lst (es.map V.int)) ∧ es.length ≤ 1000 ∧ k = (m - es.length).toNat,
    ⟨_, ds, _, rfl, own_new s1 f2, upd_same, by omega, rfl⟩, ?_⟩
  rintro k σ H' ⟨es, l, rfl, sm, he, hl, rfl⟩
  refine ⟨_, rfl, p2, _, rfl, .inl (SqL.of he), _, rfl, _, _, rfl, rfl, _, rfl, ?_⟩
  refine ite2 (fun c => ?_) (fun c => ?_)
  · have c' : ((es.map V.int).length : Int) < m := of_decide_eq_true c
    rw [List.length_map] at c'
    refine ⟨fun σ' H2 => ∃ (l2 : Int), σ' = [some (.ref a), some (.int m), some (.ref p2), some (.int l2)] ∧ Same H H2 ∧ H2 p2 = some (.lst ((es ++ [l2]).map V.int)), ?_, ?_⟩
    · rintro σ' H2 ⟨l2, rfl, sm2, he2⟩
      refine ⟨_, ?_, es ++ [l2], l2, rfl, sm2, he2, ?_, rfl⟩
      · rw [List.length_append, List.length_singleton]; omega
      · rw [List.length_append, List.length_singleton]; omega
    · refine ⟨_, rfl, _, rfl, p2, _, rfl, .inl (SqL.of he), _, _, rfl, rfl, _, rfl, fun l2 _ _ => ?_⟩
      refine ⟨_, rfl, .inl ⟨rfl, _, SqL.of he⟩, _, rfl, p2, _, _, rfl, rfl, he, by rw [List.length_map]; exact small1000 hl, ?_⟩
      refine ⟨l2, rfl, own_new sm f2, ?_⟩
      rw [upd_same, List.map_append]; rfl
  · refine ⟨_, rfl, p2, _, rfl, SqL.of he, fun p3 n3 => ?_⟩
    refine q p3 _ es.reverse (sm.trans (same_new n3 _)) (sm.free n3) ?_ ?_
    · rw [upd_same, List.map_reverse]
    · rw [List.length_reverse]; exact hl
end
end K08
namespace K08
open PySem L2
/-- all but what stands at d is kept -/
def Kp (d : Addr) (H H' : Hp) : Prop := ∀ b o, b ≠ d → H b = some o → H' b = some o
theorem Kp.refl (d : Addr) (H : Hp) : Kp d H H := fun _ _ _ h => h
theorem Kp.trans {d : Addr} {H H1 H2 : Hp} (a : Kp d H H1) (b : Kp d H1 H2) : Kp d H H2 := fun c o n h => b c o n (a c o n h)
theorem Kp.of {d : Addr} {H H' : Hp} (s : Same H H') : Kp d H H' := fun b o _ h => s b o h
theorem Kp.new {d p : Addr} {H H' : Hp} {o : HO} (a : Kp d H H') (h : H' p = none) : Kp d H (upd H' p o) := a.trans (.of (same_new h o))
theorem Kp.own {d : Addr} {H H' : Hp} {o : HO} (a : Kp d H H') : Kp d H (upd H' d o) := fun b u n h => by rw [upd_ne n]; exact a b u n h
/-- a deck stands at d -/
def Dk (H : Hp) (d : Addr) : Prop := ∃ ms : List Int, H d = some (.lst (ms.map V.int)) ∧ ms.length ≤ 1000
theorem Dk.new {d p : Addr} {H : Hp} {o : HO} (a : Dk H d) (h : H p = none) : Dk (upd H p o) d := by
  obtain ⟨ms, e, l⟩ := a
  exact ⟨ms, by rw [upd_ne (ne_of_none e h)]; exact e, l⟩
section
variable {P : Program} {w : World} {K : PySem.W.Frag} {mg : Str → Option Value} {base : Heap}
def spDraw : Sp := fun vs H Q _ => ∃ (d : Addr) (m : Int), vs = [.ref d, .int m] ∧ Dk H d ∧ 0 < m ∧ m < 2 ^ 64 ∧
  ∀ (r : Int) (H' : Hp), 0 ≤ r → r < m → Kp d H H' → Dk H' d → Q (.int r) H'
theorem scDraw : FnScope ["_law_deck_here", "_law_most", "_law_cell"] ["_law_deck_here", "_law_most"] (defScope sDraw) := ⟨rfl, rfl, rfl, by decide +kernel, rfl, by decide +kernel, by decide +kernel⟩
theorem ok_draw {f g : Addr} {fd gd : FuncData} (F : Fun K "_law_draw" "_law_draw" sDraw f fd) (G : FnOk P w K mg base CX0 1 g gd ["_law_number_here"] spMixed) (bG : Binds K gd ["_law_number_here"] []) (kG : PySem.W.keepIn K (.ref g) = true) (mG : mg "_law_mixed" = some (.ref g)) :
    FnOk P w K mg base CX0 2 f fd ["_law_deck_here", "_law_most"] spDraw := by
  refine F.ok scDraw (fun vs H Q E h => ?_) (fun cdv A outer s H vs Q E hr h => ?_)
  · obtain ⟨d, m, rfl, _⟩ := h
    rfl
  obtain ⟨d, m, rfl, ⟨ms, hd, hl⟩, m0, m1, q⟩ := h
  refine ⟨_, pss_cons (ps_if (pt_cmpR (op_eqD hr.units) (pv 0) (pe_lst pa_nil) (nomark _)) (pss_one (ps_ret pe_int)) pss_nil)
    (pss_cons (ps_set (i := 2) scDraw.nd rfl (.inl rfl) (pe_bm0 PySem.F.plainAttrs_list PySem.F.slot_list_pop PySem.F.type_list_pop mt_pop (pv 0)))
    (pss_cons (ps_if (pt_cmpR op_ge (pv 2) (pe_op op_pow pe_int pe_int) (nomark _))
      (pss_cons (ps_expr (pe_bm PySem.F.plainAttrs_list PySem.F.slot_list_append PySem.F.type_list_append mt_append (pv 0) (pa_cons (pe_op op_fdivW (pv 2) (pv 1)) pa_nil)))
        (pss_one (ps_ret (pe_op op_mod (pv 2) (pv 1))))) pss_nil)
    (pss_one (ps_ret (pe_op op_mod (pe_call G hr rfl mG kG bG .nil pass0 (pa_cons (pv 2) pa_nil)) (pv 1)))))), ?_⟩
  refine ⟨_, rfl, (by show 0 ≤ sizeLine; decide), fun p hp => ?_⟩
  have hd1 : (upd H p (.lst [])) d = some (.lst (ms.map V.int)) := by rw [upd_ne (ne_of_none hd hp)]; exact hd
  refine ⟨_, _, .lst (SqL.of hd1) (dp_ints ms), .lst (SqL.of upd_same) .nil, shaped_ints ms, rfl, _, rfl, ?_⟩
  have k1 : Kp d H (upd H p (.lst [])) := (Kp.refl d H).new hp
  rcases List.eq_nil_or_concat ms with rfl | ⟨ns, n, rfl⟩
  · refine iteT ?_
    exact q 0 _ (Int.le_refl 0) m0 k1 ⟨[], hd1, by decide⟩
  · have ne : PyData.eqv (.list ((ns.concat n).map PyData.int)) (.list []) = false := by
      cases ns with
      | nil => rfl
      | cons x r => rfl
    rw [ne]
    refine iteF ?_
    rw [List.length_concat] at hl
    have hq : (((ns.concat n).map V.int) : List V)[((ns.concat n).map V.int).length - 1]? = some (V.int n) := by
      rw [List.concat_eq_append, List.map_append, List.length_append]
      simp
    have hdl : ((ns.concat n).map V.int).dropLast = ns.map V.int := by
      rw [List.concat_eq_append, List.map_append]
      simp
    refine ⟨_, rfl, .inl ⟨rfl, _, SqL.of hd1⟩, d, _, _, rfl, rfl, hd1, hq, ?_⟩
    rw [hdl]
    refine ⟨_, rfl, _, _, rfl, rfl, ⟨by decide, by decide, by decide⟩, _, _, rfl, rfl, _, rfl, ?_⟩
    refine ite2 (fun c => ?_) (fun c => ?_)
    · refine ⟨_, rfl, .inl ⟨rfl, _, SqL.of upd_same⟩, _, rfl, _, rfl, _, _, rfl, rfl, wide_div m0 (b := 64) (by omega) (by decide) (by decide), d, _, _, rfl, rfl, upd_same, by rw [List.length_map]; exact small1000 (by omega), ?_⟩
      refine ⟨_, rfl, _, rfl, _, _, rfl, rfl, m0, ?_⟩
      refine q _ _ (Int.emod_nonneg _ (by omega)) (Int.emod_lt_of_pos _ m0) k1.own.own ⟨ns ++ [n / m], ?_, ?_⟩
      · rw [upd_same, List.map_append]; rfl
      · rw [List.length_append, List.length_singleton]; omega
    · refine ⟨_, rfl, _, rfl, fun r r0 r1 => ?_⟩
      refine ⟨_, rfl, _, _, rfl, rfl, m0, ?_⟩
      exact q _ _ (Int.emod_nonneg _ (by omega)) (Int.emod_lt_of_pos _ m0) k1.own ⟨ns, upd_same, by omega⟩
end
end K08
namespace K08
open PySem L2 SX
theorem cutS_to {a : List Nat} {i : Int} (h : 0 ≤ i) : cutS (S a) none (some i) = S (a.take i.toNat) := by
  obtain ⟨n, rfl⟩ := Int.eq_ofNat_of_zero_le h
  unfold cutS
  rw [HT.sIx_none, HT.sIx_nat, S_len]
  show S (List.take (min n a.length - 0) (List.drop 0 a)) = S (a.take n)
  rw [List.drop_zero, Nat.sub_zero]
  by_cases h : n ≤ a.length
  · rw [Nat.min_eq_left h]
  · rw [Nat.min_eq_right (by omega), List.take_of_length_le (Nat.le_refl a.length), List.take_of_length_le (show a.length ≤ n by omega)]
/-- the first n letters -/
def abc (n : Nat) : List Nat := [97, 98, 99, 100, 101, 102, 103, 104].take n
theorem abc_len {n : Nat} (h : n ≤ 8) : (abc n).length = n := by
  unfold abc; rw [List.length_take]; show min n 8 = n; omega
theorem lit_abc : ("abcdefgh" : Str) = S [97, 98, 99, 100, 101, 102, 103, 104] := by decide +kernel
/-- a shuffle's signs: n letters taken, l left -/
def shuf (n : Nat) (l : List Nat) : List Nat := abc n ++ (45 :: l)
structure Shuf (n : Nat) (l : List Nat) : Prop where
  n8 : n ≤ 8
  l12 : l.length ≤ 12
  inn : ∀ c ∈ l, c ∈ abc n
section
variable {P : Program} {w : World} {K : PySem.W.Frag} {mg : Str → Option Value} {base : Heap}
def spShuffle : Sp := fun vs H Q _ => ∃ (d : Addr) (m : Int), vs = [.ref d, .int m] ∧ Dk H d ∧ 0 ≤ m ∧ m ≤ 8 ∧
  ∀ (n : Nat) (l : List Nat) (H' : Hp), Shuf n l → Kp d H H' → Dk H' d → Q (.str (S (shuf n l))) H'
theorem scShuffle : FnScope ["_law_deck_here", "_law_most", "_law_many", "_law_letters", "_law_left", "_law_wide", "_law_k"] ["_law_deck_here", "_law_most"] (defScope sShuffle) := ⟨rfl, rfl, rfl, by decide +kernel, rfl, by decide +kernel, by decide +kernel⟩
theorem ok_shuffle {f g : Addr} {fd gd : FuncData} (F : Fun K "_law_shuffle" "_law_shuffle" sShuffle f fd) (G : FnOk P w K mg base CX0 2 g gd ["_law_deck_here", "_law_most"] spDraw) (bG : Binds K gd ["_law_deck_here", "_law_most"] []) (kG : PySem.W.keepIn K (.ref g) = true) (mG : mg "_law_draw" = some (.ref g)) (mrange : mg "range" = none) :
    FnOk P w K mg base CX0 3 f fd ["_law_deck_here", "_law_most"] spShuffle := by
  refine F.ok scShuffle (fun vs H Q E h => ?_) (fun cdv A outer s H vs Q E hr h => ?_)
  · obtain ⟨d, m, rfl, _⟩ := h
    rfl
  obtain ⟨d, m, rfl, hD, m0, m8, q⟩ := h
  refine ⟨_, pss_cons (ps_set (i := 2) scShuffle.nd rfl (.inl rfl) (pe_call G hr rfl mG kG bG .nil pass0 (pa_cons (pv 0) (pa_cons (pe_op op_add (pv 1) pe_int) pa_nil))))
    (pss_cons (ps_set (i := 3) scShuffle.nd rfl (.inl rfl) (pe_slice sl_str pe_str po_none (po_some (pv 2))))
    (pss_cons (ps_set (i := 4) scShuffle.nd rfl (.inl rfl) pe_str)
    (C8.pss_cut (ps_if (pt_cmpR op_gt (pv 2) pe_int (nomark _))
      (pss_cons (ps_set (i := 5) scShuffle.nd rfl (.inl rfl) (pe_ix ix_list (pe_lst (pa_cons pe_int (pa_cons pe_int pa_nil))) (pe_op op_fdiv (pe_call G hr rfl mG kG bG .nil pass0 (pa_cons (pv 0) (pa_cons pe_int pa_nil))) pe_int) (fun _ _ => rfl)))
      (pss_one (ps_for PassesOwn.never rfl (pi_range1 rfl mrange (pa_cons (pe_call G hr rfl mG kG bG .nil pass0 (pa_cons (pv 0) (pa_cons (pv 5) pa_nil))) pa_nil)) (pg_name (i := 6) scShuffle.nd rfl (.inl rfl))
        (pss_one (ps_set (i := 4) scShuffle.nd rfl (.inl rfl) (pe_op op_add_str (pv 4) (pe_ix ix_str (pv 3) (pe_call G hr rfl mG kG bG .nil pass0 (pa_cons (pv 0) (pa_cons (pv 2) pa_nil))) (fun _ _ => rfl)))))))) pss_nil)
    (pss_one (ps_ret (pe_op op_add_str (pe_op op_add_str (pv 3) pe_str) (pv 4))))))), ?_⟩
  refine ⟨_, rfl, _, rfl, _, _, rfl, rfl, d, m + 1, rfl, hD, by omega, by omega, fun n H1 n0 n1 k1 D1 => ?_⟩
  obtain ⟨n, rfl⟩ := Int.eq_ofNat_of_zero_le n0
  have n8 : n ≤ 8 := by omega
  refine ⟨_, rfl, _, rfl, _, rfl, (by show Str.length "abcdefgh" ≤ sizeLine; decide +kernel), ?_⟩
  rw [lit_abc, cutS_to n0]
  have ee : ("" : Str) = S [] := by decide +kernel
  have es : ("-" : Str) = S [45] := by decide +kernel
  rw [ee, es]
  have en : List.take (n : Int).toNat [97, 98, 99, 100, 101, 102, 103, 104] = abc n := rfl
  rw [en]
  refine ⟨fun σ H' => ∃ (l : List Nat) (x5 x6 : Option V), σ = [some (.ref d), some (.int m), some (.int n), some (.str (S (abc n))), some (.str (S l)), x5, x6] ∧ Shuf n l ∧ Kp d H H' ∧ Dk H' d, ?_, ?_⟩
  · refine ⟨_, rfl, _, _, rfl, rfl, _, rfl, ?_⟩
    refine ite2 (fun c => ?_) (fun c => ?_)
    · have c' : (0 : Int) < n := of_decide_eq_true c
      refine ⟨(by show 2 ≤ sizeLine; decide), fun p hp => ?_⟩
      refine ⟨_, rfl, d, 8, rfl, D1.new hp, by decide, by decide, fun r H2 r0 r8 k2 D2 => ?_⟩
      have hp2 : H2 p = some (.lst [.int 4, .int 13]) := k2 p _ (by
        obtain ⟨ms, e, _⟩ := D1
        exact fun z => by rw [z, e] at hp; cases hp) upd_same
      obtain ⟨wd, w0, w1, aw⟩ : ∃ wd : Int, 0 < wd ∧ wd ≤ 13 ∧ atI [V.int 4, V.int 13] (r / 7) = some (.int wd) := by
        have e : r / 7 = 0 ∨ r / 7 = 1 := by omega
        rcases e with e | e
        · rw [e]; exact ⟨4, by decide, by decide, atI_nat (j := 0) rfl⟩
        · rw [e]; exact ⟨13, by decide, by decide, atI_nat (j := 1) rfl⟩
      refine ⟨_, _, rfl, rfl, ⟨by decide, by decide⟩, p, _, _, _, rfl, rfl, SqL.of hp2, aw, ?_⟩
      have k2' : Kp d H H2 := (k1.new hp).trans k2
      refine ⟨_, rfl, _, rfl, d, wd, rfl, D2, w0, by omega, fun t H3 t0 t1 k3 D3 => ?_⟩
      refine ⟨t, rfl, by omega, by omega, for_range (lo := 0) (n := t.toNat) (fun i σ H' => ∃ (l : List Nat) (x6 : Option V), σ = [some (.ref d), some (.int m), some (.int n), some (.str (S (abc n))), some (.str (S l)), some (.int wd), x6] ∧ l.length = i ∧ (∀ c ∈ l, c ∈ abc n) ∧ Kp d H H' ∧ Dk H' d)
        ⟨[], none, rfl, rfl, (fun c h => nomatch h), k2'.trans k3, D3⟩ ?_ ?_⟩
      · rintro i σ H' hi ⟨l, x6, rfl, hl, hc, k4, D4⟩
        refine ⟨_, rfl, _, rfl, _, rfl, _, rfl, d, n, rfl, D4, c', by omega, fun u H5 u0 u1 k5 D5 => ?_⟩
        obtain ⟨u, rfl⟩ := Int.eq_ofNat_of_zero_le u0
        have hu : u < (abc n).length := by rw [abc_len n8]; omega
        refine ⟨_, _, _, rfl, rfl, ?_, atI_nat (List.getElem?_eq_getElem hu), ?_⟩
        · rw [S_len, abc_len n8]; exact Nat.le_of_lt (small1000 (by omega))
        refine ⟨_, _, rfl, rfl, ?_, ?_⟩
        · rw [S_len]; exact Nat.le_of_lt (small1000 (by show l.length + 1 ≤ 1000; omega))
        · have e1 : S l ++ (⟨#[(abc n)[u]]⟩ : Str) = S (l ++ [(abc n)[u]]) := S_cat l [(abc n)[u]]
          rw [e1]
          refine ⟨l ++ [(abc n)[u]], _, rfl, ?_, ?_, k4.trans k5, D5⟩
          · rw [List.length_append, List.length_singleton, hl]
          · intro z hz
            rcases List.mem_append.mp hz with h | h
            · exact hc z h
            · rw [List.mem_singleton.mp h]; exact List.getElem_mem hu
      · rintro σ H' ⟨l, x6, rfl, hl, hc, k4, D4⟩
        exact ⟨l, _, _, rfl, ⟨n8, by omega, hc⟩, k4, D4⟩
    · exact ⟨[], none, none, rfl, ⟨n8, by decide, fun c h => nomatch h⟩, k1, D1⟩
  · rintro σ H' ⟨l, x5, x6, rfl, hs, k2, D2⟩
    refine ⟨_, rfl, _, _, rfl, rfl, ?_, _, rfl, _, _, rfl, rfl, ?_, ?_⟩
    · rw [S_len, S_len, abc_len n8]; exact Nat.le_of_lt (small1000 (by show n + 1 ≤ 1000; omega))
    · rw [S_cat, S_len, S_len, List.length_append, abc_len n8]; have := hs.l12; exact Nat.le_of_lt (small1000 (by show n + 1 + l.length ≤ 1000; omega))
    · rw [S_cat, S_cat, List.append_assoc]
      exact q n l H' hs k2 D2
end
end K08
namespace K08
open PySem L2 SX
/-- a comprehension over a text's signs, whose element is a plain value -/
theorem lc_txt {z : List Nat} (f : Nat → V) {g : TG} {te : TE} {vs : List Nat} {σ : St} {H1 : Hp} {D : Addr} {Qd : Hp → Prop} (hl : z.length ≤ 1000)
    (hs : ∀ c H (R : V → Hp → Prop), c ∈ z → R (f c) H → g (.str ⟨#[c]⟩) (wipe σ vs) H fun σ2 H2 => wipe σ2 vs = wipe σ vs ∧ te σ2 H2 R) (hd : Qd (upd H1 D (.lst (z.map f)))) :
    ∃ W : Nat → Nat → Hp → Prop, (∃ m, W 0 m (upd H1 D (.lst []))) ∧ ∀ i m H, W i m H →
      ((Its (S z)).stop i H ∧ Qd H) ∨ ((Its (S z)).go i H ∧ ∃ Nx : Hp → Prop, (∀ H', Nx H' → ∃ m', m' < m ∧ W (i + 1) m' H') ∧ ∀ x H', (Its (S z)).yld i H x H' → g x (wipe σ vs) H' fun σ2 H2 => wipe σ2 vs = wipe σ vs ∧ tYes σ2 H2 fun b H3 =>
        if b = true then te σ2 H3 fun y H4 => ∃ acc, H4 D = some (.lst acc) ∧ acc.length < sizeLine ∧ Nx (upd H4 D (.lst (acc ++ [y]))) else Nx H3) := by
  refine lc_it (walk_str (z := S z)) (fun i H => H = upd H1 D (.lst ((z.take i).map f))) rfl (fun _ _ _ _ => trivial) ?_ ?_
  · rintro i x H H' hi rfl ⟨rfl, c, hc, rfl⟩
    have hc' : z[i]? = some c := by
      rw [← hc]; show z[i]? = (z.toArray)[i]?; rw [List.getElem?_toArray]
    refine hs c _ (fun y H4 => ∃ acc, H4 D = some (.lst acc) ∧ acc.length < sizeLine ∧ upd H4 D (.lst (acc ++ [y])) = upd H1 D (.lst ((z.take (i + 1)).map f))) (List.mem_of_getElem? hc') ⟨_, upd_same, ?_, ?_⟩
    · rw [List.length_map, List.length_take]; exact small1000 (by omega)
    · rw [upd_upd, List.take_add_one, hc', List.map_append]; rfl
  · rintro H rfl
    have e : (S z).cps.size = z.length := by show z.toArray.size = _; rw [List.size_toArray]
    rw [e, List.take_length]
    exact hd
theorem starts_S (x y : List Nat) : Txt.startswith (S x) (S y) = decide (x.take y.length = y) := by
  unfold Txt.startswith PySem.Builtin.Str.subAt
  rw [S_len, S_len]
  show (decide (0 + y.length ≤ x.length) && ((x.toArray.extract 0 (0 + (S y).length)) == y.toArray)) = _
  rw [S_len, Nat.zero_add, List.extract_toArray]
  have e : (List.extract x 0 y.length) = x.take y.length := by unfold List.extract; rw [List.drop_zero, Nat.sub_zero]
  rw [e]
  by_cases h : x.take y.length = y
  · have hl : y.length ≤ x.length := by
      have := congrArg List.length h
      rw [List.length_take] at this; omega
    rw [decide_eq_true h, decide_eq_true hl, h, beq_self_eq_true]; rfl
  · rw [decide_eq_false h]
    have : ((x.take y.length).toArray == y.toArray) = false := by
      rw [beq_eq_false_iff_ne]; intro z; exact h (by have := congrArg Array.toList z; exact this)
    rw [this, Bool.and_false]
theorem par_len : ∀ (x acc t l : List Nat), TL.par [45] acc x = some (t, l) → l.length ≤ x.length
  | [], _, _, _, h => by cases h
  | c :: r, acc, t, l, h => by
    have h' : (if TL.pre [45] (c :: r) = true then some (acc, (c :: r).drop 1) else TL.par [45] (acc ++ [c]) r) = some (t, l) := h
    by_cases hp : TL.pre [45] (c :: r) = true
    · rw [if_pos hp] at h'
      cases h'
      show r.length ≤ r.length + 1
      omega
    · rw [if_neg hp] at h'
      have := par_len r _ _ _ h'
      show l.length ≤ r.length + 1
      omega
/-- the letters a to h -/
def abc8 : List Nat := [97, 98, 99, 100, 101, 102, 103, 104]
/-- whether signs are a shuffle's -/
def shufB (x : List Nat) : Bool := match TL.par [45] [] x with
  | none => false
  | some (t, l) => decide (abc8.take t.length = t) && (decide (l.length ≤ 12) && (l.map fun c => decide (c ∈ t)).all id)
structure TxtS (mg : Str → Option Value) : Prop where
  isi : mg "isinstance" = none
  str : mg "str" = none
  len : mg "len" = none
  all : mg "all" = none
  letters : ∃ t, mg "LETTERS" = some (.str "abcdefgh" t)
  most : ∃ t, mg "MOST_LEFT" = some (.int 12 t)
section
variable {P : Program} {w : World} {K : PySem.W.Frag} {mg : Str → Option Value} {base : Heap}
def spIsSh : Sp := fun vs H Q _ => ∃ x : List Nat, vs = [.str (S x)] ∧ x.length ≤ 1000 ∧ ∀ H', Same H H' → Q (.bl (shufB x)) H'
theorem scIsSh : FnScope ["thing", "taken", "stroke", "left", "letter"] ["thing"] (defScope sIsSh) := ⟨rfl, rfl, rfl, by decide +kernel, rfl, by decide +kernel, by decide +kernel⟩
theorem ok_isSh {f : Addr} {fd : FuncData} (F : Fun K "is_shuffle" "is_shuffle" sIsSh f fd) (T : TxtS mg) : FnOk P w K mg base CX0 1 f fd ["thing"] spIsSh := by
  refine F.ok scIsSh (fun vs H Q E h => ?_) (fun cdv A outer s H vs Q E hr h => ?_)
  · obtain ⟨x, rfl, _⟩ := h
    rfl
  obtain ⟨x, rfl, hl, q⟩ := h
  obtain ⟨tL, mL⟩ := T.letters
  obtain ⟨tM, mM⟩ := T.most
  refine ⟨_, pss_cons (ps_if (pt_not (pt_val (pe_callB call_isi (by rfl) T.isi PyProof.Rows.boot_isinstance (pa_cons (pv 0) (pa_cons (pe_bltn (v := .ty "str") (by rfl) T.str (by decide +kernel) rfl) pa_nil))))) (pss_one (ps_ret pe_bl)) pss_nil)
    (pss_cons (ps_asg (pe_partition (pv 0) pe_str) (pg_tup rfl (pgs_cons (pg_name (i := 1) scIsSh.nd rfl (.inr rfl)) (pgs_cons (pg_name (i := 2) scIsSh.nd rfl (.inl rfl)) (pgs_cons (pg_name (i := 3) scIsSh.nd rfl (.inl rfl)) pgs_nil)))))
    (pss_cons (ps_if (PW.pt (pw_or (pt_cmpR op_eq (pv 2) pe_str (nomark _)) (pw_or1 (pt_not (pt_val (pe_m1 PySem.F.slot_str_startswith PySem.F.type_str_startswith mt_startswith (pe_glob (v := .str "abcdefgh") rfl mL ⟨_, rfl⟩) (pv 1))))))) (pss_one (ps_ret pe_bl)) pss_nil)
    (pss_one (ps_ret (pe_and (pe_cmpR op_le (pe_callB call_len_str (by rfl) T.len PySem.boot_len (pa_cons (pv 3) pa_nil)) (pe_glob (v := .int 12) rfl mM ⟨_, rfl⟩) (nomark _))
      (pe_one (pe_callB (cr_all rfl) (by rfl) T.all PyProof.Rows.boot_all (pa_cons (pe_lc (own := [("letter", 4)]) (g := gName 4) (tt := tYes) rfl scIsSh.nd (pi_str (pv 3)) (blkOk_by (own := [("letter", 4)]) (N := ["thing", "taken", "stroke", "left", "letter"]) (sc := defScope sIsSh) (by decide +kernel))
        (fun _ _ _ _ _ => pg_name (i := 4) scIsSh.nd rfl (Or.inl rfl)) (fun _ _ _ _ _ => pts_nil) (fun _ _ _ _ _ => pe_cmpR op_in_sign (pv 4) (pv 1) rfl)) pa_nil)))))))), ?_⟩
  have e1 : ("-" : Str) = S [45] := by decide +kernel
  have e2 : ("" : Str) = S [] := by decide +kernel
  have e3 : ("abcdefgh" : Str) = S abc8 := by decide +kernel
  rw [e1, e2, e3]
  have hsz : ∀ y : List Nat, y.length ≤ 1000 → (S y).length ≤ sizeLine := fun y h => by rw [S_len]; exact Nat.le_of_lt (small1000 h)
  refine ⟨_, rfl, _, _, _, _, true, rfl, .ty _, .base (.str _), kit_ty (r := true) (by decide +kernel), _, rfl, iteF ?_⟩
  refine ⟨_, rfl, ⟨_, rfl⟩, _, _, rfl, rfl, rfl, hsz x hl, fun p hp => ?_⟩
  have hp' : ∀ o, Same H (upd H p o) := same_new hp
  cases hpar : TL.par [45] [] x with
  | none =>
    have hb : shufB x = false := by unfold shufB; rw [hpar]
    rw [partition_none (List.cons_ne_nil _ _) hpar]
    refine ⟨p, _, rfl, SqT.of upd_same, rfl, _, _, rfl, _, _, rfl, _, _, rfl, rfl, ?_⟩
    refine ⟨_, rfl, rfl, _, rfl, iteT (iteT ?_)⟩
    rw [hb] at q
    exact q _ (hp' _)
  | some tl =>
    obtain ⟨t, l⟩ := tl
    have hb : shufB x = (decide (abc8.take t.length = t) && (decide (l.length ≤ 12) && (l.map fun c => decide (c ∈ t)).all id)) := by unfold shufB; rw [hpar]
    rw [partition_some (List.cons_ne_nil _ _) hpar]
    have ll : l.length ≤ 1000 := Nat.le_trans (par_len _ _ _ _ hpar) hl
    refine ⟨p, _, rfl, SqT.of upd_same, rfl, _, _, rfl, _, _, rfl, _, _, rfl, rfl, ?_⟩
    refine ⟨_, rfl, rfl, _, rfl, iteF ?_⟩
    refine ⟨⟨_, rfl⟩, _, rfl, _, _, rfl, rfl, _, rfl, ?_⟩
    rw [starts_S]
    by_cases h1 : abc8.take t.length = t
    · rw [decide_eq_true h1]
      refine iteF ?_
      refine ⟨_, rfl, _, rfl, hsz l ll, _, _, rfl, rfl, _, rfl, ?_⟩
      rw [S_len]
      by_cases h2 : l.length ≤ 12
      · have h2' : (l.length : Int) ≤ 12 := by omega
        rw [decide_eq_true h2']
        refine iteT ?_
        refine ⟨_, rfl, _, rfl, fun D hD => ?_⟩
        refine lc_txt (fun c => .bl (decide (c ∈ t))) ll (fun c H R hc r => ?_) ?_
        · exact ⟨rfl, _, rfl, _, rfl, c, _, rfl, rfl, r⟩
        · refine ⟨D, l.map fun c => decide (c ∈ t), rfl, ?_, ?_⟩
          · rw [List.map_map]; exact SqL.of upd_same
          · rw [decide_eq_true h1, decide_eq_true h2, Bool.true_and, Bool.true_and] at hb
            rw [hb] at q
            exact q _ ((hp' _).trans (same_new hD _))
      · have h2' : ¬ (l.length : Int) ≤ 12 := by omega
        rw [decide_eq_false h2']
        refine iteF ?_
        rw [decide_eq_false h2, Bool.false_and, Bool.and_false] at hb
        rw [hb] at q
        exact q _ (hp' _)
    · rw [decide_eq_false h1]
      refine iteT ?_
      rw [decide_eq_false h1, Bool.false_and] at hb
      rw [hb] at q
      exact q _ (hp' _)
end
end K08
namespace K08
open PySem L2 SX
theorem abc_sub {n : Nat} {c : Nat} (h : c ∈ abc n) : c ∈ abc8 := List.mem_of_mem_take h
theorem no45 {c : Nat} (h : c ∈ abc8) : c ≠ 45 := by
  intro e; subst e; revert h; decide
theorem shuf_par {n : Nat} {l : List Nat} (h : Shuf n l) : TL.par [45] [] (shuf n l) = some (abc n, l) :=
  par_head (c := 45) (sep := []) (p := abc n) l (fun z => no45 (abc_sub z) rfl)
theorem shuf_spl {n : Nat} {l : List Nat} (h : Shuf n l) : TL.spl [45] 0 [] (shuf n l) = [abc n, l] := by
  have e := spl_free (sep := [45]) (p := abc n) l (List.cons_ne_nil _ _) (free_head (fun z => no45 (abc_sub z) rfl))
  have e2 := spl_join (c := 45) (sep := []) (parts := [l]) (List.cons_ne_nil _ _) (fun p hp => by
    rw [List.mem_singleton.mp hp]; exact fun z => no45 (abc_sub (h.inn _ z)) rfl)
  have e3 : TL.joinL [45] [l] = l := rfl
  rw [e3] at e2
  exact e.trans (by rw [e2])
theorem shuf_len {n : Nat} {l : List Nat} (h : Shuf n l) : (shuf n l).length ≤ 21 := by
  unfold shuf; rw [List.length_append, abc_len h.n8, List.length_cons]; have := h.n8; have := h.l12; omega
theorem shuf_ok {n : Nat} {l : List Nat} (h : Shuf n l) : shufB (shuf n l) = true := by
  unfold shufB
  rw [shuf_par h]
  show (decide (abc8.take (abc n).length = abc n) && (decide (l.length ≤ 12) && (l.map fun c => decide (c ∈ abc n)).all id)) = true
  rw [abc_len h.n8, decide_eq_true (show abc8.take n = abc n from rfl), decide_eq_true h.l12, Bool.true_and, Bool.true_and, List.all_eq_true]
  intro b hb
  obtain ⟨c, hc, rfl⟩ := List.mem_map.mp hb
  exact decide_eq_true (h.inn c hc)
theorem index_abc : ∀ c ∈ abc8, Txt.index0 (S abc8) (S [c]) = some (c - 97) := by decide +kernel
section
variable {P : Program} {w : World} {K : PySem.W.Frag} {mg : Str → Option Value} {base : Heap}
def spTaken : Sp := fun vs H Q _ => ∃ (n : Nat) (l : List Nat), vs = [.str (S (shuf n l))] ∧ Shuf n l ∧ ∀ (p t : Addr) H', Same H H' → H' t = some (.tup (l.map fun c => .int ((c - 97 : Nat) : Int))) → H' p = some (.tup [.int n, .ref t]) → Q (.ref p) H'
theorem scTaken : FnScope ["shuffle", "taken", "left", "letter"] ["shuffle"] (defScope sTaken) := ⟨rfl, rfl, rfl, by decide +kernel, rfl, by decide +kernel, by decide +kernel⟩
theorem ok_taken {f g : Addr} {fd gd : FuncData} (F : Fun K "taken_left" "taken_left" sTaken f fd) (T : TxtS mg) (mtup : mg "tuple" = none) (G : FnOk P w K mg base CX0 1 g gd ["thing"] spIsSh) (bG : Binds K gd ["thing"] []) (kG : PySem.W.keepIn K (.ref g) = true) (mG : mg "is_shuffle" = some (.ref g)) : FnOk P w K mg base CX0 2 f fd ["shuffle"] spTaken := by
  refine F.ok scTaken (fun vs H Q E h => ?_) (fun cdv A outer s H vs Q E hr h => ?_)
  · obtain ⟨n, l, rfl, _⟩ := h
    rfl
  obtain ⟨n, l, rfl, hs, q⟩ := h
  obtain ⟨tL, mL⟩ := T.letters
  refine ⟨_, pss_cons (ps_if (pt_not (pt_val (pe_call G hr rfl mG kG bG .nil pass0 (pa_cons (pv 0) pa_nil)))) (pss_one ps_never) pss_nil)
    (pss_cons (ps_asg (pe_split (pv 0) pe_str) (pg_unl rfl (pgs_cons (pg_name (i := 1) scTaken.nd rfl (.inl rfl)) (pgs_cons (pg_name (i := 2) scTaken.nd rfl (.inl rfl)) pgs_nil))))
    (pss_one (ps_ret (pe_tup (pa_cons (pe_callB call_len_str (by rfl) T.len PySem.boot_len (pa_cons (pv 1) pa_nil)) (pa_cons
      (pe_callTy call_tuple_of (by rfl) mtup (by decide +kernel) (pa_cons (pe_lc (own := [("letter", 3)]) (g := gName 3) (tt := tYes) (te := tBMS K "str" (rIndexX fun _ _ _ _ => False) (tC (.str "abcdefgh")) (tCons (tVar 3) tNil)) rfl scTaken.nd (pi_str (pv 2)) (blkOk_by (own := [("letter", 3)]) (N := ["shuffle", "taken", "left", "letter"]) (sc := defScope sTaken) (by decide +kernel))
        (fun _ _ _ _ _ => pg_name (i := 3) scTaken.nd rfl (Or.inl rfl)) (fun _ _ _ _ _ => pts_nil) (fun _ _ _ _ _ => pe_bmS PySem.F.plainAttrs_str PySem.F.slot_str_index PySem.F.type_str_index (mt_indexX rfl takes0) (pe_glob (v := .str "abcdefgh") rfl mL ⟨_, rfl⟩) (pa_cons (pv 3) pa_nil))) pa_nil)) pa_nil)))))), ?_⟩
  have e1 : ("-" : Str) = S [45] := by decide +kernel
  have e3 : ("abcdefgh" : Str) = S abc8 := by decide +kernel
  rw [e1, e3]
  refine ⟨_, rfl, _, rfl, by have := shuf_len hs; omega, fun H1 s1 => ?_⟩
  rw [shuf_ok hs]
  refine ⟨_, rfl, iteF ?_⟩
  refine ⟨_, rfl, ⟨_, rfl⟩, _, _, rfl, rfl, rfl, ?_, fun p hp => ?_⟩
  · rw [S_len]; exact Nat.le_of_lt (small1000 (by have := shuf_len hs; omega))
  rw [split_S (List.cons_ne_nil _ _) (by decide), shuf_spl hs]
  refine ⟨p, _, rfl, SqL.of upd_same, rfl, _, _, rfl, _, _, rfl, rfl, ?_⟩
  refine ⟨_, rfl, _, rfl, ?_, _, rfl, _, rfl, fun D hD => ?_⟩
  · rw [S_len, abc_len hs.n8]; exact Nat.le_of_lt (small1000 (by have := hs.n8; omega))
  refine lc_txt (fun c => .int ((c - 97 : Nat) : Int)) (by have := hs.l12; omega) (fun c H R hc r => ?_) ?_
  · refine ⟨rfl, rfl, _, rfl, _, _, rfl, rfl, fun k hk => ?_, fun hk => ?_⟩
    · rw [index_abc c (abc_sub (hs.inn c hc))] at hk
      cases hk; exact r
    · rw [index_abc c (abc_sub (hs.inn c hc))] at hk
      cases hk
  · refine ⟨D, _, rfl, .inl ⟨SqL.of upd_same, fun t ht => ?_⟩⟩
    refine ⟨(by show 2 ≤ sizeLine; decide), fun r hr' => ?_⟩
    rw [S_len, abc_len hs.n8]
    refine q r t _ (s1.trans ((same_new hp _).trans ((same_new hD _).trans ((same_new ht _).trans (same_new hr' _))))) ?_ upd_same
    rw [upd_ne (ne_of_none upd_same hr'), upd_same]
end
end K08
namespace K08
open PySem PySem.W L2 SX
def kStr : Value → Option Str
  | .str x _ => some x
  | _ => none
def absAll : List Value → Option (List V)
  | [] => some []
  | u :: r => match absV u, absAll r with
    | some x, some t => some (x :: t)
    | _, _ => none
def kTup (K : Frag) (t : Addr) : Option (List V) := match K.lookup t with
  | some ⟨.type c, _, .seq its _, _⟩ => if c = "tuple" ∧ its.size ≤ 1000 then absAll its.toList else none
  | _ => none
def kEnt (K : Frag) (e : DictEntry) : Option (Str × List V) := match e.val, kStr e.key with
  | .ref t, some k => (kTup K t).map fun xs => (k, xs)
  | _, _ => none
/-- the entries es: keys, each with what its tuple holds -/
def kTab (K : Frag) : List DictEntry → Option (List (Str × List V))
  | [] => some []
  | e :: r => match kEnt K e, kTab K r with
    | some x, some t => some (x :: t)
    | _, _ => none
theorem abs_rel {u : Value} {x : V} (h : absV u = some x) : RelV x u := by
  cases u <;> simp only [absV] at h <;> first | (cases h; done) | (cases h; first | exact rfl | exact ⟨_, rfl⟩) | cases h
theorem abs_all : ∀ {us : List Value} {xs : List V}, absAll us = some xs → Vals xs us
  | [], xs, h => by cases h; exact .nil
  | u :: r, xs, h => by
    unfold absAll at h
    cases e1 : absV u with
    | none => rw [e1] at h; cases h
    | some x =>
      cases e2 : absAll r with
      | none => rw [e1, e2] at h; cases h
      | some t =>
        rw [e1, e2] at h
        cases h
        exact .cons (abs_rel e1) (abs_all e2)
theorem kTup_ok {K : Frag} {t : Addr} {xs : List V} (h : kTup K t = some xs) (H : Hp) : SqT K H t xs := by
  unfold kTup at h
  cases e : K.lookup t with
  | none => rw [e] at h; cases h
  | some o =>
    rw [e] at h
    obtain ⟨oc, od, dt, sl⟩ := o
    cases oc with
    | type c =>
      cases dt with
      | seq its n =>
        have h' : (if c = "tuple" ∧ its.size ≤ 1000 then absAll its.toList else none) = some xs := h
        by_cases hc : c = "tuple" ∧ its.size ≤ 1000
        · rw [if_pos hc] at h'
          obtain ⟨rfl, hz⟩ := hc
          exact .inr ⟨_, its, n, e, rfl, rfl, Nat.le_of_lt (small1000 hz), abs_all h'⟩
        · rw [if_neg hc] at h'; cases h'
      | _ => cases h
    | _ => cases h
/-- what the table tells of a text -/
theorem tab_look {K : Frag} (z : Str) : ∀ {es : List DictEntry} {T : List (Str × List V)}, kTab K es = some T →
    (∀ xs, T.lookup z = some xs → ∃ e t, es.find? (·.key.isStr z) = some e ∧ e.val = .ref t ∧ kTup K t = some xs) ∧ (T.lookup z = none → es.find? (·.key.isStr z) = none) ∧ es.any (·.refKey) = false
  | [], T, h => by cases h; exact ⟨(fun xs q => by cases q), (fun _ => rfl), rfl⟩
  | e :: r, T, h => by
    unfold kTab at h
    cases e1 : kEnt K e with
    | none => rw [e1] at h; cases h
    | some x =>
      cases e2 : kTab K r with
      | none => rw [e1, e2] at h; cases h
      | some t =>
        rw [e1, e2] at h
        cases h
        obtain ⟨ih1, ih2, ih3⟩ := tab_look z e2
        obtain ⟨k, ys⟩ := x
        obtain ⟨a, hv, hk, ht⟩ : ∃ a, e.val = .ref a ∧ kStr e.key = some k ∧ kTup K a = some ys := by
          unfold kEnt at e1
          cases hv : e.val with
          | ref a =>
            cases hk : kStr e.key with
            | none => rw [hv, hk] at e1; cases e1
            | some k' =>
              rw [hv, hk] at e1
              have e1' : (kTup K a).map (fun xs => (k', xs)) = some (k, ys) := e1
              cases ht : kTup K a with
              | none => rw [ht] at e1'; cases e1'
              | some zs => rw [ht] at e1'; cases e1'; exact ⟨a, rfl, rfl, ht⟩
          | _ => rw [hv] at e1; cases e1
        obtain ⟨tk, hkey⟩ : ∃ tk, e.key = .str k tk := by
          unfold kStr at hk
          cases q : e.key with
          | str x' t' => rw [q] at hk; cases hk; exact ⟨_, rfl⟩
          | _ => rw [q] at hk; cases hk
        have hst : e.key.isStr z = (k == z) := by rw [hkey]; rfl
        have hrf : e.refKey = false := by unfold DictEntry.refKey; rw [hkey]
        refine ⟨fun xs q => ?_, fun q => ?_, ?_⟩
        · rw [List.lookup_cons] at q
          by_cases hz : z = k
          · subst hz
            rw [beq_self_eq_true] at q
            cases q
            exact ⟨e, a, by rw [List.find?_cons_of_pos (by rw [hst]; exact beq_self_eq_true z)], hv, ht⟩
          · rw [show (z == k) = false from beq_eq_false_iff_ne.mpr hz] at q
            obtain ⟨e', t', h1, h2, h3⟩ := ih1 xs q
            exact ⟨e', t', by rw [List.find?_cons_of_neg (by rw [hst]; intro y; exact hz (beq_iff_eq.mp y).symm)]; exact h1, h2, h3⟩
        · rw [List.lookup_cons] at q
          by_cases hz : z = k
          · subst hz
            rw [beq_self_eq_true] at q
            cases q
          · rw [show (z == k) = false from beq_eq_false_iff_ne.mpr hz] at q
            rw [List.find?_cons_of_neg (by rw [hst]; intro y; exact hz (beq_iff_eq.mp y).symm)]
            exact ih2 q
        · rw [List.any_cons, hrf, ih3]; rfl
def nn : List V := [V.str "number", V.str "number"]
def table : List (Str × List V) := [((("plus" : Str)), nn), ("minus", nn), ("times", nn), ("less", nn), ("same", nn), ("do", [V.str "row"]), ("dip", [V.str "any", V.str "row"]), ("if", [V.str "number", V.str "row", V.str "row"]), ("while", [V.str "row", V.str "row"]), ("repeat", [V.str "number", V.str "row"]), ("join", [V.str "row", V.str "row"]), ("wrap", [V.str "any"]), ("put", [V.str "list", V.str "any"]), ("part", [V.str "list", V.str "row", V.str "row"]), ("each", [V.str "list", V.str "row"])]
/-- the basic words' table stands at d -/
structure Tab (K : Frag) (w : World) (mg : Str → Option Value) (d : Addr) (es : Array DictEntry) (n : Nat) : Prop where
  kd : KDict K w d es n
  tab : kTab K es.toList = some table
  mg_ : mg "SORTS_TAKEN" = some (.ref d)
section
variable {P : Program} {w : World} {K : PySem.W.Frag} {mg : Str → Option Value} {base : Heap} {d : Addr} {es : Array DictEntry} {n : Nat}
theorem Tab.ns (T : Tab K w mg d es n) (z : Str) : (table.lookup z = none → nsIn K d z = some none) ∧ ∀ xs, table.lookup z = some xs → ∃ t, nsIn K d z = some (some (.ref t)) ∧ kTup K t = some xs := by
  obtain ⟨h1, h2, h3⟩ := tab_look z T.tab
  constructor
  · intro q
    unfold nsIn
    rw [T.kd.at_]
    show (match es.toList.find? (·.key.isStr z) with | some e => some (some e.val) | none => if es.toList.any (·.refKey) then none else some none) = some none
    rw [h2 q]
    show (if es.toList.any (·.refKey) = true then none else some none) = some none
    rw [h3]; rfl
  · intro xs q
    obtain ⟨e, t, e1, e2, e3⟩ := h1 xs q
    refine ⟨t, ?_, e3⟩
    unfold nsIn
    rw [T.kd.at_]
    show (match es.toList.find? (·.key.isStr z) with | some e => some (some e.val) | none => if es.toList.any (·.refKey) then none else some none) = some (some (.ref t))
    rw [e1]
    show some (some e.val) = _
    rw [e2]
def spBasic : Sp := fun vs H Q _ => ∃ z : Str, vs = [.str z] ∧ Q (.bl (table.lookup z).isSome) H
theorem scBasic : FnScope ["text"] ["text"] (defScope sBasic) := ⟨rfl, rfl, rfl, by decide +kernel, rfl, by decide +kernel, by decide +kernel⟩
theorem ok_basic {f : Addr} {fd : FuncData} (F : Fun K "is_basic" "is_basic" sBasic f fd) (T : Tab K w mg d es n) : FnOk P w K mg base CX0 1 f fd ["text"] spBasic := by
  refine F.ok scBasic (fun vs H Q E h => ?_) (fun cdv A outer s H vs Q E hr h => ?_)
  · obtain ⟨z, rfl, _⟩ := h
    rfl
  obtain ⟨z, rfl, q⟩ := h
  refine ⟨_, pss_one (ps_ret (pe_cmpR (op_in_kd T.kd) (pv 0) (pe_glob (v := .ref d) rfl T.mg_ rfl) rfl)), ?_⟩
  obtain ⟨h1, h2⟩ := T.ns z
  cases hz : table.lookup z with
  | none =>
    rw [hz] at q
    exact ⟨_, rfl, z, none, rfl, rfl, h1 hz, q⟩
  | some xs =>
    rw [hz] at q
    obtain ⟨t, e1, e2⟩ := h2 xs hz
    exact ⟨_, rfl, z, _, rfl, rfl, e1, q⟩
/-- a basic word, or a shuffle -/
def spTakes : Sp := fun vs H Q _ => (∃ (z : Str) (xs : List V), vs = [.str z] ∧ table.lookup z = some xs ∧ Q (.int xs.length) H) ∨
  (∃ (n : Nat) (l : List Nat), vs = [.str (S (shuf n l))] ∧ Shuf n l ∧ ∀ H', Same H H' → Q (.int n) H')
theorem scTakes : FnScope ["text"] ["text"] (defScope sTakes) := ⟨rfl, rfl, rfl, by decide +kernel, rfl, by decide +kernel, by decide +kernel⟩
theorem dash_in {n : Nat} {l : List Nat} : 45 ∈ shuf n l := List.mem_append.mpr (.inr (List.mem_cons_self ..))
theorem no_dash : ∀ p ∈ table, 45 ∉ p.1.cps.toList := by decide +kernel
theorem lookup_mem {z : Str} {xs : List V} : ∀ {T : List (Str × List V)}, T.lookup z = some xs → (z, xs) ∈ T
  | (k, ys) :: r, h => by
    rw [List.lookup_cons] at h
    by_cases hz : z = k
    · subst hz; rw [beq_self_eq_true] at h; cases h; exact List.mem_cons_self ..
    · rw [show (z == k) = false from beq_eq_false_iff_ne.mpr hz] at h
      exact List.mem_cons_of_mem _ (lookup_mem h)
theorem shuf_no {n : Nat} {l : List Nat} : table.lookup (S (shuf n l)) = none := by
  cases h : table.lookup (S (shuf n l)) with
  | none => rfl
  | some xs => exact absurd dash_in (no_dash _ (lookup_mem h))
theorem ok_takes {f gb gt : Addr} {fd gbd gtd : FuncData} (F : Fun K "takes_of" "takes_of" sTakes f fd) (T : Tab K w mg d es n) (mlen : mg "len" = none)
    (B : FnOk P w K mg base CX0 1 gb gbd ["text"] spBasic) (bB : Binds K gbd ["text"] []) (kB : PySem.W.keepIn K (.ref gb) = true) (mB : mg "is_basic" = some (.ref gb))
    (L : FnOk P w K mg base CX0 2 gt gtd ["shuffle"] spTaken) (bL : Binds K gtd ["shuffle"] []) (kL : PySem.W.keepIn K (.ref gt) = true) (mL : mg "taken_left" = some (.ref gt)) : FnOk P w K mg base CX0 3 f fd ["text"] spTakes := by
  refine F.ok scTakes (fun vs H Q E h => ?_) (fun cdv A outer s H vs Q E hr h => ?_)
  · rcases h with ⟨z, xs, rfl, _⟩ | ⟨n, l, rfl, _⟩ <;> rfl
  refine ⟨_, pss_cons (ps_if (pt_val (pe_call B (hr.mono (by decide)) rfl mB kB bB .nil pass0 (pa_cons (pv 0) pa_nil)))
      (pss_one (ps_ret (pe_callB call_len_seq (by rfl) mlen PySem.boot_len (pa_cons (pe_ix ix_kdict (pe_glob (v := .ref d) rfl T.mg_ rfl) (pv 0) (fun _ _ => rfl)) pa_nil)))) pss_nil)
    (pss_one (ps_ret (pe_ix ix_tup (pe_call L hr rfl mL kL bL .nil pass0 (pa_cons (pv 0) pa_nil)) pe_int (fun _ _ => rfl)))), ?_⟩
  rcases h with ⟨z, xs, rfl, hz, q⟩ | ⟨k, l, rfl, hs, q⟩
  · obtain ⟨t, e1, e2⟩ := (T.ns z).2 xs hz
    refine ⟨_, rfl, z, rfl, _, rfl, ?_⟩
    rw [hz]
    refine iteT ?_
    exact ⟨_, rfl, d, z, .ref t, rfl, rfl, ⟨es, n, _, T.kd.at_, T.kd.lit, e1, rfl⟩, t, xs, rfl, .inr (kTup_ok e2 H), q⟩
  · refine ⟨_, rfl, _, rfl, _, rfl, ?_⟩
    rw [shuf_no]
    refine iteF ?_
    refine ⟨_, rfl, k, l, rfl, hs, fun p t H' s' h1 h2 => ?_⟩
    exact ⟨p, _, 0, _, rfl, rfl, SqT.of h2, atI_nat (j := 0) rfl, q H' s'⟩
end
end K08
namespace K08
open PySem PySem.W L2 SX
section
variable {P : Program} {w : World} {K : PySem.W.Frag} {mg : Str → Option Value} {base : Heap} {d : Addr} {es : Array DictEntry} {n : Nat}
def spWhole : Sp := fun vs H Q _ => ∃ i : Int, vs = [.int i] ∧ Q (.bl true) H
theorem scWhole : FnScope ["_law_found"] ["_law_found"] (defScope sWhole) := ⟨rfl, rfl, rfl, by decide +kernel, rfl, by decide +kernel, by decide +kernel⟩
theorem ok_whole {f : Addr} {fd : FuncData} (F : Fun K "_law_whole" "_law_whole" sWhole f fd) (misi : mg "isinstance" = none) (mint : mg "int" = none) (mbool : mg "bool" = none) : FnOk P w K mg base CX0 1 f fd ["_law_found"] spWhole := by
  refine F.ok scWhole (fun vs H Q E h => ?_) (fun cdv A outer s H vs Q E hr h => ?_)
  · obtain ⟨z, rfl, _⟩ := h
    rfl
  obtain ⟨i, rfl, q⟩ := h
  refine ⟨_, pss_one (ps_ret (pe_and (pe_callB call_isi (by rfl) misi PyProof.Rows.boot_isinstance (pa_cons (pv 0) (pa_cons (pe_bltn (v := .ty "int") (by rfl) mint (by decide +kernel) rfl) pa_nil)))
    (pe_one (pe_not (pe_callB call_isi (by rfl) misi PyProof.Rows.boot_isinstance (pa_cons (pv 0) (pa_cons (pe_bltn (v := .ty "bool") (by rfl) mbool (by decide +kernel) rfl) pa_nil))))))), ?_⟩
  refine ⟨_, rfl, _, _, _, _, true, rfl, .ty _, .base (.int _), kit_ty (r := true) (by decide +kernel), _, rfl, iteT ?_⟩
  exact ⟨_, rfl, _, _, _, _, false, rfl, .ty _, .base (.int _), kit_ty (r := false) (by decide +kernel), _, rfl, q⟩
end
end K08
namespace K08
open PySem PySem.W L2 SX
/-- what a word takes -/
def Good (z : Str) (k : Int) : Prop := (∃ xs, table.lookup z = some xs ∧ k = xs.length) ∨ (∃ (n : Nat) (l : List Nat), z = S (shuf n l) ∧ Shuf n l ∧ k = n)
/-- a pair of a word and what it takes -/
def Item (H : Hp) (v : V) : Prop := ∃ (a : Addr) (z : Str) (k : Int), v = .ref a ∧ H a = some (.tup [.str z, .int k]) ∧ Good z k
/-- tuples stay -/
def TK (H H' : Hp) : Prop := ∀ a xs, H a = some (.tup xs) → H' a = some (.tup xs)
theorem TK.trans {H H1 H2 : Hp} (a : TK H H1) (b : TK H1 H2) : TK H H2 := fun c o h => b c o (a c o h)
theorem TK.of {H H' : Hp} (s : Same H H') : TK H H' := fun b o h => s b _ h
theorem TK.refl (H : Hp) : TK H H := fun _ _ h => h
theorem TK.kp {d : Addr} {H H' : Hp} (k : Kp d H H') (D : Dk H d) : TK H H' := fun b o h => k b _ (by
  obtain ⟨ms, e, _⟩ := D
  exact ne_of h e (by intro z; cases z)) h
theorem TK.lst {d : Addr} {H : Hp} {xs ys : List V} (h : H d = some (.lst xs)) : TK H (upd H d (.lst ys)) := fun b o e => by
  rw [upd_ne (ne_of e h (by intro z; cases z))]; exact e
theorem Item.tk {H H' : Hp} {v : V} (k : TK H H') (h : Item H v) : Item H' v := by
  obtain ⟨a, z, i, e, h, g⟩ := h
  exact ⟨a, z, i, e, k _ _ h, g⟩
theorem cut_sub {xs : List V} {lo hi : Option Int} {v : V} (h : v ∈ cutV xs lo hi) : v ∈ xs := by
  unfold cutV at h
  exact List.mem_of_mem_drop (List.mem_of_mem_take h)
theorem cut_len {xs : List V} {lo hi : Option Int} : (cutV xs lo hi).length ≤ xs.length := by
  unfold cutV; rw [List.length_take, List.length_drop]; omega
theorem kn {H : Hp} {a t : Addr} {o o' : HO} (h : H a = some o) (n : H t = none) : upd H t o' a = some o := by rw [upd_ne (ne_of_none h n)]; exact h
/-- the pairs, the deck -/
structure St2 (H : Hp) (p : Addr) (acc : List V) : Prop where
  its : ∀ v ∈ acc, Item H v
  dk : Dk H p
theorem St2.new {H : Hp} {p t : Addr} {o : HO} {acc : List V} (h : St2 H p acc) (n : H t = none) : St2 (upd H t o) p acc :=
  ⟨fun v hv => (h.its v hv).tk (.of (same_new n o)), h.dk.new n⟩
theorem St2.lst {H : Hp} {p t : Addr} {xs ys acc : List V} (h : St2 H p acc) (e : H t = some (.lst xs)) (ne : p ≠ t) : St2 (upd H t (.lst ys)) p acc :=
  ⟨fun v hv => (h.its v hv).tk (.lst e), by obtain ⟨ms, e, l⟩ := h.dk; exact ⟨ms, by rw [upd_ne ne]; exact e, l⟩⟩
theorem St2.add {H : Hp} {p t : Addr} {acc : List V} {z : Str} {k : Int} (h : St2 H p acc) (e : H t = some (.tup [.str z, .int k])) (g : Good z k) : St2 H p (acc ++ [.ref t]) :=
  ⟨fun v hv => by
    rcases List.mem_append.mp hv with h' | h'
    · exact h.its v h'
    · rw [List.mem_singleton.mp h']; exact ⟨t, z, k, rfl, e, g⟩, h.dk⟩
theorem St2.kp {H H' : Hp} {p : Addr} {acc : List V} (h : St2 H p acc) (k : Kp p H H') (D : Dk H' p) : St2 H' p acc :=
  ⟨fun v hv => (h.its v hv).tk (.kp k h.dk), D⟩
def basics : List Str := ["plus", "minus", "times", "less", "same", "dip", "while", "repeat", "join", "put", "each"]
theorem basics_split : Txt.split "plus minus times less same dip while repeat join put each" " " = basics := by decide +kernel
theorem basics_good : ∀ z ∈ basics, (table.lookup z).map List.length = some 2 := by decide +kernel
theorem good_of {z : Str} {k : Nat} (h : (table.lookup z).map List.length = some k) : Good z k := by
  cases e : table.lookup z with
  | none => rw [e] at h; cases h
  | some xs => rw [e] at h; cases h; exact .inl ⟨xs, e, rfl⟩
section
variable {P : Program} {w : World} {K : PySem.W.Frag} {mg : Str → Option Value} {base : Heap} {td : Addr} {es : Array DictEntry} {n : Nat}
def spLaw (K : PySem.W.Frag) : Sp := fun vs H Q _ => ∃ (a : Addr) (ns : List Int), vs = [.ref a] ∧ SqL K H a (ns.map V.int) ∧ ns.length ≤ 63 ∧ ∀ H', Q (.bl true) H'
abbrev NL : List Str := ["_law_script", "_law_deck_here", "_law_basic", "_law_word", "_law_due", "_law_k", "_law_shuffle_here", "_law_turn", "_law_many", "_law_found"]
theorem scLaw : FnScope NL ["_law_script"] (defScope sLaw) := ⟨rfl, rfl, rfl, by decide +kernel, rfl, by decide +kernel, by decide +kernel⟩
theorem ok_law {f fd fr fs ft fw : Addr} {fdd dd rd sd tdd wd : FuncData} (F : Fun K "law" "law" sLaw f fdd)
    (DE : FnOk P w K mg base CX0 2 fd dd ["_law_script", "_law_most"] (spDeck K)) (bDE : Binds K dd ["_law_script", "_law_most"] []) (kDE : keepIn K (.ref fd) = true) (mDE : mg "_law_deck" = some (.ref fd))
    (DR : FnOk P w K mg base CX0 2 fr rd ["_law_deck_here", "_law_most"] spDraw) (bDR : Binds K rd ["_law_deck_here", "_law_most"] []) (kDR : keepIn K (.ref fr) = true) (mDR : mg "_law_draw" = some (.ref fr))
    (SH : FnOk P w K mg base CX0 3 fs sd ["_law_deck_here", "_law_most"] spShuffle) (bSH : Binds K sd ["_law_deck_here", "_law_most"] []) (kSH : keepIn K (.ref fs) = true) (mSH : mg "_law_shuffle" = some (.ref fs))
    (TA : FnOk P w K mg base CX0 3 ft tdd ["text"] spTakes) (bTA : Binds K tdd ["text"] []) (kTA : keepIn K (.ref ft) = true) (mTA : mg "takes_of" = some (.ref ft))
    (WH : FnOk P w K mg base CX0 1 fw wd ["_law_found"] spWhole) (bWH : Binds K wd ["_law_found"] []) (kWH : keepIn K (.ref fw) = true) (mWH : mg "_law_whole" = some (.ref fw))
    (mlen : mg "len" = none) (mrange : mg "range" = none) : FnOk P w K mg base CX0 4 f fdd ["_law_script"] (spLaw K) := by
  refine F.ok scLaw (fun vs H Q E h => ?_) (fun cdv A outer s H vs Q E hr h => ?_)
  · obtain ⟨a, ns, rfl, _⟩ := h
    rfl
  obtain ⟨a, ns, rfl, hS, h63, q⟩ := h
  have hr2 := hr.mono (j := 2) (by decide)
  have hr1 := hr.mono (j := 1) (by decide)
  refine ⟨_, pss_cons (ps_set (i := 1) scLaw.nd rfl (.inl rfl) (pe_call DE hr2 rfl mDE kDE bDE .nil pass0 (pa_cons (pv 0) (pa_cons pe_int pa_nil))))
    (pss_cons (ps_set (i := 2) scLaw.nd rfl (.inl rfl) (pe_split pe_str pe_str))
    (pss_cons (ps_set (i := 4) scLaw.nd rfl (.inl rfl) (pe_op op_cat (pe_lc (own := [("_law_word", 3)]) (g := gName 3) (tt := tYes) rfl scLaw.nd (pi_list (pv 2)) (blkOk_by (own := [("_law_word", 3)]) (N := NL) (sc := defScope sLaw) (by decide +kernel))
        (fun _ _ _ _ _ => pg_name (i := 3) scLaw.nd rfl (Or.inl rfl)) (fun _ _ _ _ _ => pts_nil) (fun _ _ _ _ _ => pe_tup (pa_cons (pv 3) (pa_cons pe_int pa_nil))))
        (pe_lst (pa_cons (pe_tup (pa_cons pe_str (pa_cons pe_int pa_nil))) (pa_cons (pe_tup (pa_cons pe_str (pa_cons pe_int pa_nil))) (pa_cons (pe_tup (pa_cons pe_str (pa_cons pe_int pa_nil))) (pa_cons (pe_tup (pa_cons pe_str (pa_cons pe_int pa_nil))) pa_nil)))))))
    (C8.pss_cut (ps_for PassesOwn.never rfl (pi_range1 rfl mrange (pa_cons pe_int pa_nil)) (pg_name (i := 5) scLaw.nd rfl (.inl rfl))
      (pss_cons (ps_set (i := 6) scLaw.nd rfl (.inl rfl) (pe_call SH hr rfl mSH kSH bSH .nil pass0 (pa_cons (pv 1) (pa_cons pe_int pa_nil))))
      (pss_one (ps_expr (pe_bm PySem.F.plainAttrs_list PySem.F.slot_list_append PySem.F.type_list_append mt_append (pv 4) (pa_cons (pe_tup (pa_cons (pv 6) (pa_cons (pe_callB call_len_str (by rfl) mlen PySem.boot_len (pa_cons (pe_ix ix_list (pe_split (pv 6) pe_str) pe_int (fun _ _ => rfl)) pa_nil)) pa_nil))) pa_nil))))))
    (pss_cons (ps_set (i := 7) scLaw.nd rfl (.inl rfl) (pe_call DR hr2 rfl mDR kDR bDR .nil pass0 (pa_cons (pv 1) (pa_cons (pe_callB call_len_seq (by rfl) mlen PySem.boot_len (pa_cons (pv 4) pa_nil)) pa_nil))))
    (pss_cons (ps_for PassesOwn.never rfl (pi_list (pe_op op_cat (pe_slice sl_list (pv 4) (po_some (pv 7)) po_none) (pe_slice sl_list (pv 4) po_none (po_some (pv 7))))) (pg_tup rfl (pgs_cons (pg_name (i := 3) scLaw.nd rfl (.inl rfl)) (pgs_cons (pg_name (i := 8) scLaw.nd rfl (.inl rfl)) pgs_nil)))
      (pss_cons (ps_set (i := 9) scLaw.nd rfl (.inl rfl) (pe_call TA hr rfl mTA kTA bTA .nil pass0 (pa_cons (pv 3) pa_nil)))
      (pss_one (ps_if (PW.pt (pw_or (pt_not (pt_val (pe_call WH hr1 rfl mWH kWH bWH .nil pass0 (pa_cons (pv 9) pa_nil)))) (pw_or1 (pt_cmpR op_ne (pv 9) (pv 8) (nomark _))))) (pss_one (ps_ret pe_bl)) pss_nil))))
    (pss_one (ps_ret pe_bl))))))), ?_⟩
  -- the deck
  refine ⟨_, rfl, a, ns, 120, rfl, hS, h63, by decide, fun p H1 ds s1 np hp hd => ?_⟩
  have D1 : Dk H1 p := ⟨ds, hp, hd⟩
  -- the basic words
  refine ⟨⟨_, rfl⟩, _, _, rfl, rfl, (by decide +kernel), (by decide +kernel), fun b nb => ?_⟩
  rw [basics_split]
  have npb : p ≠ b := ne_of_none hp nb
  have S2 : St2 (upd H1 b (.lst (basics.map V.str))) p [] := ⟨(fun v hv => nomatch hv), D1.new nb⟩
  -- due, first part
  refine ⟨_, rfl, b, rfl, ⟨_, SqL.of upd_same⟩, fun D hD => lc_list (K := K) (a := b) (xs := basics.map V.str) (fun i H' => ∃ acc, H' D = some (.lst acc) ∧ acc.length = i ∧ St2 H' p acc ∧ H' b = some (.lst (basics.map V.str)) ∧ p ≠ D)
    ⟨[], upd_same, rfl, S2.new hD, by rw [upd_ne (ne_of_none upd_same hD)]; exact upd_same, ?_⟩ (fun i H' _ h => by obtain ⟨acc, _, _, _, e, _⟩ := h; exact SqL.of e) ?_ ?_⟩
  · obtain ⟨ms, e, _⟩ := D1.new nb (o := .lst (basics.map V.str)); exact ne_of_none e hD
  · rintro i x H' hx ⟨acc, e1, e2, e3, e4, e5⟩
    obtain ⟨z, hz, rfl⟩ : ∃ z ∈ basics, x = .str z := by
      obtain ⟨z, hz, e⟩ := List.mem_map.mp (List.mem_of_getElem? hx)
      exact ⟨z, hz, e.symm⟩
    have hi : i < 11 := by
      have := (List.getElem?_eq_some_iff.mp hx).1
      rw [List.length_map] at this; exact this
    refine ⟨rfl, _, rfl, (by show 2 ≤ sizeLine; decide), fun t ht => ?_⟩
    have nDt : D ≠ t := ne_of_none e1 ht
    have e1' : (upd H' t (.tup [.str z, .int 2])) D = some (.lst acc) := by rw [upd_ne nDt]; exact e1
    refine ⟨acc, e1', small1000 (by omega), acc ++ [.ref t], upd_same, by rw [List.length_append, e2]; rfl, ?_, ?_, e5⟩
    · exact ((e3.new ht).add upd_same (good_of (basics_good z hz))).lst e1' e5
    · have nbD : b ≠ D := ne_of_none upd_same hD
      rw [upd_ne nbD, upd_ne (ne_of_none e4 ht)]; exact e4
  · rintro H2 ⟨acc, e1, e2, e3, e4, e5⟩
    refine ⟨(by show 2 ≤ sizeLine; decide), fun t1 n1 => ⟨(by show 2 ≤ sizeLine; decide), fun t2 n2 => ⟨(by show 2 ≤ sizeLine; decide), fun t3 n3 => ⟨(by show 2 ≤ sizeLine; decide), fun t4 n4 => ⟨(by show 4 ≤ sizeLine; decide), fun l nl => ?_⟩⟩⟩⟩⟩
    have f1 := (e3.new n1 (o := .tup [.str "if", .int 3])).add upd_same (good_of (k := 3) (by decide +kernel))
    have f2 := (f1.new n2 (o := .tup [.str "part", .int 3])).add upd_same (good_of (k := 3) (by decide +kernel))
    have f3 := (f2.new n3 (o := .tup [.str "do", .int 1])).add upd_same (good_of (k := 1) (by decide +kernel))
    have f4 := (f3.new n4 (o := .tup [.str "wrap", .int 1])).add upd_same (good_of (k := 1) (by decide +kernel))
    have f5 := f4.new nl (o := .lst [.ref t1, .ref t2, .ref t3, .ref t4])
    have d5 := kn (o' := .lst [.ref t1, .ref t2, .ref t3, .ref t4]) (kn (o' := .tup [.str "wrap", .int 1]) (kn (o' := .tup [.str "do", .int 1]) (kn (o' := .tup [.str "part", .int 3]) (kn (o' := .tup [.str "if", .int 3]) e1 n1) n2) n3) n4) nl
    have e2' : acc.length = 11 := e2
    refine ⟨D, l, _, _, rfl, rfl, d5, upd_same, ?_, fun u nu => ?_⟩
    · rw [e2']; show 15 ≤ sizeLine; decide
    have f6 := f5.new nu (o := .lst (acc ++ [.ref t1, .ref t2, .ref t3, .ref t4]))
    have epu : p ≠ u := by obtain ⟨ms, e, _⟩ := f5.dk; exact ne_of_none e nu
    have ea : acc ++ [V.ref t1] ++ [V.ref t2] ++ [V.ref t3] ++ [V.ref t4] = acc ++ [.ref t1, .ref t2, .ref t3, .ref t4] := by simp
    rw [ea] at f6
    refine ⟨fun σ H' => ∃ (ac : List V) (x5 x6 : Option V), σ = [some (.ref a), some (.ref p), some (.ref b), none, some (.ref u), x5, x6, none, none, none] ∧ H' u = some (.lst ac) ∧ ac.length = 21 ∧ St2 H' p ac, ?_, ?_⟩
    · refine ⟨6, rfl, by decide, by decide, for_range (lo := 0) (n := 6) (fun i σ H' => ∃ (ac : List V) (x5 x6 : Option V), σ = [some (.ref a), some (.ref p), some (.ref b), none, some (.ref u), x5, x6, none, none, none] ∧ H' u = some (.lst ac) ∧ ac.length = 15 + i ∧ St2 H' p ac)
        ⟨_, none, none, rfl, upd_same, by rw [List.length_append, e2']; rfl, f6⟩ ?_ (fun σ H' h => h)⟩
      rintro i σ H' hi ⟨ac, x5, x6, rfl, g1, g2, g3⟩
      refine ⟨_, rfl, p, 8, rfl, g3.dk, by decide, by decide, fun n l H3 sh k3 D3 => ?_⟩
      have g4 : H3 u = some (.lst ac) := k3 u _ epu.symm g1
      refine ⟨_, rfl, .inl ⟨rfl, _, SqL.of g4⟩, _, rfl, _, rfl, ⟨_, rfl⟩, _, _, rfl, rfl, (by decide +kernel), ?_, fun v nv => ?_⟩
      · rw [S_len]; have := shuf_len sh; exact Nat.le_of_lt (small1000 (by omega))
      have es : ("-" : Str) = S [45] := by decide +kernel
      rw [es, split_S (List.cons_ne_nil _ _) (by decide), shuf_spl sh]
      refine ⟨v, _, 0, _, rfl, rfl, SqL.of upd_same, atI_nat (j := 0) rfl, _, rfl, ?_, (by show 2 ≤ sizeLine; decide), fun t nt => ?_⟩
      · rw [S_len, abc_len sh.n8]; have := sh.n8; exact Nat.le_of_lt (small1000 (by omega))
      rw [S_len, abc_len sh.n8]
      have g5 := ((g3.kp k3 D3).new nv (o := .lst (List.map V.str (List.map S [abc n, l])))).new nt (o := .tup [.str (S (shuf n l)), .int n])
      have g6 := kn (o' := .tup [.str (S (shuf n l)), .int n]) (kn (o' := .lst (List.map V.str (List.map S [abc n, l]))) g4 nv) nt
      refine ⟨u, ac, _, rfl, rfl, g6, small1000 (by omega), ?_⟩
      refine ⟨ac ++ [.ref t], _, _, rfl, upd_same, by rw [List.length_append, g2]; rfl, ?_⟩
      exact (g5.add upd_same (.inr ⟨n, l, rfl, sh, rfl⟩)).lst g6 epu
    · rintro σ H' ⟨ac, x5, x6, rfl, g1, g2, g3⟩
      refine ⟨_, rfl, _, rfl, u, _, rfl, .inl (SqL.of g1), p, _, rfl, g3.dk, by rw [g2]; decide, by rw [g2]; decide, fun r H3 r0 r1 k3 D3 => ?_⟩
      have g4 : H3 u = some (.lst ac) := k3 u _ epu.symm g1
      have g5 := g3.kp k3 D3
      refine ⟨_, rfl, _, rfl, _, rfl, u, _, rfl, SqL.of g4, fun c1 m1 => ?_⟩
      refine ⟨_, rfl, _, rfl, _, rfl, u, _, rfl, SqL.of (kn g4 m1), fun c2 m2 => ?_⟩
      refine ⟨c1, c2, _, _, rfl, rfl, kn upd_same m2, upd_same, ?_, fun c m => ?_⟩
      · have h1 := @cut_len ac (some r) none
        have h2 := @cut_len ac none (some r)
        exact Nat.le_of_lt (small1000 (by omega))
      have g6 := ((g5.new m1 (o := .lst (cutV ac (some r) none))).new m2 (o := .lst (cutV ac none (some r)))).new m (o := .lst (cutV ac (some r) none ++ cutV ac none (some r)))
      refine ⟨c, rfl, ⟨_, SqL.of upd_same⟩, for_list (K := K) (a := c) (xs := cutV ac (some r) none ++ cutV ac none (some r)) (fun i σ H' => ∃ (y3 y8 y9 : Option V), σ = [some (.ref a), some (.ref p), some (.ref b), y3, some (.ref u), x5, x6, some (.int r), y8, y9] ∧ H' c = some (.lst (cutV ac (some r) none ++ cutV ac none (some r))) ∧ St2 H' p ac)
        ⟨none, none, none, rfl, upd_same, g6⟩ (fun i σ H' _ h => by obtain ⟨_, _, _, _, h, _⟩ := h; exact SqL.of h) ?_ ?_⟩
      · rintro i x σ H' hx ⟨y3, y8, y9, rfl, j1, j2⟩
        obtain ⟨t, z, k, rfl, ht, hg⟩ := j2.its x (by
          rcases List.mem_append.mp (List.mem_of_getElem? hx) with h | h
          · exact cut_sub h
          · exact cut_sub h)
        refine ⟨t, _, rfl, SqT.of ht, rfl, _, _, rfl, _, _, rfl, rfl, ?_⟩
        have fin : ∀ H4, Same H' H4 → ∃ (y3 y8 y9 : Option V), ([some (.ref a), some (.ref p), some (.ref b), some (.str z), some (.ref u), x5, x6, some (.int r), some (.int k), some (.int k)] : List (Option V)) = [some (.ref a), some (.ref p), some (.ref b), y3, some (.ref u), x5, x6, some (.int r), y8, y9] ∧ H4 c = some (.lst (cutV ac (some r) none ++ cutV ac none (some r))) ∧ St2 H4 p ac := fun H4 s4 =>
          ⟨_, _, _, rfl, s4 _ _ j1, ⟨fun v hv => (j2.its v hv).tk (.of s4), by obtain ⟨ms, e, l⟩ := j2.dk; exact ⟨ms, s4 _ _ e, l⟩⟩⟩
        have ne : (!decide (V.int k = V.int k)) = false := by rw [decide_eq_true rfl]; rfl
        rcases hg with ⟨xs, hz, rfl⟩ | ⟨n, l, rfl, sh, rfl⟩
        · refine ⟨_, rfl, .inl ⟨z, xs, rfl, hz, ?_⟩⟩
          refine ⟨_, rfl, _, rfl, _, rfl, iteF ?_⟩
          refine ⟨_, rfl, _, rfl, rfl, _, rfl, ?_⟩
          rw [ne]
          exact iteF (fin H' (Same.refl H'))
        · refine ⟨_, rfl, .inr ⟨n, l, rfl, sh, fun H4 s4 => ?_⟩⟩
          refine ⟨_, rfl, _, rfl, _, rfl, iteF ?_⟩
          refine ⟨_, rfl, _, rfl, rfl, _, rfl, ?_⟩
          rw [ne]
          exact iteF (fin H4 s4)
      · rintro σ H' ⟨y3, y8, y9, rfl, j1, j2⟩
        exact q H'
end
end K08
namespace K08
open PySem PySem.W L2 SX
theorem all_mk {l : PySem.W.OpenLaw} {w : World} {K : PySem.W.Frag} {h : Heap} {mg : Str → Option Value} {fa f1 f2 f3 f4 f5 f6 f7 f8 f9 f10 : Addr} {es : Array DictEntry} {n : Nat} (X : K.In h) (G : h.Ns mainGlobals mg) (hfa : mg "law" = some (.ref fa))
    {od1 an1 od2 an2 od3 an3 od4 an4 od5 an5 od6 an6 od7 an7 od8 an8 od9 an9 od10 an10 : Option Addr} {sl1 sl2 sl3 sl4 sl5 sl6 sl7 sl8 sl9 sl10 : Array (Option Value)} {oc1 kV1 dc1 pm1 cd1 ct1 oc2 kV2 dc2 pm2 cd2 ct2 oc3 kV3 dc3 pm3 cd3 ct3 oc4 kV4 dc4 pm4 cd4 ct4 oc5 kV5 dc5 pm5 cd5 ct5 oc6 kV6 dc6 pm6 cd6 ct6 oc7 kV7 dc7 pm7 cd7 ct7 oc8 kV8 dc8 pm8 cd8 ct8 oc9 kV9 dc9 pm9 cd9 ct9 oc10 kV10 dc10 pm10 cd10 ct10 : Value}
    (a1 : PySem.W.nsIn K mainGlobals "is_shuffle" = some (some (.ref f1))) (l1 : K.lookup f1 = some ⟨oc1, od1, .func (PySem.W.fnOf "is_shuffle" "is_shuffle" (defArgs sIsSh) (defBody sIsSh) (defScope sIsSh) .none kV1 dc1 pm1 an1 cd1 ct1), sl1⟩) (c1 : PySem.W.codeIn K cd1 "is_shuffle" = true) (k1 : PySem.W.keepIn K (.ref f1) = true)
    (a2 : PySem.W.nsIn K mainGlobals "taken_left" = some (some (.ref f2))) (l2 : K.lookup f2 = some ⟨oc2, od2, .func (PySem.W.fnOf "taken_left" "taken_left" (defArgs sTaken) (defBody sTaken) (defScope sTaken) .none kV2 dc2 pm2 an2 cd2 ct2), sl2⟩) (c2 : PySem.W.codeIn K cd2 "taken_left" = true) (k2 : PySem.W.keepIn K (.ref f2) = true)
    (a3 : PySem.W.nsIn K mainGlobals "is_basic" = some (some (.ref f3))) (l3 : K.lookup f3 = some ⟨oc3, od3, .func (PySem.W.fnOf "is_basic" "is_basic" (defArgs sBasic) (defBody sBasic) (defScope sBasic) .none kV3 dc3 pm3 an3 cd3 ct3), sl3⟩) (c3 : PySem.W.codeIn K cd3 "is_basic" = true) (k3 : PySem.W.keepIn K (.ref f3) = true)
    (a4 : PySem.W.nsIn K mainGlobals "takes_of" = some (some (.ref f4))) (l4 : K.lookup f4 = some ⟨oc4, od4, .func (PySem.W.fnOf "takes_of" "takes_of" (defArgs sTakes) (defBody sTakes) (defScope sTakes) .none kV4 dc4 pm4 an4 cd4 ct4), sl4⟩) (c4 : PySem.W.codeIn K cd4 "takes_of" = true) (k4 : PySem.W.keepIn K (.ref f4) = true)
    (a5 : PySem.W.nsIn K mainGlobals "_law_mixed" = some (some (.ref f5))) (l5 : K.lookup f5 = some ⟨oc5, od5, .func (PySem.W.fnOf "_law_mixed" "_law_mixed" (defArgs sMixed) (defBody sMixed) (defScope sMixed) .none kV5 dc5 pm5 an5 cd5 ct5), sl5⟩) (c5 : PySem.W.codeIn K cd5 "_law_mixed" = true) (k5 : PySem.W.keepIn K (.ref f5) = true)
    (a6 : PySem.W.nsIn K mainGlobals "_law_deck" = some (some (.ref f6))) (l6 : K.lookup f6 = some ⟨oc6, od6, .func (PySem.W.fnOf "_law_deck" "_law_deck" (defArgs sDeck) (defBody sDeck) (defScope sDeck) .none kV6 dc6 pm6 an6 cd6 ct6), sl6⟩) (c6 : PySem.W.codeIn K cd6 "_law_deck" = true) (k6 : PySem.W.keepIn K (.ref f6) = true)
    (a7 : PySem.W.nsIn K mainGlobals "_law_draw" = some (some (.ref f7))) (l7 : K.lookup f7 = some ⟨oc7, od7, .func (PySem.W.fnOf "_law_draw" "_law_draw" (defArgs sDraw) (defBody sDraw) (defScope sDraw) .none kV7 dc7 pm7 an7 cd7 ct7), sl7⟩) (c7 : PySem.W.codeIn K cd7 "_law_draw" = true) (k7 : PySem.W.keepIn K (.ref f7) = true)
    (a8 : PySem.W.nsIn K mainGlobals "_law_shuffle" = some (some (.ref f8))) (l8 : K.lookup f8 = some ⟨oc8, od8, .func (PySem.W.fnOf "_law_shuffle" "_law_shuffle" (defArgs sShuffle) (defBody sShuffle) (defScope sShuffle) .none kV8 dc8 pm8 an8 cd8 ct8), sl8⟩) (c8 : PySem.W.codeIn K cd8 "_law_shuffle" = true) (k8 : PySem.W.keepIn K (.ref f8) = true)
    (a9 : PySem.W.nsIn K mainGlobals "_law_whole" = some (some (.ref f9))) (l9 : K.lookup f9 = some ⟨oc9, od9, .func (PySem.W.fnOf "_law_whole" "_law_whole" (defArgs sWhole) (defBody sWhole) (defScope sWhole) .none kV9 dc9 pm9 an9 cd9 ct9), sl9⟩) (c9 : PySem.W.codeIn K cd9 "_law_whole" = true) (k9 : PySem.W.keepIn K (.ref f9) = true)
    (a10 : PySem.W.nsIn K mainGlobals "law" = some (some (.ref f10))) (l10 : K.lookup f10 = some ⟨oc10, od10, .func (PySem.W.fnOf "law" "law" (defArgs sLaw) (defBody sLaw) (defScope sLaw) .none kV10 dc10 pm10 an10 cd10 ct10), sl10⟩) (c10 : PySem.W.codeIn K cd10 "law" = true) (k10 : PySem.W.keepIn K (.ref f10) = true)
    (z_len : PySem.W.nsIn K mainGlobals "len" = some none)
    (z_list : PySem.W.nsIn K mainGlobals "list" = some none)
    (z_sum : PySem.W.nsIn K mainGlobals "sum" = some none)
    (z_range : PySem.W.nsIn K mainGlobals "range" = some none)
    (z_isinstance : PySem.W.nsIn K mainGlobals "isinstance" = some none)
    (z_str : PySem.W.nsIn K mainGlobals "str" = some none)
    (z_all : PySem.W.nsIn K mainGlobals "all" = some none)
    (z_tuple : PySem.W.nsIn K mainGlobals "tuple" = some none)
    (z_int : PySem.W.nsIn K mainGlobals "int" = some none)
    (z_bool : PySem.W.nsIn K mainGlobals "bool" = some none)
    {tL : Tok} (g_LETTERS : PySem.W.nsIn K mainGlobals "LETTERS" = some (some (.str "abcdefgh" tL)))
    {tM : Tok} (g_MOST_LEFT : PySem.W.nsIn K mainGlobals "MOST_LEFT" = some (some (.int 12 tM)))
    {d : Addr} (g_SORTS_TAKEN : PySem.W.nsIn K mainGlobals "SORTS_TAKEN" = some (some (.ref d)))
    (xt : K.lookup d = some ⟨.type "dict", none, .dict es n, #[]⟩)
    (xk : PySem.W.KeysLit w.params es.toList)
    (xs : (d == sysModules) = false)
    (xx : kTab K es.toList = some table)
    : ∃ fd : FuncData, (∀ (s : Shared) (v : Value), BindsTo s fd ⟨[v], []⟩ [("_law_script", v)]) ∧ ∀ base : Heap, K.In base → base.Ns mainGlobals mg → FnOk l.prog w K mg base CX0 4 fa fd ["_law_script"] (spLaw K) := by
  have e := hfa.symm.trans (PySem.W.mg_of X G a10)
  cases e
  have F1 := fun_mk (st := sIsSh) l1 c1 k1
  have b1 := F1.binds (ps := ["thing"]) fun _ _ _ _ _ _ us hl => match us, hl with | [_], _ => rfl
  have m1 := PySem.W.mg_of X G a1
  have F2 := fun_mk (st := sTaken) l2 c2 k2
  have b2 := F2.binds (ps := ["shuffle"]) fun _ _ _ _ _ _ us hl => match us, hl with | [_], _ => rfl
  have m2 := PySem.W.mg_of X G a2
  have F3 := fun_mk (st := sBasic) l3 c3 k3
  have b3 := F3.binds (ps := ["text"]) fun _ _ _ _ _ _ us hl => match us, hl with | [_], _ => rfl
  have m3 := PySem.W.mg_of X G a3
  have F4 := fun_mk (st := sTakes) l4 c4 k4
  have b4 := F4.binds (ps := ["text"]) fun _ _ _ _ _ _ us hl => match us, hl with | [_], _ => rfl
  have m4 := PySem.W.mg_of X G a4
  have F5 := fun_mk (st := sMixed) l5 c5 k5
  have b5 := F5.binds (ps := ["_law_number_here"]) fun _ _ _ _ _ _ us hl => match us, hl with | [_], _ => rfl
  have m5 := PySem.W.mg_of X G a5
  have F6 := fun_mk (st := sDeck) l6 c6 k6
  have b6 := F6.binds (ps := ["_law_script", "_law_most"]) fun _ _ _ _ _ _ us hl => match us, hl with | [_, _], _ => rfl
  have m6 := PySem.W.mg_of X G a6
  have F7 := fun_mk (st := sDraw) l7 c7 k7
  have b7 := F7.binds (ps := ["_law_deck_here", "_law_most"]) fun _ _ _ _ _ _ us hl => match us, hl with | [_, _], _ => rfl
  have m7 := PySem.W.mg_of X G a7
  have F8 := fun_mk (st := sShuffle) l8 c8 k8
  have b8 := F8.binds (ps := ["_law_deck_here", "_law_most"]) fun _ _ _ _ _ _ us hl => match us, hl with | [_, _], _ => rfl
  have m8 := PySem.W.mg_of X G a8
  have F9 := fun_mk (st := sWhole) l9 c9 k9
  have b9 := F9.binds (ps := ["_law_found"]) fun _ _ _ _ _ _ us hl => match us, hl with | [_], _ => rfl
  have m9 := PySem.W.mg_of X G a9
  have F10 := fun_mk (st := sLaw) l10 c10 k10
  have y_len := PySem.W.mg_none_of X G z_len
  have y_list := PySem.W.mg_none_of X G z_list
  have y_sum := PySem.W.mg_none_of X G z_sum
  have y_range := PySem.W.mg_none_of X G z_range
  have y_isinstance := PySem.W.mg_none_of X G z_isinstance
  have y_str := PySem.W.mg_none_of X G z_str
  have y_all := PySem.W.mg_none_of X G z_all
  have y_tuple := PySem.W.mg_none_of X G z_tuple
  have y_int := PySem.W.mg_none_of X G z_int
  have y_bool := PySem.W.mg_none_of X G z_bool
  have v_LETTERS := PySem.W.mg_of X G g_LETTERS
  have v_MOST_LEFT := PySem.W.mg_of X G g_MOST_LEFT
  have v_SORTS_TAKEN := PySem.W.mg_of X G g_SORTS_TAKEN
  refine ⟨PySem.W.fnOf "law" "law" (defArgs sLaw) (defBody sLaw) (defScope sLaw) .none kV10 dc10 pm10 an10 cd10 ct10, fun s v => .of_eq rfl, fun base _ _ => ?_⟩
  have TS : TxtS mg := ⟨y_isinstance, y_str, y_len, y_all, ⟨_, v_LETTERS⟩, ⟨_, v_MOST_LEFT⟩⟩
  have TB : Tab K w mg d es n := ⟨⟨xt, xk, xs⟩, xx, v_SORTS_TAKEN⟩
  have O1 : FnOk l.prog w K mg base CX0 1 f1 _ ["thing"] spIsSh := ok_isSh F1 TS
  have O2 := ok_taken F2 TS y_tuple O1 b1 k1 m1
  have O3 : FnOk l.prog w K mg base CX0 1 f3 _ ["text"] spBasic := ok_basic F3 TB
  have O4 := ok_takes F4 TB y_len O3 b3 k3 m3 O2 b2 k2 m2
  have O5 : FnOk l.prog w K mg base CX0 1 f5 _ ["_law_number_here"] spMixed := ok_mixed F5
  have O6 := ok_deck F6 O5 b5 k5 m5 y_list y_sum y_len
  have O7 := ok_draw F7 O5 b5 k5 m5
  have O8 := ok_shuffle F8 O7 b7 k7 m7 y_range
  have O9 : FnOk l.prog w K mg base CX0 1 f9 _ ["_law_found"] spWhole := ok_whole F9 y_isinstance y_int y_bool
  exact ok_law F10 O6 b6 k6 m6 O7 b7 k7 m7 O8 b8 k8 m8 O4 b4 k4 m4 O9 b9 k9 m9 y_len y_range
theorem walk {l : PySem.W.OpenLaw} {q : Program} {loose : List Str} {XP : (Str → Option Value) → Heap → Prop} {YP : World → Heap → Prop} {d : DefRec} {K : Params → PySem.W.Frag} (hn : l.most = some 63) (hdf : d.params.defaults = [])
    (hY : ∀ (w : World) (h : Heap), YP w h → (K w.params).In h)
    (F : ∀ (w : World) (mg : Str → Option Value) (fa : Addr) (h : Heap), (K w.params).In h → h.Ns mainGlobals mg → mg d.name = some (.ref fa) →
      ∃ fd : FuncData, (∀ (s : Shared) (u : Value), BindsTo s fd ⟨[u], []⟩ [("_law_script", u)]) ∧ ∀ base : Heap, (K w.params).In base → base.Ns mainGlobals mg → FnOk l.prog w (K w.params) mg base CX0 4 fa fd ["_law_script"] (spLaw (K w.params))) :
    PySem.W.WalkO q loose XP YP l.row.toRowW d [] (fun f vs => PySem.call f vs) :=
  L2.walk_of (n := 63) (k := 4) (x := "_law_script") (CX := fun _ => CX0) (sp := fun w => spLaw (K w.params)) hn (by decide) hdf ⟨rfl, by decide, by decide⟩ hY F (fun _ _ a ns hl _ hS => ⟨a, ns, rfl, hS, hl, fun _ => rfl⟩) fun _ _ _ _ _ z => z
end K08
open PySem PySem.W PyProof.Rows
set_option maxRecDepth 100000 in
set_option maxHeartbeats 0 in
theorem PySem.Challenge.cw_takeleave_k08_takes_of_words_holds : PySem.Challenge.rw_takeleave_k08_takes_of_words.Holds := by
  w_on; o_law; k_head; (case hw => w_witness2)
  k_fill
  refine K08.walk (l := PySem.Challenge.rw_takeleave_k08_takes_of_words) rfl rfl (fun w h Y => PySem.W.kIn_of Y) ?F
  case F =>
    intro w mg fa h KX G hmg
    refine' K08.all_mk (w := w) KX G hmg ?a1 ?l1 ?c1 ?k1 ?a2 ?l2 ?c2 ?k2 ?a3 ?l3 ?c3 ?k3 ?a4 ?l4 ?c4 ?k4 ?a5 ?l5 ?c5 ?k5 ?a6 ?l6 ?c6 ?k6 ?a7 ?l7 ?c7 ?k7 ?a8 ?l8 ?c8 ?k8 ?a9 ?l9 ?c9 ?k9 ?a10 ?l10 ?c10 ?k10 ?z_len ?z_list ?z_sum ?z_range ?z_isinstance ?z_str ?z_all ?z_tuple ?z_int ?z_bool ?g_LETTERS ?g_MOST_LEFT ?g_SORTS_TAKEN ?xt ?xk ?xs ?xx
    (case a1 => k_is)
    (case l1 => k_is)
    (case c1 => k_is)
    (case k1 => k_is)
    (case a2 => k_is)
    (case l2 => k_is)
    (case c2 => k_is)
    (case k2 => k_is)
    (case a3 => k_is)
    (case l3 => k_is)
    (case c3 => k_is)
    (case k3 => k_is)
    (case a4 => k_is)
    (case l4 => k_is)
    (case c4 => k_is)
    (case k4 => k_is)
    (case a5 => k_is)
    (case l5 => k_is)
    (case c5 => k_is)
    (case k5 => k_is)
    (case a6 => k_is)
    (case l6 => k_is)
    (case c6 => k_is)
    (case k6 => k_is)
    (case a7 => k_is)
    (case l7 => k_is)
    (case c7 => k_is)
    (case k7 => k_is)
    (case a8 => k_is)
    (case l8 => k_is)
    (case c8 => k_is)
    (case k8 => k_is)
    (case a9 => k_is)
    (case l9 => k_is)
    (case c9 => k_is)
    (case k9 => k_is)
    (case a10 => k_is)
    (case l10 => k_is)
    (case c10 => k_is)
    (case k10 => k_is)
    (case z_len => k_is)
    (case z_list => k_is)
    (case z_sum => k_is)
    (case z_range => k_is)
    (case z_isinstance => k_is)
    (case z_str => k_is)
    (case z_all => k_is)
    (case z_tuple => k_is)
    (case z_int => k_is)
    (case z_bool => k_is)
    (case g_LETTERS => k_is)
    (case g_MOST_LEFT => k_is)
    (case g_SORTS_TAKEN => k_is)
    (case xt => k_is)
    (case xk => first | k_is | (refine ⟨⟨_, _, rfl, rfl⟩, ⟨_, _, rfl, rfl⟩, ⟨_, _, rfl, rfl⟩, ⟨_, _, rfl, rfl⟩, ⟨_, _, rfl, rfl⟩, ⟨_, _, rfl, rfl⟩, ⟨_, _, rfl, rfl⟩, ⟨_, _, rfl, rfl⟩, ⟨_, _, rfl, rfl⟩, ⟨_, _, rfl, rfl⟩, ⟨_, _, rfl, rfl⟩, ⟨_, _, rfl, rfl⟩, ⟨_, _, rfl, rfl⟩, ⟨_, _, rfl, rfl⟩, ⟨_, _, rfl, rfl⟩, trivial⟩))
    (case xs => first | k_is | rfl | decide)
    (case xx => kernel_rfl)
