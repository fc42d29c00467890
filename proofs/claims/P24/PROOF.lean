import PyProof.Rows.All
import HandS.ExcInit
import HandS.ClsMeth
import HandS.Defaults
import HandS.ExcOwn
import PyProof.ExcBaseAll.ValueError
import HandS.DictTup
import HandS.Iter
import HandS.TupLe
import HandS.SortOrd
import KE.KDictSum
import HandS.ForMost
import HandS.Exc
import HandS.TryOnly
import HandS.IsInst
import HandS.Lambda
import HandS.Wide
import HandS.WideMore
import HandS.DeepEq
import HandS.HeadHook1
import HandS.EndTab
import HandS.ExcIs
import HandS.Deep
import HandS.TupAny
import HandS.TupSets
import HandS.TupMul
import HandS.Zip
import HandS.SortRule
import HandS.Small
import KE.KRevSl
import KE.DataMinMax
import KE.KDictPairs
import HandS.ExcValue
import HandS.ExcField
import HandS.RevRange
import HandS.Conv
import HandS.HeadHook2
import HandS.HeadEnd
import HandS.HeadHook4
import HandS.EndBits
import HandS.Head0
import HandS.Head1
import HandS.Head2
import HandS.HeadWalk
import PyProof.Rows.ReprShort
import PySem.Challenge.RW_rowsfilled_k24_multiples_that_come_to_on
set_option Elab.async false
section
set_option Elab.async false
set_option linter.all false
set_option maxRecDepth 100000
set_option maxHeartbeats 4000000
namespace Dp
open PySem PySem.Spec PyProof.Rows L2 ClX
/-! ### an error class whose own __init__ keeps one value -/
structure IniC (K : PySem.W.Frag) (mg : Str → Option Value) (x F n : Str) (C aF fI : Addr) : Prop where
  T : OexC K C
  no : PySem.W.findIn K (.ref C) n = some none
  iC : PySem.W.findIn K (.ref C) "__init__" = some (some (.ref fI))
  tI : PySem.W.typeIn K (.ref fI) = some (.type "function")
  gC : mg x = some (.ref C)
  gF : mg F = some (.ref aF)
  rF : CRead K aF (.type "type")
  vF : PySem.W.findCls K (.ref aF) (.type "type") "__init__" = some (.val (.builtin "ValueError.__init__"))
/-- the text of such an __init__ -/
def iniB (F n : Str) (sc : Scope) : List Stmt → Bool
  | [.Expr (.Call (.Attribute (.Name f _) m p2) [.Name s _, .Constant (.str _) _ _] [] p5) _, .Assign [.Attribute (.Name s2 _) a _] (.Name v _) _] =>
    (p2.endLine == p5.line) && (decide (f = F) && (decide (m = "__init__") && (decide (s = "self") && (decide (s2 = "self") && (decide (a = n) && (decide (v = n) && (decide (sc.names.lookup F = some .globalImplicit) && (decide (sc.names.lookup ("self" : Str) = some .local) && (decide (sc.names.lookup n = some .local) && (!(F == ("__debug__" : Str)) && (!(n == ("__debug__" : Str)) && !(n == ("__classdict__" : Str)))))))))))))
  | _ => false
structure IniF (K : PySem.W.Frag) (qual F n : Str) (fI : Addr) (params : Arguments) (body : List Stmt) (scope : Scope) (fd : FuncData) : Prop where
  fun_ : FunD K "__init__" qual params body scope [] [] fI fd
  sc : FnScope ["self", n] ["self", n] scope
  sh : iniB F n scope body = true
def IniOk (K : PySem.W.Frag) (mg : Str → Option Value) (x : Str) (C : Addr) (n : Str) : Prop := ∃ (F : Str) (aF fI : Addr) (qual : Str) (params : Arguments) (body : List Stmt) (scope : Scope) (fd : FuncData), IniC K mg x F n C aF fI ∧ IniF K qual F n fI params body scope fd ∧ Binds K fd [("self" : Str), n] []
def spIni (C : Addr) (n : Str) : Sp := fun vs H Q _ => ∃ a v, vs = [.ref a, v] ∧ H a = some (exo a C none) ∧ ∀ d, H d = none → d ≠ a → Q .non (upd (upd H d (exd d [(n, v)])) a (exo a C (some d)))
section
variable {X : Cx} {x F n : Str} {C aF fI : Addr}
/-- F.__init__(self, ..), F having none of its own -/
def tIniF (K : PySem.W.Frag) (ta : TA) : TE := fun σ H Q => ta σ H fun vs H1 => ∃ (a C : Addr) (ws : List V), vs = .ref a :: ws ∧ ws.length ≤ 1000 ∧ OexC K C ∧ H1 a = some (exo a C none) ∧ Q .non H1
theorem mc_go {prog : Program} {w : World} {A : Around} {E : Value → Shared → Prop} {s : Shared} {env : Env} {o : Expr} {m : Str} {p2 pos : Pos} {es : List Expr} {Q : Value → Shared → Prop} (hb : attributeBase o m env (eval o env) = eval o env) (hf : methodCallForm (es.length + ([] : List Keyword).length) (backTo pos (starEach es env)) (backToKw pos (keywordEach [] env)) = true) (hl : (p2.endLine == pos.line) = true)
    (h : wpAny (model prog w) A (eval o env) (fun v t => wpAny (model prog w) A (getMethod v m (do return (← importBound o env).getD true)) (fun f t' => wpAny (model prog w) A (callWith pos f.1 f.2 (backTo pos (starEach es env)) (backToKw pos (keywordEach [] env))) Q E t') E t) E s) :
    wpAny (model prog w) A (eval (.Call (.Attribute o m p2) es [] pos) env) Q E s := by
  rw [arm_eval_Call, hb]
  refine wpAny_bind (wpAny_mono h (fun v t hv => wpAny_bind (wpAny_standAt ?_)) fun _ _ e => e)
  unfold methodCall
  rw [hf]
  refine wpAny_bind (wpAny_holding (wpAny_mono hv (fun f t' hf' => ?_) fun _ _ e => e))
  have hp : methodCallPos true o env p2 pos = pure pos := by unfold methodCallPos; simp [hl]
  exact wpAny_bind (wpAny_of_eq hp hf')
theorem pe_iniF {e : Expr} {es : List Expr} {ta : TA} {p1 p2 pos : Pos} (hg : Gl X F) (hm : X.mg F = some (.ref aF)) (rF : CRead X.K aF (.type "type")) (vF : PySem.W.findCls X.K (.ref aF) (.type "type") "__init__" = some (.val (.builtin "ValueError.__init__"))) (ha : PA X (e :: es) ta) (hdb : (F == ("__debug__" : Str)) = false) (hl : (p2.endLine == pos.line) = true)
    (hf : methodCallForm ((e :: es).length + ([] : List Keyword).length) (backTo pos (starEach (e :: es) X.env)) (backToKw pos (keywordEach [] X.env)) = true := by rfl)
    (he : starEach (e :: es) X.env = (false, eval e X.env) :: starEach es X.env := by rfl) (hpl : (backTo pos (starEach es X.env)).any (·.1) = false := by rfl) :
    PE X (.Call (.Attribute (.Name F p1) "__init__" p2) (e :: es) [] pos) (tIniF X.K ta) := by
  refine ⟨fun pins s σ H Q I h => mc_go rfl hf hl (ld_glob I hg hm ?_ hdb)⟩
  refine PySem.W.method_cls I.kIn rF.ga (PySem.W.cls_value I.kIn rF.rd vF (by decide +kernel) ?_)
  show wpAny _ _ (callWith pos (Value.builtin "ValueError.__init__") [] (backTo pos (starEach (e :: es) X.env)) []) _ _ _
  refine PyProof.Rows.callWith_method1 (thn (ha.run pos pins _ σ H _ (I.tok _) h) fun us s1 ⟨vs, H1, I1, r1, a, D, ws, ev, hl, T, ea, q⟩ => ?_) he hpl
  subst ev
  cases r1 with
  | @cons _ w0 _ wr rw1 rw2 =>
    obtain rfl : w0 = Value.ref a := rw1
    refine oinit_ok T I1 ea ?_ fun s2 J => ⟨.non, H1, J, rfl, q⟩
    have e1 := Paired.length rw2
    rw [sizeLine_eq]
    omega
theorem ini_fn {P : Program} {w : World} {K : PySem.W.Frag} {mg : Str → Option Value} {base : Heap} {qual : Str} {params : Arguments} {body : List Stmt} {scope : Scope} {fd : FuncData} (c : IniC K mg x F n C aF fI) (f : IniF K qual F n fI params body scope fd) :
    FnOk P w K mg base (L2.CX P w) 1 fI fd ["self", n] (spIni C n) := by
  refine f.fun_.ok (k := 0) f.sc (fun vs H Q E ⟨a, v, e, _⟩ => by rw [e]; rfl) fun cdv A outer s H vs Q E hr ⟨a, v, ev, ha, q⟩ => ?_
  have hb := f.sh
  unfold iniB at hb
  split at hb
  · rename_i f1 p1 m p2 s1 p3 t j p4 p5 p6 s2 p7 a1 p8 v1 p9 p10
    simp only [Bool.and_eq_true, decide_eq_true_eq, Bool.not_eq_true'] at hb
    obtain ⟨g0, rfl, rfl, rfl, rfl, rfl, rfl, g1, g2, g3, g4, g5, g6⟩ := hb
    have hN : (cxOf (L2.CX P w) P w K mg base [("self" : Str), v1] qual scope fI cdv A outer s H E).N = [("self" : Str), v1] := rfl
    have self_ : ∀ {p : Pos}, PE (cxOf (L2.CX P w) P w K mg base [("self" : Str), v1] qual scope fI cdv A outer s H E) (.Name "self" p) (tVar 0) := pe_var rfl (.inl g2)
    have val_ : ∀ {p : Pos}, PE (cxOf (L2.CX P w) P w K mg base [("self" : Str), v1] qual scope fI cdv A outer s H E) (.Name v1 p) (tVar 1) := pe_var rfl (.inl g3) g5 g6
    refine ⟨_, pss_cons (ps_expr (pe_iniF (X := cxOf (L2.CX P w) P w K mg base [("self" : Str), v1] qual scope fI cdv A outer s H E) g1 c.gF c.rF c.vF (pa_cons self_ (pa_cons pe_str pa_nil)) g4 g0)) (pss_cons (ps_ost self_ val_) pss_nil), ?_⟩
    subst ev
    refine ⟨.ref a, rfl, ⟨a, C, _, rfl, by simp, c.T, ha, ?_⟩⟩
    exact ⟨v, rfl, .ref a, rfl, a, C, rfl, c.T, c.no, .inl ⟨ha, q⟩⟩
  · cases hb
end
end Dp
end
section
set_option Elab.async false
set_option linter.all false
set_option maxRecDepth 100000
set_option maxHeartbeats 4000000
namespace Dp
open PySem PySem.Spec PyProof.Rows L2
/-! ### the keys of a dict, collected and sorted; its pairs, sorted -/
section
open PySem.W PySem.Calls
variable {prog : Program} {w : World} {A : Around} {E : Value → Shared → Prop} {s : Shared} {d : Addr} {es : Array DictEntry} {ep : Nat}
theorem raw_but {h h' : Heap} {it : Addr} (x : DT.Raw h d es ep) (b : Heap.ExtBut it h h') (ne : d ≠ it) : DT.Raw h' d es ep := x.at' fun o e => b d o ne e
theorem keys_walk (hh : A.handled = none) (it : Addr) (ne : d ≠ it) : Walks prog w A it [it, d] [it] es.size (fun i v => ∃ en, es[i]? = some en ∧ v = en.key) (fun i h => h.IsKeyIter it d i es.size ep ∧ DT.Raw h d es ep) where
  sub := fun b hb => by simp at hb; simp [hb]
  frame := fun _ _ _ st hk => ⟨st.1.at fun o e => hk it (by simp) o e, st.2.at' fun o e => hk d (by simp) o e⟩
  item := fun i s Q E hi st hQ => by
    obtain ⟨o, ho, hx, hdat⟩ := id st.2
    have hi2 : es[i]? = some es[i] := Array.getElem?_eq_getElem hi
    exact L2.next_key_item st.1 ho hdat rfl hi2 fun h' st' sb => hQ _ h' s.toks ⟨_, hi2, rfl⟩ ⟨st', raw_but st.2 sb.extBut ne⟩ fun b o hb e => sb.extBut b o (fun h => hb (by simp [h])) e
  done := fun s Q E st hQ => by
    obtain ⟨o, ho, hx, hdat⟩ := id st.2
    exact L2.next_key_end hh st.1 ho hdat rfl (Nat.le_refl _) fun h' eb => hQ h' s.toks fun b o hb e => eb b o (fun h => hb (by simp [h])) e
  self := fun _ _ _ _ st hQ => wpAny_pyIter_keyiter st.1 hQ
theorem keys_src (lo : (d == sysModules) = false) : KdlSrc prog w "dict" d d es.size (fun i v => ∃ en, es[i]? = some en ∧ v = en.key) (fun h => DT.Raw h d es ep) where
  type := fun _ x => x.typeIs
  there := fun _ x => ⟨x.lt, x.lt⟩
  keep := fun _ _ x hk => x.at' fun o e => hk d (.inl rfl) o e
  notList := by decide
  notTuple := by decide
  hint := fun _ _ s _ x hq => kdl_hint_dict (x.typeIs (s := s)) hq
  iter := fun A s hh x => by
    obtain ⟨o, ho, hx, hdat⟩ := id x
    exact ⟨_, _, (fun _ _ hq => L2.iter_keys lo ho hx hdat hq), keys_walk hh _ (Nat.ne_of_lt x.lt), ⟨⟨_, Heap.get?_push_size _ rfl, rfl, rfl⟩, x.push _⟩⟩
/-- sorted(d), the keys pairs of ints -/
theorem sorted_keysT {k : Value → Int × Int} {Q : Value → Shared → Prop} (hh : A.handled = none) (lo : (d == sysModules) = false) (hm : DT.Raw s.heap d es ep) (hn : es.size ≤ sizeLine) (hp : ∀ v ∈ es.toList.map (·.key), Srt.IsPair s.heap v (k v).1 (k v).2)
    (h : ∀ (h' : Heap) (l tk : Nat) (out : List Value), SrtO.Srtd (fun v u => SrtO.lexB (k v) (k u)) out → out.Perm (es.toList.map (·.key)) → (∀ b o, s.heap.get? b = some o → h'.get? b = some o) → s.heap.get? l = none → (∃ n, h'.get? l = some (seqObj "list" out.toArray n)) → Q (.ref l) { s with heap := h', toks := tk }) :
    wpAny (model prog w) A (call (.builtin "sorted") [.ref d]) Q E s := by
  refine Calls.call_function_entry kind_sorted plain_sorted entry_sorted (args_sorted1 _) ?_
  unfold Builtin.«sorted»
  refine wpAny_bind (m := checkCount "sorted" 1 1 _) (wpAny_pure ?_)
  refine wpAny_bind (kdu_collect (A := A.in1) (keys_src lo) hh hm hn fun h' tk acc hk hacc => ?_)
  have hl : acc.toList.length = es.size := by rw [Array.length_toList]; exact hacc.1
  have hv : acc.toList = es.toList.map (·.key) := by
    refine List.ext_getElem? fun j => ?_
    rw [List.getElem?_map]
    cases z : es.toList[j]? with
    | none =>
      rw [List.getElem?_eq_none_iff] at z
      exact List.getElem?_eq_none_iff.mpr (by rw [hl]; simpa using z)
    | some en =>
      have hj : j < acc.toList.length := by
        have := (List.getElem?_eq_some_iff.mp z).1
        rw [hl]; simpa using this
      obtain ⟨en', e1, e2⟩ := hacc.2 j _ (by rw [← Array.getElem?_toList, List.getElem?_eq_getElem hj])
      rw [← Array.getElem?_toList] at e1
      rw [z] at e1; cases e1
      rw [List.getElem?_eq_getElem hj, e2]; rfl
  refine wpAny_bind (wpAny_newList ?_ (by rw [hl]; exact hn))
  have hoL : (h'.push (seqObj "list" acc.toList.toArray 0)).get? h'.objs.size = some (seqObj "list" acc.toList.toArray 0) := Heap.get?_push_size _ rfl
  have keep : ∀ b o, s.heap.get? b = some o → b ≠ h'.objs.size ∧ (h'.push (seqObj "list" acc.toList.toArray 0)).get? b = some o := fun b o e => ⟨Nat.ne_of_lt (Heap.lt_size (hk b o e)), Heap.get?_push_of_some _ (hk b o e)⟩
  have hz : acc.toList.length ≤ sizeLine := by rw [hl]; exact hn
  refine wpAny_bind (wpAny_holding (wpAny_call_entry slot_list_sort ⟨_, hoL, rfl⟩ entry_list_sort (SrtO.list_sort_ord (SrtO.swo_lex k) hoL hz (fun h2 => ?_) fun out hs hb => ⟨_, rfl, ?_⟩) (args_list_sort _)))
  · refine SrtO.pairs_sortableO (by omega) (fun v hv' => ?_) fun o e => ?_
    · exact (hp v (by rw [← hv]; exact hv')).keeps fun b o e _ => (keep b o e).2
    · rw [hoL] at e; cases e
      intro c
      exact absurd (Value.type.inj c) (by decide)
  · refine wpAny_pure ⟨_, rfl, h _ _ _ out hs (by rw [← hv]; exact hb.perm) (fun b o e => ?_) ?_ ?_⟩
    · exact (PyProof.Rows.sortedHeap_old (keep b o e).1 (Heap.lt_size (keep b o e).2)).trans (keep b o e).2
    · cases z : s.heap.get? h'.objs.size with
      | none => rfl
      | some o => exact absurd rfl (keep _ _ z).1
    · exact PyProof.Rows.sortedHeap_at hoL
end
end Dp
namespace Dp
open PySem PySem.Spec PyProof.Rows L2
def lex3 (p q : (Int × Int) × Int) : Bool := if p.1 = q.1 then decide (p.2 < q.2) else SrtO.lexB p.1 q.1
theorem lex3_iff {p q : (Int × Int) × Int} : lex3 p q = true ↔ p.1.1 < q.1.1 ∨ (p.1.1 = q.1.1 ∧ (p.1.2 < q.1.2 ∨ (p.1.2 = q.1.2 ∧ p.2 < q.2))) := by
  obtain ⟨⟨a, b⟩, c⟩ := p
  obtain ⟨⟨a', b'⟩, c'⟩ := q
  unfold lex3
  dsimp only
  by_cases e : (a, b) = (a', b')
  · rw [if_pos e, decide_eq_true_eq]
    simp only [Prod.mk.injEq] at e
    omega
  · rw [if_neg e, SrtO.lexB_iff]
    simp only [Prod.mk.injEq] at e
    dsimp only
    omega
theorem lex3_no {p q : (Int × Int) × Int} : lex3 p q = false ↔ ¬ (p.1.1 < q.1.1 ∨ (p.1.1 = q.1.1 ∧ (p.1.2 < q.1.2 ∨ (p.1.2 = q.1.2 ∧ p.2 < q.2)))) := by
  rw [← lex3_iff]
  cases lex3 p q <;> simp
theorem swo_lex3 {α : Type} (k : α → (Int × Int) × Int) : SrtO.Swo fun v u => lex3 (k v) (k u) := by
  refine ⟨fun x y h => ?_, fun x y z h1 h2 => ?_⟩
  · have a := lex3_iff.mp h
    exact lex3_no.mpr (by omega)
  · have a := lex3_no.mp h1
    have b := lex3_no.mp h2
    exact lex3_no.mpr (by omega)
/-- v is a pair of a pair of ints and an int -/
def IsItem (h : Heap) (v : Value) (x : (Int × Int) × Int) : Prop := ∃ (a q : Addr) (t : Tok), v = .ref a ∧ (∃ o n, h.get? a = some o ∧ o.cls = .type "tuple" ∧ o.data = .seq #[.ref q, .int x.2 t] n) ∧ Srt.IsPair h (.ref q) x.1.1 x.1.2
section
variable {prog : Program} {w : World} {A : Around} {E : Value → Shared → Prop} {s : Shared}
theorem pair_tk {h : Heap} {q : Addr} {i j : Int} (x : Srt.IsPair h (.ref q) i j) : ∃ o t u n, h.get? q = some o ∧ o.cls = .type "tuple" ∧ o.data = .seq #[.int i t, .int j u] n := by
  obtain ⟨a, o, t, u, n, e, r⟩ := x
  cases e
  exact ⟨o, t, u, n, r⟩
theorem item_cmp {vs : List Value} {k : Value → (Int × Int) × Int} (hu : A.units + 8 < cLine) (hp : ∀ v ∈ vs, IsItem s.heap v (k v)) : SrtO.Cmp prog w A s (tuples' false) (fun p => p.1 ∈ vs) (SrtO.lt2 fun v u => lex3 (k v) (k u)) := by
  intro p q hm hm'
  have h1 := hp _ hm
  have h2 := hp _ hm'
  show wpAny (model prog w) A (keyLt' (tuples' false) p.1 q.1) (fun r s' => s' = s ∧ r = lex3 (k p.1) (k q.1)) (fun _ _ => False) s
  generalize k p.1 = x at h1 ⊢
  generalize k q.1 = y at h2 ⊢
  obtain ⟨⟨i, j⟩, c⟩ := x
  obtain ⟨⟨i', j'⟩, c'⟩ := y
  obtain ⟨a, ka, t, e1, ⟨o, n, ho, hc, hd⟩, g1⟩ := h1
  obtain ⟨a', kb, t', e2, ⟨o', n', ho', hc', hd'⟩, g2⟩ := h2
  obtain ⟨p1, u1, u2, n1, q1, q2, q3⟩ := pair_tk g1
  obtain ⟨p2, v1, v2, n2, r1, r2, r3⟩ := pair_tk g2
  rw [e1, e2]
  refine PySem.W.kat_lt ho hd ho' hd' ?_
  show PySem.W.KatLex prog w A false (decide (2 < 2)) _ [(.ref ka, .ref kb), (.int c t, .int c' t')] 0 s
  have k1 : IsTupleKey (L2.mixKind prog w) s.heap [Sum.inl i, Sum.inl j] ka := ⟨p1, _, n1, q1, q2, q3, .cons (L2.mixKind_int prog w i u1) (.cons (L2.mixKind_int prog w j u2) .nil)⟩
  have k2 : IsTupleKey (L2.mixKind prog w) s.heap [Sum.inl i', Sum.inl j'] kb := ⟨p2, _, n2, r1, r2, r3, .cons (L2.mixKind_int prog w i' v1) (.cons (L2.mixKind_int prog w j' v2) .nil)⟩
  refine PySem.W.kat_cons (wpAny_eqBool_tuple (by omega) k1 k2 ?_)
  refine PySem.W.kat_go (fun e0 => ?_) (fun e0 => ?_)
  · have ek : i = i' ∧ j = j' := by simpa using of_decide_eq_true e0
    obtain ⟨rfl, rfl⟩ := ek
    refine PySem.W.kat_yes (PySem.W.kat_cons (SeqAt.EqAt.int_int c t c' t' prog w _ _ ?_))
    have e3 : lex3 ((i, j), c) ((i, j), c') = decide (c < c') := by unfold lex3; rw [if_pos rfl]
    refine PySem.W.kat_go (fun e4 => ?_) (fun e4 => ?_)
    · have ec : c = c' := by simpa using e4
      refine PySem.W.kat_yes (PySem.W.kat_nil ⟨rfl, ?_⟩)
      rw [e3, ec]
      exact (decide_eq_false (Int.lt_irrefl _)).symm
    · exact PySem.W.kat_no (PySem.W.kat_one _ _ (PyProof.Rows.lt_int (show s = s ∧ _ from ⟨rfl, e3.symm⟩)))
  · refine PySem.W.kat_no ?_
    show wpAny _ _ (oneLt' false _ _) _ _ _
    have ne : ¬ (i = i' ∧ j = j') := fun z => by
      obtain ⟨rfl, rfl⟩ := z
      exact of_decide_eq_false e0 rfl
    have R := Ob.RcOp.tuples_lt (A := A) (s := s) (l := ka) (b := kb) (items := #[.int i u1, .int j u2]) (items2 := #[.int i' v1, .int j' v2]) (e := fun z => decide ([i, j].getD z 0 = [i', j'].getD z 0)) (r := fun z => decide ([i, j].getD z 0 < [i', j'].getD z 0)) ⟨p1, q1, q2, n1, q3⟩ ⟨p2, r1, r2, n2, r3⟩ (by omega) (fun z z1 z2 => by
        match z, z1 with
        | 0, _ => exact (show SeqAt.EqAt A.in1 s (.int i u1) (.int i' v1) (decide (i = i')) from by rw [← Bool.beq_eq_decide_eq]; exact SeqAt.EqAt.int_int _ _ _ _)
        | 1, _ => exact (show SeqAt.EqAt A.in1 s (.int j u2) (.int j' v2) (decide (j = j')) from by rw [← Bool.beq_eq_decide_eq]; exact SeqAt.EqAt.int_int _ _ _ _)) (fun z z1 z2 _ => by
        match z, z1 with
        | 0, _ => exact (show Ob.RcOp .Lt A.in1 s (.int i u1) (.int i' v1) (decide (i < i')) from Ob.RcOp.lt_int _ _ _ _)
        | 1, _ => exact (show Ob.RcOp .Lt A.in1 s (.int j u2) (.int j' v2) (decide (j < j')) from Ob.RcOp.lt_int _ _ _ _))
    refine PySem.W.kat_one _ _ (R prog w _ _ ⟨rfl, ?_⟩)
    have e3 : lex3 ((i, j), c) ((i', j'), c') = SrtO.lexB (i, j) (i', j') := by unfold lex3; rw [if_neg (by simpa using ne)]
    rw [e3]
    unfold SrtO.lexB
    show (if decide (i = i') = true then (if decide (j = j') = true then false else decide (j < j')) else decide (i < i')) = if i = i' then decide (j < j') else decide (i < i')
    by_cases h1 : i = i'
    · have h2 : j ≠ j' := fun z => ne ⟨h1, z⟩
      simp [h1, h2]
    · simp [h1]
end
end Dp
namespace Dp
open PySem PySem.Spec PyProof.Rows L2
section
variable {prog : Program} {w : World} {A : Around} {E : Value → Shared → Prop} {s : Shared}
theorem IsItem.keeps {h h' : Heap} {v : Value} {x : (Int × Int) × Int} (i : IsItem h v x) (k : ∀ b o, h.get? b = some o → o.cls = .type "tuple" → h'.get? b = some o) : IsItem h' v x := by
  obtain ⟨a, q, t, e, ⟨o, n, ho, hc, hd⟩, ⟨a2, o2, t2, u2, n2, e2, g1, g2, g3⟩⟩ := i
  exact ⟨a, q, t, e, ⟨o, n, k _ _ ho hc, hc, hd⟩, a2, o2, t2, u2, n2, e2, k _ _ g1 g2, g2, g3⟩
theorem IsItem.uniq {h : Heap} {v : Value} {x y : (Int × Int) × Int} (i : IsItem h v x) (i' : IsItem h v y) : x = y := by
  obtain ⟨a, q, t, e, ⟨o, n, ho, hc, hd⟩, ⟨a2, o2, t2, u2, n2, e2, g1, g2, g3⟩⟩ := i
  obtain ⟨a', q', t', e', ⟨o', n', ho', hc', hd'⟩, ⟨a2', o2', t2', u2', n2', e2', g1', g2', g3'⟩⟩ := i'
  rw [e] at e'; cases e'
  rw [ho] at ho'; cases ho'
  rw [hd] at hd'
  obtain ⟨⟨i1, i2⟩, i3⟩ := x
  obtain ⟨⟨j1, j2⟩, j3⟩ := y
  simp only [Data.seq.injEq, Array.mk.injEq, List.cons.injEq, Value.ref.injEq, Value.int.injEq, and_true] at hd'
  obtain ⟨⟨rfl, rfl, _⟩, _⟩ := hd'
  cases e2; cases e2'
  rw [g1] at g1'; cases g1'
  rw [g3] at g3'
  simp only [Data.seq.injEq, Array.mk.injEq, List.cons.injEq, Value.int.injEq, and_true] at g3'
  obtain ⟨⟨⟨rfl, _⟩, rfl, _⟩, _⟩ := g3'
  rfl
theorem items_firsts {h : Heap} : ∀ vs : List Value, (∀ v ∈ vs, ∃ x, IsItem h v x) → ∃ fs : List Value, PySem.W.KatTups h vs fs ∧ fs.length = vs.length ∧ ∀ f ∈ fs, ∃ (q : Addr) (o : Obj), f = Value.ref q ∧ h.get? q = some o ∧ o.cls = .type "tuple"
  | [], _ => ⟨[], PySem.W.KatTups.nil, rfl, fun f hf => by simp at hf⟩
  | v :: vs, x => by
    obtain ⟨fs, k, hl, hi⟩ := items_firsts vs fun u hu => x u (List.mem_cons_of_mem _ hu)
    obtain ⟨y, a, q, t, rfl, ⟨o, n, ho, hc, hd⟩, g⟩ := x v List.mem_cons_self
    obtain ⟨o2, _, _, _, g1, g2, _⟩ := pair_tk g
    refine ⟨.ref q :: fs, PySem.W.KatTups.cons ho hc hd rfl k, by rw [List.length_cons, List.length_cons, hl], fun f hf => ?_⟩
    rcases List.mem_cons.mp hf with rfl | hf
    · exact ⟨q, o2, rfl, g1, g2⟩
    · exact hi f hf
theorem items_sortable {a : Addr} {vs : List Value} {k : Value → (Int × Int) × Int} (hu : A.units + 8 < cLine) (h0 : 0 < vs.length) (hp : ∀ v ∈ vs, IsItem s.heap v (k v)) (ha : ∀ o, s.heap.get? a = some o → o.cls ≠ .type "tuple") : SrtO.SortableO prog w A s a vs fun v u => lex3 (k v) (k u) := by
  intro h' keep
  have hp' : ∀ v ∈ vs, IsItem h' v (k v) := fun v hm => (hp v hm).keeps fun b o e c => keep b o (fun z => by subst z; exact ha o e c) e
  obtain ⟨fs, h1, h2, h3⟩ := items_firsts vs fun v hm => ⟨_, hp' v hm⟩
  refine ⟨tuples' false, fun Q E hq => ?_, item_cmp (s := { s with heap := h' }) hu hp'⟩
  refine PySem.W.kat_kind (T := .type "tuple") h1 (by omega) (fun f hm => ?_) (by rfl) ?_
  · obtain ⟨q, o, rfl, g1, g2⟩ := h3 f hm
    have z : PySem.W.Looks (model prog w) h' (typeOf (.ref q)) o.cls := (PySem.W.Looks.ld g1).andThen .now
    rw [g2] at z
    exact z
  · have e : (Value.type "tuple" != Value.type "tuple") = false := by first | rfl | decide | simp
    rw [e]
    exact hq
/-- sorted(d.items()), the keys pairs of ints, the values ints -/
theorem sorted_itemsT {r d : Addr} {es : Array DictEntry} {ep : Nat} {Q : Value → Shared → Prop} (hh : A.handled = none) (hu : A.units + 16 < cLine) (hv : s.heap.IsItemsView r d) (hm : DT.Raw s.heap d es ep) (hn : es.size ≤ sizeLine)
    (hp : ∀ en ∈ es.toList, ∃ (q : Addr) (i j c : Int) (t : Tok), en.key = .ref q ∧ Srt.IsPair s.heap (.ref q) i j ∧ en.val = .int c t)
    (h : ∀ (h' : Heap) (l tk : Nat) (as : List Addr) (out : List Value), as.length = es.size → as.Nodup → (∀ a ∈ as, s.heap.objs.size ≤ a ∧ a ≠ l) → (∀ (j : Nat) (a : Addr), as[j]? = some a → ∃ en, es[j]? = some en ∧ h'.get? a = some { cls := .type "tuple", data := .seq #[en.key, en.val] }) →
      (∀ b o, s.heap.get? b = some o → h'.get? b = some o) → s.heap.get? l = none → out.Perm (as.map Value.ref) → (out.Pairwise fun v u => ∀ x y, IsItem h' v x → IsItem h' u y → lex3 y x = false) → (∃ n, h'.get? l = some (seqObj "list" out.toArray n)) → Q (.ref l) { s with heap := h', toks := tk }) :
    wpAny (model prog w) A (call (.builtin "sorted") [.ref r]) Q E s := by
  refine DT.sortedI (es := es) (ep := ep) hh hv hm hn fun h' tk as hk hlt hl hG => ?_
  have hoL : (h'.push { cls := .type "list", data := .seq (as.map Value.ref).toArray }).get? h'.objs.size = some (seqObj "list" (as.map Value.ref).toArray 0) := Heap.get?_push_size _ rfl
  have kb : ∀ b o, h'.get? b = some o → b ≠ h'.objs.size ∧ (h'.push { cls := .type "list", data := .seq (as.map Value.ref).toArray }).get? b = some o := fun b o e => ⟨Nat.ne_of_lt (Heap.lt_size e), Heap.get?_push_of_some _ e⟩
  have item : ∀ v ∈ as.map Value.ref, ∃ x, IsItem h' v x := fun v hv' => by
    obtain ⟨a, ha, rfl⟩ := List.mem_map.mp hv'
    obtain ⟨j, hj⟩ := List.mem_iff_getElem?.mp ha
    obtain ⟨en, he, hg⟩ := hG.pairs j a hj
    obtain ⟨q, i, j', c, t, e1, e2, e3⟩ := hp en (List.mem_of_getElem? (by rw [Array.getElem?_toList]; exact he))
    rw [e1, e3] at hg
    obtain ⟨a2, o2, t2, u2, n2, f1, f2, f3, f4⟩ := e2
    exact ⟨((i, j'), c), a, q, t, rfl, ⟨_, 0, hg, rfl, rfl⟩, a2, o2, t2, u2, n2, f1, hk _ _ f2, f3, f4⟩
  let k : Value → (Int × Int) × Int := fun v => open Classical in if z : ∃ x, IsItem h' v x then z.choose else ((0, 0), 0)
  have kx : ∀ v x, IsItem h' v x → k v = x := fun v x hx => by
    have z : ∃ x, IsItem h' v x := ⟨x, hx⟩
    have e : k v = z.choose := dif_pos z
    rw [e]
    exact z.choose_spec.uniq hx
  have hz : (as.map Value.ref).length ≤ sizeLine := by rw [List.length_map, hl]; exact hn
  refine wpAny_call_entry PyProof.Rows.slot_list_sort ⟨_, hoL, rfl⟩ PyProof.Rows.entry_list_sort (SrtO.list_sort_ord (swo_lex3 k) hoL hz (fun h2 => ?_) fun out hs hb => ⟨_, rfl, ?_⟩) (PyProof.Rows.args_list_sort _)
  · refine items_sortable (by show A.units + 1 + 1 + 8 < cLine; omega) (by omega) (fun v hv' => ?_) fun o e => ?_
    · obtain ⟨x, hx⟩ := item v hv'
      rw [kx v x hx]
      exact hx.keeps fun b o e _ => (kb b o e).2
    · rw [hoL] at e; cases e
      intro c
      exact absurd (Value.type.inj c) (by decide)
  · have old : ∀ b o, h'.get? b = some o → (sortedHeap (h'.push { cls := .type "list", data := .seq (as.map Value.ref).toArray }) h'.objs.size (as.map Value.ref) out.toArray).get? b = some o := fun b o e => (PyProof.Rows.sortedHeap_old (kb b o e).1 (Heap.lt_size (kb b o e).2)).trans (kb b o e).2
    refine h _ _ _ as out hl (List.Pairwise.imp (fun h => Nat.ne_of_lt h) hG.rise) (fun a ha => ⟨Nat.le_of_lt (hG.above a ha), Nat.ne_of_lt (hG.there ha)⟩) (fun j a hj => ?_) (fun b o e => old b o (hk b o e)) ?_ hb.perm ?_ (PyProof.Rows.sortedHeap_at hoL)
    · obtain ⟨en, he, hg⟩ := hG.pairs j a hj
      exact ⟨en, he, old _ _ hg⟩
    · cases z : s.heap.get? h'.objs.size with
      | none => rfl
      | some o => exact absurd rfl (kb _ _ (hk _ _ z)).1
    · refine List.Pairwise.imp_of_mem (fun {v u} hv1 hu1 hvu x y hx hy => ?_) hs
      obtain ⟨x', hx'⟩ := item v (hb.perm.mem_iff.mp hv1)
      obtain ⟨y', hy'⟩ := item u (hb.perm.mem_iff.mp hu1)
      have ex := (hx'.keeps fun b o e _ => old b o e).uniq hx
      have ey := (hy'.keeps fun b o e _ => old b o e).uniq hy
      subst ex ey
      rw [← kx v _ hx', ← kx u _ hy']
      exact hvu
end
end Dp
end
section
set_option Elab.async false
set_option linter.all false
set_option maxRecDepth 100000
set_option maxHeartbeats 4000000
namespace Dp
open PySem PySem.Spec PyProof.Rows L2

/-! ### data -/
/-- lv, dv, dw: a list, a dict (keys as they stand), a dict with tuple keys that nobody writes any more; exv: an error that is held; kt: a tuple that is a key -/
inductive D where
  | non | bl (b : Bool) | int (i : Int) | str (x : Str) | tup (xs : List D) | ref (n : Nat) | con (x : Str) | ty (n : String) | adr (a : Addr)
  | lv (xs : List D) | dv (ks : List Key) (xs : List D) | dw (ks : List (List Key)) (xs : List D) | exv (c : Str) (an : Option Str) (xs : List D) | kt (ks : List Key)
structure Exn where
  cls : Str
  attr : Option (Str × D)
def Exn.d (c : Exn) : D := match c.attr with
  | none => .exv c.cls none []
  | some (n, d) => .exv c.cls (some n) [d]
inductive M where
  | lst (xs : List D) | fro (xs : List D) | dk (kvs : List (Key × D)) | dt (kvs : List (List Key × D)) | ft (kvs : List (List Key × D)) | tab (x q : Str) | code (c : Addr) (q : Str) (s : List (Option D)) (t : L2.St) | junk
abbrev Sig := List (Option D)
abbrev Sto := List M
inductive Res (α : Type) where
  | ok (a : α) (S : Sto) | exc (c : Exn) (S : Sto) | no
def Res.bind {α β : Type} (r : Res α) (k : α → Sto → Res β) : Res β := match r with
  | .ok a S => k a S
  | .exc c S => .exc c S
  | .no => .no
def dKey : Key → D
  | .inl i => .int i
  | .inr x => .str x

/-- an exception object that is held -/
def HeldO (cls : Value) (dd : Option Addr) (a : Addr) : HO := .ext fun h => ∃ (oe : Obj) (vs : Array Value), h.get? a = some oe ∧ Zc cls dd oe ∧ oe.data = .fields vs
section
variable (K : PySem.W.Frag) (ρ : List Addr) (H : Hp)
mutual
def Is : D → V → Prop
  | .non, v => v = .non
  | .bl b, v => v = .bl b
  | .int i, v => v = .int i
  | .str x, v => v = .str x
  | .tup ds, v => ∃ a xs, v = .ref a ∧ SqT K H a xs ∧ IsAll ds xs
  | .ref n, v => ∃ a, ρ[n]? = some a ∧ v = .ref a
  | .con x, v => v = .ref (He.ga K x)
  | .ty n, v => v = .ty n
  | .adr a, v => v = .ref a
  | .lv ds, v => ∃ a xs, v = .ref a ∧ H a = some (.lst xs) ∧ a ∉ ρ ∧ IsAll ds xs
  | .dv ks ds, v => ∃ a kvs, v = .ref a ∧ H a = some (.dK kvs) ∧ a ∉ ρ ∧ kvs.map (·.1) = ks ∧ IsAll ds (kvs.map (·.2))
  | .dw ks ds, v => ∃ a od kvs, v = .ref a ∧ H a = some (.frz od (.dT kvs)) ∧ kvs.map (·.1) = ks ∧ IsAll ds (kvs.map (·.2))
  | .exv c an ds, v => ∃ a dd, v = .ref a ∧ H a = some (HeldO (.ref (He.ga K c)) dd a) ∧ ((an = none ∧ dd = none ∧ ds = []) ∨ ∃ n b w, an = some n ∧ dd = some b ∧ H b = some (.xd [(n, w)]) ∧ IsAll ds [w])
  | .kt ks, v => ∃ a, v = .ref a ∧ H a = some (.tup (ks.map kV))
def IsAll : List D → List V → Prop
  | [], vs => vs = []
  | d :: ds, vs => ∃ x xs, vs = x :: xs ∧ Is d x ∧ IsAll ds xs
end
/-- a slot list told by another -/
def IsSt (σ : Sig) (σV : L2.St) : Prop := σ.length = σV.length ∧ ∀ (i : Nat) (d : D), σ[i]? = some (some d) → ∃ v, σV[i]? = some (some v) ∧ Is K ρ H d v
def ExcA (c : Exn) (dd : Option Addr) : Prop := match c.attr with
  | none => dd = none
  | some (n, d) => ∃ a v, dd = some a ∧ H a = some (.xd [(n, v)]) ∧ Is K ρ H d v
def ExcR (c : Exn) (cls : Value) (dd : Option Addr) : Prop := cls = .ref (He.ga K c.cls) ∧ ExcA K ρ H c dd
/-- what may be written -/
def Wr (o : HO) : Prop := (∃ xs, o = .lst xs) ∨ (∃ ks, o = .dK ks) ∨ ∃ ks, o = .dT ks
def IsTbl (o : HO) : Prop := ∃ ps, o = .tbl ps
/-- where the table of a def's own code objects stands -/
def tabA (K : PySem.W.Frag) (x : Str) : Addr := match K.lookup (He.ga K x) with
  | some ⟨_, _, .func fd, _⟩ => (match fd.code with
    | .ref c => (match K.lookup c with
      | some ⟨_, _, .fields vs, _⟩ => (match vs[11]? with
        | some (Value.ref P) => P
        | _ => 0)
      | _ => 0)
    | _ => 0)
  | _ => 0
/-- what may stand in the store: no tuple -/
def NT (o : HO) : Prop := ((∀ xs, o ≠ .tup xs) ∧ ∀ ob xs, o ≠ .frz ob (.tup xs)) ∧ ∀ fs, o ≠ .xd fs
/-- what stands at a for an object of the store -/
def MR (a : Addr) : M → Prop
  | .lst ds => ∃ xs, H a = some (.lst xs) ∧ IsAll K ρ H ds xs
  | .fro ds => (∃ xs, SqL K H a xs ∧ IsAll K ρ H ds xs) ∧ ∃ o u, H a = some (.frz o (.lst u))
  | .dk kvs => ∃ ks : List (Key × V), H a = some (.dK ks) ∧ ks.map (·.1) = kvs.map (·.1) ∧ IsAll K ρ H (kvs.map (·.2)) (ks.map (·.2))
  | .dt kvs => ∃ ks : List (List Key × V), H a = some (.dT ks) ∧ ks.map (·.1) = kvs.map (·.1) ∧ IsAll K ρ H (kvs.map (·.2)) (ks.map (·.2))
  | .ft kvs => ∃ (od : Obj) (ks : List (List Key × V)), H a = some (.frz od (.dT ks)) ∧ ks.map (·.1) = kvs.map (·.1) ∧ IsAll K ρ H (kvs.map (·.2)) (ks.map (·.2))
  | .tab x q => a = tabA K x ∧ LamX.TabS H a q
  | .code c q s t => a = c ∧ H a = some (LamX.CodeO c q) ∧ IsSt K ρ H s t
  | .junk => ∃ o, H a = some o ∧ NT o ∧ ¬ Wr o ∧ ¬ IsTbl o
structure R (S : Sto) : Prop where
  len : ρ.length = S.length
  inj : ∀ (i j : Nat) (a : Addr), ρ[i]? = some a → ρ[j]? = some a → i = j ∨ ∃ o, H a = some o ∧ ¬ Wr o ∧ ¬ IsTbl o
  obj : ∀ (n : Nat) (m : M), S[n]? = some m → ∃ a, ρ[n]? = some a ∧ MR K ρ H a m
structure Ext (K : PySem.W.Frag) (ρ : List Addr) (H : Hp) (ρ' : List Addr) (H' : Hp) : Prop where
  pre : ∃ l, ρ' = ρ ++ l
  fresh : ∀ b ∈ ρ', b ∈ ρ ∨ ∀ o, H b = some o → ¬ Wr o
  keep : ∀ b o, H b = some o → Wr o → b ∉ ρ → H' b = some o
  stay : ∀ b o, H b = some o → ¬ Wr o → ¬ IsTbl o → H' b = some o
end

section
variable {K : PySem.W.Frag} {ρ ρ' ρ'' : List Addr} {H H' H'' : Hp} {S S' : Sto}
theorem Ext.refl : Ext K ρ H ρ H := ⟨⟨[], by simp⟩, fun _ h => .inl h, fun _ _ h _ _ => h, fun _ _ h _ _ => h⟩
theorem Ext.trans (a : Ext K ρ H ρ' H') (b : Ext K ρ' H' ρ'' H'') : Ext K ρ H ρ'' H'' := by
  refine ⟨?_, fun c hc => ?_, fun c o h w hn => b.keep c o (a.keep c o h w hn) w fun z => ?_, fun c o h w t => b.stay c o (a.stay c o h w t) w t⟩
  · obtain ⟨l, rfl⟩ := a.pre
    obtain ⟨m, rfl⟩ := b.pre
    exact ⟨l ++ m, by simp⟩
  · rcases b.fresh c hc with h | h
    · exact a.fresh c h
    · by_cases hm : c ∈ ρ
      · exact .inl hm
      · refine .inr fun o q w => ?_
        exact h o (a.keep c o q w hm) w
  · rcases a.fresh c z with q | q
    · exact hn q
    · exact q o h w
theorem wr_tup {xs : List V} : ¬ Wr (.tup xs) := by rintro (⟨_, h⟩ | ⟨_, h⟩ | ⟨_, h⟩) <;> cases h
theorem wr_frz {o : Obj} {u : HO} : ¬ Wr (.frz o u) := by rintro (⟨_, h⟩ | ⟨_, h⟩ | ⟨_, h⟩) <;> cases h
theorem wr_xd {fs : List (Str × V)} : ¬ Wr (.xd fs) := by rintro (⟨_, h⟩ | ⟨_, h⟩ | ⟨_, h⟩) <;> cases h
theorem wr_ext {p : Heap → Prop} : ¬ Wr (.ext p) := by rintro (⟨_, h⟩ | ⟨_, h⟩ | ⟨_, h⟩) <;> cases h
theorem wr_tbl {ps : Array Value} : ¬ Wr (.tbl ps) := by rintro (⟨_, h⟩ | ⟨_, h⟩ | ⟨_, h⟩) <;> cases h
theorem tb_tup {xs : List V} : ¬ IsTbl (.tup xs) := by rintro ⟨_, h⟩; cases h
theorem tb_frz {o : Obj} {u : HO} : ¬ IsTbl (.frz o u) := by rintro ⟨_, h⟩; cases h
theorem tb_xd {fs : List (Str × V)} : ¬ IsTbl (.xd fs) := by rintro ⟨_, h⟩; cases h
theorem tb_ext {p : Heap → Prop} : ¬ IsTbl (.ext p) := by rintro ⟨_, h⟩; cases h
theorem tb_wr {o : HO} (w : Wr o) : ¬ IsTbl o := by rintro ⟨_, rfl⟩; exact wr_tbl w
theorem Ext.tup (e : Ext K ρ H ρ' H') (a : Addr) (xs : List V) (h : SqT K H a xs) : SqT K H' a xs := by
  rcases h with (h | ⟨ob, h⟩) | h
  · exact .inl (.inl (e.stay _ _ h wr_tup tb_tup))
  · exact .inl (.inr ⟨ob, e.stay _ _ h wr_frz tb_frz⟩)
  · exact .inr h
theorem Ext.xd (e : Ext K ρ H ρ' H') (a : Addr) (fs : List (Str × V)) (h : H a = some (.xd fs)) : H' a = some (.xd fs) := e.stay _ _ h wr_xd tb_xd
theorem Ext.code (e : Ext K ρ H ρ' H') (a : Addr) (q : Str) (h : H a = some (LamX.CodeO a q)) : H' a = some (LamX.CodeO a q) := e.stay _ _ h (by unfold LamX.CodeO; exact wr_ext) (by unfold LamX.CodeO; exact tb_ext)
theorem Ext.held (e : Ext K ρ H ρ' H') {cls : Value} {dd : Option Addr} {a : Addr} (h : H a = some (HeldO cls dd a)) : H' a = some (HeldO cls dd a) := e.stay _ _ h (by unfold HeldO; exact wr_ext) (by unfold HeldO; exact tb_ext)
/-- what nobody writes any more stays -/
theorem Ext.still (e : Ext K ρ H ρ' H') {a : Addr} {o : HO} (h : H a = some o) (w : Wr o) (n : a ∉ ρ) : H' a = some o ∧ a ∉ ρ' := ⟨e.keep a o h w n, fun z => (e.fresh a z).elim n fun q => q o h w⟩
theorem Ext.at (a : Ext K ρ H ρ' H') {n : Nat} {x : Addr} (h : ρ[n]? = some x) : ρ'[n]? = some x := by
  obtain ⟨l, rfl⟩ := a.pre
  rw [List.getElem?_append_left (List.getElem?_eq_some_iff.mp h).1]; exact h
mutual
theorem Is.ext (a : Ext K ρ H ρ' H') : ∀ {d : D} {v : V}, Is K ρ H d v → Is K ρ' H' d v
  | .non, _, h => h
  | .bl _, _, h => h
  | .int _, _, h => h
  | .str _, _, h => h
  | .tup ds, _, h => by
    unfold Is at h ⊢
    obtain ⟨b, xs, e, q, r⟩ := h
    exact ⟨b, xs, e, a.tup _ _ q, IsAll.ext a r⟩
  | .ref n, _, h => by
    unfold Is at h ⊢
    obtain ⟨b, e, r⟩ := h
    exact ⟨b, a.at e, r⟩
  | .con _, _, h => h
  | .ty _, _, h => h
  | .adr _, _, h => h
  | .lv ds, _, h => by
    unfold Is at h ⊢
    obtain ⟨b, xs, e, h1, h2, r⟩ := h
    obtain ⟨g1, g2⟩ := a.still h1 (.inl ⟨_, rfl⟩) h2
    exact ⟨b, xs, e, g1, g2, IsAll.ext a r⟩
  | .dv ks ds, _, h => by
    unfold Is at h ⊢
    obtain ⟨b, xs, e, h1, h2, h3, r⟩ := h
    obtain ⟨g1, g2⟩ := a.still h1 (.inr (.inl ⟨_, rfl⟩)) h2
    exact ⟨b, xs, e, g1, g2, h3, IsAll.ext a r⟩
  | .dw ks ds, _, h => by
    unfold Is at h ⊢
    obtain ⟨b, od, kvs, e, h1, h3, r⟩ := h
    exact ⟨b, od, kvs, e, a.stay _ _ h1 wr_frz tb_frz, h3, IsAll.ext a r⟩
  | .exv c an ds, _, h => by
    unfold Is at h ⊢
    obtain ⟨b, dd, e, h1, h2⟩ := h
    refine ⟨b, dd, e, a.held h1, h2.imp id fun ⟨n, b2, w, z1, z2, z3, r⟩ => ⟨n, b2, w, z1, z2, a.xd _ _ z3, IsAll.ext a r⟩⟩
  | .kt ks, _, h => by
    unfold Is at h ⊢
    obtain ⟨b, e, h1⟩ := h
    exact ⟨b, e, a.stay _ _ h1 wr_tup tb_tup⟩
theorem IsAll.ext (a : Ext K ρ H ρ' H') : ∀ {ds : List D} {vs : List V}, IsAll K ρ H ds vs → IsAll K ρ' H' ds vs
  | [], _, h => h
  | d :: ds, _, h => by
    unfold IsAll at h ⊢
    obtain ⟨x, xs, e, q, r⟩ := h
    exact ⟨x, xs, e, Is.ext a q, IsAll.ext a r⟩
end
theorem IsSt.ext (a : Ext K ρ H ρ' H') {σ : Sig} {σV : L2.St} (h : IsSt K ρ H σ σV) : IsSt K ρ' H' σ σV := ⟨h.1, fun i d e => by
  obtain ⟨v, e1, e2⟩ := h.2 i d e
  exact ⟨v, e1, e2.ext a⟩⟩
theorem ExcA.ext (a : Ext K ρ H ρ' H') {c : Exn} {dd : Option Addr} (h : ExcA K ρ H c dd) : ExcA K ρ' H' c dd := by
  unfold ExcA at h ⊢
  split
  · rename_i e; rw [e] at h; exact h
  · rename_i n d e
    rw [e] at h
    obtain ⟨b, v, e1, e2, e3⟩ := h
    exact ⟨b, v, e1, a.xd _ _ e2, e3.ext a⟩
theorem MR.ext (a : Ext K ρ H ρ' H') {b : Addr} (hb : H' b = H b) : ∀ {m : M}, MR K ρ H b m → MR K ρ' H' b m
  | .lst ds, ⟨xs, e, r⟩ => ⟨xs, hb.trans e, r.ext a⟩
  | .fro ds, ⟨⟨xs, e, r⟩, o, u, q⟩ => ⟨⟨xs, by
      rcases e with (e | ⟨o, e⟩) | e
      · exact .inl (.inl (hb.trans e))
      · exact .inl (.inr ⟨o, hb.trans e⟩)
      · exact .inr e, r.ext a⟩, o, u, hb.trans q⟩
  | .dk kvs, ⟨ks, e, k, r⟩ => ⟨ks, hb.trans e, k, r.ext a⟩
  | .dt kvs, ⟨ks, e, k, r⟩ => ⟨ks, hb.trans e, k, r.ext a⟩
  | .ft kvs, ⟨od, ks, e, k, r⟩ => ⟨od, ks, hb.trans e, k, r.ext a⟩
  | .tab x q, ⟨e1, ps, e2, e3, e4⟩ => ⟨e1, ps, hb.trans e2, e3, fun pos cv hc => by
      obtain ⟨c, z1, z2⟩ := e4 pos cv hc
      exact ⟨c, z1, a.code _ _ z2⟩⟩
  | .code c q s t, ⟨e1, e2, e3⟩ => ⟨e1, hb.trans e2, e3.ext a⟩
  | .junk, ⟨o, e1, e2⟩ => ⟨o, hb.trans e1, e2⟩

theorem MR.nt {b : Addr} {m : M} (h : MR K ρ H b m) : ∃ o, H b = some o ∧ NT o := by
  cases m with
  | lst ds => obtain ⟨xs, e, _⟩ := h; exact ⟨_, e, by refine ⟨⟨?_, ?_⟩, ?_⟩ <;> intros <;> simp⟩
  | fro ds => obtain ⟨_, o, u, e⟩ := h; exact ⟨_, e, by refine ⟨⟨?_, ?_⟩, ?_⟩ <;> intros <;> simp⟩
  | dk kvs => obtain ⟨ks, e, _⟩ := h; exact ⟨_, e, by refine ⟨⟨?_, ?_⟩, ?_⟩ <;> intros <;> simp⟩
  | dt kvs => obtain ⟨ks, e, _⟩ := h; exact ⟨_, e, by refine ⟨⟨?_, ?_⟩, ?_⟩ <;> intros <;> simp⟩
  | ft kvs => obtain ⟨od, ks, e, _⟩ := h; exact ⟨_, e, by refine ⟨⟨?_, ?_⟩, ?_⟩ <;> intros <;> simp⟩
  | tab x q => obtain ⟨_, ps, e, _⟩ := h; exact ⟨_, e, by refine ⟨⟨?_, ?_⟩, ?_⟩ <;> intros <;> simp⟩
  | code c q s t => obtain ⟨_, e, _⟩ := h; exact ⟨_, e, by refine ⟨⟨?_, ?_⟩, ?_⟩ <;> intros <;> simp [LamX.CodeO]⟩
  | junk => obtain ⟨o, e, n, _⟩ := h; exact ⟨o, e, n⟩
theorem R.tracked (r : R K ρ H S) {b : Addr} (hb : b ∈ ρ) : ∃ o, H b = some o ∧ NT o := by
  obtain ⟨n, e⟩ := List.getElem?_of_mem hb
  have hn : n < S.length := by rw [← r.len]; exact (List.getElem?_eq_some_iff.mp e).1
  obtain ⟨a, e1, m⟩ := r.obj n S[n] (List.getElem?_eq_getElem hn)
  rw [e] at e1; cases e1
  exact m.nt
theorem ext_new {p : Addr} {o : HO} (hp : H p = none) : Ext K ρ H ρ (upd H p o) :=
  ⟨⟨[], by simp⟩, fun _ h => .inl h, fun b u e _ _ => by rw [upd_ne (ne_of_none e hp)]; exact e, fun b u e _ _ => by rw [upd_ne (ne_of_none e hp)]; exact e⟩
/-- a thing outside of the store is laid -/
theorem R.laid {p : Addr} {o : HO} (hp : H p = none) (r : R K ρ H S) : R K ρ (upd H p o) S := ⟨r.len, fun i j a h1 h2 => (r.inj i j a h1 h2).imp id fun ⟨u, e, q⟩ => ⟨u, by rw [upd_ne (ne_of_none e hp)]; exact e, q⟩, fun n m e => by
  obtain ⟨a, e1, q⟩ := r.obj n m e
  obtain ⟨u, e2, _⟩ := q.nt
  exact ⟨a, e1, q.ext (ext_new hp) (upd_ne (ne_of_none e2 hp))⟩⟩
theorem ext_push {p : Addr} {o : HO} (hp : H p = none) : Ext K ρ H (ρ ++ [p]) (upd H p o) := by
  refine ⟨⟨[p], rfl⟩, fun b h => ?_, fun b u e _ _ => ?_, fun b u e _ _ => ?_⟩
  · rcases List.mem_append.mp h with h | h
    · exact .inl h
    · refine .inr fun o q => ?_
      rw [List.mem_singleton.mp h, hp] at q
      cases q
  · rw [upd_ne (ne_of_none e hp)]; exact e
  · rw [upd_ne (ne_of_none e hp)]; exact e
theorem push_at {α : Type} (l : List α) (x : α) : (l ++ [x])[l.length]? = some x := by simp
/-- a new object of the store -/
theorem R.push {p : Addr} {o : HO} {m : M} (hp : H p = none) (r : R K ρ H S) (hm : MR K (ρ ++ [p]) (upd H p o) p m) : R K (ρ ++ [p]) (upd H p o) (S ++ [m]) := by
  have np : p ∉ ρ := fun z => by obtain ⟨u, e, _⟩ := r.tracked z; rw [hp] at e; cases e
  refine ⟨by simp [r.len], fun i j a hi hj => ?_, fun n k e => ?_⟩
  · have key : ∀ i, (ρ ++ [p])[i]? = some a → (i < ρ.length ∧ ρ[i]? = some a) ∨ (i = ρ.length ∧ a = p) := fun i hi => by
      by_cases h : i < ρ.length
      · rw [List.getElem?_append_left h] at hi; exact .inl ⟨h, hi⟩
      · have h1 : i < ρ.length + 1 := by have := (List.getElem?_eq_some_iff.mp hi).1; simpa using this
        have h2 : i = ρ.length := by omega
        subst h2
        rw [push_at] at hi; cases hi; exact .inr ⟨rfl, rfl⟩
    rcases key i hi with ⟨a1, b1⟩ | ⟨a1, b1⟩ <;> rcases key j hj with ⟨a2, b2⟩ | ⟨a2, b2⟩
    · exact (r.inj _ _ _ b1 b2).imp id fun ⟨u, e, q⟩ => ⟨u, by rw [upd_ne (ne_of_none e hp)]; exact e, q⟩
    · subst b2; exact absurd (List.mem_of_getElem? b1) np
    · subst b1; exact absurd (List.mem_of_getElem? b2) np
    · exact .inl (by omega)
  · by_cases h : n < S.length
    · rw [List.getElem?_append_left h] at e
      obtain ⟨a, e1, q⟩ := r.obj n k e
      obtain ⟨u, e2, _⟩ := q.nt
      exact ⟨a, (ext_push (K := K) (o := o) hp).at e1, q.ext (ext_push hp) (upd_ne (ne_of_none e2 hp))⟩
    · have h1 : n < S.length + 1 := by have := (List.getElem?_eq_some_iff.mp e).1; simpa using this
      have h2 : n = S.length := by omega
      subst h2
      rw [push_at] at e; cases e
      exact ⟨p, by rw [← r.len, push_at], hm⟩
theorem ext_write {n : Nat} {a : Addr} {o u : HO} (hu : H a = some u) (hw : Wr u) (ha : ρ[n]? = some a) : Ext K ρ H ρ (upd H a o) :=
  ⟨⟨[], by simp⟩, fun _ h => .inl h, fun b v e _ hn => by rw [upd_ne (fun z => hn (by rw [z]; exact List.mem_of_getElem? ha))]; exact e,
    fun b v e nw _ => by rw [upd_ne (fun z => nw (by rw [z, hu] at e; rw [← Option.some.inj e]; exact hw))]; exact e⟩
/-- an object of the store is written -/
theorem R.write {n : Nat} {a : Addr} {o u : HO} {m : M} (r : R K ρ H S) (hu : H a = some u) (hw : Wr u) (ha : ρ[n]? = some a) (hm : MR K ρ (upd H a o) a m) : R K ρ (upd H a o) (S.set n m) := by
  have hn : n < S.length := by rw [← r.len]; exact (List.getElem?_eq_some_iff.mp ha).1
  have only : ∀ (i j : Nat), ρ[i]? = some a → ρ[j]? = some a → i = j := fun i j h1 h2 => by
    rcases r.inj i j a h1 h2 with z | ⟨v, e, nw, _⟩
    · exact z
    · rw [hu] at e; cases e; exact absurd hw nw
  refine ⟨by simp [r.len], fun i j b h1 h2 => ?_, fun i k e => ?_⟩
  · by_cases hb : b = a
    · subst hb; exact .inl (only i j h1 h2)
    · rw [upd_ne hb]; exact r.inj i j b h1 h2
  by_cases h : i = n
  · subst h
    rw [List.getElem?_set_self hn] at e; cases e
    exact ⟨a, ha, hm⟩
  · rw [List.getElem?_set_ne (Ne.symm h)] at e
    obtain ⟨b, e1, q⟩ := r.obj i k e
    have nb : b ≠ a := fun z => h (only _ _ (z ▸ e1) ha)
    exact ⟨b, e1, q.ext (ext_write hu hw ha) (upd_ne nb)⟩
end

/-! ### readings -/
section
variable (K : PySem.W.Frag) (W : WX) {α β : Type} (rel : List Addr → Hp → α → β → Prop)
def Post (ρ : List Addr) (H : Hp) (σV : L2.St) (r : Res α) (Q : β → Hp → Prop) : Prop := match r with
  | .ok a S' => ∀ ρ' H' b, R K ρ' H' S' → Ext K ρ H ρ' H' → rel ρ' H' a b → Q b H'
  | .exc c S' => ∀ ρ' H' cls dd, R K ρ' H' S' → Ext K ρ H ρ' H' → ExcR K ρ' H' c cls dd → W cls dd σV H'
  | .no => False
def Lft (f : Sig → Sto → Res α) (σV : L2.St) (H : Hp) (Q : β → Hp → Prop) : Prop := ∃ ρ S σ, R K ρ H S ∧ IsSt K ρ H σ σV ∧ Post K W rel ρ H σV (f σ S) Q
end
section
variable {K : PySem.W.Frag} {W : WX} {α β γ δ : Type} {rel : List Addr → Hp → α → β → Prop} {rel2 : List Addr → Hp → γ → δ → Prop} {ρ ρ' : List Addr} {H H' : Hp} {σV : L2.St} {S : Sto} {σ : Sig}
theorem Post.mono {r : Res α} {Q Q' : β → Hp → Prop} (h : Post K W rel ρ H σV r Q) (hq : ∀ b H', Q b H' → Q' b H') : Post K W rel ρ H σV r Q' := by
  cases r with
  | ok a S' => exact fun ρ' H' b x y z => hq _ _ (h ρ' H' b x y z)
  | exc c S' => exact h
  | no => exact h
theorem Lft.mono {f : Sig → Sto → Res α} {Q Q' : β → Hp → Prop} (h : Lft K W rel f σV H Q) (hq : ∀ b H', Q b H' → Q' b H') : Lft K W rel f σV H Q' := by
  obtain ⟨ρ, S, σ, a, b, c⟩ := h
  exact ⟨ρ, S, σ, a, b, c.mono hq⟩
theorem Post.ext {r : Res α} {Q : β → Hp → Prop} (e : Ext K ρ H ρ' H') (h : Post K W rel ρ H σV r Q) : Post K W rel ρ' H' σV r Q := by
  cases r with
  | ok a S' => exact fun ρ2 H2 b x y z => h ρ2 H2 b x (e.trans y) z
  | exc c S' => exact fun ρ2 H2 b d x y z => h ρ2 H2 b d x (e.trans y) z
  | no => exact h
theorem Post.bind {r : Res α} {k : α → Sto → Res γ} {Q : δ → Hp → Prop} (h : Post K W rel2 ρ H σV (r.bind k) Q) :
    Post K W rel ρ H σV r (fun b H1 => ∃ ρ1 S1 a, R K ρ1 H1 S1 ∧ Ext K ρ H ρ1 H1 ∧ rel ρ1 H1 a b ∧ Post K W rel2 ρ1 H1 σV (k a S1) Q) := by
  cases r with
  | ok a S' => exact fun ρ' H' b x y z => ⟨ρ', S', a, x, y, z, Post.ext y h⟩
  | exc c S' => exact h
  | no => exact h
theorem Lft.bind {f : Sig → Sto → Res α} {g : α → Sig → Sto → Res γ} {Q : δ → Hp → Prop} (h : Lft K W rel2 (fun σ S => (f σ S).bind fun a S1 => g a σ S1) σV H Q) :
    Lft K W rel f σV H (fun b H1 => ∃ ρ1 S1 σ a, R K ρ1 H1 S1 ∧ IsSt K ρ1 H1 σ σV ∧ rel ρ1 H1 a b ∧ Post K W rel2 ρ1 H1 σV (g a σ S1) Q) := by
  obtain ⟨ρ, S, σ, a, b, c⟩ := h
  refine ⟨ρ, S, σ, a, b, (Post.bind c).mono fun b' H' ⟨ρ1, S1, a', x, y, z, w⟩ => ⟨ρ1, S1, σ, a', x, b.ext y, z, w⟩⟩
end
abbrev EvF := Sig → Sto → Res D
abbrev EvL := Sig → Sto → Res (List D)
abbrev LE (K : PySem.W.Frag) (W : WX) (f : EvF) : TE := Lft K W (Is K) f
abbrev LA (K : PySem.W.Frag) (W : WX) (f : EvL) : TA := Lft K W (IsAll K) f
def relB : List Addr → Hp → Bool → Bool → Prop := fun _ _ a b => a = b
abbrev LT (K : PySem.W.Frag) (W : WX) (f : Sig → Sto → Res Bool) : TT := Lft K W relB f
theorem pe_mono {X : Cx} {e : Expr} {t t' : TE} (h : PE X e t) (i : ∀ σ H Q, t' σ H Q → t σ H Q) : PE X e t' := ⟨fun p s σ H Q I q => h.run p s σ H Q I (i σ H Q q)⟩
theorem pa_mono {X : Cx} {e : List Expr} {t t' : TA} (h : PA X e t) (i : ∀ σ H Q, t' σ H Q → t σ H Q) : PA X e t' := ⟨fun pos p s σ H Q I q => h.run pos p s σ H Q I (i σ H Q q)⟩
theorem pt_mono {X : Cx} {e : Expr} {t t' : TT} (h : PT X e t) (i : ∀ σ H Q, t' σ H Q → t σ H Q) : PT X e t' := ⟨fun p s σ H Q I q => h.run p s σ H Q I (i σ H Q q)⟩
/-- two in a row -/
theorem Lft.bind2 {K : PySem.W.Frag} {W : WX} {γ δ : Type} {rel2 : List Addr → Hp → γ → δ → Prop} {H : Hp} {σV : L2.St} {f g : EvF} {k : D → D → Sto → Res γ} {Q : δ → Hp → Prop}
    (h : Lft K W rel2 (fun σ S => (f σ S).bind fun a S1 => (g σ S1).bind fun b S2 => k a b S2) σV H Q) :
    LE K W f σV H (fun x H1 => LE K W g σV H1 (fun y H2 => ∃ ρ2 S2 a b, R K ρ2 H2 S2 ∧ Is K ρ2 H2 a x ∧ Is K ρ2 H2 b y ∧ Post K W rel2 ρ2 H2 σV (k a b S2) Q)) := by
  refine (Lft.bind (g := fun a σ S1 => (g σ S1).bind fun b S2 => k a b S2) h).mono fun x H1 ⟨ρ1, S1, σ, a, r, hs, ia, q⟩ => ?_
  exact ⟨ρ1, S1, σ, r, hs, (Post.bind q).mono fun y H2 ⟨ρ2, S2, b, r2, e2, ib, q2⟩ => ⟨ρ2, S2, a, b, r2, ia.ext e2, ib, q2⟩⟩
end Dp
end
section
set_option Elab.async false
set_option linter.all false
set_option maxRecDepth 100000
set_option maxHeartbeats 4000000
namespace Dp
open PySem PySem.Spec PyProof.Rows L2

abbrev Out := Option (D × Sto)
def ofO : Out → Res D
  | some p => .ok p.1 p.2
  | none => .no
section
variable (K : PySem.W.Frag) (ρ : List Addr) (H : Hp)
def PO : Out → VK → Prop
  | some p, Q => ∀ ρ' H' v, R K ρ' H' p.2 → Ext K ρ H ρ' H' → Is K ρ' H' p.1 v → Q v H'
  | none, _ => False
end
section
variable {K : PySem.W.Frag} {ρ ρ' : List Addr} {H H' : Hp} {S S' : Sto} {W : WX} {σV : L2.St}
theorem PO.of {o : Out} {Q : VK} (h : Post K W (Is K) ρ H σV (ofO o) Q) : PO K ρ H o Q := by
  cases o with
  | some p => exact h
  | none => exact h
/-- the same store, a value that needs none -/
theorem PO.val {d : D} {Q : VK} {v : V} (h : PO K ρ H (some (d, S)) Q) (r : R K ρ H S) (i : Is K ρ H d v) : Q v H := h ρ H v r .refl i
theorem PO.tup {ds : List D} {vs : List V} {Q : VK} {p : Addr} (h : PO K ρ H (some (.tup ds, S)) Q) (r : R K ρ H S) (i : IsAll K ρ H ds vs) (hp : H p = none) : Q (.ref p) (upd H p (.tup vs)) := by
  refine h ρ _ _ (r.laid hp) (ext_new hp) ?_
  unfold Is
  exact ⟨p, vs, rfl, .inl (.inl upd_same), i.ext (ext_new hp)⟩
theorem PO.new {m : M} {o : HO} {Q : VK} {p : Addr} (h : PO K ρ H (some (.ref S.length, S ++ [m])) Q) (r : R K ρ H S) (hp : H p = none) (hm : MR K (ρ ++ [p]) (upd H p o) p m) : Q (.ref p) (upd H p o) := by
  refine h (ρ ++ [p]) _ _ (r.push hp hm) (ext_push hp) ?_
  unfold Is
  exact ⟨p, by rw [← r.len, push_at], rfl⟩
theorem PO.lst {ds : List D} {vs : List V} {Q : VK} {p : Addr} (h : PO K ρ H (some (.ref S.length, S ++ [.lst ds])) Q) (r : R K ρ H S) (i : IsAll K ρ H ds vs) (hp : H p = none) : Q (.ref p) (upd H p (.lst vs)) :=
  h.new r hp ⟨vs, upd_same, i.ext (ext_push hp)⟩
theorem IsAll.paired : ∀ {ds : List D} {vs : List V}, IsAll K ρ H ds vs → Paired (Is K ρ H) ds vs
  | [], vs, h => by
    unfold IsAll at h; subst h; exact .nil
  | d :: ds, vs, h => by
    unfold IsAll at h
    obtain ⟨x, xs, rfl, a, b⟩ := h
    exact .cons a b.paired
theorem IsAll.of : ∀ {ds : List D} {vs : List V}, Paired (Is K ρ H) ds vs → IsAll K ρ H ds vs
  | _, _, .nil => by unfold IsAll; rfl
  | _, _, .cons a b => by unfold IsAll; exact ⟨_, _, rfl, a, IsAll.of b⟩
theorem IsAll.nil : IsAll K ρ H [] [] := by unfold IsAll; rfl
theorem IsAll.cons {d : D} {ds : List D} {v : V} {vs : List V} (a : Is K ρ H d v) (b : IsAll K ρ H ds vs) : IsAll K ρ H (d :: ds) (v :: vs) := by unfold IsAll; exact ⟨_, _, rfl, a, b⟩
theorem IsAll.uncons {d : D} {ds : List D} {vs : List V} (h : IsAll K ρ H (d :: ds) vs) : ∃ x xs, vs = x :: xs ∧ Is K ρ H d x ∧ IsAll K ρ H ds xs := by unfold IsAll at h; exact h
theorem IsAll.nil_eq {vs : List V} (h : IsAll K ρ H [] vs) : vs = [] := by unfold IsAll at h; exact h
theorem IsAll.length : ∀ {ds : List D} {vs : List V}, IsAll K ρ H ds vs → ds.length = vs.length
  | [], vs, h => by rw [h.nil_eq]; rfl
  | d :: ds, vs, h => by
    obtain ⟨x, xs, rfl, _, b⟩ := h.uncons
    rw [List.length_cons, List.length_cons, b.length]
theorem IsAll.append : ∀ {ds es : List D} {vs ws : List V}, IsAll K ρ H ds vs → IsAll K ρ H es ws → IsAll K ρ H (ds ++ es) (vs ++ ws)
  | [], _, vs, _, h, g => by rw [h.nil_eq]; exact g
  | d :: ds, _, vs, _, h, g => by
    obtain ⟨x, xs, rfl, a, b⟩ := h.uncons
    exact .cons a (b.append g)
theorem IsAll.get : ∀ {ds : List D} {vs : List V} (i : Nat) {d : D}, IsAll K ρ H ds vs → ds[i]? = some d → ∃ v, vs[i]? = some v ∧ Is K ρ H d v
  | [], _, i, _, _, e => by simp at e
  | d :: ds, vs, 0, _, h, e => by
    obtain ⟨x, xs, rfl, a, b⟩ := h.uncons
    simp at e; subst e
    exact ⟨x, rfl, a⟩
  | d :: ds, vs, i + 1, _, h, e => by
    obtain ⟨x, xs, rfl, a, b⟩ := h.uncons
    exact b.get i (by simpa using e)
theorem IsAll.take : ∀ {ds : List D} {vs : List V} (n : Nat), IsAll K ρ H ds vs → IsAll K ρ H (ds.take n) (vs.take n)
  | _, _, 0, _ => .nil
  | [], _, n + 1, h => by rw [h.nil_eq]; exact .nil
  | d :: ds, vs, n + 1, h => by
    obtain ⟨x, xs, rfl, a, b⟩ := h.uncons
    exact .cons a (b.take n)
theorem IsAll.drop : ∀ {ds : List D} {vs : List V} (n : Nat), IsAll K ρ H ds vs → IsAll K ρ H (ds.drop n) (vs.drop n)
  | _, _, 0, h => h
  | [], _, n + 1, h => by rw [h.nil_eq]; exact .nil
  | d :: ds, vs, n + 1, h => by
    obtain ⟨x, xs, rfl, a, b⟩ := h.uncons
    exact b.drop n
theorem IsAll.reverse {ds : List D} {vs : List V} (h : IsAll K ρ H ds vs) : IsAll K ρ H ds.reverse vs.reverse := by
  have gen : ∀ {ds : List D} {vs : List V}, IsAll K ρ H ds vs → ∀ {es : List D} {ws : List V}, IsAll K ρ H es ws → IsAll K ρ H (ds.reverseAux es) (vs.reverseAux ws) := by
    intro ds
    induction ds with
    | nil => intro vs h es ws g; rw [h.nil_eq]; exact g
    | cons d ds ih =>
      intro vs h es ws g
      obtain ⟨x, xs, rfl, a, b⟩ := h.uncons
      exact ih b (.cons a g)
  rw [List.reverse, List.reverse]
  exact gen h .nil
theorem IsAll.set : ∀ {ds : List D} {vs : List V} (n : Nat) {d : D} {v : V}, IsAll K ρ H ds vs → Is K ρ H d v → IsAll K ρ H (ds.set n d) (vs.set n v)
  | [], _, n, _, _, h, _ => by rw [h.nil_eq]; exact .nil
  | e :: ds, vs, 0, _, _, h, i => by
    obtain ⟨x, xs, rfl, a, b⟩ := h.uncons
    exact .cons i b
  | e :: ds, vs, n + 1, _, _, h, i => by
    obtain ⟨x, xs, rfl, a, b⟩ := h.uncons
    exact .cons a (b.set n i)
theorem IsAll.replicate {d : D} {v : V} (n : Nat) (h : Is K ρ H d v) : IsAll K ρ H (List.replicate n d) (List.replicate n v) := by
  induction n with
  | zero => exact .nil
  | succ n ih => exact .cons h ih
theorem IsAll.repl {ds : List D} {vs : List V} (h : IsAll K ρ H ds vs) (n : Nat) : IsAll K ρ H (List.replicate n ds).flatten (List.replicate n vs).flatten := by
  induction n with
  | zero => exact .nil
  | succ n ih => rw [List.replicate_succ, List.replicate_succ, List.flatten_cons, List.flatten_cons]; exact h.append ih
/-- a list of the store -/
theorem R.lstAt (r : R K ρ H S) {n : Nat} {ds : List D} {v : V} (e : S[n]? = some (.lst ds)) (i : Is K ρ H (.ref n) v) : ∃ a xs, v = .ref a ∧ ρ[n]? = some a ∧ H a = some (.lst xs) ∧ IsAll K ρ H ds xs := by
  unfold Is at i
  obtain ⟨a, ha, rfl⟩ := i
  obtain ⟨b, hb, xs, hx, hi⟩ := r.obj n _ e
  rw [ha] at hb; cases hb
  exact ⟨a, xs, rfl, ha, hx, hi⟩
/-- a list of the store, to be read -/
def lstOf (S : Sto) (n : Nat) : Option (List D) := match S[n]? with
  | some (.lst ds) => some ds
  | some (.fro ds) => some ds
  | _ => none
theorem R.lstRd (r : R K ρ H S) {n : Nat} {ds : List D} {v : V} (e : lstOf S n = some ds) (i : Is K ρ H (.ref n) v) : ∃ a xs, v = .ref a ∧ ρ[n]? = some a ∧ SqL K H a xs ∧ IsAll K ρ H ds xs := by
  unfold Is at i
  obtain ⟨a, ha, rfl⟩ := i
  unfold lstOf at e
  split at e
  · rename_i es q
    cases e
    obtain ⟨b, hb, xs, hx, hi⟩ := r.obj n _ q
    rw [ha] at hb; cases hb
    exact ⟨a, xs, rfl, ha, .inl (.inl hx), hi⟩
  · rename_i es q
    cases e
    obtain ⟨b, hb, ⟨xs, hx, hi⟩, _⟩ := r.obj n _ q
    rw [ha] at hb; cases hb
    exact ⟨a, xs, rfl, ha, hx, hi⟩
  · cases e
/-- the items of a list, to be read -/
def lsD (S : Sto) : D → Option (List D)
  | .ref n => lstOf S n
  | .lv ds => some ds
  | _ => none
/-- .. that is no written one -/
def lsW (S : Sto) : D → Option (List D)
  | .ref n => match S[n]? with
    | some (.lst ds) => some ds
    | _ => none
  | .lv ds => some ds
  | _ => none
theorem Is.lvAt {ds : List D} {v : V} (i : Is K ρ H (.lv ds) v) : ∃ a xs, v = .ref a ∧ H a = some (.lst xs) ∧ a ∉ ρ ∧ IsAll K ρ H ds xs := by unfold Is at i; exact i
theorem R.lsD (r : R K ρ H S) {d : D} {ds : List D} {v : V} (e : lsD S d = some ds) (i : Is K ρ H d v) : ∃ a xs, v = .ref a ∧ SqL K H a xs ∧ IsAll K ρ H ds xs := by
  cases d with
  | ref n => obtain ⟨a, xs, h1, _, h2, h3⟩ := r.lstRd e i; exact ⟨a, xs, h1, h2, h3⟩
  | lv es => cases e; obtain ⟨a, xs, h1, h2, _, h3⟩ := i.lvAt; exact ⟨a, xs, h1, .inl (.inl h2), h3⟩
  | _ => cases e
theorem R.lsW (r : R K ρ H S) {d : D} {ds : List D} {v : V} (e : lsW S d = some ds) (i : Is K ρ H d v) : ∃ a xs, v = .ref a ∧ H a = some (.lst xs) ∧ IsAll K ρ H ds xs := by
  cases d with
  | ref n =>
    simp only [Dp.lsW] at e
    split at e
    · rename_i es q
      cases e
      obtain ⟨a, xs, h1, _, h2, h3⟩ := r.lstAt q i
      exact ⟨a, xs, h1, h2, h3⟩
    · cases e
  | lv es => cases e; obtain ⟨a, xs, h1, h2, _, h3⟩ := i.lvAt; exact ⟨a, xs, h1, h2, h3⟩
  | _ => cases e
/-- a new list: of the store, or one that nobody will write -/
def newL (own : Bool) (ds : List D) (S : Sto) : Out := if own = true then some (.ref S.length, S ++ [.lst ds]) else some (.lv ds, S)
theorem PO.newL {own : Bool} {ds : List D} {vs : List V} {Q : VK} {p : Addr} (h : PO K ρ H (newL own ds S) Q) (r : R K ρ H S) (i : IsAll K ρ H ds vs) (hp : H p = none) : Q (.ref p) (upd H p (.lst vs)) := by
  unfold Dp.newL at h
  cases own with
  | true => exact PO.lst h r i hp
  | false =>
    refine h ρ _ _ (r.laid hp) (ext_new hp) ?_
    unfold Is
    have np : p ∉ ρ := fun z => by obtain ⟨u, e, _⟩ := r.tracked z; rw [hp] at e; cases e
    exact ⟨p, vs, rfl, upd_same, np, i.ext (ext_new hp)⟩
theorem Is.tupAt {ds : List D} {v : V} (i : Is K ρ H (.tup ds) v) : ∃ a xs, v = .ref a ∧ SqT K H a xs ∧ IsAll K ρ H ds xs := by unfold Is at i; exact i
/-- the items of a tuple -/
def tupOf : D → Option (List D)
  | .tup ds => some ds
  | .kt ks => some (ks.map dKey)
  | _ => none
theorem keys_is : ∀ ks : List Key, IsAll K ρ H (ks.map dKey) (ks.map kV)
  | [] => by unfold IsAll; rfl
  | .inl i :: ks => by
    show IsAll K ρ H (dKey (.inl i) :: ks.map dKey) _
    unfold IsAll
    exact ⟨_, _, rfl, by unfold dKey Is; rfl, keys_is ks⟩
  | .inr x :: ks => by
    show IsAll K ρ H (dKey (.inr x) :: ks.map dKey) _
    unfold IsAll
    exact ⟨_, _, rfl, by unfold dKey Is; rfl, keys_is ks⟩
theorem Is.ktAt {ks : List Key} {v : V} (i : Is K ρ H (.kt ks) v) : ∃ a, v = .ref a ∧ H a = some (.tup (ks.map kV)) := by unfold Is at i; exact i
theorem Is.tupOf {d : D} {ds : List D} {v : V} (e : tupOf d = some ds) (i : Is K ρ H d v) : ∃ a xs, v = .ref a ∧ SqT K H a xs ∧ IsAll K ρ H ds xs := by
  cases d with
  | tup es => cases e; exact i.tupAt
  | kt ks => cases e; obtain ⟨a, h1, h2⟩ := i.ktAt; exact ⟨a, _, h1, .inl (.inl h2), keys_is ks⟩
  | _ => cases e
theorem Is.int_eq {n : Int} {v : V} (i : Is K ρ H (.int n) v) : v = .int n := by unfold Is at i; exact i
theorem Is.bl_eq {n : Bool} {v : V} (i : Is K ρ H (.bl n) v) : v = .bl n := by unfold Is at i; exact i
theorem Is.str_eq {n : Str} {v : V} (i : Is K ρ H (.str n) v) : v = .str n := by unfold Is at i; exact i
theorem Is.non_eq {v : V} (i : Is K ρ H .non v) : v = .non := by unfold Is at i; exact i
theorem Is.int' {n : Int} : Is K ρ H (.int n) (.int n) := by unfold Is; rfl
theorem Is.bl' {n : Bool} : Is K ρ H (.bl n) (.bl n) := by unfold Is; rfl
theorem Is.str' {n : Str} : Is K ρ H (.str n) (.str n) := by unfold Is; rfl
theorem Is.non' : Is K ρ H .non .non := by unfold Is; rfl
end

/-! ### operators -/
def mulOk (i j : Int) : Bool := decide (-(2 ^ 64) < i ∧ i < 2 ^ 64) || decide (-(2 ^ 64) < j ∧ j < 2 ^ 64)
def binD (own : Bool) (op : Operator) (a b : D) (S : Sto) : Out := match op, a, b with
  | .Add, .int i, .int j => some (.int (i + j), S)
  | .Add, .str x, .str y => if x.length + y.length ≤ sizeLine then some (.str (x ++ y), S) else none
  | .Add, .tup xs, .tup ys => if xs.length + ys.length ≤ sizeLine then some (.tup (xs ++ ys), S) else none
  | .Add, .kt ks, .tup (y :: ys) => if ks.length + (ys.length + 1) ≤ sizeLine then some (.tup (ks.map dKey ++ y :: ys), S) else none
  | .Sub, .int i, .int j => some (.int (i - j), S)
  | .Mult, .int i, .int j => if mulOk i j = true then some (.int (i * j), S) else none
  | .Mult, .tup (x :: xs), .int k => if 2 ≤ k ∧ k ≤ 1000 ∧ xs.length < 1000 then some (.tup (List.replicate k.toNat (x :: xs)).flatten, S) else none
  | .FloorDiv, .int i, .int j => if 0 < j ∧ j < 1073741824 then some (.int (i / j), S) else none
  | .Mod, .int i, .int j => if 0 < j then some (.int (i % j), S) else none
  | .Pow, .int i, .int j => if 0 ≤ j ∧ j ≤ 1000000 ∧ i.natAbs < 2 ^ 64 then some (.int (i ^ j.toNat), S) else none
  | .Add, a, b => match lsW S a, lsW S b with
    | some xs, some ys => if xs.length + ys.length ≤ sizeLine then newL own (xs ++ ys) S else none
    | _, _ => none
  | .Mult, a, .int k => match lsW S a with
    | some xs => if -(2 ^ 63) ≤ k ∧ k < 2 ^ 63 ∧ xs.length * k.toNat ≤ sizeLine then newL own (List.replicate k.toNat xs).flatten S else none
    | _ => none
  | _, _, _ => none
def RD (K : PySem.W.Frag) (k : D → D → Sto → Out) : R2 := fun x y H Q => ∃ ρ S a b, R K ρ H S ∧ Is K ρ H a x ∧ Is K ρ H b y ∧ PO K ρ H (k a b S) Q
section
variable {X : Cx}
theorem binD_ok (own : Bool) (op : Operator) : OpR X (binaryOp op) (RD X.K (binD own op)) := by
  intro pins s σ H x y v u Q I rx ry h
  obtain ⟨ρ, S, a, b, r, ia, ib, q⟩ := h
  unfold binD at q
  split at q
  · cases ia.int_eq; cases ib.int_eq
    exact op_add pins s σ H _ _ v u Q I rx ry ⟨_, _, rfl, rfl, q.val r Is.int'⟩
  · cases ia.str_eq; cases ib.str_eq
    split at q
    · rename_i hz
      exact op_add_str pins s σ H _ _ v u Q I rx ry ⟨_, _, rfl, rfl, hz, q.val r Is.str'⟩
    · exact q.elim
  · obtain ⟨a, xs, rfl, ha, ra⟩ := ia.tupAt
    obtain ⟨b, ys, rfl, hb, rb⟩ := ib.tupAt
    split at q
    · rename_i hz
      refine op_catA pins s σ H _ _ v u Q I rx ry ⟨a, b, xs, ys, rfl, rfl, ha, hb, by rw [← ra.length, ← rb.length]; exact hz, fun e => ?_, fun e1 e2 => ?_, fun e1 e2 p hp => ?_⟩
      · subst e
        have z := List.length_eq_zero_iff.mp ra.length
        subst z
        exact q.val r ib
      · subst e2
        have z := List.length_eq_zero_iff.mp rb.length
        subst z
        rw [List.append_nil] at q
        exact q.val r ia
      · exact q.tup r (ra.append rb) hp
    · exact q.elim
  · rename_i ks y ys
    cases ks with
    | nil =>
      obtain ⟨a, xs, rfl, ha, ra⟩ := Is.tupOf (ds := []) rfl ia
      obtain ⟨b, zs, rfl, hb, rb⟩ := ib.tupAt
      split at q
      · rename_i hz
        have hz0 : xs = [] := List.length_eq_zero_iff.mp ra.length.symm
        subst hz0
        refine op_catA pins s σ H _ _ v u Q I rx ry ⟨a, b, [], zs, rfl, rfl, ha, hb, by rw [← rb.length]; simpa using hz, fun e => q.val r ib, fun e1 e2 => ?_, fun e1 e2 p hp => absurd rfl e1⟩
        have := rb.length
        subst e2
        cases this
      · exact q.elim
    | cons k ks =>
    obtain ⟨a, xs, rfl, ha, ra⟩ := Is.tupOf (ds := dKey k :: ks.map dKey) rfl ia
    obtain ⟨b, zs, rfl, hb, rb⟩ := ib.tupAt
    split at q
    · rename_i hz
      have n1 : xs ≠ [] := fun e => by have := ra.length; subst e; cases this
      have n2 : zs ≠ [] := fun e => by have := rb.length; subst e; cases this
      refine op_catA pins s σ H _ _ v u Q I rx ry ⟨a, b, xs, zs, rfl, rfl, ha, hb, by rw [← ra.length, ← rb.length]; simpa using hz, fun e => absurd e n1, fun e1 e2 => absurd e2 n2, fun e1 e2 p hp => q.tup r (ra.append rb) hp⟩
    · exact q.elim
  · cases ia.int_eq; cases ib.int_eq
    exact op_sub pins s σ H _ _ v u Q I rx ry ⟨_, _, rfl, rfl, q.val r Is.int'⟩
  · cases ia.int_eq; cases ib.int_eq
    split at q
    · rename_i hz
      refine op_mul pins s σ H _ _ v u Q I rx ry ⟨_, _, rfl, rfl, ?_, q.val r Is.int'⟩
      unfold mulOk at hz
      simp only [Bool.or_eq_true, decide_eq_true_eq] at hz
      exact hz
    · exact q.elim
  · cases ib.int_eq
    obtain ⟨a, ys, rfl, ha, ra⟩ := ia.tupAt
    split at q
    · rename_i hz
      have hl := ra.length
      simp only [List.length_cons] at hl
      exact op_repT pins s σ H _ _ v u Q I rx ry ⟨a, _, ys, rfl, rfl, ha, (fun e => by subst e; cases hl), hz.1, hz.2.1, by omega, fun p hp => q.tup r (ra.repl _) hp⟩
    · exact q.elim
  · cases ia.int_eq; cases ib.int_eq
    split at q
    · rename_i hz
      exact op_fdiv pins s σ H _ _ v u Q I rx ry ⟨_, _, rfl, rfl, hz, q.val r Is.int'⟩
    · exact q.elim
  · cases ia.int_eq; cases ib.int_eq
    split at q
    · rename_i hz
      exact op_mod pins s σ H _ _ v u Q I rx ry ⟨_, _, rfl, rfl, hz, q.val r Is.int'⟩
    · exact q.elim
  · cases ia.int_eq; cases ib.int_eq
    split at q
    · rename_i hz
      exact op_pow pins s σ H _ _ v u Q I rx ry ⟨_, _, rfl, rfl, hz, q.val r Is.int'⟩
    · exact q.elim
  · split at q
    · rename_i xs ys e1 e2
      obtain ⟨a, vs, rfl, ha, ra⟩ := r.lsW e1 ia
      obtain ⟨b, ws, rfl, hb, rb⟩ := r.lsW e2 ib
      split at q
      · rename_i hz
        exact op_cat pins s σ H _ _ v u Q I rx ry ⟨a, b, vs, ws, rfl, rfl, ha, hb, by rw [← ra.length, ← rb.length]; exact hz, fun p hp => PO.newL q r (ra.append rb) hp⟩
      · exact q.elim
    · exact q.elim
  · cases ib.int_eq
    split at q
    · rename_i xs e1
      obtain ⟨a, vs, rfl, ha, ra⟩ := r.lsW e1 ia
      split at q
      · rename_i hz
        exact op_rep pins s σ H _ _ v u Q I rx ry ⟨a, _, vs, rfl, rfl, ha, hz.1, hz.2.1, by rw [← ra.length]; exact hz.2.2, fun p hp => PO.newL q r (ra.repl _) hp⟩
      · exact q.elim
    · exact q.elim
  · exact q.elim
end

/-! ### data as the library's: ==, repr -/
def pyL (f : D → Option PyData) : List D → Option (List PyData)
  | [] => some []
  | d :: ds => match f d, pyL f ds with
    | some x, some xs => some (x :: xs)
    | _, _ => none
def py (S : Sto) : Nat → D → Option PyData
  | 0, _ => none
  | k + 1, d => match d with
    | .non => some .none
    | .bl b => some (.bool b)
    | .int i => some (.int i)
    | .str x => some (.str x)
    | .tup ds => (pyL (py S k) ds).map .tuple
    | .lv ds => (pyL (py S k) ds).map .list
    | .kt ks => (pyL (py S k) (ks.map dKey)).map .tuple
    | .ref n => match lstOf S n with
      | some ds => (pyL (py S k) ds).map .list
      | none => none
    | _ => none
section
variable {K : PySem.W.Frag} {ρ : List Addr} {H : Hp} {S : Sto}
theorem py_all (k : Nat) (ih : ∀ {d : D} {v : V} {p : PyData}, py S k d = some p → Is K ρ H d v → L2.Dp K H v p) : ∀ {ds : List D} {vs : List V} {ps : List PyData}, pyL (py S k) ds = some ps → IsAll K ρ H ds vs → L2.DpAll K H vs ps
  | [], vs, ps, e, h => by
    rw [h.nil_eq]
    cases e
    exact .nil
  | d :: ds, vs, ps, e, h => by
    obtain ⟨x, xs, rfl, a, b⟩ := h.uncons
    unfold pyL at e
    split at e
    · rename_i p ps' e1 e2
      cases e
      exact .cons (ih e1 a) (py_all k ih e2 b)
    · cases e
theorem py_dp (r : R K ρ H S) : ∀ (k : Nat) {d : D} {v : V} {p : PyData}, py S k d = some p → Is K ρ H d v → L2.Dp K H v p
  | 0, _, _, _, e, _ => by cases e
  | k + 1, d, v, p, e, h => by
    unfold py at e
    split at e
    · cases e; cases h.non_eq; exact .non
    · cases e; cases h.bl_eq; exact .bl _
    · cases e; cases h.int_eq; exact .int _
    · cases e; cases h.str_eq; exact .str _
    · obtain ⟨a, xs, rfl, ha, ra⟩ := h.tupAt
      rename_i ds
      cases q : pyL (py S k) ds with
      | none => rw [q] at e; cases e
      | some ps =>
        rw [q] at e; cases e
        exact .tup ha (py_all k (fun e h => py_dp r k e h) q ra)
    · rename_i ds
      obtain ⟨a, xs, rfl, ha, _, ra⟩ := h.lvAt
      cases q : pyL (py S k) ds with
      | none => rw [q] at e; cases e
      | some ps =>
        rw [q] at e; cases e
        exact .lst (.inl (.inl ha)) (py_all k (fun e h => py_dp r k e h) q ra)
    · rename_i ks
      obtain ⟨a, xs, rfl, ha, ra⟩ := Is.tupOf (ds := ks.map dKey) rfl h
      cases q : pyL (py S k) (ks.map dKey) with
      | none => rw [q] at e; cases e
      | some ps =>
        rw [q] at e; cases e
        exact .tup ha (py_all k (fun e h => py_dp r k e h) q ra)
    · split at e
      · rename_i ds el
        obtain ⟨a, xs, rfl, _, ha, ra⟩ := r.lstRd el h
        cases q : pyL (py S k) ds with
        | none => rw [q] at e; cases e
        | some ps =>
          rw [q] at e; cases e
          exact .lst ha (py_all k (fun e h => py_dp r k e h) q ra)
      · cases e
    · cases e
end
/-- == by the data -/
def eqD (a b : D) (S : Sto) : Option Bool := match py S 66 a, py S 66 b with
  | some p, some q => if SeqAt.shaped p = true ∧ SeqAt.shaped q = true then some (PyData.eqv p q) else none
  | _, _ => none
theorem eqD_ok {K : PySem.W.Frag} {ρ : List Addr} {H : Hp} {S : Sto} (r : R K ρ H S) {a b : D} {x y : V} {c : Bool} (ia : Is K ρ H a x) (ib : Is K ρ H b y) (e : eqD a b S = some c) :
    ∃ p q, L2.Dp K H x p ∧ L2.Dp K H y q ∧ SeqAt.shaped p = true ∧ SeqAt.shaped q = true ∧ PyData.eqv p q = c := by
  unfold eqD at e
  split at e
  · rename_i p q e1 e2
    split at e
    · rename_i hs
      cases e
      exact ⟨p, q, py_dp r _ e1 ia, py_dp r _ e2 ib, hs.1, hs.2, rfl⟩
    · cases e
  · cases e
def lexGe : List Int → List Int → Bool
  | [], [] => true
  | [], _ :: _ => false
  | _ :: _, [] => true
  | a :: as, b :: bs => if a = b then lexGe as bs else decide (b ≤ a)
def intsL : List D → Option (List Int)
  | [] => some []
  | .int i :: ds => (intsL ds).map (i :: ·)
  | _ => none
end Dp
end
section
set_option Elab.async false
set_option linter.all false
set_option maxRecDepth 100000
set_option maxHeartbeats 4000000
namespace Dp
open PySem PySem.Spec PyProof.Rows L2

/-! ### order -/
def lexI (z : Nat → Nat → Bool) (lt : Int → Int → Bool) : List Int → List Int → Bool := fun ns ms =>
  Ob.lexAt (fun j => decide (ns.getD j 0 = ms.getD j 0)) (fun j => lt (ns.getD j 0) (ms.getD j 0)) (z ns.length ms.length) 0 (min ns.length ms.length)
section
variable {K : PySem.W.Frag} {ρ : List Addr} {H : Hp} {S : Sto} {X : Cx}
theorem intsL_is : ∀ {ds : List D} {ns : List Int} {vs : List V}, intsL ds = some ns → IsAll K ρ H ds vs → vs = ns.map V.int
  | [], ns, vs, e, h => by cases e; rw [h.nil_eq]; rfl
  | d :: ds, ns, vs, e, h => by
    obtain ⟨x, xs, rfl, a, b⟩ := h.uncons
    cases d with
    | int i =>
      unfold intsL at e
      cases q : intsL ds with
      | none => rw [q] at e; cases e
      | some ms =>
        rw [q] at e; cases e
        rw [a.int_eq, intsL_is q b]; rfl
    | _ => cases e
def rOrd (K : PySem.W.Frag) (z : Nat → Nat → Bool) (lt : Int → Int → Bool) : R2 := fun x y H Q => ∃ (a b : Addr) (ns ms : List Int), x = .ref a ∧ y = .ref b ∧ SqT K H a (ns.map V.int) ∧ SqT K H b (ms.map V.int) ∧ Q (.bl (lexI z lt ns ms)) H
theorem op_ordT {op : CmpOp} {z : Nat → Nat → Bool} {lt : Int → Int → Bool} (hop : ∀ a b, compareOp op a b = richCompare op a b)
    (rule : ∀ {A : Around} {s : Shared} {l b : Addr} {items items2 : Array Value} {e r : Nat → Bool}, s.heap.IsTuple l items → s.heap.IsTuple b items2 → A.units < cLine →
      (∀ (j : Nat) (h1 : j < items.size) (h2 : j < items2.size), SeqAt.EqAt A.in1 s items[j] items2[j] (e j)) → (∀ (j : Nat) (h1 : j < items.size) (h2 : j < items2.size), e j = false → Ob.RcOp op A.in1 s items[j] items2[j] (r j)) →
      Ob.RcOp op A s (.ref l) (.ref b) (Ob.lexAt e r (z items.size items2.size) 0 (min items.size items2.size)))
    (one : ∀ {A : Around} {s : Shared} (a b : Int) (t u : Tok), Ob.RcOp op A s (.int a t) (.int b u) (lt a b)) (hu : X.A.units < cLine) : OpR X (compareOp op) (rOrd X.K z lt) := by
  intro pins s σ H x y v u Q I rx ry h
  obtain ⟨a, b, ns, ms, rfl, rfl, ha, hb, q⟩ := h
  cases rx
  cases ry
  obtain ⟨its, r1, p1, _⟩ := I.tuple ha
  obtain ⟨its2, r2, p2, _⟩ := I.tuple hb
  have i1 : IntsAre its ns := Vals.ints r1
  have i2 : IntsAre its2 ms := Vals.ints r2
  have e1 : its.toArray.size = ns.length := by rw [List.size_toArray]; exact i1.length
  have e2 : its2.toArray.size = ms.length := by rw [List.size_toArray]; exact i2.length
  have a1 : ∀ j (g : j < its.toArray.size), ∃ t, its.toArray[j] = .int (ns.getD j 0) t := fun j g => PyProof.Rows.IntsAre.int_at i1 _ _ (by simp at g; simp [g])
  have a2 : ∀ j (g : j < its2.toArray.size), ∃ t, its2.toArray[j] = .int (ms.getD j 0) t := fun j g => PyProof.Rows.IntsAre.int_at i2 _ _ (by simp at g; simp [g])
  have R := rule (A := X.A) (s := s) (e := fun j => decide (ns.getD j 0 = ms.getD j 0)) (r := fun j => lt (ns.getD j 0) (ms.getD j 0)) p1 p2 hu (fun j g1 g2 => by
    obtain ⟨t, et⟩ := a1 j g1
    obtain ⟨t', et'⟩ := a2 j g2
    rw [et, et']
    have zz : (ns.getD j 0 == ms.getD j 0) = decide (ns.getD j 0 = ms.getD j 0) := by
      by_cases w : ns.getD j 0 = ms.getD j 0
      · rw [decide_eq_true w]; exact beq_iff_eq.mpr w
      · rw [decide_eq_false w]; exact beq_eq_false_iff_ne.mpr w
    rw [← zz]
    exact SeqAt.EqAt.int_int _ _ _ _) (fun j g1 g2 _ => by
    obtain ⟨t, et⟩ := a1 j g1
    obtain ⟨t', et'⟩ := a2 j g2
    rw [et, et']
    exact one _ _ _ _)
  rw [e1, e2] at R
  rw [hop]
  exact R X.prog X.w X.xe (EP X pins σ Q) ⟨.bl _, H, I, rfl, q⟩
theorem op_leTT (hu : X.A.units < cLine) : OpR X (compareOp .LtE) (rOrd X.K (fun a b => decide (a ≤ b)) fun a b => decide (a ≤ b)) := op_ordT (fun _ _ => rfl) (fun a b c d e => Ob.RcOp.tuples_le a b c d e) (fun _ _ _ _ => Ob.RcOp.le_int _ _ _ _) hu
theorem op_geTT (hu : X.A.units < cLine) : OpR X (compareOp .GtE) (rOrd X.K (fun a b => decide (a ≥ b)) fun a b => decide (b ≤ a)) := op_ordT (fun _ _ => rfl) (fun a b c d e => Ob.RcOp.tuples_ge a b c d e) (fun _ _ _ _ => Ob.RcOp.ge_int _ _ _ _) hu
theorem op_ltTT (hu : X.A.units < cLine) : OpR X (compareOp .Lt) (rOrd X.K (fun a b => decide (a < b)) fun a b => decide (a < b)) := op_ordT (fun _ _ => rfl) (fun a b c d e => Ob.RcOp.tuples_lt a b c d e) (fun _ _ _ _ => Ob.RcOp.lt_int _ _ _ _) hu
theorem op_gtTT (hu : X.A.units < cLine) : OpR X (compareOp .Gt) (rOrd X.K (fun a b => decide (a > b)) fun a b => decide (b < a)) := op_ordT (fun _ _ => rfl) (fun a b c d e => Ob.RcOp.tuples_gt a b c d e) (fun _ _ _ _ => Ob.RcOp.gt_int _ _ _ _) hu
end
def flatD : D → Bool
  | .non => true
  | .bl _ => true
  | .int _ => true
  | .str _ => true
  | _ => false
def eqF : D → D → Bool
  | .non, .non => true
  | .bl a, .bl b => a == b
  | .bl a, .int b => (if a = true then 1 else 0) == b
  | .int a, .bl b => a == if b = true then 1 else 0
  | .int a, .int b => a == b
  | .str a, .str b => a == b
  | _, _ => false
def inD (a : D) (ds : List D) : Option Bool := if flatD a = true ∧ ds.all flatD = true then some (ds.any fun d => eqF d a) else none
def ordD (iop : Int → Int → Bool) (zop : Nat → Nat → Bool) : D → D → Option Bool
  | .int i, .int j => some (iop i j)
  | .tup xs, .tup ys => match intsL xs, intsL ys with
    | some ns, some ms => some (lexI zop iop ns ms)
    | _, _ => none
  | _, _ => none
def isNon : D → Bool
  | .non => true
  | _ => false
/-- .. by the data -/
def inP (S : Sto) (a : D) (ds : List D) : Option Bool := match py S 60 a, pyL (py S 60) ds with
  | some p, some ps => if SeqAt.shaped p = true ∧ SeqAt.shaped (.list ps) = true then some (ps.any fun z => PyData.eqv z p) else none
  | _, _ => none
def inA (S : Sto) (a : D) (ds : List D) : Option Bool := match inD a ds with
  | some c => some c
  | none => inP S a ds
def memD (a b : D) (S : Sto) : Option Bool := match b with
  | .tup ds => inA S a ds
  | b => (lsD S b).bind (inA S a)
def cmpD (op : CmpOp) (a b : D) (S : Sto) : Option Bool := match op with
  | .Eq => eqD a b S
  | .NotEq => (eqD a b S).map not
  | .Lt => ordD (fun i j => decide (i < j)) (fun i j => decide (i < j)) a b
  | .LtE => ordD (fun i j => decide (i ≤ j)) (fun i j => decide (i ≤ j)) a b
  | .Gt => ordD (fun i j => decide (j < i)) (fun i j => decide (i > j)) a b
  | .GtE => ordD (fun i j => decide (j ≤ i)) (fun i j => decide (i ≥ j)) a b
  | .Is => match b with
    | .non => some (isNon a)
    | _ => none
  | .IsNot => match b with
    | .non => some (!isNon a)
    | _ => none
  | .In => memD a b S
  | .NotIn => (memD a b S).map not
def oB (o : Option Bool) (S : Sto) : Out := o.map fun b => (.bl b, S)
section
variable {K : PySem.W.Frag} {ρ : List Addr} {H : Hp} {S : Sto} {X : Cx}
theorem Is.flat {d : D} {v : V} (h : Is K ρ H d v) (f : flatD d = true) : flatV v = true := by
  cases d with
  | non => cases h.non_eq; rfl
  | bl b => cases h.bl_eq; rfl
  | int b => cases h.int_eq; rfl
  | str b => cases h.str_eq; rfl
  | _ => cases f
theorem Is.eqF {d e : D} {v w : V} (h : Is K ρ H d v) (g : Is K ρ H e w) (f : flatD d = true) (f' : flatD e = true) : eqV v w = Dp.eqF d e := by
  cases d with
  | non =>
    cases h.non_eq
    cases e with
    | non => cases g.non_eq; rfl
    | bl b => cases g.bl_eq; rfl
    | int b => cases g.int_eq; rfl
    | str b => cases g.str_eq; rfl
    | _ => cases f'
  | bl b =>
    cases h.bl_eq
    cases e with
    | non => cases g.non_eq; rfl
    | bl b => cases g.bl_eq; rfl
    | int b => cases g.int_eq; rfl
    | str b => cases g.str_eq; rfl
    | _ => cases f'
  | int b =>
    cases h.int_eq
    cases e with
    | non => cases g.non_eq; rfl
    | bl b => cases g.bl_eq; rfl
    | int b => cases g.int_eq; rfl
    | str b => cases g.str_eq; rfl
    | _ => cases f'
  | str b =>
    cases h.str_eq
    cases e with
    | non => cases g.non_eq; rfl
    | bl b => cases g.bl_eq; rfl
    | int b => cases g.int_eq; rfl
    | str b => cases g.str_eq; rfl
    | _ => cases f'
  | _ => cases f
theorem IsAll.flat : ∀ {ds : List D} {vs : List V}, IsAll K ρ H ds vs → ds.all flatD = true → vs.all flatV = true
  | [], vs, h, _ => by rw [h.nil_eq]; rfl
  | d :: ds, vs, h, f => by
    obtain ⟨x, xs, rfl, a, b⟩ := h.uncons
    rw [List.all_cons, Bool.and_eq_true] at f ⊢
    exact ⟨a.flat f.1, b.flat f.2⟩
theorem IsAll.any {e : D} {w : V} (g : Is K ρ H e w) (f' : flatD e = true) : ∀ {ds : List D} {vs : List V}, IsAll K ρ H ds vs → ds.all flatD = true → (vs.any fun y => eqV y w) = ds.any fun d => eqF d e
  | [], vs, h, _ => by rw [h.nil_eq]; rfl
  | d :: ds, vs, h, f => by
    obtain ⟨x, xs, rfl, a, b⟩ := h.uncons
    rw [List.all_cons, Bool.and_eq_true] at f
    rw [List.any_cons, List.any_cons, a.eqF g f.1 f', IsAll.any g f' b f.2]
theorem inD_ok {a : D} {ds : List D} {x : V} {vs : List V} {c : Bool} (ia : Is K ρ H a x) (ib : IsAll K ρ H ds vs) (e : inD a ds = some c) : flatV x = true ∧ vs.all flatV = true ∧ inV x vs = c := by
  unfold inD at e
  split at e
  · rename_i h
    cases e
    exact ⟨ia.flat h.1, ib.flat h.2, IsAll.any ia h.1 ib h.2⟩
  · cases e
theorem PO.bl {o : Option Bool} {Q : VK} (h : PO K ρ H (oB o S) Q) (r : R K ρ H S) : ∃ c, o = some c ∧ Q (.bl c) H := by
  cases o with
  | none => exact h.elim
  | some c => exact ⟨c, rfl, PO.val h r Is.bl'⟩
theorem ordD_cases {iop : Int → Int → Bool} {zop : Nat → Nat → Bool} {a b : D} {c : Bool} (e : ordD iop zop a b = some c) :
    (∃ i j, a = .int i ∧ b = .int j ∧ c = iop i j) ∨ ∃ xs ys ns ms, a = .tup xs ∧ b = .tup ys ∧ intsL xs = some ns ∧ intsL ys = some ms ∧ c = lexI zop iop ns ms := by
  unfold ordD at e
  split at e
  · cases e; exact .inl ⟨_, _, rfl, rfl, rfl⟩
  · split at e
    · rename_i e1 e2; cases e; exact .inr ⟨_, _, _, _, rfl, rfl, e1, e2, rfl⟩
    · cases e
  · cases e
theorem ord_ok {op : CmpOp} {iop : Int → Int → Bool} {zop : Nat → Nat → Bool} (h1 : OpR X (compareOp op) (rI0 fun i j => .bl (iop i j))) (h2 : OpR X (compareOp op) (rOrd X.K zop iop)) : OpR X (compareOp op) (RD X.K fun a b S => oB (ordD iop zop a b) S) := by
  intro pins s σ H x y v u Q I rx ry h
  obtain ⟨ρ, S, a, b, r, ia, ib, q⟩ := h
  obtain ⟨c, e, q⟩ := PO.bl q r
  rcases ordD_cases e with ⟨i, j, rfl, rfl, rfl⟩ | ⟨xs, ys, ns, ms, rfl, rfl, e1, e2, rfl⟩
  · cases ia.int_eq; cases ib.int_eq
    exact h1 pins s σ H _ _ v u Q I rx ry ⟨_, _, rfl, rfl, q⟩
  · obtain ⟨a, vs, rfl, ha, ra⟩ := ia.tupAt
    obtain ⟨b, ws, rfl, hb, rb⟩ := ib.tupAt
    cases intsL_is e1 ra
    cases intsL_is e2 rb
    exact h2 pins s σ H _ _ v u Q I rx ry ⟨a, b, ns, ms, rfl, rfl, ha, hb, q⟩
theorem inP_ok (r : R K ρ H S) {a : D} {ds : List D} {x : V} {vs : List V} {c : Bool} (ia : Is K ρ H a x) (ib : IsAll K ρ H ds vs) (e : inP S a ds = some c) :
    ∃ p ps, L2.Dp K H x p ∧ L2.DpAll K H vs ps ∧ SeqAt.shaped p = true ∧ SeqAt.shaped (.list ps) = true ∧ (ps.any fun z => PyData.eqv z p) = c := by
  unfold inP at e
  split at e
  · rename_i p ps e1 e2
    split at e
    · rename_i hs
      cases e
      exact ⟨p, ps, py_dp r _ e1 ia, py_all _ (fun e h => py_dp r _ e h) e2 ib, hs.1, hs.2, rfl⟩
    · cases e
  · cases e
theorem in_ok (hu : X.A.units + 65 < cLine) : OpR X (compareOp .In) (RD X.K fun a b S => oB (memD a b S) S) := by
  intro pins s σ H x y v u Q I rx ry h
  obtain ⟨ρ, S, a, b, r, ia, ib, q⟩ := h
  obtain ⟨c, e, q⟩ := PO.bl q r
  have key : ∀ {ds : List D} {p : Addr} {vs : List V}, y = .ref p → (SqL X.K H p vs ∨ SqT X.K H p vs) → IsAll X.K ρ H ds vs → inA S a ds = some c → wpAny (model X.prog X.w) X.A (compareOp .In v u) (EP X pins σ Q) X.xe s := fun {ds p vs} hy hq rp e => by
    subst hy
    unfold inA at e
    cases z : inD a ds with
    | some d =>
      rw [z] at e; cases e
      obtain ⟨f1, f2, f3⟩ := inD_ok ia rp z
      exact op_in_seq pins s σ H _ _ v u Q I rx ry ⟨p, vs, rfl, hq, f1, f2, by rw [f3]; exact q⟩
    | none =>
      rw [z] at e
      obtain ⟨d, ps, h1, h2, h3, h4, rfl⟩ := inP_ok r ia rp e
      rcases hq with hq | hq
      · exact op_inD hu pins s σ H _ _ v u Q I rx ry ⟨d, ps, h1, .lst hq h2, h3, h4, q⟩
      · obtain ⟨as, r1⟩ := L2.Dp.reads I d x v h1 rx
        obtain ⟨bs, r2⟩ := L2.Dp.reads I (.tuple ps) _ u (.tup hq h2) ry
        exact SeqAt.in_tuple_reads r2 r1 (SeqAt.canLay_of_shaped h4) (SeqAt.canLay_of_shaped h3) (room_in_shaped h3 hu) ⟨.bl _, H, I, rfl, q⟩
  unfold memD at e
  split at e
  · rename_i ds
    obtain ⟨p, vs, hy, hp, rp⟩ := ib.tupAt
    exact key hy (.inr hp) rp e
  · cases z : lsD S b with
    | none => rw [z] at e; cases e
    | some ds =>
      rw [z] at e
      obtain ⟨p, vs, hy, hp, rp⟩ := r.lsD z ib
      exact key hy (.inl hp) rp e
theorem notIn_ok (hu : X.A.units + 65 < cLine) : OpR X (compareOp .NotIn) (RD X.K fun a b S => oB ((memD a b S).map not) S) := by
  intro pins s σ H x y v u Q I rx ry h
  obtain ⟨ρ, S, a, b, r, ia, ib, q⟩ := h
  obtain ⟨c, e, q⟩ := PO.bl q r
  cases e0 : memD a b S with
  | none => rw [e0] at e; cases e
  | some c0 =>
  rw [e0] at e; cases e
  have e := e0
  have key : ∀ {ds : List D} {p : Addr} {vs : List V}, y = .ref p → (SqL X.K H p vs ∨ SqT X.K H p vs) → IsAll X.K ρ H ds vs → inA S a ds = some c0 → wpAny (model X.prog X.w) X.A (compareOp .NotIn v u) (EP X pins σ Q) X.xe s := fun {ds p vs} hy hq rp e => by
    subst hy
    unfold inA at e
    cases z : inD a ds with
    | some d =>
      rw [z] at e; cases e
      obtain ⟨f1, f2, f3⟩ := inD_ok ia rp z
      exact op_notIn_seq pins s σ H _ _ v u Q I rx ry ⟨p, vs, rfl, hq, f1, f2, by rw [f3]; exact q⟩
    | none =>
      rw [z] at e
      obtain ⟨d, ps, h1, h2, h3, h4, rfl⟩ := inP_ok r ia rp e
      rcases hq with hq | hq
      · exact op_notInD hu pins s σ H _ _ v u Q I rx ry ⟨d, ps, h1, .lst hq h2, h3, h4, q⟩
      · obtain ⟨as, r1⟩ := L2.Dp.reads I d x v h1 rx
        obtain ⟨bs, r2⟩ := L2.Dp.reads I (.tuple ps) _ u (.tup hq h2) ry
        exact SeqAt.notIn_tuple_reads r2 r1 (SeqAt.canLay_of_shaped h4) (SeqAt.canLay_of_shaped h3) (room_in_shaped h3 hu) ⟨.bl _, H, I, rfl, q⟩
  unfold memD at e
  split at e
  · rename_i ds
    obtain ⟨p, vs, hy, hp, rp⟩ := ib.tupAt
    exact key hy (.inr hp) rp e
  · cases z : lsD S b with
    | none => rw [z] at e; cases e
    | some ds =>
      rw [z] at e
      obtain ⟨p, vs, hy, hp, rp⟩ := r.lsD z ib
      exact key hy (.inl hp) rp e
theorem isNon_ok {a : D} {x : V} (ia : Is K ρ H a x) : decide (x = .non) = isNon a := by
  cases a with
  | non => cases ia.non_eq; rfl
  | bl b => cases ia.bl_eq; rfl
  | int b => cases ia.int_eq; rfl
  | str b => cases ia.str_eq; rfl
  | tup ds => obtain ⟨p, vs, rfl, _⟩ := ia.tupAt; rfl
  | ref n => unfold Is at ia; obtain ⟨p, _, rfl⟩ := ia; rfl
  | con a => unfold Is at ia; subst ia; rfl
  | ty n => unfold Is at ia; subst ia; rfl
  | adr a => unfold Is at ia; subst ia; rfl
  | lv ds => obtain ⟨p, vs, rfl, _⟩ := ia.lvAt; rfl
  | dv ks ds => unfold Is at ia; obtain ⟨p, vs, rfl, _⟩ := ia; rfl
  | dw ks ds => unfold Is at ia; obtain ⟨p, od, vs, rfl, _⟩ := ia; rfl
  | exv c an ds => unfold Is at ia; obtain ⟨p, vs, rfl, _⟩ := ia; rfl
  | kt ks => obtain ⟨p, rfl, _⟩ := ia.ktAt; rfl
theorem OpR.congr {f : Value → Value → Sem Value} {k k' : D → D → Sto → Out} (h : OpR X f (RD X.K k)) (e : ∀ a b S, k' a b S = k a b S) : OpR X f (RD X.K k') := by
  have : k' = k := by funext a b S; exact e a b S
  rw [this]; exact h
theorem cmpD_ok (hu : X.A.units + 65 < cLine) (op : CmpOp) : OpR X (compareOp op) (RD X.K fun a b S => oB (cmpD op a b S) S) := by
  cases op with
  | Lt => exact ord_ok op_lt (op_ltTT (by omega))
  | LtE => exact ord_ok op_le (op_leTT (by omega))
  | Gt => exact ord_ok op_gt (op_gtTT (by omega))
  | GtE => exact ord_ok op_ge (op_geTT (by omega))
  | Eq =>
    intro pins s σ H x y v u Q I rx ry h
    obtain ⟨ρ, S, a, b, r, ia, ib, q⟩ := h
    obtain ⟨c, e, q⟩ := PO.bl q r
    obtain ⟨p, t, hp, ht, sp, st, rfl⟩ := eqD_ok r ia ib e
    exact op_eqD (by omega) pins s σ H _ _ v u Q I rx ry ⟨p, t, hp, ht, sp, st, q⟩
  | NotEq =>
    intro pins s σ H x y v u Q I rx ry h
    obtain ⟨ρ, S, a, b, r, ia, ib, q⟩ := h
    obtain ⟨c, e, q⟩ := PO.bl q r
    have e : (eqD a b S).map not = some c := e
    cases z : eqD a b S with
    | none => rw [z] at e; cases e
    | some d =>
      rw [z] at e; cases e
      obtain ⟨p, t, hp, ht, sp, st, rfl⟩ := eqD_ok r ia ib z
      exact op_neD (by omega) pins s σ H _ _ v u Q I rx ry ⟨p, t, hp, ht, sp, st, q⟩
  | Is =>
    intro pins s σ H x y v u Q I rx ry h
    obtain ⟨ρ, S, a, b, r, ia, ib, q⟩ := h
    obtain ⟨c, e, q⟩ := PO.bl q r
    cases b with
    | non =>
      cases e
      cases ib.non_eq
      exact op_isN pins s σ H _ _ v u Q I rx ry ⟨rfl, by rw [isNon_ok ia]; exact q⟩
    | _ => cases e
  | IsNot =>
    intro pins s σ H x y v u Q I rx ry h
    obtain ⟨ρ, S, a, b, r, ia, ib, q⟩ := h
    obtain ⟨c, e, q⟩ := PO.bl q r
    cases b with
    | non =>
      cases e
      cases ib.non_eq
      exact op_notN pins s σ H _ _ v u Q I rx ry ⟨rfl, by rw [isNon_ok ia]; exact q⟩
    | _ => cases e
  | In => exact in_ok hu
  | NotIn => exact notIn_ok hu
end

/-! ### items, slices -/
def ixD (a b : D) (S : Sto) : Out := match a, b with
  | .tup ds, .int i => (atI ds i).map fun d => (d, S)
  | .kt ks, .int i => (atI (ks.map dKey) i).map fun d => (d, S)
  | a, .int i => (lsD S a).bind fun ds => (atI ds i).map fun d => (d, S)
  | _, _ => none
section
variable {K : PySem.W.Frag} {ρ : List Addr} {H : Hp} {S : Sto} {X : Cx}
theorem IsAll.atI {ds : List D} {vs : List V} {i : Int} {d : D} (h : IsAll K ρ H ds vs) (e : L2.atI ds i = some d) : ∃ v, L2.atI vs i = some v ∧ Is K ρ H d v := by
  unfold L2.atI at e ⊢
  rw [← h.length]
  cases z : ixN ds.length i with
  | none => rw [z] at e; cases e
  | some j =>
    rw [z] at e
    exact h.get j e
theorem ixD_ok : IxR X (RD X.K ixD) := by
  intro value slice pins s σ H x y v u Q I rx ry h hs
  obtain ⟨ρ, S, a, b, r, ia, ib, q⟩ := h
  unfold ixD at q
  split at q
  · rename_i ds i
    cases ib.int_eq
    obtain ⟨p, vs, rfl, hp, rp⟩ := ia.tupAt
    cases z : atI ds i with
    | none => rw [z] at q; exact q.elim
    | some d =>
      rw [z] at q
      obtain ⟨w, hw, iw⟩ := rp.atI z
      exact ix_tup value slice pins s σ H _ _ v u Q I rx ry ⟨p, vs, i, w, rfl, rfl, hp, hw, PO.val q r iw⟩ hs
  · rename_i ks i
    cases ib.int_eq
    obtain ⟨p, vs, rfl, hp, rp⟩ := Is.tupOf (ds := ks.map dKey) rfl ia
    cases z : atI (ks.map dKey) i with
    | none => rw [z] at q; exact q.elim
    | some d =>
      rw [z] at q
      obtain ⟨w, hw, iw⟩ := rp.atI z
      exact ix_tup value slice pins s σ H _ _ v u Q I rx ry ⟨p, vs, i, w, rfl, rfl, hp, hw, PO.val q r iw⟩ hs
  · rename_i a' i _ _
    cases ib.int_eq
    cases z0 : lsD S a with
    | none => rw [z0] at q; exact q.elim
    | some ds =>
      rw [z0] at q
      obtain ⟨p, vs, rfl, hp, rp⟩ := r.lsD z0 ia
      cases z : atI ds i with
      | none => rw [Option.bind_some, z] at q; exact q.elim
      | some d =>
        rw [Option.bind_some, z] at q
        obtain ⟨w, hw, iw⟩ := rp.atI z
        exact ix_list value slice pins s σ H _ _ v u Q I rx ry ⟨p, vs, i, w, rfl, rfl, hp, hw, PO.val q r iw⟩ hs
  · exact q.elim
def cutD (ds : List D) (lo hi : Option Int) : List D := (ds.drop (HT.sIx ds.length 0 lo)).take (HT.sIx ds.length ds.length hi - HT.sIx ds.length 0 lo)
theorem IsAll.cut {ds : List D} {vs : List V} (h : IsAll K ρ H ds vs) (lo hi : Option Int) : IsAll K ρ H (cutD ds lo hi) (cutV vs lo hi) := by
  unfold cutD cutV
  rw [← h.length]
  exact (h.drop _).take _
def slD (own : Bool) (a : D) (lo hi : Option Int) (S : Sto) : Out := match a with
  | .tup ds => some (.tup (cutD ds lo hi), S)
  | a => (lsD S a).bind fun ds => newL own (cutD ds lo hi) S
theorem cut_whole {ds : List D} {lo hi : Option Int} (h : HT.sIx ds.length 0 lo = 0 ∧ HT.sIx ds.length ds.length hi = ds.length) : cutD ds lo hi = ds := by
  unfold cutD
  rw [h.1, h.2]
  simp
theorem slD_ok (own : Bool) : SlR X (fun x lo hi H Q => ∃ ρ S a, R X.K ρ H S ∧ Is X.K ρ H a x ∧ PO X.K ρ H (slD own a lo hi S) Q) := by
  intro pins s σ H x v vl vu lo hi sl Q I rx hs pl pu h
  obtain ⟨ρ, S, a, r, ia, q⟩ := h
  unfold slD at q
  split at q
  · rename_i ds
    have ia0 := ia
    obtain ⟨p, vs, rfl, hp, rp⟩ := ia.tupAt
    refine sl_tupA pins s σ H _ v vl vu lo hi sl Q I rx hs pl pu ⟨p, vs, rfl, hp, fun e => ?_, fun e p' hp' => q.tup r (rp.cut lo hi) hp'⟩
    rw [← rp.length] at e
    rw [cut_whole e] at q
    exact PO.val q r ia0
  · cases z0 : lsD S a with
    | none => rw [z0] at q; exact q.elim
    | some ds =>
      rw [z0] at q
      obtain ⟨p, vs, rfl, hp, rp⟩ := r.lsD z0 ia
      exact sl_list pins s σ H _ v vl vu lo hi sl Q I rx hs pl pu ⟨p, vs, rfl, hp, fun p' hp' => PO.newL q r (rp.cut lo hi) hp'⟩
end
end Dp
end
section
set_option Elab.async false
set_option linter.all false
set_option maxRecDepth 100000
set_option maxHeartbeats 4000000
namespace Dp
open PySem PySem.Spec PyProof.Rows L2

/-! ### dicts -/
def keyOf : D → Option Key
  | .int i => some (.inl i)
  | .str x => some (.inr x)
  | _ => none
section
variable {κ : Type} [DecidableEq κ]
def valD (kvs : List (κ × D)) (k : κ) : Option D := (kvs.find? fun p => decide (p.1 = k)).map (·.2)
def putD (kvs : List (κ × D)) (k : κ) (d : D) : List (κ × D) := if (kvs.any fun p => decide (p.1 = k)) = true then kvs.map (fun p => if p.1 = k then (p.1, d) else p) else kvs ++ [(k, d)]
variable {K : PySem.W.Frag} {ρ : List Addr} {H : Hp}
/-- pairs told by pairs -/
def IsKv (K : PySem.W.Frag) (ρ : List Addr) (H : Hp) (kvs : List (κ × D)) (ks : List (κ × V)) : Prop := ks.map (·.1) = kvs.map (·.1) ∧ IsAll K ρ H (kvs.map (·.2)) (ks.map (·.2))
theorem IsKv.nil : IsKv K ρ H ([] : List (κ × D)) [] := ⟨rfl, .nil⟩
theorem IsKv.nil_eq {ks : List (κ × V)} (h : IsKv K ρ H [] ks) : ks = [] := by
  have := h.1
  cases ks with
  | nil => rfl
  | cons _ _ => cases this
theorem IsKv.uncons {k : κ} {d : D} {kvs : List (κ × D)} {ks : List (κ × V)} (h : IsKv K ρ H ((k, d) :: kvs) ks) : ∃ v r, ks = (k, v) :: r ∧ Is K ρ H d v ∧ IsKv K ρ H kvs r := by
  obtain ⟨h1, h2⟩ := h
  cases ks with
  | nil => cases h1
  | cons p r =>
    obtain ⟨k', v⟩ := p
    have e : k' = k := (List.cons.inj h1).1
    subst e
    obtain ⟨x, xs, e2, a, b⟩ := h2.uncons
    cases e2
    exact ⟨v, r, rfl, a, (List.cons.inj h1).2, b⟩
theorem IsKv.cons {k : κ} {d : D} {v : V} {kvs : List (κ × D)} {ks : List (κ × V)} (a : Is K ρ H d v) (b : IsKv K ρ H kvs ks) : IsKv K ρ H ((k, d) :: kvs) ((k, v) :: ks) :=
  ⟨by rw [List.map_cons, List.map_cons, b.1], .cons a b.2⟩
theorem IsKv.length {kvs : List (κ × D)} {ks : List (κ × V)} (h : IsKv K ρ H kvs ks) : ks.length = kvs.length := by
  have := congrArg List.length h.1
  simpa using this
theorem IsKv.ext {ρ' : List Addr} {H' : Hp} (e : Ext K ρ H ρ' H') {kvs : List (κ × D)} {ks : List (κ × V)} (h : IsKv K ρ H kvs ks) : IsKv K ρ' H' kvs ks := ⟨h.1, h.2.ext e⟩
def IsO (K : PySem.W.Frag) (ρ : List Addr) (H : Hp) : Option D → Option V → Prop
  | some d, some v => Is K ρ H d v
  | none, none => True
  | _, _ => False
theorem IsKv.val (k : κ) : ∀ {kvs : List (κ × D)} {ks : List (κ × V)}, IsKv K ρ H kvs ks → IsO K ρ H (valD kvs k) (valV ks k)
  | [], ks, h => by rw [h.nil_eq]; trivial
  | (k', d) :: kvs, ks, h => by
    obtain ⟨v, r, rfl, a, b⟩ := h.uncons
    by_cases e : k' = k
    · rw [valV_pos (p := (k', v)) e]
      have : valD ((k', d) :: kvs) k = some d := by simp [valD, List.find?_cons, e]
      rw [this]
      exact a
    · rw [valV_neg (p := (k', v)) e]
      have : valD ((k', d) :: kvs) k = valD kvs k := by simp [valD, List.find?_cons, e]
      rw [this]
      exact b.val k
theorem IsKv.any (k : κ) : ∀ {kvs : List (κ × D)} {ks : List (κ × V)}, IsKv K ρ H kvs ks → (ks.any fun p => decide (p.1 = k)) = kvs.any fun p => decide (p.1 = k)
  | [], ks, h => by rw [h.nil_eq]; rfl
  | (k', d) :: kvs, ks, h => by
    obtain ⟨v, r, rfl, a, b⟩ := h.uncons
    rw [List.any_cons, List.any_cons, b.any k]
theorem IsKv.mapPut (k : κ) {d : D} {v : V} (i : Is K ρ H d v) : ∀ {kvs : List (κ × D)} {ks : List (κ × V)}, IsKv K ρ H kvs ks →
    IsKv K ρ H (kvs.map fun p => if p.1 = k then (p.1, d) else p) (ks.map fun p => if p.1 = k then (p.1, v) else p)
  | [], ks, h => by rw [h.nil_eq]; exact .nil
  | (k', d') :: kvs, ks, h => by
    obtain ⟨v', r, rfl, a, b⟩ := h.uncons
    rw [List.map_cons, List.map_cons]
    by_cases e : k' = k
    · rw [if_pos e, if_pos e]; exact .cons i (b.mapPut k i)
    · rw [if_neg e, if_neg e]; exact .cons a (b.mapPut k i)
theorem IsKv.append : ∀ {kvs kvs' : List (κ × D)} {ks ks' : List (κ × V)}, IsKv K ρ H kvs ks → IsKv K ρ H kvs' ks' → IsKv K ρ H (kvs ++ kvs') (ks ++ ks')
  | [], _, ks, _, h, g => by rw [h.nil_eq]; exact g
  | (k', d') :: kvs, _, ks, _, h, g => by
    obtain ⟨v', r, rfl, a, b⟩ := h.uncons
    exact .cons a (b.append g)
theorem IsKv.put {kvs : List (κ × D)} {ks : List (κ × V)} (h : IsKv K ρ H kvs ks) (k : κ) {d : D} {v : V} (i : Is K ρ H d v) : IsKv K ρ H (putD kvs k d) (putK ks k v) := by
  unfold putD putK
  rw [h.any k]
  split
  · exact h.mapPut k i
  · exact h.append (.cons i .nil)
theorem IsO.ext {ρ' : List Addr} {H' : Hp} (e : Ext K ρ H ρ' H') {o : Option D} {p : Option V} (h : IsO K ρ H o p) : IsO K ρ' H' o p := by
  cases o <;> cases p <;> first | exact Is.ext e h | exact h
end
def mergeD (kvs : List (Key × D)) (more : List (Key × D)) : List (Key × D) := more.foldl (fun acc p => putD acc p.1 p.2) kvs
theorem IsKv.merge {K : PySem.W.Frag} {ρ : List Addr} {H : Hp} : ∀ {more : List (Key × D)} {ms : List (Key × V)} {kvs : List (Key × D)} {ks : List (Key × V)}, IsKv K ρ H more ms → IsKv K ρ H kvs ks → IsKv K ρ H (mergeD kvs more) (mergeK ks ms)
  | [], ms, _, _, h, g => by rw [h.nil_eq]; exact g
  | (k, d) :: more, ms, _, _, h, g => by
    obtain ⟨v, r, rfl, a, b⟩ := h.uncons
    show IsKv K ρ H (mergeD (putD _ k d) more) (mergeK (putK _ k v) r)
    exact IsKv.merge b (g.put k a)
theorem key_is {K : PySem.W.Frag} {ρ : List Addr} {H : Hp} {d : D} {k : Key} {y : V} (e : keyOf d = some k) (i : Is K ρ H d y) : y = kV k := by
  cases d with
  | int n => cases e; exact i.int_eq
  | str n => cases e; exact i.str_eq
  | _ => cases e
def ktOf : D → Option (List Key)
  | .kt k => some k
  | _ => none
/-- a dict's pairs, with texts and ints as keys, with tuples of them as keys -/
def dkOf (S : Sto) : D → Option (List (Key × D))
  | .ref n => match S[n]? with
    | some (.dk kvs) => some kvs
    | _ => none
  | .dv ks ds => some (ks.zip ds)
  | _ => none
def dtOf (S : Sto) : D → Option (List (List Key × D))
  | .ref n => match S[n]? with
    | some (.dt kvs) => some kvs
    | some (.ft kvs) => some kvs
    | _ => none
  | .dw ks ds => some (ks.zip ds)
  | _ => none
/-- what a dict holds for a key -/
def dgetA (S : Sto) (a b : D) : Option (Option D) := match dkOf S a, dtOf S a with
  | some kvs, _ => (keyOf b).map (valD kvs)
  | none, some kvs => (ktOf b).map (valD kvs)
  | none, none => none
section
variable {K : PySem.W.Frag} {ρ : List Addr} {H : Hp} {S : Sto} {X : Cx}
theorem R.dkAt (r : R K ρ H S) {n : Nat} {kvs : List (Key × D)} {v : V} (e : S[n]? = some (.dk kvs)) (i : Is K ρ H (.ref n) v) : ∃ a ks, v = .ref a ∧ ρ[n]? = some a ∧ H a = some (.dK ks) ∧ IsKv K ρ H kvs ks := by
  unfold Is at i
  obtain ⟨a, ha, rfl⟩ := i
  obtain ⟨b, hb, ks, hx, hi⟩ := r.obj n _ e
  rw [ha] at hb; cases hb
  exact ⟨a, ks, rfl, ha, hx, hi⟩
theorem IsKv.zip {κ : Type} [DecidableEq κ] {ks : List κ} {ds : List D} {kvs : List (κ × V)} (h1 : kvs.map (·.1) = ks) (h2 : IsAll K ρ H ds (kvs.map (·.2))) : IsKv K ρ H (ks.zip ds) kvs := by
  have l1 : ks.length = ds.length := by rw [h2.length, ← h1]; simp
  exact ⟨by rw [h1, List.map_fst_zip (by omega)], by rw [List.map_snd_zip (by omega)]; exact h2⟩
theorem dkOf_ok (r : R K ρ H S) {a : D} {kvs : List (Key × D)} {v : V} (e : dkOf S a = some kvs) (i : Is K ρ H a v) : ∃ p ks, v = .ref p ∧ H p = some (.dK ks) ∧ IsKv K ρ H kvs ks := by
  cases a with
  | ref n =>
    unfold dkOf at e
    dsimp only at e
    split at e
    · rename_i z
      cases e
      obtain ⟨p, ks, rfl, _, ha, hk⟩ := r.dkAt z i
      exact ⟨p, ks, rfl, ha, hk⟩
    · cases e
  | dv ks ds =>
    cases e
    unfold Is at i
    obtain ⟨p, xs, rfl, h1, _, h3, h4⟩ := i
    exact ⟨p, xs, rfl, h1, .zip h3 h4⟩
  | _ => cases e
theorem R.dtAt (r : R K ρ H S) {n : Nat} {kvs : List (List Key × D)} {v : V} (e : S[n]? = some (.dt kvs)) (i : Is K ρ H (.ref n) v) : ∃ a ks, v = .ref a ∧ ρ[n]? = some a ∧ H a = some (.dT ks) ∧ IsKv K ρ H kvs ks := by
  unfold Is at i
  obtain ⟨a, ha, rfl⟩ := i
  obtain ⟨b, hb, ks, hx, hi⟩ := r.obj n _ e
  rw [ha] at hb; cases hb
  exact ⟨a, ks, rfl, ha, hx, hi⟩
theorem R.ftAt (r : R K ρ H S) {n : Nat} {kvs : List (List Key × D)} {v : V} (e : S[n]? = some (.ft kvs)) (i : Is K ρ H (.ref n) v) : ∃ a od ks, v = .ref a ∧ ρ[n]? = some a ∧ H a = some (.frz od (.dT ks)) ∧ IsKv K ρ H kvs ks := by
  unfold Is at i
  obtain ⟨a, ha, rfl⟩ := i
  obtain ⟨b, hb, od, ks, hx, hi⟩ := r.obj n _ e
  rw [ha] at hb; cases hb
  exact ⟨a, od, ks, rfl, ha, hx, hi⟩
theorem dtOf_ok (r : R K ρ H S) {a : D} {kvs : List (List Key × D)} {v : V} (e : dtOf S a = some kvs) (i : Is K ρ H a v) : ∃ p ks, v = .ref p ∧ Rd H p (.dT ks) ∧ IsKv K ρ H kvs ks := by
  cases a with
  | ref n =>
    unfold dtOf at e
    dsimp only at e
    split at e
    · rename_i z
      cases e
      obtain ⟨p, ks, rfl, _, ha, hk⟩ := r.dtAt z i
      exact ⟨p, ks, rfl, .inl ha, hk⟩
    · rename_i z
      cases e
      obtain ⟨p, od, ks, rfl, _, ha, hk⟩ := r.ftAt z i
      exact ⟨p, ks, rfl, .inr ⟨od, ha⟩, hk⟩
    · cases e
  | dw ks ds =>
    cases e
    unfold Is at i
    obtain ⟨p, od, xs, rfl, h1, h3, h4⟩ := i
    exact ⟨p, xs, rfl, .inr ⟨od, h1⟩, .zip h3 h4⟩
  | _ => cases e
theorem kt_is {d : D} {k : List Key} {y : V} (e : ktOf d = some k) (i : Is K ρ H d y) : ∃ b, y = .ref b ∧ H b = some (.tup (k.map kV)) := by
  cases d with
  | kt ks => cases e; exact i.ktAt
  | _ => cases e
theorem dget_ok (r : R K ρ H S) {a b : D} {o : Option D} {v y : V} (e : dgetA S a b = some o) (i : Is K ρ H a v) (j : Is K ρ H b y) : ∃ p w, v = .ref p ∧ DGet H p y w ∧ IsO K ρ H o w := by
  unfold dgetA at e
  split at e
  · rename_i kvs q
    obtain ⟨p, ks, rfl, ha, hk⟩ := dkOf_ok r q i
    cases z : keyOf b with
    | none => rw [z] at e; cases e
    | some k =>
      rw [z] at e; cases e
      exact ⟨p, _, rfl, .inl ⟨ks, k, .inl ha, key_is z j, rfl⟩, hk.val k⟩
  · rename_i kvs _ q
    obtain ⟨p, ks, rfl, ha, hk⟩ := dtOf_ok r q i
    cases z : ktOf b with
    | none => rw [z] at e; cases e
    | some k =>
      rw [z] at e; cases e
      obtain ⟨c, rfl, hc⟩ := kt_is z j
      exact ⟨p, _, rfl, .inr ⟨ks, k, c, ha, rfl, hc, rfl⟩, hk.val k⟩
  · cases e
def isSeqD (S : Sto) : D → Bool
  | .ref n => (lstOf S n).isSome
  | .dv _ _ => false
  | .dw _ _ => false
  | _ => true
def ixA (a b : D) (S : Sto) : Out := if isSeqD S a = true then ixD a b S else (dgetA S a b).bind fun o => o.map fun d => (d, S)
theorem ixA_ok (hu : X.A.units + 1 < cLine) : IxR X (RD X.K ixA) := by
  intro value slice pins s σ H x y v u Q I rx ry h hs
  obtain ⟨ρ, S, a, b, r, ia, ib, q⟩ := h
  unfold ixA at q
  split at q
  · exact ixD_ok value slice pins s σ H x y v u Q I rx ry ⟨ρ, S, _, b, r, ia, ib, q⟩ hs
  · cases z : dgetA S a b with
    | none => rw [z] at q; exact q.elim
    | some o =>
      rw [z] at q
      obtain ⟨p, w, rfl, g, io⟩ := dget_ok r z ia ib
      cases o with
      | none => exact q.elim
      | some d =>
        cases w with
        | none => exact io.elim
        | some w =>
          obtain rfl : v = Value.ref p := rx
          exact PyProof.Rows.tail_any (dict_typeIs I g) PySem.F.slot_dict_getitem.lookup (d_getItem hu I g ry fun w' s3 I3 rw' => ⟨w, H, I3, rw', PO.val q r io⟩) hs
/-- d[k] = v -/
def dsetD (S : Sto) (n : Nat) (b d : D) : Option Sto := match S[n]? with
  | some (.dk kvs) => match keyOf b with
    | some k => if kvs.length < sizeLine then some (S.set n (.dk (putD kvs k d))) else none
    | none => none
  | some (.dt kvs) => match ktOf b with
    | some k => if kvs.length < sizeLine then some (S.set n (.dt (putD kvs k d))) else none
    | none => none
  | _ => none
theorem dset_ok (r : R K ρ H S) {n : Nat} {b d : D} {S' : Sto} {v y x : V} (e : dsetD S n b d = some S') (i : Is K ρ H (.ref n) v) (j : Is K ρ H b y) (k : Is K ρ H d x) : ∃ a H', v = .ref a ∧ DPut H a y x H' ∧ R K ρ H' S' ∧ Ext K ρ H ρ H' := by
  unfold dsetD at e
  split at e
  · rename_i kvs q
    obtain ⟨a, ks, rfl, ha, hx, hk⟩ := r.dkAt q i
    split at e
    · rename_i key z
      split at e
      · rename_i hz
        cases e
        refine ⟨a, _, rfl, .inl ⟨ks, key, hx, key_is z j, by rw [hk.length]; exact hz, rfl⟩, ?_, ext_write hx (.inr (.inl ⟨_, rfl⟩)) ha⟩
        exact r.write hx (.inr (.inl ⟨_, rfl⟩)) ha ⟨_, upd_same, (hk.put key k).ext (ext_write hx (.inr (.inl ⟨_, rfl⟩)) ha)⟩
      · cases e
    · cases e
  · rename_i kvs q
    obtain ⟨a, ks, rfl, ha, hx, hk⟩ := r.dtAt q i
    split at e
    · rename_i key z
      split at e
      · rename_i hz
        cases e
        obtain ⟨c, rfl, hc⟩ := kt_is z j
        refine ⟨a, _, rfl, .inr ⟨ks, key, c, hx, rfl, hc, by rw [hk.length]; exact hz, rfl⟩, ?_, ext_write hx (.inr (.inr ⟨_, rfl⟩)) ha⟩
        exact r.write hx (.inr (.inr ⟨_, rfl⟩)) ha ⟨_, upd_same, (hk.put key k).ext (ext_write hx (.inr (.inr ⟨_, rfl⟩)) ha)⟩
      · cases e
    · cases e
  · cases e
/-- xs[i] = v -/
def lsetD (S : Sto) (n : Nat) (b d : D) : Option Sto := match S[n]?, b with
  | some (.lst ds), .int i => (ixN ds.length i).map fun j => S.set n (.lst (ds.set j d))
  | _, _ => none
def setD (S : Sto) (n : Nat) (b d : D) : Option Sto := match S[n]? with
  | some (.lst _) => lsetD S n b d
  | _ => dsetD S n b d
def rSetA (K : PySem.W.Frag) : TSet := fun o i v H Q => ∃ ρ S n b d S', R K ρ H S ∧ Is K ρ H (.ref n) o ∧ Is K ρ H b i ∧ Is K ρ H d v ∧ setD S n b d = some S' ∧ ∀ H', R K ρ H' S' → Ext K ρ H ρ H' → Q H'
theorem setA_ok (hu : X.A.units + 1 < cLine) : PSet X (rSetA X.K) := by
  intro pins s σ H o i v ov iv u Q I ro ri rv h
  obtain ⟨ρ, S, n, b, d, S', r, io, ii, id, e, q⟩ := h
  unfold setD at e
  split at e
  · rename_i ds z
    unfold lsetD at e
    rw [z] at e
    cases b with
    | int k =>
      simp only at e
      cases w : ixN ds.length k with
      | none => rw [w] at e; cases e
      | some j =>
        rw [w] at e; cases e
        obtain ⟨a, xs, rfl, ha, hx, hi⟩ := r.lstAt z io
        refine set_list pins s σ H _ i v ov iv u Q I ro ri rv ⟨a, xs, k, j, rfl, ii.int_eq, hx, by rw [← hi.length]; exact w, q _ (r.write hx (.inl ⟨_, rfl⟩) ha ⟨_, upd_same, (hi.set j id).ext (ext_write hx (.inl ⟨_, rfl⟩) ha)⟩) (ext_write hx (.inl ⟨_, rfl⟩) ha)⟩
    | _ => cases e
  · obtain ⟨a, H', rfl, g, r', e'⟩ := dset_ok r e io ii id
    exact set_dict hu pins s σ H _ i v ov iv u Q I ro ri rv ⟨a, H', rfl, g, q H' r' e'⟩
end

/-! ### built-in functions -/
def tyN (S : Sto) : D → Option String
  | .non => some "NoneType"
  | .bl _ => some "bool"
  | .int _ => some "int"
  | .str _ => some "str"
  | .tup _ => some "tuple"
  | .kt _ => some "tuple"
  | .lv _ => some "list"
  | .dv _ _ => some "dict"
  | .ref n => match S[n]? with
    | some (.lst _) => some "list"
    | some (.fro _) => some "list"
    | some (.dk _) => some "dict"
    | some (.dt _) => some "dict"
    | _ => none
  | _ => none
def lenD (S : Sto) : D → Option Nat
  | .tup ds => some ds.length
  | .str x => if x.length ≤ sizeLine then some x.length else none
  | .kt ks => some ks.length
  | d => (lsD S d).map List.length
/-- a function of values: the answer -/
def rF (K : PySem.W.Frag) (f : List D → Sto → Out) : List V → Hp → VK → Prop := fun vs H Q => ∃ ρ S ds, R K ρ H S ∧ IsAll K ρ H ds vs ∧ PO K ρ H (f ds S) Q
section
variable {K : PySem.W.Frag} {ρ : List Addr} {H : Hp} {S : Sto} {X : Cx}
theorem IsAll.one {d : D} {vs : List V} (h : IsAll K ρ H [d] vs) : ∃ v, vs = [v] ∧ Is K ρ H d v := by
  obtain ⟨x, xs, rfl, a, b⟩ := h.uncons
  exact ⟨x, by rw [b.nil_eq], a⟩
theorem IsAll.two {d e : D} {vs : List V} (h : IsAll K ρ H [d, e] vs) : ∃ v w, vs = [v, w] ∧ Is K ρ H d v ∧ Is K ρ H e w := by
  obtain ⟨x, xs, rfl, a, b⟩ := h.uncons
  obtain ⟨w, rfl, c⟩ := b.one
  exact ⟨x, w, rfl, a, c⟩
def fLen (ds : List D) (S : Sto) : Out := match ds with
  | [d] => (lenD S d).map fun n => (.int (n : Int), S)
  | _ => none
theorem len_ok : CallR X (.builtin "len") (rF X.K fLen) := by
  intro pins s σ H xs us Q I r h
  obtain ⟨ρ, S, ds, rr, ia, q⟩ := h
  unfold fLen at q
  split at q
  · rename_i d
    obtain ⟨v, rfl, i⟩ := ia.one
    cases z : lenD S d with
    | none => rw [z] at q; exact q.elim
    | some n =>
      rw [z] at q
      have q := PO.val q rr Is.int'
      unfold lenD at z
      split at z
      · cases z
        obtain ⟨p, vs, rfl, hp, rp⟩ := i.tupAt
        exact call_len_seq pins s σ H _ us Q I r ⟨p, vs, rfl, .inr hp, by rw [← rp.length]; exact q⟩
      · split at z
        · rename_i hz
          cases z
          cases i.str_eq
          exact call_len_str pins s σ H _ us Q I r ⟨_, rfl, hz, q⟩
        · cases z
      · rename_i ks
        cases z
        obtain ⟨p, vs, rfl, hp, rp⟩ := Is.tupOf (ds := ks.map dKey) rfl i
        exact call_len_seq pins s σ H _ us Q I r ⟨p, vs, rfl, .inr hp, by rw [← rp.length, List.length_map]; exact q⟩
      · cases z0 : lsD S d with
        | none => rw [z0] at z; cases z
        | some es =>
          rw [z0] at z; cases z
          obtain ⟨p, vs, rfl, hp, rp⟩ := rr.lsD z0 i
          exact call_len_seq pins s σ H _ us Q I r ⟨p, vs, rfl, .inl hp, by rw [← rp.length]; exact q⟩
  · exact q.elim
def fAbs (ds : List D) (S : Sto) : Out := match ds with
  | [.int i] => some (.int (if i < 0 then -i else i), S)
  | _ => none
theorem abs_ok : CallR X (.builtin "abs") (rF X.K fAbs) := by
  intro pins s σ H xs us Q I r h
  obtain ⟨ρ, S, ds, rr, ia, q⟩ := h
  unfold fAbs at q
  split at q
  · obtain ⟨v, rfl, i⟩ := ia.one
    cases i.int_eq
    exact call_abs pins s σ H _ us Q I r ⟨_, rfl, PO.val q rr Is.int'⟩
  · exact q.elim
def fInt (ds : List D) (S : Sto) : Out := match ds with
  | [.int i] => some (.int i, S)
  | [.bl k] => some (.int (if k = true then 1 else 0), S)
  | _ => none
theorem int_ok : CallR X (.type "int") (rF X.K fInt) := by
  intro pins s σ H xs us Q I r h
  obtain ⟨ρ, S, ds, rr, ia, q⟩ := h
  unfold fInt at q
  split at q
  · obtain ⟨v, rfl, i⟩ := ia.one
    cases i.int_eq
    exact call_int1 pins s σ H _ us Q I r (.inl ⟨_, rfl, PO.val q rr Is.int'⟩)
  · obtain ⟨v, rfl, i⟩ := ia.one
    cases i.bl_eq
    exact call_int1 pins s σ H _ us Q I r (.inr ⟨_, rfl, PO.val q rr Is.int'⟩)
  · exact q.elim
def fMin (ds : List D) (S : Sto) : Out := match ds with
  | [.int i, .int j] => some (.int (if j < i then j else i), S)
  | _ => none
theorem min_ok (hc : X.calm = true) : CallR X (.builtin "min") (rF X.K fMin) := by
  intro pins s σ H xs us Q I r h
  obtain ⟨ρ, S, ds, rr, ia, q⟩ := h
  unfold fMin at q
  split at q
  · obtain ⟨v, w, rfl, i, j⟩ := ia.two
    cases i.int_eq; cases j.int_eq
    exact call_min2 hc pins s σ H _ us Q I r ⟨_, _, rfl, PO.val q rr Is.int'⟩
  · exact q.elim
def fMax (ds : List D) (S : Sto) : Out := match ds with
  | [.int i, .int j] => some (.int (if j > i then j else i), S)
  | _ => none
theorem max_ok (hc : X.calm = true) : CallR X (.builtin "max") (rF X.K fMax) := by
  intro pins s σ H xs us Q I r h
  obtain ⟨ρ, S, ds, rr, ia, q⟩ := h
  unfold fMax at q
  split at q
  · obtain ⟨v, w, rfl, i, j⟩ := ia.two
    cases i.int_eq; cases j.int_eq
    exact call_max2 hc pins s σ H _ us Q I r ⟨_, _, rfl, PO.val q rr Is.int'⟩
  · exact q.elim
/-- the items of a tuple or a list -/
def seqOf (S : Sto) : D → Option (List D)
  | .tup ds => some ds
  | .kt ks => some (ks.map dKey)
  | d => lsD S d
theorem seq_ok (rr : R K ρ H S) {d : D} {ds : List D} {v : V} (e : seqOf S d = some ds) (i : Is K ρ H d v) : ∃ p vs, v = .ref p ∧ (SqL K H p vs ∨ SqT K H p vs) ∧ IsAll K ρ H ds vs := by
  cases d with
  | tup es =>
    cases e
    obtain ⟨p, vs, rfl, hp, rp⟩ := i.tupAt
    exact ⟨p, vs, rfl, .inr hp, rp⟩
  | kt ks => obtain ⟨p, vs, rfl, hp, rp⟩ := Is.tupOf (ds := ds) (d := .kt ks) e i; exact ⟨p, vs, rfl, .inr hp, rp⟩
  | ref n =>
    obtain ⟨p, vs, rfl, _, hp, rp⟩ := rr.lstRd e i
    exact ⟨p, vs, rfl, .inl hp, rp⟩
  | lv es => obtain ⟨p, vs, rfl, hp, rp⟩ := rr.lsD (d := .lv es) e i; exact ⟨p, vs, rfl, .inl hp, rp⟩
  | _ => cases e
def fList (own : Bool) (ds : List D) (S : Sto) : Out := match ds with
  | [d] => (seqOf S d).bind fun es => newL own es S
  | _ => none
theorem list_ok (own : Bool) : CallR X (.type "list") (rF X.K (fList own)) := by
  intro pins s σ H xs us Q I r h
  obtain ⟨ρ, S, ds, rr, ia, q⟩ := h
  unfold fList at q
  split at q
  · rename_i d
    obtain ⟨v, rfl, i⟩ := ia.one
    cases z : seqOf S d with
    | none => rw [z] at q; exact q.elim
    | some es =>
      rw [z] at q
      obtain ⟨p, vs, rfl, hp, rp⟩ := seq_ok rr z i
      exact call_list_of pins s σ H _ us Q I r ⟨p, vs, rfl, hp, fun l hl => PO.newL q rr rp hl⟩
  · exact q.elim
def fTuple (ds : List D) (S : Sto) : Out := match ds with
  | [.kt ks] => some (.kt ks, S)
  | [d] => (seqOf S d).map fun es => (.tup es, S)
  | _ => none
theorem tuple_ok : CallR X (.type "tuple") (rF X.K fTuple) := by
  intro pins s σ H xs us Q I r h
  obtain ⟨ρ, S, ds, rr, ia, q⟩ := h
  unfold fTuple at q
  split at q
  · rename_i ks
    obtain ⟨v, rfl, i⟩ := ia.one
    obtain ⟨p, vs, e, hp, rp⟩ := Is.tupOf (ds := ks.map dKey) rfl i
    cases e
    exact call_tuple_of pins s σ H _ us Q I r ⟨p, vs, rfl, .inr ⟨hp, PO.val q rr i⟩⟩
  · rename_i d _
    obtain ⟨v, rfl, i⟩ := ia.one
    cases z : seqOf S d with
    | none => rw [z] at q; exact q.elim
    | some es =>
      rw [z] at q
      have go : lsD S d = some es → wpAny (model X.prog X.w) X.A (call (.type "tuple") us) (EP X pins σ Q) X.xe s := fun z => by
        obtain ⟨p, vs, rfl, hp, rp⟩ := rr.lsD z i
        exact call_tuple_of pins s σ H _ us Q I r ⟨p, vs, rfl, .inl ⟨hp, fun l hl => PO.tup q rr rp hl⟩⟩
      cases d with
      | tup fs =>
        cases z
        obtain ⟨p, vs, e, hp, rp⟩ := id i.tupAt
        cases e
        exact call_tuple_of pins s σ H _ us Q I r ⟨p, vs, rfl, .inr ⟨hp, PO.val q rr i⟩⟩
      | kt ks => rename_i hk; exact absurd rfl (hk ks)
      | ref n => exact go z
      | lv n => exact go z
      | _ => cases z
  · exact q.elim
theorem tyN_ok (rr : R K ρ H S) {d : D} {v : V} {t : String} (e : tyN S d = some t) (i : Is K ρ H d v) : TyX K H v (.type t) := by
  cases d with
  | non => cases e; cases i.non_eq; exact .base .non
  | bl b => cases e; cases i.bl_eq; exact .base (.bl _)
  | int b => cases e; cases i.int_eq; exact .base (.int _)
  | str b => cases e; cases i.str_eq; exact .base (.str _)
  | tup ds =>
    cases e
    obtain ⟨p, vs, rfl, hp, rp⟩ := i.tupAt
    rcases hp with (hp | ⟨o, hp⟩) | ⟨o, its, n, hk, hc, _⟩
    · exact .base (.tup hp)
    · exact .fTuple hp
    · exact .kTuple hk hc
  | kt ks =>
    cases e
    obtain ⟨p, rfl, hp⟩ := i.ktAt
    exact .base (.tup hp)
  | lv ds =>
    cases e
    obtain ⟨p, vs, rfl, hp, _⟩ := i.lvAt
    exact .base (.lst hp)
  | dv ks ds =>
    cases e
    unfold Is at i
    obtain ⟨p, vs, rfl, hp, _⟩ := i
    exact .base (.dK hp)
  | ref n =>
    unfold tyN at e
    cases z : S[n]? with
    | none => simp only [z] at e; cases e
    | some m =>
      cases m with
      | lst ds =>
        simp only [z] at e; cases e
        obtain ⟨a, xs, rfl, _, hx, _⟩ := rr.lstAt z i
        exact .base (.lst hx)
      | fro ds =>
        simp only [z] at e; cases e
        unfold Is at i
        obtain ⟨a, ha, rfl⟩ := i
        obtain ⟨b, hb, _, o, u, hu⟩ := rr.obj n _ z
        rw [ha] at hb; cases hb
        exact .base (.frz hu)
      | dk kvs =>
        simp only [z] at e; cases e
        obtain ⟨a, xs, rfl, _, hx, _⟩ := rr.dkAt z i
        exact .base (.dK hx)
      | dt kvs =>
        simp only [z] at e; cases e
        unfold Is at i
        obtain ⟨a, ha, rfl⟩ := i
        obtain ⟨b, hb, ks, hx, hi⟩ := rr.obj n _ z
        rw [ha] at hb; cases hb
        exact .base (.dT hx)
      | ft kvs => simp only [z] at e; cases e
      | tab x q => simp only [z] at e; cases e
      | code x q s t => simp only [z] at e; cases e
      | junk => simp only [z] at e; cases e
  | _ => cases e
def fIsi (ds : List D) (S : Sto) : Out := match ds with
  | [d, .ty n] => oB ((tyN S d).bind fun t => kitB t n) S
  | _ => none
theorem isi_ok : CallR X (.builtin "isinstance") (rF X.K fIsi) := by
  intro pins s σ H xs us Q I r h
  obtain ⟨ρ, S, ds, rr, ia, q⟩ := h
  unfold fIsi at q
  split at q
  · rename_i d n
    obtain ⟨v, w, rfl, i, j⟩ := ia.two
    obtain ⟨c, e, q⟩ := PO.bl q rr
    unfold Is at j
    subst j
    cases z : tyN S d with
    | none => rw [z] at e; cases e
    | some t =>
      rw [z] at e
      exact call_isi pins s σ H _ us Q I r ⟨v, _, _, _, c, rfl, .ty n, tyN_ok rr z i, kit_ty e, q⟩
  · exact q.elim
/-- repr of a list or a tuple -/
def fRepr (ds : List D) (S : Sto) : Out := match ds with
  | [.int i] => if i.natAbs.log2 < 1920 then some (.str (toString i), S) else none
  | [.str x] => if (reprText x).length ≤ sizeLine then some (.str (reprText x), S) else none
  | [.bl b] => some (.str (if b = true then "True" else "False"), S)
  | [.non] => some (.str "None", S)
  | [d] => match py S 60 d with
    | some p => if isDisplay p = true ∧ p.showable = true ∧ p.hasDict = false ∧ p.depth ≤ 60 ∧ p.shown.length ≤ sizeLine then some (.str p.shown, S) else none
    | none => none
  | _ => none
theorem repr_ok (hg : X.A.guards = some []) (hu : X.A.units + 64 < cLine) : CallR X (.builtin "repr") (rF X.K fRepr) := by
  intro pins s σ H xs us Q I r h
  obtain ⟨ρ, S, ds, rr, ia, q⟩ := h
  unfold fRepr at q
  split at q
  · obtain ⟨v, rfl, i⟩ := ia.one
    split at q
    · rename_i hz
      cases i.int_eq
      obtain ⟨u, rfl, ⟨t, rfl⟩⟩ := vals1 r
      exact P.repr_of_int hz ⟨.str _, H, I.tok _, ⟨_, rfl⟩, PO.val q rr Is.str'⟩
    · exact q.elim
  · obtain ⟨v, rfl, i⟩ := ia.one
    split at q
    · rename_i hz
      cases i.str_eq
      obtain ⟨u, rfl, ⟨t, rfl⟩⟩ := vals1 r
      exact P.repr_of_str ⟨.str _, H, I.tok _, ⟨_, rfl⟩, PO.val q rr Is.str'⟩ hz
    · exact q.elim
  · obtain ⟨v, rfl, i⟩ := ia.one
    cases i.bl_eq
    obtain ⟨u, rfl, ru⟩ := vals1 r
    cases ru
    exact P.repr_of_bool ⟨.str _, H, I.tok _, ⟨_, rfl⟩, PO.val q rr Is.str'⟩
  · obtain ⟨v, rfl, i⟩ := ia.one
    cases i.non_eq
    obtain ⟨u, rfl, ru⟩ := vals1 r
    cases ru
    exact P.repr_of_none ⟨.str _, H, I.tok _, ⟨_, rfl⟩, PO.val q rr Is.str'⟩
  · rename_i d _ _ _ _
    obtain ⟨v, rfl, i⟩ := ia.one
    split at q
    · rename_i p z
      split at q
      · rename_i hz
        obtain ⟨h1, h2, h3, h4, h5⟩ := hz
        obtain ⟨u, rfl, ru⟩ := vals1 r
        obtain ⟨as, rd⟩ := L2.Dp.reads I p v u (py_dp rr _ z i) ru
        obtain ⟨a, rfl⟩ := isRef_of_reads rd h1
        refine repr_of_reads' rd h2 (PyData.noDict_hsm h3) hg (by omega) (fun _ _ e => e) (fun h' u tk hk => ?_) h5
        exact ⟨.str p.shown, H, I.kept hk, ⟨u, rfl⟩, PO.val q rr Is.str'⟩
      · exact q.elim
    · exact q.elim
  · exact q.elim

/-! ### methods -/
/-- a method of the object n: the answer -/
def rM (K : PySem.W.Frag) (f : Nat → List D → Sto → Out) : V → List V → Hp → VK → Prop := fun x vs H Q => ∃ ρ S n ds, R K ρ H S ∧ Is K ρ H (.ref n) x ∧ IsAll K ρ H ds vs ∧ PO K ρ H (f n ds S) Q
def mAppend (n : Nat) (ds : List D) (S : Sto) : Out := match S[n]?, ds with
  | some (.lst es), [d] => if es.length < sizeLine then some (.non, S.set n (.lst (es ++ [d]))) else none
  | _, _ => none
theorem append_ok : MtR X "list.append" (rM X.K mAppend) := by
  intro pins s σ H x xs v us Q I rx r h
  obtain ⟨ρ, S, n, ds, rr, i, ia, q⟩ := h
  unfold mAppend at q
  split at q
  · rename_i es d z
    split at q
    · rename_i hz
      obtain ⟨a, vs, rfl, ha, hx, hi⟩ := rr.lstAt z i
      obtain ⟨w, rfl, j⟩ := ia.one
      refine mt_append pins s σ H _ _ v us Q I rx r ⟨a, vs, w, rfl, rfl, hx, by rw [← hi.length]; exact hz, ?_⟩
      exact q ρ _ _ (rr.write hx (.inl ⟨_, rfl⟩) ha ⟨_, upd_same, (hi.append (.cons j .nil)).ext (ext_write hx (.inl ⟨_, rfl⟩) ha)⟩) (ext_write hx (.inl ⟨_, rfl⟩) ha) Is.non'
    · exact q.elim
  · exact q.elim
theorem IsAll.eraseIdx : ∀ {ds : List D} {vs : List V} (n : Nat), IsAll K ρ H ds vs → IsAll K ρ H (ds.eraseIdx n) (vs.eraseIdx n)
  | [], vs, n, h => by rw [h.nil_eq]; exact .nil
  | d :: ds, vs, 0, h => by
    obtain ⟨x, xs, rfl, a, b⟩ := h.uncons
    exact b
  | d :: ds, vs, n + 1, h => by
    obtain ⟨x, xs, rfl, a, b⟩ := h.uncons
    exact .cons a (b.eraseIdx n)
def mPop (n : Nat) (ds : List D) (S : Sto) : Out := match S[n]?, ds with
  | some (.lst es), [.int i] => if -(2 ^ 63) ≤ i ∧ i < 2 ^ 63 then (seqIndex? i es.length).bind fun k => (es[k]?).map fun d => (d, S.set n (.lst (es.eraseIdx k))) else none
  | _, _ => none
theorem pop_ok : MtR X "list.pop" (rM X.K mPop) := by
  intro pins s σ H x xs v us Q I rx r h
  obtain ⟨ρ, S, n, ds, rr, i, ia, q⟩ := h
  unfold mPop at q
  split at q
  · rename_i es k z
    split at q
    · rename_i hz
      obtain ⟨a, vs, rfl, ha, hx, hi⟩ := rr.lstAt z i
      obtain ⟨w, rfl, j⟩ := ia.one
      cases j.int_eq
      cases z1 : seqIndex? k es.length with
      | none => rw [z1] at q; exact q.elim
      | some m =>
        rw [z1, Option.bind_some] at q
        cases z2 : es[m]? with
        | none => rw [z2] at q; exact q.elim
        | some d =>
          rw [z2] at q
          obtain ⟨w, hw, iw⟩ := hi.get m z2
          refine mt_popAt pins s σ H _ _ v us Q I rx r ⟨a, vs, k, m, w, rfl, rfl, hx, hz.1, hz.2, by rw [← hi.length]; exact z1, hw, ?_⟩
          exact q ρ _ _ (rr.write hx (.inl ⟨_, rfl⟩) ha ⟨_, upd_same, (hi.eraseIdx m).ext (ext_write hx (.inl ⟨_, rfl⟩) ha)⟩) (ext_write hx (.inl ⟨_, rfl⟩) ha) (iw.ext (ext_write hx (.inl ⟨_, rfl⟩) ha))
    · exact q.elim
  · exact q.elim
end
end Dp
end
section
set_option Elab.async false
set_option linter.all false
set_option maxRecDepth 100000
set_option maxHeartbeats 4000000
namespace Dp
open PySem PySem.Spec PyProof.Rows L2
/-! ### sorted, of pairs of ints -/
def pairB : D → Bool
  | .tup [.int _, .int _] => true
  | _ => false
def keyD : D → Int × Int
  | .tup [.int i, .int j] => (i, j)
  | _ => (0, 0)
def ltD (a b : D) : Bool := SrtO.lexB (keyD a) (keyD b)
def insD (d : D) : List D → List D
  | [] => [d]
  | e :: r => if ltD d e = true then d :: e :: r else e :: insD d r
def sortD (es : List D) : List D := es.foldr insD []
def fSorted (own : Bool) (ds : List D) (S : Sto) : Out := match ds with
  | [d] => (match lsD S d with
    | some es => if es.all pairB = true then newL own (sortD es) S else none
    | none => none)
  | _ => none
theorem pairB_eq {d : D} (h : pairB d = true) : ∃ i j, d = .tup [.int i, .int j] := by
  unfold pairB at h
  split at h
  · exact ⟨_, _, rfl⟩
  · cases h
theorem insD_perm (d : D) : ∀ l, (insD d l).Perm (d :: l)
  | [] => .refl _
  | e :: r => by
    unfold insD
    split
    · exact .refl _
    · exact ((insD_perm d r).cons e).trans (List.Perm.swap d e r)
theorem sortD_perm : ∀ l, (sortD l).Perm l
  | [] => .refl _
  | d :: l => (insD_perm d (sortD l)).trans ((sortD_perm l).cons d)
theorem ltD_swo : SrtO.Swo ltD := by
  refine ⟨fun x y h => ?_, fun x y z h1 h2 => ?_⟩
  · have a := SrtO.lexB_iff.mp h
    exact SrtO.lexB_no.mpr (by omega)
  · have a := SrtO.lexB_no.mp h1
    have b := SrtO.lexB_no.mp h2
    exact SrtO.lexB_no.mpr (by omega)
theorem insD_srt (d : D) : ∀ {l}, SrtO.Srtd ltD l → SrtO.Srtd ltD (insD d l)
  | [], _ => SrtO.srtd_one d
  | e :: r, h => by
    unfold insD
    split
    · rename_i hl
      refine List.pairwise_cons.mpr ⟨fun y hy => ?_, h⟩
      have := ltD_swo.lt_all h hl y hy
      have a := SrtO.lexB_iff.mp this
      exact SrtO.lexB_no.mpr (by omega)
    · rename_i hl
      refine List.pairwise_cons.mpr ⟨fun y hy => ?_, insD_srt d (List.pairwise_cons.mp h).2⟩
      rcases List.mem_cons.mp ((insD_perm d r).mem_iff.mp hy) with rfl | hm
      · exact Bool.eq_false_iff.mpr hl
      · exact SrtO.srtd_head h y hm
theorem sortD_srt : ∀ l, SrtO.Srtd ltD (sortD l)
  | [] => List.Pairwise.nil
  | d :: l => insD_srt d (sortD_srt l)
/-- pairs that lie in an order lie in just one -/
theorem srt_uniq : ∀ {l m : List D}, l.Perm m → l.all pairB = true → SrtO.Srtd ltD l → SrtO.Srtd ltD m → l = m
  | [], m, p, _, _, _ => (List.Perm.eq_nil p.symm).symm
  | x :: l, [], p, _, _, _ => absurd p.length_eq (by simp)
  | x :: l, y :: m, p, hp, hl, hm => by
    rw [List.all_cons, Bool.and_eq_true] at hp
    have py : pairB y = true := by
      rcases List.mem_cons.mp (p.mem_iff.mpr List.mem_cons_self : y ∈ x :: l) with e | h
      · rw [e]; exact hp.1
      · exact List.all_eq_true.mp hp.2 y h
    have h1 : ltD x y = false := by
      rcases List.mem_cons.mp (p.mem_iff.mp List.mem_cons_self : x ∈ y :: m) with e | h
      · rw [e]; exact ltD_swo.refl y
      · exact SrtO.srtd_head hm x h
    have h2 : ltD y x = false := by
      rcases List.mem_cons.mp (p.mem_iff.mpr List.mem_cons_self : y ∈ x :: l) with e | h
      · rw [e]; exact ltD_swo.refl x
      · exact SrtO.srtd_head hl y h
    obtain ⟨i, j, rfl⟩ := pairB_eq hp.1
    obtain ⟨i', j', rfl⟩ := pairB_eq py
    have a := SrtO.lexB_no.mp h1
    have b := SrtO.lexB_no.mp h2
    simp only [keyD] at a b
    have e1 : i = i' := by omega
    have e2 : j = j' := by omega
    subst e1 e2
    rw [srt_uniq p.cons_inv hp.2 (List.pairwise_cons.mp hl).2 (List.pairwise_cons.mp hm).2]
theorem paired_perm {α β : Type} {F : α → β → Prop} {ys xs : List β} (p : ys.Perm xs) : ∀ {ds : List α}, Paired F ds xs → ∃ es, es.Perm ds ∧ Paired F es ys := by
  induction p with
  | nil => intro ds h; exact ⟨ds, .refl _, h⟩
  | cons x p ih =>
    intro ds h
    cases h with
    | cons a t =>
      obtain ⟨es, p', h'⟩ := ih t
      exact ⟨_ :: es, p'.cons _, .cons a h'⟩
  | swap x y l =>
    intro ds h
    cases h with
    | cons a t =>
      cases t with
      | cons b t => exact ⟨_ :: _ :: _, List.Perm.swap _ _ _, .cons b (.cons a t)⟩
  | trans p q ih1 ih2 =>
    intro ds h
    obtain ⟨es, p1, h1⟩ := ih2 h
    obtain ⟨es', p2, h2⟩ := ih1 h1
    exact ⟨es', p2.trans p1, h2⟩
theorem paired_mem {α β : Type} {F : α → β → Prop} : ∀ {ds : List α} {xs : List β} {d : α}, Paired F ds xs → d ∈ ds → ∃ x ∈ xs, F d x
  | _, _, _, .nil, h => by cases h
  | _, _, d, .cons a t, h => by
    rcases List.mem_cons.mp h with rfl | h
    · exact ⟨_, List.mem_cons_self, a⟩
    · obtain ⟨x, hx, f⟩ := paired_mem t h
      exact ⟨x, List.mem_cons_of_mem _ hx, f⟩
theorem paired_pw {α β : Type} {F : α → β → Prop} {P : α → α → Prop} {Q : β → β → Prop} : ∀ {ds : List α} {xs : List β}, Paired F ds xs → (∀ d ∈ ds, ∀ e ∈ ds, ∀ x y, F d x → F e y → Q x y → P d e) → xs.Pairwise Q → ds.Pairwise P
  | _, _, .nil, _, _ => .nil
  | _, _, .cons (a := a) (b := b) f t, h, q => by
    obtain ⟨q1, q2⟩ := List.pairwise_cons.mp q
    refine List.pairwise_cons.mpr ⟨fun e he => ?_, paired_pw t (fun d hd e he => h d (List.mem_cons_of_mem _ hd) e (List.mem_cons_of_mem _ he)) q2⟩
    obtain ⟨y, hy, fy⟩ := paired_mem t he
    exact h a List.mem_cons_self e (List.mem_cons_of_mem _ he) _ _ f fy (q1 y hy)
open Classical in
noncomputable def keyV (K : PySem.W.Frag) (H : Hp) : V → Int × Int
  | .ref t => if h : ∃ p : Int × Int, SqT K H t [.int p.1, .int p.2] then h.choose else (0, 0)
  | _ => (0, 0)
section
variable {X : Cx} {pins : List (Addr × Obj)} {σ : L2.St} {H : Hp} {s : Shared}
theorem keyV_eq (I : Inv X pins σ H s) {t : Addr} {i j : Int} (h : SqT X.K H t [.int i, .int j]) : keyV X.K H (.ref t) = (i, j) := by
  have hx : ∃ p : Int × Int, SqT X.K H t [.int p.1, .int p.2] := ⟨(i, j), h⟩
  unfold keyV
  dsimp only
  rw [dif_pos hx]
  have := I.tuple_inj hx.choose_spec h
  simp only [List.cons.injEq, V.int.injEq, and_true] at this
  exact Prod.ext this.1 this.2
theorem sorted_ok (own : Bool) : CallR X (.builtin "sorted") (rF X.K (fSorted own)) := by
  intro pins s σ H vs us Q I r h
  obtain ⟨ρ, S, ds, rr, ia, q⟩ := h
  unfold fSorted at q
  split at q
  · obtain ⟨v, rfl, i⟩ := ia.one
    split at q
    · rename_i es z
      split at q
      · rename_i hz
        obtain ⟨a, xs, rfl, hx, hi⟩ := rr.lsD z i
        have hp := hi.paired
        have isP : ∀ d x, d ∈ es → Is X.K ρ H d x → ∃ t, x = .ref t ∧ SqT X.K H t [.int (keyD d).1, .int (keyD d).2] := fun d x hd hx => by
          obtain ⟨i, j, rfl⟩ := pairB_eq (List.all_eq_true.mp hz d hd)
          obtain ⟨t, ws, rfl, h1, h2⟩ := hx.tupAt
          obtain ⟨w1, w2, rfl, h3, h4⟩ := h2.two
          cases h3.int_eq
          cases h4.int_eq
          exact ⟨t, rfl, h1⟩
        have memP : ∀ {ds : List D} {xs : List V}, Paired (Is X.K ρ H) ds xs → (∀ d ∈ ds, d ∈ es) → ∀ x ∈ xs, ∃ d ∈ es, Is X.K ρ H d x := by
          intro ds xs pp
          induction pp with
          | nil => intro _ x hx; cases hx
          | cons f t ih =>
            intro hd x hx
            rcases List.mem_cons.mp hx with rfl | hx
            · exact ⟨_, hd _ List.mem_cons_self, f⟩
            · exact ih (fun d hm => hd d (List.mem_cons_of_mem _ hm)) x hx
        have mem := memP hp fun d hd => hd
        obtain ⟨its, rv, hl, hsz⟩ := I.list hx
        obtain ⟨u, rfl, ru⟩ := vals1 r
        obtain rfl : u = Value.ref a := ru
        obtain ⟨e1, e2⟩ := refs_back rv fun x m => by
          obtain ⟨d, hd, f⟩ := mem x m
          obtain ⟨t, e, _⟩ := isP d x hd f
          exact ⟨t, e⟩
        refine SrtO.sorted_pairsO (k := fun u => keyV X.K H (backV u)) hl.isList (by rw [← rv.length]; exact hsz) (fun v hv => ?_) fun h' b out h1 h2 kp hd hn => ?_
        · obtain ⟨t, rfl⟩ := e2 v hv
          have hm : V.ref t ∈ xs := by rw [e1]; exact List.mem_map.mpr ⟨_, hv, rfl⟩
          obtain ⟨d, hd, f⟩ := mem _ hm
          obtain ⟨t', e, ht⟩ := isP d _ hd f
          cases e
          have hk := keyV_eq I ht
          obtain ⟨its2, r2, ⟨o, ho, hc, n, hdd⟩, _⟩ := I.tuple ht
          obtain ⟨u1, u2, rfl, ri, rj⟩ := vals2 r2
          obtain ⟨t1, rfl⟩ := ri
          obtain ⟨t2, rfl⟩ := rj
          refine ⟨t, o, t1, t2, n, rfl, ho, hc, ?_⟩
          show o.data = .seq #[.int (keyV X.K H (.ref t)).1 t1, .int (keyV X.K H (.ref t)).2 t2] n
          rw [hk]
          exact hdd
        · have h3 : ∀ u ∈ out, ∃ a, u = Value.ref a := fun u hu => e2 u (h2.perm.mem_iff.mp hu)
          obtain ⟨n, hn⟩ := hn
          have pm : (out.map backV).Perm xs := by rw [e1]; exact h2.perm.map backV
          obtain ⟨fs, pf, hf⟩ := paired_perm pm hp
          have sf : SrtO.Srtd ltD fs := by
            refine paired_pw (Q := fun x y => SrtO.lexB (keyV X.K H y) (keyV X.K H x) = false) hf (fun d hd e he x y fx fy hq => ?_) (List.pairwise_map.mpr h1)
            obtain ⟨t, rfl, s1⟩ := isP d x (pf.mem_iff.mp hd) fx
            obtain ⟨t', rfl, s2⟩ := isP e y (pf.mem_iff.mp he) fy
            rw [keyV_eq I s1, keyV_eq I s2] at hq
            exact hq
          have ap : fs.all pairB = true := List.all_eq_true.mpr fun d hd => List.all_eq_true.mp hz d (pf.mem_iff.mp hd)
          have e3 : fs = sortD es := srt_uniq (pf.trans (sortD_perm es).symm) ap sf (sortD_srt es)
          subst e3
          have len : (out.map backV).length ≤ sizeLine := by rw [pm.length_eq]; exact hsz
          refine ⟨.ref b, upd H b (.lst (out.map backV)), I.laid (t' := s.toks) kp hd ⟨len, out, n, vals_back h3, hn⟩, rfl, ?_⟩
          exact PO.newL q rr (IsAll.of hf) (I.hok.fresh hd)
      · exact q.elim
    · exact q.elim
  · exact q.elim
end
end Dp
end
section
set_option Elab.async false
set_option linter.all false
set_option maxRecDepth 100000
set_option maxHeartbeats 4000000
namespace HT
open PySem PyProof.Rows
open PySem.SeqAt
open PySem.AutoSeq1 (wpAny_loadPart')
open PySem.MeetsSeq PySem.MeetsSeq2 PySem.MeetsSeq3
section
variable {prog : Program} {w : World} {A : Around} {E : Value → Shared → Prop} {s : Shared}
theorem revPlaces (n : Nat) : Builtin.Slice.slicePlaces ((n : Int) - 1) (-1) (-1) = n := by
  unfold Builtin.Slice.slicePlaces
  rw [if_neg (by decide)]
  by_cases h : n = 0
  · subst h; decide
  · rw [if_pos (by omega)]
    have e : ((n : Int) - 1 - -1 - 1) / (- -1) + 1 = (n : Int) := by
      rw [show (- -1 : Int) = 1 by decide, Int.ediv_one]
      omega
    rw [e]
    simp
theorem fmCongr {α β : Type} {f g : α → Option β} : ∀ {l : List α}, (∀ x ∈ l, f x = g x) → l.filterMap f = l.filterMap g
  | [], _ => rfl
  | x :: l, h => by
    rw [List.filterMap_cons, List.filterMap_cons, h x List.mem_cons_self, fmCongr fun y hy => h y (List.mem_cons_of_mem _ hy)]
theorem revPick (xs : Array Value) : ((List.range xs.size).filterMap fun (m : Nat) => xs[(((xs.size : Int) - 1) + (m : Int) * (-1)).toNat]?).toArray = xs.toList.reverse.toArray := by
  have e : ((List.range xs.size).filterMap fun (m : Nat) => xs[(((xs.size : Int) - 1) + (m : Int) * (-1)).toNat]?) = ((List.range xs.size).map fun k => xs.size - 1 - k).filterMap fun k => xs[k]? := by
    rw [List.filterMap_map]
    refine fmCongr fun m hm => ?_
    have := List.mem_range.mp hm
    have e2 : (((xs.size : Int) - 1) + (m : Int) * (-1)).toNat = xs.size - 1 - m := by omega
    show xs[(((xs.size : Int) - 1) + (m : Int) * (-1)).toNat]? = xs[xs.size - 1 - m]?
    rw [e2]
  rw [e, PySem.W.krv_range, List.filterMap_reverse, PySem.W.krv_all]
theorem revApplied {sl : Addr} {vk : Value} {n : Nat} {Q : Int × Int × Nat → Shared → Prop} (hs : s.heap.IsSliceOf sl .none .none vk) (pk : IsPart vk (some (-1))) (h : Q ((n : Int) - 1, -1, n) s) :
    wpAny (model prog w) A (Builtin.Slice.sliceApplied (.ref sl) (pure (n : Int))) Q E s := by
  obtain ⟨os, h1, h2, h3⟩ := id hs
  unfold Builtin.Slice.sliceApplied Builtin.Slice.sliceFields
  refine wpAny_bind (wpAny_bind (wpAny_field h1 h3 (x := .none) rfl (wpAny_bind (wpAny_field h1 h3 (x := .none) rfl (wpAny_bind (wpAny_field h1 h3 (x := vk) rfl (wpAny_pure ?_)))))))
  refine wpAny_bind (slicePart_ pk ?_)
  show wpAny _ _ (if ((-1 : Int) == 0) = true then _ else _) _ _ s
  rw [if_neg (by decide)]
  refine wpAny_bind (slicePart_none (wpAny_bind (slicePart_none (wpAny_bind (wpAny_pure ?_)))))
  show wpAny _ _ (pure ((n : Int) - 1, (-1 : Int), Builtin.Slice.slicePlaces ((n : Int) - 1) (-1) (-1))) _ _ s
  rw [revPlaces]
  exact wpAny_pure h
/-- t[::-1] -/
theorem getItem_tuple_rev {t sl : Addr} {items : Array Value} {vk : Value} {Q : Value → Shared → Prop} (ht : IsTup s.heap t items) (hs : s.heap.IsSliceOf sl .none .none vk) (pk : IsPart vk (some (-1)))
    (h : Q (.ref s.heap.objs.size) { s with heap := s.heap.push { cls := .type "tuple", data := .seq items.toList.reverse.toArray } }) (hsz : items.size ≤ sizeLine) : wpAny (model prog w) A (getItem (.ref t) (.ref sl)) Q E s := by
  have room : sizeOk (.seq items.toList.reverse.toArray) := by
    show items.toList.reverse.toArray.size ≤ sizeLine
    rw [List.size_toArray, List.length_reverse, Array.length_toList]
    exact hsz
  obtain ⟨os, h1, h2, h3⟩ := id hs
  have isS : s.TypeIs (.ref sl) "slice" := ⟨os, h1, h2⟩
  unfold getItem
  try with_reducible refine wpAny_holding ?_
  first | refine wpAny_bind (wpAny_pure ?_) | skip
  refine wpAny_bind (wpAny_sequenceKey ht.typeIs (by decide) ?_)
  refine wpAny_bind (wpAny_callSpecial?_slot (name := Str.ofString "__getitem__") ht.typeIs PyProof.Rows.slot_tuple_getitem (wpAny_call_entry PyProof.Rows.slot_tuple_getitem ht.typeIs entry_tuple_getitem ?_ (args_tuple_getitem _ _)))
  show wpAny _ _ (Builtin.Tuple.tupleItemsOf (.ref t) >>= _) _ _ s
  refine wpAny_bind (tupleItemsOf_ ht (wpAny_bind (wpAny_typeOf isS ?_)))
  rw [if_pos (by decide)]
  refine wpAny_bind (revApplied hs pk ?_)
  have no : ¬ ((((items.size : Int) - 1) == 0 && (-1 : Int) == 1 && items.size == items.size) = true) := by
    intro q
    rw [Bool.and_eq_true, Bool.and_eq_true] at q
    exact absurd (eq_of_beq q.1.2) (by decide)
  show wpAny _ _ (if ((((items.size : Int) - 1) == 0 && (-1 : Int) == 1 && items.size == items.size) = true) then _ else _) _ _ s
  rw [if_neg no, revPick]
  first
    | exact wpAny_bind (m := Builtin.Tuple.tupleExact _) (wpAny_newObj_type (wpAny_pure ⟨_, rfl, wpAny_pure h⟩) room)
    | exact wpAny_bind (wpAny_bind (m := Builtin.Tuple.tupleExact _) (wpAny_newObj_type (wpAny_pure (wpAny_pure ⟨_, rfl, wpAny_pure h⟩)) room))
    | exact wpAny_bind (wpAny_bind (m := Builtin.Tuple.tupleExact _) (wpAny_newObj_type (wpAny_pure ⟨_, rfl, wpAny_pure h⟩) room))
    | exact wpAny_bind (m := Builtin.Tuple.tupleExact _) (wpAny_newObj_type (wpAny_bind (wpAny_pure (wpAny_pure ⟨_, rfl, wpAny_pure h⟩))) room)
end
end HT

namespace Dp
open PySem PySem.Spec PyProof.Rows L2
/-- x[::-1] -/
def revD (own : Bool) (a : D) (S : Sto) : Out := match a with
  | .tup ds => some (.tup ds.reverse, S)
  | a => (match lsD S a with
    | some ds => newL own ds.reverse S
    | none => none)
section
variable {X : Cx}
theorem revD_ok (own : Bool) {pins : List (Addr × Obj)} {s : Shared} {σ : L2.St} {H : Hp} {x : V} {v vk : Value} {sl : Addr} {Q : VK} {ρ : List Addr} {S : Sto} {a : D} (I : Inv X pins σ H s) (rx : RelV x v) (hs : s.heap.IsSliceOf sl .none .none vk) (pk : IsPart vk (some (-1)))
    (r : R X.K ρ H S) (ia : Is X.K ρ H a x) (q : PO X.K ρ H (revD own a S) Q) : ∃ T id, typeLookup (.type T) "__getitem__" = pure (some (.builtin id)) ∧ s.TypeIs v T ∧ wpAny (model X.prog X.w) X.A (getItem v (.ref sl)) (EP X pins σ Q) X.xe s := by
  unfold revD at q
  split at q
  · rename_i ds
    obtain ⟨p, vs, rfl, hp, rp⟩ := ia.tupAt
    cases rx
    obtain ⟨its, rv, ht, hz⟩ := I.tuple hp
    have hlen : its.toArray.size = vs.length := by rw [List.size_toArray]; exact rv.length.symm
    refine ⟨"tuple", _, PyProof.Rows.slot_tuple_getitem.lookup, ht.typeIs, HT.getItem_tuple_rev ht hs pk ?_ (by rw [hlen]; exact hz)⟩
    have rr : Vals vs.reverse its.reverse := by
      have gen : ∀ {as : List V} {bs : List Value}, Vals as bs → Vals as.reverse bs.reverse := by
        intro as bs h
        induction h with
        | nil => exact .nil
        | cons r t ih =>
          rw [List.reverse_cons, List.reverse_cons]
          exact ih.append (.cons r .nil)
      exact gen rv
    refine ⟨.ref s.heap.objs.size, _, I.laid (t' := s.toks) (o := .tup vs.reverse) (fun b ob q => Heap.get?_push_of_some _ q) (Nat.le_refl _) ?_, rfl, q.tup r rp.reverse (I.hok.fresh (Nat.le_refl _))⟩
    exact ⟨by rw [List.length_reverse]; exact hz, _, rr, IsTup.new _ _⟩
  · split at q
    · rename_i ds z0
      obtain ⟨p, vs, rfl, hp, rp⟩ := r.lsD z0 ia
      cases rx
      obtain ⟨its, rv, ht, hz⟩ := I.list hp
      have hlen := rv.length
      refine ⟨"list", _, slot_list_getitem.lookup, ht.isList.typeIs, ?_⟩
      refine wpAny_getItem_list_slice ht.isList hs .none .none pk (by decide) ?_ (by rw [List.size_toArray]; omega)
      rw [PySem.W.krv_pick]
      have rr : Vals vs.reverse its.reverse := by
        have gen : ∀ {as : List V} {bs : List Value}, Vals as bs → Vals as.reverse bs.reverse := by
          intro as bs h
          induction h with
          | nil => exact .nil
          | cons r t ih =>
            rw [List.reverse_cons, List.reverse_cons]
            exact ih.append (.cons r .nil)
        exact gen rv
      refine ⟨.ref s.heap.objs.size, _, I.laid (t' := s.toks) (o := .lst vs.reverse) (fun b ob q => Heap.get?_push_of_some _ q) (Nat.le_refl _) ?_, rfl, PO.newL q r rp.reverse (I.hok.fresh (Nat.le_refl _))⟩
      exact ⟨by rw [List.length_reverse]; exact hz, _, 0, rr, Heap.get?_push_size _ rfl⟩
    · exact q.elim
end
end Dp
end
section
set_option Elab.async false
set_option linter.all false
set_option maxRecDepth 100000
set_option maxHeartbeats 4000000
namespace Dp
open PySem PySem.Spec PyProof.Rows L2
open PySem.W (alikeAll alike AlikeAll maxD minD)
/-! ### the most of a row of ints, or of a row of rows of ints -/
def intB : D → Bool
  | .int _ => true
  | _ => false
def rowB : D → Bool
  | .tup ds => ds.all intB
  | _ => false
def pI : D → PyData
  | .int i => .int i
  | _ => .none
def pR : D → PyData
  | .int i => .int i
  | .tup ds => .tuple (ds.map pI)
  | _ => .none
def dI : PyData → D
  | .int i => .int i
  | _ => .non
def dR : PyData → D
  | .int i => .int i
  | .tuple ps => .tup (ps.map dI)
  | _ => .non
theorem dI_pI {d : D} (h : intB d = true) : dI (pI d) = d := by
  cases d <;> first | rfl | cases h
theorem dIs_pI : ∀ {ds : List D}, ds.all intB = true → (ds.map pI).map dI = ds
  | [], _ => rfl
  | d :: ds, h => by
    simp only [List.all_cons, Bool.and_eq_true] at h
    simp only [List.map_cons, dI_pI h.1, dIs_pI h.2]
theorem dR_pR {d : D} (h : (intB d || rowB d) = true) : dR (pR d) = d := by
  cases d <;> first | rfl | (cases h; done) | skip
  rename_i ds
  have h : ds.all intB = true := by simpa [intB, rowB] using h
  show D.tup ((ds.map pI).map dI) = _
  rw [dIs_pI h]
def alikeB (es : List D) : Bool := es.all intB || es.all rowB
theorem all_flat {es : List D} (h : alikeB es = true) : ∀ d ∈ es, (intB d || rowB d) = true := fun d hd => by
  unfold alikeB at h
  rw [Bool.or_eq_true] at h ⊢
  rcases h with h | h
  · exact .inl (List.all_eq_true.mp h d hd)
  · exact .inr (List.all_eq_true.mp h d hd)
theorem alike_pI : ∀ {ds es : List D}, ds.all intB = true → es.all intB = true → alikeAll (ds.map pI) (es.map pI) = true
  | [], es, _, _ => by unfold alikeAll; rfl
  | d :: ds, [], _, _ => by unfold alikeAll; rfl
  | d :: ds, e :: es, h1, h2 => by
    simp only [List.all_cons, Bool.and_eq_true] at h1 h2
    simp only [List.map_cons, alikeAll, Bool.and_eq_true]
    refine ⟨?_, alike_pI h1.2 h2.2⟩
    cases d <;> first | (cases h1.1; done) | skip
    cases e <;> first | (cases h2.1; done) | skip
    rfl
theorem alike_ok {es : List D} (h : alikeB es = true) : AlikeAll (es.map pR) := by
  have hf := all_flat h
  refine ⟨fun x hx y hy => ?_, fun x hx e => ?_⟩
  · obtain ⟨d, hd, rfl⟩ := List.mem_map.mp hx
    obtain ⟨e, he, rfl⟩ := List.mem_map.mp hy
    unfold alikeB at h
    rw [Bool.or_eq_true] at h
    rcases h with h | h
    · have a := List.all_eq_true.mp h d hd
      have b := List.all_eq_true.mp h e he
      cases d <;> first | (cases a; done) | skip
      cases e <;> first | (cases b; done) | skip
      rfl
    · have a := List.all_eq_true.mp h d hd
      have b := List.all_eq_true.mp h e he
      cases d <;> first | (cases a; done) | skip
      cases e <;> first | (cases b; done) | skip
      exact alike_pI a b
  · obtain ⟨d, hd, rfl⟩ := List.mem_map.mp hx
    have a := hf d hd
    cases d <;> first | (cases a; done) | cases e
theorem pyL_flat {S : Sto} {k : Nat} : ∀ {ds : List D}, ds.all intB = true → pyL (py S (k + 1)) ds = some (ds.map pI)
  | [], _ => rfl
  | d :: ds, h => by
    simp only [List.all_cons, Bool.and_eq_true] at h
    unfold pyL
    rw [pyL_flat h.2]
    cases d <;> first | (cases h.1; done) | skip
    have e : ∀ i, py S (k + 1) (.int i) = some (.int i) := fun i => by unfold py; rfl
    rw [e]; rfl
theorem py_flat {S : Sto} {d : D} (h : (intB d || rowB d) = true) : py S 4 d = some (pR d) := by
  cases d <;> first | (cases h; done) | skip
  · unfold py; rfl
  · rename_i ds
    have h : ds.all intB = true := by simpa [intB, rowB] using h
    unfold py
    show (pyL (py S 3) ds).map PyData.tuple = _
    rw [pyL_flat h]; rfl
theorem lay_pI : ∀ {ds : List D}, ds.all intB = true → PyData.canLayAll0 (ds.map pI) = true
  | [], _ => rfl
  | d :: ds, h => by
    simp only [List.all_cons, Bool.and_eq_true] at h
    show (PyData.canLay0 (pI d) && PyData.canLayAll0 (ds.map pI)) = true
    rw [lay_pI h.2]
    cases d <;> first | (cases h.1; done) | rfl
theorem lay_pR {d : D} (h : (intB d || rowB d) = true) : PyData.canLay0 (pR d) = true := by
  cases d <;> first | (cases h; done) | skip
  · rfl
  · rename_i ds
    have h : ds.all intB = true := by simpa [intB, rowB] using h
    exact lay_pI h
theorem dep_pI : ∀ {ds : List D}, ds.all intB = true → PyData.depthAll (ds.map pI) ≤ 1
  | [], _ => by decide
  | d :: ds, h => by
    simp only [List.all_cons, Bool.and_eq_true] at h
    show max (PyData.depth (pI d)) (PyData.depthAll (ds.map pI)) ≤ 1
    have := dep_pI h.2
    cases d <;> first | (cases h.1; done) | skip
    rename_i i
    have e : PyData.depth (pI (.int i)) = 0 := rfl
    omega
theorem dep_pR {d : D} (h : (intB d || rowB d) = true) : PyData.depth (pR d) ≤ 2 := by
  cases d <;> first | (cases h; done) | skip
  · exact Nat.zero_le _
  · rename_i ds
    have h : ds.all intB = true := by simpa [intB, rowB] using h
    have := dep_pI h
    show PyData.depthAll (ds.map pI) + 1 ≤ 2
    omega
theorem dep_all : ∀ {es : List D}, (∀ d ∈ es, (intB d || rowB d) = true) → PyData.depthAll (es.map pR) ≤ 2
  | [], _ => by decide
  | d :: es, h => by
    show max (PyData.depth (pR d)) (PyData.depthAll (es.map pR)) ≤ 2
    have a := dep_pR (h d List.mem_cons_self)
    have b := dep_all (es := es) fun e he => h e (List.mem_cons_of_mem _ he)
    omega
section
variable {X : Cx} {pins : List (Addr × Obj)} {σ : L2.St} {H : Hp} {s : Shared} {ρ : List Addr} {S : Sto}
theorem reads_all (I : Inv X pins σ H s) (rr : R X.K ρ H S) : ∀ {es : List D} {vs : List V} {its : List Value}, IsAll X.K ρ H es vs → Vals vs its → (∀ d ∈ es, (intB d || rowB d) = true) → ∃ as, ReadsAll s.heap its (es.map pR) as
  | [], vs, its, hi, rv, _ => by
    unfold IsAll at hi
    subst hi
    cases rv
    exact ⟨[], .nil⟩
  | d :: es, vs, its, hi, rv, hf => by
    unfold IsAll at hi
    obtain ⟨x, xs, rfl, h1, h2⟩ := hi
    cases rv with
    | cons r1 r2 =>
      obtain ⟨bs, b⟩ := reads_all I rr h2 r2 fun e he => hf e (List.mem_cons_of_mem _ he)
      obtain ⟨as, a⟩ := L2.Dp.reads I _ _ _ (py_dp rr 4 (py_flat (hf d List.mem_cons_self)) h1) r1
      exact ⟨_, .cons a b⟩
theorem len_all : ∀ {es : List D} {vs : List V}, IsAll X.K ρ H es vs → es.length = vs.length
  | [], vs, h => by unfold IsAll at h; subst h; rfl
  | d :: es, vs, h => by
    unfold IsAll at h
    obtain ⟨x, xs, rfl, _, h2⟩ := h
    simp [len_all h2]
/-- the item that was told is the one that is known -/
theorem most_item (I : Inv X pins σ H s) (rr : R X.K ρ H S) {es : List D} {vs : List V} {its : List Value} (hi : IsAll X.K ρ H es vs) (rv : Vals vs its) (hf : ∀ d ∈ es, (intB d || rowB d) = true) {i : Nat} {v : Value} {h' : Heap} {p : PyData} {bs : List Addr} (hv : its[i]? = some v) (hr : Reads h' v p bs) (hk : ∀ b o, s.heap.get? b = some o → h'.get? b = some o) : ∃ w, RelV w v ∧ Is X.K ρ H (dR p) w := by
  have hlt : i < its.length := (List.getElem?_eq_some_iff.mp hv).1
  have l1 := rv.length
  have l2 := len_all hi
  obtain ⟨d, hd⟩ : ∃ d, es[i]? = some d := ⟨_, List.getElem?_eq_getElem (by omega)⟩
  obtain ⟨w, hw, hd2⟩ := IsAll.get i hi hd
  obtain ⟨u, hu, ru⟩ := Vals.get rv hw
  rw [hv] at hu
  cases hu
  have hfd := hf d (List.mem_of_getElem? hd)
  obtain ⟨as, a⟩ := L2.Dp.reads I _ _ _ (py_dp rr 4 (py_flat hfd) hd2) ru
  have e := PySem.SeqAt.Reads.unique _ _ _ _ _ (lay_pR hfd) (PySem.W.reads_keeps hk a) hr
  refine ⟨w, ru, ?_⟩
  rw [← e, dR_pR hfd]
  exact hd2
end
def fMost (ds : List D) (S : Sto) : Out := match ds with
  | [d] => match seqOf S d with
    | some (e :: es) => if alikeB (e :: es) = true then some (dR (maxD (pR e) (es.map pR)), S) else none
    | _ => none
  | _ => none
theorem most_ok {X : Cx} (hc : X.calm = true) (hu : X.A.units + 64 < cLine) : CallR X (.builtin "max") (rF X.K fMost) := by
  intro pins s σ H xs us Q I r h
  obtain ⟨ρ, S, ds, rr, ia, q⟩ := h
  unfold fMost at q
  split at q
  · obtain ⟨v, rfl, i⟩ := ia.one
    split at q
    · rename_i e es z
      split at q
      · rename_i ha
        obtain ⟨p, vs, rfl, hsq, hi⟩ := seq_ok rr z i
        obtain ⟨u, rfl, ru⟩ := vals1 r
        obtain rfl : u = Value.ref p := ru
        have hA := alike_ok ha
        have hf := all_flat ha
        have hd := dep_all hf
        rcases hsq with hs | hs
        · obtain ⟨its, rv, hl, _⟩ := I.list hs
          obtain ⟨as, rd⟩ := reads_all I rr hi rv hf
          refine PySem.W.max_list_data (I.ok.hd hc) hl.isList (by simpa using rd) hA (by simp only [List.map_cons] at hd; omega) fun i v h' tk bs hv hr hk => ?_
          obtain ⟨w, h1, h2⟩ := most_item I rr hi rv hf (by simpa using hv) hr hk
          exact ⟨w, H, I.kept hk, h1, PO.val q rr h2⟩
        · obtain ⟨its, rv, hl, _⟩ := I.tuple hs
          obtain ⟨as, rd⟩ := reads_all I rr hi rv hf
          refine PySem.W.max_tuple_data (I.ok.hd hc) hl (by simpa using rd) hA (by simp only [List.map_cons] at hd; omega) fun i v h' tk bs hv hr hk => ?_
          obtain ⟨w, h1, h2⟩ := most_item I rr hi rv hf (by simpa using hv) hr hk
          exact ⟨w, H, I.kept hk, h1, PO.val q rr h2⟩
      · exact q.elim
    · exact q.elim
  · exact q.elim
def fLeast (ds : List D) (S : Sto) : Out := match ds with
  | [d] => match seqOf S d with
    | some (e :: es) => if alikeB (e :: es) = true then some (dR (minD (pR e) (es.map pR)), S) else none
    | _ => none
  | _ => none
theorem least_ok {X : Cx} (hc : X.calm = true) (hu : X.A.units + 64 < cLine) : CallR X (.builtin "min") (rF X.K fLeast) := by
  intro pins s σ H xs us Q I r h
  obtain ⟨ρ, S, ds, rr, ia, q⟩ := h
  unfold fLeast at q
  split at q
  · obtain ⟨v, rfl, i⟩ := ia.one
    split at q
    · rename_i e es z
      split at q
      · rename_i ha
        obtain ⟨p, vs, rfl, hsq, hi⟩ := seq_ok rr z i
        obtain ⟨u, rfl, ru⟩ := vals1 r
        obtain rfl : u = Value.ref p := ru
        have hA := alike_ok ha
        have hf := all_flat ha
        have hd := dep_all hf
        rcases hsq with hs | hs
        · obtain ⟨its, rv, hl, _⟩ := I.list hs
          obtain ⟨as, rd⟩ := reads_all I rr hi rv hf
          refine PySem.W.min_list_data (I.ok.hd hc) hl.isList (by simpa using rd) hA (by simp only [List.map_cons] at hd; omega) fun i v h' tk bs hv hr hk => ?_
          obtain ⟨w, h1, h2⟩ := most_item I rr hi rv hf (by simpa using hv) hr hk
          exact ⟨w, H, I.kept hk, h1, PO.val q rr h2⟩
        · obtain ⟨its, rv, hl, _⟩ := I.tuple hs
          obtain ⟨as, rd⟩ := reads_all I rr hi rv hf
          refine PySem.W.min_tuple_data (I.ok.hd hc) hl (by simpa using rd) hA (by simp only [List.map_cons] at hd; omega) fun i v h' tk bs hv hr hk => ?_
          obtain ⟨w, h1, h2⟩ := most_item I rr hi rv hf (by simpa using hv) hr hk
          exact ⟨w, H, I.kept hk, h1, PO.val q rr h2⟩
      · exact q.elim
    · exact q.elim
  · exact q.elim
def fMaxA (ds : List D) (S : Sto) : Out := match ds with
  | [d] => fMost [d] S
  | ds => fMax ds S
def fMinA (ds : List D) (S : Sto) : Out := match ds with
  | [d] => fLeast [d] S
  | ds => fMin ds S
theorem maxA_ok {X : Cx} (hc : X.calm = true) (hu : X.A.units + 64 < cLine) : CallR X (.builtin "max") (rF X.K fMaxA) := by
  intro pins s σ H xs us Q I r h
  obtain ⟨ρ, S, ds, rr, ia, q⟩ := h
  unfold fMaxA at q
  split at q
  · exact most_ok hc hu pins s σ H xs us Q I r ⟨ρ, S, _, rr, ia, q⟩
  · exact max_ok hc pins s σ H xs us Q I r ⟨ρ, S, _, rr, ia, q⟩
theorem minA_ok {X : Cx} (hc : X.calm = true) (hu : X.A.units + 64 < cLine) : CallR X (.builtin "min") (rF X.K fMinA) := by
  intro pins s σ H xs us Q I r h
  obtain ⟨ρ, S, ds, rr, ia, q⟩ := h
  unfold fMinA at q
  split at q
  · exact least_ok hc hu pins s σ H xs us Q I r ⟨ρ, S, _, rr, ia, q⟩
  · exact min_ok hc pins s σ H xs us Q I r ⟨ρ, S, _, rr, ia, q⟩
end Dp
end
section
set_option Elab.async false
set_option linter.all false
set_option maxRecDepth 100000
set_option maxHeartbeats 4000000
namespace Dp
open PySem PySem.Spec PyProof.Rows L2
/-! ### a sort by any order -/
section
variable {α : Type}
def insG (lt : α → α → Bool) (d : α) : List α → List α
  | [] => [d]
  | e :: r => if lt d e = true then d :: e :: r else e :: insG lt d r
def sortG (lt : α → α → Bool) (es : List α) : List α := es.foldr (insG lt) []
theorem insG_perm {lt : α → α → Bool} (d : α) : ∀ l, (insG lt d l).Perm (d :: l)
  | [] => .refl _
  | e :: r => by
    unfold insG
    split
    · exact .refl _
    · exact ((insG_perm d r).cons e).trans (List.Perm.swap d e r)
theorem sortG_perm {lt : α → α → Bool} : ∀ l, (sortG lt l).Perm l
  | [] => .refl _
  | d :: l => (insG_perm d (sortG lt l)).trans ((sortG_perm l).cons d)
theorem insG_srt {lt : α → α → Bool} (O : SrtO.Swo lt) (d : α) : ∀ {l}, SrtO.Srtd lt l → SrtO.Srtd lt (insG lt d l)
  | [], _ => SrtO.srtd_one d
  | e :: r, h => by
    unfold insG
    split
    · rename_i hl
      exact List.pairwise_cons.mpr ⟨fun y hy => O.asym _ _ (O.lt_all h hl y hy), h⟩
    · rename_i hl
      refine List.pairwise_cons.mpr ⟨fun y hy => ?_, insG_srt O d (List.pairwise_cons.mp h).2⟩
      rcases List.mem_cons.mp ((insG_perm d r).mem_iff.mp hy) with rfl | hm
      · exact Bool.eq_false_iff.mpr hl
      · exact SrtO.srtd_head h y hm
theorem sortG_srt {lt : α → α → Bool} (O : SrtO.Swo lt) : ∀ l, SrtO.Srtd lt (sortG lt l)
  | [] => List.Pairwise.nil
  | d :: l => insG_srt O d (sortG_srt O l)
theorem sortG_uniq {lt : α → α → Bool} (O : SrtO.Swo lt) : ∀ {l m : List α}, l.Perm m → (∀ x ∈ l, ∀ y ∈ l, lt x y = false → lt y x = false → x = y) → SrtO.Srtd lt l → SrtO.Srtd lt m → l = m
  | [], m, p, _, _, _ => (List.Perm.eq_nil p.symm).symm
  | x :: l, [], p, _, _, _ => absurd p.length_eq (by simp)
  | x :: l, y :: m, p, hp, hl, hm => by
    have my : y ∈ x :: l := p.mem_iff.mpr List.mem_cons_self
    have h1 : lt x y = false := by
      rcases List.mem_cons.mp (p.mem_iff.mp List.mem_cons_self : x ∈ y :: m) with e | h
      · rw [e]; exact O.refl y
      · exact SrtO.srtd_head hm x h
    have h2 : lt y x = false := by
      rcases List.mem_cons.mp my with e | h
      · rw [e]; exact O.refl x
      · exact SrtO.srtd_head hl y h
    have e := hp x List.mem_cons_self y my h1 h2
    subst e
    rw [sortG_uniq O p.cons_inv (fun a ha b hb => hp a (List.mem_cons_of_mem _ ha) b (List.mem_cons_of_mem _ hb)) (List.pairwise_cons.mp hl).2 (List.pairwise_cons.mp hm).2]
end
/-! ### the keys of a dict, sorted -/
def kB : List Key → Bool
  | [.inl _, .inl _] => true
  | _ => false
def kI : List Key → Int × Int
  | [.inl i, .inl j] => (i, j)
  | _ => (0, 0)
def ltK (a b : List Key) : Bool := SrtO.lexB (kI a) (kI b)
theorem kB_eq {k : List Key} (h : kB k = true) : ∃ i j, k = [.inl i, .inl j] := by
  unfold kB at h
  split at h
  · exact ⟨_, _, rfl⟩
  · cases h
theorem ltK_swo : SrtO.Swo ltK := by
  refine ⟨fun x y h => ?_, fun x y z h1 h2 => ?_⟩
  · have a := SrtO.lexB_iff.mp h
    exact SrtO.lexB_no.mpr (by omega)
  · have a := SrtO.lexB_no.mp h1
    have b := SrtO.lexB_no.mp h2
    exact SrtO.lexB_no.mpr (by omega)
theorem ltK_anti {x y : List Key} (hx : kB x = true) (hy : kB y = true) (h1 : ltK x y = false) (h2 : ltK y x = false) : x = y := by
  obtain ⟨i, j, rfl⟩ := kB_eq hx
  obtain ⟨i', j', rfl⟩ := kB_eq hy
  have a := SrtO.lexB_no.mp h1
  have b := SrtO.lexB_no.mp h2
  simp only [kI] at a b
  have e1 : i = i' := by omega
  have e2 : j = j' := by omega
  subst e1 e2
  rfl
def fSortK (own : Bool) (d : D) (S : Sto) : Out := match dtOf S d with
  | some kvs => if (kvs.map (·.1)).all kB = true then newL own ((sortG ltK (kvs.map (·.1))).map .kt) S else none
  | none => none
/-! ### the pairs of a dict, sorted -/
def itB : List Key × D → Bool
  | ([.inl _, .inl _], .int _) => true
  | _ => false
def itI : List Key × D → (Int × Int) × Int
  | ([.inl i, .inl j], .int c) => ((i, j), c)
  | _ => ((0, 0), 0)
def ltI (a b : List Key × D) : Bool := lex3 (itI a) (itI b)
def itD (p : List Key × D) : D := .tup [.kt p.1, p.2]
theorem itB_eq {p : List Key × D} (h : itB p = true) : ∃ i j c, p = ([.inl i, .inl j], .int c) := by
  unfold itB at h
  split at h
  · exact ⟨_, _, _, rfl⟩
  · cases h
theorem ltI_swo : SrtO.Swo ltI := swo_lex3 itI
theorem ltI_anti {x y : List Key × D} (hx : itB x = true) (hy : itB y = true) (h1 : ltI x y = false) (h2 : ltI y x = false) : x = y := by
  obtain ⟨i, j, c, rfl⟩ := itB_eq hx
  obtain ⟨i', j', c', rfl⟩ := itB_eq hy
  have a := lex3_no.mp h1
  have b := lex3_no.mp h2
  simp only [itI] at a b
  have e1 : i = i' := by omega
  have e2 : j = j' := by omega
  have e3 : c = c' := by omega
  subst e1 e2 e3
  rfl
/-! ### a dict of pairs -/
def ktP : D → Option (List Key × D)
  | .tup [.kt k, d] => some (k, d)
  | _ => none
def ktPs : List D → Option (List (List Key × D))
  | [] => some []
  | d :: ds => match ktP d, ktPs ds with
    | some p, some ps => some (p :: ps)
    | _, _ => none
def mergeT (kvs more : List (List Key × D)) : List (List Key × D) := more.foldl (fun acc p => putD acc p.1 p.2) kvs
def mergeTV (kvs more : List (List Key × V)) : List (List Key × V) := more.foldl (fun acc p => putK acc p.1 p.2) kvs
/-- a new dict: of the store, or one that nobody will write -/
def newT (own : Bool) (kvs : List (List Key × D)) (S : Sto) : Out := if own = true then some (.ref S.length, S ++ [.dt kvs]) else some (.dw (kvs.map (·.1)) (kvs.map (·.2)), S)
def fDict (own : Bool) (ds : List D) (S : Sto) : Out := match ds with
  | [d] => (match lsD S d with
    | some es => (match ktPs es with
      | some kvs => newT own (mergeT [] kvs) S
      | none => none)
    | none => none)
  | _ => none
section
variable {K : PySem.W.Frag} {ρ : List Addr} {H : Hp} {S : Sto} {X : Cx} {pins : List (Addr × Obj)} {σ : L2.St} {s : Shared}
theorem IsKv.mergeT : ∀ {more : List (List Key × D)} {ms : List (List Key × V)} {kvs : List (List Key × D)} {ks : List (List Key × V)}, IsKv K ρ H more ms → IsKv K ρ H kvs ks → IsKv K ρ H (Dp.mergeT kvs more) (mergeTV ks ms)
  | [], ms, _, _, h, g => by rw [h.nil_eq]; exact g
  | (k, d) :: more, ms, _, _, h, g => by
    obtain ⟨v, r, rfl, a, b⟩ := h.uncons
    show IsKv K ρ H (Dp.mergeT (putD _ k d) more) (mergeTV (putK _ k v) r)
    exact IsKv.mergeT b (g.put k a)
theorem KT_all {H : Hp} : ∀ {kvs acc : List (List Key × V)} {ps xs : List (List Key × Addr × Value)}, KT H kvs ps → KT H acc xs → KT H (mergeTV acc kvs) (storedAllH xs ps)
  | _, _, _, _, .nil, g => g
  | _, _, _, _, .cons (a := p) (b := q) h t, g => by
    obtain ⟨h1, h2, h3⟩ := h
    have := KT.put g p.1 (b := q.2.1) h2 h3
    rw [show p.1 = q.1 from h1] at this
    show KT H (mergeTV (putK _ p.1 p.2) _) (storedAllH (storedH _ q.1 q.2.1 q.2.2) _)
    rw [show p.1 = q.1 from h1]
    exact KT_all t this
theorem mergeTV_len : ∀ (more kvs : List (List Key × V)), (mergeTV kvs more).length ≤ kvs.length + more.length
  | [], kvs => Nat.le_refl _
  | p :: more, kvs => by
    have h1 := mergeTV_len more (putK kvs p.1 p.2)
    have h2 := length_putK kvs p.1 p.2
    show (mergeTV (putK kvs p.1 p.2) more).length ≤ _
    simp only [List.length_cons]
    omega
/-- a dict that is made is handed out -/
theorem newT_go {own : Bool} {kvs : List (List Key × D)} {ks : List (List Key × V)} {Q : VK} {p : Addr} (I : Inv X pins σ (upd H p (.dT ks)) s) (q : PO X.K ρ H (newT own kvs S) Q) (r : R X.K ρ H S) (i : IsKv X.K ρ H kvs ks) (hp : H p = none) : EP X pins σ Q (.ref p) s := by
  unfold newT at q
  cases own with
  | true =>
    refine ⟨.ref p, _, I, rfl, PO.new q r hp ⟨ks, upd_same, i.1, i.2.ext (ext_push hp)⟩⟩
  | false =>
    obtain ⟨od, J⟩ := I.lock upd_same True.intro
    rw [upd_upd] at J
    refine ⟨.ref p, _, J, rfl, q ρ _ _ (r.laid hp) (ext_new hp) ?_⟩
    unfold Is
    exact ⟨p, od, ks, rfl, upd_same, i.1, i.2.ext (ext_new hp)⟩
theorem ktP_eq {d : D} {p : List Key × D} (h : ktP d = some p) : d = .tup [.kt p.1, p.2] := by
  unfold ktP at h
  split at h
  · cases h; rfl
  · cases h
theorem pairsT_of (I : Inv X pins σ H s) : ∀ {es : List D} {xs : List V} {kvs : List (List Key × D)}, ktPs es = some kvs → IsAll X.K ρ H es xs →
    ∃ (Ts : List Addr) (ks : List (List Key × V)) (ps : List (List Key × Addr × Value)), xs = Ts.map V.ref ∧ IsKv X.K ρ H kvs ks ∧ KT H ks ps ∧ ps.length = Ts.length ∧ ∀ (j : Nat) (q : List Key × Addr × Value), ps[j]? = some q → ∃ T, Ts[j]? = some T ∧ s.heap.IsTuple T #[.ref q.2.1, q.2.2]
  | [], xs, kvs, e, h => by
    cases e
    rw [h.nil_eq]
    exact ⟨[], [], [], rfl, .nil, .nil, rfl, fun j q e => by simp at e⟩
  | d :: es, xs, kvs, e, h => by
    unfold ktPs at e
    split at e
    · rename_i p ps' e1 e2
      cases e
      obtain ⟨x, xs', rfl, i, j⟩ := h.uncons
      obtain ⟨Ts, ks, ps, e3, g1, g2, g3, g4⟩ := pairsT_of I e2 j
      have ed := ktP_eq e1
      subst ed
      obtain ⟨T, ws, rfl, t1, t2⟩ := i.tupAt
      obtain ⟨w1, w2, rfl, i1, i2⟩ := t2.two
      obtain ⟨b, rfl, hb⟩ := i1.ktAt
      obtain ⟨its, rv, pt, _⟩ := I.tuple t1
      obtain ⟨u1, u2, rfl, ru1, ru2⟩ := vals2 rv
      obtain rfl : u1 = Value.ref b := ru1
      refine ⟨T :: Ts, (p.1, w2) :: ks, (p.1, b, u2) :: ps, by rw [e3]; rfl, IsKv.cons i2 g1, .cons ⟨rfl, hb, ru2⟩ g2, by simp [g3], fun j q e => ?_⟩
      cases j with
      | zero => cases (Option.some.inj e : (p.1, b, u2) = q); exact ⟨T, rfl, pt⟩
      | succ j =>
        obtain ⟨T', a1, a2⟩ := g4 j q (by simpa using e)
        exact ⟨T', by simpa using a1, a2⟩
    · cases e
theorem fDict_ok (hc : X.calm = true) (hu : X.A.units + 64 < cLine) (own : Bool) : CallR X (.type "dict") (rF X.K (fDict own)) := by
  intro pins s σ H vs us Q I r h
  obtain ⟨ρ, S, ds, rr, ia, q⟩ := h
  unfold fDict at q
  split at q
  · obtain ⟨v, rfl, i⟩ := ia.one
    split at q
    · rename_i es z
      split at q
      · rename_i kvs z2
        obtain ⟨a, xs, rfl, hx, hi⟩ := rr.lsD z i
        obtain ⟨Ts, ks, ps, e3, g1, g2, g3, g4⟩ := pairsT_of I z2 hi
        subst e3
        obtain ⟨its, rv, pl, hz⟩ := I.list hx
        have ei := refs_at rv
        subst ei
        obtain ⟨u, rfl, ru⟩ := vals1 r
        obtain rfl : u = Value.ref a := ru
        obtain ⟨o, n, ho, hcl, hd, hdat⟩ := pl
        have lps : ps.length ≤ sizeLine := by rw [g3]; simpa using hz
        let prs : List (Value × Value) := ps.map fun q => (.ref q.2.1, q.2.2)
        have pit : PairItems s.heap (Ts.map Value.ref).toArray (fun j => Ts.getD j 0) prs := by
          refine ⟨by simp [prs, g3], fun j k v hj => ?_⟩
          rw [List.getElem?_map] at hj
          cases zj : ps[j]? with
          | none => rw [zj] at hj; cases hj
          | some q =>
            rw [zj] at hj
            cases hj
            obtain ⟨T, a1, a2⟩ := g4 j q zj
            have e : Ts.getD j 0 = T := by rw [List.getD_eq_getElem?_getD, a1]; rfl
            dsimp only
            rw [e]
            exact ⟨by simp [a1], .inl a2⟩
        have keyOk : ∀ x ∈ ps, (tupleKind (mixKind X.prog X.w)).is s.heap x.1 x.2.1 := by
          have gen : ∀ {l : List (List Key × V)} {m : List (List Key × Addr × Value)}, KT H l m → ∀ x ∈ m, (tupleKind (mixKind X.prog X.w)).is s.heap x.1 x.2.1 := by
            intro l m t
            induction t with
            | nil => intro x hx; cases hx
            | cons f t ih =>
              intro x hx
              rcases List.mem_cons.mp hx with rfl | hx
              · exact key_of I.hok (by rw [← f.1]; exact f.2.1)
              · exact ih x hx
          exact gen g2
        refine call_dict_pairsH (ps := ps) (knd := tupleKind (mixKind X.prog X.w)) (PairArg.list a (Ts.map Value.ref).toArray (fun j => Ts.getD j 0) prs) (I.ok.hd hc) (by show X.A.units + 1 + 1 < cLine; omega) ⟨⟨o, n, ho, hcl, hd, hdat⟩, pit⟩ ⟨by simp [prs], fun j k v hj => ?_⟩ (fun h' hk x hx' => ?_) (by simpa [prs] using lps) fun h' tk hd' hk => ?_
        · have hj : prs[j]? = some (k, v) := hj
          rw [List.getElem?_map] at hj
          cases zj : ps[j]? with
          | none => rw [zj] at hj; cases hj
          | some q =>
            rw [zj] at hj
            cases hj
            exact ⟨q.1, q.2.1, rfl, rfl⟩
        · obtain ⟨o2, it, n2, e1, e2⟩ := keyOk x hx'
          exact ⟨o2, it, n2, hk _ _ (Nat.ne_of_lt (Heap.lt_size e1)) (fun z => nomatch z) e1, e2⟩
        · have hm : (s.heap.objs.size == sysModules) = false := beq_eq_false_iff_ne.mpr (Nat.ne_of_gt I.big)
          have hlen : (mergeTV [] ks).length ≤ sizeLine := by
            refine Nat.le_trans (mergeTV_len ks []) ?_
            have := Paired.length g2
            simp only [List.length_nil, Nat.zero_add]
            omega
          have hn : H s.heap.objs.size = none := I.hok.fresh (Nat.le_refl _)
          obtain ⟨o3, es3, ep3, b1, b2, b3, b4, _, b5⟩ := hd'
          refine newT_go (I.laid (t' := tk) (fun b o e => hk b o (fun z => nomatch z) e) (Nat.le_refl _) (show ObjOk X.prog X.w _ _ _ (.dT (mergeTV [] ks)) from ⟨hlen, hm, storedAllH [] ps, (KT_all g2 .nil).keeps fun c ys ec => ?_, o3, es3, ep3, b1, b2, b3, b4, b5⟩)) q rr (g1.mergeT .nil) hn
          rw [upd_ne (ne_of_none ec hn)]
          exact ec
      · exact q.elim
    · exact q.elim
  · exact q.elim
end
end Dp
namespace Dp
open PySem PySem.Spec PyProof.Rows L2
section
variable {K : PySem.W.Frag} {ρ : List Addr} {H H2 : Hp} {S : Sto} {X : Cx} {pins : List (Addr × Obj)} {σ : L2.St} {s : Shared}
theorem ext_more (k : ∀ b o, H b = some o → H2 b = some o) : Ext K ρ H ρ H2 := ⟨⟨[], by simp⟩, fun _ h => .inl h, fun b o e _ _ => k b o e, fun b o e _ _ => k b o e⟩
theorem R.more (k : ∀ b o, H b = some o → H2 b = some o) (r : R K ρ H S) : R K ρ H2 S := ⟨r.len, fun i j a h1 h2 => (r.inj i j a h1 h2).imp id fun ⟨u, e, q⟩ => ⟨u, k _ _ e, q⟩, fun n m e => by
  obtain ⟨a, e1, q⟩ := r.obj n m e
  obtain ⟨u, e2, _⟩ := q.nt
  exact ⟨a, e1, q.ext (ext_more k) ((k _ _ e2).trans e2.symm)⟩⟩
theorem paired_of {α β : Type} {F : α → β → Prop} : ∀ {l : List α} {m : List β}, l.length = m.length → (∀ (j : Nat) (x : α) (y : β), l[j]? = some x → m[j]? = some y → F x y) → Paired F l m
  | [], [], _, _ => .nil
  | [], _ :: _, h, _ => by simp at h
  | _ :: _, [], h, _ => by simp at h
  | x :: l, y :: m, h, f => .cons (f 0 x y rfl rfl) (paired_of (by simpa using h) fun j a b h1 h2 => f (j + 1) a b (by simpa using h1) (by simpa using h2))
theorem paired_at {α β : Type} {F : α → β → Prop} : ∀ {l : List α} {m : List β}, Paired F l m → ∀ {j : Nat} {x : α} {y : β}, l[j]? = some x → m[j]? = some y → F x y
  | _, _, .nil, j, x, y, h, _ => by simp at h
  | _, _, .cons f t, 0, x, y, h1, h2 => by cases (Option.some.inj h1); cases (Option.some.inj h2); exact f
  | _, _, .cons f t, j + 1, x, y, h1, h2 => paired_at t (by simpa using h1) (by simpa using h2)
theorem fSortK_ok (hc : X.calm = true) (own : Bool) {pins : List (Addr × Obj)} {s : Shared} {σ : L2.St} {H : Hp} {us : List Value} {Q : VK} {d : D} {v : V} (I : Inv X pins σ H s) (r : Vals [v] us) (rr : R X.K ρ H S) (i : Is X.K ρ H d v) (q : PO X.K ρ H (fSortK own d S) Q) :
    wpAny (model X.prog X.w) X.A (call (.builtin "sorted") us) (EP X pins σ Q) X.xe s := by
  unfold fSortK at q
  split at q
  · rename_i kvs z
    split at q
    · rename_i hk
      obtain ⟨p, ks, rfl, rd, ik⟩ := dtOf_ok rr z i
      obtain ⟨u, rfl, ru⟩ := vals1 r
      obtain rfl : u = Value.ref p := ru
      obtain ⟨hz, lo, xs, kt, o, es, ep, ho, hx, hdat, hes, his, hnd⟩ := dt_rd I.hok rd
      have lx : ks.length = xs.length := Paired.length kt
      have le : es.size = xs.length := size_of_entries hes
      have hkeys : es.toList.map (·.key) = xs.map fun x => Value.ref x.2.1 := by
        rw [hes, List.map_map]; rfl
      have G : Paired (fun (k : List Key) (u : Value) => ∃ b, u = .ref b ∧ H b = some (.tup (k.map kV))) (ks.map (·.1)) (xs.map fun x => Value.ref x.2.1) := by
        have gen : ∀ {l : List (List Key × V)} {m : List (List Key × Addr × Value)}, KT H l m → Paired (fun (k : List Key) (u : Value) => ∃ b, u = .ref b ∧ H b = some (.tup (k.map kV))) (l.map (·.1)) (m.map fun x => Value.ref x.2.1) := by
          intro l m t
          induction t with
          | nil => exact .nil
          | cons f t ih => exact .cons ⟨_, rfl, f.2.1⟩ ih
        exact gen kt
      have two : ∀ k ∈ ks.map (·.1), ∀ b, H b = some (.tup (k.map kV)) → ∃ i j, k = [.inl i, .inl j] ∧ SqT X.K H b [.int i, .int j] := fun k hm b hb => by
        obtain ⟨i, j, rfl⟩ := kB_eq (List.all_eq_true.mp hk k (by rw [← ik.1]; exact hm))
        exact ⟨i, j, rfl, .inl (.inl hb)⟩
      have kOf : ∀ k ∈ ks.map (·.1), ∀ b, H b = some (.tup (k.map kV)) → keyV X.K H (.ref b) = kI k := fun k hm b hb => by
        obtain ⟨i, j, rfl, sq⟩ := two k hm b hb
        exact keyV_eq I sq
      have hout : ∀ u ∈ es.toList.map (·.key), ∃ k ∈ ks.map (·.1), ∃ b, u = Value.ref b ∧ H b = some (.tup (k.map kV)) := fun u hu => by
        rw [hkeys] at hu
        obtain ⟨j, hj⟩ := List.mem_iff_getElem?.mp hu
        have hl := Paired.length G
        have hj2 : j < (ks.map (·.1)).length := by rw [hl]; exact (List.getElem?_eq_some_iff.mp hj).1
        obtain ⟨b, e1, e2⟩ := paired_at G (List.getElem?_eq_getElem hj2) hj
        exact ⟨_, List.getElem_mem hj2, b, e1, e2⟩
      refine sorted_keysT (k := fun u => keyV X.K H (backV u)) (I.ok.hd hc) lo ⟨o, ho, hx, hdat⟩ (by omega) (fun u hu => ?_) fun h' l tk out srt prm keep hl hL => ?_
      · obtain ⟨k, hm, b, rfl, hb⟩ := hout u hu
        obtain ⟨i, j, rfl, sq⟩ := two k hm b hb
        have e := keyV_eq I sq
        obtain ⟨its, rv, ⟨ob, hob, hcb, n, hdb⟩, _⟩ := I.tuple sq
        obtain ⟨u1, u2, rfl, ru1, ru2⟩ := vals2 rv
        obtain ⟨t1, rfl⟩ := ru1
        obtain ⟨t2, rfl⟩ := ru2
        refine ⟨b, ob, t1, t2, n, rfl, hob, hcb, ?_⟩
        show ob.data = .seq #[.int (keyV X.K H (.ref b)).1 t1, .int (keyV X.K H (.ref b)).2 t2] n
        rw [e]
        exact hdb
      · rw [hkeys] at prm
        obtain ⟨fs, pf, hf⟩ := paired_perm prm G
        have inF : ∀ k ∈ fs, k ∈ ks.map (·.1) := fun k hm => pf.mem_iff.mp hm
        have sf : SrtO.Srtd ltK fs := by
          refine paired_pw (Q := fun x y => SrtO.lexB (keyV X.K H (backV y)) (keyV X.K H (backV x)) = false) hf (fun k hk' k2 hk2 x y fx fy hq => ?_) srt
          obtain ⟨b, rfl, hb⟩ := fx
          obtain ⟨b2, rfl, hb2⟩ := fy
          have hq : SrtO.lexB (keyV X.K H (.ref b2)) (keyV X.K H (.ref b)) = false := hq
          rw [kOf k (inF k hk') b hb, kOf k2 (inF k2 hk2) b2 hb2] at hq
          exact hq
        have pk : fs.Perm (sortG ltK (kvs.map (·.1))) := by
          rw [← ik.1]
          exact pf.trans (sortG_perm _).symm
        have e3 : fs = sortG ltK (kvs.map (·.1)) := sortG_uniq ltK_swo pk (fun x hx y hy => ltK_anti (List.all_eq_true.mp hk x (by rw [← ik.1]; exact inF x hx)) (List.all_eq_true.mp hk y (by rw [← ik.1]; exact inF y hy))) sf (sortG_srt ltK_swo _)
        rw [← e3] at q
        have hr : ∀ u ∈ out, ∃ a, u = Value.ref a := fun u hu => by
          obtain ⟨x, _, e⟩ := List.mem_map.mp (prm.mem_iff.mp hu)
          exact ⟨_, e.symm⟩
        obtain ⟨n, hn⟩ := hL
        have Hl : H l = none := I.hok.gone hl
        have len : (out.map backV).length ≤ sizeLine := by rw [List.length_map, prm.length_eq, List.length_map]; omega
        have ia : IsAll X.K ρ H (fs.map .kt) (out.map backV) := by
          have gen : ∀ {l : List (List Key)} {m : List Value}, Paired (fun (k : List Key) (u : Value) => ∃ b, u = .ref b ∧ H b = some (.tup (k.map kV))) l m → IsAll X.K ρ H (l.map .kt) (m.map backV) := by
            intro l m t
            induction t with
            | nil => exact .nil
            | cons f t ih =>
              obtain ⟨b, rfl, hb⟩ := f
              exact .cons (by unfold Is; exact ⟨b, rfl, hb⟩) ih
          exact gen hf
        refine ⟨.ref l, upd H l (.lst (out.map backV)), I.laidN (t' := tk) keep hl Hl ⟨len, out, n, vals_back hr, hn⟩, rfl, ?_⟩
        exact PO.newL q rr ia Hl
    · exact q.elim
  · exact q.elim
end
end Dp
namespace Dp
open PySem PySem.Spec PyProof.Rows L2
theorem nodup_at {α : Type} : ∀ {l : List α}, l.Nodup → ∀ {i j : Nat} {x : α}, l[i]? = some x → l[j]? = some x → i = j
  | [], _, i, j, x, h, _ => by simp at h
  | a :: l, n, 0, 0, x, _, _ => rfl
  | a :: l, n, 0, j + 1, x, h1, h2 => by
    cases (Option.some.inj h1)
    exact absurd (List.mem_of_getElem? (by simpa using h2)) (List.nodup_cons.mp n).1
  | a :: l, n, i + 1, 0, x, h1, h2 => by
    cases (Option.some.inj h2)
    exact absurd (List.mem_of_getElem? (by simpa using h1)) (List.nodup_cons.mp n).1
  | a :: l, n, i + 1, j + 1, x, h1, h2 => by
    have e : i = j := nodup_at (l := l) (x := x) (List.nodup_cons.mp n).2 (by simpa using h1) (by simpa using h2)
    rw [e]
/-- sorted(d.items()) -/
def rSortIt (K : PySem.W.Frag) : List V → Hp → VK → Prop := fun vs H Q => ∃ p a ρ S kvs ks, vs = [.ref p] ∧ H p = some (L2.DX.itemsO p a) ∧ H a = some (.dT ks) ∧ R K ρ H S ∧ IsKv K ρ H kvs ks ∧ kvs.all itB = true ∧ PO K ρ H (some (.lv ((sortG ltI kvs).map itD), S)) Q
theorem sortIt_ok {X : Cx} (hc : X.calm = true) (hu : X.A.units + 64 < cLine) : CallR X (.builtin "sorted") (rSortIt X.K) := by
  intro pins s σ H vs us Q I r h
  obtain ⟨p, a, ρ, S, kvs, ks, rfl, hp, ha, rr, ik, hb, q⟩ := h
  obtain ⟨u, rfl, ru⟩ := vals1 r
  obtain rfl : u = Value.ref p := ru
  have view : s.heap.IsItemsView p a := (show ObjOk X.prog X.w H s.heap p (L2.DX.itemsO p a) from I.hok p _ hp).1
  obtain ⟨hz, lo, xs, kt, o, es, ep, ho, hx, hdat, hes, his, hnd⟩ := dt_of I.hok ha
  have lx : ks.length = xs.length := Paired.length kt
  have lk : ks.length = kvs.length := ik.length
  have le : es.size = xs.length := size_of_entries hes
  -- the j-th entry
  have ent : ∀ (j : Nat) (en : DictEntry), es[j]? = some en → ∃ i i' c b t, kvs[j]? = some ([.inl i, .inl i'], .int c) ∧ en.key = .ref b ∧ en.val = .int c t ∧ H b = some (.tup [.int i, .int i']) := fun j en hj => by
    rw [entry_at hes j] at hj
    cases zx : xs[j]? with
    | none => rw [zx] at hj; cases hj
    | some x =>
      rw [zx] at hj
      have een : entryOfKey (tupleKind (mixKind X.prog X.w)) x = en := Option.some.inj hj
      have hj1 : j < ks.length := by rw [lx]; exact (List.getElem?_eq_some_iff.mp zx).1
      have hj2 : j < kvs.length := by omega
      obtain ⟨f1, f2, f3⟩ := paired_at kt (List.getElem?_eq_getElem hj1) zx
      obtain ⟨i, i', c, e1⟩ := itB_eq (List.all_eq_true.mp hb kvs[j] (List.getElem_mem hj2))
      have ek : (ks[j]).1 = [.inl i, .inl i'] := by
        have h0 : (ks.map (·.1))[j]? = (kvs.map (·.1))[j]? := by rw [ik.1]
        rw [List.getElem?_map, List.getElem?_map, List.getElem?_eq_getElem hj1, List.getElem?_eq_getElem hj2, e1] at h0
        exact Option.some.inj h0
      obtain ⟨v0, hv0, iv0⟩ := ik.2.get j (d := .int c) (by rw [List.getElem?_map, List.getElem?_eq_getElem hj2, e1]; rfl)
      rw [List.getElem?_map, List.getElem?_eq_getElem hj1] at hv0
      have ev : (ks[j]).2 = v0 := Option.some.inj hv0
      rw [ev, iv0.int_eq] at f3
      obtain ⟨t, ht⟩ := f3
      rw [ek] at f2
      refine ⟨i, i', c, x.2.1, t, by rw [List.getElem?_eq_getElem hj2, e1], ?_, ?_, f2⟩
      · rw [← een]; rfl
      · rw [← een]; exact ht
  refine sorted_itemsT (es := es) (ep := ep) (I.ok.hd hc) (by omega) view ⟨o, ho, hx, hdat⟩ (by omega) (fun en hen => ?_) fun h' l tk as out las nd asz mk keep hl prm srt hL => ?_
  · obtain ⟨j, hj⟩ := List.mem_iff_getElem?.mp hen
    rw [Array.getElem?_toList] at hj
    obtain ⟨i, i', c, b, t, _, e1, e2, e3⟩ := ent j en hj
    obtain ⟨its, rv, ⟨ob, hob, hcb, n, hdb⟩, _⟩ := I.tuple (xs := [.int i, .int i']) (.inl (.inl e3))
    obtain ⟨u1, u2, rfl, ru1, ru2⟩ := vals2 rv
    obtain ⟨t1, rfl⟩ := ru1
    obtain ⟨t2, rfl⟩ := ru2
    exact ⟨b, i, i', c, t, e1, ⟨b, ob, t1, t2, n, rfl, hob, hcb, hdb⟩, e2⟩
  · obtain ⟨n, hn⟩ := hL
    have Hl : H l = none := I.hok.gone hl
    have hr : ∀ u ∈ out, ∃ a, u = Value.ref a := fun u hu => by
      obtain ⟨x, _, e⟩ := List.mem_map.mp (prm.mem_iff.mp hu)
      exact ⟨_, e.symm⟩
    have len : (out.map backV).length ≤ sizeLine := by rw [List.length_map, prm.length_eq, List.length_map]; omega
    have I1 : Inv X pins σ (upd H l (.lst (out.map backV))) { s with heap := h', toks := tk } := I.laidN (t' := tk) keep hl Hl ⟨len, out, n, vals_back hr, hn⟩
    have tup : ∀ (j : Nat) (c : Addr), as[j]? = some c → ∃ i i' z b t, kvs[j]? = some ([.inl i, .inl i'], .int z) ∧ H b = some (.tup [.int i, .int i']) ∧ h'.get? c = some { cls := .type "tuple", data := .seq #[Value.ref b, Value.int z t] } := fun j c hj => by
      obtain ⟨en, he, hg⟩ := mk j c hj
      obtain ⟨i, i', z, b, t, e0, e1, e2, e3⟩ := ent j en he
      exact ⟨i, i', z, b, t, e0, e3, by rw [hg, e1, e2]⟩
    obtain ⟨H2, I2, g, qt⟩ := L2.DX.takeT (P := fun c ws => ∀ (j : Nat), as[j]? = some c → ∃ i i' z b, kvs[j]? = some ([.inl i, .inl i'], .int z) ∧ H b = some (.tup [.int i, .int i']) ∧ ws = [.ref b, .int z]) I as _ I1 nd fun c hc' => by
      obtain ⟨z1, z2⟩ := asz c hc'
      obtain ⟨j, hj⟩ := List.mem_iff_getElem?.mp hc'
      obtain ⟨i, i', z, b, t, e0, e1, e2⟩ := tup j c hj
      refine ⟨z1, by rw [upd_ne z2]; exact I.hok.fresh z1, [.ref b, .int z], fun j' hj' => ?_, fun H3 => ⟨by simp [sizeLine_eq], [Value.ref b, Value.int z t], .cons rfl (.cons ⟨t, rfl⟩ .nil), _, e2, rfl, 0, rfl⟩⟩
      have ej : j' = j := nodup_at nd hj' hj
      subst ej
      exact ⟨i, i', z, b, e0, e1, rfl⟩
    have k0 : ∀ b o, H b = some o → H2 b = some o := fun b o e => g b o (by rw [upd_ne (ne_of_none e Hl)]; exact e)
    -- pairs and places
    have F : Paired (fun (p : List Key × D) (u : Value) => ∃ c, u = .ref c ∧ IsItem h' u (itI p) ∧ Is X.K ρ H2 (itD p) (.ref c)) kvs (as.map Value.ref) := paired_of (by rw [List.length_map]; omega) fun j p u hp' hu' => by
      rw [List.getElem?_map] at hu'
      cases zc : as[j]? with
      | none => rw [zc] at hu'; cases hu'
      | some c =>
        rw [zc] at hu'
        cases (Option.some.inj hu')
        obtain ⟨i, i', z, b, t, e0, e1, e2⟩ := tup j c zc
        rw [hp'] at e0
        cases e0
        obtain ⟨ws, hw, hH⟩ := qt c (List.mem_of_getElem? zc)
        obtain ⟨_, _, _, b2, f1, f2, rfl⟩ := hw j zc
        rw [hp'] at f1
        cases f1
        obtain ⟨its, rv, ⟨ob, hob, hcb, n2, hdb⟩, _⟩ := I.tuple (xs := [.int i, .int i']) (.inl (.inl e1))
        obtain ⟨u1, u2, rfl, ru1, ru2⟩ := vals2 rv
        obtain ⟨t1, rfl⟩ := ru1
        obtain ⟨t2, rfl⟩ := ru2
        refine ⟨c, rfl, ⟨c, b, t, rfl, ⟨_, 0, e2, rfl, rfl⟩, b, ob, t1, t2, n2, rfl, keep _ _ hob, hcb, hdb⟩, ?_⟩
        unfold itD Is
        refine ⟨c, _, rfl, .inl (.inl hH), .cons ?_ (.cons Is.int' .nil)⟩
        unfold Is
        exact ⟨b2, rfl, k0 _ _ f2⟩
    obtain ⟨fs, pf, hf⟩ := paired_perm prm F
    have sf : SrtO.Srtd ltI fs := paired_pw (Q := fun x y => ∀ a b, IsItem h' x a → IsItem h' y b → lex3 b a = false) hf (fun p _ p2 _ x y ⟨_, _, f1, _⟩ ⟨_, _, f2, _⟩ hq => hq _ _ f1 f2) srt
    have inF : ∀ k ∈ fs, itB k = true := fun k hm => List.all_eq_true.mp hb k (pf.mem_iff.mp hm)
    have e3 : fs = sortG ltI kvs := sortG_uniq ltI_swo (pf.trans (sortG_perm _).symm) (fun x hx y hy => ltI_anti (inF x hx) (inF y hy)) sf (sortG_srt ltI_swo _)
    rw [← e3] at q
    have ia : IsAll X.K ρ H2 (fs.map itD) (out.map backV) := by
      have gen : ∀ {l : List (List Key × D)} {m : List Value}, Paired (fun (p : List Key × D) (u : Value) => ∃ c, u = .ref c ∧ IsItem h' u (itI p) ∧ Is X.K ρ H2 (itD p) (.ref c)) l m → IsAll X.K ρ H2 (l.map itD) (m.map backV) := by
        intro l m t
        induction t with
        | nil => exact .nil
        | cons f t ih =>
          obtain ⟨b, rfl, _, f3⟩ := f
          exact .cons f3 ih
      exact gen hf
    have hH2 : H2 l = some (.lst (out.map backV)) := g _ _ upd_same
    refine ⟨.ref l, H2, I2, rfl, ?_⟩
    have nl : l ∉ ρ := fun z => by obtain ⟨u, e, _⟩ := rr.tracked z; rw [Hl] at e; cases e
    refine q ρ H2 _ (rr.more k0) (ext_more k0) ?_
    unfold Is
    exact ⟨l, _, rfl, hH2, nl, ia⟩
end Dp
end
section
set_option Elab.async false
set_option linter.all false
set_option maxRecDepth 100000
set_option maxHeartbeats 4000000
namespace Dp
open PySem PySem.Spec PyProof.Rows L2
/-! ### all and any of a list of truth values -/
def blsOf : List D → Option (List Bool)
  | [] => some []
  | .bl b :: ds => (blsOf ds).map (b :: ·)
  | _ => none
def fBls (g : List Bool → Bool) (ds : List D) (S : Sto) : Out := match ds with
  | [d] => match lsD S d with
    | some es => (match blsOf es with
      | some bs => some (.bl (g bs), S)
      | none => none)
    | none => none
  | _ => none
section
variable {K : PySem.W.Frag} {ρ : List Addr} {H : Hp} {X : Cx}
theorem blsOf_ok : ∀ {es : List D} {bs : List Bool} {vs : List V}, blsOf es = some bs → IsAll K ρ H es vs → vs = bs.map V.bl
  | [], bs, vs, e, h => by cases e; rw [h.nil_eq]; rfl
  | d :: es, bs, vs, e, h => by
    cases d with
    | bl b =>
      obtain ⟨x, xs, rfl, a, r⟩ := h.uncons
      have e : (blsOf es).map (b :: ·) = some bs := e
      cases z : blsOf es with
      | none => rw [z] at e; cases e
      | some cs =>
        rw [z] at e; cases e
        rw [blsOf_ok z r, a.bl_eq]; rfl
    | _ => cases e
theorem bls_go {id : String} {g : List Bool → Bool} (hcr : ∀ pins s σ H vs us Q, Inv X pins σ H s → Vals vs us → (∃ (a : Addr) (bs : List Bool), vs = [V.ref a] ∧ SqL X.K H a (bs.map V.bl) ∧ Q (.bl (g bs)) H) → wpAny (model X.prog X.w) X.A (call (.builtin id) us) (EP X pins σ Q) X.xe s) : CallR X (.builtin id) (rF X.K (fBls g)) := by
  intro pins s σ H vs us Q I r h
  obtain ⟨ρ, S, ds, rr, ia, q⟩ := h
  unfold fBls at q
  split at q
  · obtain ⟨v, rfl, i⟩ := ia.one
    split at q
    · rename_i es z
      split at q
      · rename_i bs z2
        obtain ⟨p, xs, rfl, hp, rp⟩ := rr.lsD z i
        refine hcr pins s σ H _ us Q I r ⟨p, bs, rfl, ?_, PO.val q rr Is.bl'⟩
        rw [← blsOf_ok z2 rp]; exact hp
      · exact q.elim
    · exact q.elim
  · exact q.elim
theorem all_ok (hc : X.calm = true) : CallR X (.builtin "all") (rF X.K (fBls fun bs => bs.all id)) := bls_go fun pins s σ H vs us Q I r h => cr_all hc pins s σ H vs us Q I r h
theorem any_ok (hc : X.calm = true) : CallR X (.builtin "any") (rF X.K (fBls fun bs => bs.any id)) := bls_go fun pins s σ H vs us Q I r h => cr_any hc pins s σ H vs us Q I r h
end
end Dp
end
section
set_option Elab.async false
set_option linter.all false
set_option maxRecDepth 100000
set_option maxHeartbeats 4000000
namespace Dp
open PySem PySem.Spec PyProof.Rows L2
/-! ### what a call leaves: the new places of the store are given up, what is told of them goes into the value -/
mutual
/-- no place from n on is told -/
def cloB (n : Nat) : D → Bool
  | .ref m => decide (m < n)
  | .tup ds => cloBs n ds
  | .lv ds => cloBs n ds
  | .dv _ ds => cloBs n ds
  | .dw _ ds => cloBs n ds
  | .exv _ _ ds => cloBs n ds
  | _ => true
def cloBs (n : Nat) : List D → Bool
  | [] => true
  | d :: ds => cloB n d && cloBs n ds
end
def cloO (n : Nat) : Option D → Bool
  | none => true
  | some d => cloB n d
def cloM (n : Nat) : M → Bool
  | .lst ds => cloBs n ds
  | .fro ds => cloBs n ds
  | .dk kvs => cloBs n (kvs.map (·.2))
  | .dt kvs => cloBs n (kvs.map (·.2))
  | .ft kvs => cloBs n (kvs.map (·.2))
  | .code _ _ s _ => s.all (cloO n)
  | _ => true
def mapO {α β : Type} (f : α → Option β) : List α → Option (List β)
  | [] => some []
  | d :: ds => match f d, mapO f ds with
    | some e, some es => some (e :: es)
    | _, _ => none
/-- a value without the places from n on -/
def frz (S : Sto) (n : Nat) : Nat → D → Option D
  | 0, d => if cloB n d = true then some d else none
  | k + 1, d => if cloB n d = true then some d else match d with
    | .ref m => (match S[m]? with
      | some (.lst ds) => (mapO (frz S n k) ds).map .lv
      | some (.dk kvs) => (mapO (frz S n k) (kvs.map (·.2))).map (.dv (kvs.map (·.1)))
      | some (.ft kvs) => (mapO (frz S n k) (kvs.map (·.2))).map (.dw (kvs.map (·.1)))
      | _ => none)
    | .tup ds => (mapO (frz S n k) ds).map .tup
    | .lv ds => (mapO (frz S n k) ds).map .lv
    | .dv ks ds => (mapO (frz S n k) ds).map (.dv ks)
    | .dw ks ds => (mapO (frz S n k) ds).map (.dw ks)
    | _ => none
def frzX (S : Sto) (n : Nat) (c : Exn) : Option Exn := match c.attr with
  | none => some c
  | some (x, d) => (frz S n 6 d).map fun d' => ⟨c.cls, some (x, d')⟩
def frzO (S : Sto) (n : Nat) : Option D → Option (Option D)
  | none => some none
  | some d => (frz S n 6 d).map some
abbrev Keep := Sto → Sto → Bool
/-- each place is as before or tells no new place -/
def KeepOk (kp : Keep) : Prop := ∀ S T, kp S T = true → ∀ (i : Nat) (m : M), T[i]? = some m → S[i]? = some m ∨ cloM T.length m = true
def scope (kp : Keep) (S : Sto) (r : Res D) : Res D := match r with
  | .ok d S' => if S'.length = S.length then .ok d S' else match frz S' S.length 6 d with
    | some d' => if kp S (S'.take S.length) = true then .ok d' (S'.take S.length) else .no
    | none => .no
  | .exc c S' => if S'.length = S.length then .exc c S' else match frzX S' S.length c with
    | some c' => if kp S (S'.take S.length) = true then .exc c' (S'.take S.length) else .no
    | none => .no
  | .no => .no
section
variable {K : PySem.W.Frag} {ρ ρ' l : List Addr} {H H' : Hp} {S S' : Sto} {W : WX} {σV : L2.St}
theorem mapO_cons {α β : Type} {f : α → Option β} {d : α} {ds : List α} {es : List β} (h : mapO f (d :: ds) = some es) : ∃ e es', es = e :: es' ∧ f d = some e ∧ mapO f ds = some es' := by
  unfold mapO at h
  split at h
  · rename_i e es' h1 h2
    cases h
    exact ⟨e, es', rfl, h1, h2⟩
  · cases h
mutual
theorem Is.clo : ∀ {d : D} {v : V}, Is K ρ H d v → cloB ρ.length d = true
  | .non, _, _ => rfl
  | .bl _, _, _ => rfl
  | .int _, _, _ => rfl
  | .str _, _, _ => rfl
  | .con _, _, _ => rfl
  | .ty _, _, _ => rfl
  | .adr _, _, _ => rfl
  | .kt _, _, _ => rfl
  | .ref n, _, h => by
    unfold Is at h
    obtain ⟨a, e, _⟩ := h
    exact decide_eq_true (List.getElem?_eq_some_iff.mp e).1
  | .tup ds, _, h => by
    unfold Is at h
    obtain ⟨a, xs, _, _, r⟩ := h
    exact IsAll.clo r
  | .lv ds, _, h => by
    unfold Is at h
    obtain ⟨a, xs, _, _, _, r⟩ := h
    exact IsAll.clo r
  | .dv ks ds, _, h => by
    unfold Is at h
    obtain ⟨a, xs, _, _, _, _, r⟩ := h
    exact IsAll.clo r
  | .dw ks ds, _, h => by
    unfold Is at h
    obtain ⟨a, xs, _, _, _, _, r⟩ := h
    exact IsAll.clo r
  | .exv c an ds, _, h => by
    unfold Is at h
    obtain ⟨a, dd, _, _, h⟩ := h
    rcases h with ⟨_, _, h⟩ | ⟨n, b, w, _, _, _, r⟩
    · subst h; rfl
    · exact IsAll.clo r
theorem IsAll.clo : ∀ {ds : List D} {vs : List V}, IsAll K ρ H ds vs → cloBs ρ.length ds = true
  | [], _, _ => rfl
  | d :: ds, _, h => by
    unfold IsAll at h
    obtain ⟨x, xs, _, a, b⟩ := h
    show (cloB _ d && cloBs _ ds) = true
    rw [Is.clo a, IsAll.clo b]
    rfl
end
theorem get_pre (hρ : ρ' = ρ ++ l) {m : Nat} (h : m < ρ.length) : ρ'[m]? = ρ[m]? := by subst hρ; exact List.getElem?_append_left h
theorem not_pre (hρ : ρ' = ρ ++ l) {a : Addr} (h : a ∉ ρ') : a ∉ ρ := fun z => h (by subst hρ; exact List.mem_append_left _ z)
mutual
/-- nothing new is told: it holds without the new places -/
theorem Is.down (hρ : ρ' = ρ ++ l) : ∀ {d : D} {v : V}, cloB ρ.length d = true → Is K ρ' H d v → Is K ρ H d v
  | .non, _, _, h => h
  | .bl _, _, _, h => h
  | .int _, _, _, h => h
  | .str _, _, _, h => h
  | .con _, _, _, h => h
  | .ty _, _, _, h => h
  | .adr _, _, _, h => h
  | .kt _, _, _, h => by unfold Is at h ⊢; exact h
  | .ref n, _, c, h => by
    unfold Is at h ⊢
    obtain ⟨a, e, q⟩ := h
    exact ⟨a, by rw [← get_pre hρ (of_decide_eq_true c)]; exact e, q⟩
  | .tup ds, _, c, h => by
    unfold Is at h ⊢
    obtain ⟨a, xs, e, q, r⟩ := h
    exact ⟨a, xs, e, q, IsAll.down hρ c r⟩
  | .lv ds, _, c, h => by
    unfold Is at h ⊢
    obtain ⟨a, xs, e, q, n, r⟩ := h
    exact ⟨a, xs, e, q, not_pre hρ n, IsAll.down hρ c r⟩
  | .dv ks ds, _, c, h => by
    unfold Is at h ⊢
    obtain ⟨a, xs, e, q, n, k, r⟩ := h
    exact ⟨a, xs, e, q, not_pre hρ n, k, IsAll.down hρ c r⟩
  | .dw ks ds, _, c, h => by
    unfold Is at h ⊢
    obtain ⟨a, od, xs, e, q, k, r⟩ := h
    exact ⟨a, od, xs, e, q, k, IsAll.down hρ c r⟩
  | .exv x an ds, _, c, h => by
    unfold Is at h ⊢
    obtain ⟨a, dd, e, q, h⟩ := h
    exact ⟨a, dd, e, q, h.imp id fun ⟨n, b, w, h1, h2, h3, r⟩ => ⟨n, b, w, h1, h2, h3, IsAll.down hρ c r⟩⟩
theorem IsAll.down (hρ : ρ' = ρ ++ l) : ∀ {ds : List D} {vs : List V}, cloBs ρ.length ds = true → IsAll K ρ' H ds vs → IsAll K ρ H ds vs
  | [], _, _, h => h
  | d :: ds, _, c, h => by
    unfold IsAll at h ⊢
    obtain ⟨x, xs, e, a, b⟩ := h
    have c : (cloB ρ.length d && cloBs ρ.length ds) = true := c
    rw [Bool.and_eq_true] at c
    exact ⟨x, xs, e, Is.down hρ c.1 a, IsAll.down hρ c.2 b⟩
end
theorem IsSt.down (hρ : ρ' = ρ ++ l) {σ : Sig} {σV : L2.St} (c : σ.all (cloO ρ.length) = true) (h : IsSt K ρ' H σ σV) : IsSt K ρ H σ σV := ⟨h.1, fun i d e => by
  obtain ⟨v, e1, e2⟩ := h.2 i d e
  exact ⟨v, e1, e2.down hρ (List.all_eq_true.mp c (some d) (List.mem_of_getElem? e))⟩⟩
theorem new_place (r : R K ρ' H S) (hρ : ρ' = ρ ++ l) {m : Nat} {a : Addr} (hm : ρ'[m]? = some a) (hn : ρ.length ≤ m) {o : HO} (ho : H a = some o) (hw : Wr o) : a ∉ ρ := fun z => by
  obtain ⟨j, e⟩ := List.getElem?_of_mem z
  have hj : j < ρ.length := (List.getElem?_eq_some_iff.mp e).1
  rw [← get_pre hρ hj] at e
  rcases r.inj _ _ _ hm e with h | ⟨u, e2, nw, _⟩
  · omega
  · rw [ho] at e2; cases e2; exact nw hw
theorem frzAll {k : Nat} (ih : ∀ {d d' : D} {v : V}, frz S ρ.length k d = some d' → Is K ρ' H d v → Is K ρ H d' v) : ∀ {ds ds' : List D} {vs : List V}, mapO (frz S ρ.length k) ds = some ds' → IsAll K ρ' H ds vs → IsAll K ρ H ds' vs
  | [], _, _, e, h => by cases e; unfold IsAll at h ⊢; exact h
  | d :: ds, _, _, e, h => by
    obtain ⟨d', ds', rfl, e1, e2⟩ := mapO_cons e
    unfold IsAll at h ⊢
    obtain ⟨x, xs, e, a, b⟩ := h
    exact ⟨x, xs, e, ih e1 a, frzAll ih e2 b⟩
theorem frz_ok (r : R K ρ' H S) (hρ : ρ' = ρ ++ l) : ∀ (k : Nat) {d d' : D} {v : V}, frz S ρ.length k d = some d' → Is K ρ' H d v → Is K ρ H d' v
  | 0, d, d', v, e, h => by
    unfold frz at e
    split at e
    · rename_i c; cases e; exact h.down hρ c
    · cases e
  | k + 1, d, d', v, e, h => by
    have ih := fun {d d' : D} {v : V} => frz_ok r hρ k (d := d) (d' := d') (v := v)
    unfold frz at e
    split at e
    · rename_i c; cases e; exact h.down hρ c
    · rename_i c
      split at e
      · rename_i m
        have hm : ρ.length ≤ m := Nat.le_of_not_lt fun z => c (decide_eq_true z)
        split at e
        · rename_i ds z
          cases q : mapO (frz S ρ.length k) ds with
          | none => rw [q] at e; cases e
          | some ds' =>
            rw [q] at e; cases e
            obtain ⟨a, xs, e1, ha, hx, hi⟩ := r.lstAt z h
            unfold Is
            exact ⟨a, xs, e1, hx, new_place r hρ ha hm hx (.inl ⟨_, rfl⟩), frzAll ih q hi⟩
        · rename_i kvs z
          cases q : mapO (frz S ρ.length k) (kvs.map (·.2)) with
          | none => rw [q] at e; cases e
          | some ds' =>
            rw [q] at e; cases e
            obtain ⟨a, ks, e1, ha, hx, hk⟩ := r.dkAt z h
            unfold Is
            exact ⟨a, ks, e1, hx, new_place r hρ ha hm hx (.inr (.inl ⟨_, rfl⟩)), hk.1, frzAll ih q hk.2⟩
        · rename_i kvs z
          cases q : mapO (frz S ρ.length k) (kvs.map (·.2)) with
          | none => rw [q] at e; cases e
          | some ds' =>
            rw [q] at e; cases e
            unfold Is at h
            obtain ⟨a, ha, e1⟩ := h
            obtain ⟨b, hb, od, ks, hx, hk1, hk2⟩ := r.obj m _ z
            rw [ha] at hb; cases hb
            unfold Is
            exact ⟨a, od, ks, e1, hx, hk1, frzAll ih q hk2⟩
        · cases e
      · rename_i ds
        cases q : mapO (frz S ρ.length k) ds with
        | none => rw [q] at e; cases e
        | some ds' =>
          rw [q] at e; cases e
          unfold Is at h ⊢
          obtain ⟨a, xs, e1, h1, h2⟩ := h
          exact ⟨a, xs, e1, h1, frzAll ih q h2⟩
      · rename_i ds
        cases q : mapO (frz S ρ.length k) ds with
        | none => rw [q] at e; cases e
        | some ds' =>
          rw [q] at e; cases e
          unfold Is at h ⊢
          obtain ⟨a, xs, e1, h1, h3, h2⟩ := h
          exact ⟨a, xs, e1, h1, not_pre hρ h3, frzAll ih q h2⟩
      · rename_i ks ds
        cases q : mapO (frz S ρ.length k) ds with
        | none => rw [q] at e; cases e
        | some ds' =>
          rw [q] at e; cases e
          unfold Is at h ⊢
          obtain ⟨a, xs, e1, h1, h3, h4, h2⟩ := h
          exact ⟨a, xs, e1, h1, not_pre hρ h3, h4, frzAll ih q h2⟩
      · rename_i ks ds
        cases q : mapO (frz S ρ.length k) ds with
        | none => rw [q] at e; cases e
        | some ds' =>
          rw [q] at e; cases e
          unfold Is at h ⊢
          obtain ⟨a, od, xs, e1, h1, h4, h2⟩ := h
          exact ⟨a, od, xs, e1, h1, h4, frzAll ih q h2⟩
      · cases e
theorem Ext.cut (e : Ext K ρ H ρ' H') : Ext K ρ H ρ H' := ⟨⟨[], by simp⟩, fun _ h => .inl h, e.keep, e.stay⟩
theorem MR.clo {a : Addr} : ∀ {m : M}, MR K ρ H a m → cloM ρ.length m = true
  | .lst ds, ⟨_, _, h⟩ => h.clo
  | .fro ds, ⟨⟨_, _, h⟩, _⟩ => h.clo
  | .dk kvs, ⟨_, _, _, h⟩ => h.clo
  | .dt kvs, ⟨_, _, _, h⟩ => h.clo
  | .ft kvs, ⟨_, _, _, _, h⟩ => h.clo
  | .code c q s t, ⟨_, _, h⟩ => List.all_eq_true.mpr fun o ho => by
    obtain ⟨i, e⟩ := List.getElem?_of_mem ho
    cases o with
    | none => rfl
    | some d => obtain ⟨v, _, hv⟩ := h.2 i d e; exact hv.clo
  | .tab _ _, _ => rfl
  | .junk, _ => rfl
theorem MR.down {a : Addr} (hρ : ρ' = ρ ++ l) : ∀ {m : M}, cloM ρ.length m = true → MR K ρ' H a m → MR K ρ H a m
  | .lst ds, c, ⟨xs, e, h⟩ => ⟨xs, e, h.down hρ c⟩
  | .fro ds, c, ⟨⟨xs, e, h⟩, q⟩ => ⟨⟨xs, e, h.down hρ c⟩, q⟩
  | .dk kvs, c, ⟨xs, e, k, h⟩ => ⟨xs, e, k, h.down hρ c⟩
  | .dt kvs, c, ⟨xs, e, k, h⟩ => ⟨xs, e, k, h.down hρ c⟩
  | .ft kvs, c, ⟨od, xs, e, k, h⟩ => ⟨od, xs, e, k, h.down hρ c⟩
  | .code _ q s t, c, ⟨h1, h2, h⟩ => ⟨h1, h2, h.down hρ c⟩
  | .tab _ _, _, h => h
  | .junk, _, h => h
theorem R.cut {kp : Keep} (hk : KeepOk kp) (r0 : R K ρ H S) (r : R K ρ' H' S') (hρ : ρ' = ρ ++ l) (h : kp S (S'.take S.length) = true) : R K ρ H' (S'.take S.length) := by
  have hl : S.length ≤ S'.length := by rw [← r0.len, ← r.len, hρ, List.length_append]; omega
  have lt : (S'.take S.length).length = S.length := by rw [List.length_take]; omega
  refine ⟨by rw [lt]; exact r0.len, fun i j a h1 h2 => ?_, fun i m e => ?_⟩
  · have g1 := (List.getElem?_eq_some_iff.mp h1).1
    have g2 := (List.getElem?_eq_some_iff.mp h2).1
    exact r.inj i j a (by rw [get_pre hρ g1]; exact h1) (by rw [get_pre hρ g2]; exact h2)
  · have hi : i < S.length := by rw [← lt]; exact (List.getElem?_eq_some_iff.mp e).1
    have e' : S'[i]? = some m := by rw [List.getElem?_take_of_lt hi] at e; exact e
    obtain ⟨a, ha, hm⟩ := r.obj i m e'
    refine ⟨a, by rw [← get_pre hρ (by rw [r0.len]; exact hi)]; exact ha, hm.down hρ ?_⟩
    rcases hk S _ h i m e with z | z
    · obtain ⟨b, _, hb⟩ := r0.obj i m z
      exact hb.clo
    · rw [lt, ← r0.len] at z; exact z
theorem scope_post {kp : Keep} (hk : KeepOk kp) {r : Res D} {Q : VK} (r0 : R K ρ H S) (q : Post K W (Is K) ρ H σV (scope kp S r) Q) : Post K W (Is K) ρ H σV r Q := by
  cases r with
  | no => exact q
  | ok d S' =>
    intro ρ' H' v r' e' i'
    unfold scope at q
    dsimp only at q
    split at q
    · exact q ρ' H' v r' e' i'
    · obtain ⟨l, hl⟩ := e'.pre
      split at q
      · rename_i d' z
        split at q
        · rename_i hkp
          refine q ρ H' v (r0.cut hk r' hl hkp) e'.cut (frz_ok r' hl 6 (by rw [r0.len]; exact z) i')
        · exact q.elim
      · exact q.elim
  | exc c S' =>
    intro ρ' H' cls dd r' e' i'
    unfold scope at q
    dsimp only at q
    split at q
    · exact q ρ' H' cls dd r' e' i'
    · obtain ⟨l, hl⟩ := e'.pre
      split at q
      · rename_i c' z
        split at q
        · rename_i hkp
          refine q ρ H' cls dd (r0.cut hk r' hl hkp) e'.cut ?_
          obtain ⟨h1, h2⟩ := i'
          unfold frzX at z
          unfold ExcR
          unfold ExcA at h2 ⊢
          cases ha : c.attr with
          | none =>
            rw [ha] at z h2
            cases z
            rw [ha]
            exact ⟨h1, h2⟩
          | some p =>
            obtain ⟨x, d⟩ := p
            rw [ha] at z h2
            obtain ⟨b, w, g1, g2, g3⟩ := h2
            dsimp only at z
            cases zf : frz S' S.length 6 d with
            | none => rw [zf] at z; cases z
            | some d' =>
              rw [zf] at z; cases z
              exact ⟨h1, b, w, g1, g2, frz_ok r' hl 6 (by rw [r0.len]; exact zf) g3⟩
        · exact q.elim
      · exact q.elim
end
end Dp
end
section
set_option Elab.async false
set_option linter.all false
set_option maxRecDepth 100000
set_option maxHeartbeats 4000000
namespace Dp
open PySem PySem.Spec PyProof.Rows L2

/-- what stands around a body: slots, globals, own defs -/
structure Gam where
  N : List Str
  glob : Str → Option D
  call : Str → List D → Sto → Res D
  pars : Str → Option (List Str)
  attr : Str → Option (Option Str)
  isx : Str → Str → Option Bool
  wf : Nat
  sc0 : List (Str × NameKind)
  lamc : Str → Arguments → Expr → Scope → EvF
  actc : Str → EvF
  kwp : Str → List (Nat × List Str × List Nat)
  own : Pos → Bool
  kp : Keep
/-- a call of a def: what is new in the store is given up, but where own says otherwise -/
def Gam.callS (G : Gam) (own : Bool) (g : Str) (ds : List D) (S : Sto) : Res D := if own = true then G.call g ds S else scope G.kp S (G.call g ds S)
def Res.nx {α : Type} : Res α → Res α
  | .exc _ _ => .no
  | r => r
def plainN (x : Str) : Bool := !(x == ("__debug__" : Str)) && !(x == ("__classdict__" : Str))
def visB (sc : Scope) (x : Str) : Bool := match sc.names.lookup x with
  | some .local => true
  | some .cell => true
  | some .free => true
  | _ => false
def locB (sc : Scope) (x : Str) : Bool := match sc.names.lookup x with
  | some .local => true
  | some .cell => true
  | _ => false
def glB (sc : Scope) (x : Str) : Bool := match sc.names.lookup x with
  | some .globalImplicit => true
  | _ => false
def slot (N : List Str) (sc : Scope) (x : Str) : Option Nat := if plainN x = true ∧ visB sc x = true then N.findIdx? (fun y => decide (y = x)) else none
def evName (G : Gam) (sc : Scope) (x : Str) : EvF := fun σ S => match slot G.N sc x with
  | some i => match σ[i]? with
    | some (some d) => .ok d S
    | _ => .no
  | none => if glB sc x = true ∧ plainN x = true then (match G.glob x with
    | some d => .ok d S
    | none => .no) else .no
def evConst (c : Const) : EvF := fun _ S => match c with
  | .none => .ok .non S
  | .bool b => .ok (.bl b) S
  | .int i => .ok (.int i) S
  | .str x => .ok (.str x) S
  | _ => .no
def evL (f : Expr → EvF) : List Expr → EvL
  | [] => fun _ S => .ok [] S
  | e :: es => fun σ S => match e with
    | .Starred _ _ => .no
    | e => (f e σ S).bind fun d S1 => (evL f es σ S1).bind fun ds S2 => .ok (d :: ds) S2
def evKw (f : Expr → EvF) : List Keyword → EvL
  | [] => fun _ S => .ok [] S
  | k :: ks => fun σ S => (f k.value σ S).bind fun d S1 => (evKw f ks σ S1).bind fun ds S2 => .ok (d :: ds) S2
/-- what is at the places perm -/
def permL {α : Type} (perm : List Nat) (l : List α) : List α := perm.filterMap fun i => l[i]?
/-- how a call with these keywords lays its values -/
def kwFind (l : List (Nat × List Str × List Nat)) (n : Nat) (ks : List Str) : Option (List Nat) := (l.find? fun p => decide (p.1 = n) && decide (p.2.1 = ks)).map fun p => p.2.2
def evBool (f : Expr → EvF) (op : BoolOp) : List Expr → EvF
  | [] => fun _ _ => .no
  | [e] => f e
  | e :: es => fun σ S => (f e σ S).bind fun d S1 => match d, op with
    | .bl true, .And => evBool f op es σ S1
    | .bl false, .And => .ok (.bl false) S1
    | .bl true, .Or => .ok (.bl true) S1
    | .bl false, .Or => evBool f op es σ S1
    | _, _ => .no
abbrev TvF := Sig → Sto → Res Bool
def tvBool (t : Expr → TvF) (op : BoolOp) : List Expr → TvF
  | [] => fun _ _ => .no
  | [e] => t e
  | e :: es => fun σ S => (t e σ S).bind fun b S1 => match b, op with
    | true, .And => tvBool t op es σ S1
    | false, .And => .ok false S1
    | true, .Or => .ok true S1
    | false, .Or => tvBool t op es σ S1
def truD (S : Sto) : D → Option Bool
  | .non => some false
  | .bl b => some b
  | .int i => some (i != 0)
  | .str y => if y.length ≤ sizeLine then some ((y.length : Int) != 0) else none
  | .tup ds => some (!ds.isEmpty)
  | .kt ks => some (!ks.isEmpty)
  | d => (lsD S d).map fun ds => !ds.isEmpty
def oT (o : Option Bool) (S : Sto) : Res Bool := match o with
  | some b => .ok b S
  | none => .no
def evPairs (f : Expr → EvF) : List (Option Expr) → List Expr → Sig → Sto → Res (List (Key × D))
  | [], [], _, S => .ok [] S
  | some k :: ks, v :: vs, σ, S => (f k σ S).bind fun kd S1 => (f v σ S1).bind fun vd S2 => (evPairs f ks vs σ S2).bind fun r S3 => match keyOf kd with
    | some key => .ok ((key, vd) :: r) S3
    | none => .no
  | _, _, _, _ => .no
def evPart (f : Expr → EvF) : Option Expr → Sig → Sto → Res (Option Int)
  | none, _, S => .ok none S
  | some e, σ, S => (f e σ S).bind fun d S1 => match d with
    | .int i => .ok (some i) S1
    | _ => .no
/-- sorted of a list, of a dict's keys -/
def fSortA (own : Bool) (ds : List D) (S : Sto) : Out := match fSorted own ds S, ds with
  | some r, _ => some r
  | none, [d] => fSortK own d S
  | none, _ => none
/-- sorted(d.items()): d -/
def isCallE : Expr → Bool
  | .Call _ _ _ _ => true
  | _ => false
def itemsArg (x : Str) : List Expr → Option Expr
  | [.Call (.Attribute o m ap) [] [] cp] => if x = ("sorted" : Str) ∧ m = ("items" : Str) ∧ isCallE o = false ∧ ap.endLine = cp.line then some o else none
  | _ => none
def fItems (d : D) (S : Sto) : Out := match d with
  | .ref k => (match S[k]? with
    | some (.dt kvs) => if kvs.all itB = true then some (.lv ((sortG ltI kvs).map itD), S) else none
    | _ => none)
  | _ => none
def bltF2 (x : Str) : Option (List D → Sto → Out) :=
  if x = ("all" : Str) then some (fBls fun bs => bs.all id) else
  if x = ("any" : Str) then some (fBls fun bs => bs.any id) else none
/-- the built-in functions and types by name -/
def bltF (own : Bool) (x : Str) : Option (List D → Sto → Out) :=
  if x = ("len" : Str) then some fLen else
  if x = ("isinstance" : Str) then some fIsi else
  if x = ("int" : Str) then some fInt else
  if x = ("tuple" : Str) then some fTuple else
  if x = ("list" : Str) then some (fList own) else
  if x = ("repr" : Str) then some fRepr else
  if x = ("abs" : Str) then some fAbs else
  if x = ("min" : Str) then some fMinA else
  if x = ("max" : Str) then some fMaxA else
  if x = ("sorted" : Str) then some (fSortA own) else
  if x = ("dict" : Str) then some (fDict own) else bltF2 x
def kitTs : List String := ["NoneType", "bool", "int", "str", "tuple", "list", "dict"]
/-- is d of the class C? -/
def isiC (G : Gam) (d : D) (C : Str) (S : Sto) : Option Bool :=
  if (G.attr C).isSome = true then
    match d with
    | .exv e _ _ => if (G.attr e).isSome = true then G.isx e C else none
    | d => (match tyN S d with
        | some T => if T ∈ kitTs then some false else none
        | none => none)
  else none
def fIsiG (G : Gam) (ds : List D) (S : Sto) : Out := match ds with
  | [d, .con C] => oB (isiC G d C S) S
  | ds => fIsi ds S
def bltG (G : Gam) (own : Bool) (x : Str) : Option (List D → Sto → Out) := if x = ("isinstance" : Str) then some (fIsiG G) else bltF own x
def isDD (S : Sto) (d : D) : Bool := (dkOf S d).isSome || (dtOf S d).isSome
/-- x.get(y, z) -/
def get2 (x y z : D) (S : Sto) : Out := (dgetA S x y).map fun o => (o.getD z, S)
def metF (x : Str) : Option (Nat → List D → Sto → Out) :=
  if x = ("append" : Str) then some mAppend else
  if x = ("pop" : Str) then some mPop else none
/-- a list: of the store, or one that nobody writes -/
inductive LRef where
  | at (n : Nat) | lv (ds : List D)
def lrOf (S : Sto) : LRef → Option (List D)
  | .at n => lstOf S n
  | .lv ds => some ds
/-- what a for walks -/
inductive Src where
  | lst (n : Nat) | lv (ds : List D) | tup (ds : List D) | rng (lo : Int) (n : Nat) | zipT (ds es : List D) | zipL (ds es : List D) | enu (ds : List D) | rngC (lo st : Int) (n : Nat) | kys (ks : List (List Key)) | zipR (p q : LRef)
def srcLen (S : Sto) : Src → Nat
  | .lst n => ((lstOf S n).map List.length).getD 0
  | .lv ds => ds.length
  | .tup ds => ds.length
  | .rng _ n => n
  | .zipT ds es => min ds.length es.length
  | .zipL ds es => min ds.length es.length
  | .enu ds => ds.length
  | .rngC _ _ n => n
  | .kys ks => ks.length
  | .zipR p q => min ((lrOf S p).getD []).length ((lrOf S q).getD []).length
/-- the i-th: none: not known; some none: at the end -/
def srcAt (S : Sto) (i : Nat) : Src → Option (Option D)
  | .lst n => (lstOf S n).map fun ds => ds[i]?
  | .lv ds => some ds[i]?
  | .tup ds => some ds[i]?
  | .zipL ds es => some (match ds[i]?, es[i]? with
    | some d, some e => some (.tup [d, e])
    | _, _ => none)
  | .enu ds => some (ds[i]?.map fun d => .tup [.int i, d])
  | .rngC lo st n => some (if i < n then some (.int (lo + (i : Nat) * st)) else none)
  | .kys ks => some (ks[i]?.map .kt)
  | .zipR p q => match lrOf S p, lrOf S q with
    | some ds, some es => some (match ds[i]?, es[i]? with
      | some d, some e => some (.tup [d, e])
      | _, _ => none)
    | _, _ => none
  | .rng lo n => some (if i < n then some (.int (lo + i)) else none)
  | .zipT ds es => some (match ds[i]?, es[i]? with
    | some d, some e => some (.tup [d, e])
    | _, _ => none)
def small62 (i : Int) : Bool := decide (-(2 ^ 62) ≤ i ∧ i < 2 ^ 62)
def isTupE : Expr → Bool
  | .Tuple _ _ _ => true
  | _ => false
/-- a walk by a value -/
def srcD (S : Sto) : D → Option Src
  | .tup ds => some (.tup ds)
  | .kt ks => some (.tup (ks.map dKey))
  | .lv ds => some (.lv ds)
  | .ref n => (lstOf S n).map fun _ => .lst n
  | _ => none
/-- a walk by a value: a dict is locked for ever -/
def srcW (S : Sto) (d : D) : Res Src := match srcD S d with
  | some s => .ok s S
  | none => match d with
    | .dw ks _ => .ok (.kys ks) S
    | .ref n => (match S[n]? with
      | some (.dt kvs) => .ok (.kys (kvs.map (·.1))) (S.set n (.ft kvs))
      | some (.ft kvs) => .ok (.kys (kvs.map (·.1))) S
      | _ => .no)
    | _ => .no
def isStar : Expr → Bool
  | .Starred _ _ => true
  | _ => false
def toR {α : Type} (o : Option α) (S : Sto) : Res α := match o with
  | some s => .ok s S
  | none => .no
def srcR1 : D → Option Src
  | .int j => if small62 j = true then some (.rng 0 j.toNat) else none
  | _ => none
def srcR2 : D → D → Option Src
  | .int i, .int j => if small62 i = true ∧ small62 j = true then some (.rng i (j - i).toNat) else none
  | _, _ => none
def srcZ (S : Sto) : D → D → Option Src
  | .tup as, .tup bs => some (.zipT as bs)
  | .lv as, .lv bs => some (.zipL as bs)
  | .ref n, .lv bs => (lstOf S n).map fun _ => .zipR (.at n) (.lv bs)
  | .lv as, .ref m => (lstOf S m).map fun _ => .zipR (.lv as) (.at m)
  | .ref n, .ref m => match lstOf S n, lstOf S m with
    | some _, some _ => some (.zipR (.at n) (.at m))
    | _, _ => none
  | _, _ => none
/-- only a list that nobody writes any more: what is walked is told once -/
def srcE : D → Option Src
  | .lv ds => some (.enu ds)
  | _ => none
def srcR3 : D → D → D → Option Src
  | .int i, .int j, .int c => if c ≠ 0 ∧ c.natAbs < 1073741824 ∧ Builtin.Range.small i j c = true ∧ 0 ≤ Builtin.Range.rangeSize i j c then some (.rngC i c (Builtin.Range.rangeSize i j c).toNat) else none
  | _, _, _ => none
/-- reversed(range(a, b)) -/
def srcRv (a b : Int) : Option Src := if small62 a = true ∧ small62 b = true then some (.rngC (a + ((b - a).toNat : Nat) - 1) (-1) (b - a).toNat) else none
def isSrc (x : Str) : Bool := decide (x = ("range" : Str)) || decide (x = ("zip" : Str)) || decide (x = ("enumerate" : Str)) || decide (x = ("reversed" : Str))
def srcGate (G : Gam) (sc : Scope) (x y : Str) : Bool := decide (x = y) && glB sc x && (G.glob x).isNone
def evRg (f : Expr → EvF) (G : Gam) (sc : Scope) (e : Expr) : Option (Sig → Sto → Res (Int × Int)) := match e with
  | .Call (.Name x _) [a] [] _ => if srcGate G sc x "range" = true ∧ isStar a = false then some fun σ S => (f a σ S).bind fun d S1 => match d with
    | .int j => .ok (0, j) S1
    | _ => .no else none
  | .Call (.Name x _) [a, b] [] _ => if srcGate G sc x "range" = true ∧ isStar a = false ∧ isStar b = false then some fun σ S => (f a σ S).bind fun d S1 => (f b σ S1).bind fun e S2 => match d, e with
    | .int i, .int j => .ok (i, j) S2
    | _, _ => .no else none
  | _ => none
def evSrc (f : Expr → EvF) (G : Gam) (sc : Scope) (tg : Expr) (it : Expr) : Sig → Sto → Res Src := fun σ S =>
  let gen : Res Src := (f it σ S).bind fun d S1 => srcW S1 d
  match it with
  | .Call (.Name x _) [a] [] _ => if isStar a = false ∧ srcGate G sc x "range" = true then (f a σ S).bind fun d S1 => toR (srcR1 d) S1 else
      if isStar a = false ∧ srcGate G sc x "enumerate" = true ∧ isTupE tg = true then (f a σ S).bind fun d S1 => toR (srcE d) S1 else
      if isStar a = false ∧ srcGate G sc x "reversed" = true then (match evRg f G sc a with
        | some r => (r σ S).bind fun p S1 => toR (srcRv p.1 p.2) S1
        | none => .no) else gen
  | .Call (.Name x _) [a, b] [] _ => if isStar a = false ∧ isStar b = false ∧ srcGate G sc x "range" = true then (f a σ S).bind fun d S1 => (f b σ S1).bind fun e S2 => toR (srcR2 d e) S2 else
      if isStar a = false ∧ isStar b = false ∧ srcGate G sc x "zip" = true ∧ isTupE tg = true then (f a σ S).bind fun d S1 => (f b σ S1).bind fun e S2 => toR (srcZ S2 d e) S2 else gen
  | .Call (.Name x _) [a, b, c] [] _ => if isStar a = false ∧ isStar b = false ∧ isStar c = false ∧ srcGate G sc x "range" = true then (f a σ S).bind fun d S1 => (f b σ S1).bind fun e S2 => (f c σ S2).bind fun g S3 => toR (srcR3 d e g) S3 else gen
  | .Set _ _ _ => .no
  | _ => gen
mutual
/-- what a target stores: slots and values -/
def asgE (N : List Str) (sc : Scope) : Expr → D → Option (List (Nat × D))
  | .Name x _, d => if locB sc x = true then (slot N sc x).map fun i => [(i, d)] else none
  | .Tuple es _ _, d => (match tupOf d with
    | some ds => asgL N sc es ds
    | none => none)
  | _, _ => none
def asgL (N : List Str) (sc : Scope) : List Expr → List D → Option (List (Nat × D))
  | [], [] => some []
  | e :: es, d :: ds => match asgE N sc e d, asgL N sc es ds with
    | some a, some b => some (a ++ b)
    | _, _ => none
  | _, _ => none
end
def sets (σ : Sig) (l : List (Nat × D)) : Sig := l.foldl (fun σ p => σ.set p.1 (some p.2)) σ
def wipeD (σ : Sig) : List Nat → Sig
  | [] => σ
  | v :: vs => (wipeD σ vs).set v none
/-- the names of a comprehension's own, by slot -/
def ownOf (N : List Str) (scope : Scope) : List (Str × Nat) := scope.names.filterMap fun y => match y.2 with
  | .free => none
  | .local => (N.findIdx? (fun z => decide (z = y.1))).map fun i => (y.1, i)
  | .cell => (N.findIdx? (fun z => decide (z = y.1))).map fun i => (y.1, i)
  | _ => none
def loopC (src : Src) (body : D → Sto → Res (Option D)) (n0 : Nat) : Nat → Nat → Sto → Res D
  | 0, _, _ => .no
  | m + 1, i, S => match srcAt S i src with
    | none => .no
    | some none => .ok (.ref n0) S
    | some (some d) => match body d S with
      | .ok (some y) S1 => match S1[n0]? with
        | some (.lst acc) => if acc.length < sizeLine then loopC src body n0 m (i + 1) (S1.set n0 (.lst (acc ++ [y]))) else .no
        | _ => .no
      | .ok none S1 => loopC src body n0 m (i + 1) S1
      | _ => .no
def allIn (l : List (Nat × D)) (vs : List Nat) : Bool := l.all fun p => vs.contains p.1
/-- a turn of a comprehension -/
def turnC (f : Scope → Expr → EvF) (t : Scope → Expr → TvF) (N : List Str) (scope inner : Scope) (tg elt : Expr) (ifs : List Expr) (σ : Sig) (vs : List Nat) : D → Sto → Res (Option D) := fun d S => match asgE N scope tg d with
  | none => .no
  | some l => if allIn l vs = true then
      let σ2 := sets (wipeD σ vs) l
      (match ifs with
        | [] => .ok true S
        | [c] => t inner c σ2 S
        | _ => .no : Res Bool).bind fun b S1 => if b = true then (f inner elt σ2 S1).bind fun y S2 => .ok (some y) S2 else .ok none S1
    else .no
def isSetE : Expr → Bool
  | .Set _ _ _ => true
  | _ => false
def lcomp (f : Scope → Expr → EvF) (t : Scope → Expr → TvF) (G : Gam) (own : Bool) (sc scp : Scope) (tg it elt : Expr) (ifs : List Expr) : EvF := fun σ S =>
  if (blkC G.N sc scp (ownOf G.N scp) = true ∧ isSetE it = false) ∧ (L2.relS scp sc).names ≠ G.sc0 then
    (evSrc (f sc) G sc tg it σ S).bind fun src S1 =>
      let r := (loopC src (turnC f t G.N scp (L2.relS scp sc) tg elt ifs σ ((ownOf G.N scp).map (·.2))) S1.length (srcLen S1 src + 1) 0 (S1 ++ [.lst []])).nx
      if own = true then r else scope G.kp S1 r
  else .no
/-- ints and texts -/
def keysL : List D → Option (List Key)
  | [] => some []
  | d :: ds => match keyOf d, keysL ds with
    | some k, some ks => some (k :: ks)
    | _, _ => none
/-- a new tuple, as a key where it is told so -/
def tupR (key : Bool) (ds : List D) (S : Sto) : Res D := if key = true then (match keysL ds with
  | some ks => .ok (.kt ks) S
  | none => .no) else .ok (.tup ds) S
def newD (own : Bool) (S : Sto) : Out := if own = true then some (.ref S.length, S ++ [.dk []]) else some (.dv [] [], S)
/-- an error with one attribute, made -/
def mkX (g n : Str) : List D → Sto → Res D
  | [d], S => .ok (.exv g (some n) [d]) S
  | _, _ => .no
mutual
def ev (G : Gam) : Nat → Scope → Expr → EvF
  | 0, _, _ => fun _ _ => .no
  | n + 1, sc, e => match e with
    | .Name x _ => evName G sc x
    | .Constant c _ _ => evConst c
    | .BinOp a op b p => fun σ S => (ev G n sc a σ S).bind fun x S1 => (ev G n sc b σ S1).bind fun y S2 => ofO (binD (G.own p) op x y S2)
    | .UnaryOp .USub a _ => fun σ S => (ev G n sc a σ S).bind fun x S1 => match x with
      | .int i => .ok (.int (-i)) S1
      | _ => .no
    | .UnaryOp .Not a _ => fun σ S => (ev G n sc a σ S).bind fun x S1 => match x with
      | .bl b => .ok (.bl (!b)) S1
      | _ => .no
    | .Compare a [op] [b] _ => fun σ S => if behindInMarks op b = true then .no else (ev G n sc a σ S).bind fun x S1 => (ev G n sc b σ S1).bind fun y S2 => ofO (oB (cmpD op x y S2) S2)
    | .Compare a [op, op'] [b, c] _ => fun σ S => if lastMarks [op, op'] [b, c] = true then .no else (ev G n sc a σ S).bind fun x S1 => (ev G n sc b σ S1).bind fun y S2 => match cmpD op x y S2 with
      | some true => (ev G n sc c σ S2).bind fun z S3 => ofO (oB (cmpD op' y z S3) S3)
      | some false => .ok (.bl false) S2
      | none => .no
    | .BoolOp op es _ => evBool (ev G n sc) op es
    | .IfExp c a b _ => fun σ S => (tv G n sc c σ S).bind fun t S1 => if t = true then ev G n sc a σ S1 else ev G n sc b σ S1
    | .Tuple es _ p => fun σ S => (evL (ev G n sc) es σ S).bind fun ds S1 => if ds.length ≤ sizeLine then tupR (G.own p) ds S1 else .no
    | .List es p => fun σ S => (evL (ev G n sc) es σ S).bind fun ds S1 => if ds.length ≤ sizeLine then ofO (newL (G.own p) ds S1) else .no
    | .Dict ks vs p => fun σ S => match ks with
      | [] => (match vs with
        | [] => if G.own ⟨p.line, p.col, p.endLine, p.endCol + 1000000⟩ = true then .ok (.ref S.length) (S ++ [.dt []]) else ofO (newD (G.own p) S)
        | _ => .no)
      | _ => if ks.length = vs.length ∧ ks.length ≤ 15 ∧ ks.all (·.isSome) = true then (evPairs (ev G n sc) ks vs σ (S ++ [.dk []])).bind fun kvs S1 => match S1[S.length]? with
        | some (.dk []) => if kvs.length ≤ 15 then (if G.own p = true then .ok (.ref S.length) (S1.set S.length (.dk (mergeD [] kvs))) else scope G.kp S (.ok (.ref S.length) (S1.set S.length (.dk (mergeD [] kvs))))) else .no
        | _ => .no else .no
    | .Subscript a (.Slice lo hi none _) p => fun σ S => (ev G n sc a σ S).bind fun x S1 => (evPart (ev G n sc) lo σ S1).bind fun l S2 => (evPart (ev G n sc) hi σ S2).bind fun h S3 => ofO (slD (G.own p) x l h S3)
    | .Subscript a (.Slice none none (some st) _) p => fun σ S => (ev G n sc a σ S).bind fun x S1 => (evPart (ev G n sc) (some st) σ S1).bind fun c S2 => if c = some (-1) then ofO (revD (G.own p) x S2) else .no
    | .Subscript a b _ => fun σ S => match b with
      | .Slice _ _ _ _ => .no
      | b => (ev G n sc a σ S).bind fun x S1 => (ev G n sc b σ S1).bind fun y S2 => ofO (ixA x y S2)
    | .Call (.Name x _) [.Lambda ps body scp _] [] _ => fun σ S => if sc.names = G.sc0 then scope G.kp S (G.lamc x ps body scp σ S) else .no
    | .Call (.Name x _) args [] p => fun σ S => if glB sc x = true ∧ plainN x = true ∧ args.any isStar = false then (match args with
        | [] => .no
        | _ => match G.glob x with
          | some (.con g) => (match G.pars g with
            | some ps => (evL (ev G n sc) args σ S).bind fun ds S1 => if ds.length = ps.length then G.callS (G.own p) g ds S1 else .no
            | none => match args, G.attr g with
              | [_], some (some at_) => (evL (ev G n sc) args σ S).bind fun ds S1 => mkX g at_ ds S1
              | _, _ => .no)
          | _ => match itemsArg x args with
            | some o => (ev G n sc o σ S).bind fun d S1 => ofO (fItems d S1)
            | none => match bltG G (G.own p) x with
              | some f => (evL (ev G n sc) args σ S).bind fun ds S1 => ofO (f ds S1)
              | none => .no) else if visB sc x = true ∧ plainN x = true ∧ args.any isStar = false then (match args with
        | [] => .no
        | _ => match slot G.N sc x with
          | some i => (match σ[i]? with
            | some (some (.con g)) => (match G.pars g with
              | some ps => (evL (ev G n sc) args σ S).bind fun ds S1 => if ds.length = ps.length then G.callS (G.own p) g ds S1 else .no
              | none => .no)
            | _ => .no)
          | none => .no) else .no
    | .Call (.Name x _) args (kw :: kws) p => fun σ S => if glB sc x = true ∧ plainN x = true ∧ args.any isStar = false ∧ (kw :: kws).all (·.arg.isSome) = true then (match G.glob x with
        | some (.con g) => (match G.pars g, kwFind (G.kwp g) args.length ((kw :: kws).filterMap (·.arg)) with
          | some ps, some perm => (evL (ev G n sc) args σ S).bind fun ds S1 => (evKw (ev G n sc) (kw :: kws) σ S1).bind fun es S2 => if (permL perm (ds ++ es)).length = ps.length then G.callS (G.own p) g (permL perm (ds ++ es)) S2 else .no
          | _, _ => .no)
        | _ => .no) else .no
    | .Call (.Attribute o m ap) args [] cp => fun σ S => if args.any isStar = true ∨ isCallE o = true ∨ ap.endLine ≠ cp.line then .no else match metF m, args with
      | some f, [_] => (ev G n sc o σ S).bind fun x S1 => match x with
        | .ref k => (match lstOf S1 k with
          | some _ => (evL (ev G n sc) args σ S1).bind fun ds S2 => ofO (f k ds S2)
          | none => .no)
        | _ => .no
      | none, [a, b] => if m = ("get" : Str) then (ev G n sc o σ S).bind fun x S1 => if isDD S1 x = true then (ev G n sc a σ S1).bind fun y S2 => (ev G n sc b σ S2).bind fun z S3 => ofO (get2 x y z S3) else .no else .no
      | _, _ => .no
    | .Attribute o m _ => fun σ S => if isCallE o = true then .no else (ev G n sc o σ S).bind fun x S1 => match x with
      | .exv C (some m') [d] => if m' = m ∧ G.attr C = some (some m) then .ok d S1 else .no
      | _ => .no
    | .ListComp elt [⟨tg, it, ifs, 0⟩] scp p => lcomp (ev G n) (tv G n) G (G.own p) sc scp tg it elt ifs
    | _ => fun _ _ => .no
def tv (G : Gam) : Nat → Scope → Expr → TvF
  | 0, _, _ => fun _ _ => .no
  | n + 1, sc, e => match e with
    | .Compare a [op] [b] _ => fun σ S => if behindInMarks op b = true then .no else (ev G n sc a σ S).bind fun x S1 => (ev G n sc b σ S1).bind fun y S2 => oT (cmpD op x y S2) S2
    | .Compare a [op, op'] [b, c] _ => fun σ S => if lastMarks [op, op'] [b, c] = true then .no else (ev G n sc a σ S).bind fun x S1 => (ev G n sc b σ S1).bind fun y S2 => match cmpD op x y S2 with
      | some true => (ev G n sc c σ S2).bind fun z S3 => oT (cmpD op' y z S3) S3
      | some false => .ok false S2
      | none => .no
    | .Compare _ _ _ _ => fun _ _ => .no
    | .BoolOp op es _ => tvBool (tv G n sc) op es
    | .UnaryOp .Not a _ => fun σ S => (tv G n sc a σ S).bind fun b S1 => .ok (!b) S1
    | .IfExp _ _ _ _ => fun _ _ => .no
    | e => fun σ S => (ev G n sc e σ S).bind fun d S1 => oT (truD S1 d) S1
end
end Dp
end
section
set_option Elab.async false
set_option linter.all false
set_option maxRecDepth 100000
set_option maxHeartbeats 4000000
namespace Dp
open PySem PySem.Spec PyProof.Rows L2

/-! ### what a body's context must give -/
structure FnG (P : Program) (w : World) (K : PySem.W.Frag) (mg : Str → Option Value) (base : Heap) (k : Nat) (f : Addr) (fd : FuncData) (ps : List Str) (sp : Sp) : Prop where
  len : ∀ vs H Q E, sp vs H Q E → vs.length = ps.length
  run : ∀ (A : Around) (outer : List Env) (s : Shared) (H : Hp) (args : Args) (us : List Value) (vs : List V) (Q : VK) (E : XK), Room (k + 2) A → A.guards = some [] → Env0 P w K mg base A outer s H →
    BindsTo s fd args (ps.zip us) → Vals vs us → sp vs H Q E → codeAny (model P w) A (.call (.ref f) args) (CR (L2.CX P w) outer P w H s Q E) s
/-- a def's promise: what its function says -/
def spD (K : PySem.W.Frag) (g : List D → Sto → Res D) : Sp := fun vs H Q E => ∃ ρ S ds, R K ρ H S ∧ IsAll K ρ H ds vs ∧ Post K (fun cls dd _ H' => E cls dd H') (Is K) ρ H [] (g ds S) Q
structure Ctx (X : Cx) (G : Gam) (W : WX) (k : Nat) : Prop where
  calm : X.calm = true
  kind : X.env.scope.kind = .function
  nd : X.N.Nodup
  N : X.N = G.N
  room : Room (k + 2) X.A
  gd : X.A.guards = some []
  tk : Takes X W
  glob : ∀ x d, G.glob x = some d → ∃ u v, RelV v u ∧ (∀ ρ H, Is X.K ρ H d v) ∧ (X.mg x = some u ∨ (X.mg x = none ∧ bootBuiltins x = some u ∧ x ≠ "__name__"))
  kpo : KeepOk G.kp
  blt : ∀ x, ((bltF true x).isSome = true ∨ isSrc x = true) → (∀ a, G.glob x ≠ some (.con a)) → X.mg x = none
  lam : X.env.scope.names = G.sc0 → ∀ x params body scope lpos p pos, PE X (.Call (.Name x p) [.Lambda params body scope lpos] [] pos) (LE X.K W (G.lamc x params body scope))
  exq : ∀ C, (G.attr C).isSome = true → ExcC X.K (He.ga X.K C)
  kio : ∀ a C b, G.isx a C = some b → PySem.W.kitOne X.K (.ref (He.ga X.K a)) (.ref (He.ga X.K C)) = some b
  kit : ∀ T C, T ∈ kitTs → (G.attr C).isSome = true → PySem.W.kitOne X.K (.type T) (.ref (He.ga X.K C)) = some false
  isx : ∀ a C b, G.isx a C = some b → PySem.W.exmOne X.K (.ref (He.ga X.K a)) (.ref (He.ga X.K C)) = some b
  rz : ∀ x C, G.glob x = some (.con C) → G.attr C = some none → X.mg x = some (.ref (He.ga X.K C)) ∧ PySem.W.keepIn X.K (.ref (He.ga X.K C)) = true ∧ PySem.W.excIn X.K (He.ga X.K C) [.type "ValueError", .type "Exception", .type "BaseException", .type "object"] "ValueError.__new__" = true ∧ Raises X (.ref (He.ga X.K C))
  fnl : ∀ g ps, G.pars g = some ps → ∃ fd, FnG X.prog X.w X.K X.mg X.base k (He.ga X.K g) fd ps (spD X.K (G.call g)) ∧ PySem.W.keepIn X.K (.ref (He.ga X.K g)) = true ∧ Binds X.K fd ps []
  fns : ∀ x g ps, G.glob x = some (.con g) → G.pars g = some ps → ∃ fd, FnG X.prog X.w X.K X.mg X.base k (He.ga X.K g) fd ps (spD X.K (G.call g)) ∧ PySem.W.keepIn X.K (.ref (He.ga X.K g)) = true ∧ Binds X.K fd ps [] ∧ X.mg x = some (.ref (He.ga X.K g)) ∧ ∀ n ks perm, kwFind (G.kwp g) n ks = some perm → ∀ (s : Shared) (us ws : List Value), us.length = n → ws.length = ks.length → BindsTo s fd ⟨us, ks.zip ws⟩ (ps.zip (permL perm (us ++ ws)))
  ini : ∀ x C n, G.glob x = some (.con C) → G.attr C = some (some n) → IniOk X.K X.mg x (He.ga X.K C) n
  atr : ∀ C n, G.attr C = some (some n) → XfC X.K (He.ga X.K C) ∧ PySem.W.findIn X.K (.ref (He.ga X.K C)) n = some none

section
variable {K : PySem.W.Frag} {W : WX} {X : Cx} {G : Gam} {k : Nat}
theorem Ctx.hu (c : Ctx X G W k) : X.A.units + 64 < cLine := by have := c.room.un; omega
theorem Ctx.hu5 (c : Ctx X G W k) : X.A.units + 65 < cLine := by have := c.room.un; omega
theorem pe_no {e : Expr} {f : EvF} (h : ∀ σ S, f σ S = .no) : PE X e (LE K W f) := ⟨fun _ _ _ _ _ _ ⟨_, _, _, _, _, q⟩ => by rw [h] at q; exact q.elim⟩
theorem pa_no {e : List Expr} {f : EvL} (h : ∀ σ S, f σ S = .no) : PA X e (LA K W f) := ⟨fun _ _ _ _ _ _ _ ⟨_, _, _, _, _, q⟩ => by rw [h] at q; exact q.elim⟩
theorem pt_no {e : Expr} {f : TvF} (h : ∀ σ S, f σ S = .no) : PT X e (LT K W f) := ⟨fun _ _ _ _ _ _ ⟨_, _, _, _, _, q⟩ => by rw [h] at q; exact q.elim⟩
/-- a value that changes nothing -/
theorem Post.val {ρ : List Addr} {H : Hp} {S : Sto} {σV : L2.St} {d : D} {v : V} {Q : VK} (h : Post K W (Is K) ρ H σV (.ok d S) Q) (r : R K ρ H S) (i : Is K ρ H d v) : Q v H := h ρ H v r .refl i
theorem slot_some {N : List Str} {sc : Scope} {x : Str} {i : Nat} (h : slot N sc x = some i) : plainN x = true ∧ visB sc x = true ∧ N[i]? = some x := by
  unfold slot at h
  split at h
  · rename_i q
    refine ⟨q.1, q.2, ?_⟩
    have := List.findIdx?_eq_some_iff_getElem.mp h
    obtain ⟨h1, h2, _⟩ := this
    rw [List.getElem?_eq_getElem h1, of_decide_eq_true h2]
  · cases h
theorem vis_of {sc : Scope} {x : Str} (h : visB sc x = true) : Vis sc x := by
  unfold visB at h
  unfold Vis
  split at h
  · rename_i e; exact .inl e
  · rename_i e; exact .inr (.inl e)
  · rename_i e; exact .inr (.inr e)
  · cases h
theorem loc_of {sc : Scope} {x : Str} (h : locB sc x = true) : L2.Loc sc x := by
  unfold locB at h
  unfold L2.Loc
  split at h
  · rename_i e; exact .inl e
  · rename_i e; exact .inr e
  · cases h
theorem gl_of {x : Str} (h : glB X.env.scope x = true) : Gl X x := by
  unfold glB at h
  split at h
  · rename_i e; exact e
  · cases h
theorem plain_d {x : Str} (h : plainN x = true) : (x == ("__debug__" : Str)) = false ∧ (x == ("__classdict__" : Str)) = false := by
  unfold plainN at h
  simp only [Bool.and_eq_true, Bool.not_eq_true'] at h
  exact h
theorem name_ok (c : Ctx X G W k) {x : Str} {pos : Pos} : PE X (.Name x pos) (LE X.K W (evName G X.env.scope x)) := by
  unfold evName
  cases h : slot G.N X.env.scope x with
  | some i =>
    obtain ⟨h1, h2, h3⟩ := slot_some h
    obtain ⟨p1, p2⟩ := plain_d h1
    refine pe_mono (pe_var (i := i) (by rw [c.N]; exact h3) (vis_of h2) p1 p2) fun σV H Q ⟨ρ, S, σ, r, hs, q⟩ => ?_
    simp only at q
    split at q
    · rename_i d e
      obtain ⟨v, e1, i1⟩ := hs.2 i d e
      exact ⟨v, e1, q.val r i1⟩
    · exact q.elim
  | none =>
    simp only
    by_cases hg : glB X.env.scope x = true ∧ plainN x = true
    · obtain ⟨p1, p2⟩ := plain_d hg.2
      cases z : G.glob x with
      | none => exact pe_no fun σ S => by rw [if_pos hg]
      | some d =>
        obtain ⟨u, v, rv, iv, hm⟩ := c.glob x d z
        have go : ∀ σV H Q, LE X.K W (fun σ S => if glB X.env.scope x = true ∧ plainN x = true then (match some d with
            | some d => Res.ok d S
            | none => .no) else .no) σV H Q → tC v σV H Q := fun σV H Q ⟨ρ, S, σ, r, hs, q⟩ => by
          dsimp only at q
          rw [if_pos hg] at q
          exact q.val r (iv ρ H)
        rcases hm with hm | ⟨hm, hb, hn⟩
        · exact pe_mono (pe_glob (gl_of hg.1) hm rv p1) go
        · exact pe_mono (pe_bltn (gl_of hg.1) hm hb rv hn p1) go
    · exact pe_no fun σ S => by rw [if_neg hg]
theorem const_ok {c : Const} {j : Nat} {pos : Pos} : PE X (.Constant c j pos) (LE X.K W (evConst c)) := by
  cases c with
  | none => exact pe_mono pe_non fun σV H Q ⟨ρ, S, σ, r, hs, q⟩ => Post.val (show Post X.K W (Is X.K) ρ H σV (.ok .non S) Q from q) r Is.non'
  | bool b => exact pe_mono pe_bl fun σV H Q ⟨ρ, S, σ, r, hs, q⟩ => Post.val (show Post X.K W (Is X.K) ρ H σV (.ok (.bl b) S) Q from q) r Is.bl'
  | int b => exact pe_mono pe_int fun σV H Q ⟨ρ, S, σ, r, hs, q⟩ => Post.val (show Post X.K W (Is X.K) ρ H σV (.ok (.int b) S) Q from q) r Is.int'
  | str b => exact pe_mono pe_str fun σV H Q ⟨ρ, S, σ, r, hs, q⟩ => Post.val (show Post X.K W (Is X.K) ρ H σV (.ok (.str b) S) Q from q) r Is.str'
  | _ => exact pe_no fun _ _ => rfl
/-- two operands, a rule by values -/
theorem op2_ok {a b : Expr} {f g : EvF} {h : R2} {kk : D → D → Sto → Out} (ho : h = RD X.K kk) {T : TE → TE → TE} (hT : T = tOp h) {e : Expr} (rule : PE X a (LE X.K W f) → PE X b (LE X.K W g) → PE X e (T (LE X.K W f) (LE X.K W g)))
    (ha : PE X a (LE X.K W f)) (hb : PE X b (LE X.K W g)) : PE X e (LE X.K W fun σ S => (f σ S).bind fun x S1 => (g σ S1).bind fun y S2 => ofO (kk x y S2)) := by
  subst hT ho
  refine pe_mono (rule ha hb) fun σV H Q q => ?_
  refine (Lft.bind2 q).mono fun x H1 q1 => q1.mono fun y H2 ⟨ρ2, S2, a, b, r, ia, ib, q2⟩ => ⟨ρ2, S2, a, b, r, ia, ib, PO.of q2⟩
theorem evL_ok {f : Expr → EvF} (hf : ∀ e, PE X e (LE X.K W (f e))) : ∀ es, PA X es (LA X.K W (evL f es))
  | [] => pa_mono pa_nil fun σV H Q ⟨ρ, S, σ, r, hs, q⟩ => q ρ H [] r .refl .nil
  | e :: es => by
    have ih := evL_ok hf es
    have main : starEach (e :: es) X.env = (false, eval e X.env) :: starEach es X.env → PA X (e :: es) (LA X.K W fun σ S => (f e σ S).bind fun d S1 => (evL f es σ S1).bind fun ds S2 => .ok (d :: ds) S2) := fun hst => by
      refine pa_mono (pa_cons (hf e) ih hst) fun σV H Q q => ?_
      refine (Lft.bind (g := fun a σ S1 => (evL f es σ S1).bind fun ds S2 => .ok (a :: ds) S2) q).mono fun x H1 ⟨ρ1, S1, σ, a, r, hs, ia, q1⟩ => ?_
      refine ⟨ρ1, S1, σ, r, hs, (Post.bind q1).mono fun xs H2 ⟨ρ2, S2, ds, r2, e2, ib, q2⟩ => ?_⟩
      exact q2 ρ2 H2 _ r2 .refl (.cons (ia.ext e2) ib)
    cases e with
    | Starred a p => exact pa_no fun _ _ => rfl
    | _ => exact main rfl
theorem evBool_ok {f : Expr → EvF} (hf : ∀ e, PE X e (LE X.K W (f e))) (op : BoolOp) (pos : Pos) : ∀ es, PE X (.BoolOp op es pos) (LE X.K W (evBool f op es))
  | [] => pe_no fun _ _ => rfl
  | [e] => pe_one (hf e)
  | e :: e2 :: es => by
    have ih := evBool_ok hf op pos (e2 :: es)
    have key : ∀ {σV : L2.St} {H : Hp} {Q : VK}, LE X.K W (evBool f op (e :: e2 :: es)) σV H Q → LE X.K W (f e) σV H fun x H1 => ∃ c, x = .bl c ∧ (match c, op with
        | true, .And => LE X.K W (evBool f op (e2 :: es)) σV H1 Q
        | false, .And => Q (.bl false) H1
        | true, .Or => Q (.bl true) H1
        | false, .Or => LE X.K W (evBool f op (e2 :: es)) σV H1 Q) := fun {σV H Q} q => by
      refine (Lft.bind (g := fun d σ S1 => match d, op with
        | .bl true, .And => evBool f op (e2 :: es) σ S1
        | .bl false, .And => .ok (.bl false) S1
        | .bl true, .Or => .ok (.bl true) S1
        | .bl false, .Or => evBool f op (e2 :: es) σ S1
        | _, _ => .no) q).mono fun x H1 ⟨ρ1, S1, σ, a, r, hs, ia, q1⟩ => ?_
      cases a with
      | bl c =>
        refine ⟨c, ia.bl_eq, ?_⟩
        cases c <;> cases op
        · exact q1.val r Is.bl'
        · exact ⟨ρ1, S1, σ, r, hs, q1⟩
        · exact ⟨ρ1, S1, σ, r, hs, q1⟩
        · exact q1.val r Is.bl'
      | _ => exact q1.elim
    cases op with
    | And =>
      refine pe_mono (pe_and (hf e) ih) fun σV H Q q => (key q).mono fun x H1 ⟨c, e, q1⟩ => ⟨c, e, ?_⟩
      cases c with
      | true => exact iteT q1
      | false => exact iteF q1
    | Or =>
      refine pe_mono (pe_or (hf e) ih) fun σV H Q q => (key q).mono fun x H1 ⟨c, e, q1⟩ => ⟨c, e, ?_⟩
      cases c with
      | true => exact iteT q1
      | false => exact iteF q1
theorem tvBool_ok {t : Expr → TvF} (hf : ∀ e, PT X e (LT X.K W (t e))) (op : BoolOp) (pos : Pos) : ∀ es, PW X (.BoolOp op es pos) (LT X.K W (tvBool t op es))
  | [] => ⟨fun _ _ _ _ _ _ _ ⟨_, _, _, _, _, q⟩ => q.elim⟩
  | [e] => by
    cases op with
    | And => exact pw_and1 (hf e)
    | Or => exact pw_or1 (hf e)
  | e :: e2 :: es => by
    have ih := tvBool_ok hf op pos (e2 :: es)
    have key : ∀ {σV : L2.St} {H : Hp} {Q : Bool → Hp → Prop}, LT X.K W (tvBool t op (e :: e2 :: es)) σV H Q → LT X.K W (t e) σV H fun c H1 => (match c, op with
        | true, .And => LT X.K W (tvBool t op (e2 :: es)) σV H1 Q
        | false, .And => Q false H1
        | true, .Or => Q true H1
        | false, .Or => LT X.K W (tvBool t op (e2 :: es)) σV H1 Q) := fun {σV H Q} q => by
      refine (Lft.bind (g := fun b σ S1 => match b, op with
        | true, .And => tvBool t op (e2 :: es) σ S1
        | false, .And => .ok false S1
        | true, .Or => .ok true S1
        | false, .Or => tvBool t op (e2 :: es) σ S1) q).mono fun c H1 ⟨ρ1, S1, σ, a, r, hs, ia, q1⟩ => ?_
      obtain rfl : a = c := ia
      cases a <;> cases op
      · exact q1 ρ1 H1 _ r .refl rfl
      · exact ⟨ρ1, S1, σ, r, hs, q1⟩
      · exact ⟨ρ1, S1, σ, r, hs, q1⟩
      · exact q1 ρ1 H1 _ r .refl rfl
    cases op with
    | And =>
      refine ⟨fun wh pins s σ H Q I q => (pw_and (hf e) ih).run wh pins s σ H Q I ((key q).mono fun c H1 q1 => ?_)⟩
      cases c with
      | true => exact iteT q1
      | false => exact iteF q1
    | Or =>
      refine ⟨fun wh pins s σ H Q I q => (pw_or (hf e) ih).run wh pins s σ H Q I ((key q).mono fun c H1 q1 => ?_)⟩
      cases c with
      | true => exact iteT q1
      | false => exact iteF q1
theorem truD_ok {ρ : List Addr} {H : Hp} {S : Sto} (r : R K ρ H S) {d : D} {v : V} {b : Bool} (e : truD S d = some b) (i : Is K ρ H d v) : TruV K v H b := by
  cases d with
  | non => cases e; cases i.non_eq; rfl
  | bl c => cases e; cases i.bl_eq; rfl
  | int c => cases e; cases i.int_eq; rfl
  | str c =>
    cases i.str_eq
    have e : (if c.length ≤ sizeLine then some ((c.length : Int) != 0) else none) = some b := e
    split at e
    · rename_i h; cases e; exact ⟨h, rfl⟩
    · cases e
  | tup ds =>
    cases e
    obtain ⟨p, vs, rfl, hp, rp⟩ := i.tupAt
    refine .inr (.inl ⟨vs, hp, ?_⟩)
    have := rp.length
    cases ds <;> cases vs <;> first | rfl | (simp at this)
  | kt ks =>
    cases e
    obtain ⟨p, vs, rfl, hp, rp⟩ := Is.tupOf (ds := ks.map dKey) rfl i
    refine .inr (.inl ⟨vs, hp, ?_⟩)
    have := rp.length
    cases ks <;> cases vs <;> first | rfl | (simp at this)
  | ref n =>
    have e : (lstOf S n).map (fun ds => !ds.isEmpty) = some b := e
    cases z : lstOf S n with
    | none => rw [z] at e; cases e
    | some ds =>
      rw [z] at e; cases e
      obtain ⟨p, vs, rfl, _, hp, rp⟩ := r.lstRd z i
      refine .inl ⟨vs, hp, ?_⟩
      have := rp.length
      cases ds <;> cases vs <;> first | rfl | (simp at this)
  | lv ds =>
    cases e
    obtain ⟨p, vs, rfl, hp, _, rp⟩ := i.lvAt
    refine .inl ⟨vs, .inl (.inl hp), ?_⟩
    have := rp.length
    cases ds <;> cases vs <;> first | rfl | (simp at this)
  | _ => cases e
theorem evPart_ok {f : Expr → EvF} (hf : ∀ e, PE X e (LE X.K W (f e))) : ∀ o, L2.PO X o (Lft X.K W (fun _ _ (a b : Option Int) => a = b) (evPart f o))
  | none => by
    have h := (po_none (X := X))
    refine ⟨fun pins s σ H Q I q => h.run pins s σ H Q I ?_⟩
    obtain ⟨ρ, S, σ', r, hs, q⟩ := q
    exact q ρ H none r .refl rfl
  | some e => by
    have h := po_some (hf e)
    refine ⟨fun pins s σ H Q I q => h.run pins s σ H Q I ?_⟩
    refine (Lft.bind (g := fun d σ S1 => match d with
      | .int i => .ok (some i) S1
      | _ => .no) q).mono fun x H1 ⟨ρ1, S1, σ, a, r, hs, ia, q1⟩ => ?_
    cases a with
    | int i => exact ⟨i, ia.int_eq, q1 ρ1 H1 _ r .refl rfl⟩
    | _ => exact q1.elim
end
end Dp
end
section
set_option Elab.async false
set_option linter.all false
set_option maxRecDepth 100000
set_option maxHeartbeats 4000000
namespace Dp
open PySem PySem.Spec PyProof.Rows L2

/-! ### walks -/
/-- a list of the store, or one that nobody writes, at a -/
def LrAt (K : PySem.W.Frag) (ρ : List Addr) (H : Hp) : LRef → Addr → Prop
  | .at n, a => ρ[n]? = some a
  | .lv ds, a => ∃ xs, H a = some (.lst xs) ∧ a ∉ ρ ∧ IsAll K ρ H ds xs
theorem LrAt.rd {K : PySem.W.Frag} {ρ : List Addr} {H : Hp} {S : Sto} (r : R K ρ H S) {p : LRef} {a : Addr} {ds : List D} (h : LrAt K ρ H p a) (e : lrOf S p = some ds) : ∃ xs, SqL K H a xs ∧ IsAll K ρ H ds xs := by
  cases p with
  | «at» n =>
    obtain ⟨p, vs, ev, hp, hq, rp⟩ := r.lstRd (show lstOf S n = some ds from e) (v := .ref a) (by unfold Is; exact ⟨a, h, rfl⟩)
    cases ev
    exact ⟨vs, hq, rp⟩
  | lv es =>
    obtain ⟨xs, h1, _, h2⟩ := h
    cases e
    exact ⟨xs, .inl (.inl h1), h2⟩
theorem LrAt.ext {K : PySem.W.Frag} {ρ ρ' : List Addr} {H H' : Hp} (e : Ext K ρ H ρ' H') : ∀ {p : LRef} {a : Addr}, LrAt K ρ H p a → LrAt K ρ' H' p a
  | .at n, a, h => e.at h
  | .lv ds, a, ⟨xs, h, n, i⟩ => by
    obtain ⟨g1, g2⟩ := e.still h (.inl ⟨_, rfl⟩) n
    exact ⟨xs, g1, g2, i.ext e⟩
def SrcOk (K : PySem.W.Frag) (ρ : List Addr) (H : Hp) : Src → It → Prop
  | .lst n, J => ∃ a, ρ[n]? = some a ∧ J = Itl K a
  | .lv ds, J => ∃ a xs, J = Itl K a ∧ H a = some (.lst xs) ∧ a ∉ ρ ∧ IsAll K ρ H ds xs
  | .tup ds, J => ∃ a xs, J = Itt K a ∧ SqT K H a xs ∧ IsAll K ρ H ds xs
  | .zipL ds es, J => ∃ a b xs ys, J = Itz K a b ∧ (H a = some (.lst xs) ∧ a ∉ ρ) ∧ (H b = some (.lst ys) ∧ b ∉ ρ) ∧ IsAll K ρ H ds xs ∧ IsAll K ρ H es ys
  | .enu ds, J => ∃ a xs, J = Ite K a ∧ H a = some (.lst xs) ∧ a ∉ ρ ∧ IsAll K ρ H ds xs
  | .rngC lo st n, J => J = Itc lo st n
  | .zipR p q, J => ∃ a b, J = Itz K a b ∧ LrAt K ρ H p a ∧ LrAt K ρ H q b
  | .kys ks, J => ∃ a od kvs, J = Itkt a od kvs ∧ H a = some (.frz od (.dT kvs)) ∧ kvs.map (·.1) = ks
  | .rng lo n, J => J = Itr lo n
  | .zipT ds es, J => ∃ a b xs ys, J = RZ.ItzT K a b ∧ SqT K H a xs ∧ SqT K H b ys ∧ IsAll K ρ H ds xs ∧ IsAll K ρ H es ys
section
variable {K : PySem.W.Frag} {ρ ρ' : List Addr} {H H' : Hp} {S : Sto} {W : WX} {X : Cx} {G : Gam} {k : Nat} {J : It}
theorem SrcOk.ext (e : Ext K ρ H ρ' H') : ∀ {s : Src}, SrcOk K ρ H s J → SrcOk K ρ' H' s J
  | .lst n, ⟨a, h, j⟩ => ⟨a, e.at h, j⟩
  | .lv ds, ⟨a, xs, j, h, n, i⟩ => by
    obtain ⟨g1, g2⟩ := e.still h (.inl ⟨_, rfl⟩) n
    exact ⟨a, xs, j, g1, g2, i.ext e⟩
  | .tup ds, ⟨a, xs, j, h, i⟩ => ⟨a, xs, j, e.tup _ _ h, i.ext e⟩
  | .zipL ds es, ⟨a, b, xs, ys, j, ⟨h1, n1⟩, ⟨h2, n2⟩, i1, i2⟩ => ⟨a, b, xs, ys, j, e.still h1 (.inl ⟨_, rfl⟩) n1, e.still h2 (.inl ⟨_, rfl⟩) n2, i1.ext e, i2.ext e⟩
  | .enu ds, ⟨a, xs, j, h, n, i⟩ => by
    obtain ⟨g1, g2⟩ := e.still h (.inl ⟨_, rfl⟩) n
    exact ⟨a, xs, j, g1, g2, i.ext e⟩
  | .rngC lo st n, h => h
  | .zipR p q, ⟨a, b, j, h1, h2⟩ => ⟨a, b, j, h1.ext e, h2.ext e⟩
  | .kys ks, ⟨a, od, kvs, j, h, e2⟩ => ⟨a, od, kvs, j, e.stay _ _ h wr_frz tb_frz, e2⟩
  | .rng lo n, h => h
  | .zipT ds es, ⟨a, b, xs, ys, j, h1, h2, i1, i2⟩ => ⟨a, b, xs, ys, j, e.tup _ _ h1, e.tup _ _ h2, i1.ext e, i2.ext e⟩
theorem IsAll.none_at {ds : List D} {vs : List V} {i : Nat} (h : IsAll K ρ H ds vs) (e : ds[i]? = none) : vs.length ≤ i := by
  rw [← h.length]; exact List.getElem?_eq_none_iff.mp e
/-- at the end -/
theorem SrcOk.stop (r : R K ρ H S) {s : Src} (h : SrcOk K ρ H s J) {i : Nat} (e : srcAt S i s = some none) : J.stop i H := by
  cases s with
  | lst n =>
    obtain ⟨a, ha, rfl⟩ := h
    have e : (lstOf S n).map (fun ds => ds[i]?) = some none := e
    cases z : lstOf S n with
    | none => rw [z] at e; cases e
    | some ds =>
      rw [z] at e
      obtain ⟨p, vs, ev, hp, hq, rp⟩ := r.lstRd z (v := .ref a) (by unfold Is; exact ⟨a, ha, rfl⟩)
      cases ev
      exact ⟨vs, hq, rp.none_at (Option.some.inj e)⟩
  | lv ds =>
    obtain ⟨a, xs, rfl, hq, _, rp⟩ := h
    exact ⟨xs, .inl (.inl hq), rp.none_at (Option.some.inj e)⟩
  | enu ds =>
    obtain ⟨a, xs, rfl, hq, _, rp⟩ := h
    have e : (ds[i]?.map fun d => D.tup [.int i, d]) = none := Option.some.inj e
    exact ⟨xs, .inl (.inl hq), rp.none_at (by simpa using e)⟩
  | zipR p q =>
    obtain ⟨a, b, rfl, h1, h2⟩ := h
    have e : (match lrOf S p, lrOf S q with
      | some ds, some es => some (match ds[i]?, es[i]? with
        | some d, some e => some (D.tup [d, e])
        | _, _ => none)
      | _, _ => none) = some none := e
    split at e
    · rename_i ds es z1 z2
      obtain ⟨xs, q1, i1⟩ := h1.rd r z1
      obtain ⟨ys, q2, i2⟩ := h2.rd r z2
      have e := Option.some.inj e
      refine ⟨xs, ys, q1, q2, ?_⟩
      cases z1 : ds[i]? with
      | none => exact .inl (i1.none_at z1)
      | some d =>
        cases z2 : es[i]? with
        | none => exact .inr (i2.none_at z2)
        | some d' => rw [z1, z2] at e; cases e
    · cases e
  | kys ks =>
    obtain ⟨a, od, kvs, rfl, hq, hk⟩ := h
    have e : (ks[i]?.map D.kt) = none := Option.some.inj e
    refine ⟨hq, ?_⟩
    cases z : ks[i]? with
    | none => rw [← hk, List.getElem?_map, Option.map_eq_none_iff, List.getElem?_eq_none_iff] at z; exact z
    | some k => rw [z] at e; cases e
  | rngC lo st n =>
    obtain rfl : J = Itc lo st n := h
    have e : (if i < n then some (D.int (lo + (i : Nat) * st)) else none) = none := Option.some.inj e
    show n ≤ i
    split at e
    · cases e
    · omega
  | zipL ds es =>
    obtain ⟨a, b, xs, ys, rfl, ⟨h1, _⟩, ⟨h2, _⟩, i1, i2⟩ := h
    have e : (match ds[i]?, es[i]? with
      | some d, some e => some (D.tup [d, e])
      | _, _ => none) = none := Option.some.inj e
    refine ⟨xs, ys, .inl (.inl h1), .inl (.inl h2), ?_⟩
    cases z1 : ds[i]? with
    | none => exact .inl (i1.none_at z1)
    | some d =>
      cases z2 : es[i]? with
      | none => exact .inr (i2.none_at z2)
      | some d' => rw [z1, z2] at e; cases e
  | tup ds =>
    obtain ⟨a, xs, rfl, hq, rp⟩ := h
    exact ⟨xs, hq, rp.none_at (Option.some.inj e)⟩
  | rng lo n =>
    obtain rfl : J = Itr lo n := h
    have e : (if i < n then some (D.int (lo + i)) else none) = none := Option.some.inj e
    show n ≤ i
    split at e
    · cases e
    · omega
  | zipT ds es =>
    obtain ⟨a, b, xs, ys, rfl, h1, h2, i1, i2⟩ := h
    have e : (match ds[i]?, es[i]? with
      | some d, some e => some (D.tup [d, e])
      | _, _ => none) = none := Option.some.inj e
    refine ⟨xs, ys, h1, h2, ?_⟩
    cases z1 : ds[i]? with
    | none => exact .inl (i1.none_at z1)
    | some d =>
      cases z2 : es[i]? with
      | none => exact .inr (i2.none_at z2)
      | some d' => rw [z1, z2] at e; cases e
/-- one more -/
theorem SrcOk.go (r : R K ρ H S) {s : Src} (h : SrcOk K ρ H s J) {i : Nat} {d : D} (e : srcAt S i s = some (some d)) :
    J.go i H ∧ ∀ x H', J.yld i H x H' → ∃ ρ', R K ρ' H' S ∧ Ext K ρ H ρ' H' ∧ Is K ρ' H' d x := by
  cases s with
  | lst n =>
    obtain ⟨a, ha, rfl⟩ := h
    have e : (lstOf S n).map (fun ds => ds[i]?) = some (some d) := e
    cases z : lstOf S n with
    | none => rw [z] at e; cases e
    | some ds =>
      rw [z] at e
      obtain ⟨p, vs, ev, hp, hq, rp⟩ := r.lstRd z (v := .ref a) (by unfold Is; exact ⟨a, ha, rfl⟩)
      cases ev
      obtain ⟨v, hv, iv⟩ := rp.get i (Option.some.inj e)
      refine ⟨⟨vs, v, hq, hv⟩, fun x H' y => ?_⟩
      obtain ⟨rfl, y⟩ := y
      have := y vs hq
      rw [hv] at this; cases this
      exact ⟨ρ, r, .refl, iv⟩
  | lv ds =>
    obtain ⟨a, xs, rfl, hq, _, rp⟩ := h
    have hq : SqL K H a xs := .inl (.inl hq)
    obtain ⟨v, hv, iv⟩ := rp.get i (Option.some.inj e)
    refine ⟨⟨xs, v, hq, hv⟩, fun x H' y => ?_⟩
    obtain ⟨rfl, y⟩ := y
    have := y xs hq
    rw [hv] at this; cases this
    exact ⟨ρ, r, .refl, iv⟩
  | enu ds =>
    obtain ⟨a, xs, rfl, hq, _, rp⟩ := h
    have hq : SqL K H a xs := .inl (.inl hq)
    have e : (ds[i]?.map fun d => D.tup [.int i, d]) = some d := Option.some.inj e
    cases z : ds[i]? with
    | none => rw [z] at e; cases e
    | some d1 =>
      rw [z] at e
      cases e
      obtain ⟨v, hv, iv⟩ := rp.get i z
      refine ⟨⟨xs, v, hq, hv⟩, fun x H' y => ?_⟩
      obtain ⟨T, x1, rfl, hT, rfl, f1⟩ := y
      have g1 := f1 xs hq
      rw [hv] at g1
      cases g1
      refine ⟨ρ, r.laid hT, ext_new hT, ?_⟩
      unfold Is
      exact ⟨T, _, rfl, .inl (.inl upd_same), .cons Is.int' (.cons (iv.ext (ext_new hT)) .nil)⟩
  | zipR p q =>
    obtain ⟨a, b, rfl, h1, h2⟩ := h
    have e : (match lrOf S p, lrOf S q with
      | some ds, some es => some (match ds[i]?, es[i]? with
        | some d, some e => some (D.tup [d, e])
        | _, _ => none)
      | _, _ => none) = some (some d) := e
    split at e
    · rename_i ds es z1 z2
      obtain ⟨xs, q1, i1⟩ := h1.rd r z1
      obtain ⟨ys, q2, i2⟩ := h2.rd r z2
      have e := Option.some.inj e
      cases z1 : ds[i]? with
      | none => rw [z1] at e; cases e
      | some d1 =>
        cases z2 : es[i]? with
        | none => rw [z1, z2] at e; cases e
        | some d2 =>
          rw [z1, z2] at e
          cases e
          obtain ⟨v1, hv1, iv1⟩ := i1.get i z1
          obtain ⟨v2, hv2, iv2⟩ := i2.get i z2
          refine ⟨⟨xs, ys, v1, v2, q1, q2, hv1, hv2⟩, fun x H' y => ?_⟩
          obtain ⟨T, x1, x2, rfl, hT, rfl, f1, f2⟩ := y
          have g1 := f1 xs q1
          have g2 := f2 ys q2
          rw [hv1] at g1; rw [hv2] at g2
          cases g1; cases g2
          refine ⟨ρ, r.laid hT, ext_new hT, ?_⟩
          unfold Is
          exact ⟨T, _, rfl, .inl (.inl upd_same), .cons (iv1.ext (ext_new hT)) (.cons (iv2.ext (ext_new hT)) .nil)⟩
    · cases e
  | kys ks =>
    obtain ⟨a, od, kvs, rfl, hq, hk⟩ := h
    have e : (ks[i]?.map D.kt) = some d := Option.some.inj e
    cases z : ks[i]? with
    | none => rw [z] at e; cases e
    | some k =>
      rw [z] at e
      cases e
      have z2 : (kvs.map (·.1))[i]? = some k := by rw [hk]; exact z
      rw [List.getElem?_map] at z2
      cases z3 : kvs[i]? with
      | none => rw [z3] at z2; cases z2
      | some p =>
        rw [z3] at z2
        cases (Option.some.inj z2)
        refine ⟨⟨hq, (List.getElem?_eq_some_iff.mp z3).1⟩, fun x H' y => ?_⟩
        obtain ⟨rfl, k', v', q, hkv, rfl, hh⟩ := y
        rw [z3] at hkv
        cases hkv
        refine ⟨ρ, r, .refl, ?_⟩
        unfold Is
        exact ⟨q, rfl, hh⟩
  | rngC lo st n =>
    obtain rfl : J = Itc lo st n := h
    have e : (if i < n then some (D.int (lo + (i : Nat) * st)) else none) = some d := Option.some.inj e
    split at e
    · rename_i hi
      cases e
      refine ⟨hi, fun x H' y => ?_⟩
      obtain ⟨rfl, rfl⟩ := y
      exact ⟨ρ, r, .refl, Is.int'⟩
    · cases e
  | zipL ds es =>
    obtain ⟨a, b, xs, ys, rfl, ⟨h1, _⟩, ⟨h2, _⟩, i1, i2⟩ := h
    have h1 : SqL K H a xs := .inl (.inl h1)
    have h2 : SqL K H b ys := .inl (.inl h2)
    have e : (match ds[i]?, es[i]? with
      | some d, some e => some (D.tup [d, e])
      | _, _ => none) = some d := Option.some.inj e
    cases z1 : ds[i]? with
    | none => rw [z1] at e; cases e
    | some d1 =>
      cases z2 : es[i]? with
      | none => rw [z1, z2] at e; cases e
      | some d2 =>
        rw [z1, z2] at e
        cases e
        obtain ⟨v1, hv1, iv1⟩ := i1.get i z1
        obtain ⟨v2, hv2, iv2⟩ := i2.get i z2
        refine ⟨⟨xs, ys, v1, v2, h1, h2, hv1, hv2⟩, fun x H' y => ?_⟩
        obtain ⟨T, x1, x2, rfl, hT, rfl, f1, f2⟩ := y
        have g1 := f1 xs h1
        have g2 := f2 ys h2
        rw [hv1] at g1; rw [hv2] at g2
        cases g1; cases g2
        refine ⟨ρ, r.laid hT, ext_new hT, ?_⟩
        unfold Is
        exact ⟨T, _, rfl, .inl (.inl upd_same), .cons (iv1.ext (ext_new hT)) (.cons (iv2.ext (ext_new hT)) .nil)⟩
  | tup ds =>
    obtain ⟨a, xs, rfl, hq, rp⟩ := h
    obtain ⟨v, hv, iv⟩ := rp.get i (Option.some.inj e)
    refine ⟨⟨xs, v, hq, hv⟩, fun x H' y => ?_⟩
    obtain ⟨rfl, y⟩ := y
    have := y xs hq
    rw [hv] at this; cases this
    exact ⟨ρ, r, .refl, iv⟩
  | rng lo n =>
    obtain rfl : J = Itr lo n := h
    have e : (if i < n then some (D.int (lo + i)) else none) = some d := Option.some.inj e
    split at e
    · rename_i hi
      cases e
      refine ⟨hi, fun x H' y => ?_⟩
      obtain ⟨rfl, rfl⟩ := y
      exact ⟨ρ, r, .refl, Is.int'⟩
    · cases e
  | zipT ds es =>
    obtain ⟨a, b, xs, ys, rfl, h1, h2, i1, i2⟩ := h
    have e : (match ds[i]?, es[i]? with
      | some d, some e => some (D.tup [d, e])
      | _, _ => none) = some d := Option.some.inj e
    cases z1 : ds[i]? with
    | none => rw [z1] at e; cases e
    | some d1 =>
      cases z2 : es[i]? with
      | none => rw [z1, z2] at e; cases e
      | some d2 =>
        rw [z1, z2] at e
        cases e
        obtain ⟨v1, hv1, iv1⟩ := i1.get i z1
        obtain ⟨v2, hv2, iv2⟩ := i2.get i z2
        refine ⟨⟨xs, ys, v1, v2, h1, h2, hv1, hv2⟩, fun x H' y => ?_⟩
        obtain ⟨T, x1, x2, rfl, hT, rfl, f1, f2⟩ := y
        have g1 := f1 xs h1
        have g2 := f2 ys h2
        rw [hv1] at g1; rw [hv2] at g2
        cases g1; cases g2
        refine ⟨ρ, r.laid hT, ext_new hT, ?_⟩
        unfold Is
        exact ⟨T, _, rfl, .inl (.inl upd_same), .cons (iv1.ext (ext_new hT)) (.cons (iv2.ext (ext_new hT)) .nil)⟩
def relS (K : PySem.W.Frag) : List Addr → Hp → Src → It → Prop := fun ρ H s J => SrcOk K ρ H s J
abbrev LI (K : PySem.W.Frag) (W : WX) (f : Sig → Sto → Res Src) : TI := Lft K W (relS K) f
theorem pi_mono {tg it : Expr} {t t' : TI} (h : PI X tg it t) (i : ∀ σ H Q, t' σ H Q → t σ H Q) : PI X tg it t' := ⟨fun p s σ H Q I q => h.run p s σ H Q I (i σ H Q q)⟩
theorem pi_no {tg it : Expr} {f : Sig → Sto → Res Src} (h : ∀ σ S, f σ S = .no) : PI X tg it (LI K W f) := ⟨fun _ _ _ _ _ _ ⟨_, _, _, _, _, q⟩ => by rw [h] at q; exact q.elim⟩
/-- two walks by one value: whichever stands -/
theorem pi_or {tg it : Expr} {t t' : TI} (h : PI X tg it t) (h' : PI X tg it t') : PI X tg it (fun σ H Q => t σ H Q ∨ t' σ H Q) := ⟨fun p s σ H Q I q => q.elim (h.run p s σ H Q I) (h'.run p s σ H Q I)⟩
theorem it_tup {pins : List (Addr × Obj)} {s1 : Shared} {σ : L2.St} {H1 : Hp} {tg : Expr} {R : It → Hp → Prop} {p : Addr} {xs : List V} (I1 : Inv X pins σ H1 s1) (hp : SqT X.K H1 p xs) (q : R (Itt X.K p) H1) :
    wpAny (model X.prog X.w) X.A (pyIter (.ref p)) (PIE X pins σ tg R) X.xe s1 := by
  obtain ⟨its, rv, pp, hz⟩ := I1.tuple hp
  refine wpAny_pyIter_tuple (show s1.heap.IsTuple p its.toArray from pp) ?_
  refine ⟨s1.heap.objs.size, [s1.heap.objs.size], _, _, H1, rfl, I1.kept (t' := s1.toks) fun b o e => Heap.get?_push_of_some _ e, turn_tuple p _, ⟨_, Heap.get?_push_size _ rfl, rfl, rfl⟩, fun b hb => ?_, q⟩
  have e : b = s1.heap.objs.size := by simpa using hb
  subst e
  exact I1.fpOk (Nat.le_refl _) (I1.hok.fresh (Nat.le_refl _))
theorem it_lst {pins : List (Addr × Obj)} {s1 : Shared} {σ : L2.St} {H1 : Hp} {tg : Expr} {R : It → Hp → Prop} {p : Addr} {xs : List V} (I1 : Inv X pins σ H1 s1) (hp : SqL X.K H1 p xs) (q : R (Itl X.K p) H1) :
    wpAny (model X.prog X.w) X.A (pyIter (.ref p)) (PIE X pins σ tg R) X.xe s1 := by
  obtain ⟨its, rv, pp, hz⟩ := I1.list hp
  refine wpAny_pyIter_list pp.isList ?_
  refine ⟨s1.heap.objs.size, [s1.heap.objs.size], _, _, H1, rfl, I1.kept (t' := s1.toks) fun b o e => Heap.get?_push_of_some _ e, turn_list p _, ⟨_, Heap.get?_push_size _ rfl, rfl, rfl⟩, fun b hb => ?_, q⟩
  have e : b = s1.heap.objs.size := by simpa using hb
  subst e
  exact I1.fpOk (Nat.le_refl _) (I1.hok.fresh (Nat.le_refl _))
/-- the keys of a dict that is locked -/
theorem it_kys {pins : List (Addr × Obj)} {s1 : Shared} {σ : L2.St} {H1 : Hp} {tg : Expr} {R : It → Hp → Prop} {d : Addr} {o : Obj} {kvs : List (List Key × V)} (I1 : Inv X pins σ H1 s1) (hd : H1 d = some (.frz o (.dT kvs))) (q : R (Itkt d o kvs) H1) :
    wpAny (model X.prog X.w) X.A (pyIter (.ref d)) (PIE X pins σ tg R) X.xe s1 := by
  obtain ⟨hs, hgd, hx, es, ep, hdt, hsz, ent⟩ := I1.frzT hd
  refine iter_keys hs hgd hx hdt (pi_one (tk := s1.toks) I1 _ (turn_keysT _ hdt) ⟨_, Heap.get?_push_size _ rfl, rfl, ?_⟩ q)
  rw [hsz] <;> rfl
/-- a dict of the store is locked for ever -/
theorem R.froze {a : Addr} {n : Nat} {od : Obj} {ks : List (List Key × V)} {kvs : List (List Key × D)} (ha : ρ[n]? = some a) (hx : H a = some (.dT ks)) (hk : IsKv K ρ H kvs ks) (r : R K ρ H S) :
    R K ρ (upd H a (.frz od (.dT ks))) (S.set n (.ft kvs)) ∧ Ext K ρ H ρ (upd H a (.frz od (.dT ks))) := by
  have hm : a ∈ ρ := List.mem_of_getElem? ha
  have E : Ext K ρ H ρ (upd H a (.frz od (.dT ks))) := ⟨⟨[], by simp⟩, fun _ h => .inl h, fun b u e w nm => by rw [upd_ne (fun z => by subst z; exact nm hm)]; exact e, fun b u e w _ => by
    rw [upd_ne (fun z => by subst z; rw [hx] at e; cases e; exact w (.inr (.inr ⟨_, rfl⟩)))]; exact e⟩
  refine ⟨⟨by rw [List.length_set]; exact r.len, fun i j b h1 h2 => ?_, fun m u e => ?_⟩, E⟩
  · rcases r.inj i j b h1 h2 with h | ⟨o, e, q1, q2⟩
    · exact .inl h
    · by_cases hb : b = a
      · subst hb
        rw [hx] at e; cases e
        exact absurd (.inr (.inr ⟨_, rfl⟩)) q1
      · exact .inr ⟨o, by rw [upd_ne hb]; exact e, q1, q2⟩
  · by_cases hn : n = m
    · subst hn
      have hlt : n < S.length := by
        have := (List.getElem?_eq_some_iff.mp e).1
        simpa using this
      rw [List.getElem?_set_self hlt] at e
      cases e
      exact ⟨a, ha, od, ks, upd_same, hk.1, hk.2.ext E⟩
    · rw [List.getElem?_set_ne hn] at e
      obtain ⟨b, hb, mr⟩ := r.obj m u e
      refine ⟨b, hb, mr.ext E (upd_ne fun z => ?_)⟩
      subst z
      rcases r.inj _ _ _ ha hb with h | ⟨o, e2, q1, _⟩
      · exact hn h
      · rw [hx] at e2; cases e2
        exact q1 (.inr (.inr ⟨_, rfl⟩))
/-- a walk over a value -/
theorem pi_val {tg it : Expr} {f : EvF} (h : PE X it (LE X.K W f)) : PI X tg it (LI X.K W fun σ S => (f σ S).bind fun d S1 => srcW S1 d) := by
  refine ⟨fun pins s σ H Q I q => ?_⟩
  refine thn (h.run pins s σ H _ I (Lft.bind (g := fun d σ S1 => srcW S1 d) q)) fun v s1 ⟨x, H1, I1, r1, ρ1, S1, σ1, a, rr, hs, ia, q1⟩ => ?_
  unfold srcW at q1
  cases z : srcD S1 a with
  | none =>
    rw [z] at q1
    cases a with
    | dw ks ds =>
      have q1 : Post X.K W (relS X.K) ρ1 H1 σ (.ok (.kys ks) S1) Q := q1
      unfold Is at ia
      obtain ⟨p, od, kvs, rfl, hp, hk, _⟩ := ia
      cases r1
      exact it_kys I1 hp (q1 ρ1 H1 _ rr .refl ⟨p, od, kvs, rfl, hp, hk⟩)
    | ref n =>
      dsimp only at q1
      split at q1
      · rename_i kvs z1
        obtain ⟨p, ks, rfl, ha, hx, hk⟩ := rr.dtAt z1 ia
        cases r1
        obtain ⟨od, I2⟩ := I1.lock hx True.intro
        obtain ⟨r2, E⟩ := rr.froze (od := od) ha hx hk
        exact it_kys I2 upd_same (q1 ρ1 _ _ r2 E ⟨p, od, ks, rfl, upd_same, hk.1⟩)
      · rename_i kvs z1
        obtain ⟨p, od, ks, rfl, ha, hx, hk⟩ := rr.ftAt z1 ia
        cases r1
        exact it_kys I1 hx (q1 ρ1 _ _ rr .refl ⟨p, od, ks, rfl, hx, hk.1⟩)
      · exact q1.elim
    | _ => exact q1.elim
  | some src =>
    rw [z] at q1
    have q1 : Post X.K W (relS X.K) ρ1 H1 σ (.ok src S1) Q := q1
    cases a with
    | tup ds =>
      cases z
      obtain ⟨p, xs, rfl, hp, rp⟩ := ia.tupAt
      cases r1
      exact it_tup I1 hp (q1 ρ1 H1 _ rr .refl ⟨p, xs, rfl, hp, rp⟩)
    | kt ks =>
      cases z
      obtain ⟨p, xs, rfl, hp, rp⟩ := Is.tupOf (ds := ks.map dKey) rfl ia
      cases r1
      exact it_tup I1 hp (q1 ρ1 H1 _ rr .refl ⟨p, xs, rfl, hp, rp⟩)
    | lv ds =>
      cases z
      obtain ⟨p, xs, rfl, hp, hn, rp⟩ := ia.lvAt
      cases r1
      exact it_lst I1 (.inl (.inl hp)) (q1 ρ1 H1 _ rr .refl ⟨p, xs, rfl, hp, hn, rp⟩)
    | ref n =>
      have z : (lstOf S1 n).map (fun _ => Src.lst n) = some src := z
      cases z0 : lstOf S1 n with
      | none => rw [z0] at z; cases z
      | some ds =>
        rw [z0] at z; cases z
        obtain ⟨p, xs, rfl, ha, hp, rp⟩ := rr.lstRd z0 ia
        cases r1
        exact it_lst I1 hp (q1 ρ1 H1 _ rr .refl ⟨p, ha, rfl⟩)
    | _ => cases z
theorem small62_ok {i : Int} (h : small62 i = true) : -(2 ^ 62) ≤ i ∧ i < 2 ^ 62 := of_decide_eq_true h
theorem star_no {a : Expr} (h : isStar a = false) (es : List Expr) (env : Env) : starEach (a :: es) env = (false, eval a env) :: starEach es env := by
  cases a with
  | Starred b p => cases h
  | _ => rfl
theorem gate_ok (c : Ctx X G W k) {x y : Str} (hy : isSrc y = true) (h : srcGate G X.env.scope x y = true) : x = y ∧ Gl X y ∧ X.mg y = none := by
  unfold srcGate at h
  simp only [Bool.and_eq_true, decide_eq_true_eq] at h
  obtain ⟨⟨rfl, h2⟩, h3⟩ := h
  exact ⟨rfl, gl_of h2, c.blt x (.inr hy) fun a e => by rw [e] at h3; cases h3⟩
theorem rg_ok (c : Ctx X G W k) {f : Expr → EvF} (hf : ∀ e, PE X e (LE X.K W (f e))) {e : Expr} {r : Sig → Sto → Res (Int × Int)} (h : evRg f G X.env.scope e = some r) :
    PRg X e fun σ H R => Lft X.K W (fun _ _ (a b : Int × Int) => a = b) r σ H fun p H1 => R p.1 p.2 H1 := by
  unfold evRg at h
  split at h
  · rename_i x p a pos
    split at h
    · rename_i hx
      cases h
      obtain ⟨rfl, hg, hm⟩ := gate_ok c (by decide) hx.1
      refine fun pins s σ H R I q => ?_
      refine prg_1 hg hm (hf a) (star_no hx.2 _ _) pins s σ H R I ?_
      refine (Lft.bind (g := fun d σ S1 => match d with
        | .int j => Res.ok ((0, j) : Int × Int) S1
        | _ => .no) q).mono fun v H1 ⟨ρ1, S1, σ1, d, rr, hs, ia, q1⟩ => ?_
      cases d with
      | int j => cases ia.int_eq; exact ⟨j, rfl, q1 ρ1 H1 _ rr .refl rfl⟩
      | _ => exact q1.elim
    · cases h
  · rename_i x p a b pos
    split at h
    · rename_i hx
      cases h
      obtain ⟨rfl, hg, hm⟩ := gate_ok c (by decide) hx.1
      refine fun pins s σ H R I q => ?_
      refine prg_2 hg hm (hf a) (hf b) (star_no hx.2.1 _ _) (star_no hx.2.2 _ _) (by rw [star_no hx.2.2]; rfl) pins s σ H R I ?_
      refine (Lft.bind2 (k := fun d e S2 => match d, e with
        | .int i, .int j => Res.ok ((i, j) : Int × Int) S2
        | _, _ => .no) q).mono fun v H1 q1 => q1.mono fun w H2 ⟨ρ2, S2, d, e, rr, ia, ib, q2⟩ => ?_
      cases d with
      | int i =>
        cases e with
        | int j => cases ia.int_eq; cases ib.int_eq; exact ⟨i, j, rfl, rfl, q2 ρ2 H2 _ rr .refl rfl⟩
        | _ => exact q2.elim
      | _ => exact q2.elim
    · cases h
  · cases h
theorem src_ok (c : Ctx X G W k) {f : Expr → EvF} (hf : ∀ e, PE X e (LE X.K W (f e))) (tg it : Expr) : PI X tg it (LI X.K W (evSrc f G X.env.scope tg it)) := by
  have gen := pi_val (X := X) (W := W) (tg := tg) (hf it)
  unfold evSrc
  split
  · rename_i x p a pos
    by_cases hx : isStar a = false ∧ srcGate G X.env.scope x "range" = true
    · simp only [if_pos hx]
      obtain ⟨rfl, hg, hm⟩ := gate_ok c (by decide) hx.2
      refine pi_mono (pi_range1 hg hm (pa_cons (hf a) pa_nil (star_no hx.1 _ _)) (star_no hx.1 _ _)) fun σV H Q q => ?_
      refine (Lft.bind (g := fun d σ S1 => toR (srcR1 d) S1) q).mono fun v H1 ⟨ρ1, S1, σ1, d, rr, hs, ia, q1⟩ => ?_
      cases d with
      | int j =>
        have q1 : Post X.K W (relS X.K) ρ1 H1 σV (toR (if small62 j = true then some (.rng 0 j.toNat) else none) S1) Q := q1
        split at q1
        · rename_i hj
          cases ia.int_eq
          exact ⟨j, rfl, (small62_ok hj).1, (small62_ok hj).2, q1 ρ1 H1 _ rr .refl rfl⟩
        · exact q1.elim
      | _ => exact q1.elim
    · simp only [if_neg hx]
      by_cases he : isStar a = false ∧ srcGate G X.env.scope x "enumerate" = true ∧ isTupE tg = true
      · simp only [if_pos he]
        obtain ⟨rfl, hg, hm⟩ := gate_ok c (by decide) he.2.1
        cases tg with
        | Tuple es kk tp =>
          refine pi_mono (pi_enum hg hm (pa_cons (hf a) pa_nil (star_no he.1 _ _)) (star_no he.1 _ _)) fun σV H Q q => ?_
          refine (Lft.bind (g := fun d σ S1 => toR (srcE d) S1) q).mono fun v H1 ⟨ρ1, S1, σ1, d, rr, hs, ia, q1⟩ => ?_
          cases d with
          | lv ds =>
            obtain ⟨p, xs, rfl, hp, hn, rp⟩ := ia.lvAt
            exact ⟨p, xs, rfl, .inl (.inl hp), q1 ρ1 H1 _ rr .refl ⟨p, xs, rfl, hp, hn, rp⟩⟩
          | _ => exact q1.elim
        | _ => exact absurd he.2.2 (by simp [isTupE])
      · simp only [if_neg he]
        by_cases hr : isStar a = false ∧ srcGate G X.env.scope x "reversed" = true
        · simp only [if_pos hr]
          obtain ⟨rfl, hg, hm⟩ := gate_ok c (by decide) hr.2
          cases z : evRg f G X.env.scope a with
          | none => exact pi_no fun _ _ => rfl
          | some r =>
            refine pi_mono (pi_revR hg hm (rg_ok c hf z) (star_no hr.1 _ _)) fun σV H Q q => ?_
            refine (Lft.bind (rel := fun _ _ (a b : Int × Int) => a = b) (g := fun p σ S1 => toR (srcRv p.1 p.2) S1) q).mono fun p H1 ⟨ρ1, S1, σ1, p', rr, hs, ia, q1⟩ => ?_
            subst ia
            unfold srcRv at q1
            split at q1
            · rename_i hj
              exact ⟨(small62_ok hj.1).1, (small62_ok hj.1).2, (small62_ok hj.2).1, (small62_ok hj.2).2, q1 ρ1 H1 _ rr .refl rfl⟩
            · exact q1.elim
        · simp only [if_neg hr]
          exact gen
  · rename_i x p a b pos
    by_cases hx : isStar a = false ∧ isStar b = false ∧ srcGate G X.env.scope x "range" = true
    · simp only [if_pos hx]
      obtain ⟨rfl, hg, hm⟩ := gate_ok c (by decide) hx.2.2
      refine pi_mono (pi_range2 hg hm (pa_cons (hf a) (pa_cons (hf b) pa_nil (star_no hx.2.1 _ _)) (star_no hx.1 _ _)) (by rw [star_no hx.1, star_no hx.2.1]; rfl) (by rw [star_no hx.2.1]; rfl)) fun σV H Q q => ?_
      refine (Lft.bind2 (k := fun d e S2 => toR (srcR2 d e) S2) q).mono fun v H1 q1 => q1.mono fun w H2 ⟨ρ2, S2, d, e, rr, ia, ib, q2⟩ => ?_
      unfold srcR2 at q2
      split at q2
      · rename_i i j
        split at q2
        · rename_i hj
          cases ia.int_eq; cases ib.int_eq
          exact ⟨i, j, rfl, ⟨(small62_ok hj.1).1, (small62_ok hj.1).2, (small62_ok hj.2).1, (small62_ok hj.2).2⟩, q2 ρ2 H2 _ rr .refl rfl⟩
        · exact q2.elim
      · exact q2.elim
    · simp only [if_neg hx]
      by_cases hz : isStar a = false ∧ isStar b = false ∧ srcGate G X.env.scope x "zip" = true ∧ isTupE tg = true
      · simp only [if_pos hz]
        obtain ⟨rfl, hg, hm⟩ := gate_ok c (by decide) hz.2.2.1
        cases tg with
        | Tuple es kk tp =>
          refine pi_mono (RZ.pi_zipA hg hm (pa_cons (hf a) (pa_cons (hf b) pa_nil (star_no hz.2.1 _ _)) (star_no hz.1 _ _)) (by rw [star_no hz.1]) (by rw [star_no hz.2.1]; rfl)) fun σV H Q q => ?_
          refine (Lft.bind2 (k := fun d e S2 => toR (srcZ S2 d e) S2) q).mono fun v H1 q1 => q1.mono fun w H2 ⟨ρ2, S2, d, e, rr, ia, ib, q2⟩ => ?_
          unfold srcZ at q2
          split at q2
          · obtain ⟨a, xs, rfl, ha, ra⟩ := ia.tupAt
            obtain ⟨b, ys, rfl, hb, rb⟩ := ib.tupAt
            exact ⟨a, b, xs, ys, rfl, .inr ⟨ha, hb, q2 ρ2 H2 _ rr .refl ⟨a, b, xs, ys, rfl, ha, hb, ra, rb⟩⟩⟩
          · obtain ⟨a, xs, rfl, ha, na, ra⟩ := ia.lvAt
            obtain ⟨b, ys, rfl, hb, nb, rb⟩ := ib.lvAt
            exact ⟨a, b, xs, ys, rfl, .inl ⟨.inl (.inl ha), .inl (.inl hb), q2 ρ2 H2 _ rr .refl ⟨a, b, xs, ys, rfl, ⟨ha, na⟩, ⟨hb, nb⟩, ra, rb⟩⟩⟩
          · rename_i n bs
            cases z : lstOf S2 n with
            | none => rw [z] at q2; exact q2.elim
            | some as =>
              rw [z] at q2
              obtain ⟨a, xs, rfl, ha, sa, ra⟩ := rr.lstRd z ia
              obtain ⟨b, ys, rfl, hb, nb, rb⟩ := ib.lvAt
              exact ⟨a, b, xs, ys, rfl, .inl ⟨sa, .inl (.inl hb), q2 ρ2 H2 _ rr .refl ⟨a, b, rfl, ha, ys, hb, nb, rb⟩⟩⟩
          · rename_i as m
            cases z : lstOf S2 m with
            | none => rw [z] at q2; exact q2.elim
            | some bs =>
              rw [z] at q2
              obtain ⟨a, xs, rfl, ha, na, ra⟩ := ia.lvAt
              obtain ⟨b, ys, rfl, hb, sb, rb⟩ := rr.lstRd z ib
              exact ⟨a, b, xs, ys, rfl, .inl ⟨.inl (.inl ha), sb, q2 ρ2 H2 _ rr .refl ⟨a, b, rfl, ⟨xs, ha, na, ra⟩, hb⟩⟩⟩
          · rename_i n m
            cases z1 : lstOf S2 n with
            | none => rw [z1] at q2; exact q2.elim
            | some as =>
              cases z2 : lstOf S2 m with
              | none => rw [z1, z2] at q2; exact q2.elim
              | some bs =>
                rw [z1, z2] at q2
                obtain ⟨a, xs, rfl, ha, sa, ra⟩ := rr.lstRd z1 ia
                obtain ⟨b, ys, rfl, hb, sb, rb⟩ := rr.lstRd z2 ib
                exact ⟨a, b, xs, ys, rfl, .inl ⟨sa, sb, q2 ρ2 H2 _ rr .refl ⟨a, b, rfl, ha, hb⟩⟩⟩
          · exact q2.elim
        | _ => exact absurd hz.2.2.2 (by simp [isTupE])
      · simp only [if_neg hz]
        exact gen
  · rename_i x p a b d pos
    by_cases hx : isStar a = false ∧ isStar b = false ∧ isStar d = false ∧ srcGate G X.env.scope x "range" = true
    · simp only [if_pos hx]
      obtain ⟨rfl, hg, hm⟩ := gate_ok c (by decide) hx.2.2.2
      refine pi_mono (pi_range3 hg hm (pa_cons (hf a) (pa_cons (hf b) (pa_cons (hf d) pa_nil (star_no hx.2.2.1 _ _)) (star_no hx.2.1 _ _)) (star_no hx.1 _ _)) (star_no hx.1 _ _) (by rw [star_no hx.2.1, star_no hx.2.2.1]; rfl)) fun σV H Q q => ?_
      refine (Lft.bind (g := fun d1 σ S1 => (f b σ S1).bind fun e S2 => (f d σ S2).bind fun g S3 => toR (srcR3 d1 e g) S3) q).mono fun v H1 ⟨ρ1, S1, σ1, d1, rr, hs, ia, q1⟩ => ?_
      refine ⟨ρ1, S1, σ1, rr, hs, (Post.bind q1).mono fun v2 H2 ⟨ρ2, S2, d2, r2, e2, ib, q2⟩ => ?_⟩
      refine ⟨ρ2, S2, σ1, r2, hs.ext e2, (Post.bind q2).mono fun v3 H3 ⟨ρ3, S3, d3, r3, e3, ic, q3⟩ => ?_⟩
      cases d1 with
      | int a1 =>
        cases d2 with
        | int a2 =>
          cases d3 with
          | int a3 =>
            unfold srcR3 at q3
            dsimp only at q3
            split at q3
            · rename_i hj
              cases ia.int_eq; cases ib.int_eq; cases ic.int_eq
              refine ⟨a1, a2, a3, _, rfl, ⟨hj.1, hj.2.1, hj.2.2.1, ?_⟩, q3 ρ3 H3 _ r3 .refl rfl⟩
              exact (Int.toNat_of_nonneg hj.2.2.2).symm
            · exact q3.elim
          | _ => exact q3.elim
        | _ => exact q3.elim
      | _ => exact q3.elim
    · simp only [if_neg hx]
      exact gen
  · exact pi_no fun _ _ => rfl
  · exact gen
end

/-! ### targets -/
section
variable {K : PySem.W.Frag} {ρ ρ' : List Addr} {H H' : Hp} {S : Sto} {X : Cx}
theorem IsSt.set {σ : Sig} {σV : L2.St} (h : IsSt K ρ H σ σV) {d : D} {v : V} (i : Nat) (hd : Is K ρ H d v) : IsSt K ρ H (σ.set i (some d)) (σV.set i (some v)) := by
  refine ⟨by simp [h.1], fun j e q => ?_⟩
  by_cases hj : i = j
  · subst hj
    by_cases hlt : i < σ.length
    · rw [List.getElem?_set_self hlt] at q
      cases q
      exact ⟨v, List.getElem?_set_self (by rw [← h.1]; exact hlt), hd⟩
    · rw [List.getElem?_eq_none (by simpa using hlt)] at q; cases q
  · rw [List.getElem?_set_ne hj] at q
    obtain ⟨w, e1, e2⟩ := h.2 j e q
    exact ⟨w, by rw [List.getElem?_set_ne hj]; exact e1, e2⟩
theorem IsSt.unset {σ : Sig} {σV : L2.St} (h : IsSt K ρ H σ σV) (i : Nat) : IsSt K ρ H (σ.set i none) (σV.set i none) := by
  refine ⟨by simp [h.1], fun j e q => ?_⟩
  by_cases hj : i = j
  · subst hj
    by_cases hlt : i < σ.length
    · rw [List.getElem?_set_self hlt] at q; cases q
    · rw [List.getElem?_eq_none (by simpa using hlt)] at q; cases q
  · rw [List.getElem?_set_ne hj] at q
    obtain ⟨w, e1, e2⟩ := h.2 j e q
    exact ⟨w, by rw [List.getElem?_set_ne hj]; exact e1, e2⟩
theorem IsSt.wipe {σ : Sig} {σV : L2.St} (h : IsSt K ρ H σ σV) : ∀ vs, IsSt K ρ H (wipeD σ vs) (L2.wipe σV vs)
  | [] => h
  | v :: vs => by
    unfold wipeD L2.wipe
    exact (h.wipe vs).unset v
/-- slots that a list of stores touches -/
def Only (l : List (Nat × D)) (σ σ' : L2.St) : Prop := σ'.length = σ.length ∧ ∀ i, (∀ p ∈ l, p.1 ≠ i) → σ'[i]? = σ[i]?
def LG (K : PySem.W.Frag) (f : D → Option (List (Nat × D))) : TG := fun v σV H Q => ∃ ρ S σ d, R K ρ H S ∧ IsSt K ρ H σ σV ∧ Is K ρ H d v ∧ ∃ l, f d = some l ∧ ∀ σV', IsSt K ρ H (sets σ l) σV' → Only l σV σV' → Q σV' H
def LGs (K : PySem.W.Frag) (f : List D → Option (List (Nat × D))) : TGs := fun vs σV H Q => ∃ ρ S σ ds, R K ρ H S ∧ IsSt K ρ H σ σV ∧ IsAll K ρ H ds vs ∧ ∃ l, f ds = some l ∧ ∀ σV', IsSt K ρ H (sets σ l) σV' → Only l σV σV' → Q σV' H
theorem pg_mono {tg : Expr} {t t' : TG} (h : PG X tg t) (i : ∀ v σ H Q, t' v σ H Q → t v σ H Q) : PG X tg t' := ⟨fun p s σ H v u Q I r q => h.run p s σ H v u Q I r (i v σ H Q q)⟩
theorem pgs_mono {tg : List Expr} {t t' : TGs} (h : PGs X tg t) (i : ∀ v σ H Q, t' v σ H Q → t v σ H Q) : PGs X tg t' := ⟨fun p s σ H v u Q I r q => h.run p s σ H v u Q I r (i v σ H Q q)⟩
theorem pg_no {tg : Expr} {f : D → Option (List (Nat × D))} (h : ∀ d, f d = none) : PG X tg (LG K f) := ⟨fun _ _ _ _ _ _ _ _ _ ⟨_, _, _, _, _, _, _, l, e, _⟩ => by rw [h] at e; cases e⟩
theorem pgs_no {tg : List Expr} {f : List D → Option (List (Nat × D))} (h : ∀ d, f d = none) : PGs X tg (LGs K f) := ⟨fun _ _ _ _ _ _ _ _ _ ⟨_, _, _, _, _, _, _, l, e, _⟩ => by rw [h] at e; cases e⟩
theorem sets_append (σ : Sig) (a b : List (Nat × D)) : sets σ (a ++ b) = sets (sets σ a) b := by unfold sets; rw [List.foldl_append]
/-- the names that are stored: as a frame or a block wants it -/
def Stores (X : Cx) (sc : Scope) : Prop := ∀ x, locB sc x = true → L2.Loc X.env.scope x ∧ (X.fn x = true ∨ X.env.scope.names.lookup x = some .local)
theorem assign_star {e : Expr} (h : isStar e = false) (es : List Expr) (env : Env) : assignEach (e :: es) env = (false, assign e env) :: assignEach es env := by
  cases e with
  | Starred b p => cases h
  | _ => rfl
theorem assign_map {e : Expr} (h : isStar e = false) {es : List Expr} {env : Env} : (assignEach (e :: es) env).map (·.2) = assign e env :: (assignEach es env).map (·.2) := by rw [assign_star h]; rfl
theorem asgL_no {N : List Str} {sc : Scope} {e : Expr} {es : List Expr} {d : D} {ds : List D} (h : isStar e = true) : asgL N sc (e :: es) (d :: ds) = none := by
  cases e with
  | Starred b p =>
    unfold asgL
    have : asgE N sc (.Starred b p) d = none := by unfold asgE; cases d <;> rfl
    rw [this]
  | _ => cases h
theorem asgL_len {N : List Str} {sc : Scope} {env : Env} : ∀ {es : List Expr} {ds : List D} {l : List (Nat × D)}, asgL N sc es ds = some l → ds.length = (assignEach es env).length ∧ (assignEach es env).findIdx? (·.1) = none
  | [], [], l, _ => ⟨rfl, rfl⟩
  | [], _ :: _, l, e => by unfold asgL at e; cases e
  | _ :: _, [], l, e => by unfold asgL at e; cases e
  | e :: es, d :: ds, l, h => by
    cases hst : isStar e with
    | true => rw [asgL_no hst] at h; cases h
    | false =>
      rw [assign_star hst]
      unfold asgL at h
      split at h
      · rename_i a b e1 e2
        obtain ⟨h1, h2⟩ := asgL_len (env := env) e2
        refine ⟨by rw [List.length_cons, List.length_cons, h1], ?_⟩
        rw [List.findIdx?_cons]
        simp [h2]
      · cases h
mutual
theorem asgE_ok {sc : Scope} (hN : X.N.Nodup) (hc : X.calm = true) (st : Stores X sc) : ∀ tg : Expr, PG X tg (LG X.K (asgE X.N sc tg))
  | .Name x pos => by
    by_cases hl : locB sc x = true
    · cases z : slot X.N sc x with
      | none => exact pg_no fun d => by unfold asgE; rw [if_pos hl, z]; rfl
      | some i =>
        obtain ⟨_, _, h3⟩ := slot_some z
        refine pg_mono (pg_name hN h3 (st x hl).1 (st x hl).2) fun v σV H Q ⟨ρ, S, σ, d, r, hs, id, l, e, q⟩ => ?_
        unfold asgE at e
        rw [if_pos hl, z] at e
        cases e
        refine q _ (hs.set i id) ⟨by simp, fun j hj => ?_⟩
        rw [List.getElem?_set_ne (hj (i, d) (by simp))]
    · exact pg_no fun d => by unfold asgE; rw [if_neg hl]
  | .Tuple es kk pos => by
    by_cases hst : (assignEach es X.env).findIdx? (·.1) = none
    · refine pg_mono (pg_tup hc (asgL_ok hN hc st es) rfl hst) fun v σV H Q ⟨ρ, S, σ, d, r, hs, id, l, e, q⟩ => ?_
      cases d with
      | tup ds =>
        obtain ⟨a, xs, rfl, ha, ra⟩ := id.tupAt
        have e : asgL X.N sc es ds = some l := by unfold asgE at e; exact e
        exact ⟨a, xs, rfl, ha, by rw [← ra.length, (asgL_len (env := X.env) e).1], ρ, S, σ, ds, r, hs, ra, l, e, q⟩
      | kt ks =>
        obtain ⟨a, xs, rfl, ha, ra⟩ := Is.tupOf (ds := ks.map dKey) rfl id
        have e : asgL X.N sc es (ks.map dKey) = some l := by unfold asgE at e; exact e
        exact ⟨a, xs, rfl, ha, by rw [← ra.length, (asgL_len (env := X.env) e).1], ρ, S, σ, _, r, hs, ra, l, e, q⟩
      | _ => unfold asgE at e; cases e
    · refine pg_no fun d => ?_
      cases d with
      | tup ds =>
        cases z : asgL X.N sc es ds with
        | none => unfold asgE; exact z
        | some l => exact absurd (asgL_len (env := X.env) z).2 hst
      | kt ks =>
        cases z : asgL X.N sc es (ks.map dKey) with
        | none => unfold asgE; exact z
        | some l => exact absurd (asgL_len (env := X.env) z).2 hst
      | _ => unfold asgE; rfl
  | .Starred _ _ => pg_no fun d => by unfold asgE; cases d <;> rfl
  | .BoolOp _ _ _ => pg_no fun d => by unfold asgE; cases d <;> rfl
  | .NamedExpr _ _ _ => pg_no fun d => by unfold asgE; cases d <;> rfl
  | .BinOp _ _ _ _ => pg_no fun d => by unfold asgE; cases d <;> rfl
  | .UnaryOp _ _ _ => pg_no fun d => by unfold asgE; cases d <;> rfl
  | .Lambda _ _ _ _ => pg_no fun d => by unfold asgE; cases d <;> rfl
  | .IfExp _ _ _ _ => pg_no fun d => by unfold asgE; cases d <;> rfl
  | .Dict _ _ _ => pg_no fun d => by unfold asgE; cases d <;> rfl
  | .Set _ _ _ => pg_no fun d => by unfold asgE; cases d <;> rfl
  | .ListComp _ _ _ _ => pg_no fun d => by unfold asgE; cases d <;> rfl
  | .SetComp _ _ _ _ => pg_no fun d => by unfold asgE; cases d <;> rfl
  | .DictComp _ _ _ _ _ => pg_no fun d => by unfold asgE; cases d <;> rfl
  | .GeneratorExp _ _ _ _ => pg_no fun d => by unfold asgE; cases d <;> rfl
  | .Await _ _ => pg_no fun d => by unfold asgE; cases d <;> rfl
  | .Yield _ _ => pg_no fun d => by unfold asgE; cases d <;> rfl
  | .YieldFrom _ _ => pg_no fun d => by unfold asgE; cases d <;> rfl
  | .Compare _ _ _ _ => pg_no fun d => by unfold asgE; cases d <;> rfl
  | .Call _ _ _ _ => pg_no fun d => by unfold asgE; cases d <;> rfl
  | .FormattedValue _ _ _ _ => pg_no fun d => by unfold asgE; cases d <;> rfl
  | .JoinedStr _ _ => pg_no fun d => by unfold asgE; cases d <;> rfl
  | .Constant _ _ _ => pg_no fun d => by unfold asgE; cases d <;> rfl
  | .Attribute _ _ _ => pg_no fun d => by unfold asgE; cases d <;> rfl
  | .Subscript _ _ _ => pg_no fun d => by unfold asgE; cases d <;> rfl
  | .List _ _ => pg_no fun d => by unfold asgE; cases d <;> rfl
  | .Slice _ _ _ _ => pg_no fun d => by unfold asgE; cases d <;> rfl
theorem asgL_ok {sc : Scope} (hN : X.N.Nodup) (hc : X.calm = true) (st : Stores X sc) : ∀ es : List Expr, PGs X es (LGs X.K (asgL X.N sc es))
  | [] => by
    refine pgs_mono pgs_nil fun vs σV H Q ⟨ρ, S, σ, ds, r, hs, id, l, e, q⟩ => ?_
    cases ds with
    | nil =>
      unfold asgL at e
      cases e
      exact ⟨id.nil_eq, q σV hs ⟨rfl, fun _ _ => rfl⟩⟩
    | cons _ _ => unfold asgL at e; cases e
  | e :: es => by
    cases hst : isStar e with
    | true =>
      refine pgs_no fun ds => ?_
      cases ds with
      | nil => unfold asgL; rfl
      | cons d ds => exact asgL_no hst
    | false =>
      refine pgs_mono (pgs_cons (asgE_ok hN hc st e) (asgL_ok hN hc st es) (assign_map hst)) fun vs σV H Q ⟨ρ, S, σ, ds, r, hs, id, l, z, q⟩ => ?_
      cases ds with
      | nil => unfold asgL at z; cases z
      | cons d ds =>
        obtain ⟨x, xs, rfl, ia, ib⟩ := id.uncons
        unfold asgL at z
        split at z
        · rename_i a b e1 e2
          cases z
          refine ⟨x, xs, rfl, ρ, S, σ, d, r, hs, ia, a, e1, fun σV1 hs1 o1 => ⟨ρ, S, _, ds, r, hs1, ib, b, e2, fun σV2 hs2 o2 => q σV2 (by rw [sets_append]; exact hs2) ⟨o2.1.trans o1.1, fun i hi => ?_⟩⟩⟩
          rw [o2.2 i fun p hp => hi p (List.mem_append_right _ hp), o1.2 i fun p hp => hi p (List.mem_append_left _ hp)]
        · cases z
end
end
end Dp
end
section
set_option Elab.async false
set_option linter.all false
set_option maxRecDepth 100000
set_option maxHeartbeats 4000000
namespace Dp
open PySem PySem.Spec PyProof.Rows L2

theorem wipe_in {σ : L2.St} {i : Nat} : ∀ {vs : List Nat}, i ∈ vs → i < σ.length → (L2.wipe σ vs)[i]? = some none
  | [], h, _ => absurd h (by simp)
  | v :: vs, h, hl => by
    unfold L2.wipe
    by_cases e : v = i
    · subst e
      exact List.getElem?_set_self (by rw [wipe_length]; exact hl)
    · rw [List.getElem?_set_ne e]
      exact wipe_in ((List.mem_cons.mp h).resolve_left fun z => e z.symm) hl
theorem wipe_only {l : List (Nat × D)} {vs : List Nat} {σ σ2 : L2.St} (hl : allIn l vs = true) (o : Only l (L2.wipe σ vs) σ2) : L2.wipe σ2 vs = L2.wipe σ vs := by
  have hlen : σ2.length = σ.length := by rw [o.1, wipe_length]
  apply List.ext_getElem?
  intro i
  by_cases hi : i ∈ vs
  · by_cases hlt : i < σ.length
    · rw [wipe_in hi hlt, wipe_in hi (by rw [hlen]; exact hlt)]
    · rw [List.getElem?_eq_none (by rw [wipe_length]; omega), List.getElem?_eq_none (by rw [wipe_length]; omega)]
  · rw [wipe_out hi, o.2 i fun p hp z => ?_]
    have := List.all_eq_true.mp hl p hp
    rw [z] at this
    exact hi (by simpa using this)
section
variable {K : PySem.W.Frag} {W : WX} {X : Cx} {G : Gam} {k : Nat}
theorem Ctx.blk (c : Ctx X G W k) (s : Shared) (H : Hp) (scope : Scope) (env : Env) (fp : List Addr) (hk : env.scope.kind = .function) (hn : env.scope.names ≠ G.sc0) : Ctx (X.blk s H scope env fp) G (fun _ _ _ _ => False) k :=
  ⟨c.calm, hk, c.nd, c.N, c.room, c.gd, LamX.takes0, c.glob, c.kpo, c.blt, fun e => absurd e hn, c.exq, c.kio, c.kit, c.isx, c.rz, c.fnl, c.fns, c.ini, c.atr⟩
theorem relS_local {scope sc : Scope} {x : Str} (h : scope.names.lookup x = some .local) : (L2.relS scope sc).names.lookup x = some .local := lookup_relS_keep (by decide) h
theorem relS_cell {scope sc : Scope} {x : Str} (h : scope.names.lookup x = some .cell) : (L2.relS scope sc).names.lookup x = some .cell := lookup_relS_keep (by decide) h
theorem blk_stores (s : Shared) (H : Hp) (scope : Scope) (cl : List (Str × Addr)) (C : Addr) (fp : List Addr) : Stores (X.blk s H scope (compEnvC scope cl C X.env) fp) scope := fun x h => by
  rcases loc_of h with h | h
  · exact ⟨.inl (relS_local h), .inr (relS_local h)⟩
  · refine ⟨.inr (relS_cell h), .inl ?_⟩
    show (scope.names.lookup x == some NameKind.cell) = true
    rw [h]; rfl
def tstC (t : Scope → Expr → TvF) (scope : Scope) : List Expr → TvF
  | [] => fun _ S => .ok true S
  | [c] => t scope c
  | _ => fun _ _ => .no
theorem turnC_eq (f : Scope → Expr → EvF) (t : Scope → Expr → TvF) (N : List Str) (scope inner : Scope) (tg elt : Expr) (ifs : List Expr) (σ : Sig) (vs : List Nat) (d : D) (S : Sto) :
    turnC f t N scope inner tg elt ifs σ vs d S = match asgE N scope tg d with
      | none => .no
      | some l => if allIn l vs = true then (tstC t inner ifs (sets (wipeD σ vs) l) S).bind fun b S1 => if b = true then (f inner elt (sets (wipeD σ vs) l) S1).bind fun y S2 => .ok (some y) S2 else .ok none S1 else .no := by
  unfold turnC
  cases asgE N scope tg d with
  | none => rfl
  | some l =>
    match ifs with
    | [] => rfl
    | [c] => rfl
    | _ :: _ :: _ => rfl
theorem bind_ok {α β : Type} {r : Res α} {kk : α → Sto → Res β} {b : β} {S : Sto} (h : r.bind kk = .ok b S) : ∃ a S1, r = .ok a S1 ∧ kk a S1 = .ok b S := by
  cases r with
  | ok a S1 => exact ⟨a, S1, rfl, h⟩
  | exc c S1 => cases h
  | no => cases h
theorem loopC_succ (src : Src) (body : D → Sto → Res (Option D)) (n0 m i : Nat) (S : Sto) : loopC src body n0 (m + 1) i S = match srcAt S i src with
    | none => .no
    | some none => .ok (.ref n0) S
    | some (some d) => match body d S with
      | .ok (some y) S1 => match S1[n0]? with
        | some (.lst acc) => if acc.length < sizeLine then loopC src body n0 m (i + 1) (S1.set n0 (.lst (acc ++ [y]))) else .no
        | _ => .no
      | .ok none S1 => loopC src body n0 m (i + 1) S1
      | _ => .no := rfl
theorem ptsC_ok (c : Ctx X G W k) {t : Scope → Expr → TvF} (ht : ∀ e, PT X e (LT X.K W (t X.env.scope e))) : ∀ ifs, PTs X ifs (LT X.K W (tstC t X.env.scope ifs))
  | [] => by
    have h := (pts_nil (X := X))
    refine ⟨fun pins s σ H Q I q => h.run pins s σ H Q I ?_⟩
    obtain ⟨ρ, S, σ', r, hs, q⟩ := q
    exact q ρ H true r .refl rfl
  | [e] => pts_one (ht e)
  | _ :: _ :: _ => ⟨fun _ _ _ _ _ _ ⟨_, _, _, _, _, q⟩ => q.elim⟩
theorem lcomp_imp (kpo : KeepOk G.kp) {own : Bool} {f : Scope → Expr → EvF} {t : Scope → Expr → TvF} {sc scp : Scope} {tg it elt : Expr} {ifs : List Expr} {WF : WX} (hWF : WF = fun _ _ _ _ => False) {σV : L2.St} {H : Hp} {Q : VK} (hb : (blkC G.N sc scp (ownOf G.N scp) = true ∧ isSetE it = false) ∧ (L2.relS scp sc).names ≠ G.sc0)
    (q : LE K W (lcomp f t G own sc scp tg it elt ifs) σV H Q) :
    tLc (LI K W (evSrc (f sc) G sc tg it)) (LG K (asgE G.N scp tg)) (LT K WF (tstC t (L2.relS scp sc) ifs)) (LE K WF (f (L2.relS scp sc) elt)) ((ownOf G.N scp).map (·.2)) σV H Q := by
  obtain ⟨ρ, S, σ, r, hs, q⟩ := q
  unfold lcomp at q
  simp only [if_pos hb] at q
  refine ⟨ρ, S, σ, r, hs, (Post.bind q).mono fun J H1 ⟨ρ1, S1, src, r1, e1, so, q1⟩ D hD => ?_⟩
  generalize hvs : (ownOf G.N scp).map (·.2) = vs at q1 ⊢
  generalize hbody : turnC f t G.N scp (L2.relS scp sc) tg elt ifs σ vs = body at q1
  generalize hr0 : loopC src body S1.length (srcLen S1 src + 1) 0 (S1 ++ [.lst []]) = r0 at q1
  have q0 : Post K W (Is K) ρ1 H1 σV (if own = true then r0.nx else scope G.kp S1 r0.nx) Q := q1
  clear q1
  have q1 : Post K W (Is K) ρ1 H1 σV r0.nx Q := by
    have q1 := q0
    split at q1
    · exact q1
    · exact scope_post kpo r1 q1
  have hs1 := hs.ext e1
  refine ⟨fun i m H' => ∃ ρ' S', R K ρ' H' S' ∧ Ext K ρ1 H1 ρ' H' ∧ ρ'[S1.length]? = some D ∧ loopC src body S1.length m i S' = r0, ⟨_, ρ1 ++ [D], S1 ++ [.lst []], r1.push hD (show MR K (ρ1 ++ [D]) (upd H1 D (.lst [])) D (.lst []) from ⟨[], upd_same, .nil⟩), ext_push hD, by rw [← r1.len, push_at], hr0⟩, ?_⟩
  rintro i m H' ⟨ρ', S', r', e', hD', hl⟩
  have so' := so.ext e'
  cases m with
  | zero => subst hl; exact q1.elim
  | succ m =>
    rw [loopC_succ] at hl
    cases z : srcAt S' i src with
    | none => rw [z] at hl; subst hl; exact q1.elim
    | some o =>
      rw [z] at hl
      cases o with
      | none =>
        subst hl
        refine .inl ⟨so'.stop r' z, q1 ρ' H' _ r' e' ?_⟩
        unfold Is
        exact ⟨D, hD', rfl⟩
      | some d =>
        obtain ⟨go, step⟩ := so'.go r' z
        refine .inr ⟨go, fun H2 => ∃ ρ' S', R K ρ' H2 S' ∧ Ext K ρ1 H1 ρ' H2 ∧ ρ'[S1.length]? = some D ∧ loopC src body S1.length m (i + 1) S' = r0, fun H2 h2 => ⟨m, Nat.lt_succ_self m, h2⟩, fun x H2 hy => ?_⟩
        obtain ⟨ρ2, r2, e2, ix⟩ := step x H2 hy
        have e12 := e'.trans e2
        dsimp only at hl
        subst hbody
        cases zb : turnC f t G.N scp (L2.relS scp sc) tg elt ifs σ vs d S' with
        | exc c S3 => rw [zb] at hl; subst hl; exact q1.elim
        | no => rw [zb] at hl; subst hl; exact q1.elim
        | ok o S3 =>
          rw [zb] at hl
          rw [turnC_eq] at zb
          split at zb
          · cases zb
          · rename_i l hasg
            split at zb
            · rename_i hall
              obtain ⟨b, S2, ht, hrest⟩ := bind_ok zb
              refine ⟨ρ2, S', wipeD σ vs, d, r2, (hs1.ext e12).wipe vs, ix, l, hasg, fun σV2 hs2 o2 => ⟨wipe_only hall o2, ρ2, S', _, r2, hs2, ?_⟩⟩
              rw [ht]
              intro ρ3 H3 b' r3 e3 hb'
              obtain rfl : b = b' := hb'
              have e13 := e12.trans e3
              cases b with
              | false =>
                simp only [Bool.false_eq_true, if_false] at hrest ⊢
                cases hrest
                exact ⟨ρ3, _, r3, e13, (e2.trans e3).at hD', hl⟩
              | true =>
                simp only [if_true] at hrest ⊢
                obtain ⟨y, S4, hy4, hrest⟩ := bind_ok hrest
                cases hrest
                refine ⟨ρ3, S2, _, r3, hs2.ext e3, ?_⟩
                rw [hy4]
                intro ρ4 H4 v r4 e4 iy
                have hD4 := ((e2.trans e3).trans e4).at hD'
                dsimp only at hl
                split at hl
                · rename_i acc hacc
                  split at hl
                  · rename_i hz
                    obtain ⟨a, xs, ea, ha, hx, hi⟩ := r4.lstAt hacc (v := .ref D) (by unfold Is; exact ⟨D, hD4, rfl⟩)
                    cases ea
                    refine ⟨xs, hx, by rw [← hi.length]; exact hz, ρ4, _, r4.write hx (.inl ⟨_, rfl⟩) hD4 (show MR K ρ4 (upd H4 D (.lst (xs ++ [v]))) D (.lst (acc ++ [y])) from ⟨_, upd_same, (hi.append (.cons iy .nil)).ext (ext_write hx (.inl ⟨_, rfl⟩) hD4)⟩), (e13.trans e4).trans (ext_write hx (.inl ⟨_, rfl⟩) hD4), hD4, hl⟩
                  · subst hl; exact q1.elim
                · subst hl; exact q1.elim
            · cases zb
theorem noSet {it : Expr} {env : Env} (h : isSetE it = false) : ∀ x, foldedSetIterable it env x = pure x := by
  intro x
  cases it with
  | Set a b c => cases h
  | _ => rfl
theorem lcomp_ok (c : Ctx X G W k) {f : Scope → Expr → EvF} {t : Scope → Expr → TvF} (hf : ∀ X W, Ctx X G W k → ∀ e, PE X e (LE X.K W (f X.env.scope e))) (ht : ∀ X W, Ctx X G W k → ∀ e, PT X e (LT X.K W (t X.env.scope e)))
    (own : Bool) (tg it elt : Expr) (ifs : List Expr) (scope : Scope) (pos : Pos) :
    PE X (.ListComp elt [⟨tg, it, ifs, 0⟩] scope pos) (LE X.K W (lcomp f t G own X.env.scope scope tg it elt ifs)) := by
  by_cases hb : (blkC G.N X.env.scope scope (ownOf G.N scope) = true ∧ isSetE it = false) ∧ (L2.relS scope X.env.scope).names ≠ G.sc0
  · have hb' : blkC X.N X.env.scope scope (ownOf G.N scope) = true := by rw [c.N]; exact hb.1.1
    refine pe_mono (pe_lc (own := ownOf G.N scope) c.calm c.nd (src_ok c (hf X W c) tg it) (blkOk_by hb') (fun s H C cl fp => ?_) (fun s H C cl fp => ?_) (fun s H C cl fp => ?_) (noSet hb.1.2)) fun σV H Q q => lcomp_imp c.kpo rfl hb q
    · have h := asgE_ok (X := X.blk s H scope (compEnvC scope cl C X.env) fp) c.nd c.calm (blk_stores s H scope cl C fp) tg
      have e : (X.blk s H scope (compEnvC scope cl C X.env) fp).N = G.N := c.N
      rw [e] at h
      exact h
    · exact ptsC_ok (c.blk s H scope (compEnvC scope cl C X.env) fp (blkOk_by hb').kind hb.2) (ht _ _ (c.blk s H scope (compEnvC scope cl C X.env) fp (blkOk_by hb').kind hb.2)) ifs
    · exact hf _ _ (c.blk s H scope (compEnvC scope cl C X.env) fp (blkOk_by hb').kind hb.2) elt
  · refine pe_no fun σ S => ?_
    unfold lcomp
    rw [if_neg hb]
end
end Dp
end
section
set_option Elab.async false
set_option linter.all false
set_option maxRecDepth 100000
set_option maxHeartbeats 4000000
namespace Dp
open PySem PySem.Spec PyProof.Rows L2 ClX
/-! ### an error with an attribute: made, raised, read -/
theorem held_ok {P : Program} {w : World} {H : Hp} {h : Heap} {a : Addr} {cls : Value} {dd : Option Addr} {oe : Obj} {vs : Array Value} (e : h.get? a = some oe) (z : Zc cls dd oe) (d : oe.data = .fields vs) : ObjOk P w H h a (HeldO cls dd a) :=
  ⟨⟨oe, vs, e, z, d⟩, ⟨_, e⟩, fun _ _ ⟨o2, us, g1, g2, g3⟩ k => ⟨o2, us, k _ g1, g2, g3⟩⟩
theorem held_own {a x : Addr} {cls : Value} {d : Option Addr} : HeldO cls d a ≠ .own x := fun z => by unfold HeldO at z; cases z
theorem held_tup {a : Addr} {cls : Value} {d : Option Addr} {xs : List V} : HeldO cls d a ≠ .tup xs := fun z => by unfold HeldO at z; cases z
section
variable {X : Cx} {pins : List (Addr × Obj)} {σ : L2.St}
/-- what is made stays, as an error that is held -/
theorem mk_keep {H1 H2 : Hp} {s1 s2 : Shared} {hp2 : Heap} {a C d : Addr} {fs : List (Str × V)} (I1 : Inv X pins σ H1 s1) (ha : s1.heap.objs.size ≤ a) (k : ∀ b o, s1.heap.get? b = some o → hp2.get? b = some o)
    (un : Un (frs X.stack) [] (upd H1 a (exo a C none)) H2 hp2 s2.heap) (hok : HOk X.prog X.w H2 s2.heap) (ho : s2.os = s1.os) (hb : AllBare s2.gens) (ea : H2 a = some (exo a C (some d))) (ed : H2 d = some (exd d fs)) (hd1 : H1 d = none) :
    Inv X pins σ (upd (upd H2 a (HeldO (.ref C) (some d) a)) d (.xd fs)) s2 := by
  obtain ⟨t0, hoe⟩ := exo_at hok ea
  obtain ⟨mA, hns, rel⟩ := exd_at hok ed
  have hn : H1 a = none := I1.hok.fresh ha
  have hda : d ≠ a := fun z => by
    obtain ⟨o, es, ep, e1, e2, _⟩ := hns
    rw [z, hoe] at e1
    cases e1
    cases e2
  have old : ∀ {b : Addr} {o : Obj}, s1.heap.get? b = some o → b ≠ a := fun {b o} z => Nat.ne_of_lt (Nat.lt_of_lt_of_le (Heap.lt_size z) ha)
  have un0 : ∀ {b : Addr}, b ≠ a → H1 b = none → upd H1 a (exo a C none) b = none := fun {b} hb n => by rw [upd_ne hb]; exact n
  have olD : ∀ {b : Addr} {o : Obj}, s1.heap.get? b = some o → H1 b = none → b ≠ d := fun {b o} z n e => by
    have y := un.free b o (k b o z) (un0 (old z) n) (by simp)
    rw [e, ed] at y
    cases y
  have U : Un (frs X.stack) [] H1 (upd (upd H2 a (HeldO (.ref C) (some d) a)) d (.xd fs)) s1.heap s2.heap := {
    keep := fun b o z n hf hx => un.keep b o (k b o z) (un0 (old z) n) hf hx
    slot := fun b o z n hf hx => un.slot b o (k b o z) (un0 (old z) n) hf hx
    free := fun b o z n hx => by
      rw [upd_ne (olD z n), upd_ne (old z)]
      exact un.free b o (k b o z) (un0 (old z) n) hx
    there := fun b o z hx => un.there b o (k b o z) hx
    tups := fun b xs z => by
      rw [upd_ne (ne_of_none z hd1), upd_ne (ne_of_none z hn)]
      exact un.tups b xs (by rw [upd_ne (ne_of_none z hn)]; exact z)
    frzs := fun b o v z => by
      rw [upd_ne (ne_of_none z hd1), upd_ne (ne_of_none z hn)]
      exact un.frzs b o v (by rw [upd_ne (ne_of_none z hn)]; exact z)
    tbls := fun b ps z => by
      rw [upd_ne (ne_of_none z hd1), upd_ne (ne_of_none z hn)]
      exact un.tbls b ps (by rw [upd_ne (ne_of_none z hn)]; exact z) }
  have hok3 : HOk X.prog X.w (upd (upd H2 a (HeldO (.ref C) (some d) a)) d (.xd fs)) s2.heap := fun b o z => by
    by_cases hbd : b = d
    · subst hbd
      rw [upd_same] at z
      cases z
      exact ⟨mA, hns, rel⟩
    · rw [upd_ne hbd] at z
      by_cases hba : b = a
      · subst hba
        rw [upd_same] at z
        cases z
        exact held_ok hoe ⟨rfl, rfl⟩ rfl
      · rw [upd_ne hba] at z
        exact (hok b o z).stay (fun c v _ y => y) (fun c hc => by rw [upd_ne (at_ne ed hc exd_own), upd_ne (at_ne ea hc exo_own)]; exact hc) (fun c xs hc => by rw [upd_ne (at_ne ed hc exd_tup), upd_ne (at_ne ea hc exo_tup)]; exact hc)
  exact I1.call' (ch := []) ho U hok3 hb (fun b z => absurd z (by simp))
theorem hp_raise {H1 : Hp} {a d C : Addr} {n : Str} {v : V} (hn : H1 a = none) (hne : d ≠ a) : upd (del (upd (upd (upd H1 a (exo a C none)) d (exd d [(n, v)])) a (exo a C (some d))) a) d (.xd [(n, v)]) = upd H1 d (.xd [(n, v)]) := by
  funext b
  by_cases hd : b = d
  · subst hd; rw [upd_same, upd_same]
  · rw [upd_ne hd, upd_ne hd]
    by_cases hb : b = a
    · subst hb; rw [del_same, hn]
    · rw [del_ne hb, upd_ne hb, upd_ne hd, upd_ne hb]
theorem hp_keep {H1 : Hp} {a d C : Addr} {n : Str} {v : V} (hne : d ≠ a) : upd (upd (upd (upd (upd H1 a (exo a C none)) d (exd d [(n, v)])) a (exo a C (some d))) a (HeldO (.ref C) (some d) a)) d (.xd [(n, v)]) = upd (upd H1 a (HeldO (.ref C) (some d) a)) d (.xd [(n, v)]) := by
  funext b
  by_cases hd : b = d
  · subst hd; rw [upd_same, upd_same]
  · rw [upd_ne hd, upd_ne hd]
    by_cases hb : b = a
    · subst hb; rw [upd_same, upd_same]
    · rw [upd_ne hb, upd_ne hb, upd_ne hb, upd_ne hd, upd_ne hb]
theorem starE {a : Expr} {env : Env} (h : isStar a = false) : starEach [a] env = (false, eval a env) :: starEach [] env := star_no h _ _
theorem pmk_ini {x n : Str} {C : Addr} (c : IniOk X.K X.mg x C n) (hr : Room 2 X.A) (hg : Gl X x) (hdb : (x == ("__debug__" : Str)) = false) {a : Expr} {W : WX} {g : EvL} {p pos : Pos} (ha : PA X [a] (LA X.K W g)) (hs : isStar a = false) :
    PMk X (.Call (.Name x p) [a] [] pos) (fun σ H Q => LA X.K W g σ H fun vs H1 => ∃ v, vs = [v] ∧ ∀ d, H1 d = none → Q (.ref C) (some d) (upd H1 d (.xd [(n, v)]))) := by
  obtain ⟨Fn, aF, fI, qual, params, body, scope, fd, c, f, b⟩ := c
  intro pins s σ H Q I h
  refine pmk_oex (k := 1) (sp := spIni C n) (dvs := []) c.T c.iC c.tI (ini_fn c f) hr b .nil (fun _ _ _ _ _ _ _ z => ?_) hg c.gC ha hdb (starE hs) rfl pins s σ H Q I ?_
  · obtain ⟨_, _, _, _, _, _, _, _, _, _, _, _, z⟩ := z
    exact z.elim
  · refine h.mono fun vs H1 ⟨v, ev, q⟩ => ?_
    subst ev
    refine ⟨by simp, fun a hn => ⟨a, v, rfl, upd_same, fun d hd hne => ⟨rfl, d, [(n, v)], upd_same, by rw [upd_ne hne, upd_same], by rw [upd_ne hne] at hd; exact hd, ?_⟩⟩⟩
    rw [hp_raise hn hne]
    rw [upd_ne hne] at hd
    exact q d hd
/-- C(e) as a value -/
theorem pe_ini {x n : Str} {C : Addr} (c : IniOk X.K X.mg x C n) (hr : Room 2 X.A) (hg : Gl X x) (hdb : (x == ("__debug__" : Str)) = false) {a : Expr} {W : WX} {g : EvL} {p pos : Pos} (ha : PA X [a] (LA X.K W g)) (hs : isStar a = false) :
    PE X (.Call (.Name x p) [a] [] pos) (fun σ H Q => LA X.K W g σ H fun vs H1 => ∃ v, vs = [v] ∧ ∀ e d, H1 e = none → H1 d = none → d ≠ e → Q (.ref e) (upd (upd H1 e (HeldO (.ref C) (some d) e)) d (.xd [(n, v)]))) := by
  obtain ⟨Fn, aF, fI, qual, params, body, scope, fd, c, f, b⟩ := c
  refine ⟨fun pins s σ H Q I h => ?_⟩
  obtain ⟨nm, q, N, bs, bm, sn, sub, ab, col, dd, k0, k1, k2, k3, k5, hC, hbm⟩ := c.T.cls
  refine wpAny_Call_Name_kw (ld_glob I hg c.gC ?_ hdb)
  refine PySem.W.callWith_K (h₀ := X.base) I.ok.mod.kin c.T.kC (thn (ha.run pos pins s σ H _ I h) fun us s1 ⟨vs, H1, I1, r1, v, ev, q1⟩ => ⟨I1.kIn, ?_⟩) (starE hs) rfl
  subst ev
  show wpAny _ _ (call (.ref C) us) _ _ _
  obtain ⟨hp, g0, dr, tk, os⟩ := s1
  have hsz : hp.objs.size ≤ hp.objs.size + 1 := Nat.le_succ _
  have hn : H1 (hp.objs.size + 1) = none := I1.hok.fresh hsz
  have kk : ∀ b o, hp.get? b = some o → ((hp.push (PySem.W.kdv_tup us)).push (PySem.HandSPX.excO C hp.objs.size)).get? b = some o := fun b o e => Heap.get?_push_of_some _ (Heap.get?_push_of_some _ e)
  have hget : ((hp.push (PySem.W.kdv_tup us)).push (PySem.HandSPX.excO C hp.objs.size)).get? (hp.objs.size + 1) = some (PySem.HandSPX.excO C hp.objs.size) := by heap_get
  have I2 : Inv X pins σ (upd H1 (hp.objs.size + 1) (exo (hp.objs.size + 1) C none)) ⟨(hp.push (PySem.W.kdv_tup us)).push (PySem.HandSPX.excO C hp.objs.size), g0, dr, tk, os⟩ :=
    I1.laid (t' := tk) (a := hp.objs.size + 1) (o := exo (hp.objs.size + 1) C none) (h' := (hp.push (PySem.W.kdv_tup us)).push (PySem.HandSPX.excO C hp.objs.size)) kk hsz (exo_ok hget)
  have r2 : Vals [V.ref (hp.objs.size + 1), v] (Value.ref (hp.objs.size + 1) :: us) := .cons rfl r1
  have lus : us.length = 1 := (Paired.length r1).symm
  have F1 := ini_fn (P := X.prog) (w := X.w) (base := X.base) c f
  have bd := b (s := ⟨(hp.push (PySem.W.kdv_tup us)).push (PySem.HandSPX.excO C hp.objs.size), g0, dr, tk, os⟩) (Value.ref (hp.objs.size + 1) :: us) I2.kIn (by simp [lus])
  rw [List.append_nil] at bd
  have sp : spIni C n [V.ref (hp.objs.size + 1), v] (upd H1 (hp.objs.size + 1) (exo (hp.objs.size + 1) C none)) (fun v' H2 => v' = .non ∧ ∃ d, H1 d = none ∧ d ≠ hp.objs.size + 1 ∧ H2 = upd (upd (upd H1 (hp.objs.size + 1) (exo (hp.objs.size + 1) C none)) d (exd d [(n, v)])) (hp.objs.size + 1) (exo (hp.objs.size + 1) C (some d))) (fun _ _ _ => False) :=
    ⟨hp.objs.size + 1, v, rfl, upd_same, fun d hd hne => ⟨rfl, d, by rw [upd_ne hne] at hd; exact hd, hne, rfl⟩⟩
  refine wpAny_call (PySem.HandSPX.call_own F.excBase_ValueError (fun Y => PySem.HandSPX.refsVE_contains Y bm hbm) (I1.kIn _ _ hC) (PySem.W.looks_findIn I1.kIn c.iC) (fun self => PySem.W.bind_fn I1.kIn self c.tI) (by rw [lus, sizeLine_eq]; omega)
    (codeAny_mono (F1.run _ X.stack _ _ ⟨Value.ref (hp.objs.size + 1) :: us, []⟩ (Value.ref (hp.objs.size + 1) :: us) _ _ (fun _ _ _ => False) (hr.make C us []) (I2.env0.make C us []) bd r2 sp) fun r s' hq' => ?_))
  cases r with
  | error er =>
    obtain ⟨_, _, _, _, _, _, _, _, _, _, _, _, z⟩ := hq'
    exact z.elim
  | ok fl =>
    cases fl with
    | ret u =>
      obtain ⟨v', H2, os2, bare2, un2, hok2, rv, ev, d, hd, hne, eH⟩ := hq'
      subst ev
      subst eH
      have J := mk_keep (fs := [(n, v)]) I1 hsz kk un2 hok2 os2 bare2 upd_same (by rw [upd_ne hne, upd_same]) hd
      rw [hp_keep hne] at J
      exact ⟨rv, .ref (hp.objs.size + 1), _, J, rfl, q1 _ d hn hd hne⟩
    | next => exact False.elim hq'
    | brk => exact False.elim hq'
    | cont => exact False.elim hq'
end
end Dp
namespace Dp
open PySem PySem.Spec PyProof.Rows L2 ClX
/-! ### isinstance of an error, with attributes or without -/
section
open PySem.W PySem.Calls
variable {prog : Program} {w : World} {A : Around} {E : Value → Shared → Prop} {s : Shared} {K : PySem.W.Frag} {x D : Addr} {ox : Obj} {od : Option Obj}
theorem cls_found {C : Addr} {m : Str} {a g : Value} (hc : (clsIn K C).isSome = true) (ha : findIn K (.ref C) m = some (some a)) (hg : specialIn K a "__get__" = some (some g)) (ht : takesIn K a = some true) : findObj K C od m = some (.bind g a) := by
  cases od with
  | none => exact findObj_dataN hc ha hg ht
  | some o => exact findObj_data hc ha hg ht
theorem cls_asked {Q : Option Value → Shared → Prop} (c : L2.ExcC K D) (X : K.In s.heap) (I : InstAt s.heap x ox D od) (h : Q (some (.ref D)) { s with toks := s.toks + 1 }) : wpAny (model prog w) A (getAttr? (.ref x) "__class__") Q E s := by
  have F0 : findObj K D od "__class__" = some (.bind (.builtin "getset_descriptor.__get__") (.builtin "object.__class__")) := cls_found (by obtain ⟨cd, hc, _⟩ := any_some c.hd; rw [hc]; rfl) c.ha c.hn c.ht
  obtain ⟨hp, g, d, t, os⟩ := s
  have l0 := I.type (M := model prog w)
  have l1 := looks_findIn (M := model prog w) X c.hg
  have l2 := looks_findIn (M := model prog w) X c.hk
  have l3 := looks_find (M := model prog w) X I F0
  have isE : Looks (model prog w) hp (isInstance (.ref x) (.type "BaseException")) true := l0.andThen (looks_subIn X c.hs)
  have ne : (Value.builtin "BaseException.__getattribute__" == Value.builtin "object.__getattribute__") = false := by decide +kernel
  unfold getAttr? getAttrBy? getAttrBy
  refine wpAny_bind (wpAny_mkText (wpAny_bind (wpAny_attempt (wpAny_holding (wpAny_bind (l0.at (wpAny_bind (l1.at ?_))))))))
  show wpAny _ _ (if (onTheHeap (Value.ref D) && Value.builtin "BaseException.__getattribute__" == Value.builtin "object.__getattribute__") = true then _ else _) _ _ _
  rw [ne, Bool.and_false, if_neg Bool.false_ne_true]
  unfold getAttrByItsOwn hookBefore
  refine wpAny_bind ?_
  rw [if_pos (show onTheHeap (Value.ref D) = true from rfl)]
  refine l2.at (wpAny_bind (wpAny_attempt (wpAny_holding ?_)))
  unfold callGetattribute
  rw [show (false && onTheHeap (Value.builtin "BaseException.__getattribute__")) = false from rfl, if_neg Bool.false_ne_true]
  unfold boundAndCalled
  rw [PySem.F.excAttr_ValueError.ga.bind (.ref x)]
  refine wpAny_bind (wpAny_pure ?_)
  show wpAny _ _ (call (.builtin "BaseException.__getattribute__") [.ref x, .str "__class__" t]) _ _ _
  refine wpAny_call (codeAny_call_builtin PySem.F.excAttr_ValueError.ga.plain PySem.F.entry_bexc_ga ?_)
  refine @check_slot (model prog w) _ _ ⟨hp, g, d, t + 1, os⟩ "BaseException.__getattribute__" "BaseException" "__getattribute__" (.ref x) [.str "__class__" t] [] _ (by decide +kernel) (by decide +kernel) isE (PySem.F.args_bexc_ga (.ref x) (.str "__class__" t)) ?_
  unfold Builtin.«object.__getattribute__»
  refine wpAny_bind (wpAny_of_eq (a := ((Value.ref x : Value), [Value.str "__class__" t])) (by first | rfl | (simp only [slotArgs]; rfl)) (wpAny_bind (wpAny_pure (wpAny_bind (l0.at (wpAny_bind (l3.at ?_)))))))
  show wpAny _ _ (holding [Value.builtin "object.__class__"] (call (.builtin "getset_descriptor.__get__") [.builtin "object.__class__", .ref x, .ref D]) >>= ret) _ _ _
  refine wpAny_bind (wpAny_holding (wpAny_call (class_get (s := ⟨hp, g, d, t + 1, os⟩) (ox := ox) (od := od) X I c.hm (wpAny_pure ?_))))
  show wpAny _ _ (handedOut (.ref D)) _ _ _
  rw [handedOut_of (v := .ref D) rfl]
  first
    | exact wpAny_pure (wpAny_pure h)
    | exact wpAny_pure h
    | exact wpAny_pure (wpAny_bind (wpAny_pure (wpAny_pure h)))
theorem exc_kit (c : L2.ExcC K D) : KitX K (.ref x) (.ref D) (fun h => InstAt h x ox D od) where
  ty := fun _ _ _ I => I.type
  it := fun _ _ X _ => by
    obtain ⟨cd, hcd, _⟩ := any_some c.hd
    unfold clsIn at hcd
    split at hcd
    · rename_i c' d' cd' sl' ho
      intro A' Q' E' s' k q
      unfold isType loadHead
      exact wpAny_bind (wpAny_loadPart (k _ _ (X _ _ ho)) (wpAny_pure q))
    · cases hcd
  ne := fun h tp dd its n sl X htp => by
    obtain ⟨cd, hcd, _⟩ := any_some c.hd
    refine Bool.eq_false_iff.mpr fun q => ?_
    have e : D = tp := Value.ref.inj (beq_iff_eq.mp q)
    subst e
    unfold clsIn at hcd
    split at hcd
    · rename_i c' d' cd' sl' ho
      have z := (X _ _ ho).symm.trans htp
      cases z
    · cases hcd
  ca := fun X I k => cls_asked c X I k
end
/-! ### an attribute read -/
section
variable {X : Cx} {K : PySem.W.Frag} {W : WX} {G : Gam}
theorem held_at {pins : List (Addr × Obj)} {σ : L2.St} {H : Hp} {s : Shared} (I : Inv X pins σ H s) {C a : Addr} {dd : Option Addr} (h : H a = some (HeldO (.ref C) dd a)) (hd : ∀ b, dd = some b → ∃ fs, H b = some (.xd fs)) :
    ∃ oe od, PySem.W.InstAt s.heap a oe C od ∧ ∀ b, dd = some b → ∃ o fs, H b = some (.xd fs) ∧ od = some o ∧ ∃ mA, s.heap.Ns1 b mA ∧ (∀ f, RelO (fs.lookup f) (mA f)) ∧ s.heap.get? b = some o := by
  obtain ⟨⟨oe, vs, e1, e2, e3⟩, _, _⟩ := I.hok a _ h
  have nc : PySem.W.notCls oe = true := by unfold PySem.W.notCls; rw [e3]
  cases dd with
  | none => exact ⟨oe, none, ⟨e1, e2.1, nc, by rw [e2.2]; trivial⟩, fun b z => nomatch z⟩
  | some b =>
    obtain ⟨fs, hb⟩ := hd b rfl
    obtain ⟨mA, hns, rel⟩ := (show ObjOk X.prog X.w H s.heap b (.xd fs) from I.hok b _ hb)
    obtain ⟨o, es, ep, ho, r⟩ := hns
    refine ⟨oe, some o, ⟨e1, e2.1, nc, by rw [e2.2]; exact ho⟩, fun b' z => ?_⟩
    cases z
    exact ⟨o, fs, hb, rfl, mA, ⟨o, es, ep, ho, r⟩, rel, ho⟩
theorem at_ok {e : Expr} {f : EvF} {n : Str} {pos : Pos} (he : PE X e (LE X.K W f)) (hc : isCallE e = false) (hat : ∀ C, G.attr C = some (some n) → XfC X.K (He.ga X.K C) ∧ PySem.W.findIn X.K (.ref (He.ga X.K C)) n = some none) :
    PE X (.Attribute e n pos) (LE X.K W fun σ S => (f σ S).bind fun x S1 => match x with
      | .exv C (some m) [d] => if m = n ∧ G.attr C = some (some n) then .ok d S1 else .no
      | _ => .no) := by
  refine ⟨fun pins s σ H Q I q => attr_of (by cases e <;> first | rfl | cases hc) (thn (he.run pins s σ H _ I (Lft.bind (g := fun x σ S1 => match x with
      | .exv C (some m) [d] => if m = n ∧ G.attr C = some (some n) then .ok d S1 else .no
      | _ => .no) q)) fun u s1 ⟨v, H1, I1, rv, ρ1, S1, σ1, x, r, hs, i, q1⟩ => ?_)⟩
  split at q1
  · rename_i C m d
    split at q1
    · rename_i hm
      obtain ⟨rfl, hC⟩ := hm
      obtain ⟨T, hno⟩ := hat C hC
      unfold Is at i
      obtain ⟨a, dd, rfl, hH, hA⟩ := i
      rcases hA with ⟨z, _⟩ | ⟨n', b, w, z1, z2, z3, z4⟩
      · cases z
      · cases z1
        subst z2
        obtain rfl : u = Value.ref a := rv
        obtain ⟨oe, od, J, k⟩ := held_at I1 hH (fun b' z => by cases z; exact ⟨_, z3⟩)
        obtain ⟨o, fs, g1, rfl, mA, hns, rel, ho⟩ := k b rfl
        rw [z3] at g1
        cases g1
        obtain ⟨y, ys, ey, iy, _⟩ := z4.uncons
        cases ey
        obtain ⟨o', ho', hl⟩ := lookIn_ns hns
        rw [ho] at ho'
        cases ho'
        obtain ⟨u, hu, ru⟩ := RelO.some_of (v := w) (o := mA m) (by
          have := rel m
          simpa [List.lookup] using this)
        exact HandSPX.exc_get I1.kIn J T.ga T.gg T.exC (PySem.W.findObj_own T.hdC hno rfl (by rw [hl, hu])) (handed_of ru) ⟨w, H1, I1.tok _, ru, q1.val r iy⟩
    · exact q1.elim
  · exact q1.elim
end
end Dp
end
section
set_option Elab.async false
set_option linter.all false
set_option maxRecDepth 100000
set_option maxHeartbeats 4000000
namespace Dp
open PySem PySem.Spec PyProof.Rows L2
section
variable {K : PySem.W.Frag} {W : WX} {X : Cx} {G : Gam} {k : Nat}
theorem callS_post (c : Ctx X G W k) {own : Bool} {g : Str} {ds : List D} {ρ : List Addr} {S : Sto} {H : Hp} {σV : L2.St} {Q : VK} {W' : WX} (r : R K ρ H S) (q : Post K W' (Is K) ρ H σV (G.callS own g ds S) Q) : Post K W' (Is K) ρ H σV (G.call g ds S) Q := by
  unfold Gam.callS at q
  split at q
  · exact q
  · exact scope_post c.kpo r q
/-- the callee runs -/
theorem run_fnG {g : Addr} {fd : FuncData} {ps : List Str} {h : List D → Sto → Res D} {pins : List (Addr × Obj)} {σV : L2.St} {H : Hp} {s : Shared} {Q : VK} {us : List Value} {vs : List V} (tk : Takes X W)
    (F : FnG X.prog X.w X.K X.mg X.base k g fd ps (spD X.K h)) (hr : Room (k + 2) X.A) (hg : X.A.guards = some []) (hb : Binds X.K fd ps []) (I : Inv X pins σV H s) (r : Vals vs us) (q : spD X.K h vs H Q (WE W σV)) :
    wpAny (model X.prog X.w) X.A (call (.ref g) us) (EP X pins σV Q) X.xe s := by
  have hl : us.length = ps.length := by rw [← r.length]; exact F.len _ _ _ _ q
  have b := hb s us I.kIn (by simpa using hl)
  rw [List.append_nil] at b
  have rn := F.run X.A X.stack s H ⟨us, []⟩ us vs Q (WE W σV) hr hg I.env0 b r q
  refine wpAny_call (codeAny_mono rn fun res s2 hq => ?_)
  match res, hq with
  | .error e, hq => exact passAt tk σV pins H s e s2 I hq
  | .ok (.ret u), hq => exact I.after hq
theorem noStars : ∀ {es : List Expr} (pos : Pos) (env : Env), es.any isStar = false → (backTo pos (starEach es env)).any (·.1) = false
  | [], _, _, _ => rfl
  | e :: es, pos, env, h => by
    rw [List.any_cons, Bool.or_eq_false_iff] at h
    rw [star_no h.1]
    have ih := noStars pos env h.2
    unfold backTo at ih ⊢
    rw [List.map_cons, List.any_cons, ih]
    rfl
theorem noStars1 {e : Expr} {es : List Expr} (h : (e :: es).any isStar = false) : isStar e = false ∧ es.any isStar = false := by
  rw [List.any_cons, Bool.or_eq_false_iff] at h; exact h
theorem call_ok (c : Ctx X G W k) {x g : Str} {ps : List Str} (hgl : Gl X x) (hx : G.glob x = some (.con g)) (hp : G.pars g = some ps) (hpl : plainN x = true) {f : Expr → EvF} (hf : ∀ e, PE X e (LE X.K W (f e))) (p pos : Pos) (e : Expr) (es : List Expr) (hst : (e :: es).any isStar = false) (own : Bool) :
    PE X (.Call (.Name x p) (e :: es) [] pos) (LE X.K W fun σ S => (evL f (e :: es) σ S).bind fun ds S1 => if ds.length = ps.length then G.callS own g ds S1 else .no) := by
  obtain ⟨fd, F, kp, hb, hm, _⟩ := c.fns x g ps hx hp
  have hA := evL_ok (W := W) hf (e :: es)
  refine ⟨fun pins s σV H Q I q => ?_⟩
  refine wpAny_Call_Name_kw (ld_glob I hgl hm ?_ (plain_d hpl).1)
  refine PySem.W.callWith_K (h₀ := X.base) I.ok.mod.kin kp (thn (hA.run pos pins s σV H _ I (Lft.bind (g := fun ds σ S1 => if ds.length = ps.length then G.callS own g ds S1 else .no) q)) fun us s1 ⟨vs, H1, I1, r1, ρ1, S1, σ1, ds, rr, hs, ia, q1⟩ => ⟨I1.kIn, ?_⟩) (star_no (noStars1 hst).1 _ _) (noStars pos X.env (noStars1 hst).2)
  split at q1
  · exact run_fnG c.tk F c.room c.gd hb I1 r1 ⟨ρ1, S1, ds, rr, ia, callS_post c rr q1⟩
  · exact q1.elim
/-- a call of a local name that holds a def -/
theorem callL_ok (c : Ctx X G W k) {x : Str} (hpl : plainN x = true) {i : Nat} (hsl : slot G.N X.env.scope x = some i) {f : Expr → EvF} (hf : ∀ e, PE X e (LE X.K W (f e))) (p pos : Pos) (e : Expr) (es : List Expr) (hst : (e :: es).any isStar = false) (own : Bool) :
    PE X (.Call (.Name x p) (e :: es) [] pos) (LE X.K W fun σ S => match σ[i]? with
      | some (some (.con g)) => (match G.pars g with
        | some ps => (evL f (e :: es) σ S).bind fun ds S1 => if ds.length = ps.length then G.callS own g ds S1 else .no
        | none => .no)
      | _ => .no) := by
  obtain ⟨h1, h2, h3⟩ := slot_some hsl
  obtain ⟨p1, p2⟩ := plain_d h1
  have hA := evL_ok (W := W) hf (e :: es)
  refine ⟨fun pins s σV H Q I q => ?_⟩
  obtain ⟨ρ, S, σ, r, hs, q⟩ := q
  dsimp only at q
  split at q
  · rename_i g e0
    obtain ⟨v, e1, i1⟩ := hs.2 i _ e0
    unfold Is at i1
    subst i1
    split at q
    · rename_i ps hp
      obtain ⟨fd, F, kp, hb⟩ := c.fnl g ps hp
      refine wpAny_Call_Name_kw (thn ((pe_var (pos := p) (i := i) (by rw [c.N]; exact h3) (vis_of h2) p1 p2).run pins s σV H (fun v H1 => v = .ref (He.ga X.K g) ∧ H1 = H) I ⟨_, e1, rfl, rfl⟩) fun u s1 ⟨v, H1, I1, r1, q1⟩ => ?_)
      obtain ⟨rfl, rfl⟩ := q1
      cases r1
      refine PySem.W.callWith_K (h₀ := X.base) I1.ok.mod.kin kp (thn (hA.run pos pins s1 σV H1 _ I1 (Lft.bind (g := fun ds σ S1 => if ds.length = ps.length then G.callS own g ds S1 else .no) ⟨ρ, S, σ, r, hs, q⟩)) fun us s1 ⟨vs, H1, I1, r1, ρ1, S1, σ1, ds, rr, hs, ia, q1⟩ => ⟨I1.kIn, ?_⟩) (star_no (noStars1 hst).1 _ _) (noStars pos X.env (noStars1 hst).2)
      split at q1
      · exact run_fnG c.tk F c.room c.gd hb I1 r1 ⟨ρ1, S1, ds, rr, ia, callS_post c rr q1⟩
      · exact q1.elim
    · exact q.elim
  · exact q.elim
/-- the built-in functions by their names -/
theorem permL_vals {perm : List Nat} {vs : List V} {us : List Value} (r : Vals vs us) : Vals (permL perm vs) (permL perm us) := by
  unfold permL
  induction perm with
  | nil => exact .nil
  | cons i perm ih =>
    rw [List.filterMap_cons, List.filterMap_cons]
    cases z : vs[i]? with
    | none =>
      have : us[i]? = none := by
        rw [List.getElem?_eq_none_iff] at z ⊢
        rw [← r.length]; exact z
      rw [this]
      exact ih
    | some v =>
      obtain ⟨u, e, rv⟩ := r.get z
      rw [e]
      exact .cons rv ih
theorem permL_is {ρ : List Addr} {H : Hp} {perm : List Nat} {ds : List D} {vs : List V} (r : IsAll K ρ H ds vs) : IsAll K ρ H (permL perm ds) (permL perm vs) := by
  unfold permL
  induction perm with
  | nil => exact .nil
  | cons i perm ih =>
    rw [List.filterMap_cons, List.filterMap_cons]
    cases z : ds[i]? with
    | none =>
      have : vs[i]? = none := by
        rw [List.getElem?_eq_none_iff] at z ⊢
        rw [← r.length]; exact z
      rw [this]
      exact ih
    | some d =>
      obtain ⟨v, e, iv⟩ := r.get i z
      rw [e]
      exact .cons iv ih
theorem evKw_ok {f : Expr → EvF} (hf : ∀ e, PE X e (LE X.K W (f e))) : ∀ kws, PK X kws (LA X.K W (evKw f kws))
  | [] => ⟨fun pos pins s σ H Q I ⟨ρ, S, σD, r, hs, q⟩ => pk_nil.run pos pins s σ H Q I (q ρ H [] r .refl .nil)⟩
  | ⟨nm, e, kp⟩ :: kws => by
    have ih := evKw_ok hf kws
    refine ⟨fun pos pins s σ H Q I q => (pk_cons (nm := nm) (kpos := kp) (hf e) ih).run pos pins s σ H Q I ?_⟩
    refine (Lft.bind (g := fun d σ S1 => (evKw f kws σ S1).bind fun ds S2 => .ok (d :: ds) S2) q).mono fun x H1 ⟨ρ1, S1, σ1, a, r, hs, ia, q1⟩ => ?_
    refine ⟨ρ1, S1, σ1, r, hs, (Post.bind q1).mono fun xs H2 ⟨ρ2, S2, ds, r2, e2, ib, q2⟩ => ?_⟩
    exact q2 ρ2 H2 _ r2 .refl (.cons (ia.ext e2) ib)
theorem kw_names (env : Env) (pos : Pos) : ∀ kws : List Keyword, (backToKw pos (keywordEach kws env)).filterMap (·.1) = kws.filterMap (·.arg) ∧ ((backToKw pos (keywordEach kws env)).all (·.1.isSome) = kws.all (·.arg.isSome)) ∧ ((backToKw pos (keywordEach kws env)).any (·.1.isNone) = !kws.all (·.arg.isSome))
  | [] => ⟨rfl, rfl, rfl⟩
  | ⟨nm, e, kp⟩ :: kws => by
    obtain ⟨h1, h2, h3⟩ := kw_names env pos kws
    have hc : backToKw pos (keywordEach (⟨nm, e, kp⟩ :: kws) env) = (nm, do let v ← eval e env; standAt pos; pure v) :: backToKw pos (keywordEach kws env) := rfl
    rw [hc]
    refine ⟨?_, ?_, ?_⟩
    · cases nm with
      | none => exact h1
      | some y => rw [List.filterMap_cons, List.filterMap_cons, h1]
    · rw [List.all_cons, List.all_cons, h2]
    · rw [List.any_cons, List.all_cons, h3]; cases nm <;> rfl
theorem kwFind_len {l : List (Nat × List Str × List Nat)} {n : Nat} {ks : List Str} {perm : List Nat} (h : kwFind l n ks = some perm) : (n, ks, perm) ∈ l := by
  unfold kwFind at h
  cases z : l.find? fun p => decide (p.1 = n) && decide (p.2.1 = ks) with
  | none => rw [z] at h; cases h
  | some p =>
    rw [z] at h
    cases h
    have h2 := List.find?_some z
    simp only [Bool.and_eq_true, decide_eq_true_eq] at h2
    obtain ⟨h3, h4⟩ := h2
    subst h3 h4
    exact List.mem_of_find?_eq_some z
theorem evL_len {f : Expr → EvF} : ∀ {es : List Expr} {σ : Sig} {S S' : Sto} {ds : List D}, evL f es σ S = .ok ds S' → ds.length = es.length
  | [], _, _, _, _, h => by cases h; rfl
  | e :: es, σ, S, S', ds, h => by
    have main : ((f e σ S).bind fun d S1 => (evL f es σ S1).bind fun ds S2 => .ok (d :: ds) S2) = .ok ds S' → ds.length = (e :: es).length := fun h => by
      obtain ⟨d, S1, h1, h2⟩ := bind_ok h
      obtain ⟨ds', S2, h3, h4⟩ := bind_ok h2
      cases h4
      rw [List.length_cons, List.length_cons, evL_len h3]
    cases e with
    | Starred _ _ => cases h
    | _ => exact main h
theorem evKw_len {f : Expr → EvF} : ∀ {es : List Keyword} {σ : Sig} {S S' : Sto} {ds : List D}, evKw f es σ S = .ok ds S' → ds.length = es.length
  | [], _, _, _, _, h => by cases h; rfl
  | e :: es, σ, S, S', ds, h => by
    obtain ⟨d, S1, h1, h2⟩ := bind_ok h
    obtain ⟨ds', S2, h3, h4⟩ := bind_ok h2
    cases h4
    rw [List.length_cons, List.length_cons, evKw_len h3]
theorem kws_len : ∀ {kws : List Keyword}, kws.all (·.arg.isSome) = true → (kws.filterMap (·.arg)).length = kws.length
  | [], _ => rfl
  | ⟨nm, e, kp⟩ :: kws, h => by
    rw [List.all_cons, Bool.and_eq_true] at h
    cases nm with
    | none => cases h.1
    | some y =>
      simp only [List.filterMap_cons, List.length_cons]
      rw [kws_len h.2]
/-- f(e, .., k = v, ..) -/
theorem callKw_ok (c : Ctx X G W k) {x : Str} {g : Str} {ps : List Str} {perm : List Nat} {args : List Expr} {kws : List Keyword} (hgl : Gl X x) (hx : G.glob x = some (.con g)) (hp : G.pars g = some ps) (hpl : plainN x = true) {f : Expr → EvF} (hf : ∀ e, PE X e (LE X.K W (f e))) (p pos : Pos) (hst : args.any isStar = false)
    (own : Bool) (hk : kws.all (·.arg.isSome) = true) (hperm : kwFind (G.kwp g) args.length (kws.filterMap (·.arg)) = some perm) :
    PE X (.Call (.Name x p) args kws pos) (LE X.K W fun σ S => (evL f args σ S).bind fun ds S1 => (evKw f kws σ S1).bind fun es S2 => if (permL perm (ds ++ es)).length = ps.length then G.callS own g (permL perm (ds ++ es)) S2 else .no) := by
  obtain ⟨fd, F, kp, hb, hm, kb⟩ := c.fns x g ps hx hp
  have hA := evL_ok (W := W) hf args
  have hK := evKw_ok (W := W) hf kws
  obtain ⟨n1, n2, n3⟩ := kw_names X.env pos kws
  -- the callee, its values laid
  have go : ∀ {pins : List (Addr × Obj)} {σ : L2.St} {H2 : Hp} {s2 : Shared} {Q : VK} {us ws : List Value} {vs zs : List V} {ρ2 : List Addr} {S2 : Sto} {ds es : List D}, Inv X pins σ H2 s2 → Vals vs us → Vals zs ws → R X.K ρ2 H2 S2 → IsAll X.K ρ2 H2 ds vs → IsAll X.K ρ2 H2 es zs → ds.length = args.length → es.length = kws.length →
      Post X.K W (Is X.K) ρ2 H2 σ (if (permL perm (ds ++ es)).length = ps.length then G.callS own g (permL perm (ds ++ es)) S2 else .no) Q →
      wpAny (model X.prog X.w) X.A (call (.ref (He.ga X.K g)) us (((backToKw pos (keywordEach kws X.env)).filterMap (·.1)).zip ws)) (EP X pins σ Q) X.xe s2 := fun {pins σ H2 s2 Q us ws vs zs ρ2 S2 ds es} I r1 r2 rr ia ib l1 l2 q => by
    split at q
    · rename_i hl
      rw [n1]
      have e1 : us.length = args.length := by rw [← r1.length, ← ia.length]; exact l1
      have e2 : ws.length = (kws.filterMap (·.arg)).length := by rw [← r2.length, ← ib.length, kws_len hk]; exact l2
      have b := kb _ _ _ hperm s2 us ws e1 e2
      have rn := F.run X.A X.stack s2 H2 ⟨us, (kws.filterMap (·.arg)).zip ws⟩ (permL perm (us ++ ws)) (permL perm (vs ++ zs)) Q (WE W σ) c.room c.gd I.env0 b (permL_vals (r1.append r2)) ⟨ρ2, S2, _, rr, permL_is (ia.append ib), callS_post c rr q⟩
      refine wpAny_call (codeAny_mono rn fun res s3 hq => ?_)
      match res, hq with
      | .error e, hq => exact passAt c.tk σ pins H2 s2 e s3 I hq
      | .ok (.ret u), hq => exact I.after hq
    · exact q.elim
  refine ⟨fun pins s σV H Q I q => ?_⟩
  refine wpAny_Call_Name_kw (ld_glob I hgl hm ?_ (plain_d hpl).1)
  obtain ⟨ρ, S, σD, r, hs, q⟩ := q
  dsimp only at q
  have hAll : (backToKw pos (keywordEach kws X.env)).all (·.1.isSome) = true := by rw [n2]; exact hk
  have hNone : (backToKw pos (keywordEach kws X.env)).any (·.1.isNone) = false := by rw [n3, hk]; rfl
  cases hev : evL f args σD S with
  | no => rw [hev] at q; exact q.elim
  | exc ex S1 =>
    cases args with
    | nil => cases hev
    | cons e es =>
      refine PySem.W.callWith_KW (h₀ := X.base) I.ok.mod.kin kp hAll (thn (hA.run pos pins s σV H (fun _ _ => False) I ⟨ρ, S, σD, r, hs, ?_⟩) fun us s1 ⟨vs, H1, I1, r1, z⟩ => z.elim) (by rw [noStars pos X.env hst, hNone]; rfl) (star_no (noStars1 hst).1 _ _)
      rw [hev] at q ⊢
      exact q
  | ok ds S1 =>
    have l1 := evL_len hev
    have q' : Post X.K W (Is X.K) ρ H σV ((evKw f kws σD S1).bind fun es S2 => if (permL perm (ds ++ es)).length = ps.length then G.callS own g (permL perm (ds ++ es)) S2 else .no) Q := by rw [hev] at q; exact q
    -- behind the values by place
    have rest : ∀ {H1 : Hp} {s1 : Shared} {us : List Value} {vs : List V} {ρ1 : List Addr}, Inv X pins σV H1 s1 → Vals vs us → R X.K ρ1 H1 S1 → Ext X.K ρ H ρ1 H1 → IsAll X.K ρ1 H1 ds vs → wpAny (model X.prog X.w) X.A (evalAll ((backToKw pos (keywordEach kws X.env)).map (·.2))) (fun ws s2 => X.base.objs.size ≤ X.base.objs.size ∧ X.K.In s2.heap ∧ wpAny (model X.prog X.w) X.A (call (.ref (He.ga X.K g)) us (((backToKw pos (keywordEach kws X.env)).filterMap (·.1)).zip ws)) (EP X pins σV Q) X.xe s2) X.xe s1 := fun {H1 s1 us vs ρ1} I1 r1 rr e1 ia => by
      have q1 := Post.ext e1 q'
      cases hkw : evKw f kws σD S1 with
      | no => rw [hkw] at q1; exact q1.elim
      | exc ex S2 =>
        refine thn (hK.run pos pins s1 σV H1 (fun _ _ => False) I1 ⟨ρ1, S1, σD, rr, hs.ext e1, ?_⟩) fun us s1 ⟨vs, H1, I1, r1, z⟩ => z.elim
        rw [hkw] at q1 ⊢
        exact q1
      | ok es S2 =>
        have l2 := evKw_len hkw
        have q2 : Post X.K W (Is X.K) ρ1 H1 σV (if (permL perm (ds ++ es)).length = ps.length then G.callS own g (permL perm (ds ++ es)) S2 else .no) Q := by rw [hkw] at q1; exact q1
        refine thn (hK.run pos pins s1 σV H1 (fun zs H2 => ∃ ρ2, R X.K ρ2 H2 S2 ∧ Ext X.K ρ1 H1 ρ2 H2 ∧ IsAll X.K ρ2 H2 es zs) I1 ⟨ρ1, S1, σD, rr, hs.ext e1, ?_⟩) fun ws s2 ⟨zs, H2, I2, r2, ρ2, rr2, e2, ib⟩ => ⟨Nat.le_refl _, I2.kIn, ?_⟩
        · rw [hkw]
          exact fun ρ2 H2 zs a b c => ⟨ρ2, a, b, c⟩
        · exact go I2 r1 r2 rr2 (ia.ext e2) ib l1 l2 (Post.ext e2 q2)
    cases args with
    | nil =>
      cases hev
      refine PySem.W.callWith_KW0 (h₀ := X.base) I.ok.mod.kin kp hAll ?_ (by rw [hNone]; rfl)
      exact thn (rest (us := []) (vs := []) I .nil r .refl .nil) fun ws s2 z => z.2
    | cons e es =>
      refine PySem.W.callWith_KW (h₀ := X.base) I.ok.mod.kin kp hAll (thn (hA.run pos pins s σV H (fun vs H1 => ∃ ρ1, R X.K ρ1 H1 S1 ∧ Ext X.K ρ H ρ1 H1 ∧ IsAll X.K ρ1 H1 ds vs) I ⟨ρ, S, σD, r, hs, ?_⟩) fun us s1 ⟨vs, H1, I1, r1, ρ1, rr, e1, ia⟩ => ?_) (by rw [noStars pos X.env hst, hNone]; rfl) (star_no (noStars1 hst).1 _ _)
      · rw [hev]
        exact fun ρ1 H1 vs a b c => ⟨ρ1, a, b, c⟩
      · exact thn (rest I1 r1 rr e1 ia) fun ws s2 z => z.2
theorem isiG_ok (c : Ctx X G W k) : CallR X (.builtin "isinstance") (rF X.K (fIsiG G)) := by
  intro pins s σ H xs us Q I r h
  obtain ⟨ρ, S, ds, rr, ia, q⟩ := h
  unfold fIsiG at q
  split at q
  · rename_i d C
    obtain ⟨v, w, rfl, i, j⟩ := ia.two
    obtain ⟨b, e, q2⟩ := PO.bl q rr
    unfold Is at j
    subst j
    unfold isiC at e
    split at e
    · rename_i hC
      have plain : ∀ d, Is X.K ρ H d v → (match tyN S d with
          | some T => if T ∈ kitTs then some false else none
          | none => none) = some b → wpAny (model X.prog X.w) X.A (call (.builtin "isinstance") us) (EP X pins σ Q) X.xe s := fun d i e => by
        cases z : tyN S d with
        | none => rw [z] at e; cases e
        | some T =>
          rw [z] at e
          dsimp only at e
          split at e
          · rename_i hT
            cases e
            exact call_isi pins s σ H _ us Q I r ⟨v, _, _, _, false, rfl, .own _, tyN_ok rr z i, c.kit T C hT hC, q2⟩
          · cases e
      split at e
      · rename_i ex ds
        split at e
        · rename_i hx1
          unfold Is at i
          obtain ⟨p, dd, rfl, hH, hA⟩ := i
          obtain ⟨oe, od, J, _⟩ := held_at I hH fun b hb => by
            rcases hA with ⟨_, h, _⟩ | ⟨_, _, w, _, h, h2, _⟩
            · rw [h] at hb; cases hb
            · rw [h] at hb; cases hb; exact ⟨_, h2⟩
          obtain ⟨u1, u2, rfl, r1, r2⟩ := vals2 r
          cases r1
          cases r2
          have E := c.exq _ hx1
          exact PySem.W.kia_one (exc_kit E) I.kIn J (c.kio _ _ _ e) (fun z => nomatch z) fun tk => ⟨.bl b, H, I.kept (t' := tk) fun _ _ z => z, rfl, q2⟩
        · cases e
      · exact plain _ i e
    · cases e
  · exact isi_ok pins s σ H xs us Q I r ⟨ρ, S, ds, rr, ia, q⟩
theorem sortedA_ok (hc : X.calm = true) (own : Bool) : CallR X (.builtin "sorted") (rF X.K (fSortA own)) := by
  intro pins s σ H vs us Q I r h
  obtain ⟨ρ, S, ds, rr, ia, q⟩ := h
  unfold fSortA at q
  split at q
  · rename_i r0 _ z
    exact sorted_ok own pins s σ H vs us Q I r ⟨ρ, S, _, rr, ia, by rw [z]; exact q⟩
  · obtain ⟨v, rfl, i⟩ := ia.one
    exact fSortK_ok hc own I r rr i q
  · exact q.elim
theorem bltF2_ok (c : Ctx X G W k) {x : Str} {f : List D → Sto → Out} (h : bltF2 x = some f) : x ≠ "__name__" ∧ ((∃ id, bootBuiltins x = some (.builtin id) ∧ CallR X (.builtin id) (rF X.K f)) ∨ ∃ T, bootBuiltins x = some (.type T) ∧ CallR X (.type T) (rF X.K f)) := by
  unfold bltF2 at h
  split at h
  · rename_i e; subst e; cases h; exact ⟨by decide, .inl ⟨"all", by decide +kernel, all_ok c.calm⟩⟩
  · split at h
    · rename_i e; subst e; cases h; exact ⟨by decide, .inl ⟨"any", by decide +kernel, any_ok c.calm⟩⟩
    · cases h
theorem bltF_ok (c : Ctx X G W k) {own : Bool} {x : Str} {f : List D → Sto → Out} (h : bltF own x = some f) : x ≠ "__name__" ∧ ((∃ id, bootBuiltins x = some (.builtin id) ∧ CallR X (.builtin id) (rF X.K f)) ∨ ∃ T, bootBuiltins x = some (.type T) ∧ CallR X (.type T) (rF X.K f)) := by
  unfold bltF at h
  split at h
  · rename_i e; subst e; cases h; exact ⟨by decide, .inl ⟨"len", by decide +kernel, len_ok⟩⟩
  · split at h
    · rename_i e; subst e; cases h; exact ⟨by decide, .inl ⟨"isinstance", by decide +kernel, isi_ok⟩⟩
    · split at h
      · rename_i e; subst e; cases h; exact ⟨by decide, .inr ⟨"int", by decide +kernel, int_ok⟩⟩
      · split at h
        · rename_i e; subst e; cases h; exact ⟨by decide, .inr ⟨"tuple", by decide +kernel, tuple_ok⟩⟩
        · split at h
          · rename_i e; subst e; cases h; exact ⟨by decide, .inr ⟨"list", by decide +kernel, list_ok own⟩⟩
          · split at h
            · rename_i e; subst e; cases h; exact ⟨by decide, .inl ⟨"repr", by decide +kernel, repr_ok c.gd c.hu⟩⟩
            · split at h
              · rename_i e; subst e; cases h; exact ⟨by decide, .inl ⟨"abs", by decide +kernel, abs_ok⟩⟩
              · split at h
                · rename_i e; subst e; cases h; exact ⟨by decide, .inl ⟨"min", by decide +kernel, minA_ok c.calm c.hu⟩⟩
                · split at h
                  · rename_i e; subst e; cases h; exact ⟨by decide, .inl ⟨"max", by decide +kernel, maxA_ok c.calm c.hu⟩⟩
                  · split at h
                    · rename_i e; subst e; cases h; exact ⟨by decide, .inl ⟨"sorted", by decide +kernel, sortedA_ok c.calm own⟩⟩
                    · split at h
                      · rename_i e; subst e; cases h; exact ⟨by decide, .inr ⟨"dict", by decide +kernel, fDict_ok c.calm c.hu own⟩⟩
                      · exact bltF2_ok c h
theorem bltF_some (own : Bool) (x : Str) : (bltF own x).isSome = (bltF true x).isSome := by
  unfold bltF
  repeat (first | rfl | split)
theorem bltG_ok (c : Ctx X G W k) {own : Bool} {x : Str} {f : List D → Sto → Out} (h : bltG G own x = some f) : (bltF true x).isSome = true ∧ x ≠ "__name__" ∧ ((∃ id, bootBuiltins x = some (.builtin id) ∧ CallR X (.builtin id) (rF X.K f)) ∨ ∃ T, bootBuiltins x = some (.type T) ∧ CallR X (.type T) (rF X.K f)) := by
  unfold bltG at h
  split at h
  · rename_i e
    subst e
    cases h
    exact ⟨by decide +kernel, by decide, .inl ⟨"isinstance", by decide +kernel, isiG_ok c⟩⟩
  · exact ⟨by rw [← bltF_some own, h]; rfl, bltF_ok c h⟩
theorem blt_ok (c : Ctx X G W k) {own : Bool} {x : Str} {h : List D → Sto → Out} (hgl : Gl X x) (hx : ∀ a, G.glob x ≠ some (.con a)) (hh : bltG G own x = some h) (hpl : plainN x = true) {f : Expr → EvF} (hf : ∀ e, PE X e (LE X.K W (f e))) (p pos : Pos) (e : Expr) (es : List Expr) (hst : (e :: es).any isStar = false) :
    PE X (.Call (.Name x p) (e :: es) [] pos) (LE X.K W fun σ S => (evL f (e :: es) σ S).bind fun ds S1 => ofO (h ds S1)) := by
  obtain ⟨hsome, hn, hr⟩ := bltG_ok c hh
  have hm := c.blt x (.inl hsome) hx
  have imp : ∀ σV H Q, LE X.K W (fun σ S => (evL f (e :: es) σ S).bind fun ds S1 => ofO (h ds S1)) σV H Q → tCB (rF X.K h) (LA X.K W (evL f (e :: es))) σV H Q := fun σV H Q q => by
    refine (Lft.bind (g := fun ds σ S1 => ofO (h ds S1)) q).mono fun vs H1 ⟨ρ1, S1, σ1, ds, rr, hs, ia, q1⟩ => ⟨ρ1, S1, ds, rr, ia, PO.of q1⟩
  rcases hr with ⟨id, hv, hc⟩ | ⟨T, hv, hc⟩
  · exact pe_mono (pe_callB hc hgl hm hv (evL_ok hf _) hn (plain_d hpl).1 (star_no (noStars1 hst).1 _ _) (noStars pos X.env (noStars1 hst).2)) imp
  · exact pe_mono (pe_callTy hc hgl hm hv (evL_ok hf _) hn (plain_d hpl).1 (star_no (noStars1 hst).1 _ _) (noStars pos X.env (noStars1 hst).2)) imp
/-- sorted(d.items()) -/
theorem items_ok (c : Ctx X G W k) {o : Expr} {ap cp p pos : Pos} {f : EvF} (hgl : Gl X "sorted") (hx : ∀ a, G.glob "sorted" ≠ some (.con a)) (hf : PE X o (LE X.K W f)) (hc : isCallE o = false) (hline : ap.endLine = cp.line) :
    PE X (.Call (.Name "sorted" p) [.Call (.Attribute o "items" ap) [] [] cp] [] pos) (LE X.K W fun σ S => (f σ S).bind fun d S1 => ofO (fItems d S1)) := by
  have hm := c.blt "sorted" (.inl (by decide +kernel)) hx
  have h1 := pe_bm0 (X := X) PySem.F.plainAttrs_dict PySem.F.slot_dict_items PySem.F.type_dict_items L2.DX.mt_itemsT hf (cpos := cp) (apos := ap) (by cases o <;> first | rfl | cases hc) (by rw [hline]; exact beq_self_eq_true _)
  refine pe_mono (pe_callB (sortIt_ok c.calm c.hu) hgl hm (by decide +kernel) (pa_cons h1 pa_nil rfl)) fun σV H Q q => ?_
  refine (Lft.bind (g := fun d σ S1 => ofO (fItems d S1)) q).mono fun x H1 ⟨ρ1, S1, σ1, d, rr, hs, ia, q1⟩ => ?_
  have q1 := PO.of q1
  unfold fItems at q1
  split at q1
  · rename_i k0
    split at q1
    · rename_i kvs z
      split at q1
      · rename_i hb
        obtain ⟨a, ks, rfl, ha, hx2, hk⟩ := rr.dtAt z ia
        refine ⟨.inr (.inr (.inl ⟨rfl, .inr ⟨ks, hx2⟩⟩)), a, ks, rfl, rfl, hx2, fun p hp => ?_⟩
        refine ⟨p, a, ρ1, S1, kvs, ks, rfl, upd_same, by rw [upd_ne (ne_of_none hx2 hp)]; exact hx2, rr.laid hp, ⟨hk.1, hk.2.ext (ext_new hp)⟩, hb, ?_⟩
        intro ρ3 H3 v r3 e3 i3
        exact q1 ρ3 H3 v r3 ((ext_new hp).trans e3) i3
      · exact q1.elim
    · exact q1.elim
  · exact q1.elim
theorem isDD_ok {ρ : List Addr} {H : Hp} {S : Sto} (r : R K ρ H S) {d : D} {v : V} (e : isDD S d = true) (i : Is K ρ H d v) : ∃ a, v = .ref a ∧ IsD H a := by
  unfold isDD at e
  rw [Bool.or_eq_true] at e
  rcases e with e | e
  · cases z : dkOf S d with
    | none => rw [z] at e; cases e
    | some kvs =>
      obtain ⟨p, ks, rfl, ha, _⟩ := dkOf_ok r z i
      exact ⟨p, rfl, .inl ⟨ks, .inl ha⟩⟩
  · cases z : dtOf S d with
    | none => rw [z] at e; cases e
    | some kvs =>
      obtain ⟨p, ks, rfl, ha, _⟩ := dtOf_ok r z i
      exact ⟨p, rfl, .inr ⟨ks, ha⟩⟩
/-- x.get(y, z) -/
theorem get2_ok (c : Ctx X G W k) {o a b : Expr} {ap cp : Pos} {f : Expr → EvF} (hf : ∀ e, PE X e (LE X.K W (f e))) (h1 : isStar a = false) (h2 : isStar b = false) (hc : isCallE o = false) (hline : ap.endLine = cp.line) :
    PE X (.Call (.Attribute o "get" ap) [a, b] [] cp) (LE X.K W fun σ S => (f o σ S).bind fun x S1 => if isDD S1 x = true then (f a σ S1).bind fun y S2 => (f b σ S2).bind fun z S3 => ofO (get2 x y z S3) else .no) := by
  have hu := c.hu
  refine pe_mono (pe_dget2 (by omega) (hf o) (hf a) (hf b) ⟨(by cases o <;> first | rfl | cases hc), (by rw [star_no h1, star_no h2]; rfl), (by rw [hline]; exact beq_self_eq_true _), (by rw [star_no h1, star_no h2]; rfl)⟩) fun σV H Q q => ?_
  refine (Lft.bind (g := fun x σ S1 => if isDD S1 x = true then (f a σ S1).bind fun y S2 => (f b σ S2).bind fun z S3 => ofO (get2 x y z S3) else .no) q).mono fun x H1 ⟨ρ1, S1, σ1, d, r1, hs1, i1, q1⟩ => ?_
  split at q1
  · rename_i hd
    obtain ⟨p, rfl, hD⟩ := isDD_ok r1 hd i1
    refine ⟨p, rfl, hD, ρ1, S1, σ1, r1, hs1, (Post.bind q1).mono fun y H2 ⟨ρ2, S2, dy, r2, e2, i2, q2⟩ => ?_⟩
    refine ⟨ρ2, S2, σ1, r2, hs1.ext e2, (Post.bind q2).mono fun z H3 ⟨ρ3, S3, dz, r3, e3, i3, q3⟩ => ?_⟩
    have q3 := PO.of q3
    unfold get2 at q3
    cases zg : dgetA S3 d dy with
    | none => rw [zg] at q3; exact q3.elim
    | some o =>
      rw [zg] at q3
      obtain ⟨p2, w, ep, g, io⟩ := dget_ok r3 zg ((i1.ext e2).ext e3) (i2.ext e3)
      cases ep
      refine ⟨w, g, PO.val q3 r3 ?_⟩
      cases o with
      | none => cases w with
        | none => exact i3
        | some w => exact io.elim
      | some d0 => cases w with
        | none => exact io.elim
        | some w => exact io
  · exact q1.elim
/-- methods of a list -/
theorem metF_ok {m : Str} {h : Nat → List D → Sto → Out} (hh : metF m = some h) : ∃ id, Slot "list" m id ∧ typeOf (.builtin id) = pure (.type "method_descriptor") ∧ MtR X id (rM X.K h) := by
  unfold metF at hh
  split at hh
  · rename_i e; subst e; cases hh; exact ⟨_, PySem.F.slot_list_append, PySem.F.type_list_append, append_ok⟩
  · split at hh
    · rename_i e; subst e; cases hh; exact ⟨_, PySem.F.slot_list_pop, PySem.F.type_list_pop, pop_ok⟩
    · cases hh
end
end Dp
end
section
set_option Elab.async false
set_option linter.all false
set_option maxRecDepth 100000
set_option maxHeartbeats 4000000
namespace Dp
open PySem PySem.Spec PyProof.Rows L2
section
variable {K : PySem.W.Frag} {W : WX} {X : Cx} {G : Gam} {k : Nat}
/-! ### displays of dicts -/
def pairsT (K : PySem.W.Frag) (W : WX) (f : Expr → EvF) : List (Option Expr) → List Expr → List (TE × TE)
  | some a :: ks, v :: vs => (LE K W (f a), LE K W (f v)) :: pairsT K W f ks vs
  | _, _ => []
theorem pairs_pps {f : Expr → EvF} (hf : ∀ e, PE X e (LE X.K W (f e))) (pos : Pos) : ∀ {ks : List (Option Expr)} {vs : List Expr}, ks.length = vs.length → ks.all (·.isSome) = true → PPs X pos ks vs (pairsT X.K W f ks vs)
  | [], [], _, _ => pps_nil
  | [], _ :: _, h, _ => by cases h
  | _ :: _, [], h, _ => by cases h
  | none :: _, _ :: _, _, h => by cases h
  | some a :: ks, v :: vs, h, h2 => pps_cons (hf a) (hf v) (pairs_pps hf pos (Nat.succ.inj h) h2)
def relP (K : PySem.W.Frag) : List Addr → Hp → List (Key × D) → List (V × V) → Prop := fun ρ H kvs ps => ∃ ks : List (Key × V), IsKv K ρ H kvs ks ∧ ps = ks.map fun p => (kV p.1, p.2)
theorem pairs_imp {f : Expr → EvF} : ∀ {ks : List (Option Expr)} {vs : List Expr} {σV : L2.St} {H : Hp} {Q : List (V × V) → Hp → Prop}, Lft K W (relP K) (evPairs f ks vs) σV H Q → tPairs (pairsT K W f ks vs) σV H Q
  | [], [], _, H, _, ⟨ρ, S, σ, r, hs, q⟩ => q ρ H _ r .refl ⟨[], .nil, rfl⟩
  | [], _ :: _, _, _, _, ⟨_, _, _, _, _, q⟩ => q.elim
  | none :: _, [], _, _, _, ⟨_, _, _, _, _, q⟩ => q.elim
  | some _ :: _, [], _, _, _, ⟨_, _, _, _, _, q⟩ => q.elim
  | none :: _, _ :: _, _, _, _, ⟨_, _, _, _, _, q⟩ => q.elim
  | some a :: ks, v :: vs, σV, H, Q, q => by
    have q : Lft K W (relP K) (fun σ S => (f a σ S).bind fun kd S1 => (f v σ S1).bind fun vd S2 => (evPairs f ks vs σ S2).bind fun r S3 => match keyOf kd with
      | some key => .ok ((key, vd) :: r) S3
      | none => .no) σV H Q := q
    show LE K W (f a) σV H fun x H1 => LE K W (f v) σV H1 fun y H2 => tPairs (pairsT K W f ks vs) σV H2 fun ps H3 => Q ((x, y) :: ps) H3
    refine (Lft.bind (g := fun kd σ S1 => (f v σ S1).bind fun vd S2 => (evPairs f ks vs σ S2).bind fun r S3 => match keyOf kd with
      | some key => .ok ((key, vd) :: r) S3
      | none => .no) q).mono fun x H1 ⟨ρ1, S1, σ1, kd, r1, hs1, i1, q1⟩ => ?_
    refine ⟨ρ1, S1, σ1, r1, hs1, (Post.bind q1).mono fun y H2 ⟨ρ2, S2, vd, r2, e2, i2, q2⟩ => ?_⟩
    refine pairs_imp ⟨ρ2, S2, σ1, r2, hs1.ext e2, (Post.bind q2).mono fun ps H3 ⟨ρ3, S3, rs, r3, e3, ⟨kk, i3, hp⟩, q3⟩ => ?_⟩
    cases z : keyOf kd with
    | none => rw [z] at q3; exact q3.elim
    | some key =>
      rw [z] at q3
      refine q3 ρ3 H3 _ r3 .refl ⟨(key, y) :: kk, .cons (i2.ext e3) i3, ?_⟩
      rw [hp, key_is z i1]
      rfl
theorem dict_ok0 {f : Expr → EvF} (hf : ∀ e, PE X e (LE X.K W (f e))) {ks : List (Option Expr)} {vs : List Expr} (pos : Pos) (h0 : ks ≠ []) (hl : ks.length = vs.length) (h15 : ks.length ≤ 15) (ha : ks.all (·.isSome) = true) :
    PE X (.Dict ks vs pos) (LE X.K W fun σ S => (evPairs f ks vs σ (S ++ [.dk []])).bind fun kvs S1 => match S1[S.length]? with
        | some (.dk []) => if kvs.length ≤ 15 then .ok (.ref S.length) (S1.set S.length (.dk (mergeD [] kvs))) else .no
        | _ => .no) := by
  refine pe_mono (pe_disp (pairs_pps (W := W) hf pos hl ha) ha hl h0 h15) fun σV H Q ⟨ρ, S, σ, r, hs, q⟩ p hp => ?_
  have hm : MR X.K (ρ ++ [p]) (upd H p (.dK [])) p (.dk []) := ⟨[], upd_same, IsKv.nil⟩
  have q := Post.ext (ext_push (K := X.K) (ρ := ρ) (o := .dK []) hp) q
  refine pairs_imp ⟨ρ ++ [p], _, σ, r.push hp hm, hs.ext (ext_push hp), (Post.bind q).mono fun ps H2 ⟨ρ2, S2, kvs, r2, e2, ⟨kk, i2, hps⟩, q2⟩ => ?_⟩
  have hp2 : ρ2[S.length]? = some p := e2.at (by rw [← r.len, push_at])
  split at q2
  · rename_i z
    obtain ⟨a, ks0, ea, ha2, hx, hk⟩ := r2.dkAt z (v := .ref p) (by unfold Is; exact ⟨p, hp2, rfl⟩)
    cases ea
    rw [hk.nil_eq] at hx
    split at q2
    · rename_i h15
      refine ⟨hx, kk, hps, by rw [i2.length]; exact h15, ?_⟩
      refine q2 ρ2 _ _ (r2.write hx (.inr (.inl ⟨_, rfl⟩)) hp2 (show MR X.K ρ2 (upd H2 p (.dK (mergeK [] kk))) p (.dk (mergeD [] kvs)) from ⟨_, upd_same, (IsKv.merge i2 .nil).ext (ext_write hx (.inr (.inl ⟨_, rfl⟩)) hp2)⟩)) (ext_write hx (.inr (.inl ⟨_, rfl⟩)) hp2) ?_
      unfold Is
      exact ⟨p, hp2, rfl⟩
    · exact q2.elim
  · exact q2.elim
theorem dict_ok (c : Ctx X G W k) (own : Bool) {f : Expr → EvF} (hf : ∀ e, PE X e (LE X.K W (f e))) {ks : List (Option Expr)} {vs : List Expr} (pos : Pos) (h0 : ks ≠ []) (hl : ks.length = vs.length) (h15 : ks.length ≤ 15) (ha : ks.all (·.isSome) = true) :
    PE X (.Dict ks vs pos) (LE X.K W fun σ S => (evPairs f ks vs σ (S ++ [.dk []])).bind fun kvs S1 => match S1[S.length]? with
        | some (.dk []) => if kvs.length ≤ 15 then (if own = true then .ok (.ref S.length) (S1.set S.length (.dk (mergeD [] kvs))) else scope G.kp S (.ok (.ref S.length) (S1.set S.length (.dk (mergeD [] kvs))))) else .no
        | _ => .no) := by
  refine pe_mono (dict_ok0 hf pos h0 hl h15 ha) fun σV H Q ⟨ρ, S, σ, r, hs, q⟩ => ⟨ρ, S, σ, r, hs, ?_⟩
  dsimp only at q
  dsimp only
  cases z : evPairs f ks vs σ (S ++ [.dk []]) with
  | no => rw [z] at q; exact q
  | exc e S1 => rw [z] at q; exact q
  | ok kvs S1 =>
    rw [z] at q
    have q : Post X.K W (Is X.K) ρ H σV (match S1[S.length]? with
        | some (.dk []) => if kvs.length ≤ 15 then (if own = true then .ok (.ref S.length) (S1.set S.length (.dk (mergeD [] kvs))) else scope G.kp S (.ok (.ref S.length) (S1.set S.length (.dk (mergeD [] kvs))))) else .no
        | _ => .no) Q := q
    show Post X.K W (Is X.K) ρ H σV (match S1[S.length]? with
        | some (.dk []) => if kvs.length ≤ 15 then .ok (.ref S.length) (S1.set S.length (.dk (mergeD [] kvs))) else .no
        | _ => .no) Q
    split at q
    · split at q
      · rename_i z1 z2
        simp only [if_pos z2]
        split at q
        · exact q
        · exact scope_post c.kpo r q
      · exact q.elim
    · exact q.elim
/-- a[::-1] -/
theorem rev_ok (own : Bool) {a st : Expr} {f : EvF} {g : Sig → Sto → Res (Option Int)} {pos p2 : Pos} (ha : PE X a (LE X.K W f)) (hg : L2.PO X (some st) (Lft X.K W (fun _ _ (a b : Option Int) => a = b) g)) :
    PE X (.Subscript a (.Slice none none (some st) p2) pos) (LE X.K W fun σ S => (f σ S).bind fun x S1 => (g σ S1).bind fun c S2 => if c = some (-1) then ofO (revD own x S2) else .no) := by
  refine ⟨fun pins s σ H Q I q => ?_⟩
  refine PyProof.Rows.Subscript_ (thn (ha.run pins s σ H _ I (Lft.bind (g := fun x σ S1 => (g σ S1).bind fun c S2 => if c = some (-1) then ofO (revD own x S2) else .no) q)) fun v s1 ⟨x, H1, I1, r1, ρ1, S1, σ1, d, rr, hs, i1, q1⟩ => ?_)
  refine wpAny_Slice ?_
  rw [evalPart_none]
  refine wpAny_pure (wpAny_pure ?_)
  refine thn (hg.run pins s1 σ H1 (fun o H2 => ∃ ρ2 S2, R X.K ρ2 H2 S2 ∧ Ext X.K ρ1 H1 ρ2 H2 ∧ Post X.K W (Is X.K) ρ2 H2 σ (if o = some (-1) then ofO (revD own d S2) else .no) Q) I1 ⟨ρ1, S1, σ1, rr, hs, (Post.bind q1).mono fun c H2 ⟨ρ2, S2, c', r2, e2, hc, q2⟩ => ?_⟩) fun vk s2 ⟨o, H2, I2, pk, ρ2, S2, r2, e2, q2⟩ => ?_
  · subst hc
    exact ⟨ρ2, S2, r2, e2, q2⟩
  · split at q2
    · rename_i hc
      subst hc
      have I4 : Inv X pins σ H2 { s2 with heap := s2.heap.push { cls := .type "slice", data := .fields #[.none, .none, vk] } } := I2.kept (t' := s2.toks) fun b ob q => Heap.get?_push_of_some _ q
      obtain ⟨T, id, hT, ht, hgi⟩ := revD_ok own I4 r1 (Heap.IsSliceOf.new ..) pk r2 (i1.ext e2) (PO.of q2)
      exact PyProof.Rows.tail_any (ops := [v, .ref s2.heap.objs.size]) ht hT hgi (by with_unfolding_all rfl)
    · exact q2.elim
/-! ### the main rule -/
theorem list_ok' (own : Bool) {es : List Expr} {f : EvL} {pos : Pos} (h : PA X es (LA X.K W f)) : PE X (.List es pos) (LE X.K W fun σ S => (f σ S).bind fun ds S1 => if ds.length ≤ sizeLine then ofO (newL own ds S1) else .no) := by
  refine pe_mono (pe_lst h) fun σV H Q q => ?_
  refine (Lft.bind (g := fun ds σ S1 => if ds.length ≤ sizeLine then ofO (newL own ds S1) else .no) q).mono fun vs H1 ⟨ρ1, S1, σ1, ds, rr, hs, ia, q1⟩ => ?_
  split at q1
  · rename_i hz
    exact ⟨by rw [← ia.length]; exact hz, fun p hp => PO.newL (PO.of q1) rr ia hp⟩
  · exact q1.elim
theorem keysL_is {ρ : List Addr} {H : Hp} : ∀ {ds : List D} {ks : List Key} {vs : List V}, keysL ds = some ks → IsAll K ρ H ds vs → vs = ks.map kV
  | [], ks, vs, e, h => by cases e; rw [h.nil_eq]; rfl
  | d :: ds, ks, vs, e, h => by
    obtain ⟨x, xs, rfl, a, b⟩ := h.uncons
    unfold keysL at e
    split at e
    · rename_i k1 ks1 e1 e2
      cases e
      rw [key_is e1 a, keysL_is e2 b]
      rfl
    · cases e
theorem tuple_ok' (key : Bool) {es : List Expr} {f : EvL} {j : Nat} {pos : Pos} (h : PA X es (LA X.K W f)) : PE X (.Tuple es j pos) (LE X.K W fun σ S => (f σ S).bind fun ds S1 => if ds.length ≤ sizeLine then tupR key ds S1 else .no) := by
  refine pe_mono (pe_tup h) fun σV H Q q => ?_
  refine (Lft.bind (g := fun ds σ S1 => if ds.length ≤ sizeLine then tupR key ds S1 else .no) q).mono fun vs H1 ⟨ρ1, S1, σ1, ds, rr, hs, ia, q1⟩ => ?_
  split at q1
  · rename_i hz
    refine ⟨by rw [← ia.length]; exact hz, fun p hp => ?_⟩
    unfold tupR at q1
    split at q1
    · split at q1
      · rename_i ks e
        rw [keysL_is e ia]
        refine q1 ρ1 _ _ (rr.laid hp) (ext_new hp) ?_
        unfold Is
        exact ⟨p, rfl, upd_same⟩
      · exact q1.elim
    · exact PO.tup (show PO X.K ρ1 H1 (some (.tup ds, S1)) Q from q1) rr ia hp
  · exact q1.elim
theorem ofO_post {ρ : List Addr} {H : Hp} {σV : L2.St} {o : Out} {Q : VK} (h : PO K ρ H o Q) : Post K W (Is K) ρ H σV (ofO o) Q := by
  cases o with
  | some p => exact h
  | none => exact h
theorem slice_ok (own : Bool) {a : Expr} {f : EvF} {lo hi : Option Expr} {g h : Sig → Sto → Res (Option Int)} {pos p2 : Pos} (ha : PE X a (LE X.K W f)) (hl : L2.PO X lo (Lft X.K W (fun _ _ (a b : Option Int) => a = b) g)) (hh : L2.PO X hi (Lft X.K W (fun _ _ (a b : Option Int) => a = b) h)) :
    PE X (.Subscript a (.Slice lo hi none p2) pos) (LE X.K W fun σ S => (f σ S).bind fun x S1 => (g σ S1).bind fun l S2 => (h σ S2).bind fun u S3 => ofO (slD own x l u S3)) := by
  refine pe_mono (pe_slice (slD_ok own) ha hl hh) fun σV H Q q => ?_
  refine (Lft.bind (g := fun x σ S1 => (g σ S1).bind fun l S2 => (h σ S2).bind fun u S3 => ofO (slD own x l u S3)) q).mono fun x H1 ⟨ρ1, S1, σ1, d, r1, hs1, i1, q1⟩ => ?_
  refine ⟨ρ1, S1, σ1, r1, hs1, (Post.bind q1).mono fun l H2 ⟨ρ2, S2, l', r2, e2, hl', q2⟩ => ?_⟩
  refine ⟨ρ2, S2, σ1, r2, hs1.ext e2, (Post.bind q2).mono fun u H3 ⟨ρ3, S3, u', r3, e3, hu', q3⟩ => ?_⟩
  subst hl' hu'
  exact ⟨ρ3, S3, d, r3, (i1.ext e2).ext e3, PO.of q3⟩
theorem meth_ok {o a : Expr} {m : Str} {h : Nat → List D → Sto → Out} (hh : metF m = some h) {f : Expr → EvF} (hf : ∀ e, PE X e (LE X.K W (f e))) (hst : isStar a = false) (hc : isCallE o = false) {ap cp : Pos} (hline : ap.endLine = cp.line) :
    PE X (.Call (.Attribute o m ap) [a] [] cp) (LE X.K W fun σ S => (f o σ S).bind fun x S1 => match x with
        | .ref n => (match lstOf S1 n with
          | some _ => (evL f [a] σ S1).bind fun ds S2 => ofO (h n ds S2)
          | none => .no)
        | _ => .no) := by
  obtain ⟨id, h1, h2, h3⟩ := metF_ok (X := X) hh
  refine pe_mono (pe_bm PySem.F.plainAttrs_list h1 h2 h3 (hf o) (evL_ok hf [a]) (by cases o <;> first | rfl | cases hc) (by rw [star_no hst]; rfl) (by rw [hline]; exact beq_self_eq_true _) (star_no hst _ _) rfl) fun σV H Q q => ?_
  refine (Lft.bind (g := fun x σ S1 => match x with
        | .ref n => (match lstOf S1 n with
          | some _ => (evL f [a] σ S1).bind fun ds S2 => ofO (h n ds S2)
          | none => .no)
        | _ => .no) q).mono fun x H1 ⟨ρ1, S1, σ1, d, r1, hs1, i1, q1⟩ => ?_
  cases d with
  | ref n =>
    dsimp only at q1
    cases z : lstOf S1 n with
    | none => rw [z] at q1; exact q1.elim
    | some ds =>
      rw [z] at q1
      obtain ⟨p, xs, rfl, _, hp, _⟩ := r1.lstRd z i1
      refine ⟨.inl ⟨rfl, xs, hp⟩, ρ1, S1, σ1, r1, hs1, (Post.bind q1).mono fun vs H2 ⟨ρ2, S2, es, r2, e2, i2, q2⟩ => ?_⟩
      exact ⟨ρ2, S2, n, es, r2, i1.ext e2, i2, PO.of q2⟩
  | _ => exact q1.elim
theorem ini_ok (c : Ctx X G W k) {x g n : Str} (hgl : Gl X x) (hx : G.glob x = some (.con g)) (ha : G.attr g = some (some n)) (hpl : plainN x = true) {f : Expr → EvF} (hf : ∀ e, PE X e (LE X.K W (f e))) (p pos : Pos) (e : Expr) (hst : isStar e = false) :
    PE X (.Call (.Name x p) [e] [] pos) (LE X.K W fun σ S => (evL f [e] σ S).bind fun ds S1 => mkX g n ds S1) := by
  refine ⟨fun pins s σV H Q I q => (pe_ini (c.ini x g n hx ha) (c.room.mono (by omega)) hgl (plain_d hpl).1 (evL_ok hf [e]) hst).run pins s σV H Q I ?_⟩
  refine (Lft.bind (g := fun ds σ S1 => mkX g n ds S1) q).mono fun vs H1 ⟨ρ1, S1, σ1, ds, r, hs, ia, q1⟩ => ?_
  match ds, ia, q1 with
  | [d], ia, q1 =>
    obtain ⟨v, vs', rfl, i, i2⟩ := ia.uncons
    rw [i2.nil_eq]
    refine ⟨v, rfl, fun e d' he hd hne => ?_⟩
    have hd2 : upd H1 e (HeldO (.ref (He.ga X.K g)) (some d') e) d' = none := by rw [upd_ne hne]; exact hd
    have x1 : Ext X.K ρ1 H1 ρ1 (upd H1 e (HeldO (.ref (He.ga X.K g)) (some d') e)) := ext_new he
    have x2 : Ext X.K ρ1 (upd H1 e (HeldO (.ref (He.ga X.K g)) (some d') e)) ρ1 (upd (upd H1 e (HeldO (.ref (He.ga X.K g)) (some d') e)) d' (.xd [(n, v)])) := ext_new hd2
    refine q1 ρ1 _ _ ((r.laid he).laid hd2) (x1.trans x2) ?_
    unfold Is
    exact ⟨e, some d', rfl, by rw [upd_ne (Ne.symm hne), upd_same], .inr ⟨n, d', v, rfl, rfl, upd_same, .cons (i.ext (x1.trans x2)) .nil⟩⟩
  | [], _, q1 => exact q1.elim
  | _ :: _ :: _, _, q1 => exact q1.elim
theorem chain_ok (hu : X.A.units + 65 < cLine) {a b d : Expr} {op op' : CmpOp} {f g h : EvF} {pos : Pos} (hm : lastMarks [op, op'] [b, d] = false) (ha : PE X a (LE X.K W f)) (hb : PE X b (LE X.K W g)) (hd : PE X d (LE X.K W h)) :
    PE X (.Compare a [op, op'] [b, d] pos) (LE X.K W fun σ S => (f σ S).bind fun x S1 => (g σ S1).bind fun y S2 => match cmpD op x y S2 with
      | some true => (h σ S2).bind fun z S3 => ofO (oB (cmpD op' y z S3) S3)
      | some false => .ok (.bl false) S2
      | none => .no) := by
  refine pe_mono (pe_chain (cmpD_ok hu op) (cmpD_ok hu op') ha hb hd hm) fun σV H Q q => ?_
  refine (Lft.bind (g := fun x σ S1 => (g σ S1).bind fun y S2 => match cmpD op x y S2 with
      | some true => (h σ S2).bind fun z S3 => ofO (oB (cmpD op' y z S3) S3)
      | some false => Res.ok (D.bl false) S2
      | none => .no) q).mono fun x H1 ⟨ρ1, S1, σ1, dx, r1, hs1, i1, q1⟩ => ?_
  refine ⟨ρ1, S1, σ1, r1, hs1, (Post.bind q1).mono fun y H2 ⟨ρ2, S2, dy, r2, e2, i2, q2⟩ => ?_⟩
  refine ⟨ρ2, S2, dx, dy, r2, i1.ext e2, i2, ?_⟩
  cases z : cmpD op dx dy S2 with
  | none => rw [z] at q2; exact q2.elim
  | some c =>
    rw [z] at q2
    show PO X.K ρ2 H2 (oB (cmpD op dx dy S2) S2) _
    rw [z]
    intro ρ3 H3 v r3 e3 i3
    refine ⟨c, i3.bl_eq, ?_⟩
    cases c with
    | false => exact iteF (q2 ρ3 H3 _ r3 e3 Is.bl')
    | true =>
      refine iteT ⟨ρ3, S2, σ1, r3, (hs1.ext e2).ext e3, (Post.bind (Post.ext e3 q2)).mono fun w H4 ⟨ρ4, S4, dz, r4, e4, i4, q4⟩ => ?_⟩
      exact ⟨ρ4, S4, dy, dz, r4, (i2.ext e3).ext e4, i4, PO.of q4⟩
theorem oT_post {ρ : List Addr} {H : Hp} {σV : L2.St} {o : Option Bool} {S : Sto} {Q : Bool → Hp → Prop} (r : R K ρ H S) (q : Post K W relB ρ H σV (oT o S) Q) : PO K ρ H (oB o S) (fun x H' => ∃ k, x = .bl k ∧ Q k H') := by
  cases o with
  | none => exact q.elim
  | some b => exact fun ρ3 H3 v r3 e3 i3 => ⟨b, i3.bl_eq, q ρ3 H3 b r3 e3 rfl⟩
theorem chainT_ok (hu : X.A.units + 65 < cLine) {a b d : Expr} {op op' : CmpOp} {f g h : EvF} {pos : Pos} (hm : lastMarks [op, op'] [b, d] = false) (ha : PE X a (LE X.K W f)) (hb : PE X b (LE X.K W g)) (hd : PE X d (LE X.K W h)) :
    PT X (.Compare a [op, op'] [b, d] pos) (LT X.K W fun σ S => (f σ S).bind fun x S1 => (g σ S1).bind fun y S2 => match cmpD op x y S2 with
      | some true => (h σ S2).bind fun z S3 => oT (cmpD op' y z S3) S3
      | some false => .ok false S2
      | none => .no) := by
  refine pt_mono (pt_chain (cmpD_ok hu op) (cmpD_ok hu op') ha hb hd hm) fun σV H Q q => ?_
  refine (Lft.bind (g := fun x σ S1 => (g σ S1).bind fun y S2 => match cmpD op x y S2 with
      | some true => (h σ S2).bind fun z S3 => oT (cmpD op' y z S3) S3
      | some false => Res.ok false S2
      | none => .no) q).mono fun x H1 ⟨ρ1, S1, σ1, dx, r1, hs1, i1, q1⟩ => ?_
  refine ⟨ρ1, S1, σ1, r1, hs1, (Post.bind q1).mono fun y H2 ⟨ρ2, S2, dy, r2, e2, i2, q2⟩ => ?_⟩
  refine ⟨ρ2, S2, dx, dy, r2, i1.ext e2, i2, ?_⟩
  cases z : cmpD op dx dy S2 with
  | none => rw [z] at q2; exact q2.elim
  | some c =>
    rw [z] at q2
    show PO X.K ρ2 H2 (oB (cmpD op dx dy S2) S2) _
    rw [z]
    intro ρ3 H3 v r3 e3 i3
    refine ⟨c, i3.bl_eq, ?_⟩
    cases c with
    | false => exact iteF ⟨false, rfl, q2 ρ3 H3 _ r3 e3 rfl⟩
    | true =>
      refine iteT ⟨ρ3, S2, σ1, r3, (hs1.ext e2).ext e3, (Post.bind (Post.ext e3 q2)).mono fun w H4 ⟨ρ4, S4, dz, r4, e4, i4, q4⟩ => ?_⟩
      exact ⟨ρ4, S4, dy, dz, r4, (i2.ext e3).ext e4, i4, oT_post r4 q4⟩
/-- THE RULE for expressions -/
theorem ev_all (G : Gam) (k : Nat) : ∀ n : Nat, (∀ (X : Cx) (W : WX), Ctx X G W k → ∀ e, PE X e (LE X.K W (ev G n X.env.scope e))) ∧ (∀ (X : Cx) (W : WX), Ctx X G W k → ∀ e, PT X e (LT X.K W (tv G n X.env.scope e)))
  | 0 => ⟨fun X W c e => pe_no fun _ _ => by unfold ev; rfl, fun X W c e => pt_no fun _ _ => by unfold tv; rfl⟩
  | n + 1 => by
    obtain ⟨ihE, ihT⟩ := ev_all G k n
    have main : ∀ (X : Cx) (W : WX), Ctx X G W k → ∀ e, PE X e (LE X.K W (ev G (n + 1) X.env.scope e)) := fun X W c e => by
      have hE := ihE X W c
      have hT := ihT X W c
      unfold ev
      split
      · exact name_ok c
      · exact const_ok
      · exact op2_ok rfl rfl (fun a b => pe_op (binD_ok _ _) a b) (hE _) (hE _)
      · rename_i a pos
        refine pe_mono (pe_un un_neg (hE a)) fun σV H Q q => ?_
        refine (Lft.bind (g := fun x σ S1 => match x with
          | .int i => Res.ok (D.int (-i)) S1
          | _ => .no) q).mono fun x H1 ⟨ρ1, S1, σ1, d, r1, hs1, i1, q1⟩ => ?_
        cases d with
        | int i => exact ⟨i, i1.int_eq, q1.val r1 Is.int'⟩
        | _ => exact q1.elim
      · rename_i a pos
        refine pe_mono (pe_not (hE a)) fun σV H Q q => ?_
        refine (Lft.bind (g := fun x σ S1 => match x with
          | .bl b => Res.ok (D.bl (!b)) S1
          | _ => .no) q).mono fun x H1 ⟨ρ1, S1, σ1, d, r1, hs1, i1, q1⟩ => ?_
        cases d with
        | bl b => exact ⟨b, i1.bl_eq, q1.val r1 Is.bl'⟩
        | _ => exact q1.elim
      · rename_i a op b pos
        by_cases hm : behindInMarks op b = true
        · exact pe_no fun σ S => if_pos hm
        · simp only [if_neg hm]
          exact op2_ok rfl rfl (fun a' b' => pe_cmpR (cmpD_ok c.hu5 op) a' b' (by simpa using hm)) (hE _) (hE _)
      · rename_i a op op' b d pos
        by_cases hm : lastMarks [op, op'] [b, d] = true
        · exact pe_no fun σ S => if_pos hm
        · simp only [if_neg hm]
          exact chain_ok c.hu5 (by simpa using hm) (hE _) (hE _) (hE _)
      · exact evBool_ok hE _ _ _
      · rename_i t a b pos
        refine pe_mono (pe_ifExp (hT t) (hE a) (hE b)) fun σV H Q q => ?_
        refine (Lft.bind (rel := relB) (g := fun t σ S1 => if t = true then ev G n X.env.scope a σ S1 else ev G n X.env.scope b σ S1) q).mono fun t' H1 ⟨ρ1, S1, σ1, d, r1, hs1, i1, q1⟩ => ?_
        obtain rfl : d = t' := i1
        cases d with
        | true => exact iteT ⟨ρ1, S1, σ1, r1, hs1, q1⟩
        | false => exact iteF ⟨ρ1, S1, σ1, r1, hs1, q1⟩
      · exact tuple_ok' _ (evL_ok hE _)
      · exact list_ok' _ (evL_ok hE _)
      · rename_i ks vs pos
        cases ks with
        | nil =>
          cases vs with
          | nil =>
            by_cases hT : G.own ⟨pos.line, pos.col, pos.endLine, pos.endCol + 1000000⟩ = true
            · simp only [if_pos hT]
              refine pe_mono pe_dnewT fun σV H Q ⟨ρ, S, σ, r, hs, q⟩ p hp => ?_
              exact PO.new (m := .dt []) (show PO X.K ρ H (some (.ref S.length, S ++ [.dt []])) Q from q) r hp ⟨[], upd_same, IsKv.nil⟩
            simp only [if_neg hT]
            refine pe_mono pe_dnewK fun σV H Q ⟨ρ, S, σ, r, hs, q⟩ p hp => ?_
            have q := PO.of q
            unfold newD at q
            split at q
            · exact PO.new q r hp ⟨[], upd_same, IsKv.nil⟩
            · refine q ρ _ _ (r.laid hp) (ext_new hp) ?_
              have np : p ∉ ρ := fun z => by obtain ⟨u, e, _⟩ := r.tracked z; rw [hp] at e; cases e
              unfold Is
              exact ⟨p, [], rfl, upd_same, np, rfl, .nil⟩
          | cons _ _ => exact pe_no fun _ _ => rfl
        | cons a ks =>
          by_cases hc : (a :: ks).length = vs.length ∧ (a :: ks).length ≤ 15 ∧ (a :: ks).all (·.isSome) = true
          · simp only [if_pos hc]
            exact dict_ok c _ hE pos (by simp) hc.1 hc.2.1 hc.2.2
          · exact pe_no fun σ S => if_neg hc
      · exact slice_ok _ (hE _) (evPart_ok hE _) (evPart_ok hE _)
      · exact rev_ok _ (hE _) (evPart_ok hE _)
      · rename_i a b pos hns hns2
        have key : (∀ l u s p, b ≠ .Slice l u s p) → PE X (.Subscript a b pos) (LE X.K W fun σ S => (ev G n X.env.scope a σ S).bind fun x S1 => (ev G n X.env.scope b σ S1).bind fun y S2 => ofO (ixA x y S2)) := fun hb => by
          have hp : PlainIx b := by cases b <;> first | (intro o i; rfl) | exact absurd rfl (hb _ _ _ _)
          exact op2_ok rfl rfl (fun a' b' => pe_ix (ixA_ok (by have := c.hu; omega)) a' b' hp) (hE _) (hE _)
        cases b with
        | Slice l u s p => exact pe_no fun _ _ => rfl
        | _ => exact key (by intros; simp)
      · rename_i x p params body scope lpos pos
        by_cases hs : X.env.scope.names = G.sc0
        · simp only [if_pos hs]
          exact pe_mono (c.lam hs x params body scope lpos p pos) fun σV H Q ⟨ρ, S, σ, r, h1, q⟩ => ⟨ρ, S, σ, r, h1, scope_post c.kpo r q⟩
        · exact pe_no fun σ S => if_neg hs
      · rename_i x p args pos _
        by_cases hg : glB X.env.scope x = true ∧ plainN x = true ∧ args.any isStar = false
        · simp only [if_pos hg]
          cases args with
          | nil => exact pe_no fun _ _ => rfl
          | cons e es =>
            simp only
            have hb : (∀ a, G.glob x ≠ some (.con a)) → PE X (.Call (.Name x p) (e :: es) [] pos) (LE X.K W fun σ S => match itemsArg x (e :: es) with
                | some o => (ev G n X.env.scope o σ S).bind fun d S1 => ofO (fItems d S1)
                | none => match bltG G (G.own pos) x with
                  | some f => (evL (ev G n X.env.scope) (e :: es) σ S).bind fun ds S1 => ofO (f ds S1)
                  | none => .no) := fun hx => by
              cases zi : itemsArg x (e :: es) with
              | some o =>
                unfold itemsArg at zi
                split at zi
                · rename_i o2 m ap cp heq
                  split at zi
                  · rename_i hh
                    obtain ⟨rfl, rfl, h3, h4⟩ := hh
                    cases zi
                    cases heq
                    exact items_ok c (gl_of hg.1) hx (hE _) h3 h4
                  · cases zi
                · cases zi
              | none => _
              simp only
              cases z : bltG G (G.own pos) x with
              | none => exact pe_no fun _ _ => rfl
              | some f => exact blt_ok c (gl_of hg.1) hx z hg.2.1 hE p pos e es hg.2.2
            cases z : G.glob x with
            | none => exact hb fun a => by rw [z]; simp
            | some d =>
              cases d with
              | con g =>
                simp only
                cases z2 : G.pars g with
                | none =>
                  cases es with
                  | cons e2 es2 => exact pe_no fun _ _ => rfl
                  | nil =>
                    cases z3 : G.attr g with
                    | none => exact pe_no fun _ _ => by simp only [z3]
                    | some at_ =>
                      cases at_ with
                      | none => exact pe_no fun _ _ => by simp only [z3]
                      | some nm =>
                        simp only [z3]
                        exact ini_ok c (gl_of hg.1) z z3 hg.2.1 hE p pos e (noStars1 hg.2.2).1
                | some ps => exact call_ok c (gl_of hg.1) z z2 hg.2.1 hE p pos e es hg.2.2 _
              | _ => exact hb fun a => by rw [z]; simp
        · simp only [if_neg hg]
          by_cases hv : visB X.env.scope x = true ∧ plainN x = true ∧ args.any isStar = false
          · simp only [if_pos hv]
            cases args with
            | nil => exact pe_no fun _ _ => rfl
            | cons e es =>
              simp only
              cases z : slot G.N X.env.scope x with
              | none => exact pe_no fun _ _ => rfl
              | some i => exact callL_ok c hv.2.1 z hE p pos e es hv.2.2 _
          · exact pe_no fun σ S => if_neg hv
      · rename_i x p args kw kws pos
        by_cases hg : glB X.env.scope x = true ∧ plainN x = true ∧ args.any isStar = false ∧ (kw :: kws).all (·.arg.isSome) = true
        · simp only [if_pos hg]
          split
          · rename_i g z
            split
            · rename_i ps perm z2 z3
              exact callKw_ok c (gl_of hg.1) z z2 hg.2.1 hE p pos hg.2.2.1 _ hg.2.2.2 z3
            · exact pe_no fun _ _ => rfl
          · exact pe_no fun _ _ => rfl
        · exact pe_no fun σ S => if_neg hg
      · rename_i o m ap args cp
        by_cases hg : args.any isStar = true ∨ isCallE o = true ∨ ap.endLine ≠ cp.line
        · exact pe_no fun σ S => if_pos hg
        · simp only [if_neg hg]
          simp only [not_or, Bool.not_eq_true, ne_eq, Classical.not_not] at hg
          match args with
          | [] => cases metF m <;> exact pe_no fun _ _ => rfl
          | [a] =>
            cases z : metF m with
            | none => exact pe_no fun _ _ => rfl
            | some f => exact meth_ok z hE (noStars1 hg.1).1 hg.2.1 hg.2.2
          | [a, b] =>
            cases z : metF m with
            | some f => exact pe_no fun _ _ => rfl
            | none =>
              by_cases hm : m = ("get" : Str)
              · subst hm
                simp only [if_true]
                exact get2_ok c hE (noStars1 hg.1).1 (noStars1 (noStars1 hg.1).2).1 hg.2.1 hg.2.2
              · exact pe_no fun _ _ => if_neg hm
          | _ :: _ :: _ :: _ => cases metF m <;> exact pe_no fun _ _ => rfl
      · rename_i o m _
        by_cases hg : isCallE o = true
        · exact pe_no fun σ S => if_pos hg
        · simp only [if_neg hg]
          exact at_ok (hE o) (Bool.eq_false_iff.mpr hg) fun C h => c.atr C m h
      · exact lcomp_ok c ihE ihT _ _ _ _ _ _ _
      · exact pe_no fun _ _ => rfl
    refine ⟨main, fun X W c e => ?_⟩
    have hE := ihE X W c
    have hT := ihT X W c
    unfold tv
    split
    · rename_i a op b pos
      by_cases hm : behindInMarks op b = true
      · exact pt_no fun σ S => if_pos hm
      · simp only [if_neg hm]
        refine pt_mono (pt_cmpR (cmpD_ok c.hu5 op) (hE a) (hE b) (by simpa using hm)) fun σV H Q q => ?_
        refine (Lft.bind2 (k := fun x y S2 => oT (cmpD op x y S2) S2) q).mono fun x H1 q1 => q1.mono fun y H2 ⟨ρ2, S2, dx, dy, r2, ix, iy, q2⟩ => ?_
        refine ⟨ρ2, S2, dx, dy, r2, ix, iy, ?_⟩
        cases z : cmpD op dx dy S2 with
        | none => rw [z] at q2; exact q2.elim
        | some b =>
          rw [z] at q2
          show PO X.K ρ2 H2 (oB (cmpD op dx dy S2) S2) _
          rw [z]
          exact fun ρ3 H3 v r3 e3 i3 => ⟨b, i3.bl_eq, q2 ρ3 H3 b r3 e3 rfl⟩
    · rename_i a op op' b d pos
      by_cases hm : lastMarks [op, op'] [b, d] = true
      · exact pt_no fun σ S => if_pos hm
      · simp only [if_neg hm]
        exact chainT_ok c.hu5 (by simpa using hm) (hE _) (hE _) (hE _)
    · exact pt_no fun _ _ => rfl
    · exact (tvBool_ok hT _ _ _).pt
    · rename_i a pos
      refine pt_mono (pt_not (hT a)) fun σV H Q q => ?_
      refine (Lft.bind (rel := relB) (g := fun b σ S1 => Res.ok (!b) S1) q).mono fun b' H1 ⟨ρ1, S1, σ1, d, r1, hs1, i1, q1⟩ => ?_
      obtain rfl : d = b' := i1
      exact q1 ρ1 H1 _ r1 .refl rfl
    · exact pt_no fun _ _ => rfl
    · rename_i h1 h2 h3 h4 h5
      refine pt_mono (pt_truth (hE _) fun whole => ?_) fun σV H Q q => ?_
      · cases e with
        | BoolOp op vs p => exact absurd rfl (h3 _ _ _)
        | IfExp t a b p => exact absurd rfl (h5 _ _ _ _)
        | Compare l o cs p => exact absurd rfl (h2 _ _ _ _)
        | UnaryOp op a p => cases op <;> first | rfl | exact absurd rfl (h4 _ _)
        | _ => rfl
      · refine (Lft.bind (g := fun d σ S1 => oT (truD S1 d) S1) q).mono fun x H1 ⟨ρ1, S1, σ1, d, r1, hs1, i1, q1⟩ => ?_
        cases z : truD S1 d with
        | none => rw [z] at q1; exact q1.elim
        | some b =>
          rw [z] at q1
          exact ⟨b, truD_ok r1 z i1, q1 ρ1 H1 b r1 .refl rfl⟩
end
end Dp
end
section
set_option Elab.async false
set_option linter.all false
set_option maxRecDepth 100000
set_option maxHeartbeats 4000000
namespace Dp
open PySem PySem.Spec PyProof.Rows L2

inductive SR where
  | next (σ : Sig) (S : Sto) | ret (d : D) (S : Sto) | brk (σ : Sig) (S : Sto) | cont (σ : Sig) (S : Sto) | exc (c : Exn) (σ : Sig) (S : Sto) | no
abbrev StF := Sig → Sto → SR
def SR.bind (r : SR) (k : StF) : SR := match r with
  | .next σ S => k σ S
  | r => r
/-- an expression in a statement -/
def Res.st {α : Type} (r : Res α) (σ : Sig) (k : α → Sto → SR) : SR := match r with
  | .ok a S => k a S
  | .exc c S => .exc c σ S
  | .no => .no
def exs (f : Stmt → StF) : List Stmt → StF
  | [] => fun σ S => .next σ S
  | s :: rest => fun σ S => (f s σ S).bind (exs f rest)
/-- behind a turn of a loop: what is new in the store is given up -/
def cutS0 (kp : Keep) (loose : Bool) (S : Sto) (σ : Sig) (S' : Sto) : Option (Sig × Sto) :=
  if loose = true ∨ S'.length = S.length then some (σ, S') else match mapO (frzO S' S.length) σ with
    | some σ' => if kp S (S'.take S.length) = true then some (σ', S'.take S.length) else none
    | none => none
/-- what had no value ahead of the turn has none behind it -/
def maskD : Sig → Sig → Sig
  | none :: σ0, _ :: σ => none :: maskD σ0 σ
  | some _ :: σ0, d :: σ => d :: maskD σ0 σ
  | _, σ => σ
def cutS (kp : Keep) (loose : Bool) (σ0 : Sig) (S : Sto) (σ : Sig) (S' : Sto) : Option (Sig × Sto) := cutS0 kp loose S (if loose = true then σ else maskD σ0 σ) S'
def cutK (kp : Keep) (loose : Bool) (σ0 : Sig) (S : Sto) (σ : Sig) (S' : Sto) (k : StF) : SR := match cutS kp loose σ0 S σ S' with
  | some p => k p.1 p.2
  | none => .no
def whileL (kp : Keep) (lo : Bool) (t : TvF) (b : StF) : Nat → StF
  | 0 => fun _ _ => .no
  | m + 1 => fun σ S => (t σ S).st σ fun c S1 => if c = true then (match b σ S1 with
      | .next σ2 S2 => cutK kp lo σ S σ2 S2 (whileL kp lo t b m)
      | .cont σ2 S2 => cutK kp lo σ S σ2 S2 (whileL kp lo t b m)
      | .brk σ2 S2 => cutK kp lo σ S σ2 S2 .next
      | r => r) else .next σ S1
def forL (kp : Keep) (lo : Bool) (src : Src) (asg : D → Option (List (Nat × D))) (b : StF) : Nat → Nat → StF
  | 0, _ => fun _ _ => .no
  | m + 1, i => fun σ S => match srcAt S i src with
    | none => .no
    | some none => .next σ S
    | some (some d) => match asg d with
      | none => .no
      | some l => match b (sets σ l) S with
        | .next σ2 S2 => cutK kp lo σ S σ2 S2 (forL kp lo src asg b m (i + 1))
        | .cont σ2 S2 => cutK kp lo σ S σ2 S2 (forL kp lo src asg b m (i + 1))
        | .brk σ2 S2 => cutK kp lo σ S σ2 S2 .next
        | r => r
/-- the plain local names of a row of targets -/
def nmOf (sc : Scope) (line : Nat) : List Expr → Option (List Str)
  | [] => some []
  | .Name x p :: r => if sc.names.lookup x == some .local && p.line == line then (nmOf sc line r).map (x :: ·) else none
  | _ => none
/-- are the stores of a, b = x, y swapped? none: not known -/
def swC (sc : Scope) (ts vs : List Expr) : Option (Option (List Str)) :=
  if (!(ts.length == 2 || ts.length == 3) || vs.length != ts.length) = true then some none else
  if vs.any isStar = true then some none else
  match nmOf sc ((ts.head?.map (·.pos.line)).getD 0) ts with
  | none => some none
  | some ns => if (ns.eraseDups.length != ns.length) = true then none else
    if vs.all (foldedForSure 8) = true then some none else if vs.all (constantsAlone 8) = true then none else some (some ns)
def isCompE : Expr → Bool
  | .ListComp _ _ _ _ => true
  | .SetComp _ _ _ _ => true
  | .DictComp _ _ _ _ _ => true
  | _ => false
def isComp2 : Expr → Bool
  | .SetComp _ _ _ _ => true
  | .DictComp _ _ _ _ _ => true
  | _ => false
def isSliceE : Expr → Bool
  | .Slice _ _ _ _ => true
  | _ => false
def isTupleE : Expr → Bool
  | .Tuple _ _ _ => true
  | _ => false
/-- what comes of a suite whose exceptions of class C are held -/
def tryR (G : Gam) (C : Str) (i j : Nat) : SR → SR
  | .exc c σ S => match G.isx c.cls C with
    | some true => .next (((σ.set i (some c.d)).set j (some c.d)).set i none) S
    | some false => .exc c σ S
    | none => .no
  | r => r
/-- an error with one attribute, raised -/
def raX (C n : Str) : List D → Sig → Sto → SR
  | [d], σ, S => .exc ⟨C, some (n, d)⟩ σ S
  | _, _, _ => .no
/-- x += e, x -= e, of ints -/
def augI : Operator → Option (Int → Int → Int)
  | .Add => some fun i j => i + j
  | .Sub => some fun i j => i - j
  | _ => none
def augR (o : Option (Int → Int → Int)) (i : Nat) (f : EvF) : StF := fun σ S => match o, σ[i]? with
  | some g, some (some (.int a)) => (f σ S).st σ fun d S1 => match d with
    | .int b => .next (σ.set i (some (.int (g a b)))) S1
    | _ => .no
  | _, _ => .no
def ex (G : Gam) : Nat → Scope → Stmt → StF
  | 0, _, _ => fun _ _ => .no
  | n + 1, sc, s => match s with
    | .Pass _ => fun σ S => .next σ S
    | .Break _ => fun σ S => .brk σ S
    | .Continue _ => fun σ S => .cont σ S
    | .Expr (.Constant (.str _) _ _) _ => fun σ S => .next σ S
    | .Expr (.Call (.Name a _) [] [] _) _ => fun σ S => (G.actc a σ S).st σ fun _ S1 => .next σ S1
    | .Expr e _ => fun σ S => if isCallE e = true then (ev G n sc e σ S).st σ fun _ S1 => .next σ S1 else .no
    | .Return (some e) _ => fun σ S => (ev G n sc e σ S).st σ fun d S1 => .ret d S1
    | .Return none _ => fun _ S => .ret .non S
    | .AugAssign (.Name x _) op e _ => fun σ S => if locB sc x = true then (match slot G.N sc x with
      | some i => augR (augI op) i (ev G n sc e) σ S
      | none => .no) else .no
    | .Assign [.Name x _] e _ => fun σ S => if locB sc x = true ∧ isComp2 e = false then (match slot G.N sc x with
      | some i => (ev G n sc e σ S).st σ fun d S1 => .next (σ.set i (some d)) S1
      | none => .no) else .no
    | .Assign [.Tuple ts a b] (.Tuple vs j p) pos => fun σ S => match swC sc ts vs with
      | some o => (ev G n sc (.Tuple vs j p) σ S).st σ fun d S1 => match asgE G.N sc (.Tuple ts a b) d with
        | some l => if o.isNone = true ∨ (l.map (·.1)).Nodup then .next (sets σ l) S1 else .no
        | none => .no
      | none => .no
    | .Assign [.Tuple ts a b] e _ => fun σ S => if isCompE e = true ∨ isTupleE e = true then .no else (ev G n sc e σ S).st σ fun d S1 => match asgE G.N sc (.Tuple ts a b) d with
      | some l => .next (sets σ l) S1
      | none => .no
    | .Assign [.Subscript o i _] e _ => fun σ S => if isSliceE i = true then .no else (ev G n sc e σ S).st σ fun d S1 => (ev G n sc o σ S1).st σ fun x S2 => (ev G n sc i σ S2).st σ fun y S3 => match x with
      | .ref m => (match setD S3 m y d with
        | some S4 => .next σ S4
        | none => .no)
      | _ => .no
    | .If t a b _ => fun σ S => (tv G n sc t σ S).st σ fun c S1 => if c = true then exs (ex G n sc) a σ S1 else exs (ex G n sc) b σ S1
    | .While t b [] p => whileL G.kp (G.own p) (tv G n sc t) (exs (ex G n sc) b) G.wf
    | .For tg it b [] p => fun σ S => if isSetE it = true then .no else (evSrc (ev G n sc) G sc tg it σ S).st σ fun src S1 => forL G.kp (G.own p) src (asgE G.N sc tg) (exs (ex G n sc) b) (srcLen S1 src + 1) 0 σ S1
    | .Raise (some (.Call (.Name x _) [.Constant (.str _) _ _] [] _)) none _ => fun σ S => if glB sc x = true ∧ plainN x = true then (match G.glob x with
      | some (.con C) => (match G.attr C with
        | some none => .exc ⟨C, none⟩ σ S
        | _ => .no)
      | _ => .no) else .no
    | .Raise (some (.Call (.Name x _) [a] [] _)) none _ => fun σ S => if glB sc x = true ∧ plainN x = true ∧ isStar a = false then (match G.glob x with
      | some (.con C) => (match G.attr C with
        | some (some at_) => (evL (ev G n sc) [a] σ S).st σ fun ds S1 => raX C at_ ds σ S1
        | _ => .no)
      | _ => .no) else .no
    | .Try body [.ExceptHandler (some (.Name x _)) (some v) [.Assign [.Name y _] (.Name v2 _) _] _] [] [] _ => fun σ S =>
      if glB sc x = true ∧ plainN x = true ∧ v2 = v ∧ sc.names.lookup v = some .local ∧ sc.names.lookup y = some .local then (match G.glob x, slot G.N sc v, slot G.N sc y with
        | some (.con C), some i, some j => tryR G C i j (exs (ex G n sc) body σ S)
        | _, _, _ => .no) else .no
    | _ => fun _ _ => .no

/-! ### readings of statements -/
section
variable (K : PySem.W.Frag) (W : WX)
def PostS (ρ : List Addr) (H : Hp) (r : SR) (E : Ends) : Prop := match r with
  | .next σ' S' => ∀ ρ' H' σV', R K ρ' H' S' → Ext K ρ H ρ' H' → IsSt K ρ' H' σ' σV' → E.nx σV' H'
  | .brk σ' S' => ∀ ρ' H' σV', R K ρ' H' S' → Ext K ρ H ρ' H' → IsSt K ρ' H' σ' σV' → E.bk σV' H'
  | .cont σ' S' => ∀ ρ' H' σV', R K ρ' H' S' → Ext K ρ H ρ' H' → IsSt K ρ' H' σ' σV' → E.ct σV' H'
  | .ret d S' => ∀ ρ' H' v, R K ρ' H' S' → Ext K ρ H ρ' H' → Is K ρ' H' d v → E.rt v H'
  | .exc c σ' S' => ∀ ρ' H' σV' cls dd, R K ρ' H' S' → Ext K ρ H ρ' H' → IsSt K ρ' H' σ' σV' → ExcR K ρ' H' c cls dd → W cls dd σV' H'
  | .no => False
def LS (f : StF) : TS := fun E σV H => ∃ ρ S σ, R K ρ H S ∧ IsSt K ρ H σ σV ∧ PostS K W ρ H (f σ S) E
end
section
variable {K : PySem.W.Frag} {W : WX} {X : Cx} {G : Gam} {k : Nat} {ρ ρ' : List Addr} {H H' : Hp} {S : Sto} {σ : Sig} {σV : L2.St}
theorem PostS.ext {r : SR} {E : Ends} (e : Ext K ρ H ρ' H') (h : PostS K W ρ H r E) : PostS K W ρ' H' r E := by
  cases r with
  | next σ' S' => exact fun a b c x y z => h a b c x (e.trans y) z
  | brk σ' S' => exact fun a b c x y z => h a b c x (e.trans y) z
  | cont σ' S' => exact fun a b c x y z => h a b c x (e.trans y) z
  | ret d S' => exact fun a b c x y z => h a b c x (e.trans y) z
  | exc c σ' S' => exact fun a b c d f x y z => h a b c d f x (e.trans y) z
  | no => exact h
/-- an expression, then more -/
theorem PostS.st {α β : Type} {rel : List Addr → Hp → α → β → Prop} {r : Res α} {kk : α → Sto → SR} {E : Ends} (hs : IsSt K ρ H σ σV) (h : PostS K W ρ H (r.st σ kk) E) :
    Post K W rel ρ H σV r (fun b H1 => ∃ ρ1 S1 a, R K ρ1 H1 S1 ∧ Ext K ρ H ρ1 H1 ∧ rel ρ1 H1 a b ∧ PostS K W ρ1 H1 (kk a S1) E) := by
  cases r with
  | ok a S' => exact fun ρ' H' b x y z => ⟨ρ', S', a, x, y, z, PostS.ext y h⟩
  | exc c S' => exact fun ρ' H' cls dd x y z => h ρ' H' σV cls dd x y (hs.ext y) z
  | no => exact h
theorem LS.st {α β : Type} {rel : List Addr → Hp → α → β → Prop} {f : Sig → Sto → Res α} {kk : α → Sig → Sto → SR} {E : Ends} (h : LS K W (fun σ S => (f σ S).st σ fun a S1 => kk a σ S1) E σV H) :
    Lft K W rel f σV H (fun b H1 => ∃ ρ1 S1 σ a, R K ρ1 H1 S1 ∧ IsSt K ρ1 H1 σ σV ∧ rel ρ1 H1 a b ∧ PostS K W ρ1 H1 (kk a σ S1) E) := by
  obtain ⟨ρ, S, σ, a, b, c⟩ := h
  exact ⟨ρ, S, σ, a, b, (PostS.st b c).mono fun b' H' ⟨ρ1, S1, a', x, y, z, w⟩ => ⟨ρ1, S1, σ, a', x, b.ext y, z, w⟩⟩
theorem ps_mono {s : Stmt} {t t' : TS} (h : PS X s t) (i : ∀ E σ H, t' E σ H → t E σ H) : PS X s t' := ⟨fun p s σ H D I q => h.run p s σ H D I (i D σ H q)⟩
theorem pss_mono {s : List Stmt} {t t' : TS} (h : PSs X s t) (i : ∀ E σ H, t' E σ H → t E σ H) : PSs X s t' := ⟨fun p s σ H D I q => h.run p s σ H D I (i D σ H q)⟩
theorem ps_no {s : Stmt} {f : StF} (h : ∀ σ S, f σ S = .no) : PS X s (LS K W f) := ⟨fun _ _ _ _ _ _ ⟨_, _, _, _, _, q⟩ => by rw [h] at q; exact q.elim⟩
theorem exs_ok {f : Stmt → StF} (hf : ∀ s, PS X s (LS K W (f s))) : ∀ ss, PSs X ss (LS K W (exs f ss))
  | [] => pss_mono pss_nil fun E σV H ⟨ρ, S, σ, r, hs, q⟩ => q ρ H σV r .refl hs
  | s :: ss => by
    refine pss_mono (pss_cons (hf s) (exs_ok hf ss)) fun E σV H ⟨ρ, S, σ, r, hs, q⟩ => ?_
    refine ⟨ρ, S, σ, r, hs, ?_⟩
    have q : PostS K W ρ H ((f s σ S).bind (exs f ss)) E := q
    cases z : f s σ S with
    | next σ' S' =>
      rw [z] at q
      exact fun ρ' H' σV' r' e' hs' => ⟨ρ', S', σ', r', hs', PostS.ext e' q⟩
    | _ => rw [z] at q; exact q
structure SCtx (X : Cx) (G : Gam) (W : WX) (k : Nat) : Prop where
  c : Ctx X G W k
  pass : PassesOwn (model X.prog X.w) X.A X.env X.xe
  fn : ∀ x, X.fn x = true
  hs : X.stack = X.env :: X.outer
  hf : X.env.frame = some X.env.locals
  hex : X.ex = []
  lamT : ∀ (W' : WX) (pn : List (Addr × Obj)) (xe : Value → Shared → Prop), Takes (X.tr pn xe) W' → X.env.scope.names = G.sc0 → ∀ x params body scope lpos p pos, PE (X.tr pn xe) (.Call (.Name x p) [.Lambda params body scope lpos] [] pos) (LE X.K W' (G.lamc x params body scope))
  act : ∀ (W' : WX) (pn : List (Addr × Obj)) (xe : Value → Shared → Prop), Takes (X.tr pn xe) W' → ∀ a p1 p2, PE (X.tr pn xe) (.Call (.Name a p1) [] [] p2) (LE X.K W' (G.actc a))
theorem SCtx.stores (c : SCtx X G W k) : Stores X X.env.scope := fun x h => ⟨loc_of h, .inl (c.fn x)⟩
theorem frzSt {ρ ρ' l : List Addr} {S' : Sto} {σ σ' : Sig} {σV : L2.St} (r : R K ρ' H S') (hρ : ρ' = ρ ++ l) (e : mapO (frzO S' ρ.length) σ = some σ') (h : IsSt K ρ' H σ σV) : IsSt K ρ H σ' σV := by
  have gen : ∀ {σ σ' : Sig}, mapO (frzO S' ρ.length) σ = some σ' → σ.length = σ'.length ∧ ∀ (i : Nat) d', σ'[i]? = some (some d') → ∃ d, σ[i]? = some (some d) ∧ frz S' ρ.length 6 d = some d' := by
    intro σ
    induction σ with
    | nil => intro σ' e; cases e; exact ⟨rfl, fun i d h => by simp at h⟩
    | cons o σ ih =>
      intro σ' e
      obtain ⟨o', σ1, rfl, e1, e2⟩ := mapO_cons e
      obtain ⟨h1, h2⟩ := ih e2
      refine ⟨by simp [h1], fun i d' hd => ?_⟩
      cases i with
      | zero =>
        simp at hd
        subst hd
        cases o with
        | none => cases e1
        | some d =>
          refine ⟨d, rfl, ?_⟩
          have e1 : (frz S' ρ.length 6 d).map some = some (some d') := e1
          cases z : frz S' ρ.length 6 d with
          | none => rw [z] at e1; cases e1
          | some d2 => rw [z] at e1; cases e1; rfl
      | succ i => simp at hd; obtain ⟨d, g1, g2⟩ := h2 i d' hd; exact ⟨d, by simpa using g1, g2⟩
  obtain ⟨g1, g2⟩ := gen e
  refine ⟨by rw [← g1]; exact h.1, fun i d' hd => ?_⟩
  obtain ⟨d, e1, e2⟩ := g2 i d' hd
  obtain ⟨v, e3, e4⟩ := h.2 i d e1
  exact ⟨v, e3, frz_ok r hρ 6 e2 e4⟩
theorem cut_ok0 {kp : Keep} (hk : KeepOk kp) {lo : Bool} {ρ1 ρ3 : List Addr} {H1 H3 : Hp} {S1 S3 S' : Sto} {s3 s' : Sig} {σ3 : L2.St} (r1 : R K ρ1 H1 S1) (r3 : R K ρ3 H3 S3) (e : Ext K ρ1 H1 ρ3 H3) (hs : IsSt K ρ3 H3 s3 σ3) (h : cutS0 kp lo S1 s3 S3 = some (s', S')) :
    ∃ ρ', R K ρ' H3 S' ∧ Ext K ρ1 H1 ρ' H3 ∧ IsSt K ρ' H3 s' σ3 := by
  unfold cutS0 at h
  split at h
  · cases h; exact ⟨ρ3, r3, e, hs⟩
  · obtain ⟨l, hl⟩ := e.pre
    split at h
    · rename_i σ' z
      split at h
      · rename_i hkp
        cases h
        exact ⟨ρ1, r1.cut hk r3 hl hkp, e.cut, frzSt r3 hl (by rw [r1.len]; exact z) hs⟩
      · cases h
    · cases h
theorem mask_at : ∀ {σ0 σ : Sig} {i : Nat} {d : D}, (maskD σ0 σ)[i]? = some (some d) → σ[i]? = some (some d)
  | none :: σ0, a :: σ, 0, d, h => by simp [maskD] at h
  | none :: σ0, a :: σ, i + 1, d, h => by
    have h : (maskD σ0 σ)[i]? = some (some d) := by simpa [maskD] using h
    simpa using mask_at h
  | some x :: σ0, a :: σ, 0, d, h => by simpa [maskD] using h
  | some x :: σ0, a :: σ, i + 1, d, h => by
    have h : (maskD σ0 σ)[i]? = some (some d) := by simpa [maskD] using h
    simpa using mask_at h
  | [], σ, _, _, h => by simpa [maskD] using h
  | none :: _, [], _, _, h => by simp [maskD] at h
  | some _ :: _, [], _, _, h => by simp [maskD] at h
theorem mask_len : ∀ {σ0 σ : Sig}, (maskD σ0 σ).length = σ.length
  | none :: σ0, a :: σ => by simp [maskD, mask_len (σ0 := σ0) (σ := σ)]
  | some x :: σ0, a :: σ => by simp [maskD, mask_len (σ0 := σ0) (σ := σ)]
  | [], σ => by simp [maskD]
  | none :: _, [] => by simp [maskD]
  | some _ :: _, [] => by simp [maskD]
theorem IsSt.mask {ρ : List Addr} {H : Hp} {σ0 σ : Sig} {σV : L2.St} (h : IsSt K ρ H σ σV) : IsSt K ρ H (maskD σ0 σ) σV := ⟨mask_len.trans h.1, fun i d e => h.2 i d (mask_at e)⟩
theorem cut_ok {kp : Keep} (hk : KeepOk kp) {lo : Bool} {ρ1 ρ3 : List Addr} {H1 H3 : Hp} {S1 S3 S' : Sto} {s0 s3 s' : Sig} {σ3 : L2.St} (r1 : R K ρ1 H1 S1) (r3 : R K ρ3 H3 S3) (e : Ext K ρ1 H1 ρ3 H3) (hs : IsSt K ρ3 H3 s3 σ3) (h : cutS kp lo s0 S1 s3 S3 = some (s', S')) :
    ∃ ρ', R K ρ' H3 S' ∧ Ext K ρ1 H1 ρ' H3 ∧ IsSt K ρ' H3 s' σ3 := by
  unfold cutS at h
  refine cut_ok0 hk r1 r3 e ?_ h
  split
  · exact hs
  · exact hs.mask
theorem while_ok (c : SCtx X G W k) {t : Expr} {b : List Stmt} {pos : Pos} {f : TvF} {g : StF} (ht : PT X t (LT X.K W f)) (hb : PSs X b (LS X.K W g)) (lo : Bool) (m0 : Nat) : PS X (.While t b [] pos) (LS X.K W (whileL G.kp lo f g m0)) := by
  refine ps_mono (ps_while c.pass ht hb) fun E σV H ⟨ρ, S, σ, r, hs, q⟩ => ?_
  generalize hr0 : whileL G.kp lo f g m0 σ S = r0 at q
  refine ⟨fun m σV' H' => ∃ ρ' S' σ', R X.K ρ' H' S' ∧ Ext X.K ρ H ρ' H' ∧ IsSt X.K ρ' H' σ' σV' ∧ whileL G.kp lo f g m σ' S' = r0, ⟨m0, ρ, S, σ, r, .refl, hs, hr0⟩, ?_⟩
  rintro m σ1 H1 ⟨ρ1, S1, s1, r1, e1, hs1, hl⟩
  cases m with
  | zero => subst hl; exact q.elim
  | succ m =>
    have hl : ((f s1 S1).st s1 fun c S0 => if c = true then (match g s1 S0 with
      | .next σ2 S2 => cutK G.kp lo s1 S1 σ2 S2 (whileL G.kp lo f g m)
      | .cont σ2 S2 => cutK G.kp lo s1 S1 σ2 S2 (whileL G.kp lo f g m)
      | .brk σ2 S2 => cutK G.kp lo s1 S1 σ2 S2 .next
      | r => r) else .next s1 S0) = r0 := hl
    refine ⟨ρ1, S1, s1, r1, hs1, ?_⟩
    cases z : f s1 S1 with
    | no => rw [z] at hl; subst hl; exact q.elim
    | exc c' S2 =>
      rw [z] at hl; subst hl
      exact fun ρ' H' cls dd x y w => q ρ' H' _ cls dd x (e1.trans y) (hs1.ext y) w
    | ok cc S2 =>
      rw [z] at hl
      intro ρ2 H2 cc' r2 e2 hc
      obtain rfl : cc = cc' := hc
      have e12 := e1.trans e2
      cases cc with
      | false =>
        have hl : SR.next s1 S2 = r0 := hl
        subst hl
        exact iteF (q ρ2 H2 _ r2 e12 (hs1.ext e2))
      | true =>
        have hl : (match g s1 S2 with
          | .next σ2 S2 => cutK G.kp lo s1 S1 σ2 S2 (whileL G.kp lo f g m)
          | .cont σ2 S2 => cutK G.kp lo s1 S1 σ2 S2 (whileL G.kp lo f g m)
          | .brk σ2 S2 => cutK G.kp lo s1 S1 σ2 S2 .next
          | r => r) = r0 := hl
        have go : ∀ {s3 : Sig} {S3 : Sto} {kk : StF}, cutK G.kp lo s1 S1 s3 S3 kk = r0 → ∀ ρ3 H3 σ3, R X.K ρ3 H3 S3 → Ext X.K ρ2 H2 ρ3 H3 → IsSt X.K ρ3 H3 s3 σ3 → ∃ ρ' S' σ', R X.K ρ' H3 S' ∧ Ext X.K ρ H ρ' H3 ∧ IsSt X.K ρ' H3 σ' σ3 ∧ kk σ' S' = r0 := fun {s3 S3 kk} hc ρ3 H3 σ3 r3 e3 hs3 => by
          unfold cutK at hc
          split at hc
          · rename_i p hp
            obtain ⟨p1, p2⟩ := p
            obtain ⟨ρ', g1, g2, g3⟩ := cut_ok c.c.kpo r1 r3 (e2.trans e3) hs3 hp
            exact ⟨ρ', p2, p1, g1, e1.trans g2, g3, hc⟩
          · subst hc; exact q.elim
        refine iteT ⟨fun σV' H' => ∃ ρ' S' σ', R X.K ρ' H' S' ∧ Ext X.K ρ H ρ' H' ∧ IsSt X.K ρ' H' σ' σV' ∧ whileL G.kp lo f g m σ' S' = r0, fun σ' H' h => ⟨m, Nat.lt_succ_self m, h⟩, ρ2, S2, s1, r2, hs1.ext e2, ?_⟩
        cases zb : g s1 S2 with
        | no => rw [zb] at hl; subst hl; exact q.elim
        | next s3 S3 => rw [zb] at hl; exact fun ρ3 H3 σ3 r3 e3 hs3 => go hl ρ3 H3 σ3 r3 e3 hs3
        | cont s3 S3 => rw [zb] at hl; exact fun ρ3 H3 σ3 r3 e3 hs3 => go hl ρ3 H3 σ3 r3 e3 hs3
        | brk s3 S3 =>
          rw [zb] at hl
          intro ρ3 H3 σ3 r3 e3 hs3
          obtain ⟨ρ', S', σ', g1, g2, g3, g4⟩ := go hl ρ3 H3 σ3 r3 e3 hs3
          subst g4
          exact q ρ' H3 σ3 g1 g2 g3
        | ret d S3 => rw [zb] at hl; subst hl; exact PostS.ext (r := .ret d S3) e12 q
        | exc c' s3 S3 => rw [zb] at hl; subst hl; exact PostS.ext (r := .exc c' s3 S3) e12 q
theorem for_ok (c : SCtx X G W k) {tg it : Expr} {b : List Stmt} {pos : Pos} {f : Sig → Sto → Res Src} {a : D → Option (List (Nat × D))} {g : StF} (hset : isSetE it = false) (hi : PI X tg it (LI X.K W f)) (ha : PG X tg (LG X.K a)) (hb : PSs X b (LS X.K W g)) (lo : Bool) :
    PS X (.For tg it b [] pos) (LS X.K W fun σ S => (f σ S).st σ fun src S1 => forL G.kp lo src a g (srcLen S1 src + 1) 0 σ S1) := by
  refine ps_mono (ps_for c.pass c.c.calm hi ha hb (noSet hset)) fun E σV H q => ?_
  refine (LS.st (kk := fun src σ S1 => forL G.kp lo src a g (srcLen S1 src + 1) 0 σ S1) q).mono fun J H1 ⟨ρ1, S1, σ, src, r1, hs1, so, q1⟩ => ?_
  generalize hr0 : forL G.kp lo src a g (srcLen S1 src + 1) 0 σ S1 = r0 at q1
  refine ⟨fun i m σV' H' => ∃ ρ' S' σ', R X.K ρ' H' S' ∧ Ext X.K ρ1 H1 ρ' H' ∧ IsSt X.K ρ' H' σ' σV' ∧ forL G.kp lo src a g m i σ' S' = r0, ⟨_, ρ1, S1, σ, r1, .refl, hs1, hr0⟩, ?_⟩
  rintro i m σ2 H2 ⟨ρ2, S2, s2, r2, e2, hs2, hl⟩
  have so2 := so.ext e2
  cases m with
  | zero => subst hl; exact q1.elim
  | succ m =>
    have hl : (match srcAt S2 i src with
      | none => .no
      | some none => .next s2 S2
      | some (some d) => match a d with
        | none => .no
        | some l => match g (sets s2 l) S2 with
          | .next σ2 S3 => cutK G.kp lo s2 S2 σ2 S3 (forL G.kp lo src a g m (i + 1))
          | .cont σ2 S3 => cutK G.kp lo s2 S2 σ2 S3 (forL G.kp lo src a g m (i + 1))
          | .brk σ2 S3 => cutK G.kp lo s2 S2 σ2 S3 .next
          | r => r) = r0 := hl
    cases z : srcAt S2 i src with
    | none => rw [z] at hl; subst hl; exact q1.elim
    | some o =>
      cases o with
      | none =>
        rw [z] at hl; subst hl
        exact .inl ⟨so2.stop r2 z, q1 ρ2 H2 _ r2 e2 hs2⟩
      | some d =>
        rw [z] at hl
        dsimp only at hl
        obtain ⟨go, step⟩ := so2.go r2 z
        refine .inr ⟨go, fun σV' H' => ∃ ρ' S' σ', R X.K ρ' H' S' ∧ Ext X.K ρ1 H1 ρ' H' ∧ IsSt X.K ρ' H' σ' σV' ∧ forL G.kp lo src a g m (i + 1) σ' S' = r0, fun σ' H' h => ⟨m, Nat.lt_succ_self m, h⟩, fun x H3 hy => ?_⟩
        obtain ⟨ρ3, r3, e3, ix⟩ := step x H3 hy
        have e13 := e2.trans e3
        cases za : a d with
        | none => rw [za] at hl; subst hl; exact q1.elim
        | some l =>
          rw [za] at hl
          dsimp only at hl
          refine ⟨ρ3, S2, s2, d, r3, hs2.ext e3, ix, l, za, fun σV4 hs4 _ => ⟨ρ3, S2, _, r3, hs4, ?_⟩⟩
          have go : ∀ {s3 : Sig} {S3 : Sto} {kk : StF}, cutK G.kp lo s2 S2 s3 S3 kk = r0 → ∀ ρ4 H4 σ4, R X.K ρ4 H4 S3 → Ext X.K ρ3 H3 ρ4 H4 → IsSt X.K ρ4 H4 s3 σ4 → ∃ ρ' S' σ', R X.K ρ' H4 S' ∧ Ext X.K ρ1 H1 ρ' H4 ∧ IsSt X.K ρ' H4 σ' σ4 ∧ kk σ' S' = r0 := fun {s3 S3 kk} hc ρ4 H4 σ4 r4 e4 hs4 => by
            unfold cutK at hc
            split at hc
            · rename_i p hp
              obtain ⟨p1, p2⟩ := p
              obtain ⟨ρ', g1, g2, g3⟩ := cut_ok c.c.kpo r3 r4 e4 hs4 hp
              exact ⟨ρ', p2, p1, g1, e13.trans g2, g3, hc⟩
            · subst hc; exact q1.elim
          cases zb : g (sets s2 l) S2 with
          | no => rw [zb] at hl; subst hl; exact q1.elim
          | next s3 S3 => rw [zb] at hl; exact fun ρ4 H4 σ4 r4 e4 hs4 => go hl ρ4 H4 σ4 r4 e4 hs4
          | cont s3 S3 => rw [zb] at hl; exact fun ρ4 H4 σ4 r4 e4 hs4 => go hl ρ4 H4 σ4 r4 e4 hs4
          | brk s3 S3 =>
            rw [zb] at hl
            intro ρ4 H4 σ4 r4 e4 hs4
            obtain ⟨ρ', S', σ', g1, g2, g3, g4⟩ := go hl ρ4 H4 σ4 r4 e4 hs4
            subst g4
            exact q1 ρ' H4 σ4 g1 g2 g3
          | ret d S3 => rw [zb] at hl; subst hl; exact PostS.ext (r := .ret d S3) e13 q1
          | exc c' s3 S3 => rw [zb] at hl; subst hl; exact PostS.ext (r := .exc c' s3 S3) e13 q1
end
end Dp
end
section
set_option Elab.async false
set_option linter.all false
set_option maxRecDepth 100000
set_option maxHeartbeats 4000000
namespace Dp
open PySem PySem.Spec PyProof.Rows L2
theorem sets_perm {l l' : List (Nat × D)} (p : l.Perm l') : (l.map (·.1)).Nodup → ∀ σ, sets σ l = sets σ l' := by
  induction p with
  | nil => intro _ _; rfl
  | cons x p ih =>
    intro nd σ
    exact ih (List.nodup_cons.mp nd).2 _
  | swap x y l =>
    intro nd σ
    have h := (List.nodup_cons.mp nd).1
    have ne : y.1 ≠ x.1 := fun z => h (by show y.1 ∈ _; rw [z]; exact List.mem_cons_self)
    show sets ((σ.set y.1 (some y.2)).set x.1 (some x.2)) l = sets ((σ.set x.1 (some x.2)).set y.1 (some y.2)) l
    rw [List.set_comm _ _ ne]
  | trans p q ih1 ih2 =>
    intro nd σ
    rw [ih1 nd, ih2 ((p.map (·.1)).nodup_iff.mp nd)]
section
variable {K : PySem.W.Frag} {W : WX} {X : Cx} {G : Gam} {k : Nat}
/-- stores one after another -/
theorem storeAll (hN : X.N.Nodup) {E : Value → Shared → Prop} {ρ : List Addr} {pins : List (Addr × Obj)} {H : Hp} : ∀ {ns : List Str} {l : List (Nat × D)} {vs : List V} {us : List Value} {σ : Sig} {σV : L2.St} {s : Shared} {Q : Unit → Shared → Prop},
    ns.length = l.length → (∀ (j : Nat) x p, ns[j]? = some x → l[j]? = some p → X.N[p.1]? = some x ∧ L2.Loc X.env.scope x ∧ (X.fn x = true ∨ X.env.scope.names.lookup x = some .local)) →
    IsAll K ρ H (l.map (·.2)) vs → Vals vs us → Inv X pins σV H s → IsSt K ρ H σ σV → (∀ s' σV', Inv X pins σV' H s' → IsSt K ρ H (sets σ l) σV' → Q () s') →
    wpAny (model X.prog X.w) X.A (assignInOrder (ns.map fun n => bindName X.env n) us) Q E s
  | [], [], vs, us, σ, σV, s, Q, _, _, ia, r, I, hs, q => assignInOrder_nil (q s σV I hs)
  | [], _ :: _, _, _, _, _, _, _, h, _, _, _, _, _, _ => by cases h
  | _ :: _, [], _, _, _, _, _, _, h, _, _, _, _, _, _ => by cases h
  | x :: ns, p :: l, vs, us, σ, σV, s, Q, h, hx, ia, r, I, hs, q => by
    obtain ⟨v, vr, rfl, i1, i2⟩ := ia.uncons
    cases r with
    | cons rv rr =>
      obtain ⟨h1, h2, h3⟩ := hx 0 x p rfl rfl
      refine assignInOrder_cons (wpAny_bindName (store_ok I hN h1 h2 rv (fun s1 I1 => ?_) h3))
      exact storeAll hN (Nat.succ.inj h) (fun j y p' e1 e2 => hx (j + 1) y p' e1 e2) i2 rr I1 (hs.set p.1 i1) q
theorem nmOf_asg {N : List Str} {sc sc' : Scope} {line : Nat} : ∀ {ts : List Expr} {ns : List Str} {ds : List D} {l : List (Nat × D)}, nmOf sc line ts = some ns → asgL N sc' ts ds = some l →
    ns.length = l.length ∧ l.map (·.2) = ds ∧ ∀ (j : Nat) x p, ns[j]? = some x → l[j]? = some p → N[p.1]? = some x ∧ locB sc' x = true
  | [], ns, ds, l, h, e => by
    cases h
    cases ds with
    | nil => unfold asgL at e; cases e; exact ⟨rfl, rfl, fun j x p h1 => by simp at h1⟩
    | cons _ _ => unfold asgL at e; cases e
  | t :: ts, ns, ds, l, h, e => by
    cases t with
    | Name x p =>
      unfold nmOf at h
      split at h
      · cases z : nmOf sc line ts with
        | none => rw [z] at h; cases h
        | some ns' =>
          rw [z] at h; cases h
          cases ds with
          | nil => unfold asgL at e; cases e
          | cons d ds =>
            unfold asgL at e
            split at e
            · rename_i a b e1 e2
              cases e
              obtain ⟨h1, h2, h3⟩ := nmOf_asg z e2
              unfold asgE at e1
              split at e1
              · rename_i hl
                cases zs : slot N sc' x with
                | none => rw [zs] at e1; cases e1
                | some i =>
                  rw [zs] at e1; cases e1
                  refine ⟨by simp [h1], by simp [h2], fun j y p' g1 g2 => ?_⟩
                  cases j with
                  | zero => cases g1; cases g2; exact ⟨(slot_some zs).2.2, hl⟩
                  | succ j => exact h3 j y p' g1 g2
              · cases e1
            · cases e
      · cases h
    | _ => unfold nmOf at h; cases h
theorem nmOf_len {sc : Scope} {line : Nat} : ∀ {ts : List Expr} {ns : List Str}, nmOf sc line ts = some ns → ns.length = ts.length ∧
    (ts.filterMap fun
      | .Name id pos => if sc.names.lookup id == some .local && pos.line == line then some id else none
      | _ => none) = ns
  | [], ns, h => by cases h; exact ⟨rfl, rfl⟩
  | t :: ts, ns, h => by
    cases t with
    | Name x p =>
      unfold nmOf at h
      split at h
      · rename_i hc
        cases z : nmOf sc line ts with
        | none => rw [z] at h; cases h
        | some ns' =>
          rw [z] at h; cases h
          obtain ⟨h1, h2⟩ := nmOf_len z
          refine ⟨by simp [h1], ?_⟩
          rw [List.filterMap_cons]
          simp only [hc, if_true]
          rw [h2]
      · cases h
    | _ => unfold nmOf at h; cases h
theorem nmOf_none {sc : Scope} {line : Nat} : ∀ {ts : List Expr}, nmOf sc line ts = none →
    (ts.filterMap fun
      | .Name id pos => if sc.names.lookup id == some .local && pos.line == line then some id else none
      | _ => none).length < ts.length
  | [], h => by cases h
  | t :: ts, h => by
    have le : ∀ (l : List Expr), (l.filterMap fun
      | .Name id pos => if sc.names.lookup id == some .local && pos.line == line then some id else none
      | _ => none).length ≤ l.length := fun l => List.length_filterMap_le _ l
    cases t with
    | Name x p =>
      unfold nmOf at h
      split at h
      · rename_i hc
        cases z : nmOf sc line ts with
        | none =>
          have ih := nmOf_none z
          rw [List.filterMap_cons]
          simp only [hc, if_true]
          simp only [List.length_cons]
          omega
        | some ns => rw [z] at h; cases h
      · rename_i hc
        rw [List.filterMap_cons]
        simp only [hc, if_false]
        have := le ts
        simp only [List.length_cons, Bool.false_eq_true, if_false]
        omega
    | _ =>
      rw [List.filterMap_cons]
      have := le ts
      simp only [List.length_cons]
      omega
def nmF (sc : Scope) (line : Nat) : Expr → Option Str
  | .Name id pos => if sc.names.lookup id == some .local && pos.line == line then some id else none
  | _ => none
theorem swC_ok {env : Env} (hk : env.scope.kind = .function) {ts vs : List Expr} {o : Option (List Str)} (h : swC env.scope ts vs = some o) {a j : Nat} {b p : Pos} :
    swappedStores [.Tuple ts a b] (.Tuple vs j p) env = pure o := by
  have hb : env.blockKind = .function := by unfold Env.blockKind; rw [hk]; rfl
  unfold swC at h
  unfold swappedStores
  simp only [hb]
  generalize hst : (vs.any _) = bst
  have e1 : bst = vs.any isStar := by
    rw [← hst]
    congr 1
  generalize hnm : (List.filterMap _ ts) = names
  have e2 : names = ts.filterMap (nmF env.scope ((ts.head?.map (·.pos.line)).getD 0)) := by
    rw [← hnm]
    congr 1
  have f1 : ∀ {ns : List Str}, nmOf env.scope ((ts.head?.map (·.pos.line)).getD 0) ts = some ns → ns.length = ts.length ∧ names = ns := fun {ns} z => by
    obtain ⟨g1, g2⟩ := nmOf_len z
    refine ⟨g1, ?_⟩
    rw [e2, ← g2]
    congr 1
  have f2 : nmOf env.scope ((ts.head?.map (·.pos.line)).getD 0) ts = none → names.length < ts.length := fun z => by
    have g := nmOf_none z
    rw [e2]
    exact g
  clear hst hnm e2
  subst e1
  by_cases h1 : (!(ts.length == 2 || ts.length == 3) || vs.length != ts.length) = true
  · rw [if_pos h1] at h
    cases h
    have e : (!(ts.length == 2 || ts.length == 3) || vs.length != ts.length || ScopeKind.function != .function) = true := by rw [h1]; rfl
    simp only [e, if_true]
  · rw [if_neg h1] at h
    have e : (!(ts.length == 2 || ts.length == 3) || vs.length != ts.length || ScopeKind.function != .function) = false := by
      have h1 : (!(ts.length == 2 || ts.length == 3) || vs.length != ts.length) = false := by simpa using h1
      rw [h1]; rfl
    simp only [e, Bool.false_eq_true, if_false]
    by_cases h2 : vs.any isStar = true
    · rw [if_pos h2] at h
      cases h
      simp only [h2, if_true]
    · rw [if_neg h2] at h
      simp only [h2]
      cases z : nmOf env.scope ((ts.head?.map (·.pos.line)).getD 0) ts with
      | none =>
        rw [z] at h
        cases h
        have g := f2 z
        have e3 : (names.length != ts.length || names.eraseDups.length != names.length) = true := by
          have : (names.length != ts.length) = true := by simp; omega
          rw [this]; rfl
        simp only [e3, if_true]
        rfl
      | some ns =>
        rw [z] at h
        obtain ⟨g1, rfl⟩ := f1 z
        dsimp only at h
        by_cases h3 : (names.eraseDups.length != names.length) = true
        · rw [if_pos h3] at h; cases h
        · rw [if_neg h3] at h
          have e3 : (names.length != ts.length || names.eraseDups.length != names.length) = false := by
            have h3' : (names.eraseDups.length != names.length) = false := by simpa using h3
            rw [h3', g1]; simp
          simp only [e3, Bool.false_eq_true, if_false]
          by_cases h4 : vs.all (foldedForSure 8) = true
          · rw [if_pos h4] at h
            cases h
            simp only [h4, if_true]
          · rw [if_neg h4] at h
            simp only [h4]
            by_cases h5 : vs.all (constantsAlone 8) = true
            · rw [if_pos h5] at h; cases h
            · rw [if_neg h5] at h
              cases h
              simp only [h5]
              rfl
theorem asgTup {N : List Str} {sc : Scope} {ts : List Expr} {a : Nat} {b : Pos} {d : D} {l : List (Nat × D)} (h : asgE N sc (.Tuple ts a b) d = some l) : ∃ ds, tupOf d = some ds ∧ asgL N sc ts ds = some l := by
  cases d with
  | tup ds => unfold asgE at h; exact ⟨ds, rfl, h⟩
  | kt ks => unfold asgE at h; exact ⟨_, rfl, h⟩
  | _ => unfold asgE at h; cases h
theorem par_ok (c : SCtx X G W k) {ts vs : List Expr} {a j : Nat} {b p pos : Pos} {f : EvF} (he : PE X (.Tuple vs j p) (LE X.K W f)) {o : Option (List Str)} (hsw : swC X.env.scope ts vs = some o) :
    PS X (.Assign [.Tuple ts a b] (.Tuple vs j p) pos) (LS X.K W fun σ S => (f σ S).st σ fun d S1 => match asgE G.N X.env.scope (.Tuple ts a b) d with
        | some l => if o.isNone = true ∨ (l.map (·.1)).Nodup then .next (sets σ l) S1 else .no
        | none => .no) := by
  have hw := swC_ok (env := X.env) c.c.kind hsw (a := a) (b := b) (j := j) (p := p)
  have hN := c.c.N
  cases o with
  | none =>
    have hg := asgE_ok (X := X) c.c.nd c.c.calm c.stores (.Tuple ts a b)
    refine ps_mono (ps_asg he hg rfl hw rfl) fun E σV H q => ?_
    refine (LS.st (kk := fun d σ S1 => match asgE G.N X.env.scope (.Tuple ts a b) d with
        | some l => if (none : Option (List Str)).isNone = true ∨ (l.map (·.1)).Nodup then .next (sets σ l) S1 else .no
        | none => .no) q).mono fun x H1 ⟨ρ1, S1, σ1, d, r1, hs1, i1, q1⟩ => ?_
    rw [hN]
    cases z : asgE G.N X.env.scope (.Tuple ts a b) d with
    | none => rw [z] at q1; exact q1.elim
    | some l =>
      rw [z] at q1
      dsimp only at q1
      rw [if_pos (.inl rfl)] at q1
      exact ⟨ρ1, S1, σ1, d, r1, hs1, i1, l, z, fun σV' hs' _ => q1 ρ1 H1 σV' r1 .refl hs'⟩
  | some ns =>
    refine ⟨fun pins s σV H E I q => ?_⟩
    rw [exec_Assign_arm]
    refine wpAny_bind (wpAny_standAt ?_)
    show wpAny _ _ (pure false >>= _) _ _ _
    refine wpAny_bind (wpAny_pure ?_)
    rw [if_neg (by decide)]
    refine wpAny_bind (thn (he.run pins s σV H _ I (LS.st (kk := fun d σ S1 => match asgE G.N X.env.scope (.Tuple ts a b) d with
        | some l => if (some ns).isNone = true ∨ (l.map (·.1)).Nodup then .next (sets σ l) S1 else .no
        | none => .no) q)) fun u s1 ⟨x, H1, I1, r1, ρ1, S1, σ1, d, rr, hs1, i1, q1⟩ => ?_)
    rw [hw]
    refine wpAny_bind (wpAny_pure ?_)
    cases z : asgE G.N X.env.scope (.Tuple ts a b) d with
    | none => rw [z] at q1; exact q1.elim
    | some l =>
      rw [z] at q1
      dsimp only at q1
      split at q1
      · rename_i hnd
        have hnd : (l.map (·.1)).Nodup := hnd.resolve_left (by simp)
        obtain ⟨ds, hds, hl⟩ := asgTup z
        have hns : nmOf X.env.scope ((ts.head?.map (·.pos.line)).getD 0) ts = some ns := by
          unfold swC at hsw
          split at hsw
          · cases hsw
          · split at hsw
            · cases hsw
            · split at hsw
              · cases hsw
              · rename_i ns' e
                split at hsw
                · cases hsw
                · split at hsw
                  · cases hsw
                  · split at hsw
                    · cases hsw
                    · cases hsw; exact e
        obtain ⟨n1, n2, n3⟩ := nmOf_asg hns hl
        obtain ⟨adr, xs, rfl, ha, ra⟩ := Is.tupOf hds i1
        cases r1
        obtain ⟨its, rv, ht, _⟩ := I1.tuple ha
        have hlen : its.toArray.size = ns.length := by
          rw [List.size_toArray, ← rv.length, ← ra.length, ← n2, List.length_map, n1]
        show wpAny _ _ (do rule "assign.swapped-stores"; let items ← unpackItems (.ref adr) ns.length none; assignInOrder (ns.reverse.map fun n => bindName X.env n) items.reverse; pure Flow.next) _ _ _
        refine wpAny_bind (wpAny_rule (wpAny_bind ?_))
        rw [← hlen]
        refine unpackItems_tuple (I1.ok.hd c.c.calm) ht fun h' hx => ?_
        have I2 := I1.kept (h' := h') (t' := s1.toks) fun b o e => hx b o (Nat.ne_of_lt (Heap.lt_size e)) e
        have ra' : IsAll X.K ρ1 H1 (l.map (·.2)) xs := by rw [n2]; exact ra
        refine wpAny_bind (storeAll (E := X.xe) c.c.nd (ρ := ρ1) (l := l.reverse) (by simp [n1]) (fun jj y pp e1 e2 => ?_) (by rw [List.map_reverse]; exact ra'.reverse) (by
          have : Vals xs.reverse its.reverse := by
            have gen : ∀ {as : List V} {bs : List Value}, Vals as bs → Vals as.reverse bs.reverse := by
              intro as bs h
              induction h with
              | nil => exact .nil
              | cons r t ih =>
                rw [List.reverse_cons, List.reverse_cons]
                exact ih.append (.cons r .nil)
            exact gen rv
          simpa using this) I2 hs1 fun s3 σV3 I3 hs3 => wpAny_pure ?_)
        · have hj : jj < ns.length := by
            have := (List.getElem?_eq_some_iff.mp e1).1
            simpa using this
          rw [List.getElem?_reverse hj] at e1
          rw [List.getElem?_reverse (by rw [← n1]; exact hj)] at e2
          obtain ⟨g1, g2⟩ := n3 (ns.length - 1 - jj) y pp e1 (by rw [n1]; exact e2)
          exact ⟨by rw [hN]; exact g1, (c.stores y g2).1, (c.stores y g2).2⟩
        · refine ⟨σV3, H1, I3, q1 ρ1 H1 σV3 rr .refl ?_⟩
          rw [sets_perm (List.reverse_perm l).symm hnd σ1]
          exact hs3
      · exact q1.elim
end
end Dp
end
section
set_option Elab.async false
set_option linter.all false
set_option maxRecDepth 100000
set_option maxHeartbeats 4000000
namespace Dp
open PySem PySem.Spec PyProof.Rows L2
section
variable {X : Cx} {pins : List (Addr × Obj)} {σ : L2.St} {H : Hp} {s : Shared}
/-- out of the suite, the exception's pin kept -/
theorem out_suite {a : Addr} {q : Addr × Obj} {pn : List (Addr × Obj)} (I : Inv (X.suite a (q :: (X.pn ++ pins))) pn σ H s) (ok : X.Ok) : Inv X (q :: pins) σ H s := by
  obtain ⟨_, b, c, d, e, f, g, h, i, j, l⟩ := I
  refine ⟨ok, b, c, d, e, f, g, h, fun p hp => i p (List.mem_append_left _ ?_), j, l⟩
  rcases List.mem_append.mp hp with z | z
  · exact List.mem_cons_of_mem _ (List.mem_append_left _ z)
  · rcases List.mem_cons.mp z with rfl | z
    · exact List.mem_cons_self
    · exact List.mem_cons_of_mem _ (List.mem_append_right _ z)
/-- an object that is pinned and was not there at the entry is tracked from now on -/
theorem track {a : Addr} {oe : Obj} {vs : Array Value} {cls : Value} {dd : Option Addr} (I : Inv X ((a, oe) :: pins) σ H s) (hz : Zc cls dd oe) (hd : oe.data = .fields vs) (h0 : X.s_0.heap.get? a = none) (hp : ∀ p ∈ X.pn ++ pins, p.1 ≠ a) :
    Inv X pins σ (upd H a (HeldO cls dd a)) s := by
  have hm : (a, oe) ∈ X.pn ++ (a, oe) :: pins := List.mem_append_right _ List.mem_cons_self
  obtain ⟨ga, na, nL, nF, nC⟩ := I.pin _ hm
  have ne : ∀ {b : Addr} {o : HO}, H b = some o → b ≠ a := fun e => ne_of_none e na
  have old : ∀ {b : Addr} {o : Obj}, X.s_0.heap.get? b = some o → b ≠ a := fun {b o} e z => by rw [z, h0] at e; cases e
  have cel : ∀ {y : Str} {c : Addr}, X.env.cells.lookup y = some c → c ≠ a := fun {y c} e z => by
    obtain ⟨w, o, ho, hw⟩ := I.cell y c e
    rw [z] at ho
    have ga' : s.heap.get? a = some oe := ga
    rw [ga'] at ho; cases ho
    exact nC w hw
  have u := I.base
  refine ⟨I.ok, I.os, I.bare, ⟨u.keep, u.slot, fun b o e n hx => ?_, u.there, fun b xs e => ?_, fun b o v e => ?_, fun b ps e => ?_⟩, I.loc, I.cell, ?_, fun y c e => ?_, fun p hq => ?_, ?_, I.len⟩
  · rw [upd_ne (old e)]; exact u.free b o e n hx
  · have z := u.tups b xs e
    rw [upd_ne (ne z)]; exact z
  · have z := u.frzs b o v e
    rw [upd_ne (ne z)]; exact z
  · obtain ⟨m, z⟩ := u.tbls b ps e
    exact ⟨m, by rw [upd_ne (ne z)]; exact z⟩
  · rw [upd_ne (Ne.symm nL)]; exact I.free
  · rw [upd_ne (cel e)]; exact I.freeC y c e
  · have hq' : p ∈ X.pn ++ (a, oe) :: pins := (List.mem_append.mp hq).elim (fun z => List.mem_append_left _ z) fun z => List.mem_append_right _ (List.mem_cons_of_mem _ z)
    obtain ⟨e1, e2, e3, e4, e5⟩ := I.pin p hq'
    exact ⟨e1, by rw [upd_ne (hp p hq)]; exact e2, e3, e4, e5⟩
  · intro b o e
    by_cases hb : b = a
    · subst hb
      rw [upd_same] at e; cases e
      exact ⟨⟨oe, vs, ga, hz, hd⟩, ⟨oe, ga⟩, fun h1 h2 ⟨o, w, q, r⟩ st => ⟨o, w, st o q, r⟩⟩
    · rw [upd_ne hb] at e
      exact (I.hok b o e).stay (fun _ _ _ q => q) (fun c q => by rw [upd_ne (ne q)]; exact q) fun c xs q => by rw [upd_ne (ne q)]; exact q
end
/-- what 'except x as n: y = n' wishes of an exception: slot i is n's, j is y's -/
def wHold (K : PySem.W.Frag) (c : Value) (i j : Nat) (Wout : WX) (D : Ends) : WX := fun cls d σ H =>
  ∃ b, PySem.W.exmOne K cls c = some b ∧ (b = true → ∀ a, H a = none → D.nx (((σ.set i (some (.ref a))).set j (some (.ref a))).set i none) (upd H a (HeldO cls d a))) ∧ (b = false → Wout cls d σ H)
section
variable {X : Cx} {x n y : Str} {c : Value} {i j : Nat} {body : List Stmt} {np pn1 py pa pos pos' : Pos} {tb : WX → TS} {Wout : WX}
theorem try_hold (hs : X.stack = X.env :: X.outer) (hf : X.env.frame = some X.env.locals) (hex : X.ex = []) (hN : X.N.Nodup) (hi : X.N[i]? = some n) (hln : X.env.kindOf n = some .local) (hj : X.N[j]? = some y) (hly : X.env.scope.names.lookup y = some .local)
    (hpn : plainN n = true) (hc : Names X x c) (tk : Takes X Wout)
    (hb : ∀ (W : WX) (pn : List (Addr × Obj)) (xe : Value → Shared → Prop), Takes (X.tr pn xe) W → PassesOwn (model X.prog X.w) X.A X.env xe → PSs (X.tr pn xe) body (tb W)) :
    PS X (.Try body [.ExceptHandler (some (.Name x np)) (some n) [.Assign [.Name y py] (.Name n pn1) pa] pos'] [] [] pos) (fun D σ H => tb (wHold X.K c i j Wout D) D σ H) := by
  constructor
  intro pins s σ H D I h
  have ok := I.ok
  have frames : X.A.frames = some (X.env :: X.outer) := by rw [ok.frames, hs]
  apply wpAny_Try_except
  let hdl : List ExceptHandler := [.ExceptHandler (some (.Name x np)) (some n) [.Assign [.Name y py] (.Name n pn1) pa] pos']
  let M := model X.prog X.w
  let air : Value → Shared → Prop := fun e s₁ => wpAny M X.A (noteFrame e X.env) (fun _ s₂ => wpAny M X.A (setFlight e none) (fun _ s₃ => wpAny M X.A (handleBy e X.env hdl) (SP X pins D) X.xe s₃) X.xe s₂) X.xe s₁
  have caught : Takes (X.tr (X.pn ++ pins) air) (wHold X.K c i j Wout D) := by
    rintro u s' ⟨a, B, sA, pins', σ', H', cls, d, rfl, J', keepB, up, air0, fresh0, os0, gens0, b, hb1, hyes, hno⟩
    have JJ : Inv X pins σ' H' sA := J'.ofTry ok
    have air1 : Sky B (X.env :: X.outer) a (Zc cls d) X.env.locals s'.heap := by rw [← hs]; exact air0
    show wpAny M X.A (noteFrame (.ref a) X.env) _ _ _
    apply Sky.land Zc.steady frames hf air1
    intro h3 gl3 vp3
    have L3 : Inv X pins σ' H' { s' with heap := h3 } := JJ.landed keepB gl3.1 (up.trans vp3) os0 gens0
    have away : ∀ {h : Heap} {o : Obj} {vs : Array Value}, h.FunFrames B (X.env :: X.outer) → h.get? a = some o → o.data = .fields vs → a ∉ frs (X.env :: X.outer) := by
      intro h o vs ff e dd hm
      obtain ⟨_, o', e', hnf⟩ := ff.mem hm
      rw [e] at e'; cases e'
      exact hnf _ dd
    obtain ⟨ob3, us3, at3, zz3, dt3⟩ := gl3.there
    have apart := away gl3.2.2.1 at3 dt3
    have neL : a ≠ X.env.locals := fun z => apart (List.mem_filterMap.mpr ⟨X.env, List.mem_cons_self, by rw [hf, z]⟩)
    have neF : a ∉ X.fs := fun hm => by
      obtain ⟨e, he, q⟩ := List.mem_filterMap.mp hm
      exact apart (List.mem_filterMap.mpr ⟨e, List.mem_cons_of_mem _ he, q⟩)
    -- the exception is newer than all that sA has
    have newI : sA.heap.get? a = none := by
      cases e : sA.heap.get? a with
      | none => rfl
      | some o =>
        have z := keepB a o e (by rw [hs]; exact apart)
        rw [gl3.2.1] at z; cases z
    have new0 : X.s_0.heap.get? a = none := by
      cases e : X.s_0.heap.get? a with
      | none => rfl
      | some o =>
        obtain ⟨o', z⟩ := JJ.base.there a o e (by rw [hex]; exact fun z => nomatch z)
        rw [newI] at z; cases z
    have newP : ∀ p ∈ X.pn ++ pins, p.1 ≠ a := fun p hp z => by
      have e := (JJ.pin p hp).1
      rw [z, newI] at e; cases e
    have T3 := L3.suite at3 dt3 fresh0 neL neF
    refine wpAny_handleBy_cons (codeAny_handlers_test ?_) (by intro q; cases q)
    have LT : PySem.W.Looks M h3 (typeOf (.ref a)) cls := fun A Q E s k q => wpAny_typeOf_ref (k _ _ at3) (by rw [zz3.1]; exact q)
    have LM := PySem.W.exm_one (M := M) (L3.kIn) LT hb1
    have test : ∀ {Q E : Value → Shared → Prop}, Q c { s' with heap := h3 } → wpAny M (X.A.mark (some (.ref a))) (eval (.Name x np) X.env) Q E { s' with heap := h3 } := by
      intro Q E q
      obtain ⟨hg, hdb, hm | ⟨hm, hv, hnn⟩⟩ := hc
      · exact ld_glob (X := X.suite a ((a, ob3) :: (X.pn ++ pins))) T3 hg hm q hdb
      · exact ld_blt (X := X.suite a ((a, ob3) :: (X.pn ++ pins))) T3 hg hm hv q hnn hdb
    refine test (LM.here ?_)
    cases b with
    | true =>
      apply codeAny_handlers_suite_as
      apply HandSPX.lands_againZ gl3
      intro h4 gl4 vp4
      have L4 : Inv X pins σ' H' { s' with heap := h4 } := JJ.landed keepB gl4.1 ((up.trans vp3).trans vp4) os0 gens0
      obtain ⟨ob4, us4, at4, zz4, dt4⟩ := gl4.there
      have T4 := L4.suite at4 dt4 fresh0 neL neF
      refine store_ok (X := X.suite a ((a, ob4) :: (X.pn ++ pins))) (v := .ref a) T4 hN hi (.inl hln) rfl (fun s5 S5 => ?_) (.inr hln)
      have suite := pss_one (ps_set (X := X.suite a ((a, ob4) :: (X.pn ++ pins))) (i := j) (pos := pa) (pos' := py) hN hj (.inl hly) (pe_var (pos := pn1) hi (.inl hln) (plain_d hpn).1 (plain_d hpn).2) rfl (.inr hly))
      have hlen : i < σ'.length := by rw [JJ.len]; exact (List.getElem?_eq_some_iff.mp hi).1
      refine wpAny_mono (suite.run [] s5 _ H' { nx := fun σ6 H6 => σ6 = (σ'.set i (some (.ref a))).set j (some (.ref a)) ∧ H6 = H', rt := fun _ _ => False } S5 ⟨.ref a, List.getElem?_set_self hlen, rfl, rfl⟩) (fun f s6 hsp => ?_) (fun _ _ z => False.elim z)
      match f, hsp with
      | .next, hsp =>
        obtain ⟨σ6, H6, S6, e6, e7⟩ := hsp
        subst e6 e7
        refine gone_ok (out_suite S6 ok) hN hi hln fun s7 J7 => ?_
        exact ⟨_, _, track J7 zz4 dt4 new0 newP, hyes rfl a fresh0⟩
      | .ret u, hsp => obtain ⟨_, _, _, _, _, z⟩ := hsp; exact z.elim
      | .brk, hsp => obtain ⟨_, _, _, z⟩ := hsp; exact False.elim z
      | .cont, hsp => obtain ⟨_, _, _, z⟩ := hsp; exact False.elim z
    | false =>
      show wpAny M X.A (handleBy (.ref a) X.env []) _ _ _
      apply wpAny_handleBy_nil
      obtain ⟨k1, k2, k3, oe, vs, T, oT, ts', he, hz, hd, h1, hr⟩ := id gl3
      unfold PySem.passOn
      apply wpAny_bind (wpAny_field he hd h1 _)
      have nT : ¬ ((Value.ref T == Value.none) = true) := by simp
      rw [if_neg nT]
      have fin : wpAny M X.A (setFlight (.ref a) X.env.frame) (fun _ s4 => wpAny M X.A (throw (.ref a) : Sem Flow) (SP X pins D) X.xe s4) X.xe { s' with heap := h3 } := by
        rw [hf]
        apply HandSPX.setFlight_upZ gl3
        intro h4 hk4 vp4
        apply wpAny_throw (tk _ _ _)
        exact ⟨a, B, sA, pins, σ', H', cls, d, rfl, JJ, keepB, (up.trans vp3).trans vp4, .inr (.inr (by rw [hs]; exact hk4)), fresh0, os0, gens0, hno rfl⟩
      first
        | exact wpAny_bind (wpAny_pure (wpAny_bind fin))
        | exact wpAny_bind fin
  refine wpAny_mono ((hb _ (X.pn ++ pins) air caught PassesOwn.looking).run [] s σ H D (I.toTry _) h) (fun f s1 hsp => ?_) (fun e s1 he => he)
  match f, hsp with
  | .next, hsp => obtain ⟨σ', H', J', q⟩ := hsp; exact wpAny_execs_nil ⟨σ', H', J'.ofTry ok, q⟩
  | .brk, hsp => obtain ⟨σ', H', J', q⟩ := hsp; exact ⟨σ', H', J'.ofTry ok, q⟩
  | .cont, hsp => obtain ⟨σ', H', J', q⟩ := hsp; exact ⟨σ', H', J'.ofTry ok, q⟩
  | .ret u, hsp => obtain ⟨v, σ', H', J', r, q⟩ := hsp; exact ⟨v, σ', H', J'.ofTry ok, r, q⟩
end
end Dp
end
section
set_option Elab.async false
set_option linter.all false
set_option maxRecDepth 100000
set_option maxHeartbeats 4000000
namespace Dp
open PySem PySem.Spec PyProof.Rows L2
section
variable {K : PySem.W.Frag} {W : WX} {X : Cx} {G : Gam} {k : Nat}
theorem Ctx.tr (c : Ctx X G W k) {W' : WX} {pn : List (Addr × Obj)} {xe : Value → Shared → Prop} (tk : Takes (X.tr pn xe) W')
    (hlam : X.env.scope.names = G.sc0 → ∀ x params body scope lpos p pos, PE (X.tr pn xe) (.Call (.Name x p) [.Lambda params body scope lpos] [] pos) (LE X.K W' (G.lamc x params body scope))) : Ctx (X.tr pn xe) G W' k :=
  ⟨c.calm, c.kind, c.nd, c.N, c.room, c.gd, tk, c.glob, c.kpo, c.blt, hlam, c.exq, c.kio, c.kit, c.isx, c.rz, c.fnl, c.fns, c.ini, c.atr⟩
theorem SCtx.tr (c : SCtx X G W k) {W' : WX} {pn : List (Addr × Obj)} {xe : Value → Shared → Prop} (tk : Takes (X.tr pn xe) W') (hp : PassesOwn (model X.prog X.w) X.A X.env xe) : SCtx (X.tr pn xe) G W' k :=
  ⟨c.c.tr tk (c.lamT W' pn xe tk), hp, c.fn, c.hs, c.hf, c.hex, c.lamT, c.act⟩
theorem names_of (c : Ctx X G W k) {x C : Str} (h1 : glB X.env.scope x = true) (h2 : plainN x = true) (h : G.glob x = some (.con C)) : Names X x (.ref (He.ga X.K C)) := by
  obtain ⟨u, v, rv, iv, hm⟩ := c.glob x _ h
  have e := iv [] (fun _ => none)
  unfold Is at e
  subst e
  cases rv
  exact ⟨gl_of h1, (plain_d h2).1, hm⟩
theorem slot_at (c : Ctx X G W k) {x : Str} {i : Nat} (h : slot G.N X.env.scope x = some i) : X.N[i]? = some x := by
  rw [c.N]; exact (slot_some h).2.2
theorem raise_ok (c : SCtx X G W k) {x m : Str} {j : Nat} {p p2 pos pos' : Pos} : PS X (.Raise (some (.Call (.Name x p) [.Constant (.str m) j p2] [] pos)) none pos') (LS X.K W fun σ S => if glB X.env.scope x = true ∧ plainN x = true then (match G.glob x with
      | some (.con C) => (match G.attr C with
        | some none => .exc ⟨C, none⟩ σ S
        | _ => .no)
      | _ => .no) else .no) := by
  by_cases hg : glB X.env.scope x = true ∧ plainN x = true
  · simp only [if_pos hg]
    split
    · rename_i C e
      split
      · rename_i e2
        obtain ⟨h1, h2, h3, h4⟩ := c.c.rz x C e e2
        refine ps_mono (ps_raise c.c.calm c.c.tk (pmk_own PySem.F.excBase_ValueError h3 h1 h2 h4 (gl_of hg.1) (plain_d hg.2).1)) fun E σV H ⟨ρ, S, σ, r, hs, q⟩ => ?_
        exact q ρ H σV (.ref (He.ga X.K C)) none r .refl hs ⟨rfl, rfl⟩
      · exact ps_no fun _ _ => rfl
    · exact ps_no fun _ _ => rfl
  · exact ps_no fun _ _ => if_neg hg
theorem raiseX_ok (c : SCtx X G W k) {x : Str} {a : Expr} {f : Expr → EvF} (hf : ∀ e, PE X e (LE X.K W (f e))) {p pos pos' : Pos} : PS X (.Raise (some (.Call (.Name x p) [a] [] pos)) none pos') (LS X.K W fun σ S => if glB X.env.scope x = true ∧ plainN x = true ∧ isStar a = false then (match G.glob x with
      | some (.con C) => (match G.attr C with
        | some (some at_) => (evL f [a] σ S).st σ fun ds S1 => raX C at_ ds σ S1
        | _ => .no)
      | _ => .no) else .no) := by
  by_cases hg : glB X.env.scope x = true ∧ plainN x = true ∧ isStar a = false
  · simp only [if_pos hg]
    split
    · rename_i C e
      split
      · rename_i n e2
        refine ps_mono (ps_raise c.c.calm c.c.tk (pmk_ini (c.c.ini x C n e e2) (c.c.room.mono (by omega)) (gl_of hg.1) (plain_d hg.2.1).1 (evL_ok hf [a]) hg.2.2)) fun E σV H q => ?_
        refine (LS.st (kk := fun ds σ S1 => raX C n ds σ S1) q).mono fun vs H1 ⟨ρ1, S1, σ1, ds, r, hs, ia, q1⟩ => ?_
        match ds, ia, q1 with
        | [d], ia, q1 =>
          obtain ⟨v, vs', rfl, i, i2⟩ := ia.uncons
          rw [i2.nil_eq]
          refine ⟨v, rfl, fun b hb => ?_⟩
          have x1 : Ext X.K ρ1 H1 ρ1 (upd H1 b (.xd [(n, v)])) := ext_new hb
          exact q1 ρ1 _ σV _ (some b) (r.laid hb) x1 (hs.ext x1) ⟨rfl, b, v, rfl, upd_same, i.ext x1⟩
        | [], _, q1 => exact q1.elim
        | _ :: _ :: _, _, q1 => exact q1.elim
      · exact ps_no fun _ _ => rfl
    · exact ps_no fun _ _ => rfl
  · exact ps_no fun _ _ => if_neg hg
theorem tryR_post {C : Str} {i j : Nat} {E : Ends} {ρ : List Addr} {H : Hp} {r : SR} (hx : ∀ a b, G.isx a C = some b → PySem.W.exmOne K (.ref (He.ga K a)) (.ref (He.ga K C)) = some b) (q : PostS K W ρ H (tryR G C i j r) E) : PostS K (wHold K (.ref (He.ga K C)) i j W E) ρ H r E := by
  cases r with
  | exc c' σ1 S1 =>
    intro ρ' H' σV' cls dd r' e' hs' hc
    obtain ⟨rfl, ha⟩ := hc
    cases z : G.isx c'.cls C with
    | none => simp only [tryR, z] at q; exact q.elim
    | some b =>
      simp only [tryR, z] at q
      refine ⟨b, hx _ _ z, fun hb a na => ?_, fun hb => ?_⟩
      · subst hb
        have e2 := e'.trans (ext_new (K := K) (ρ := ρ') (o := HeldO (.ref (He.ga K c'.cls)) dd a) na)
        have ia : Is K ρ' (upd H' a (HeldO (.ref (He.ga K c'.cls)) dd a)) c'.d (.ref a) := by
          have ha2 := ExcA.ext (ext_new (K := K) (ρ := ρ') (o := HeldO (.ref (He.ga K c'.cls)) dd a) na) ha
          unfold ExcA at ha2
          unfold Exn.d
          cases z : c'.attr with
          | none =>
            rw [z] at ha2
            unfold Is
            exact ⟨a, dd, rfl, upd_same, .inl ⟨rfl, ha2, rfl⟩⟩
          | some p =>
            obtain ⟨n, d⟩ := p
            rw [z] at ha2
            obtain ⟨b, v, g1, g2, g3⟩ := ha2
            unfold Is
            exact ⟨a, dd, rfl, upd_same, .inr ⟨n, b, v, rfl, g1, g2, .cons g3 .nil⟩⟩
        exact q ρ' _ _ (r'.laid na) e2 ((((hs'.ext (ext_new na)).set i ia).set j ia).unset i)
      · subst hb
        exact q ρ' H' σV' _ dd r' e' hs' ⟨rfl, ha⟩
  | next σ' S' => exact q
  | brk σ' S' => exact q
  | cont σ' S' => exact q
  | ret d S' => exact q
  | no => exact q
theorem set_ok (c : SCtx X G W k) {x : Str} {p pos : Pos} {e : Expr} {f : EvF} (he : PE X e (LE X.K W f)) (hsw : swapsWith e (some (.Name x p)) pos.line X.env = pure false) (hl : locB X.env.scope x = true) {i : Nat} (hi : slot G.N X.env.scope x = some i) :
    PS X (.Assign [.Name x p] e pos) (LS X.K W fun σ S => (f σ S).st σ fun d S1 => .next (σ.set i (some d)) S1) := by
  refine ps_mono (ps_set c.c.nd (slot_at c.c hi) (loc_of hl) he hsw (.inl (c.fn x))) fun E σV H q => ?_
  refine (LS.st (kk := fun d σ S1 => SR.next (σ.set i (some d)) S1) q).mono fun v H1 ⟨ρ1, S1, σ, d, r1, hs1, i1, q1⟩ => ?_
  exact q1 ρ1 H1 _ r1 .refl (hs1.set i i1)
theorem swN {e : Expr} {x : Str} {p : Pos} {l : Nat} {env : Env} (h : isCompE e = false) : swapsWith e (some (.Name x p)) l env = pure false := by
  cases e <;> first | rfl | cases h
theorem swS {e : Expr} {t : Expr} {l : Nat} {env : Env} (h : isCompE e = false) : swapsWith e (some t) l env = pure false := by
  cases e <;> first | rfl | cases h
theorem swS2 {e : Expr} {o i : Expr} {p : Pos} {l : Nat} {env : Env} : swapsWith e (some (.Subscript o i p)) l env = pure false := by
  cases e <;> rfl
theorem swC1 {elt : Expr} {gs : List Comprehension} {scope : Scope} {pos p : Pos} {x : Str} {l : Nat} {env : Env} (hk : env.scope.kind = .function) :
    swapsWith (.ListComp elt gs scope pos) (some (.Name x p)) l env = pure (env.kindOf x == some .local && p.line == pos.line && !(scope.names.any fun (n, k) => n == x && (k == .local || k == .cell))) := by
  have hb : env.blockKind = .function := by unfold Env.blockKind; rw [hk]; rfl
  unfold swapsWith
  simp only [hb, Expr.pos]
  rfl
theorem setLc_ok (c : SCtx X G W k) {f : Scope → Expr → EvF} {t : Scope → Expr → TvF} (hf : ∀ X W, Ctx X G W k → ∀ e, PE X e (LE X.K W (f X.env.scope e))) (ht : ∀ X W, Ctx X G W k → ∀ e, PT X e (LT X.K W (t X.env.scope e)))
    {own : Bool} {x : Str} {p pos spos : Pos} {tg it elt : Expr} {ifs : List Expr} {scope : Scope} (hl : locB X.env.scope x = true) {i : Nat} (hi : slot G.N X.env.scope x = some i) :
    PS X (.Assign [.Name x p] (.ListComp elt [⟨tg, it, ifs, 0⟩] scope pos) spos) (LS X.K W fun σ S => (lcomp f t G own X.env.scope scope tg it elt ifs σ S).st σ fun d S1 => .next (σ.set i (some d)) S1) := by
  have sw := swC1 (elt := elt) (gs := [⟨tg, it, ifs, 0⟩]) (scope := scope) (pos := pos) (p := p) (x := x) (l := spos.line) c.c.kind
  by_cases hb : (blkC G.N X.env.scope scope (ownOf G.N scope) = true ∧ isSetE it = false) ∧ (L2.relS scope X.env.scope).names ≠ G.sc0
  · cases z : (X.env.kindOf x == some .local && p.line == pos.line && !(scope.names.any fun (n, k) => n == x && (k == .local || k == .cell))) with
    | false =>
      rw [z] at sw
      exact set_ok c (lcomp_ok c.c hf ht own tg it elt ifs scope pos) sw hl hi
    | true =>
      rw [z] at sw
      have hlocal : X.env.scope.names.lookup x = some .local := by
        rw [Bool.and_eq_true, Bool.and_eq_true] at z
        exact eq_of_beq z.1.1
      have hb' : blkC X.N X.env.scope scope (ownOf G.N scope) = true := by rw [c.c.N]; exact hb.1.1
      refine ps_mono (ps_setLc (own := ownOf G.N scope) (g := LG X.K (asgE G.N scope tg)) (tt := LT X.K (fun _ _ _ _ => False) (tstC t (L2.relS scope X.env.scope) ifs)) (te := LE X.K (fun _ _ _ _ => False) (f (L2.relS scope X.env.scope) elt)) c.c.calm c.c.nd (slot_at c.c hi) hlocal sw (src_ok c.c (hf X W c.c) tg it) (blkOk_by hb') (fun s H C cl fp => ?_) (fun s H C cl fp => ?_) (fun s H C cl fp => ?_) (noSet hb.1.2)) fun E σV H q => ?_
      · have h := asgE_ok (X := X.blk s H scope (compEnvC scope cl C X.env) fp) c.c.nd c.c.calm (blk_stores s H scope cl C fp) tg
        have e : (X.blk s H scope (compEnvC scope cl C X.env) fp).N = G.N := c.c.N
        rw [e] at h
        exact h
      · exact ptsC_ok (c.c.blk s H scope (compEnvC scope cl C X.env) fp (blkOk_by hb').kind hb.2) (ht _ _ (c.c.blk s H scope (compEnvC scope cl C X.env) fp (blkOk_by hb').kind hb.2)) ifs
      · exact hf _ _ (c.c.blk s H scope (compEnvC scope cl C X.env) fp (blkOk_by hb').kind hb.2) elt
      · refine lcomp_imp c.c.kpo (own := own) rfl hb ?_
        refine (LS.st (kk := fun d σ S1 => SR.next (σ.set i (some d)) S1) q).mono fun v H1 ⟨ρ1, S1, σ, d, r1, hs1, i1, q1⟩ => ?_
        exact q1 ρ1 H1 _ r1 .refl (hs1.set i i1)
  · refine ps_no fun σ S => ?_
    unfold lcomp
    rw [if_neg hb]
    rfl
theorem augI_ok (c : SCtx X G W k) {x : Str} {p pos : Pos} {e : Expr} {f : EvF} {op : Operator} {g : Int → Int → Int} (ho : L2.PIp X op (L2.ipI g)) (he : PE X e (LE X.K W f)) (hl : locB X.env.scope x = true) {i : Nat} (hi : slot G.N X.env.scope x = some i) :
    PS X (.AugAssign (.Name x p) op e pos) (LS X.K W (augR (some g) i f)) := by
  refine ps_mono (ps_aug c.c.nd (slot_at c.c hi) (loc_of hl) he ho (.inl (c.fn x))) fun E σV H ⟨ρ, S, σ, r, hs, q⟩ => ?_
  unfold augR at q
  split at q
  · rename_i g' a eg e1
    cases eg
    obtain ⟨v, e2, iv⟩ := hs.2 i _ e1
    refine ⟨v, e2, ρ, S, σ, r, hs, (PostS.st hs q).mono fun y H1 ⟨ρ1, S1, d, r1, x1, i1, q1⟩ => ?_⟩
    cases d with
    | int b => exact ⟨a, b, iv.int_eq, i1.int_eq, q1 ρ1 H1 _ r1 .refl ((hs.ext x1).set i Is.int')⟩
    | _ => exact q1.elim
  · exact q.elim
theorem aug_ok (c : SCtx X G W k) {x : Str} {p pos : Pos} {e : Expr} {f : EvF} {op : Operator} (he : PE X e (LE X.K W f)) (hl : locB X.env.scope x = true) {i : Nat} (hi : slot G.N X.env.scope x = some i) :
    PS X (.AugAssign (.Name x p) op e pos) (LS X.K W (augR (augI op) i f)) := by
  cases op with
  | Add => exact augI_ok c ip_add he hl hi
  | Sub => exact augI_ok c ip_sub he hl hi
  | _ => exact ps_no fun _ _ => rfl
theorem ex_all (G : Gam) (k : Nat) : ∀ n, ∀ X W, SCtx X G W k → ∀ s, PS X s (LS X.K W (ex G n X.env.scope s))
  | 0, X, W, _, s => ps_no fun _ _ => rfl
  | n + 1, X, W, c, s => by
    have evA := ev_all G k n
    have ih := ex_all G k n
    have hE := evA.1 X W c.c
    have hT := evA.2 X W c.c
    have hS := ih X W c
    have hSs := exs_ok hS
    unfold ex
    split
    · exact ps_mono ps_pass fun E σV H ⟨ρ, S, σ, r, hs, q⟩ => q ρ H σV r .refl hs
    · exact ps_mono ps_break fun E σV H ⟨ρ, S, σ, r, hs, q⟩ => q ρ H σV r .refl hs
    · exact ps_mono ps_continue fun E σV H ⟨ρ, S, σ, r, hs, q⟩ => q ρ H σV r .refl hs
    · exact ps_mono ps_doc fun E σV H ⟨ρ, S, σ, r, hs, q⟩ => q ρ H σV r .refl hs
    · rename_i a p1 p2 pos
      refine ps_mono (ps_expr (c.act W X.pn X.xe c.c.tk a p1 p2) (by rfl)) fun E σV H q => ?_
      refine (LS.st (kk := fun d σ S1 => SR.next σ S1) q).mono fun v H1 ⟨ρ1, S1, σ1, d, r1, hs1, i1, q1⟩ => ?_
      exact q1 ρ1 H1 _ r1 .refl hs1
    · rename_i e pos _ _
      by_cases hc : isCallE e = true
      · simp only [if_pos hc]
        refine ps_mono (ps_expr (hE e) (by cases e <;> first | rfl | cases hc)) fun E σV H q => ?_
        refine (LS.st (kk := fun d σ S1 => SR.next σ S1) q).mono fun v H1 ⟨ρ1, S1, σ, d, r1, hs1, i1, q1⟩ => ?_
        exact q1 ρ1 H1 _ r1 .refl hs1
      · exact ps_no fun σ S => if_neg hc
    · refine ps_mono (ps_ret (hE _)) fun E σV H q => ?_
      refine (LS.st (kk := fun d σ S1 => SR.ret d S1) q).mono fun v H1 ⟨ρ1, S1, σ, d, r1, hs1, i1, q1⟩ => ?_
      exact q1 ρ1 H1 v r1 .refl i1
    · exact ps_mono ps_retN fun E σV H ⟨ρ, S, σ, r, hs, q⟩ => q ρ H .non r .refl Is.non'
    · rename_i x p op e pos
      by_cases hl : locB X.env.scope x = true
      · simp only [if_pos hl]
        cases z : slot G.N X.env.scope x with
        | none => exact ps_no fun _ _ => rfl
        | some i => exact aug_ok c (hE e) hl z
      · exact ps_no fun σ S => if_neg hl
    · rename_i x p e pos
      by_cases hg : locB X.env.scope x = true ∧ isComp2 e = false
      · simp only [if_pos hg]
        cases z : slot G.N X.env.scope x with
        | none => exact ps_no fun _ _ => rfl
        | some i =>
          by_cases hc : isCompE e = false
          · exact set_ok c (hE e) (swN hc) hg.1 z
          · cases e with
            | ListComp elt gs scope p2 =>
              have hl := hg.1
              clear hg hc
              cases n with
              | zero => exact ps_no fun _ _ => by unfold ev; rfl
              | succ n =>
                by_cases hgs : ∃ tg it ifs, gs = [⟨tg, it, ifs, 0⟩]
                · obtain ⟨tg, it, ifs, rfl⟩ := hgs
                  have := setLc_ok c (ev_all G k n).1 (ev_all G k n).2 (own := G.own p2) (p := p) (pos := p2) (spos := pos) (tg := tg) (it := it) (elt := elt) (ifs := ifs) (scope := scope) hl z
                  unfold ev
                  exact this
                · refine ps_no fun σ S => ?_
                  have : ev G (n + 1) X.env.scope (.ListComp elt gs scope p2) = fun _ _ => .no := by
                    unfold ev
                    split <;> first | rfl | (rename_i h; cases h; exact absurd ⟨_, _, _, rfl⟩ hgs) | (rename_i h; cases h)
                  rw [this]
                  rfl
            | SetComp _ _ _ _ => exact absurd hg.2 (by simp [isComp2])
            | DictComp _ _ _ _ _ => exact absurd hg.2 (by simp [isComp2])
            | _ => exact absurd rfl hc
      · exact ps_no fun σ S => if_neg hg
    · rename_i ts a b vs j p pos
      cases z : swC X.env.scope ts vs with
      | none => exact ps_no fun _ _ => rfl
      | some o => exact par_ok c (hE _) z
    · rename_i ts a b e pos hne
      by_cases hc : isCompE e = true ∨ isTupleE e = true
      · exact ps_no fun σ S => if_pos hc
      · simp only [if_neg hc]
        simp only [not_or, Bool.not_eq_true] at hc
        have hN := c.c.N
        have hg := asgE_ok (X := X) c.c.nd c.c.calm c.stores (.Tuple ts a b)
        refine ps_mono (ps_asg (hE e) hg (show swapsWithSole [.Tuple ts a b] e pos.line X.env = pure false from swS (t := .Tuple ts a b) (l := pos.line) (env := X.env) hc.1) (by cases e <;> first | rfl | cases hc.2) rfl) fun E σV H q => ?_
        refine (LS.st (kk := fun d σ S1 => match asgE G.N X.env.scope (.Tuple ts a b) d with
          | some l => .next (sets σ l) S1
          | none => .no) q).mono fun x H1 ⟨ρ1, S1, σ1, d, r1, hs1, i1, q1⟩ => ?_
        rw [hN]
        cases z : asgE G.N X.env.scope (.Tuple ts a b) d with
        | none => rw [z] at q1; exact q1.elim
        | some l =>
          rw [z] at q1
          exact ⟨ρ1, S1, σ1, d, r1, hs1, i1, l, z, fun σV' hs' _ => q1 ρ1 H1 σV' r1 .refl hs'⟩
    · rename_i o i p e pos
      by_cases hsl : isSliceE i = true
      · exact ps_no fun σ S => if_pos hsl
      · simp only [if_neg hsl]
        refine ps_mono (ps_asg (hE e) (pg_sub (hE o) (hE i) (setA_ok (by have := c.c.hu; omega)) (by cases i <;> first | (intro _; rfl) | exact absurd rfl hsl)) (show swapsWithSole [.Subscript o i p] e pos.line X.env = pure false from swS2 (o := o) (i := i) (p := p) (l := pos.line) (env := X.env))) fun E σV H q => ?_
        refine (LS.st (kk := fun d σ S1 => (ev G n X.env.scope o σ S1).st σ fun x S2 => (ev G n X.env.scope i σ S2).st σ fun y S3 => match x with
          | .ref m => (match setD S3 m y d with
            | some S4 => .next σ S4
            | none => .no)
          | _ => .no) q).mono fun v H1 ⟨ρ1, S1, σ, d, r1, hs1, i1, q1⟩ => ?_
        refine ⟨ρ1, S1, σ, r1, hs1, (PostS.st hs1 q1).mono fun vo H2 ⟨ρ2, S2, x, r2, e2, i2, q2⟩ => ?_⟩
        refine ⟨ρ2, S2, σ, r2, hs1.ext e2, (PostS.st (hs1.ext e2) q2).mono fun vi H3 ⟨ρ3, S3, y, r3, e3, i3, q3⟩ => ?_⟩
        cases x with
        | ref m =>
          dsimp only at q3
          cases z : setD S3 m y d with
          | none => rw [z] at q3; exact q3.elim
          | some S4 =>
            rw [z] at q3
            exact ⟨ρ3, S3, m, y, d, S4, r3, i2.ext e3, i3, i1.ext (e2.trans e3), z, fun H4 r4 e4 => q3 ρ3 H4 σV r4 e4 ((hs1.ext (e2.trans e3)).ext e4)⟩
        | _ => exact q3.elim
    · rename_i t a b pos
      refine ps_mono (ps_if (hT t) (exs_ok hS a) (exs_ok hS b)) fun E σV H q => ?_
      refine (LS.st (rel := relB) (kk := fun c σ S1 => if c = true then exs (ex G n X.env.scope) a σ S1 else exs (ex G n X.env.scope) b σ S1) q).mono fun d H1 ⟨ρ1, S1, σ, d', r1, hs1, i1, q1⟩ => ?_
      obtain rfl : d' = d := i1
      cases d' with
      | true => exact iteT ⟨ρ1, S1, σ, r1, hs1, q1⟩
      | false => exact iteF ⟨ρ1, S1, σ, r1, hs1, q1⟩
    · exact while_ok c (hT _) (hSs _) _ _
    · rename_i tg it b pos
      by_cases hs : isSetE it = true
      · exact ps_no fun σ S => if_pos hs
      · simp only [if_neg hs]
        have hg := asgE_ok (X := X) c.c.nd c.c.calm c.stores tg
        rw [c.c.N] at hg
        exact for_ok c (by simpa using hs) (src_ok c.c hE tg it) hg (hSs b) _
    · exact raise_ok c
    · exact raiseX_ok c hE
    · rename_i body x np v y py v2 pn1 pa pos' pos
      by_cases hg : glB X.env.scope x = true ∧ plainN x = true ∧ v2 = v ∧ X.env.scope.names.lookup v = some .local ∧ X.env.scope.names.lookup y = some .local
      · simp only [if_pos hg]
        obtain ⟨g1, g2, g3, g4, g5⟩ := hg
        subst g3
        split
        · rename_i C i j e1 e2 e3
          have key := try_hold (Wout := W) (tb := fun W' => LS X.K W' (exs (ex G n X.env.scope) body)) (body := body) (np := np) (pn1 := pn1) (py := py) (pa := pa) (pos := pos) (pos' := pos') c.hs c.hf c.hex c.c.nd (slot_at c.c e2) g4 (slot_at c.c e3) g5 (slot_some e2).1 (names_of c.c g1 g2 e1) c.c.tk fun W' pn xe tk hp => exs_ok (ih (X.tr pn xe) W' (c.tr tk hp)) body
          refine ps_mono key fun E σV H ⟨ρ, S, σ, r, hs, q⟩ => ?_
          exact ⟨ρ, S, σ, r, hs, tryR_post (fun a b => c.c.isx a _ b) q⟩
        · exact ps_no fun _ _ => rfl
      · exact ps_no fun σ S => if_neg hg
    · exact ps_no fun _ _ => rfl
end
end Dp
end
section
set_option Elab.async false
set_option linter.all false
set_option maxRecDepth 100000
set_option maxHeartbeats 4000000
namespace Dp
open PySem PySem.Spec PyProof.Rows L2 LamX
section
variable {K : PySem.W.Frag} {ρ ρ' : List Addr} {H H' H1 : Hp} {S S' : Sto}
theorem codeO_wr {c : Addr} {q : Str} : ¬ Wr (CodeO c q) := by unfold CodeO; exact wr_ext
theorem codeO_tb {c : Addr} {q : Str} : ¬ IsTbl (CodeO c q) := by unfold CodeO; exact tb_ext
theorem ext_tabs (e : ExtN H H1) : Ext K ρ H ρ H1 :=
  ⟨⟨[], by simp⟩, fun _ h => .inl h, fun b o h w _ => e b o h fun ps z => tb_wr w ⟨ps, z⟩, fun b o h _ t => e b o h fun ps z => t ⟨ps, z⟩⟩
def tabE (m : Option M) (a : Option Addr) : Option (Addr × Str) := match m, a with
  | some (.tab _ q), some a => some (a, q)
  | _, _ => none
/-- the tables of the store, by address -/
def tabsOf (ρ : List Addr) (S : Sto) : List (Addr × Str) := (List.range S.length).filterMap fun n => tabE S[n]? ρ[n]?
theorem tabsOf_mem {p : Addr × Str} (h : p ∈ tabsOf ρ S) : ∃ (n : Nat) (x : Str), S[n]? = some (M.tab x p.2) ∧ ρ[n]? = some p.1 := by
  obtain ⟨n, _, e⟩ := List.mem_filterMap.mp h
  unfold tabE at e
  split at e
  · rename_i z1 z2
    cases e
    exact ⟨n, _, z1, z2⟩
  · cases e
theorem mem_tabsOf {n : Nat} {x q : Str} {a : Addr} (h : S[n]? = some (.tab x q)) (h2 : ρ[n]? = some a) : (a, q) ∈ tabsOf ρ S := by
  refine List.mem_filterMap.mpr ⟨n, List.mem_range.mpr (List.getElem?_eq_some_iff.mp h).1, ?_⟩
  rw [h, h2]
  rfl
theorem R.tabAt (r : R K ρ H S) {n : Nat} {x q : Str} {a : Addr} (h : S[n]? = some (.tab x q)) (h2 : ρ[n]? = some a) : a = tabA K x ∧ TabS H a q := by
  obtain ⟨b, e, m⟩ := r.obj n _ h
  rw [h2] at e; cases e
  exact m
theorem R.allTabs (r : R K ρ H S) : Tabs (tabsOf ρ S) H := fun p hp => by
  obtain ⟨n, x, e1, e2⟩ := tabsOf_mem hp
  exact (r.tabAt e1 e2).2
/-- one table, one name -/
theorem R.oneTab (r : R K ρ H S) {n : Nat} {x q : Str} {a : Addr} (h : S[n]? = some (.tab x q)) (h2 : ρ[n]? = some a) : ∀ p ∈ tabsOf ρ S, p.1 = a → p.2 = q := fun p hp e => by
  obtain ⟨m, y, e1, e2⟩ := tabsOf_mem hp
  rw [e] at e2
  rcases r.inj m n a e2 h2 with z | ⟨o, z, _, z2⟩
  · subst z
    rw [h] at e1
    have := Option.some.inj e1
    exact (M.tab.inj this).2.symm
  · obtain ⟨_, ps, hp, _⟩ := r.tabAt h h2
    rw [hp] at z; cases z
    exact absurd ⟨_, rfl⟩ z2
theorem R.tabs (r : R K ρ H S) (e : ExtN H H1) (t : Tabs (tabsOf ρ S) H1) : R K ρ H1 S := by
  refine ⟨r.len, fun i j a h1 h2 => (r.inj i j a h1 h2).imp id fun ⟨o, q1, q2, q3⟩ => ⟨o, e a o q1 fun ps z => q3 ⟨ps, z⟩, q2, q3⟩, fun n m hm => ?_⟩
  obtain ⟨a, ha, q⟩ := r.obj n m hm
  refine ⟨a, ha, ?_⟩
  have gen : (∀ x q, m ≠ .tab x q) → MR K ρ H1 a m := fun hn => by
    obtain ⟨o, ho, _⟩ := q.nt
    have nt : ∀ ps, o ≠ .tbl ps := by
      cases m with
      | lst ds => obtain ⟨xs, e1, _⟩ := q; rw [e1] at ho; cases ho; intro ps z; cases z
      | fro ds => obtain ⟨_, o', u, e1⟩ := q; rw [e1] at ho; cases ho; intro ps z; cases z
      | dk kvs => obtain ⟨xs, e1, _⟩ := q; rw [e1] at ho; cases ho; intro ps z; cases z
      | dt kvs => obtain ⟨xs, e1, _⟩ := q; rw [e1] at ho; cases ho; intro ps z; cases z
      | ft kvs => obtain ⟨od, xs, e1, _⟩ := q; rw [e1] at ho; cases ho; intro ps z; cases z
      | tab x q1 => exact absurd rfl (hn x q1)
      | code c p s t => obtain ⟨_, e1, _⟩ := q; rw [e1] at ho; cases ho; exact fun ps z => codeO_tb ⟨ps, z⟩
      | junk => obtain ⟨o', e1, _, _, z⟩ := q; rw [e1] at ho; cases ho; exact fun ps y => z ⟨ps, y⟩
    exact q.ext (ext_tabs e) ((e a o ho nt).trans ho.symm)
  cases m with
  | tab x q' => exact ⟨q.1, t _ (mem_tabsOf hm ha)⟩
  | _ => exact gen (by intros; simp)
theorem ext_code {c : Addr} {q : Str} (hc : H c = some (CodeO c q)) : Ext K ρ H (ρ ++ [c]) H :=
  ⟨⟨[c], rfl⟩, fun b h => by
    rcases List.mem_append.mp h with h | h
    · exact .inl h
    · refine .inr fun o e => ?_
      rw [List.mem_singleton.mp h, hc] at e
      cases e
      exact codeO_wr, fun _ _ h _ _ => h, fun _ _ h _ _ => h⟩
theorem R.pushCode {c : Addr} {q : Str} {s : Sig} {t : L2.St} (r : R K ρ H S) (hc : H c = some (CodeO c q)) (hs : IsSt K ρ H s t) : R K (ρ ++ [c]) H (S ++ [.code c q s t]) := by
  have cw : ∃ o, H c = some o ∧ ¬ Wr o ∧ ¬ IsTbl o := ⟨_, hc, codeO_wr, codeO_tb⟩
  refine ⟨by simp [r.len], fun i j a hi hj => ?_, fun n m e => ?_⟩
  · by_cases h1 : i < ρ.length
    · by_cases h2 : j < ρ.length
      · rw [List.getElem?_append_left h1] at hi
        rw [List.getElem?_append_left h2] at hj
        exact r.inj i j a hi hj
      · rw [List.getElem?_append_right (Nat.le_of_not_lt h2)] at hj
        have hm := List.mem_of_getElem? hj
        rw [List.mem_singleton.mp hm]
        exact .inr cw
    · rw [List.getElem?_append_right (Nat.le_of_not_lt h1)] at hi
      have hm := List.mem_of_getElem? hi
      rw [List.mem_singleton.mp hm]
      exact .inr cw
  · by_cases h : n < S.length
    · rw [List.getElem?_append_left h] at e
      obtain ⟨a, e1, q1⟩ := r.obj n m e
      exact ⟨a, (ext_code (K := K) hc).at e1, q1.ext (ext_code hc) rfl⟩
    · have h1 : n < S.length + 1 := by have := (List.getElem?_eq_some_iff.mp e).1; simpa using this
      obtain rfl : n = S.length := by omega
      rw [push_at] at e; cases e
      exact ⟨c, by rw [← r.len, push_at], rfl, hc, hs.ext (ext_code hc)⟩
theorem R.junk {m : Nat} {c : Addr} {q : Str} {s : Sig} {t : L2.St} (r : R K ρ H S) (h : S[m]? = some (.code c q s t)) : R K ρ H (S.set m .junk) := by
  refine ⟨by simp [r.len], r.inj, fun n k e => ?_⟩
  by_cases hn : n = m
  · subst hn
    obtain ⟨a, e1, e2, e3, _⟩ := r.obj n _ h
    rw [List.getElem?_set_self (List.getElem?_eq_some_iff.mp h).1] at e; cases e
    refine ⟨a, e1, _, e3, ?_, codeO_wr, codeO_tb⟩
    refine ⟨⟨?_, ?_⟩, ?_⟩ <;> intros <;> simp [CodeO]
  · rw [List.getElem?_set_ne (Ne.symm hn)] at e
    exact r.obj n k e
end
end Dp
end
section
set_option Elab.async false
set_option linter.all false
set_option maxRecDepth 100000
set_option maxHeartbeats 4000000
namespace Dp
open PySem PySem.Spec PyProof.Rows L2 LamX
/-- a lambda that a def was given: its place, what it does -/
structure Act where
  m : Nat
  f : Addr
  c : Addr
  q : Str
  s : Sig
  t : L2.St
  th : Sto → Res D
open Classical in
/-- a() where a holds the lambda -/
noncomputable def actF (N : List Str) (sc : Scope) (A : Act) (a : Str) : EvF := fun σ S => match slot N sc a with
  | some i => if σ[i]? = some (some (.adr A.f)) ∧ S[A.m]? = some (M.code A.c A.q A.s A.t) then A.th S else .no
  | none => .no
def noAct (_ : Str) : EvF := fun _ _ => .no
def noLam (_ : Str) (_ : Arguments) (_ : Expr) (_ : Scope) : EvF := fun _ _ => .no
theorem actF_some {N : List Str} {sc : Scope} {A : Act} {a : Str} {σ : Sig} {S : Sto} {i : Nat} (h : slot N sc a = some i) (h1 : σ[i]? = some (some (.adr A.f))) (h2 : S[A.m]? = some (M.code A.c A.q A.s A.t)) : actF N sc A a σ S = A.th S := by
  unfold actF
  rw [h]
  exact if_pos ⟨h1, h2⟩
def noArgsB : Arguments → Bool
  | ⟨[], [], none, [], [], none, []⟩ => true
  | _ => false
theorem noArgs_eq {p : Arguments} (h : noArgsB p = true) : p = ⟨[], [], none, [], [], none, []⟩ := by
  unfold noArgsB at h
  split at h
  · rfl
  · cases h
section
variable {X : Cx} {W : WX} {pins : List (Addr × Obj)} {H : Hp} {s : Shared} {σ : L2.St}
/-- THE RULE for a(): Z is the def that was given the lambda, entered at s -/
theorem act_ok {Ng : List Str} {qg : Str} {sg : Scope} {g f c' : Addr} {cdg pm ctv : Value} {params : Arguments} {body : Expr} {scope : Scope} {k : Nat} {Eg : XK} {pn : List (Addr × Obj)} {xe : Value → Shared → Prop} {fb : EvF} {A : Act} {p1 p2 : Pos} {a : Str}
    (I : Inv X pins σ H s) (L : LamS X.env.scope scope) (hp : noArgsB params = true) (hf : s.heap.get? f = some (PySem.W.kla_obj "<lambda>" (X.env.qual ++ "<lambda>") params body scope (cloFrom X.env.cells scope.names []) pm c' ctv)) (hfn : H f = none) (hfr : f ∉ frs X.stack)
    (tk : Takes ((cxOf (L2.CX X.prog X.w) X.prog X.w X.K X.mg X.base Ng qg sg g cdg X.A X.stack s H Eg).tr pn xe) W) (hr : Room (k + 3) (X.A.deeper (envOfC qg sg s.heap.objs.size g cdg))) (hg : X.A.guards = some [])
    (hbody : ∀ (A : Around) (outer : List Env) (s : Shared) (H : Hp) (E : XK), Room (k + 2) (A.deeper (lamEnv X scope s.heap.objs.size f c')) → A.guards = some [] → PE (lamCx X A outer s H E scope f c') body (LE X.K (fun cls d _ H => E cls d H) fb))
    (e1 : A.f = f) (e2 : A.c = c') (e3 : A.q = X.env.qual ++ "<lambda>") (e4 : A.t = σ) (e5 : ∀ S, A.th S = fb A.s S) (hN : Ng.Nodup) :
    PE ((cxOf (L2.CX X.prog X.w) X.prog X.w X.K X.mg X.base Ng qg sg g cdg X.A X.stack s H Eg).tr pn xe) (.Call (.Name a p1) [] [] p2) (LE X.K W (actF Ng sg A a)) := by
  refine ⟨fun pinsZ sZ σZ HZ Q IZ h => ?_⟩
  obtain ⟨ρ, S, σD, r, hs, q⟩ := h
  unfold actF at q
  cases hi : slot Ng sg a with
  | none => rw [hi] at q; exact q.elim
  | some i =>
    rw [hi] at q
    dsimp only at q
    split at q
    · rename_i hq
      obtain ⟨h1, h2⟩ := hq
      obtain ⟨s1, s2, s3⟩ := slot_some hi
      obtain ⟨d1, d2⟩ := plain_d s1
      obtain ⟨v, hv, iv⟩ := hs.2 i _ h1
      unfold Is at iv
      subst iv
      rw [e1] at hv
      obtain ⟨c1, hc1, hc2, hc3, hc4⟩ := r.obj _ _ h2
      rw [e2] at hc2
      rw [e2, e3] at hc3
      subst hc2
      rw [e4] at hc4
      rw [e5] at q
      refine wpAny_Call_Name_kw (thn ((pe_var (pos := p1) (i := i) s3 (vis_of s2) d1 d2).run pinsZ sZ σZ HZ (fun v H1 => v = .ref f ∧ H1 = HZ) IZ ⟨.ref f, hv, rfl, rfl⟩) fun u s1 ⟨v, H1, I1, r1, q1⟩ => ?_)
      obtain ⟨ev, eH⟩ := q1
      subst ev
      rw [eH] at I1
      obtain rfl : u = Value.ref f := r1
      have same := I1.base.keep f _ hf hfn hfr (fun z => nomatch (show f ∈ ([] : List Addr) from z))
      refine PySem.W.callWith_F0 ⟨_, _, _, _, same⟩ ?_
      obtain ⟨⟨oc, vs, t, k1, k2, k3⟩, _, _⟩ := I1.hok _ _ hc3
      have hh : Inv X pins σ H s := I
      have hpp := noArgs_eq hp
      have run : codeAny (model X.prog X.w) (X.A.deeper (envOfC qg sg s.heap.objs.size g cdg)) (.call (.ref f) ⟨[], []⟩) (CR (L2.CX X.prog X.w) (envOfC qg sg s.heap.objs.size g cdg :: X.stack) X.prog X.w HZ s1 Q (WE W σZ)) s1 := by
        refine PySem.W.kla_callFunE hr.depth same rfl L.co L.gen rfl ⟨_, oc, vs, t, rfl, k1, k2, k3⟩ ?_
        rw [show bindArgs (PySem.W.kla_fn "<lambda>" (X.env.qual ++ "<lambda>") params body scope (cloFrom X.env.cells scope.names []) pm (.ref _) ctv) ⟨[], []⟩ = pure [] by rw [hpp]; rfl]
        refine wpAny_pure (wpAny_newFunctionEnv (fun y hy => (L.own y hy).2) (fun y hy => absurd hy (by simp)) (fun h2 ns sb => ⟨I1.nolimit.fresh _ sb, ?_⟩) L.kind)
        have old : ∀ b o, s1.heap.get? b = some o → h2.get? b = some o := fun b o e => sb.extBut b o (Nat.ne_of_lt (Heap.lt_size e)) (Heap.get?_push_of_some _ e)
        have J := lam_start2 (tk := s1.toks + ([] : List (Str × Value)).length) (E := WE W σZ) (f := f) (c' := c1) I L I1.env0 hr.hd I1.base ns old
        refine PySem.W.kla_codeExpr (wpAny_mono ((hbody _ _ s1 HZ (WE W σZ) (hr.deeper _) hg).run [] _ _ HZ Q J ⟨ρ, S, A.s, r, hc4, ?_⟩) (fun v t' out => ?_) fun e t' out => out)
        · exact q
        · obtain ⟨v', H', J', rv, q'⟩ := out
          exact ⟨v', H', J'.os, J'.bare, J'.base, J'.hok, rv, q'⟩
      refine wpAny_call (codeAny_mono run fun res t' out => ?_)
      match res, out with
      | .error e, out => exact passAt tk σZ pinsZ HZ s1 e t' I1 out
      | .ok (.ret u), out => exact I1.after out
      | .ok .next, out => exact False.elim out
      | .ok .brk, out => exact False.elim out
      | .ok .cont, out => exact False.elim out
    · exact q.elim
end
end Dp
end
section
set_option Elab.async false
set_option linter.all false
set_option maxRecDepth 100000
set_option maxHeartbeats 4000000
namespace Dp
open PySem PySem.Spec PyProof.Rows L2 LamX
/-! ### a table of defs -/
structure DD where
  name : Str
  N : List Str
  ps : List Str
  kws : List (Nat × List Str × List Nat) := []
  params : Arguments
  body : List Stmt
  scope : Scope
/-- an error class whose own __init__ keeps one value -/
structure IniD where
  cls : Str
  at_ : Str
  base : Str
  params : Arguments
  body : List Stmt
  scope : Scope
structure Mo where
  defs : List DD
  vals : List (Str × D)
  free : List Str
  attr : List (Str × Option Str)
  isx : List ((Str × Str) × Bool)
  tab : List (Str × (Nat × Str))
  fuel : Nat
  wf : Nat
  own : List (Nat × Nat × Nat) := []
  inis : List IniD := []
open Classical in
/-- what a call leaves of the store: each place is as before or tells no new place -/
noncomputable def keepC : Keep := fun S T => decide (∀ (i : Nat) (m : M), T[i]? = some m → S[i]? = some m ∨ cloM T.length m = true)
open Classical in
theorem keepC_ok : KeepOk keepC := fun S T h => by
  unfold keepC at h
  exact of_decide_eq_true h
def DD.d (t : DD) : He.DefD := ⟨(t.name, none), t.name, t.name, t.params, t.body, t.scope, [], []⟩
def Mo.find (M : Mo) (x : Str) : Option DD := M.defs.find? fun t => decide (t.name = x)
def Mo.glob (M : Mo) (x : Str) : Option D := match M.find x with
  | some t => some (.con t.name)
  | none => M.vals.lookup x
noncomputable def Mo.gam (M : Mo) (N : List Str) (sc0 : List (Str × NameKind)) (call : Str → List D → Sto → Res D) (lamc : Str → Arguments → Expr → Scope → EvF) (actc : Str → EvF) : Gam :=
  ⟨N, M.glob, call, fun x => (M.find x).map (·.ps), fun x => M.attr.lookup x, fun a b => M.isx.lookup (a, b), M.wf, sc0, lamc, actc, fun x => ((M.find x).map (·.kws)).getD [], fun p => M.own.contains (p.line, p.col, p.endCol), keepC⟩
def endR : SR → Res D
  | .ret d S => .ok d S
  | .next _ S => .ok .non S
  | .exc c _ S => .exc c S
  | _ => .no
def startD (N : List Str) (ds : List D) : Sig := ds.map some ++ List.replicate (N.length - ds.length) none
noncomputable def Mo.run (M : Mo) (t : DD) (call : Str → List D → Sto → Res D) (lamc : Str → Arguments → Expr → Scope → EvF) (actc : Str → EvF) (ds : List D) (S : Sto) : Res D :=
  if ds.length = t.ps.length then endR (exs (ex (M.gam t.N t.scope.names call lamc actc) M.fuel t.scope) t.body (startD t.N ds) S) else .no
/-- behind the call of a def that was given a lambda nothing is known of it -/
def dropM (m : Nat) : Res D → Res D
  | .ok d S => .ok d (S.set m .junk)
  | .exc c S => .exc c (S.set m .junk)
  | .no => .no
open Classical in
/-- what is the same wherever the lambda stands -/
noncomputable def allR (m : Nat) (F : Addr → Addr → L2.St → Res D) : Res D := if h : ∃ r, ∀ f c t, dropM m (F f c t) = r then h.choose else .no
theorem allR_eq {m : Nat} {F : Addr → Addr → L2.St → Res D} {r : Res D} (h : ∀ f c t, dropM m (F f c t) = r) : allR m F = r := by
  unfold allR
  have hx : ∃ r, ∀ f c t, dropM m (F f c t) = r := ⟨r, h⟩
  rw [dif_pos hx, ← hx.choose_spec 0 0 [], h]
open Classical in
noncomputable def Mo.lamF (M : Mo) (t : DD) (call1 call0 : Str → List D → Sto → Res D) : Str → Arguments → Expr → Scope → EvF := fun x params body scope σ S =>
  match M.tab.lookup t.name, M.find x with
  | some (nt, q), some tx => if (glB t.scope x = true ∧ plainN x = true ∧ lamSB t.scope scope = true ∧ noArgsB params = true ∧ tx.ps.length = 1) ∧ S[nt]? = some (.tab t.name q) then
      allR S.length fun f c τ => M.run tx call1 noLam (actF tx.N tx.scope ⟨S.length, f, c, q, σ, τ, fun S' => ev (M.gam t.N [] call0 noLam noAct) M.fuel scope body σ S'⟩) [.adr f] (S ++ [.code c q σ τ]) else .no
  | _, _ => .no
noncomputable def Mo.step (M : Mo) (call : Str → List D → Sto → Res D) (lam : DD → Str → Arguments → Expr → Scope → EvF) (x : Str) (ds : List D) (S : Sto) : Res D := match M.find x with
  | some t => M.run t call (lam t) noAct ds S
  | none => .no
noncomputable def Mo.call (M : Mo) : Nat → Str → List D → Sto → Res D
  | 0 => fun _ _ _ => .no
  | 1 => M.step (M.call 0) fun _ => noLam
  | 2 => M.step (M.call 1) fun _ => noLam
  | k + 3 => M.step (M.call (k + 2)) fun t => M.lamF t (M.call (k + 1)) (M.call k)
/-! ### what the text must give -/
/-- of a def, whatever the run -/
structure DD.Ok (t : DD) : Prop where
  sc : FnScope t.N t.ps t.scope
  bd : ∀ (kV doc pm : Value) (an : Option Addr) (cdv ct : Value) (us : List Value), us.length = t.ps.length → bindArgs (PySem.W.fnOf t.name t.name t.params t.body t.scope .none kV doc pm an cdv ct) ⟨us, []⟩ = pure (t.ps.zip us)
  bk : ∀ n ks perm, kwFind t.kws n ks = some perm → ∀ (kV doc pm : Value) (an : Option Addr) (cdv ct : Value) (us ws : List Value), us.length = n → ws.length = ks.length → bindArgs (PySem.W.fnOf t.name t.name t.params t.body t.scope .none kV doc pm an cdv ct) ⟨us, ks.zip ws⟩ = pure (t.ps.zip (permL perm (us ++ ws)))
structure IniD.Ok (i : IniD) : Prop where
  sc : FnScope [("self" : Str), i.at_] [("self" : Str), i.at_] i.scope
  bd : ∀ (kV doc pm : Value) (an : Option Addr) (cdv ct : Value) (us : List Value), us.length = 2 → bindArgs (PySem.W.fnOf "__init__" (i.cls ++ ".__init__") i.params i.body i.scope .none kV doc pm an cdv ct) ⟨us, []⟩ = pure ([("self" : Str), i.at_].zip us)
  sh : iniB i.base i.at_ i.scope i.body = true
structure MoOk (M : Mo) (K : PySem.W.Frag) (mg : Str → Option Value) : Prop where
  fd : ∀ t ∈ M.defs, ∃ fd, FunD K t.name t.name t.params t.body t.scope [] [] (He.ga K t.name) fd
  mgd : ∀ t ∈ M.defs, mg t.name = some (.ref (He.ga K t.name))
  val : ∀ x d, M.vals.lookup x = some d → ∃ u v, RelV v u ∧ (∀ ρ H, Is K ρ H d v) ∧ (mg x = some u ∨ (mg x = none ∧ bootBuiltins x = some u ∧ x ≠ "__name__"))
  blt : ∀ x, ((bltF true x).isSome = true ∨ isSrc x = true) → mg x = none
  exq : ∀ C, (M.attr.lookup C).isSome = true → ExcC K (He.ga K C)
  kio : ∀ a C b, M.isx.lookup (a, C) = some b → PySem.W.kitOne K (.ref (He.ga K a)) (.ref (He.ga K C)) = some b
  kit : ∀ T C, T ∈ kitTs → (M.attr.lookup C).isSome = true → PySem.W.kitOne K (.type T) (.ref (He.ga K C)) = some false
  isx : ∀ a C b, M.isx.lookup (a, C) = some b → PySem.W.exmOne K (.ref (He.ga K a)) (.ref (He.ga K C)) = some b
  rz : ∀ C, M.attr.lookup C = some none → mg C = some (.ref (He.ga K C)) ∧ PySem.W.keepIn K (.ref (He.ga K C)) = true ∧ PySem.W.excIn K (He.ga K C) [.type "ValueError", .type "Exception", .type "BaseException", .type "object"] "ValueError.__new__" = true ∧ PySem.W.subIn K (.ref (He.ga K C)) (.type "BaseException") = some true ∧ PySem.W.typeIn K (.ref (He.ga K C)) = some (.type "type")
  ini : ∀ C n, M.attr.lookup C = some (some n) → IniOk K mg C (He.ga K C) n
  atr : ∀ C n, M.attr.lookup C = some (some n) → XfC K (He.ga K C) ∧ PySem.W.findIn K (.ref (He.ga K C)) n = some none
/-- a class has but its own name -/
def Mo.conOk (M : Mo) : Bool := M.vals.all fun p => match p.2 with
  | .con y => decide (p.1 = y)
  | _ => true
theorem startD_ok {K : PySem.W.Frag} {ρ : List Addr} {H : Hp} {N : List Str} {ds : List D} {vs : List V} (h : IsAll K ρ H ds vs) : IsSt K ρ H (startD N ds) (L2.start N vs) := by
  have hl := h.length
  refine ⟨by simp [startD, L2.start, hl], fun i d e => ?_⟩
  unfold startD at e
  unfold L2.start
  by_cases hi : i < ds.length
  · rw [List.getElem?_append_left (by simpa using hi), List.getElem?_map] at e
    cases z : ds[i]? with
    | none => rw [z] at e; cases e
    | some d' =>
      rw [z] at e
      have e : d' = d := Option.some.inj (Option.some.inj e)
      subst e
      obtain ⟨v, e1, e2⟩ := h.get i z
      refine ⟨v, ?_, e2⟩
      rw [List.getElem?_append_left (by rw [List.length_map, ← hl]; exact hi), List.getElem?_map, e1]
      rfl
  · rw [List.getElem?_append_right (by simpa using Nat.le_of_not_lt hi)] at e
    rw [List.getElem?_replicate] at e
    split at e <;> cases e
section
variable {P : Program} {w : World} {K : PySem.W.Frag} {mg : Str → Option Value} {base : Heap} {M : Mo}
theorem Mo.find_mem {x : Str} {t : DD} (h : M.find x = some t) : t ∈ M.defs ∧ t.name = x := by
  unfold Mo.find at h
  exact ⟨List.mem_of_find?_eq_some h, by have := List.find?_some h; exact of_decide_eq_true this⟩
theorem glob_con {x g : Str} (hc : M.conOk = true) (h : M.glob x = some (.con g)) : x = g := by
  unfold Mo.glob at h
  cases z : M.find x with
  | some t =>
    rw [z] at h
    have h : t.name = g := by
      have := Option.some.inj h
      exact D.con.inj this
    rw [← h, (Mo.find_mem z).2]
  | none =>
    rw [z] at h
    have h : M.vals.lookup x = some (.con g) := h
    have hm := PySem.mem_of_lookup h
    have := List.all_eq_true.mp hc _ hm
    exact of_decide_eq_true this
theorem DD.Ok.kw {t : DD} (o : t.Ok) {f : Addr} {fd : FuncData} (F : FunD K t.name t.name t.params t.body t.scope [] [] f fd) : ∀ n ks perm, kwFind t.kws n ks = some perm → ∀ (s : Shared) (us ws : List Value), us.length = n → ws.length = ks.length → BindsTo s fd ⟨us, ks.zip ws⟩ (t.ps.zip (permL perm (us ++ ws))) := fun n ks perm h s us ws l1 l2 => by
  obtain ⟨oc, od, dV, kV, doc, pm, an, cdv, ct, osl, rfl, lk, hcd, hD, hK⟩ := F.ex
  rcases hD with ⟨_, rfl⟩ | ⟨e, _⟩
  · exact .of_eq (o.bk n ks perm h kV doc pm an cdv ct us ws l1 l2)
  · exact absurd rfl e
/-- every def of the table keeps, k levels deep, what its text says -/
def Mo.Good (M : Mo) (P : Program) (w : World) (K : PySem.W.Frag) (mg : Str → Option Value) (base : Heap) (k : Nat) : Prop :=
  ∀ x t, M.find x = some t → ∃ fd, FnG P w K mg base k (He.ga K t.name) fd t.ps (spD K (M.call k t.name)) ∧ PySem.W.keepIn K (.ref (He.ga K t.name)) = true ∧ L2.Binds K fd t.ps [] ∧ ∀ n ks perm, kwFind t.kws n ks = some perm → ∀ (s : Shared) (us ws : List Value), us.length = n → ws.length = ks.length → BindsTo s fd ⟨us, ks.zip ws⟩ (t.ps.zip (permL perm (us ++ ws)))
theorem ctx_of (ok : MoOk M K mg) (hc : M.conOk = true) {k : Nat} (ih : M.Good P w K mg base k)
    {X : Cx} {W : WX} {N : List Str} {sc0 : List (Str × NameKind)} {lamc : Str → Arguments → Expr → Scope → EvF} {actc : Str → EvF} (hP : X.prog = P) (hw : X.w = w) (hK : X.K = K) (hm : X.mg = mg) (hb : X.base = base) (calm : X.calm = true) (kind : X.env.scope.kind = .function) (nd : X.N.Nodup) (hN : X.N = N) (room : Room (k + 2) X.A) (gd : X.A.guards = some []) (tk : Takes X W)
    (hlam : X.env.scope.names = sc0 → ∀ x params body scope lpos p pos, PE X (.Call (.Name x p) [.Lambda params body scope lpos] [] pos) (LE X.K W (lamc x params body scope))) :
    Ctx X (M.gam N sc0 (M.call k) lamc actc) W k := by
  subst hP hw hK hm hb
  refine ⟨calm, kind, nd, hN, room, gd, tk, fun x d h => ?_, keepC_ok, fun x h hn => ok.blt x h, hlam, fun C h => ok.exq C h, fun a C b h => ok.kio a C b h, fun T C h h2 => ok.kit T C h h2, fun a C b h => ok.isx a C b h, fun x C h h2 => ?_, fun g ps h2 => ?_, fun x g ps h h2 => ?_, fun x C n h h2 => by have e := glob_con hc h; subst e; exact ok.ini x n h2, fun C n h2 => ok.atr C n h2⟩
  · have h : M.glob x = some d := h
    unfold Mo.glob at h
    cases z : M.find x with
    | some t =>
      rw [z] at h
      cases h
      obtain ⟨hm, hx⟩ := Mo.find_mem z
      refine ⟨.ref (He.ga X.K t.name), .ref (He.ga X.K t.name), rfl, fun ρ H => by unfold Is; rfl, .inl ?_⟩
      rw [← hx]
      exact ok.mgd t hm
    | none =>
      rw [z] at h
      exact ok.val x d h
  · have e := glob_con hc h
    subst e
    obtain ⟨a, b, c, d, e⟩ := ok.rz x h2
    exact ⟨a, b, c, raises_own d e⟩
  · have h2 : (M.find g).map (·.ps) = some ps := h2
    cases z : M.find g with
    | none => rw [z] at h2; cases h2
    | some t =>
      rw [z] at h2
      cases h2
      obtain ⟨hm, hx⟩ := Mo.find_mem z
      obtain ⟨fd, a, b, c, d⟩ := ih g t z
      rw [hx] at a b
      exact ⟨fd, a, b, c⟩
  · have e := glob_con hc h
    subst e
    have h2 : (M.find x).map (·.ps) = some ps := h2
    cases z : M.find x with
    | none => rw [z] at h2; cases h2
    | some t =>
      rw [z] at h2
      cases h2
      obtain ⟨hm, hx⟩ := Mo.find_mem z
      obtain ⟨fd, a, b, c, d⟩ := ih x t z
      rw [hx] at a b
      refine ⟨fd, a, b, c, ?_, fun n ks perm hk => d n ks perm ?_⟩
      · rw [← hx]
        exact ok.mgd t hm
      · have hk : kwFind (((M.find x).map (·.kws)).getD []) n ks = some perm := hk
        rw [z] at hk
        exact hk
theorem noLam_ok {X : Cx} {K' : PySem.W.Frag} {W : WX} (x : Str) (params : Arguments) (body : Expr) (scope : Scope) (lpos p pos : Pos) : PE X (.Call (.Name x p) [.Lambda params body scope lpos] [] pos) (LE K' W (noLam x params body scope)) := pe_no fun _ _ => rfl
theorem noAct_ok {X : Cx} {K' : PySem.W.Frag} {W : WX} (a : Str) (p1 p2 : Pos) : PE X (.Call (.Name a p1) [] [] p2) (LE K' W (noAct a)) := pe_no fun _ _ => rfl
/-- a def's body, by its text -/
theorem body_ok {X : Cx} {t : DD} {E : XK} {k : Nat} {call : Str → List D → Sto → Res D} {lamc : Str → Arguments → Expr → Scope → EvF} {actc : Str → EvF} (c : SCtx X (M.gam t.N t.scope.names call lamc actc) (fun cls d _ H => E cls d H) k) (hs : X.env.scope = t.scope)
    {ρ : List Addr} {S : Sto} {ds : List D} {vs : List V} {H : Hp} {Q : VK} (r : R X.K ρ H S) (ia : IsAll X.K ρ H ds vs) (q : Post X.K (fun cls dd _ H' => E cls dd H') (Is X.K) ρ H [] (M.run t call lamc actc ds S) Q) :
    ∃ T, PSs X t.body T ∧ T { nx := fun _ H' => Q .non H', rt := Q } (L2.start t.N vs) H := by
  refine ⟨_, exs_ok (ex_all _ k M.fuel _ _ c) t.body, ρ, S, startD t.N ds, r, startD_ok ia, ?_⟩
  rw [hs]
  unfold Mo.run at q
  split at q
  · generalize exs (ex (M.gam t.N t.scope.names call lamc actc) M.fuel t.scope) t.body (startD t.N ds) S = r0 at q ⊢
    cases r0 with
    | next σ S1 => exact fun ρ' H' σV' r' e' _ => q ρ' H' .non r' e' Is.non'
    | ret d S1 => exact q
    | exc c σ S1 => exact fun ρ' H' σV' cls dd r' e' _ hx => q ρ' H' cls dd r' e' hx
    | brk σ S1 => exact False.elim q
    | cont σ S1 => exact False.elim q
    | no => exact False.elim q
  · exact False.elim q
theorem run_len {t : DD} {call : Str → List D → Sto → Res D} {lamc : Str → Arguments → Expr → Scope → EvF} {actc : Str → EvF} {ds : List D} {S : Sto} {W : WX} {ρ : List Addr} {H : Hp} {Q : VK} (q : Post K W (Is K) ρ H [] (M.run t call lamc actc ds S) Q) : ds.length = t.ps.length := by
  unfold Mo.run at q
  split at q
  · assumption
  · exact False.elim q
end
end Dp
end
section
set_option Elab.async false
set_option linter.all false
set_option maxRecDepth 100000
set_option maxHeartbeats 4000000
namespace Dp
open PySem PySem.Spec PyProof.Rows L2 LamX
section
variable {P : Program} {w : World} {K : PySem.W.Frag} {mg : Str → Option Value} {base : Heap} {M : Mo}
theorem Post.drop {W : WX} {σV : L2.St} {ρ ρ1 : List Addr} {H H1 : Hp} {m : Nat} {c : Addr} {q : Str} {s : Sig} {t : L2.St} {r : Res D} {Q : VK} (hm : ∀ {ρ' H' S'}, R K ρ' H' S' → Ext K ρ1 H1 ρ' H' → (∀ d, r = .ok d S' → R K ρ' H' (S'.set m .junk)) ∧ ∀ c, r = .exc c S' → R K ρ' H' (S'.set m .junk))
    (e : Ext K ρ H ρ1 H1) (q : Post K W (Is K) ρ H σV (dropM m r) Q) : Post K W (Is K) ρ1 H1 σV r Q := by
  cases r with
  | ok d S' => exact fun ρ' H' b r' e' i => q ρ' H' b ((hm r' e').1 d rfl) (e.trans e') i
  | exc c S' => exact fun ρ' H' cls dd r' e' i => q ρ' H' cls dd ((hm r' e').2 c rfl) (e.trans e') i
  | no => exact q
/-- any entry is known no more -/
theorem R.drop {ρ : List Addr} {H : Hp} {S : Sto} (r : R K ρ H S) (m : Nat) (h : ∀ a, ρ[m]? = some a → ∃ o, H a = some o ∧ NT o ∧ ¬ Wr o ∧ ¬ IsTbl o) : R K ρ H (S.set m .junk) := by
  refine ⟨by simp [r.len], r.inj, fun n k e => ?_⟩
  by_cases hn : n = m
  · subst hn
    by_cases hl : n < S.length
    · rw [List.getElem?_set_self hl] at e; cases e
      obtain ⟨a, e1, _⟩ := r.obj n _ (List.getElem?_eq_getElem hl)
      exact ⟨a, e1, h a e1⟩
    · rw [List.getElem?_eq_none (by simpa using Nat.le_of_not_lt hl)] at e
      cases e
  · rw [List.getElem?_set_ne (Ne.symm hn)] at e
    exact r.obj n k e
/-- THE RULE for x(lambda: body) -/
theorem lam_ok (ok : MoOk M K mg) (hc : M.conOk = true) (hd : ∀ t ∈ M.defs, t.Ok) {k : Nat} (ih1 : M.Good P w K mg base (k + 1)) (ih0 : M.Good P w K mg base k) {X : Cx} {W : WX} {t : DD} (hP : X.prog = P) (hw : X.w = w) (hK : X.K = K) (hm : X.mg = mg) (hb : X.base = base)
    (tk : Takes X W) (kind : X.env.scope.kind = .function) (hs : X.env.scope = t.scope) (hN : X.N = t.N) (nd : X.N.Nodup) (room : Room (k + 4) X.A) (gd : X.A.guards = some [])
    (tb : ∀ nt q, M.tab.lookup t.name = some (nt, q) → q = X.env.qual ++ "<lambda>" ∧ ∃ c, X.env.code = .ref c ∧ TabB base mg c (tabA K t.name)) (x : Str) (params : Arguments) (body : Expr) (scope : Scope) (lpos p pos : Pos) :
    PE X (.Call (.Name x p) [.Lambda params body scope lpos] [] pos) (LE X.K W (M.lamF t (M.call (k + 1)) (M.call k) x params body scope)) := by
  subst hP hw hK hm hb
  refine ⟨fun pins s σ H Q I h => ?_⟩
  obtain ⟨ρ, S, σD, r, hst, q⟩ := h
  unfold Mo.lamF at q
  split at q
  · rename_i nt qn tx ht hx
    split at q
    · rename_i hcond
      obtain ⟨⟨g1, g2, g3, g4, g5⟩, g6⟩ := hcond
      obtain ⟨hq, cA, hcode, TB⟩ := tb nt qn ht
      subst hq
      rw [← hs] at g1 g3
      have L := lamS_by g3
      unfold allR at q
      split at q
      · rename_i hex
        have hall := hex.choose_spec
        generalize hr0 : hex.choose = r0 at q hall
        obtain ⟨aP, haP, hMR⟩ := r.obj nt _ g6
        obtain ⟨rfl, hTS⟩ := hMR
        obtain ⟨hmem, hnx⟩ := Mo.find_mem hx
        obtain ⟨fd, F⟩ := ok.fd tx hmem
        obtain ⟨Sc, Bd, _⟩ := hd tx hmem
        obtain ⟨a1, hps⟩ : ∃ a1, tx.ps = [a1] := by
          match tx.ps, g5 with
          | [a1], _ => exact ⟨a1, rfl⟩
        have Bn := F.bindsN Bd
        have hgx : X.mg x = some (.ref (He.ga X.K tx.name)) := by rw [← hnx]; exact ok.mgd tx hmem
        refine wpAny_Call_Name_kw (ld_glob I (gl_of g1) hgx ?_ (plain_d g2).1)
        refine PySem.W.callWith_K (h₀ := X.base) I.ok.mod.kin F.kp ?_ (by rfl) (by rfl)
        show wpAny _ _ (spliced ((false, eval (.Lambda params body scope lpos) X.env) :: backTo pos (starEach [] X.env))) _ _ s
        refine Calls.spliced_cons (lam_make2 I TB hcode (mem_tabsOf g6 haP) (r.oneTab g6 haP) r.allTabs (by rw [noArgs_eq g4]; rfl) (L.has I.ok) fun f c' pm ctv H1 s1 I1 eN T1 hf hfn hfr hco => ?_)
        refine Calls.spliced_nil ⟨I1.kIn, ?_⟩
        have e1 : Ext X.K ρ H ρ H1 := ext_tabs eN
        have r1 := r.tabs eN T1
        have hst1 := hst.ext e1
        have r2 := r1.pushCode hco hst1
        have e2 : Ext X.K ρ H (ρ ++ [c']) H1 := e1.trans (ext_code hco)
        have hF := hall f c' σ
        have q2 : Post X.K (fun cls dd _ H' => W cls dd σ H') (Is X.K) ρ H [] r0 Q := q
        rw [← hF] at q2
        have keepC : ∀ {ρ' : List Addr} {H' : Hp} {S' : Sto}, R X.K ρ' H' S' → Ext X.K (ρ ++ [c']) H1 ρ' H' → R X.K ρ' H' (S'.set S.length .junk) := fun {ρ' H' S'} r' e' => r'.drop _ fun a ha => by
          have : ρ'[S.length]? = some c' := e'.at (by rw [← r.len, push_at])
          rw [this] at ha; cases ha
          exact ⟨_, e'.code _ _ hco, by refine ⟨⟨?_, ?_⟩, ?_⟩ <;> intros <;> simp [CodeO], codeO_wr, codeO_tb⟩
        have q3 := Post.drop (c := c') (q := X.env.qual ++ "<lambda>") (s := σD) (t := σ) (fun {ρ' H' S'} r' e' => ⟨fun _ _ => keepC r' e', fun _ _ => keepC r' e'⟩) e2 q2
        obtain ⟨oc, od, dV, kV, doc, pm', an, cdv, ct, osl, rfl, lk, hcd, _, _⟩ := F.ex
        have run : codeAny (model X.prog X.w) X.A (.call (.ref (He.ga X.K tx.name)) ⟨[.ref f], []⟩) (CR (L2.CX X.prog X.w) X.stack X.prog X.w H1 s1 Q (WE W σ)) s1 := by
          refine run_ofS (CX := L2.CX X.prog X.w) (us := [.ref f]) (vs := [.ref f]) lk hcd Sc room I1.env0 (by
            have := Bn s1 [.ref f] I1.kIn (by rw [hps]; rfl)
            simpa using this) (.cons rfl .nil) (by rw [hps]; rfl) fun hr' => ?_
          have tkZ : Takes (cxOf (L2.CX X.prog X.w) X.prog X.w X.K X.mg X.base tx.N tx.name tx.scope (He.ga X.K tx.name) cdv X.A X.stack s1 H1 (WE W σ)) (fun cls d _ H => WE W σ cls d H) := takes_of (E := WE W σ) rfl rfl rfl rfl
          have cZ := ctx_of (lamc := noLam) (sc0 := tx.scope.names) (actc := actF tx.N tx.scope ⟨S.length, f, c', X.env.qual ++ "<lambda>", σD, σ, fun S' => ev (M.gam t.N [] (M.call k) noLam noAct) M.fuel scope body σD S'⟩)
            (X := cxOf (L2.CX X.prog X.w) X.prog X.w X.K X.mg X.base tx.N tx.name tx.scope (He.ga X.K tx.name) cdv X.A X.stack s1 H1 (WE W σ)) ok hc ih1 rfl rfl rfl rfl rfl rfl Sc.kind Sc.nd rfl hr' gd tkZ fun _ => noLam_ok
          have sZ : SCtx _ _ _ _ := ⟨cZ, passes_of rfl, fun _ => rfl, rfl, rfl, rfl, fun W' pn xe _ _ => noLam_ok, fun W' pn xe tk' a p1 p2 => ?_⟩
          · exact body_ok sZ rfl r2 (.cons (by unfold Is; rfl) .nil) q3
          · refine act_ok (k := k) (fb := ev (M.gam t.N [] (M.call k) noLam noAct) M.fuel scope body) I1 L g4 hf hfn hfr tk' hr' gd (fun A outer s' H' E hr2 hg2 => ?_) rfl rfl rfl rfl (fun _ => rfl) Sc.nd
            have cL := ctx_of (lamc := noLam) (actc := noAct) (sc0 := []) (X := lamCx X A outer s' H' E scope f c') (W := fun cls d _ H => E cls d H) ok hc ih0 rfl rfl rfl rfl rfl rfl L.kind nd hN hr2 hg2 (takes_of (E := E) rfl rfl rfl rfl) fun _ => noLam_ok
            exact (ev_all _ k M.fuel).1 _ _ cL body
        refine wpAny_call (codeAny_mono run fun res t' out => ?_)
        match res, out with
        | .error e, out => exact passAt tk σ pins H1 s1 e t' I1 out
        | .ok (.ret u), out => exact I1.after out
        | .ok .next, out => exact False.elim out
        | .ok .brk, out => exact False.elim out
        | .ok .cont, out => exact False.elim out
      · exact q.elim
    · exact q.elim
  · exact q.elim
end
end Dp
end
section
set_option Elab.async false
set_option linter.all false
set_option maxRecDepth 100000
set_option maxHeartbeats 4000000
namespace Dp
open PySem PySem.Spec PyProof.Rows L2 LamX
/-- where the defs that make lambdas keep their code objects -/
def Mo.Tb (M : Mo) (K : PySem.W.Frag) (mg : Str → Option Value) (base : Heap) : Prop := ∀ t ∈ M.defs, ∀ nt q, M.tab.lookup t.name = some (nt, q) →
  q = (t.name ++ ".<locals>.") ++ "<lambda>" ∧ ∀ oc od fd osl, K.lookup (He.ga K t.name) = some ⟨oc, od, .func fd, osl⟩ → ∃ c, fd.code = .ref c ∧ TabB base mg c (tabA K t.name)
section
variable {P : Program} {w : World} {K : PySem.W.Frag} {mg : Str → Option Value} {base : Heap} {M : Mo}
theorem step_ok (ok : MoOk M K mg) (hc : M.conOk = true) (hd : ∀ t ∈ M.defs, t.Ok) {k : Nat} (ih : M.Good P w K mg base k) {lam : DD → Str → Arguments → Expr → Scope → EvF} (hcall : ∀ x, M.call (k + 1) x = M.step (M.call k) lam x)
    (hlam : ∀ t ∈ M.defs, ∀ (A : Around) (outer : List Env) (s : Shared) (H : Hp) (E : XK) (cdv : Value) (oc : Value) (od : Option Addr) (fd : FuncData) (osl : Array (Option Value)), K.lookup (He.ga K t.name) = some ⟨oc, od, .func fd, osl⟩ → fd.code = cdv → t.scope.kind = .function → t.N.Nodup →
      Room (k + 2) (A.deeper (envOfC t.name t.scope s.heap.objs.size (He.ga K t.name) cdv)) → A.guards = some [] → ∀ (W : WX) (pn : List (Addr × Obj)) (xe : Value → Shared → Prop), Takes ((cxOf (L2.CX P w) P w K mg base t.N t.name t.scope (He.ga K t.name) cdv A outer s H E).tr pn xe) W →
      ∀ x params body scope lpos p pos, PE ((cxOf (L2.CX P w) P w K mg base t.N t.name t.scope (He.ga K t.name) cdv A outer s H E).tr pn xe) (.Call (.Name x p) [.Lambda params body scope lpos] [] pos) (LE K W (lam t x params body scope))) :
    M.Good P w K mg base (k + 1) := by
  intro x t h
  obtain ⟨hm, hx⟩ := Mo.find_mem h
  obtain ⟨fd, F⟩ := ok.fd t hm
  obtain ⟨S, B, _⟩ := hd t hm
  have hf : M.find t.name = some t := by rw [hx]; exact h
  have hr0 : ∀ ds S, M.call (k + 1) t.name ds S = M.run t (M.call k) (lam t) noAct ds S := fun ds S => by
    rw [hcall]
    unfold Mo.step
    rw [hf]
  refine ⟨fd, ⟨fun vs H Q E q => ?_, fun A outer s H args us vs Q E hr hg he hb hv q => ?_⟩, F.kp, F.bindsN B, (hd t hm).kw F⟩
  · obtain ⟨ρ, S', ds, r, ia, q⟩ := q
    rw [hr0] at q
    rw [← ia.length]
    exact run_len q
  · obtain ⟨ρ, S', ds, r, ia, q⟩ := q
    rw [hr0] at q
    obtain ⟨oc, od, dV, kV, doc, pm, an, cdv, ct, osl, rfl, lk, hcd, _, _⟩ := F.ex
    refine run_ofS (CX := L2.CX P w) lk hcd S hr he hb hv (by rw [← ia.length]; exact run_len q) fun hr' => ?_
    have tk : Takes (cxOf (L2.CX P w) P w K mg base t.N t.name t.scope (He.ga K t.name) cdv A outer s H E) (fun cls d _ H => E cls d H) := takes_of (E := E) rfl rfl rfl rfl
    have hl := hlam t hm A outer s H E cdv _ _ _ _ lk rfl S.kind S.nd hr' hg
    have c := ctx_of (lamc := lam t) (sc0 := t.scope.names) (actc := noAct) (W := fun cls d _ H => E cls d H) (X := cxOf (L2.CX P w) P w K mg base t.N t.name t.scope (He.ga K t.name) cdv A outer s H E) ok hc ih rfl rfl rfl rfl rfl rfl S.kind S.nd rfl hr' hg tk fun _ => hl _ _ _ tk
    have sc : SCtx (cxOf (L2.CX P w) P w K mg base t.N t.name t.scope (He.ga K t.name) cdv A outer s H E) (M.gam t.N t.scope.names (M.call k) (lam t) noAct) (fun cls d _ H => E cls d H) k := ⟨c, passes_of rfl, fun _ => rfl, rfl, rfl, rfl, fun W' pn xe tk' _ => hl W' pn xe tk', fun W' pn xe tk' => noAct_ok⟩
    exact body_ok sc rfl r ia q
theorem good_zero (ok : MoOk M K mg) (hd : ∀ t ∈ M.defs, t.Ok) : M.Good P w K mg base 0 := fun x t h => by
  obtain ⟨hm, hx⟩ := Mo.find_mem h
  obtain ⟨fd, F⟩ := ok.fd t hm
  refine ⟨fd, ⟨fun vs H Q E q => ?_, fun A outer s H args us vs Q E _ _ _ _ _ q => ?_⟩, F.kp, F.bindsN (hd t hm).bd, (hd t hm).kw F⟩
  · obtain ⟨_, _, _, _, _, q⟩ := q; exact False.elim q
  · obtain ⟨_, _, _, _, _, q⟩ := q; exact False.elim q
theorem tr_same {X : Cx} {pn : List (Addr × Obj)} {xe : Value → Shared → Prop} : X.tr pn xe = { X with pn := pn, xe := xe } := rfl
/-- every def of the table keeps what its text says -/
theorem defs_ok (ok : MoOk M K mg) (hc : M.conOk = true) (hd : ∀ t ∈ M.defs, t.Ok) (tb : M.Tb K mg base) : ∀ k, M.Good P w K mg base k ∧ M.Good P w K mg base (k + 1) ∧ M.Good P w K mg base (k + 2)
  | 0 => by
    have g0 : M.Good P w K mg base 0 := good_zero ok hd
    have g1 : M.Good P w K mg base 1 := step_ok ok hc hd g0 (lam := fun _ => noLam) (fun _ => rfl) fun _ _ _ _ _ _ _ _ _ _ _ _ _ _ _ _ _ _ _ _ _ _ => noLam_ok
    exact ⟨g0, g1, step_ok ok hc hd g1 (lam := fun _ => noLam) (fun _ => rfl) fun _ _ _ _ _ _ _ _ _ _ _ _ _ _ _ _ _ _ _ _ _ _ => noLam_ok⟩
  | k + 1 => by
    obtain ⟨g0, g1, g2⟩ := defs_ok ok hc hd tb k
    refine ⟨g1, g2, step_ok ok hc hd g2 (lam := fun t => M.lamF t (M.call (k + 1)) (M.call k)) (fun _ => rfl) fun t ht A outer s H E cdv oc od fd osl lk hcd kind nd hr hg W pn xe tk => ?_⟩
    refine lam_ok (X := (cxOf (L2.CX P w) P w K mg base t.N t.name t.scope (He.ga K t.name) cdv A outer s H E).tr pn xe) ok hc hd g1 g0 rfl rfl rfl rfl rfl tk kind rfl rfl nd hr hg fun nt q hq => ?_
    obtain ⟨e1, e2⟩ := tb t ht nt q hq
    obtain ⟨c, e3, e4⟩ := e2 _ _ _ _ lk
    exact ⟨e1, c, by rw [← e3]; exact hcd.symm, e4⟩
end
end Dp
end
section
set_option Elab.async false
set_option linter.all false
set_option maxRecDepth 100000
set_option maxHeartbeats 4000000
namespace Dp
open PySem PySem.Spec PyProof.Rows L2 ClX
/-! ### constants of the module -/
mutual
def isB (K : PySem.W.Frag) : D → Value → Bool
  | .non, .none => true
  | .bl b, .bool c => b == c
  | .int i, .int j _ => decide (i = j)
  | .str x, .str y _ => decide (x = y)
  | .tup ds, .ref a => (match K.lookup a with
    | some ⟨.type "tuple", _, .seq its _, _⟩ => decide (its.size ≤ sizeLine) && isBs K ds its.toList
    | _ => false)
  | .con x, .ref a => decide (a = He.ga K x)
  | _, _ => false
def isBs (K : PySem.W.Frag) : List D → List Value → Bool
  | [], [] => true
  | d :: ds, u :: us => isB K d u && isBs K ds us
  | _, _ => false
end
mutual
theorem isB_ok {K : PySem.W.Frag} : ∀ {d : D} {u : Value}, isB K d u = true → ∃ v, RelV v u ∧ ∀ ρ H, Is K ρ H d v
  | .non, u, h => by
    cases u with
    | none => exact ⟨.non, rfl, fun _ _ => Is.non'⟩
    | _ => cases h
  | .bl b, u, h => by
    cases u with
    | bool c =>
      have e : b = c := eq_of_beq (show (b == c) = true from h)
      subst e
      exact ⟨.bl b, rfl, fun _ _ => Is.bl'⟩
    | _ => cases h
  | .int i, u, h => by
    cases u with
    | int j t =>
      have e : i = j := of_decide_eq_true h
      subst e
      exact ⟨.int i, ⟨t, rfl⟩, fun _ _ => Is.int'⟩
    | _ => cases h
  | .str i, u, h => by
    cases u with
    | str j t =>
      have e : i = j := of_decide_eq_true h
      subst e
      exact ⟨.str i, ⟨t, rfl⟩, fun _ _ => Is.str'⟩
    | _ => cases h
  | .con x, u, h => by
    cases u with
    | ref a =>
      have e : a = He.ga K x := of_decide_eq_true h
      subst e
      exact ⟨.ref _, rfl, fun _ _ => by unfold Is; rfl⟩
    | _ => cases h
  | .ty _, u, h => by cases u <;> cases h
  | .ref _, u, h => by cases u <;> cases h
  | .tup ds, u, h => by
    cases u with
    | ref a =>
      have h : (match K.lookup a with
        | some ⟨.type "tuple", _, .seq its _, _⟩ => decide (its.size ≤ sizeLine) && isBs K ds its.toList
        | _ => false) = true := h
      split at h
      · rename_i q its n sl e
        rw [Bool.and_eq_true] at h
        obtain ⟨vs, r, i⟩ := isBs_ok h.2
        exact ⟨.ref a, rfl, fun ρ H => by unfold Is; exact ⟨a, vs, rfl, .inr ⟨_, its, n, e, rfl, rfl, of_decide_eq_true h.1, r⟩, i ρ H⟩⟩
      · cases h
    | _ => cases h
theorem isBs_ok {K : PySem.W.Frag} : ∀ {ds : List D} {us : List Value}, isBs K ds us = true → ∃ vs, Vals vs us ∧ ∀ ρ H, IsAll K ρ H ds vs
  | [], [], _ => ⟨[], .nil, fun _ _ => .nil⟩
  | [], _ :: _, h => by cases h
  | _ :: _, [], h => by cases h
  | d :: ds, u :: us, h => by
    have h : (isB K d u && isBs K ds us) = true := h
    rw [Bool.and_eq_true] at h
    obtain ⟨v, r1, i1⟩ := isB_ok h.1
    obtain ⟨vs, r2, i2⟩ := isBs_ok h.2
    exact ⟨v :: vs, .cons r1 r2, fun ρ H => .cons (i1 ρ H) (i2 ρ H)⟩
end
theorem lookup_mem {α β : Type} [BEq α] [LawfulBEq α] : ∀ {l : List (α × β)} {a : α} {b : β}, l.lookup a = some b → (a, b) ∈ l
  | [], _, _, h => by cases h
  | (x, y) :: l, a, b, h => by
    rw [List.lookup_cons] at h
    split at h
    · rename_i e
      cases h
      rw [eq_of_beq e]
      exact List.mem_cons_self
    · exact List.mem_cons_of_mem _ (lookup_mem h)
/-! ### the hook -/
def bltNs : List Str := ["len", "isinstance", "int", "tuple", "list", "repr", "abs", "min", "max", "sorted", "dict", "all", "any", "range", "zip", "enumerate", "reversed"]
def Mo.fa (M : Mo) : List He.Fa := M.defs.map (fun t => .glo t.name) ++ M.free.map .free ++ M.attr.flatMap (fun p => match p.2 with
  | none => [.glo p.1, .exc p.1]
  | some _ => [.glo p.1]) ++ M.inis.map (fun i => .glo i.base) ++ M.isx.map (fun p => .exm p.1.1 p.1.2 p.2)
def IniD.d (i : IniD) : He.DefD := ⟨(i.cls, some "__init__"), "__init__", i.cls ++ ".__init__", i.params, i.body, i.scope, [], []⟩
def Mo.fn (M : Mo) : List He.DefD := M.defs.map DD.d ++ M.inis.map IniD.d
def valB (K : PySem.W.Frag) (p : Str × D) : Bool := match p.2 with
  | .ty _ => true
  | d => (match PySem.W.nsIn K mainGlobals p.1 with
    | some (some u) => isB K d u
    | _ => false)
/-- a type's name stands for the type -/
def tyB (free : List Str) (p : Str × D) : Prop := match p.2 with
  | .ty n => p.1 ∈ free ∧ bootBuiltins p.1 = some (.type n) ∧ p.1 ≠ "__name__"
  | _ => True
def noL (g : Addr → Option Obj) (a : Addr) : Option Obj := match g a with
  | some o => (match o.cls with
    | .type "list" => none
    | .none => (match o.data with
      | .fields _ => none
      | _ => some o)
    | _ => some o)
  | none => none
/-- no list, no bare record -/
def NoL (o : Obj) : Prop := o.cls ≠ .type "list" ∧ ∀ vs, o.cls = .none → o.data ≠ .fields vs
theorem noL_some {g : Addr → Option Obj} {a : Addr} {o : Obj} (h : noL g a = some o) : g a = some o ∧ NoL o := by
  unfold noL at h
  split at h
  · rename_i o' e
    split at h
    · cases h
    · rename_i hc
      split at h
      · cases h
      · rename_i hd
        cases h
        refine ⟨e, ?_, fun vs _ => hd vs⟩
        rw [hc]
        intro z; cases z
    · rename_i hn hn2
      cases h
      exact ⟨e, hn, fun vs z => absurd z hn2⟩
  · cases h
def frL (g : Addr → Option Obj) (n : Nat) : PySem.W.Frag := He.frG (noL g) (He.asD g n ++ [cStatics])
theorem frL_at {g : Addr → Option Obj} {n : Nat} {a : Addr} {o : Obj} (h : (frL g n).lookup a = some o) : g a = some o ∧ NoL o := noL_some (He.frG_at _ h)
abbrev ObL : Type := He.AlD × Bool
def excQB (K : PySem.W.Frag) (D : Addr) : Bool := decide (PySem.W.findIn K (.ref D) "__getattribute__" = some (some (.builtin "BaseException.__getattribute__"))) && (decide (PySem.W.findIn K (.ref D) "__getattr__" = some none) && (decide (PySem.W.subIn K (.ref D) (.type "BaseException") = some true) && (PySem.W.hasDictIn K D &&
  (decide (PySem.W.findIn K (.ref D) "__class__" = some (some (.builtin "object.__class__"))) && (decide (PySem.W.specialIn K (.builtin "object.__class__") "__get__" = some (some (.builtin "getset_descriptor.__get__"))) && (decide (PySem.W.takesIn K (.builtin "object.__class__") = some true) && decide (PySem.W.mroIn K D (.type "object") = some true)))))))
theorem excQB_ok {K : PySem.W.Frag} {D : Addr} (h : excQB K D = true) : ExcC K D := by
  unfold excQB at h
  simp only [Bool.and_eq_true, decide_eq_true_eq] at h
  obtain ⟨h1, h2, h3, h4, h5, h6, h7, h8⟩ := h
  exact ⟨h1, h2, h3, h4, h5, h6, h7, h8⟩
/-- an own class over ValueError, made as ValueError makes it -/
def oexB (K : PySem.W.Frag) (C : Addr) : Bool := match K.lookup C with
  | some ⟨.type "type", _, .cls cd, sl⟩ => (match cd.mro, sl.toList with
    | .ref C' :: bm, [_, _, _, _, some (.builtin n), _] => C' == C && (n == "ValueError.__new__" && (!cd.hasDel && (cd.hasDict && HandSPX.refsVE bm)))
    | _, _ => false)
  | _ => false
theorem oexB_ok {K : PySem.W.Frag} {C : Addr} (h : oexB K C = true) : ∃ nm q N bs bm sn sub ab col dd k0 k1 k2 k3 k5, K.lookup C = some (excClassObj nm q C N bs bm true sn sub ab col dd k0 k1 k2 k3 k5 "ValueError.__new__") ∧ HandSPX.refsVE bm = true := by
  unfold oexB at h
  split at h
  · rename_i dd cd sl ho
    split at h
    · rename_i D bm k0 k1 k2 k3 n k5 hm hs
      simp only [Bool.and_eq_true, beq_iff_eq, Bool.not_eq_true'] at h
      obtain ⟨rfl, rfl, hl, hd, hv⟩ := h
      obtain ⟨nm, bs, mro, ns, q, hd', sn, sb, ab, col, dl⟩ := cd
      dsimp only at hm hl hd
      subst hm hl hd
      obtain ⟨l⟩ := sl
      dsimp only at hs
      subst hs
      exact ⟨nm, q, ns, bs, bm, sn, sb, ab, col, dd, k0, k1, k2, k3, k5, ho, hv⟩
    · cases h
  · cases h
def iniV (K : PySem.W.Frag) (F : Addr) : Bool := match PySem.W.findCls K (.ref F) (.type "type") "__init__" with
  | some (.val (.builtin n)) => n == "ValueError.__init__"
  | _ => false
theorem iniV_ok {K : PySem.W.Frag} {F : Addr} (h : iniV K F = true) : PySem.W.findCls K (.ref F) (.type "type") "__init__" = some (.val (.builtin "ValueError.__init__")) := by
  unfold iniV at h
  split at h
  · rename_i n e
    rw [e, eq_of_beq h]
  · cases h
def iniQ (K : PySem.W.Frag) (i : IniD) : Bool :=
  oexB K (He.ga K i.cls) && (decide (PySem.W.findIn K (.ref (He.ga K i.cls)) "__setattr__" = some (some (.builtin "object.__setattr__"))) && (decide (PySem.W.subIn K (.ref (He.ga K i.cls)) (.type "BaseException") = some true) && (decide (PySem.W.typeIn K (.ref (He.ga K i.cls)) = some (.type "type")) && (PySem.W.keepIn K (.ref (He.ga K i.cls)) &&
  (xfB K (He.ga K i.cls) && (decide (PySem.W.findIn K (.ref (He.ga K i.cls)) i.at_ = some none) && (decide (PySem.W.findIn K (.ref (He.ga K i.cls)) "__init__" = some (some (.ref (He.ma K (He.ga K i.cls) "__init__")))) && (decide (PySem.W.typeIn K (.ref (He.ma K (He.ga K i.cls) "__init__")) = some (.type "function")) &&
  (PySem.W.readsIn K (He.ga K i.base) (.type "type") && (decide (PySem.W.specialIn K (.ref (He.ga K i.base)) "__getattribute__" = some (some (.builtin "type.__getattribute__"))) && iniV K (He.ga K i.base)))))))))))
/-- each class with an attribute is told -/
def Mo.iniB (M : Mo) : Bool := M.attr.all fun p => match p.2 with
  | some n => M.inis.any fun i => decide (i.cls = p.1) && decide (i.at_ = n)
  | none => true
/-- what is asked of the text's values and classes -/
def Mo.ask (M : Mo) (K : PySem.W.Frag) : Bool := M.vals.all (valB K) && (M.attr.all (fun p => excQB K (He.ga K p.1)) && (M.isx.all (fun p => decide (PySem.W.kitOne K (.ref (He.ga K p.1.1)) (.ref (He.ga K p.1.2)) = some p.2)) &&
  (M.inis.all (iniQ K) && M.attr.all fun p => kitTs.all fun T => decide (PySem.W.kitOne K (.type T) (.ref (He.ga K p.1)) = some false))))
def Mo.obs (M : Mo) (n : Nat) (g : Addr → Option Obj) : ObL := (He.obsD M.fa M.fn (frL g n), M.ask (frL g n))
def Mo.Says (M : Mo) (K : PySem.W.Frag) : Prop := He.SaysD M.fa M.fn K ∧ M.ask K = true
def Mo.hook (M : Mo) (n : Nat) : PySem.W.Hook where
  α := ObL
  obs := fun s => M.obs n s.heap.get?
  val := fun _ => (He.valD M.fn, true)
  says := fun _ h => ∃ K : PySem.W.Frag, K.In h ∧ M.Says K ∧ ∀ a o, K.lookup a = some o → NoL o
  of := fun _ s e => ⟨frL s.heap.get? n, fun a o q => (frL_at q).1, ⟨congrArg Prod.fst e, congrArg Prod.snd e⟩, fun a o q => (frL_at q).2⟩
  keeps := fun _ _ _ ⟨K, hK, c⟩ k => ⟨K, fun a o e => k a o (hK a o e), c⟩
theorem Mo.obs_eq {M : Mo} {n : Nat} {g : Addr → Option Obj} {s : Shared} (h : ∀ a, g a = s.heap.get? a) : M.obs n g = (M.hook n).obs s := by
  rw [show g = s.heap.get? from funext h]
  rfl
theorem bltNs_mem {x : Str} (h : (bltF true x).isSome = true ∨ isSrc x = true) : x ∈ bltNs := by
  rcases h with h | h
  · unfold bltF at h
    repeat (split at h; (rename_i e; subst e; decide +kernel))
    unfold bltF2 at h
    repeat (split at h; (rename_i e; subst e; decide +kernel))
    cases h
  · unfold isSrc at h
    simp only [Bool.or_eq_true] at h
    rcases h with ((h | h) | h) | h
    · rw [of_decide_eq_true h]; decide +kernel
    · rw [of_decide_eq_true h]; decide +kernel
    · rw [of_decide_eq_true h]; decide +kernel
    · rw [of_decide_eq_true h]; decide +kernel
theorem mo_ok {M : Mo} {K : PySem.W.Frag} {h : Heap} {mg : Str → Option Value} (X : K.In h) (G : h.Ns mainGlobals mg) (c : M.Says K) (hf : ∀ x ∈ bltNs, x ∈ M.free) (ht : ∀ p ∈ M.vals, tyB M.free p) (hI : M.iniB = true) (hIo : ∀ i ∈ M.inis, i.Ok) : MoOk M K mg := by
  obtain ⟨c, cv⟩ := c
  unfold Mo.ask at cv
  rw [Bool.and_eq_true, Bool.and_eq_true, Bool.and_eq_true, Bool.and_eq_true] at cv
  obtain ⟨cv, ce, ck, ci, ct⟩ := cv
  have key : ∀ C, (M.attr.lookup C).isSome = true → ∃ z, (C, z) ∈ M.attr := fun C h => by
    obtain ⟨z, e⟩ := Option.isSome_iff_exists.mp h
    exact ⟨z, lookup_mem e⟩
  have told : ∀ C n, M.attr.lookup C = some (some n) → ∃ i ∈ M.inis, i.cls = C ∧ i.at_ = n := fun C n h => by
    have := List.all_eq_true.mp hI _ (PySem.mem_of_lookup h)
    obtain ⟨i, hi, q⟩ := List.any_eq_true.mp this
    simp only [Bool.and_eq_true, decide_eq_true_eq] at q
    exact ⟨i, hi, q.1, q.2⟩
  have fact : ∀ f ∈ M.fa, f.ok K = true := fun f hf => c.facts hf
  have free : ∀ x ∈ M.free, mg x = none := fun x hx => He.free_ok X G (fact _ (List.mem_append_left _ (List.mem_append_left _ (List.mem_append_left _ (List.mem_append_right _ (List.mem_map_of_mem hx))))))
  refine ⟨fun t ht => ?_, fun t ht => ?_, fun x d hx => ?_, fun x hx => free x (hf x (bltNs_mem hx)), fun C hC => ?_, fun a C b hx => ?_, fun T C hT hC => ?_, fun a C b hx => ?_, fun C hC => ?_, fun C n hC => ?_, fun C n hC => ?_⟩
  · obtain ⟨fd, F⟩ := c.defs (d := t.d) (List.mem_append_left _ (List.mem_map_of_mem ht))
    exact ⟨fd, F⟩
  · exact He.glo_ok X G (fact _ (List.mem_append_left _ (List.mem_append_left _ (List.mem_append_left _ (List.mem_append_left _ (List.mem_map_of_mem (f := fun t : DD => He.Fa.glo t.name) ht))))))
  · have hm := PySem.mem_of_lookup hx
    have hv := List.all_eq_true.mp cv _ hm
    have hty := ht _ hm
    have gen : (match PySem.W.nsIn K mainGlobals x with
        | some (some u) => isB K d u
        | _ => false) = true → ∃ u v, RelV v u ∧ (∀ ρ H, Is K ρ H d v) ∧ (mg x = some u ∨ (mg x = none ∧ bootBuiltins x = some u ∧ x ≠ "__name__")) := fun q => by
      split at q
      · rename_i u e
        obtain ⟨v, r, i⟩ := isB_ok q
        exact ⟨u, v, r, i, .inl (PySem.W.mg_of X G e)⟩
      · cases q
    cases d with
    | ty n =>
      obtain ⟨h1, h2, h3⟩ := hty
      exact ⟨.type n, .ty n, rfl, fun _ _ => by unfold Is; rfl, .inr ⟨free x h1, h2, h3⟩⟩
    | _ => exact gen hv
  · obtain ⟨z, hm⟩ := key C hC
    exact excQB_ok (List.all_eq_true.mp ce _ hm)
  · exact of_decide_eq_true (List.all_eq_true.mp ck _ (lookup_mem hx))
  · obtain ⟨z, hm⟩ := key C hC
    exact of_decide_eq_true (List.all_eq_true.mp (List.all_eq_true.mp ct _ hm) T hT)
  · have hm := lookup_mem hx
    exact He.exm_ok (fact (.exm a C b) (List.mem_append_right _ (List.mem_map_of_mem (f := fun p : (Str × Str) × Bool => He.Fa.exm p.1.1 p.1.2 p.2) hm)))
  · have hm := PySem.mem_of_lookup hC
    have h1 := fact (.exc C) (List.mem_append_left _ (List.mem_append_left _ (List.mem_append_right _ (List.mem_flatMap.mpr ⟨_, hm, List.mem_cons_of_mem _ List.mem_cons_self⟩))))
    have h2 := fact (.glo C) (List.mem_append_left _ (List.mem_append_left _ (List.mem_append_right _ (List.mem_flatMap.mpr ⟨_, hm, List.mem_cons_self⟩))))
    obtain ⟨a, b, c, d⟩ := He.exc_ok h1
    exact ⟨He.glo_ok X G h2, b, a, c, d⟩
  · obtain ⟨i, hi, rfl, rfl⟩ := told C n hC
    have q := List.all_eq_true.mp ci _ hi
    unfold iniQ at q
    simp only [Bool.and_eq_true, decide_eq_true_eq] at q
    obtain ⟨q1, q2, q3, q4, q5, q6, q7, q8, q9, q10, q11, q12⟩ := q
    have o := hIo i hi
    obtain ⟨fd, F⟩ := c.defs (d := i.d) (List.mem_append_right _ (List.mem_map_of_mem hi))
    have gC := He.glo_ok X G (fact (.glo i.cls) (List.mem_append_left _ (List.mem_append_left _ (List.mem_append_right _ (List.mem_flatMap.mpr ⟨_, PySem.mem_of_lookup hC, List.mem_cons_self⟩)))))
    have gF := He.glo_ok X G (fact (.glo i.base) (List.mem_append_left _ (List.mem_append_right _ (List.mem_map_of_mem (f := fun i : IniD => He.Fa.glo i.base) hi))))
    exact ⟨i.base, _, _, _, _, _, _, fd, ⟨⟨oexB_ok q1, q2, q3, q4, q5⟩, q7, q8, q9, gC, gF, ⟨q10, q11⟩, iniV_ok q12⟩, ⟨F, o.sc, o.sh⟩, F.bindsN o.bd⟩
  · obtain ⟨i, hi, rfl, rfl⟩ := told C n hC
    have q := List.all_eq_true.mp ci _ hi
    unfold iniQ at q
    simp only [Bool.and_eq_true, decide_eq_true_eq] at q
    obtain ⟨_, _, _, _, _, q6, q7, _⟩ := q
    exact ⟨xfB_ok q6, q7⟩
/-! ### the law, called -/
section
variable {P : Program} {w : World} {K : PySem.W.Frag} {mg mb : Str → Option Value} {k : Nat} {a fa : Addr} {x : Str} {vs : List Value} {ns : List Int} {s : Shared}
def scrO (vs : List Value) : Obj := ⟨.type "list", none, .seq vs.toArray 0, #[]⟩
/-- the heap in which the script alone is known, for reading -/
def scrH (a : Addr) (vs : List Value) (ns : List Int) : Hp := fun b => if b = a then some (.frz (scrO vs) (.lst (ns.map .int))) else none
theorem scrH_at : scrH a vs ns a = some (.frz (scrO vs) (.lst (ns.map .int))) := if_pos rfl
theorem scrH_some {b : Addr} {u : HO} (h : scrH a vs ns b = some u) : b = a ∧ u = .frz (scrO vs) (.lst (ns.map .int)) := by
  unfold scrH at h
  split at h
  · rename_i e; exact ⟨e, (Option.some.inj h).symm⟩
  · cases h
theorem scrH_none {b : Addr} (h : b ≠ a) : scrH a vs ns b = none := if_neg h
theorem ints_all {ρ : List Addr} {H : Hp} : ∀ ns : List Int, IsAll K ρ H (ns.map .int) (ns.map .int)
  | [] => .nil
  | _ :: r => .cons Is.int' (ints_all r)
/-- the script as the only object of the store -/
theorem scrR : R K [a] (scrH a vs ns) [.fro (ns.map .int)] := by
  refine ⟨rfl, fun i j b hi hj => ?_, fun n m e => ?_⟩
  · have : i < 1 := (List.getElem?_eq_some_iff.mp hi).1
    have : j < 1 := (List.getElem?_eq_some_iff.mp hj).1
    omega
  · have hn : n < 1 := (List.getElem?_eq_some_iff.mp e).1
    obtain rfl : n = 0 := by omega
    cases e
    exact ⟨a, rfl, ⟨_, .inl (.inr ⟨_, scrH_at⟩), ints_all ns⟩, _, _, scrH_at⟩
end
end Dp
end
section
set_option Elab.async false
set_option linter.all false
set_option maxRecDepth 100000
set_option maxHeartbeats 4000000
namespace Dp
open PySem PySem.Spec PyProof.Rows L2 LamX
section
variable {P : Program} {w : World} {K : PySem.W.Frag} {mg mb : Str → Option Value} {k : Nat} {a fa T : Addr} {x : Str} {vs : List Value} {ns : List Int} {s : Shared}
/-- the heap in which the script is known, for reading, and the law's table -/
def startH (a : Addr) (vs : List Value) (ns : List Int) (T : Addr) : Hp := fun b => if b = a then some (.frz (scrO vs) (.lst (ns.map .int))) else if b = T then some (.tbl #[]) else none
theorem startH_a : startH a vs ns T a = some (.frz (scrO vs) (.lst (ns.map .int))) := if_pos rfl
theorem startH_T (h : T ≠ a) : startH a vs ns T T = some (.tbl #[]) := by unfold startH; rw [if_neg h, if_pos rfl]
theorem startH_out {b : Addr} (h : b ≠ a) (h2 : b ≠ T) : startH a vs ns T b = none := by unfold startH; rw [if_neg h, if_neg h2]
/-- the start: the script, the table -/
theorem startR {q : Str} (hT : T = tabA K x) (ne : T ≠ a) : R K [a, T] (startH a vs ns T) [.fro (ns.map .int), .tab x q] := by
  refine ⟨rfl, fun i j b hi hj => ?_, fun n m e => ?_⟩
  · have h1 : i < 2 := (List.getElem?_eq_some_iff.mp hi).1
    have h2 : j < 2 := (List.getElem?_eq_some_iff.mp hj).1
    match i, j, h1, h2 with
    | 0, 0, _, _ => exact .inl rfl
    | 1, 1, _, _ => exact .inl rfl
    | 0, 1, _, _ => cases hi; cases hj; exact absurd rfl ne
    | 1, 0, _, _ => cases hi; cases hj; exact absurd rfl ne
  · have h1 : n < 2 := (List.getElem?_eq_some_iff.mp e).1
    match n, h1 with
    | 0, _ =>
      cases e
      exact ⟨a, rfl, ⟨_, .inl (.inr ⟨_, startH_a⟩), ints_all ns⟩, _, _, startH_a⟩
    | 1, _ =>
      cases e
      refine ⟨T, rfl, hT, #[], startH_T ne, ?_, fun pos cv hc => ?_⟩
      · simp [TriplesOk]
      · simp [codeAmong] at hc
/-- a def of one parameter that is called with the script, from outside -/
theorem script_call {g : List D → Sto → Res D} {q : Str} {c : Addr} (KX : K.In s.heap) (G : s.heap.Ns mainGlobals mg) (B : s.heap.Ns builtinsNs mb) (hB : ∀ y : Str, y ≠ "__name__" → mb y = bootBuiltins y) (lim : s.heap.NoLimit) (gens : s.gens = #[])
    (ho : s.heap.get? a = some (scrO vs)) (hT : s.heap.get? T = some { cls := .none, data := .fields #[] }) (hc : PySem.W.CodeHd s.heap c T)
    (hbm : ∃ (bm : Addr) (ob : Obj), mg "__builtins__" = some (.ref bm) ∧ bm ≠ builtinsNs ∧ s.heap.get? bm = some ob ∧ ob.cls = .type "module" ∧ ob.dict = some builtinsNs ∧ ob.data = .plain)
    (hi : IntsAre vs ns) (hl : ns.length ≤ sizeLine) (room : Room (k + 2) callerA) (nl : K.lookup a = none) (nT : K.lookup T = none) (hTA : T = tabA K x)
    (F : ∀ base : Heap, K.In base → base.Ns mainGlobals mg → TabB base mg c T → ∃ p fd, FnG P w K mg base k fa fd [p] (spD K g) ∧ L2.Binds K fd [p] []) (pure_ : ∃ S', g [.ref 0] [.fro (ns.map .int), .tab x q] = .ok (.bl true) S') :
    codeAny (model P w) callerA (.call (.ref fa) ⟨[.ref a], []⟩) (fun r t => r = .ok (.ret (.bool true)) ∧ OldK s.heap t.heap ∧ t.os = s.os ∧ AllBare t.gens) s := by
  obtain ⟨S', hp⟩ := pure_
  have Ta : T ≠ a := fun z => by
    subst z
    rw [ho] at hT
    cases hT
  -- what is neither a row nor a table stands in the base
  have stands : ∀ {b : Addr} {o : Obj}, s.heap.get? b = some o → (∀ xs n, o.data ≠ .seq xs n) → o.data ≠ .fields #[] → (hidT s.heap (startH a vs ns T)).get? b = some o := fun {b o} e h1 h2 => hidT_get e (startH_out (fun z => by
    subst z
    rw [ho] at e
    cases e
    exact h1 _ _ rfl) fun z => by
    subst z
    rw [hT] at e
    cases e
    exact h2 rfl)
  have names : ∀ {b : Addr} {m : Str → Option Value}, s.heap.Ns b m → (hidT s.heap (startH a vs ns T)).Ns b m := fun {b m} q => by
    obtain ⟨o, es, ep, e, d, r⟩ := q
    exact ⟨o, es, ep, stands e (by rw [d]; intros; simp) (by rw [d]; simp), d, r⟩
  have Kb : K.In (hidT s.heap (startH a vs ns T)) := fun b o e => hidT_get (KX b o e) (startH_out (fun z => by
    subst z
    rw [nl] at e
    cases e) fun z => by
    subst z
    rw [nT] at e
    cases e)
  obtain ⟨mc, l1, l2⟩ := lim
  have world : Mod K mg (hidT s.heap (startH a vs ns T)) := ⟨Kb, names G, ⟨mb, names B, hB⟩, ⟨mc, names l1, l2⟩⟩
  have tab : TabB (hidT s.heap (startH a vs ns T)) mg c T := by
    refine ⟨?_, ?_, fun z => ?_⟩
    · obtain ⟨o, us, file, tf, flags, tg, inF, text, tt, w1, w2, w3, w4, rest⟩ := hc
      refine ⟨o, us, file, tf, flags, tg, inF, text, tt, stands w1 (by rw [w3]; intros; simp) (fun z => ?_), w2, w3, w4, rest⟩
      rw [w3] at z
      have : us = #[] := Data.fields.inj z
      rw [this] at w4
      cases w4
    · obtain ⟨bm, ob, w1, w2, w3, w4, w5, w6⟩ := hbm
      refine ⟨bm, ob, w1, w2, fun z => ?_, fun z => ?_, stands w3 (by rw [w6]; intros; simp) (by rw [w6]; simp), w4, w5, w6⟩
      · obtain ⟨o, es, ep, e, d, _⟩ := G
        rw [z, e] at w3
        cases w3
        rw [d] at w6
        cases w6
      · rw [z, hT] at w3
        cases w3
        cases w6
    · obtain ⟨o, es, ep, e, d, _⟩ := G
      rw [z, hT] at e
      cases e
      cases d
  have held : HOk P w (startH a vs ns T) s.heap := fun b u z => by
    by_cases hb : b = a
    · subst hb
      rw [startH_a] at z
      cases z
      exact ⟨ho, by rw [List.length_map]; exact hl, vs, 0, vals_ints hi, ho⟩
    · by_cases hb2 : b = T
      · subst hb2
        rw [startH_T hb] at z
        cases z
        exact hT
      · rw [startH_out hb hb2] at z
        cases z
  have outside : Env0 P w K mg (hidT s.heap (startH a vs ns T)) callerA [] s (startH a vs ns T) := ⟨rfl, world, fun b o e => of_hidT e, Nat.le_of_eq (hidT_size _ _), trivial, (fun b hb => by have hb : b ∈ ([] : List Addr) := hb; cases hb), held, AllBare.of_eq gens⟩
  have sp : spD K g [.ref a] (startH a vs ns T) (fun v _ => v = .bl true) (fun _ _ _ => False) := by
    refine ⟨[a, T], _, [.ref 0], startR (x := x) (q := q) hTA Ta, .cons (by unfold Is; exact ⟨a, rfl, rfl⟩) .nil, ?_⟩
    rw [hp]
    exact fun ρ' H' b r' e' i => i.bl_eq
  obtain ⟨p, fd, F, bd⟩ := F _ Kb (names G) tab
  refine codeAny_mono (F.run callerA [] s _ ⟨[.ref a], []⟩ [.ref a] [.ref a] _ _ room rfl outside (bd s [.ref a] KX rfl) (.cons rfl .nil) sp) fun r t out => ?_
  match r, out with
  | .error e, out =>
    obtain ⟨_, _, _, _, _, _, _, _, _, _, _, _, z⟩ := out
    exact z.elim
  | .ok (.ret u), out =>
    obtain ⟨v, H', os, bare, un, hok', rv, q⟩ := out
    obtain rfl : v = .bl true := q
    obtain rfl : u = Value.bool true := rv
    obtain ⟨more, zT⟩ := un.tbls T #[] (startH_T Ta)
    have now := hok' T _ zT
    have rest : ∀ b o, b ≠ T → s.heap.get? b = some o → t.heap.get? b = some o := fun b o nb e => by
      by_cases hb : b = a
      · subst hb
        rw [ho] at e
        cases e
        exact (hok' _ _ (un.frzs _ _ _ startH_a)).1
      · exact un.keep b o e (startH_out hb nb) (by intro z; cases z) (by intro z; cases z)
    refine ⟨rfl, ⟨fun b o e => ?_, fun b o e => ?_⟩, os, bare⟩
    · by_cases hb : b = T
      · subst hb
        rw [hT] at e
        cases e
        refine .inr (.inl ⟨(hc.tab hT).isCodeTable, rfl, #[], more, rfl, ?_⟩)
        rw [Array.empty_append] at now ⊢
        exact now
      · exact .inl (rest b o hb e)
    · by_cases hb : b = T
      · subst hb
        exact ⟨_, now⟩
      · exact ⟨o, rest b o hb e⟩
  | .ok .next, out => exact False.elim out
  | .ok .brk, out => exact False.elim out
  | .ok .cont, out => exact False.elim out
end
/-- THE END: a law over a table of defs, from what the pure run says -/
theorem walk_mo {l : PySem.W.OpenLaw} {n k m : Nat} {v : Program} {loose : List Str} {XP : (Str → Option Value) → Heap → Prop} {d : DefRec} (M : Mo) (t : DD) (hn : l.most = some n) (hn2 : n ≤ sizeLine) (hdf : d.params.defaults = []) (hr : Room (k + 2) callerA)
    (hrec : ((recsOf v).any fun e => e.name == d.name) = true)
    (ht : M.find d.name = some t) (hp : t.ps.length = 1) (hc : M.conOk = true) (hok : ∀ t ∈ M.defs, t.Ok) (hf : ∀ x ∈ bltNs, x ∈ M.free) (hty : ∀ p ∈ M.vals, tyB M.free p) (hI : M.iniB = true) (hIo : ∀ i ∈ M.inis, i.Ok)
    (htab : ∀ y z, M.tab.lookup y = some z → y = d.name ∧ z = (1, (d.name ++ ".<locals>.") ++ "<lambda>"))
    (pure_ : ∀ ns : List Int, ns.length ≤ n → (∀ z ∈ ns, Builtin.Int.intBits z ≤ 1048576) → ∃ S', M.call k d.name [.ref 0] [.fro (ns.map .int), .tab d.name ((d.name ++ ".<locals>.") ++ "<lambda>")] = .ok (.bl true) S') :
    PySem.W.WalkO v loose XP (M.hook m).says l.row.toRowW d [] (fun f vs => PySem.call f vs) := by
  refine Att.attach_callB hn hdf fun w s0 s mg mb fa o pm cd doc a vs ns G Y ho hd hcd hmg hobj hi hlen hbits hg => ?_
  obtain ⟨K, KX, c, nl⟩ := Y
  have ok := mo_ok KX G.T.g c hf hty hI hIo
  obtain ⟨hm, hx⟩ := Mo.find_mem ht
  have e : some (Value.ref fa) = some (Value.ref (He.ga K t.name)) := by rw [← hmg, ← hx, ok.mgd t hm]
  obtain rfl : fa = He.ga K t.name := by
    have := Option.some.inj e
    exact Value.ref.inj this
  -- the law's own table
  obtain ⟨dL, hmL, hnL⟩ := List.any_eq_true.mp hrec
  obtain ⟨a1, o1, fd1, c1, T, h1, h2, h3, h4, h5, h6⟩ := G.T.tab dL hmL
  rw [beq_iff_eq.mp hnL, hmg] at h1
  cases h1
  obtain ⟨fdK, F⟩ := ok.fd t hm
  obtain ⟨oc, od, dV, kV, dc, pm', an, cdv, ct, osl, rfl, lk, hcK, _, _⟩ := F.ex
  have g1 := KX _ _ lk
  rw [g1] at h2
  cases h2
  cases h3
  have h4 : cdv = .ref c1 := h4
  subst h4
  have hT : s.heap.get? T = some { cls := .none, data := .fields #[] } := h6.2
  have hd1 : PySem.W.CodeHd s.heap c1 T := PySem.W.CodeHd.of h5 h6
  have nT : K.lookup T = none := by
    cases z : K.lookup T with
    | none => rfl
    | some o' =>
      have e2 := KX _ _ z
      rw [hT] at e2
      cases e2
      exact absurd rfl ((nl _ _ z).2 _ rfl)
  have hTA : T = tabA K t.name := by
    unfold tabA
    rw [lk]
    unfold PySem.W.codeIn at hcK
    cases z : K.lookup c1 with
    | none => simp only [z] at hcK; cases hcK
    | some o' =>
      have e2 := KX _ _ z
      obtain ⟨oc', vc, file, tf, flags, tg, inF, text, tt, w1, w2, w3, w4, _⟩ := hd1
      rw [e2] at w1
      cases w1
      obtain ⟨cl, dd, dat, sl⟩ := o'
      have w3 : dat = .fields vc := w3
      subst w3
      show T = (match K.lookup c1 with
        | some ⟨_, _, .fields vs, _⟩ => (match vs[11]? with
          | some (Value.ref P) => P
          | _ => 0)
        | _ => 0)
      rw [z]
      show T = (match vc[11]? with
          | some (Value.ref P) => P
          | _ => 0)
      rw [w4]
  refine script_call (k := k) (x := t.name) (q := (d.name ++ ".<locals>.") ++ "<lambda>") KX G.T.g G.T.b G.T.builtins G.T.nolimit hg hobj hT hd1 G.T.bmain hi (Nat.le_trans hlen hn2) hr ?_ nT hTA (fun base KB GB TB => ?_) (by
    obtain ⟨S', e⟩ := pure_ ns hlen hbits
    rw [hx]
    exact ⟨S', e⟩)
  · cases z : K.lookup a with
    | none => rfl
    | some o' =>
      have e2 := KX a o' z
      rw [hobj] at e2
      cases e2
      exact absurd rfl (nl a _ z).1
  · have okB := mo_ok KB GB c hf hty hI hIo
    have tb : M.Tb K mg base := fun t' ht' nt q hq => by
      obtain ⟨e1, e2⟩ := htab _ _ hq
      cases e2
      rw [e1, ← hx]
      refine ⟨rfl, fun oc2 od2 fd2 osl2 lk2 => ?_⟩
      rw [lk] at lk2
      cases lk2
      exact ⟨c1, rfl, by rw [← hTA]; exact TB⟩
    obtain ⟨fd, F, _, Bn, _⟩ := (defs_ok (P := l.prog) (w := w) (base := base) okB hc hok tb k).1 d.name t ht
    match t.ps, hp, F, Bn with
    | [p], _, F, Bn => exact ⟨p, fd, by rw [← hx]; exact F, Bn⟩
end Dp
end
section
set_option Elab.async false
set_option linter.all false
set_option maxRecDepth 100000
set_option maxHeartbeats 4000000
namespace Dp
open PySem PySem.Spec PyProof.Rows L2
/-! ### the pure run, step by step -/
def isLam1 : List Expr → Bool
  | [.Lambda _ _ _ _] => true
  | _ => false
def isConO : Option D → Bool
  | some (.con _) => true
  | _ => false
/-- a call as its caller sees it -/
noncomputable def Mo.callS (M : Mo) (k : Nat) (x : Str) (ds : List D) (S : Sto) : Res D := scope keepC S (M.call k x ds S)

/-- a call by a name, but of one lambda -/
def callN (G : Gam) (n : Nat) (sc : Scope) (x : Str) (args : List Expr) (p : Pos) : EvF := fun σ S => if glB sc x = true ∧ plainN x = true ∧ args.any isStar = false then (match args with
        | [] => .no
        | _ => match G.glob x with
          | some (.con g) => (match G.pars g with
            | some ps => (evL (ev G n sc) args σ S).bind fun ds S1 => if ds.length = ps.length then G.callS (G.own p) g ds S1 else .no
            | none => match args, G.attr g with
              | [_], some (some at_) => (evL (ev G n sc) args σ S).bind fun ds S1 => mkX g at_ ds S1
              | _, _ => .no)
          | _ => match itemsArg x args with
            | some o => (ev G n sc o σ S).bind fun d S1 => ofO (fItems d S1)
            | none => match bltG G (G.own p) x with
              | some f => (evL (ev G n sc) args σ S).bind fun ds S1 => ofO (f ds S1)
              | none => .no) else if visB sc x = true ∧ plainN x = true ∧ args.any isStar = false then (match args with
        | [] => .no
        | _ => match slot G.N sc x with
          | some i => (match σ[i]? with
            | some (some (.con g)) => (match G.pars g with
              | some ps => (evL (ev G n sc) args σ S).bind fun ds S1 => if ds.length = ps.length then G.callS (G.own p) g ds S1 else .no
              | none => .no)
            | _ => .no)
          | none => .no) else .no
theorem ev_call {G : Gam} {n : Nat} {sc : Scope} {x : Str} {args : List Expr} {p q : Pos} (h : isLam1 args = false) : ev G (n + 1) sc (.Call (.Name x p) args [] q) = callN G n sc x args q := by
  cases args with
  | nil => rfl
  | cons a args =>
    cases args with
    | nil => cases a <;> first | rfl | cases h
    | cons b args => cases a <;> rfl
def callK (G : Gam) (n : Nat) (sc : Scope) (x : Str) (args : List Expr) (kws : List Keyword) (p : Pos) : EvF := fun σ S => if glB sc x = true ∧ plainN x = true ∧ args.any isStar = false ∧ kws.all (·.arg.isSome) = true then (match G.glob x with
        | some (.con g) => (match G.pars g, kwFind (G.kwp g) args.length (kws.filterMap (·.arg)) with
          | some ps, some perm => (evL (ev G n sc) args σ S).bind fun ds S1 => (evKw (ev G n sc) kws σ S1).bind fun es S2 => if (permL perm (ds ++ es)).length = ps.length then G.callS (G.own p) g (permL perm (ds ++ es)) S2 else .no
          | _, _ => .no)
        | _ => .no) else .no
theorem ev_callK {G : Gam} {n : Nat} {sc : Scope} {x : Str} {args : List Expr} {kw : Keyword} {kws : List Keyword} {p q : Pos} : ev G (n + 1) sc (.Call (.Name x p) args (kw :: kws) q) = callK G n sc x args (kw :: kws) q := by
  cases args with
  | nil => rfl
  | cons a args =>
    cases args with
    | nil => cases a <;> rfl
    | cons b args => cases a <;> rfl
theorem ev_sub {G : Gam} {n : Nat} {sc : Scope} {a b : Expr} {p : Pos} (h : isSliceE b = false) : ev G (n + 1) sc (.Subscript a b p) = fun σ S => (ev G n sc a σ S).bind fun x S1 => (ev G n sc b σ S1).bind fun y S2 => ofO (ixA x y S2) := by
  cases b <;> first | rfl | cases h
section
variable {M : Mo} {N : List Str} {s0 : List (Str × NameKind)} {call : Str → List D → Sto → Res D} {lam : Str → Arguments → Expr → Scope → EvF} {act : Str → EvF}
variable {n : Nat} {sc : Scope} {σ σ1 : Sig} {S S1 S2 S3 S4 : Sto} {a b c e : Expr} {d x y z : D} {p q p2 : Pos} {r : SR} {rr : Res D}
noncomputable abbrev Ga (M : Mo) (N : List Str) (s0 : List (Str × NameKind)) (call : Str → List D → Sto → Res D) (lam : Str → Arguments → Expr → Scope → EvF) (act : Str → EvF) : Gam := M.gam N s0 call lam act
theorem q_loc {f : Str} {i : Nat} (h : slot N sc f = some i) (hi : σ[i]? = some (some d)) : ev (M.gam N s0 call lam act) (n + 1) sc (.Name f p) σ S = .ok d S := by
  unfold ev evName
  show (match slot N sc f with
    | some i => (match σ[i]? with
      | some (some d) => Res.ok d S
      | _ => .no)
    | none => _) = _
  rw [h]; simp only [hi]
theorem q_glo {f : Str} (h : slot N sc f = none) (h2 : (glB sc f && plainN f) = true) (hg : M.glob f = some d) : ev (M.gam N s0 call lam act) (n + 1) sc (.Name f p) σ S = .ok d S := by
  rw [Bool.and_eq_true] at h2
  unfold ev evName
  show (match slot N sc f with
    | some i => (match σ[i]? with
      | some (some d) => Res.ok d S
      | _ => .no)
    | none => if glB sc f = true ∧ plainN f = true then (match M.glob f with
    | some d => .ok d S
    | none => .no) else .no) = _
  rw [h]; simp only [if_pos h2, hg]
theorem q_int {i : Int} {j : Nat} : ev (M.gam N s0 call lam act) (n + 1) sc (.Constant (.int i) j p) σ S = .ok (.int i) S := by unfold ev; rfl
theorem q_str {i : Str} {j : Nat} : ev (M.gam N s0 call lam act) (n + 1) sc (.Constant (.str i) j p) σ S = .ok (.str i) S := by unfold ev; rfl
theorem q_bl {i : Bool} {j : Nat} : ev (M.gam N s0 call lam act) (n + 1) sc (.Constant (.bool i) j p) σ S = .ok (.bl i) S := by unfold ev; rfl
theorem q_non {j : Nat} : ev (M.gam N s0 call lam act) (n + 1) sc (.Constant .none j p) σ S = .ok .non S := by unfold ev; rfl
theorem q_bin {op : Operator} (ha : ev (M.gam N s0 call lam act) n sc a σ S = .ok x S1) (hb : ev (M.gam N s0 call lam act) n sc b σ S1 = .ok y S2) (h : binD (M.own.contains (p.line, p.col, p.endCol)) op x y S2 = some (d, S3)) : ev (M.gam N s0 call lam act) (n + 1) sc (.BinOp a op b p) σ S = .ok d S3 := by
  have h : binD ((M.gam N s0 call lam act).own p) op x y S2 = some (d, S3) := h
  unfold ev; simp only [ha, hb, Res.bind, h, ofO]
theorem q_neg {i : Int} (ha : ev (M.gam N s0 call lam act) n sc a σ S = .ok (.int i) S1) : ev (M.gam N s0 call lam act) (n + 1) sc (.UnaryOp .USub a p) σ S = .ok (.int (-i)) S1 := by
  unfold ev; simp only [ha, Res.bind]
theorem q_not {i : Bool} (ha : ev (M.gam N s0 call lam act) n sc a σ S = .ok (.bl i) S1) : ev (M.gam N s0 call lam act) (n + 1) sc (.UnaryOp .Not a p) σ S = .ok (.bl (!i)) S1 := by
  unfold ev; simp only [ha, Res.bind]
theorem q_cmp {op : CmpOp} {t : Bool} (hm : behindInMarks op b = false) (ha : ev (M.gam N s0 call lam act) n sc a σ S = .ok x S1) (hb : ev (M.gam N s0 call lam act) n sc b σ S1 = .ok y S2) (h : cmpD op x y S2 = some t) : ev (M.gam N s0 call lam act) (n + 1) sc (.Compare a [op] [b] p) σ S = .ok (.bl t) S2 := by
  unfold ev; simp only [hm, ha, hb, Res.bind, h, oB, ofO]; rfl
theorem q_chain {op op' : CmpOp} {t t' : Bool} (hm : lastMarks [op, op'] [b, c] = false) (ha : ev (M.gam N s0 call lam act) n sc a σ S = .ok x S1) (hb : ev (M.gam N s0 call lam act) n sc b σ S1 = .ok y S2) (h : cmpD op x y S2 = some t) (hc : t = true → ev (M.gam N s0 call lam act) n sc c σ S2 = .ok z S2) (h2 : t = true → cmpD op' y z S2 = some t') :
    ev (M.gam N s0 call lam act) (n + 1) sc (.Compare a [op, op'] [b, c] p) σ S = .ok (.bl (t && t')) S2 := by
  unfold ev
  cases t with
  | false => simp only [hm, ha, hb, Res.bind, h]; rfl
  | true => simp only [hm, ha, hb, Res.bind, h, hc rfl, h2 rfl, oB, ofO]; rfl
/-- x and y, of truth values -/
theorem e_one {f : Expr → EvF} {op : BoolOp} (h : f e σ S = rr) : evBool f op [e] σ S = rr := h
theorem e_and {f : Expr → EvF} {es : List Expr} {t t' : Bool} (hn : es.isEmpty = false) (h : f e σ S = .ok (.bl t) S) (h2 : t = true → evBool f .And es σ S = .ok (.bl t') S) : evBool f .And (e :: es) σ S = .ok (.bl (t && t')) S := by
  cases es with
  | nil => cases hn
  | cons _ _ =>
    unfold evBool
    cases t with
    | false => simp only [h, Res.bind]; rfl
    | true => simp only [h, Res.bind]; exact h2 rfl
theorem e_or {f : Expr → EvF} {es : List Expr} {t t' : Bool} (hn : es.isEmpty = false) (h : f e σ S = .ok (.bl t) S) (h2 : t = false → evBool f .Or es σ S = .ok (.bl t') S) : evBool f .Or (e :: es) σ S = .ok (.bl (t || t')) S := by
  cases es with
  | nil => cases hn
  | cons _ _ =>
    unfold evBool
    cases t with
    | true => simp only [h, Res.bind]; rfl
    | false => simp only [h, Res.bind]; exact h2 rfl
theorem q_bool {op : BoolOp} {es : List Expr} (h : evBool (ev (M.gam N s0 call lam act) n sc) op es σ S = rr) : ev (M.gam N s0 call lam act) (n + 1) sc (.BoolOp op es p) σ S = rr := by
  unfold ev; exact h
theorem q_ife {t : Bool} (h : tv (M.gam N s0 call lam act) n sc c σ S = .ok t S1) (h1 : t = true → ev (M.gam N s0 call lam act) n sc a σ S1 = rr) (h2 : t = false → ev (M.gam N s0 call lam act) n sc b σ S1 = rr) : ev (M.gam N s0 call lam act) (n + 1) sc (.IfExp c a b p) σ S = rr := by
  unfold ev; simp only [h, Res.bind]
  cases t with
  | true => simpa using h1 rfl
  | false => simpa using h2 rfl
/-! ### several values -/
theorem l_nil {f : Expr → EvF} : evL f [] σ S = .ok [] S := rfl
theorem l_cons {f : Expr → EvF} {es : List Expr} {ds : List D} (hs : isStar e = false) (h : f e σ S = .ok d S1) (h2 : evL f es σ S1 = .ok ds S2) : evL f (e :: es) σ S = .ok (d :: ds) S2 := by
  cases e <;> first | (cases hs; done) | (simp only [evL, h, h2, Res.bind])
theorem k_nil {f : Expr → EvF} : evKw f [] σ S = .ok [] S := rfl
theorem k_cons {f : Expr → EvF} {nm : Option Str} {kp : Pos} {es : List Keyword} {ds : List D} (h : f e σ S = .ok d S1) (h2 : evKw f es σ S1 = .ok ds S2) : evKw f (⟨nm, e, kp⟩ :: es) σ S = .ok (d :: ds) S2 := by
  simp only [evKw, h, h2, Res.bind]
theorem q_tup {es : List Expr} {ds : List D} {j : Nat} (ho : M.own.contains (p.line, p.col, p.endCol) = false) (h : evL (ev (M.gam N s0 call lam act) n sc) es σ S = .ok ds S1) (hz : ds.length ≤ 1000) : ev (M.gam N s0 call lam act) (n + 1) sc (.Tuple es j p) σ S = .ok (.tup ds) S1 := by
  have ho : (M.gam N s0 call lam act).own p = false := ho
  have hz2 : ds.length ≤ sizeLine := by rw [sizeLine_eq]; omega
  unfold ev; simp only [h, Res.bind, if_pos hz2, tupR, ho]; simp
theorem q_kt {es : List Expr} {ds : List D} {ks : List Key} {j : Nat} (ho : M.own.contains (p.line, p.col, p.endCol) = true) (h : evL (ev (M.gam N s0 call lam act) n sc) es σ S = .ok ds S1) (hk : keysL ds = some ks) (hz : ds.length ≤ 1000) : ev (M.gam N s0 call lam act) (n + 1) sc (.Tuple es j p) σ S = .ok (.kt ks) S1 := by
  have ho : (M.gam N s0 call lam act).own p = true := ho
  have hz2 : ds.length ≤ sizeLine := by rw [sizeLine_eq]; omega
  unfold ev; simp only [h, Res.bind, if_pos hz2, tupR, ho, hk]; simp
theorem q_lst {es : List Expr} {ds : List D} (ho : M.own.contains (p.line, p.col, p.endCol) = false) (h : evL (ev (M.gam N s0 call lam act) n sc) es σ S = .ok ds S1) (hz : ds.length ≤ 1000) : ev (M.gam N s0 call lam act) (n + 1) sc (.List es p) σ S = .ok (.lv ds) S1 := by
  have ho : (M.gam N s0 call lam act).own p = false := ho
  have hz2 : ds.length ≤ sizeLine := by rw [sizeLine_eq]; omega
  unfold ev; simp only [h, Res.bind, if_pos hz2, newL, ho]; simp [ofO]
theorem q_lsO {es : List Expr} {ds : List D} (ho : M.own.contains (p.line, p.col, p.endCol) = true) (h : evL (ev (M.gam N s0 call lam act) n sc) es σ S = .ok ds S1) (hz : ds.length ≤ 1000) : ev (M.gam N s0 call lam act) (n + 1) sc (.List es p) σ S = .ok (.ref S1.length) (S1 ++ [.lst ds]) := by
  have ho : (M.gam N s0 call lam act).own p = true := ho
  have hz2 : ds.length ≤ sizeLine := by rw [sizeLine_eq]; omega
  unfold ev; simp only [h, Res.bind, if_pos hz2, newL, ho]; simp [ofO]
theorem q_dv0 (ho : (M.own.contains (p.line, p.col, p.endCol) || M.own.contains (p.line, p.col, p.endCol + 1000000)) = false) : ev (M.gam N s0 call lam act) (n + 1) sc (.Dict [] [] p) σ S = .ok (.dv [] []) S := by
  rw [Bool.or_eq_false_iff] at ho
  have h2 : (M.gam N s0 call lam act).own ⟨p.line, p.col, p.endLine, p.endCol + 1000000⟩ = false := ho.2
  have ho : (M.gam N s0 call lam act).own p = false := ho.1
  unfold ev; simp only [newD, ho, h2]; simp [ofO]
/-! ### calls -/
theorem q_call {f : Str} {t : DD} {args : List Expr} {ds : List D} (hl : evL (ev (M.gam N s0 call lam act) n sc) args σ S = .ok ds S1) (hf : M.find f = some t) (hn : t.name = f) (hc : (glB sc f && (plainN f && (!args.any isStar && (!isLam1 args && !args.isEmpty)))) = true)
    (hlen : ds.length = t.ps.length) (ho : M.own.contains (q.line, q.col, q.endCol) = false) (h : scope keepC S1 (call f ds S1) = rr) : ev (M.gam N s0 call lam act) (n + 1) sc (.Call (.Name f p) args [] q) σ S = rr := by
  simp only [Bool.and_eq_true, Bool.not_eq_true'] at hc
  obtain ⟨c1, c2, c3, c4, c5⟩ := hc
  have g1 : (M.gam N s0 call lam act).glob f = some (.con f) := by show M.glob f = _; unfold Mo.glob; rw [hf]; show some (D.con t.name) = _; rw [hn]
  have g2 : (M.gam N s0 call lam act).pars f = some t.ps := by show (M.find f).map (·.ps) = _; rw [hf]; rfl
  have ho : (M.gam N s0 call lam act).own q = false := ho
  have h : (M.gam N s0 call lam act).callS false f ds S1 = rr := by unfold Gam.callS; rw [if_neg (by decide)]; exact h
  rw [ev_call c4]
  unfold callN
  rw [if_pos ⟨c1, c2, c3⟩]
  cases args with
  | nil => cases c5
  | cons a args => simp only [g1, g2, hl, Res.bind, hlen, ho, h, if_true]
theorem q_callO {f : Str} {t : DD} {args : List Expr} {ds : List D} (hl : evL (ev (M.gam N s0 call lam act) n sc) args σ S = .ok ds S1) (hf : M.find f = some t) (hn : t.name = f) (hc : (glB sc f && (plainN f && (!args.any isStar && (!isLam1 args && !args.isEmpty)))) = true)
    (hlen : ds.length = t.ps.length) (ho : M.own.contains (q.line, q.col, q.endCol) = true) (h : call f ds S1 = rr) : ev (M.gam N s0 call lam act) (n + 1) sc (.Call (.Name f p) args [] q) σ S = rr := by
  simp only [Bool.and_eq_true, Bool.not_eq_true'] at hc
  obtain ⟨c1, c2, c3, c4, c5⟩ := hc
  have g1 : (M.gam N s0 call lam act).glob f = some (.con f) := by show M.glob f = _; unfold Mo.glob; rw [hf]; show some (D.con t.name) = _; rw [hn]
  have g2 : (M.gam N s0 call lam act).pars f = some t.ps := by show (M.find f).map (·.ps) = _; rw [hf]; rfl
  have ho : (M.gam N s0 call lam act).own q = true := ho
  have h : (M.gam N s0 call lam act).callS true f ds S1 = rr := by unfold Gam.callS; rw [if_pos rfl]; exact h
  rw [ev_call c4]
  unfold callN
  rw [if_pos ⟨c1, c2, c3⟩]
  cases args with
  | nil => cases c5
  | cons a args => simp only [g1, g2, hl, Res.bind, hlen, ho, h, if_true]
theorem q_callK {f : Str} {t : DD} {args : List Expr} {kw : Keyword} {kws : List Keyword} {ds es : List D} {perm : List Nat} (hl : evL (ev (M.gam N s0 call lam act) n sc) args σ S = .ok ds S1) (hk : evKw (ev (M.gam N s0 call lam act) n sc) (kw :: kws) σ S1 = .ok es S2) (hf : M.find f = some t) (hn : t.name = f)
    (hc : (glB sc f && (plainN f && (!args.any isStar && (kw :: kws).all (·.arg.isSome)))) = true) (hp : kwFind t.kws args.length ((kw :: kws).filterMap (·.arg)) = some perm)
    (hlen : (permL perm (ds ++ es)).length = t.ps.length) (ho : M.own.contains (q.line, q.col, q.endCol) = false) (h : scope keepC S2 (call f (permL perm (ds ++ es)) S2) = rr) : ev (M.gam N s0 call lam act) (n + 1) sc (.Call (.Name f p) args (kw :: kws) q) σ S = rr := by
  simp only [Bool.and_eq_true, Bool.not_eq_true'] at hc
  obtain ⟨c1, c2, c3, c4⟩ := hc
  have g1 : (M.gam N s0 call lam act).glob f = some (.con f) := by show M.glob f = _; unfold Mo.glob; rw [hf]; show some (D.con t.name) = _; rw [hn]
  have g2 : (M.gam N s0 call lam act).pars f = some t.ps := by show (M.find f).map (·.ps) = _; rw [hf]; rfl
  have g3 : (M.gam N s0 call lam act).kwp f = t.kws := by show ((M.find f).map (·.kws)).getD [] = _; rw [hf]; rfl
  have ho : (M.gam N s0 call lam act).own q = false := ho
  have h : (M.gam N s0 call lam act).callS false f (permL perm (ds ++ es)) S2 = rr := by unfold Gam.callS; rw [if_neg (by decide)]; exact h
  rw [ev_callK]
  unfold callK
  rw [if_pos ⟨c1, c2, c3, c4⟩]
  simp only [g1, g2, g3, hp, hl, hk, Res.bind, hlen, ho, h, if_true]
theorem q_blt {f : Str} {h0 : List D → Sto → Out} {args : List Expr} {ds : List D} (hl : evL (ev (M.gam N s0 call lam act) n sc) args σ S = .ok ds S1) (hc : (glB sc f && (plainN f && (!args.any isStar && (!isLam1 args && (!args.isEmpty && (itemsArg f args).isNone))))) = true) (h1 : isConO (M.glob f) = false) (h2 : bltG (M.gam N s0 call lam act) (M.own.contains (q.line, q.col, q.endCol)) f = some h0) (h : h0 ds S1 = some (d, S2)) :
    ev (M.gam N s0 call lam act) (n + 1) sc (.Call (.Name f p) args [] q) σ S = .ok d S2 := by
  simp only [Bool.and_eq_true, Bool.not_eq_true'] at hc
  obtain ⟨c1, c2, c3, c4, c5, c6⟩ := hc
  have c6 : itemsArg f args = none := Option.isNone_iff_eq_none.mp c6
  have g1 : ∀ g, (M.gam N s0 call lam act).glob f ≠ some (.con g) := fun g e => by
    have e : M.glob f = some (.con g) := e
    rw [e] at h1; cases h1
  have h2 : bltG (M.gam N s0 call lam act) ((M.gam N s0 call lam act).own q) f = some h0 := h2
  rw [ev_call c4]
  unfold callN
  rw [if_pos ⟨c1, c2, c3⟩]
  cases args with
  | nil => cases c5
  | cons a args =>
    cases z : (M.gam N s0 call lam act).glob f with
    | none => simp only [c6, h2, hl, Res.bind, h, ofO]
    | some dd =>
      cases dd with
      | con g => exact absurd z (g1 g)
      | _ => simp only [c6, h2, hl, Res.bind, h, ofO]
/-- sorted(d.items()) -/
theorem q_items {o : Expr} {ap cp : Pos} {k : Nat} {kvs : List (List Key × D)} (ho : ev (M.gam N s0 call lam act) n sc o σ S = .ok (.ref k) S1) (hc : (glB sc "sorted" && (!isCallE o && decide (ap.endLine = cp.line))) = true) (h1 : isConO (M.glob "sorted") = false) (hk : S1[k]? = some (.dt kvs)) (hb : kvs.all itB = true) :
    ev (M.gam N s0 call lam act) (n + 1) sc (.Call (.Name "sorted" p) [.Call (.Attribute o "items" ap) [] [] cp] [] q) σ S = .ok (.lv ((sortG ltI kvs).map itD)) S1 := by
  simp only [Bool.and_eq_true, Bool.not_eq_true', decide_eq_true_eq] at hc
  obtain ⟨c1, c2, c3⟩ := hc
  have g1 : ∀ g, (M.gam N s0 call lam act).glob "sorted" ≠ some (.con g) := fun g e => by
    have e : M.glob "sorted" = some (.con g) := e
    rw [e] at h1; cases h1
  have c6 : itemsArg "sorted" [.Call (.Attribute o "items" ap) [] [] cp] = some o := if_pos ⟨rfl, rfl, c2, c3⟩
  have hf : fItems (.ref k) S1 = some (.lv ((sortG ltI kvs).map itD), S1) := by
    unfold fItems
    simp only [hk]
    rw [if_pos hb]
  rw [ev_call rfl]
  unfold callN
  rw [if_pos ⟨c1, by decide, rfl⟩]
  cases z : (M.gam N s0 call lam act).glob "sorted" with
  | none => simp only [c6, ho, Res.bind, hf, ofO]
  | some dd =>
    cases dd with
    | con g => exact absurd z (g1 g)
    | _ => simp only [c6, ho, Res.bind, hf, ofO]
/-- {}, to be written with pairs as keys -/
theorem q_newT (h : M.own.contains (p.line, p.col, p.endCol + 1000000) = true) : ev (M.gam N s0 call lam act) (n + 1) sc (.Dict [] [] p) σ S = .ok (.ref S.length) (S ++ [.dt []]) := by
  have h : (M.gam N s0 call lam act).own ⟨p.line, p.col, p.endLine, p.endCol + 1000000⟩ = true := h
  unfold ev
  simp only [h, if_true]
/-- a.get(b, c) -/
theorem q_get {o : Expr} {ap : Pos} (ho : ev (M.gam N s0 call lam act) n sc o σ S = .ok x S1) (ha : ev (M.gam N s0 call lam act) n sc a σ S1 = .ok y S2) (hb : ev (M.gam N s0 call lam act) n sc b σ S2 = .ok z S3) (hs : (!isStar a && (!isStar b && (!isCallE o && decide (ap.endLine = q.line)))) = true) (hd : isDD S1 x = true) (h : get2 x y z S3 = some (d, S4)) :
    ev (M.gam N s0 call lam act) (n + 1) sc (.Call (.Attribute o "get" ap) [a, b] [] q) σ S = .ok d S4 := by
  simp only [Bool.and_eq_true, Bool.not_eq_true', decide_eq_true_eq] at hs
  obtain ⟨h1, h2, h3, h4⟩ := hs
  have hm : metF "get" = none := by decide +kernel
  unfold ev
  simp [h1, h2, h3, h4, hm, ho, hd, ha, hb, h, Res.bind, ofO]
/-! ### places -/
theorem q_ix (hn : isSliceE b = false) (ha : ev (M.gam N s0 call lam act) n sc a σ S = .ok x S1) (hb : ev (M.gam N s0 call lam act) n sc b σ S1 = .ok y S2) (h : ixA x y S2 = some (d, S3)) : ev (M.gam N s0 call lam act) (n + 1) sc (.Subscript a b p) σ S = .ok d S3 := by
  rw [ev_sub hn]
  simp only [ha, hb, Res.bind, h, ofO]
theorem p_none {f : Expr → EvF} : evPart f none σ S = .ok none S := rfl
theorem p_some {f : Expr → EvF} {i : Int} (h : f e σ S = .ok (.int i) S1) : evPart f (some e) σ S = .ok (some i) S1 := by simp only [evPart, h, Res.bind]
theorem q_sl {lo hi : Option Expr} {l u : Option Int} (ha : ev (M.gam N s0 call lam act) n sc a σ S = .ok x S1) (hl : evPart (ev (M.gam N s0 call lam act) n sc) lo σ S1 = .ok l S2) (hu : evPart (ev (M.gam N s0 call lam act) n sc) hi σ S2 = .ok u S3) (h : slD (M.own.contains (p.line, p.col, p.endCol)) x l u S3 = some (d, S4)) :
    ev (M.gam N s0 call lam act) (n + 1) sc (.Subscript a (.Slice lo hi none p2) p) σ S = .ok d S4 := by
  have h : slD ((M.gam N s0 call lam act).own p) x l u S3 = some (d, S4) := h
  unfold ev; simp only [ha, hl, hu, Res.bind, h, ofO]
theorem q_rev {st : Expr} (ha : ev (M.gam N s0 call lam act) n sc a σ S = .ok x S1) (hl : ev (M.gam N s0 call lam act) n sc st σ S1 = .ok (.int (-1)) S2) (h : revD (M.own.contains (p.line, p.col, p.endCol)) x S2 = some (d, S3)) :
    ev (M.gam N s0 call lam act) (n + 1) sc (.Subscript a (.Slice none none (some st) p2) p) σ S = .ok d S3 := by
  have h : revD ((M.gam N s0 call lam act).own p) x S2 = some (d, S3) := h
  unfold ev; simp only [ha, p_some hl, Res.bind, h, ofO, if_true]
theorem q_meth {o : Expr} {m : Str} {ap : Pos} {f : Nat → List D → Sto → Out} {k : Nat} {ds : List D} (ho : ev (M.gam N s0 call lam act) n sc o σ S = .ok (.ref k) S1) (ha : ev (M.gam N s0 call lam act) n sc a σ S1 = .ok x S2) (hs : (!isStar a && (!isCallE o && decide (ap.endLine = q.line))) = true) (hm : metF m = some f) (hk : lstOf S1 k = some ds) (h : f k [x] S2 = some (d, S3)) :
    ev (M.gam N s0 call lam act) (n + 1) sc (.Call (.Attribute o m ap) [a] [] q) σ S = .ok d S3 := by
  simp only [Bool.and_eq_true, Bool.not_eq_true', decide_eq_true_eq] at hs
  obtain ⟨h1, h2, h3⟩ := hs
  have e1 : evL (ev (M.gam N s0 call lam act) n sc) [a] σ S1 = .ok [x] S2 := l_cons h1 ha l_nil
  unfold ev
  simp [h1, h2, h3, hm, ho, hk, e1, h, Res.bind, ofO]
/-! ### tests -/
theorem t_cmp {op : CmpOp} {t : Bool} (hm : behindInMarks op b = false) (ha : ev (M.gam N s0 call lam act) n sc a σ S = .ok x S1) (hb : ev (M.gam N s0 call lam act) n sc b σ S1 = .ok y S2) (h : cmpD op x y S2 = some t) : tv (M.gam N s0 call lam act) (n + 1) sc (.Compare a [op] [b] p) σ S = .ok t S2 := by
  unfold tv; simp only [hm, ha, hb, Res.bind, h, oT]; rfl
theorem t_not {t : Bool} (h : tv (M.gam N s0 call lam act) n sc a σ S = .ok t S1) : tv (M.gam N s0 call lam act) (n + 1) sc (.UnaryOp .Not a p) σ S = .ok (!t) S1 := by
  unfold tv; simp only [h, Res.bind]
/-- a value's truth -/
def plainT : Expr → Bool
  | .Compare _ _ _ _ => false
  | .BoolOp _ _ _ => false
  | .UnaryOp .Not _ _ => false
  | .IfExp _ _ _ _ => false
  | _ => true
theorem t_val {t : Bool} (hp : plainT e = true) (h : ev (M.gam N s0 call lam act) n sc e σ S = .ok d S1) (ht : truD S1 d = some t) : tv (M.gam N s0 call lam act) (n + 1) sc e σ S = .ok t S1 := by
  cases e with
  | Compare _ _ _ _ => cases hp
  | BoolOp _ _ _ => cases hp
  | IfExp _ _ _ _ => cases hp
  | UnaryOp op _ _ => cases op <;> first | (cases hp; done) | (unfold tv; simp only [h, Res.bind, ht, oT])
  | _ => unfold tv; simp only [h, Res.bind, ht, oT]
theorem t_bool {op : BoolOp} {es : List Expr} {r2 : Res Bool} (h : tvBool (tv (M.gam N s0 call lam act) n sc) op es σ S = r2) : tv (M.gam N s0 call lam act) (n + 1) sc (.BoolOp op es p) σ S = r2 := by
  unfold tv; exact h
theorem b_one {t : Expr → TvF} {op : BoolOp} {r2 : Res Bool} (h : t e σ S = r2) : tvBool t op [e] σ S = r2 := h
theorem b_and {f : Expr → TvF} {es : List Expr} {t t' : Bool} (hn : es.isEmpty = false) (h : f e σ S = .ok t S1) (h2 : t = true → tvBool f .And es σ S1 = .ok t' S1) : tvBool f .And (e :: es) σ S = .ok (t && t') S1 := by
  cases es with
  | nil => cases hn
  | cons _ _ =>
    unfold tvBool
    cases t with
    | false => simp only [h, Res.bind]; rfl
    | true => simp only [h, Res.bind]; exact h2 rfl
theorem b_or {f : Expr → TvF} {es : List Expr} {t t' : Bool} (hn : es.isEmpty = false) (h : f e σ S = .ok t S1) (h2 : t = false → tvBool f .Or es σ S1 = .ok t' S1) : tvBool f .Or (e :: es) σ S = .ok (t || t') S1 := by
  cases es with
  | nil => cases hn
  | cons _ _ =>
    unfold tvBool
    cases t with
    | true => simp only [h, Res.bind]; rfl
    | false => simp only [h, Res.bind]; exact h2 rfl
/-! ### statements -/
theorem s_nil {f : Stmt → StF} : exs f [] σ S = .next σ S := rfl
theorem s_cut {s : Stmt} {ss : List Stmt} {f : Stmt → StF} (h : f s σ S = .next σ1 S1) (h2 : exs f ss σ1 S1 = r) : exs f (s :: ss) σ S = r := by
  unfold exs; rw [h]; exact h2
theorem s_stop {s : Stmt} {ss : List Stmt} {f : Stmt → StF} (h : f s σ S = .ret d S1) : exs f (s :: ss) σ S = .ret d S1 := by
  unfold exs; rw [h]; rfl
theorem s_exc {s : Stmt} {ss : List Stmt} {f : Stmt → StF} {x : Exn} (h : f s σ S = .exc x σ1 S1) : exs f (s :: ss) σ S = .exc x σ1 S1 := by
  unfold exs; rw [h]; rfl
theorem s_set {f : Str} {i : Nat} {ss : List Stmt} (h : ev (M.gam N s0 call lam act) n sc e σ S = .ok d S1) (hl : (locB sc f && !isComp2 e) = true) (hs : slot N sc f = some i) (h2 : exs (ex (M.gam N s0 call lam act) (n + 1) sc) ss (σ.set i (some d)) S1 = r) : exs (ex (M.gam N s0 call lam act) (n + 1) sc) (.Assign [.Name f p] e q :: ss) σ S = r := by
  rw [Bool.and_eq_true, Bool.not_eq_true'] at hl
  have hs : slot (M.gam N s0 call lam act).N sc f = some i := hs
  refine s_cut (σ1 := σ.set i (some d)) (S1 := S1) ?_ h2
  unfold ex; simp only [hl, hs, h, Res.st]; simp
theorem s_ret {ss : List Stmt} (h : ev (M.gam N s0 call lam act) n sc e σ S = .ok d S1) : exs (ex (M.gam N s0 call lam act) (n + 1) sc) (.Return (some e) p :: ss) σ S = .ret d S1 := by
  refine s_stop ?_
  unfold ex; simp only [h, Res.st]
theorem s_rex {ss : List Stmt} {x : Exn} (h : ev (M.gam N s0 call lam act) n sc e σ S = .exc x S1) : exs (ex (M.gam N s0 call lam act) (n + 1) sc) (.Return (some e) p :: ss) σ S = .exc x σ S1 := by
  refine s_exc ?_
  unfold ex; simp only [h, Res.st]
theorem s_if {t : Expr} {l m ss : List Stmt} {b : Bool} (h : tv (M.gam N s0 call lam act) n sc t σ S = .ok b S1) (h1 : b = true → exs (ex (M.gam N s0 call lam act) (n + 1) sc) ss = exs (ex (M.gam N s0 call lam act) (n + 1) sc) ss → (exs (ex (M.gam N s0 call lam act) n sc) l σ S1).bind (exs (ex (M.gam N s0 call lam act) (n + 1) sc) ss) = r) (h2 : b = false → (exs (ex (M.gam N s0 call lam act) n sc) m σ S1).bind (exs (ex (M.gam N s0 call lam act) (n + 1) sc) ss) = r) :
    exs (ex (M.gam N s0 call lam act) (n + 1) sc) (.If t l m p :: ss) σ S = r := by
  have e : exs (ex (M.gam N s0 call lam act) (n + 1) sc) (.If t l m p :: ss) σ S = (if b = true then exs (ex (M.gam N s0 call lam act) n sc) l σ S1 else exs (ex (M.gam N s0 call lam act) n sc) m σ S1).bind (exs (ex (M.gam N s0 call lam act) (n + 1) sc) ss) := by
    conv => lhs; unfold exs
    congr 1
    unfold ex; simp only [h, Res.st]
  rw [e]
  cases b with
  | true => exact h1 rfl rfl
  | false => exact h2 rfl
/-- the way on behind a branch -/
theorem j_next {x : SR} {k : StF} (h : x = .next σ1 S1) (h2 : k σ1 S1 = r) : x.bind k = r := by rw [h]; exact h2
theorem j_ret {x : SR} {k : StF} (h : x = .ret d S1) : x.bind k = .ret d S1 := by rw [h]; rfl
theorem j_exc {x : SR} {k : StF} {c : Exn} (h : x = .exc c σ1 S1) : x.bind k = .exc c σ1 S1 := by rw [h]; rfl
theorem s_put {o i : Expr} {m : Nat} {ss : List Stmt} (h : ev (M.gam N s0 call lam act) n sc e σ S = .ok d S1) (ho : ev (M.gam N s0 call lam act) n sc o σ S1 = .ok (.ref m) S2) (hi : ev (M.gam N s0 call lam act) n sc i σ S2 = .ok y S3) (hn : isSliceE i = false) (hs : setD S3 m y d = some S4) (h2 : exs (ex (M.gam N s0 call lam act) (n + 1) sc) ss σ S4 = r) : exs (ex (M.gam N s0 call lam act) (n + 1) sc) (.Assign [.Subscript o i p] e q :: ss) σ S = r := by
  refine s_cut (σ1 := σ) (S1 := S4) ?_ h2
  unfold ex; simp only [hn, h, ho, hi, hs, Res.st]; simp
theorem s_exM {o : Expr} {m : Str} {ap : Pos} {args : List Expr} {kws : List Keyword} {ss : List Stmt} (h : ev (M.gam N s0 call lam act) n sc (.Call (.Attribute o m ap) args kws p2) σ S = .ok d S1) (h2 : exs (ex (M.gam N s0 call lam act) (n + 1) sc) ss σ S1 = r) : exs (ex (M.gam N s0 call lam act) (n + 1) sc) (.Expr (.Call (.Attribute o m ap) args kws p2) p :: ss) σ S = r := by
  refine s_cut (σ1 := σ) (S1 := S1) ?_ h2
  unfold ex; simp [isCallE, h, Res.st]
theorem s_exC {f : Str} {p1 : Pos} {a : Expr} {args : List Expr} {kws : List Keyword} {ss : List Stmt} (h : ev (M.gam N s0 call lam act) n sc (.Call (.Name f p1) (a :: args) kws p2) σ S = .ok d S1) (h2 : exs (ex (M.gam N s0 call lam act) (n + 1) sc) ss σ S1 = r) : exs (ex (M.gam N s0 call lam act) (n + 1) sc) (.Expr (.Call (.Name f p1) (a :: args) kws p2) p :: ss) σ S = r := by
  refine s_cut (σ1 := σ) (S1 := S1) ?_ h2
  unfold ex; simp [isCallE, h, Res.st]
theorem s_exX {f : Str} {p1 : Pos} {a : Expr} {args : List Expr} {kws : List Keyword} {ss : List Stmt} {c : Exn} (h : ev (M.gam N s0 call lam act) n sc (.Call (.Name f p1) (a :: args) kws p2) σ S = .exc c S1) : exs (ex (M.gam N s0 call lam act) (n + 1) sc) (.Expr (.Call (.Name f p1) (a :: args) kws p2) p :: ss) σ S = .exc c σ S1 := by
  refine s_exc ?_
  unfold ex; simp [isCallE, h, Res.st]
theorem s_tup {ts : List Expr} {j : Nat} {b : Pos} {l : List (Nat × D)} {ss : List Stmt} (h : ev (M.gam N s0 call lam act) n sc e σ S = .ok d S1) (hc : (!isCompE e && !isTupleE e) = true) (ha : asgE N sc (.Tuple ts j b) d = some l) (h2 : exs (ex (M.gam N s0 call lam act) (n + 1) sc) ss (sets σ l) S1 = r) : exs (ex (M.gam N s0 call lam act) (n + 1) sc) (.Assign [.Tuple ts j b] e p :: ss) σ S = r := by
  rw [Bool.and_eq_true, Bool.not_eq_true', Bool.not_eq_true'] at hc
  have ha : asgE (M.gam N s0 call lam act).N sc (.Tuple ts j b) d = some l := ha
  refine s_cut (σ1 := sets σ l) (S1 := S1) ?_ h2
  cases e <;> first | (cases hc.2; done) | (unfold ex; simp only [hc, h, Res.st, ha]; simp)
theorem s_par {ts vs : List Expr} {j j2 : Nat} {b pv : Pos} {l : List (Nat × D)} {o : Option (List Str)} {ss : List Stmt} (h : ev (M.gam N s0 call lam act) n sc (.Tuple vs j2 pv) σ S = .ok d S1) (hw : swC sc ts vs = some o) (ha : asgE N sc (.Tuple ts j b) d = some l) (hd : (l.map (·.1)).Nodup) (h2 : exs (ex (M.gam N s0 call lam act) (n + 1) sc) ss (sets σ l) S1 = r) :
    exs (ex (M.gam N s0 call lam act) (n + 1) sc) (.Assign [.Tuple ts j b] (.Tuple vs j2 pv) p :: ss) σ S = r := by
  have ha : asgE (M.gam N s0 call lam act).N sc (.Tuple ts j b) d = some l := ha
  refine s_cut (σ1 := sets σ l) (S1 := S1) ?_ h2
  unfold ex
  simp only [hw, h, Res.st, ha]
  rw [if_pos (.inr hd)]
theorem s_rai {f C : Str} {m : Str} {j : Nat} {p1 p2 p3 p4 : Pos} {ss : List Stmt} (hc : (glB sc f && plainN f) = true) (hg : M.glob f = some (.con C)) (ha : M.attr.lookup C = some none) : exs (ex (M.gam N s0 call lam act) (n + 1) sc) (.Raise (some (.Call (.Name f p1) [.Constant (.str m) j p2] [] p3)) none p4 :: ss) σ S = .exc ⟨C, none⟩ σ S := by
  rw [Bool.and_eq_true] at hc
  have hg : (M.gam N s0 call lam act).glob f = some (.con C) := hg
  have ha : (M.gam N s0 call lam act).attr C = some none := ha
  refine s_exc ?_
  unfold ex
  simp only [if_pos hc, hg, ha]
def isStrC : Expr → Bool
  | .Constant (.str _) _ _ => true
  | _ => false
theorem ex_raX {G : Gam} {f : Str} {a : Expr} {p1 p3 p4 : Pos} (hk : isStrC a = false) : ex G (n + 1) sc (.Raise (some (.Call (.Name f p1) [a] [] p3)) none p4) = fun σ S => if glB sc f = true ∧ plainN f = true ∧ isStar a = false then (match G.glob f with
      | some (.con C) => (match G.attr C with
        | some (some at_) => (evL (ev G n sc) [a] σ S).st σ fun ds S1 => raX C at_ ds σ S1
        | _ => .no)
      | _ => .no) else .no := by
  cases a with
  | Constant c k p => cases c <;> first | rfl | cases hk
  | _ => rfl
/-- an error with an attribute, raised -/
theorem s_raX {f C n0 : Str} {p1 p3 p4 : Pos} {ss : List Stmt} (hc : (glB sc f && (plainN f && (!isStar a && !isStrC a))) = true) (hg : M.glob f = some (.con C)) (ha : M.attr.lookup C = some (some n0)) (h : ev (M.gam N s0 call lam act) n sc a σ S = .ok d S1) :
    exs (ex (M.gam N s0 call lam act) (n + 1) sc) (.Raise (some (.Call (.Name f p1) [a] [] p3)) none p4 :: ss) σ S = .exc ⟨C, some (n0, d)⟩ σ S1 := by
  simp only [Bool.and_eq_true, Bool.not_eq_true'] at hc
  obtain ⟨c1, c2, c3, c4⟩ := hc
  have hg : (M.gam N s0 call lam act).glob f = some (.con C) := hg
  have ha : (M.gam N s0 call lam act).attr C = some (some n0) := ha
  have hl : evL (ev (M.gam N s0 call lam act) n sc) [a] σ S = .ok [d] S1 := l_cons c3 h l_nil
  refine s_exc ?_
  rw [ex_raX c4]
  simp only [if_pos (show glB sc f = true ∧ plainN f = true ∧ isStar a = false from ⟨c1, c2, c3⟩), hg, ha, hl, Res.st, raX]
/-- an attribute of a held error -/
theorem q_at {o : Expr} {m C : Str} (hc : isCallE o = false) (ha : M.attr.lookup C = some (some m)) (h : ev (M.gam N s0 call lam act) n sc o σ S = .ok (.exv C (some m) [d]) S1) : ev (M.gam N s0 call lam act) (n + 1) sc (.Attribute o m p) σ S = .ok d S1 := by
  have ha : (M.gam N s0 call lam act).attr C = some (some m) := ha
  unfold ev
  simp [hc, h, Res.bind, ha]
/-- an error with an attribute, as a value -/
theorem q_mkX {f C m : Str} (hl : ev (M.gam N s0 call lam act) n sc a σ S = .ok d S1) (hg : M.glob f = some (.con C)) (hp : M.find C = none) (ha : M.attr.lookup C = some (some m)) (hc : (glB sc f && (plainN f && (!isStar a && !isLam1 [a]))) = true) :
    ev (M.gam N s0 call lam act) (n + 1) sc (.Call (.Name f p) [a] [] q) σ S = .ok (.exv C (some m) [d]) S1 := by
  simp only [Bool.and_eq_true, Bool.not_eq_true'] at hc
  obtain ⟨c1, c2, c3, c4⟩ := hc
  have hg : (M.gam N s0 call lam act).glob f = some (.con C) := hg
  have ha : (M.gam N s0 call lam act).attr C = some (some m) := ha
  have hp2 : (M.gam N s0 call lam act).pars C = none := by show (M.find C).map (·.ps) = _; rw [hp]; rfl
  have hL : evL (ev (M.gam N s0 call lam act) n sc) [a] σ S = .ok [d] S1 := l_cons c3 hl l_nil
  rw [ev_call c4]
  unfold callN
  rw [if_pos ⟨c1, c2, by simp [c3]⟩]
  simp only [hg, hp2, ha, hL, Res.bind, mkX]
/-! ### a def -/
theorem q_def {k : Nat} {f : Str} {t : DD} {ds : List D} (hf : M.find f = some t) (hl : ds.length = t.ps.length)
    (h : endR (exs (ex (M.gam t.N t.scope.names (M.call (k + 2)) (M.lamF t (M.call (k + 1)) (M.call k)) noAct) M.fuel t.scope) t.body (startD t.N ds) S) = rr) : M.call (k + 3) f ds S = rr := by
  show M.step (M.call (k + 2)) (fun t => M.lamF t (M.call (k + 1)) (M.call k)) f ds S = rr
  unfold Mo.step
  rw [hf]
  show M.run t _ _ _ ds S = rr
  unfold Mo.run
  rw [if_pos hl]
  exact h
theorem scope_same (h : rr = .ok d S) : scope keepC S rr = .ok d S := by
  subst h; unfold scope; simp
theorem scope_exc {c : Exn} (h : rr = .exc c S) : scope keepC S rr = .exc c S := by
  subst h; unfold scope; simp
theorem d_ret {x : SR} (h : x = .ret d S) : endR x = .ok d S := by rw [h]; rfl
theorem d_exc {x : SR} {c : Exn} (h : x = .exc c σ S) : endR x = .exc c S := by rw [h]; rfl
theorem d_nxt {x : SR} (h : x = .next σ S) : endR x = .ok .non S := by rw [h]; rfl
/-- a def that leaves the store as it was -/
theorem c_ret {k : Nat} {f : Str} {t : DD} {ds : List D} (hf : M.find f = some t) (hl : ds.length = t.ps.length)
    (h : exs (ex (M.gam t.N t.scope.names (M.call (k + 2)) (M.lamF t (M.call (k + 1)) (M.call k)) noAct) M.fuel t.scope) t.body (startD t.N ds) S = .ret d S) : M.callS (k + 3) f ds S = .ok d S := scope_same (q_def hf hl (d_ret h))
theorem c_exc {k : Nat} {f : Str} {t : DD} {ds : List D} {c : Exn} (hf : M.find f = some t) (hl : ds.length = t.ps.length)
    (h : exs (ex (M.gam t.N t.scope.names (M.call (k + 2)) (M.lamF t (M.call (k + 1)) (M.call k)) noAct) M.fuel t.scope) t.body (startD t.N ds) S = .exc c σ S) : M.callS (k + 3) f ds S = .exc c S := scope_exc (q_def hf hl (d_exc h))
theorem c_nxt {k : Nat} {f : Str} {t : DD} {ds : List D} (hf : M.find f = some t) (hl : ds.length = t.ps.length)
    (h : exs (ex (M.gam t.N t.scope.names (M.call (k + 2)) (M.lamF t (M.call (k + 1)) (M.call k)) noAct) M.fuel t.scope) t.body (startD t.N ds) S = .next σ S) : M.callS (k + 3) f ds S = .ok .non S := scope_same (q_def hf hl (d_nxt h))
end
end Dp
end
section
set_option Elab.async false
set_option linter.all false
set_option maxRecDepth 1000000
set_option maxHeartbeats 4000000
namespace Dp
open PySem PySem.Spec PyProof.Rows L2
section
variable {M : Mo} {N : List Str} {s0 : List (Str × NameKind)} {call : Str → List D → Sto → Res D} {lam : Str → Arguments → Expr → Scope → EvF} {act : Str → EvF}
variable {n : Nat} {sc scp : Scope} {σ σ1 σ2 : Sig} {S S1 S2 S3 S4 : Sto} {a b c e tg it elt : Expr} {ifs : List Expr} {d x y z : D} {p q p2 : Pos} {r : SR} {rr : Res D} {kp : Keep} {lo : Bool}
/-! ### loops -/
theorem maskD_len {σ0 σ : Sig} : (maskD σ0 σ).length = σ.length := mask_len
/-- a turn behind which the store is as long as it was -/
theorem cut_same {k : StF} (h : S2.length = S.length) (hk : k (maskD σ σ2) S2 = r) : cutK kp false σ S σ2 S2 k = r := by
  unfold cutK cutS cutS0
  simp [h, hk]
theorem w_end {t : TvF} {f : StF} {m : Nat} (h : t σ S = .ok false S1) : whileL kp lo t f (m + 1) σ S = .next σ S1 := by
  unfold whileL; rw [h]; rfl
theorem w_go {t : TvF} {f : StF} {m : Nat} (h : t σ S = .ok true S1) (h2 : f σ S1 = .next σ2 S2) (hl : S2.length = S.length) (h3 : whileL kp false t f m (maskD σ σ2) S2 = r) : whileL kp false t f (m + 1) σ S = r := by
  unfold whileL; rw [h]
  simp only [Res.st, if_pos, h2]
  exact cut_same hl h3
theorem s_whl {t : Expr} {l ss : List Stmt} (ho : M.own.contains (p.line, p.col, p.endCol) = false) (h : whileL keepC false (tv (M.gam N s0 call lam act) n sc t) (exs (ex (M.gam N s0 call lam act) n sc) l) M.wf σ S = .next σ1 S1) (h2 : exs (ex (M.gam N s0 call lam act) (n + 1) sc) ss σ1 S1 = r) : exs (ex (M.gam N s0 call lam act) (n + 1) sc) (.While t l [] p :: ss) σ S = r := by
  refine s_cut ?_ h2
  have ho : (M.gam N s0 call lam act).own p = false := ho
  unfold ex
  show whileL keepC ((M.gam N s0 call lam act).own p) _ _ M.wf σ S = _
  rw [ho]; exact h
theorem f_end {s : Src} {g : D → Option (List (Nat × D))} {f : StF} {m i : Nat} (h : srcAt S i s = some none) : forL kp lo s g f (m + 1) i σ S = .next σ S := by
  unfold forL; simp only [h]
theorem f_go {s : Src} {g : D → Option (List (Nat × D))} {f : StF} {m i : Nat} {l : List (Nat × D)} (h : srcAt S i s = some (some d)) (hg : g d = some l) (h2 : f (sets σ l) S = .next σ2 S2) (hl : S2.length = S.length) (h3 : forL kp false s g f m (i + 1) (maskD σ σ2) S2 = r) : forL kp false s g f (m + 1) i σ S = r := by
  unfold forL; simp only [h, hg, h2]; exact cut_same hl h3
theorem f_ret {s : Src} {g : D → Option (List (Nat × D))} {f : StF} {m i : Nat} {l : List (Nat × D)} (h : srcAt S i s = some (some d)) (hg : g d = some l) (h2 : f (sets σ l) S = .ret x S2) : forL kp lo s g f (m + 1) i σ S = .ret x S2 := by
  unfold forL; simp only [h, hg, h2]
theorem f_exc {s : Src} {g : D → Option (List (Nat × D))} {f : StF} {m i : Nat} {l : List (Nat × D)} {c : Exn} (h : srcAt S i s = some (some d)) (hg : g d = some l) (h2 : f (sets σ l) S = .exc c σ2 S2) : forL kp lo s g f (m + 1) i σ S = .exc c σ2 S2 := by
  unfold forL; simp only [h, hg, h2]
/-- what is walked stands as a list of values: turn by turn -/
def Walks (s : Src) (xs : List D) (S : Sto) : Prop := ∀ i, srcAt S i s = some xs[i]?
/-- a loop whose turns keep what P says of what is left -/
theorem for_ind {s : Src} {g : D → Option (List (Nat × D))} {f : StF} {xs : List D} (P : List D → Sig → Sto → Prop) (R : SR → Prop) (hw : ∀ ys σ S, P ys σ S → Walks s xs S)
    (hend : ∀ σ S, P [] σ S → R (.next σ S))
    (hgo : ∀ d ys σ S, P (d :: ys) σ S → ∃ l, g d = some l ∧ ((∃ σ2 S2, f (sets σ l) S = .next σ2 S2 ∧ S2.length = S.length ∧ P ys (maskD σ σ2) S2) ∨ (∃ v S2, f (sets σ l) S = .ret v S2 ∧ R (.ret v S2)) ∨ ∃ c σ2 S2, f (sets σ l) S = .exc c σ2 S2 ∧ R (.exc c σ2 S2))) :
    ∀ (ys : List D) (i m : Nat) (σ : Sig) (S : Sto), xs.drop i = ys → ys.length < m → P ys σ S → R (forL kp false s g f m i σ S)
  | [], i, 0, σ, S, _, hm, _ => absurd hm (by simp)
  | [], i, m + 1, σ, S, hd, hm, hp => by
    have e : xs[i]? = none := by
      rw [List.getElem?_eq_none_iff]
      have := congrArg List.length hd
      simp at this
      omega
    rw [f_end (by rw [hw _ _ _ hp, e])]
    exact hend σ S hp
  | d :: ys, i, 0, σ, S, _, hm, _ => absurd hm (by simp)
  | d :: ys, i, m + 1, σ, S, hd, hm, hp => by
    have e : xs[i]? = some d := by
      have := congrArg (fun l => l[0]?) hd
      simpa using this
    have hd2 : xs.drop (i + 1) = ys := by
      have := congrArg List.tail hd
      simpa using this
    obtain ⟨l, hl, h | h | h⟩ := hgo d ys σ S hp
    · obtain ⟨σ2, S2, h1, h2, h3⟩ := h
      rw [f_go (by rw [hw _ _ _ hp, e]) hl h1 h2 rfl]
      exact for_ind P R hw hend hgo ys (i + 1) m _ S2 hd2 (by simp at hm; omega) h3
    · obtain ⟨v, S2, h1, h2⟩ := h
      rw [f_ret (by rw [hw _ _ _ hp, e]) hl h1]
      exact h2
    · obtain ⟨c, σ2, S2, h1, h2⟩ := h
      rw [f_exc (by rw [hw _ _ _ hp, e]) hl h1]
      exact h2
theorem s_for {l ss : List Stmt} {s : Src} {r1 : SR} (h : evSrc (ev (M.gam N s0 call lam act) n sc) (M.gam N s0 call lam act) sc tg it σ S = .ok s S1) (ho : M.own.contains (p.line, p.col, p.endCol) = false) (hs : isSetE it = false) (h1 : forL keepC false s (asgE N sc tg) (exs (ex (M.gam N s0 call lam act) n sc) l) (srcLen S1 s + 1) 0 σ S1 = r1) (h2 : r1.bind (exs (ex (M.gam N s0 call lam act) (n + 1) sc) ss) = r) : exs (ex (M.gam N s0 call lam act) (n + 1) sc) (.For tg it l [] p :: ss) σ S = r := by
  have ho : (M.gam N s0 call lam act).own p = false := ho
  have h1 : forL keepC false s (asgE (M.gam N s0 call lam act).N sc tg) (exs (ex (M.gam N s0 call lam act) n sc) l) (srcLen S1 s + 1) 0 σ S1 = r1 := h1
  have e : ex (M.gam N s0 call lam act) (n + 1) sc (.For tg it l [] p) σ S = r1 := by
    unfold ex
    simp only [hs, h, Res.st]
    show forL keepC ((M.gam N s0 call lam act).own p) _ _ _ _ _ σ S1 = _
    rw [ho]; exact h1
  show (ex (M.gam N s0 call lam act) (n + 1) sc (.For tg it l [] p) σ S).bind _ = r
  rw [e]; exact h2
/-! ### what is walked -/
theorem x_val (h : ev (M.gam N s0 call lam act) n sc it σ S = .ok d S1) (hc : (match it with
    | .Call (.Name _ _) _ [] _ => false
    | .Set _ _ _ => false
    | _ => true) = true) {s : Src} (hs : srcD S1 d = some s) : evSrc (ev (M.gam N s0 call lam act) n sc) (M.gam N s0 call lam act) sc tg it σ S = .ok s S1 := by
  have g : ((ev (M.gam N s0 call lam act) n sc it σ S).bind fun d S1 => srcW S1 d) = .ok s S1 := by
    simp only [h, Res.bind, srcW, hs]
  unfold evSrc
  split
  · cases hc
  · cases hc
  · cases hc
  · cases hc
  · exact g
/-- a walk of a dict's keys: it is locked -/
theorem x_keys (h : ev (M.gam N s0 call lam act) n sc it σ S = .ok d S1) (hc : (match it with
    | .Call (.Name _ _) _ [] _ => false
    | .Set _ _ _ => false
    | _ => true) = true) {s : Src} (hs : srcW S1 d = .ok s S2) : evSrc (ev (M.gam N s0 call lam act) n sc) (M.gam N s0 call lam act) sc tg it σ S = .ok s S2 := by
  have g : ((ev (M.gam N s0 call lam act) n sc it σ S).bind fun d S1 => srcW S1 d) = .ok s S2 := by
    simp only [h, Res.bind, hs]
  unfold evSrc
  split
  · cases hc
  · cases hc
  · cases hc
  · cases hc
  · exact g
/-- a call that is walked, but of none of the walks' names -/
theorem x_call {f : Str} {args : List Expr} (h : ev (M.gam N s0 call lam act) n sc (.Call (.Name f p) args [] q) σ S = .ok d S1) (hc : (isSrc f) = false) {s : Src} (hs : srcD S1 d = some s) : evSrc (ev (M.gam N s0 call lam act) n sc) (M.gam N s0 call lam act) sc tg (.Call (.Name f p) args [] q) σ S = .ok s S1 := by
  have g : ((ev (M.gam N s0 call lam act) n sc (.Call (.Name f p) args [] q) σ S).bind fun d S1 => srcW S1 d) = .ok s S1 := by
    simp only [h, Res.bind, srcW, hs]
  unfold isSrc at hc
  simp only [Bool.or_eq_false_iff, decide_eq_false_iff_not] at hc
  obtain ⟨⟨⟨h1, h2⟩, h3⟩, h4⟩ := hc
  have n1 : srcGate (M.gam N s0 call lam act) sc f "range" = false := by unfold srcGate; rw [decide_eq_false h1]; rfl
  have n2 : srcGate (M.gam N s0 call lam act) sc f "zip" = false := by unfold srcGate; rw [decide_eq_false h2]; rfl
  have n3 : srcGate (M.gam N s0 call lam act) sc f "enumerate" = false := by unfold srcGate; rw [decide_eq_false h3]; rfl
  have n4 : srcGate (M.gam N s0 call lam act) sc f "reversed" = false := by unfold srcGate; rw [decide_eq_false h4]; rfl
  unfold evSrc
  split
  · rename_i a pos _ _ _ ee
    cases ee
    simp only [n1, n2, n3, n4]
    simpa using g
  · rename_i ee
    cases ee
    simp only [n1, n2, n3, n4]
    simpa using g
  · rename_i ee
    cases ee
    simp only [n1, n2, n3, n4]
    simpa using g
  · rename_i ee; cases ee
  · exact g
theorem gate_of {x y : Str} (h : (decide (x = y) && (glB sc x && (M.glob x).isNone)) = true) : srcGate (M.gam N s0 call lam act) sc x y = true := by
  unfold srcGate
  simp only [Bool.and_eq_true] at h ⊢
  exact ⟨⟨h.1, h.2.1⟩, h.2.2⟩
theorem x_rng1 {f : Str} {j : Int} (h : ev (M.gam N s0 call lam act) n sc a σ S = .ok (.int j) S1) (hc : (decide (f = ("range" : Str)) && (glB sc f && (M.glob f).isNone)) = true) (hst : isStar a = false) (hj : -(2 ^ 62) ≤ j ∧ j < 2 ^ 62) : evSrc (ev (M.gam N s0 call lam act) n sc) (M.gam N s0 call lam act) sc tg (.Call (.Name f p) [a] [] q) σ S = .ok (.rng 0 j.toNat) S1 := by
  have g := gate_of (M := M) (N := N) (s0 := s0) (call := call) (lam := lam) (act := act) hc
  have hj2 : small62 j = true := decide_eq_true hj
  unfold evSrc
  simp only [g, hst, h, Res.bind, srcR1, hj2, if_true, toR, and_self]
theorem x_rng2 {f : Str} {i j : Int} (h : ev (M.gam N s0 call lam act) n sc a σ S = .ok (.int i) S1) (h2 : ev (M.gam N s0 call lam act) n sc b σ S1 = .ok (.int j) S2) (hc : (decide (f = ("range" : Str)) && (glB sc f && (M.glob f).isNone)) = true) (hst : (!isStar a && !isStar b) = true) (hi : -(2 ^ 62) ≤ i ∧ i < 2 ^ 62) (hj : -(2 ^ 62) ≤ j ∧ j < 2 ^ 62) : evSrc (ev (M.gam N s0 call lam act) n sc) (M.gam N s0 call lam act) sc tg (.Call (.Name f p) [a, b] [] q) σ S = .ok (.rng i (j - i).toNat) S2 := by
  have g := gate_of (M := M) (N := N) (s0 := s0) (call := call) (lam := lam) (act := act) hc
  have hj2 : small62 j = true := decide_eq_true hj
  have hi2 : small62 i = true := decide_eq_true hi
  simp only [Bool.and_eq_true, Bool.not_eq_true'] at hst
  unfold evSrc
  simp only [g, hst.1, hst.2, h, h2, Res.bind, srcR2, hj2, hi2, if_true, toR, and_self]
theorem x_zip {f : Str} {s : Src} (h : ev (M.gam N s0 call lam act) n sc a σ S = .ok x S1) (h2 : ev (M.gam N s0 call lam act) n sc b σ S1 = .ok y S2) (hc : (decide (f = ("zip" : Str)) && (glB sc f && (M.glob f).isNone)) = true) (hst : (!isStar a && (!isStar b && isTupE tg)) = true) (hz : srcZ S2 x y = some s) : evSrc (ev (M.gam N s0 call lam act) n sc) (M.gam N s0 call lam act) sc tg (.Call (.Name f p) [a, b] [] q) σ S = .ok s S2 := by
  have g := gate_of (M := M) (N := N) (s0 := s0) (call := call) (lam := lam) (act := act) hc
  have n1 : srcGate (M.gam N s0 call lam act) sc f "range" = false := by
    unfold srcGate
    simp only [Bool.and_eq_true, decide_eq_true_eq] at hc
    rw [hc.1]; rfl
  simp only [Bool.and_eq_true, Bool.not_eq_true'] at hst
  unfold evSrc
  simp only [g, n1, hst.1, hst.2, h, h2, Res.bind, hz, if_true, toR, and_self]
  simp
theorem x_enu {f : Str} {ds : List D} (h : ev (M.gam N s0 call lam act) n sc a σ S = .ok (.lv ds) S1) (hc : (decide (f = ("enumerate" : Str)) && (glB sc f && (M.glob f).isNone)) = true) (hst : (!isStar a && isTupE tg) = true) : evSrc (ev (M.gam N s0 call lam act) n sc) (M.gam N s0 call lam act) sc tg (.Call (.Name f p) [a] [] q) σ S = .ok (.enu ds) S1 := by
  have g := gate_of (M := M) (N := N) (s0 := s0) (call := call) (lam := lam) (act := act) hc
  have n1 : srcGate (M.gam N s0 call lam act) sc f "range" = false := by
    unfold srcGate
    simp only [Bool.and_eq_true, decide_eq_true_eq] at hc
    rw [hc.1]; rfl
  simp only [Bool.and_eq_true, Bool.not_eq_true'] at hst
  unfold evSrc
  simp only [g, n1, hst.1, hst.2, h, Res.bind, srcE, if_true, toR, and_self]
  simp
theorem walks_kys {ks : List (List Key)} : Walks (.kys ks) (ks.map .kt) S := fun i => by
  show some (ks[i]?.map D.kt) = _
  rw [List.getElem?_map]
theorem srcW_dw {ks : List (List Key)} {ds : List D} : srcW S (.dw ks ds) = .ok (.kys ks) S := rfl
theorem srcW_dt {m : Nat} {kvs : List (List Key × D)} (h : S[m]? = some (.dt kvs)) : srcW S (.ref m) = .ok (.kys (kvs.map (·.1))) (S.set m (.ft kvs)) := by
  have e : srcD S (.ref m) = none := by
    show (lstOf S m).map (fun _ => Src.lst m) = none
    unfold lstOf
    rw [h]; rfl
  unfold srcW
  rw [e]
  simp only [h]
theorem srcW_ft {m : Nat} {kvs : List (List Key × D)} (h : S[m]? = some (.ft kvs)) : srcW S (.ref m) = .ok (.kys (kvs.map (·.1))) S := by
  have e : srcD S (.ref m) = none := by
    show (lstOf S m).map (fun _ => Src.lst m) = none
    unfold lstOf
    rw [h]; rfl
  unfold srcW
  rw [e]
  simp only [h]
theorem walks_tup {ds : List D} : Walks (.tup ds) ds S := fun _ => rfl
theorem walks_lv {ds : List D} : Walks (.lv ds) ds S := fun _ => rfl
theorem walks_enu {ds : List D} : Walks (.enu ds) (ds.mapIdx fun i d => .tup [.int i, d]) S := fun i => by
  show some (ds[i]?.map fun d => D.tup [.int i, d]) = _
  rw [List.getElem?_mapIdx]
theorem walks_rng {l : Int} {n : Nat} : Walks (.rng l n) ((List.range n).map fun (i : Nat) => .int (l + i)) S := fun i => by
  show some (if i < n then some (D.int (l + i)) else none) = _
  rw [List.getElem?_map]
  by_cases h : i < n
  · rw [if_pos h, List.getElem?_range h]; rfl
  · rw [if_neg h, List.getElem?_eq_none (by simpa using h)]; rfl
def zipD : List D → List D → List D
  | d :: ds, e :: es => .tup [d, e] :: zipD ds es
  | _, _ => []
theorem zipD_at : ∀ (ds es : List D) (i : Nat), (zipD ds es)[i]? = match ds[i]?, es[i]? with
    | some d, some e => some (.tup [d, e])
    | _, _ => none
  | [], es, i => by simp [zipD]
  | d :: ds, [], i => by simp only [zipD]; cases h : (d :: ds)[i]? <;> simp
  | d :: ds, e :: es, 0 => by simp [zipD]
  | d :: ds, e :: es, i + 1 => by simp only [zipD, List.getElem?_cons_succ]; exact zipD_at ds es i
theorem walks_zipT {ds es : List D} : Walks (.zipT ds es) (zipD ds es) S := fun i => by rw [zipD_at]; rfl
theorem walks_zipL {ds es : List D} : Walks (.zipL ds es) (zipD ds es) S := fun i => by rw [zipD_at]; rfl
/-! ### comprehensions -/
theorem cl_all : ∀ {ds : List D} {n : Nat}, (∀ d ∈ ds, cloB n d = true) → cloBs n ds = true
  | [], _, _ => rfl
  | d :: ds, n, h => by
    show (cloB n d && cloBs n ds) = true
    rw [h d List.mem_cons_self, cl_all fun e he => h e (List.mem_cons_of_mem _ he)]
    rfl
theorem mapO_same {f : D → Option D} : ∀ {ds : List D}, (∀ d ∈ ds, f d = some d) → mapO f ds = some ds
  | [], _ => rfl
  | d :: ds, h => by
    unfold mapO
    rw [h d List.mem_cons_self, mapO_same fun e he => h e (List.mem_cons_of_mem _ he)]
theorem frz_clo {n k : Nat} (h : cloB n d = true) : frz S n k d = some d := by
  cases k <;> (unfold frz; rw [if_pos h])
open Classical in
theorem keep_refl : keepC S S = true := by
  unfold keepC
  exact decide_eq_true fun i m h => .inl h
/-- a new list of values that tell nothing of the store is given up -/
theorem scope_lst {ds : List D} (h : ∀ d ∈ ds, cloB S.length d = true) : scope keepC S (.ok (.ref S.length) (S ++ [.lst ds])) = .ok (.lv ds) S := by
  have e : frz (S ++ [.lst ds]) S.length 6 (.ref S.length) = some (.lv ds) := by
    unfold frz
    have c : cloB S.length (.ref S.length) = false := by unfold cloB; simp
    rw [if_neg (by rw [c]; decide)]
    simp only [List.getElem?_concat_length]
    rw [mapO_same fun d hd => frz_clo (h d hd)]
    rfl
  unfold scope
  dsimp only
  rw [if_neg (by simp)]
  rw [e]
  dsimp only
  have : (S ++ [M.lst ds]).take S.length = S := by simp
  rw [this, keep_refl]
  rfl
theorem l_end {s : Src} {f : D → Sto → Res (Option D)} {n0 m i : Nat} (h : srcAt S i s = some none) : loopC s f n0 (m + 1) i S = .ok (.ref n0) S := by
  rw [loopC_succ, h]
theorem l_go {s : Src} {f : D → Sto → Res (Option D)} {n0 m i : Nat} {acc : List D} {rr : Res D} (h : srcAt S i s = some (some d)) (h2 : f d S = .ok (some y) S1) (ha : S1[n0]? = some (.lst acc)) (hz : acc.length < sizeLine) (h3 : loopC s f n0 m (i + 1) (S1.set n0 (.lst (acc ++ [y]))) = rr) :
    loopC s f n0 (m + 1) i S = rr := by
  rw [loopC_succ, h]; simp only [h2, ha, if_pos hz]; exact h3
theorem l_skip {s : Src} {f : D → Sto → Res (Option D)} {n0 m i : Nat} {rr : Res D} (h : srcAt S i s = some (some d)) (h2 : f d S = .ok none S1) (h3 : loopC s f n0 m (i + 1) S1 = rr) : loopC s f n0 (m + 1) i S = rr := by
  rw [loopC_succ, h]; simp only [h2]; exact h3
/-- turns that leave the store alone -/
theorem loop_pure {s : Src} {f : D → Sto → Res (Option D)} {o : D → Option D} {xs : List D} (hw : ∀ acc, Walks s xs (S ++ [.lst acc])) (hf : ∀ d ∈ xs, ∀ acc, f d (S ++ [.lst acc]) = .ok (o d) (S ++ [.lst acc])) :
    ∀ (ys : List D) (i m : Nat) (acc : List D), xs.drop i = ys → ys.length < m → acc.length + ys.length ≤ 1000000 → loopC s f S.length m i (S ++ [.lst acc]) = .ok (.ref S.length) (S ++ [.lst (acc ++ ys.filterMap o)])
  | [], i, 0, acc, _, hm, _ => absurd hm (by simp)
  | [], i, m + 1, acc, hd, hm, _ => by
    have e : xs[i]? = none := by
      rw [List.getElem?_eq_none_iff]
      have := congrArg List.length hd
      simp at this
      omega
    rw [l_end (by rw [hw, e])]
    simp
  | d :: ys, i, 0, acc, _, hm, _ => absurd hm (by simp)
  | d :: ys, i, m + 1, acc, hd, hm, hz => by
    have e : xs[i]? = some d := by
      have := congrArg (fun l => l[0]?) hd
      simpa using this
    have hd2 : xs.drop (i + 1) = ys := by
      have := congrArg List.tail hd
      simpa using this
    have hmem : d ∈ xs := List.mem_of_getElem? e
    have hb := hf d hmem acc
    cases ho : o d with
    | none =>
      rw [ho] at hb
      rw [l_skip (by rw [hw, e]) hb (loop_pure hw hf ys (i + 1) m acc hd2 (by simp at hm; omega) (by simp at hz; omega))]
      simp [List.filterMap_cons, ho]
    | some y =>
      rw [ho] at hb
      rw [l_go (acc := acc) (by rw [hw, e]) hb (by simp) (by rw [sizeLine_eq]; simp at hz; omega) rfl]
      have es : (S ++ [M.lst acc]).set S.length (M.lst (acc ++ [y])) = S ++ [.lst (acc ++ [y])] := by simp
      rw [es, loop_pure hw hf ys (i + 1) m (acc ++ [y]) hd2 (by simp at hm; omega) (by simp at hz ⊢; omega)]
      simp [List.filterMap_cons, ho]
theorem turn_one {f : Scope → Expr → EvF} {t : Scope → Expr → TvF} {inner : Scope} {vs : List Nat} {l : List (Nat × D)} (ha : asgE N scp tg d = some l) (hi : allIn l vs = true) (h : f inner elt (sets (wipeD σ vs) l) S = .ok y S1) : turnC f t N scp inner tg elt [] σ vs d S = .ok (some y) S1 := by
  unfold turnC; simp only [ha, hi, if_true, Res.bind, h]
theorem turn_if {f : Scope → Expr → EvF} {t : Scope → Expr → TvF} {inner : Scope} {vs : List Nat} {l : List (Nat × D)} {b : Bool} (ha : asgE N scp tg d = some l) (hi : allIn l vs = true) (hc : t inner c (sets (wipeD σ vs) l) S = .ok b S) (h : b = true → f inner elt (sets (wipeD σ vs) l) S = .ok y S) : turnC f t N scp inner tg elt [c] σ vs d S = .ok (if b = true then some y else none) S := by
  unfold turnC
  simp only [ha, hi, if_true, hc, Res.bind]
  cases b with
  | true => simp [h rfl]
  | false => simp
/-- a comprehension whose turns leave the store alone -/
theorem q_lc {s : Src} {o : D → Option D} {xs : List D} (hs : evSrc (ev (M.gam N s0 call lam act) n sc) (M.gam N s0 call lam act) sc tg it σ S = .ok s S) (hb : (blkC N sc scp (ownOf N scp) && (!isSetE it && !decide ((L2.relS scp sc).names = s0))) = true) (ho : M.own.contains (p.line, p.col, p.endCol) = false)
    (hw : ∀ acc, Walks s xs (S ++ [.lst acc])) (hl : srcLen S s = xs.length) (hz : xs.length ≤ 1000000) (hf : ∀ d ∈ xs, ∀ S', turnC (ev (M.gam N s0 call lam act) n) (tv (M.gam N s0 call lam act) n) N scp (L2.relS scp sc) tg elt ifs σ ((ownOf N scp).map (·.2)) d S' = .ok (o d) S') (hc : ∀ d ∈ xs, ∀ y, o d = some y → cloB S.length y = true) :
    ev (M.gam N s0 call lam act) (n + 1) sc (.ListComp elt [⟨tg, it, ifs, 0⟩] scp p) σ S = .ok (.lv (xs.filterMap o)) S := by
  simp only [Bool.and_eq_true, Bool.not_eq_true', decide_eq_false_iff_not] at hb
  have ho : (M.gam N s0 call lam act).own p = false := ho
  have key := loop_pure (S := S) (s := s) (o := o) (f := turnC (ev (M.gam N s0 call lam act) n) (tv (M.gam N s0 call lam act) n) N scp (L2.relS scp sc) tg elt ifs σ ((ownOf N scp).map (·.2))) (xs := xs) (fun acc => hw acc) (fun d hd acc => hf d hd _) xs 0 (xs.length + 1) [] (by simp) (by omega) (by simpa using hz)
  have e0 : (blkC (M.gam N s0 call lam act).N sc scp (ownOf (M.gam N s0 call lam act).N scp) = true ∧ isSetE it = false) ∧ (L2.relS scp sc).names ≠ (M.gam N s0 call lam act).sc0 := ⟨⟨hb.1, hb.2.1⟩, hb.2.2⟩
  unfold ev lcomp
  simp only [if_pos e0, hs, Res.bind, ho, hl]
  show scope keepC S (loopC s (turnC (ev (M.gam N s0 call lam act) n) (tv (M.gam N s0 call lam act) n) N scp (L2.relS scp sc) tg elt ifs σ ((ownOf N scp).map (·.2))) S.length (xs.length + 1) 0 (S ++ [.lst []])).nx = _
  rw [key]
  simp only [Res.nx, List.nil_append]
  refine scope_lst fun d hd => ?_
  obtain ⟨e, he, h2⟩ := List.mem_filterMap.mp hd
  exact hc e he d h2
/-- the same, what is walked being locked first -/
theorem q_lcK {s : Src} {o : D → Option D} {xs : List D} (hs : evSrc (ev (M.gam N s0 call lam act) n sc) (M.gam N s0 call lam act) sc tg it σ S = .ok s S1) (hb : (blkC N sc scp (ownOf N scp) && (!isSetE it && !decide ((L2.relS scp sc).names = s0))) = true) (ho : M.own.contains (p.line, p.col, p.endCol) = false)
    (hw : ∀ acc, Walks s xs (S1 ++ [.lst acc])) (hl : srcLen S1 s = xs.length) (hz : xs.length ≤ 1000000) (hf : ∀ d ∈ xs, ∀ acc, turnC (ev (M.gam N s0 call lam act) n) (tv (M.gam N s0 call lam act) n) N scp (L2.relS scp sc) tg elt ifs σ ((ownOf N scp).map (·.2)) d (S1 ++ [.lst acc]) = .ok (o d) (S1 ++ [.lst acc])) (hc : ∀ d ∈ xs, ∀ y, o d = some y → cloB S1.length y = true) :
    ev (M.gam N s0 call lam act) (n + 1) sc (.ListComp elt [⟨tg, it, ifs, 0⟩] scp p) σ S = .ok (.lv (xs.filterMap o)) S1 := by
  simp only [Bool.and_eq_true, Bool.not_eq_true', decide_eq_false_iff_not] at hb
  have ho : (M.gam N s0 call lam act).own p = false := ho
  have key := loop_pure (S := S1) (s := s) (o := o) (f := turnC (ev (M.gam N s0 call lam act) n) (tv (M.gam N s0 call lam act) n) N scp (L2.relS scp sc) tg elt ifs σ ((ownOf N scp).map (·.2))) (xs := xs) (fun acc => hw acc) hf xs 0 (xs.length + 1) [] (by simp) (by omega) (by simpa using hz)
  have e0 : (blkC (M.gam N s0 call lam act).N sc scp (ownOf (M.gam N s0 call lam act).N scp) = true ∧ isSetE it = false) ∧ (L2.relS scp sc).names ≠ (M.gam N s0 call lam act).sc0 := ⟨⟨hb.1, hb.2.1⟩, hb.2.2⟩
  unfold ev lcomp
  simp only [if_pos e0, hs, Res.bind, ho, hl]
  show scope keepC S1 (loopC s (turnC (ev (M.gam N s0 call lam act) n) (tv (M.gam N s0 call lam act) n) N scp (L2.relS scp sc) tg elt ifs σ ((ownOf N scp).map (·.2))) S1.length (xs.length + 1) 0 (S1 ++ [.lst []])).nx = _
  rw [key]
  simp only [Res.nx, List.nil_append]
  refine scope_lst fun d hd => ?_
  obtain ⟨e, he, h2⟩ := List.mem_filterMap.mp hd
  exact hc e he d h2
end
end Dp
end
section
set_option Elab.async false
set_option linter.all false
set_option maxRecDepth 100000
set_option maxHeartbeats 4000000
namespace Dp
open PySem PySem.Spec PyProof.Rows L2
mutual
/-- data alone -/
def pureB : D → Bool
  | .non => true
  | .bl _ => true
  | .int _ => true
  | .str _ => true
  | .tup ds => pureBs ds
  | .lv ds => pureBs ds
  | .dv _ ds => pureBs ds
  | .dw _ _ => false
  | _ => false
def pureBs : List D → Bool
  | [] => true
  | d :: ds => pureB d && pureBs ds
end
mutual
theorem pure_clo {n : Nat} : ∀ {d : D}, pureB d = true → cloB n d = true
  | .non, _ => rfl
  | .bl _, _ => rfl
  | .int _, _ => rfl
  | .str _, _ => rfl
  | .kt _, _ => rfl
  | .tup ds, h => pures_clo (ds := ds) h
  | .lv ds, h => pures_clo (ds := ds) h
  | .dv _ ds, h => pures_clo (ds := ds) h
  | .dw _ _, h => by cases h
  | .ref _, h => by cases h
  | .con _, _ => rfl
  | .ty _, _ => rfl
  | .adr _, _ => rfl
  | .exv _ _ _, h => by cases h
theorem pures_clo {n : Nat} : ∀ {ds : List D}, pureBs ds = true → cloBs n ds = true
  | [], _ => rfl
  | d :: ds, h => by
    have h : (pureB d && pureBs ds) = true := h
    rw [Bool.and_eq_true] at h
    show (cloB n d && cloBs n ds) = true
    rw [pure_clo h.1, pures_clo h.2]
    rfl
end
theorem pureBs_all : ∀ {ds : List D}, pureBs ds = true ↔ ∀ d ∈ ds, pureB d = true
  | [] => by simp [pureBs]
  | d :: ds => by simp [pureBs, pureBs_all (ds := ds)]
theorem pureBs_app {ds es : List D} : pureBs (ds ++ es) = (pureBs ds && pureBs es) := by
  induction ds with
  | nil => simp [pureBs]
  | cons d ds ih => simp [pureBs, ih, Bool.and_assoc]
/-! ### kinds of data -/
def isIntB : D → Bool
  | .int _ => true
  | .bl _ => true
  | _ => false
def isBlB : D → Bool
  | .bl _ => true
  | _ => false
def isTupB : D → Bool
  | .tup _ => true
  | _ => false
def isLstB : D → Bool
  | .lv _ => true
  | _ => false
/-- a number of the document -/
def isNumB : D → Bool
  | .int _ => true
  | _ => false
section
variable {G : Gam} {S : Sto} {d : D}
theorem isi_int (h : pureB d = true) : fIsiG G [d, .ty "int"] S = some (.bl (isIntB d), S) := by
  cases d <;> first | rfl | cases h
theorem isi_bool (h : pureB d = true) : fIsiG G [d, .ty "bool"] S = some (.bl (isBlB d), S) := by
  cases d <;> first | rfl | cases h
theorem isi_tup (h : pureB d = true) : fIsiG G [d, .ty "tuple"] S = some (.bl (isTupB d), S) := by
  cases d <;> first | rfl | cases h
theorem isi_lst (h : pureB d = true) : fIsiG G [d, .ty "list"] S = some (.bl (isLstB d), S) := by
  cases d <;> first | rfl | cases h
end
end Dp
namespace Dp
open PySem PySem.Spec PyProof.Rows L2
section
variable {S : Sto}
theorem eq_int {i j : Int} : cmpD .Eq (.int i) (.int j) S = some (i == j) := by
  show eqD (.int i) (.int j) S = _
  unfold eqD py
  rfl
theorem ne_int {i j : Int} : cmpD .NotEq (.int i) (.int j) S = some (!(i == j)) := by
  show (eqD (.int i) (.int j) S).map not = _
  unfold eqD py
  rfl
theorem pureBs_cons {d : D} {ds : List D} : pureBs (d :: ds) = (pureB d && pureBs ds) := rfl
theorem pureB_tup {ds : List D} : pureB (.tup ds) = pureBs ds := rfl
theorem pureB_lv {ds : List D} : pureB (.lv ds) = pureBs ds := rfl
theorem pureB_get {ds : List D} (h : pureBs ds = true) {i : Nat} {d : D} (e : ds[i]? = some d) : pureB d = true := pureBs_all.mp h d (List.mem_of_getElem? e)
end
end Dp
end
section
set_option Elab.async false
set_option linter.all false
set_option maxRecDepth 100000
set_option maxHeartbeats 4000000
namespace Dp
open PySem PySem.Spec PyProof.Rows L2
section
variable {S S1 S2 : Sto} {G : Gam} {o : Bool}
theorem l_mod {i j : Int} (h : 0 < j) : binD o .Mod (.int i) (.int j) S = some (.int (i % j), S) := by
  show (if 0 < j then some (D.int (i % j), S) else none) = _
  rw [if_pos h]
theorem l_fdiv {i j : Int} (h : 0 < j ∧ j < 1073741824) : binD o .FloorDiv (.int i) (.int j) S = some (.int (i / j), S) := by
  show (if 0 < j ∧ j < 1073741824 then some (D.int (i / j), S) else none) = _
  rw [if_pos h]
theorem l_mul {i j : Int} (h : (-18446744073709551616 < i ∧ i < 18446744073709551616) ∨ (-18446744073709551616 < j ∧ j < 18446744073709551616)) : binD o .Mult (.int i) (.int j) S = some (.int (i * j), S) := by
  show (if mulOk i j = true then some (D.int (i * j), S) else none) = _
  rw [if_pos (by
    unfold mulOk
    rw [Bool.or_eq_true, decide_eq_true_eq, decide_eq_true_eq]
    simpa using h)]
theorem l_pow {i j : Int} (h : 0 ≤ j ∧ j ≤ 1000000) (h2 : -18446744073709551616 < i ∧ i < 18446744073709551616) : binD o .Pow (.int i) (.int j) S = some (.int (i ^ j.toNat), S) := by
  show (if 0 ≤ j ∧ j ≤ 1000000 ∧ i.natAbs < 2 ^ 64 then some (D.int (i ^ j.toNat), S) else none) = _
  rw [if_pos ⟨h.1, h.2, by omega⟩]
/-! ### rows of ints against the empty one -/
theorem pyL_ints {f : D → Option PyData} (hf : ∀ i, f (.int i) = some (.int i)) : ∀ ns : List Int, pyL f (ns.map D.int) = some (ns.map PyData.int)
  | [] => rfl
  | i :: ns => by simp only [List.map_cons, pyL, hf, pyL_ints hf ns]
theorem lay_ints : ∀ ns : List Int, PyData.canLayAll0 (ns.map PyData.int) = true
  | [] => rfl
  | i :: ns => by
    show (PyData.canLay0 (.int i) && PyData.canLayAll0 (ns.map PyData.int)) = true
    rw [lay_ints ns]; rfl
theorem depth_ints : ∀ ns : List Int, PyData.depthAll (ns.map PyData.int) ≤ 1
  | [] => by decide
  | i :: ns => by
    show max (PyData.depth (.int i)) (PyData.depthAll (ns.map PyData.int)) ≤ 1
    have h1 := depth_ints ns
    have h2 : PyData.depth (.int i) = 0 := rfl
    omega
theorem py_int {k : Nat} {i : Int} : py S (k + 1) (.int i) = some (.int i) := by unfold py; rfl
/-- xs != [], a list of data of depth 1 or less: only its length counts -/
def shapeB (S : Sto) (ds : List D) : Prop := ∃ ps, pyL (py S 65) ds = some ps ∧ SeqAt.shaped (.list ps) = true
theorem shaped_nil : SeqAt.shaped (.list []) = true := by decide
theorem len_pyL {f : D → Option PyData} : ∀ {ds : List D} {ps : List PyData}, pyL f ds = some ps → ps.length = ds.length
  | [], ps, h => by cases h; rfl
  | d :: ds, ps, h => by
    unfold pyL at h
    split at h
    · rename_i e1 e2; cases h; simp [len_pyL e2]
    · cases h
theorem py_nil {k : Nat} : py S (k + 1) (.lv []) = some (.list []) := by unfold py; rfl
theorem eqv_nil (ps : List PyData) : PyData.eqv (.list ps) (.list []) = ps.isEmpty := by
  cases ps <;> rfl
theorem py_ref {n k : Nat} {ds : List D} {ps : List PyData} (h : lstOf S n = some ds) (hp : pyL (py S k) ds = some ps) : py S (k + 1) (.ref n) = some (.list ps) := by
  unfold py; simp only [h, hp]; rfl
theorem py_lv {k : Nat} {ds : List D} {ps : List PyData} (hp : pyL (py S k) ds = some ps) : py S (k + 1) (.lv ds) = some (.list ps) := by
  unfold py; simp only [hp]; rfl
theorem eq_nil_ref {n : Nat} {ds : List D} (h : lstOf S n = some ds) (hs : shapeB S ds) : eqD (.ref n) (.lv []) S = some ds.isEmpty := by
  obtain ⟨ps, h1, h2⟩ := hs
  unfold eqD
  rw [py_ref h h1, py_nil]
  dsimp only
  rw [if_pos ⟨h2, shaped_nil⟩, eqv_nil]
  have := len_pyL h1
  cases ds <;> cases ps <;> first | rfl | (simp at this)
theorem eq_nil_lv {ds : List D} (hs : shapeB S ds) : eqD (.lv ds) (.lv []) S = some ds.isEmpty := by
  obtain ⟨ps, h1, h2⟩ := hs
  unfold eqD
  rw [py_lv h1, py_nil]
  dsimp only
  rw [if_pos ⟨h2, shaped_nil⟩, eqv_nil]
  have := len_pyL h1
  cases ds <;> cases ps <;> first | rfl | (simp at this)
theorem shape_ints (ns : List Int) : shapeB S (ns.map D.int) := ⟨ns.map PyData.int, pyL_ints (fun i => py_int) ns, by
  show (PyData.canLayAll0 (ns.map PyData.int) && decide (PyData.depthAll (ns.map PyData.int) + 1 ≤ 64)) = true
  rw [lay_ints, Bool.true_and]
  have := depth_ints ns
  exact decide_eq_true (by omega)⟩
theorem ne_nil_ref {n : Nat} {ds : List D} (h : lstOf S n = some ds) (hs : shapeB S ds) : cmpD .NotEq (.ref n) (.lv []) S = some (!ds.isEmpty) := by
  show (eqD (.ref n) (.lv []) S).map not = _
  rw [eq_nil_ref h hs]; rfl
theorem ne_nil_lv {ds : List D} (hs : shapeB S ds) : cmpD .NotEq (.lv ds) (.lv []) S = some (!ds.isEmpty) := by
  show (eqD (.lv ds) (.lv []) S).map not = _
  rw [eq_nil_lv hs]; rfl
theorem eq_nil_lv' {ds : List D} (hs : shapeB S ds) : cmpD .Eq (.lv ds) (.lv []) S = some ds.isEmpty := eq_nil_lv hs
/-! ### items -/
theorem atI_nat {α : Type} {ds : List α} {j : Nat} {d : α} (h : ds[j]? = some d) : L2.atI ds (j : Int) = some d := by
  have hj : j < ds.length := (List.getElem?_eq_some_iff.mp h).1
  unfold L2.atI
  have e : L2.ixN ds.length (j : Int) = some j := by
    unfold L2.ixN
    rw [if_pos (by omega), if_pos (by omega)]
    simp
  rw [e]; exact h
theorem ix_lv {ds : List D} {i : Int} {d : D} (h0 : 0 ≤ i) (h : ds[i.toNat]? = some d) : ixA (.lv ds) (.int i) S = some (d, S) := by
  obtain ⟨j, rfl⟩ : ∃ j : Nat, i = j := ⟨i.toNat, by omega⟩
  show (L2.atI ds (j : Int)).map (fun d => (d, S)) = _
  rw [atI_nat (by simpa using h)]; rfl
theorem ix_tup {ds : List D} {i : Int} {d : D} (h0 : 0 ≤ i) (h : ds[i.toNat]? = some d) : ixA (.tup ds) (.int i) S = some (d, S) := by
  obtain ⟨j, rfl⟩ : ∃ j : Nat, i = j := ⟨i.toNat, by omega⟩
  show (L2.atI ds (j : Int)).map (fun d => (d, S)) = _
  rw [atI_nat (by simpa using h)]; rfl
theorem app_ref {n : Nat} {d : D} {ds : List D} (h : S[n]? = some (M.lst ds)) (hz : ds.length < 16777216) : mAppend n [d] S = some (.non, S.set n (.lst (ds ++ [d]))) := by
  unfold mAppend
  rw [h]
  dsimp only
  rw [if_pos (by rw [sizeLine_eq]; exact hz)]
theorem pop_ref {n : Nat} {i : Int} {d : D} {ds : List D} (h : S[n]? = some (M.lst ds)) (h0 : 0 ≤ i) (h1 : i < 4611686018427387904) (hx : ds[i.toNat]? = some d) : mPop n [.int i] S = some (d, S.set n (.lst (ds.eraseIdx i.toNat))) := by
  obtain ⟨j, rfl⟩ : ∃ j : Nat, i = j := ⟨i.toNat, by omega⟩
  simp only [Int.toNat_natCast] at hx ⊢
  have hl : j < ds.length := (List.getElem?_eq_some_iff.mp hx).1
  unfold mPop
  rw [h]
  dsimp only
  rw [if_pos (by constructor <;> omega)]
  have e : seqIndex? (j : Int) ds.length = some j := by
    unfold seqIndex?
    simp
    omega
  rw [e]
  simp only [Option.bind_some, hx, Option.map_some]
theorem lst_of {n : Nat} {ds : List D} (h : S[n]? = some (M.lst ds)) : lstOf S n = some ds := by unfold lstOf; rw [h]
/-! ### a call that writes what its caller has -/
theorem scope_len {rr : Res D} {d : D} (h : rr = .ok d S1) (hl : S1.length = S.length) : scope keepC S rr = .ok d S1 := by
  subst h; unfold scope; simp [hl]
theorem c_retW {M : Mo} {k : Nat} {f : Str} {t : DD} {ds : List D} {d : D} (hf : M.find f = some t) (hl : ds.length = t.ps.length)
    (h : exs (ex (M.gam t.N t.scope.names (M.call (k + 2)) (M.lamF t (M.call (k + 1)) (M.call k)) noAct) M.fuel t.scope) t.body (startD t.N ds) S = .ret d S1) (hz : S1.length = S.length) : M.callS (k + 3) f ds S = .ok d S1 := scope_len (q_def hf hl (d_ret h)) hz
end

/-! ### parts of a text -/
def nthS (l : List Stmt) (i : Nat) : Stmt := l.getD i (.Pass ⟨0, 0, 0, 0⟩)
def loopB : Stmt → List Stmt
  | .For _ _ b _ _ => b
  | .While _ b _ _ => b
  | .If _ b _ _ => b
  | _ => []
def whileT : Stmt → Expr
  | .While t _ _ _ => t
  | .If t _ _ _ => t
  | _ => .Constant .none 0 ⟨0, 0, 0, 0⟩
def valueE : Stmt → Expr
  | .Assign _ e _ => e
  | .Return (some e) _ => e
  | _ => .Constant .none 0 ⟨0, 0, 0, 0⟩
def forT : Stmt → Expr
  | .For t _ _ _ _ => t
  | _ => .Constant .none 0 ⟨0, 0, 0, 0⟩
end Dp
namespace Dp
open PySem PySem.Spec PyProof.Rows L2
section
variable {M : Mo} {N : List Str} {s0 : List (Str × NameKind)} {call : Str → List D → Sto → Res D} {lam : Str → Arguments → Expr → Scope → EvF} {act : Str → EvF}
variable {n : Nat} {sc : Scope} {σ : Sig} {S S1 S2 : Sto} {p : Pos} {d x y : D} {e k : Expr}
theorem dp_nil {f : Expr → EvF} : evPairs f [] [] σ S = .ok [] S := rfl
theorem dp_cons {f : Expr → EvF} {ks : List (Option Expr)} {vs : List Expr} {kk : Key} {r : List (Key × D)} (hk : f k σ S = .ok x S) (hv : f e σ S = .ok y S) (h2 : evPairs f ks vs σ S = .ok r S) (hkey : keyOf x = some kk) : evPairs f (some k :: ks) (e :: vs) σ S = .ok ((kk, y) :: r) S := by
  simp only [evPairs, hk, hv, h2, hkey, Res.bind]
/-- a display of a dict that nobody writes -/
theorem q_dv {ks : List (Option Expr)} {vs : List Expr} {kvs : List (Key × D)} (hc : (!ks.isEmpty && (decide (ks.length = vs.length) && (decide (ks.length ≤ 15) && ks.all (·.isSome)))) = true) (ho : M.own.contains (p.line, p.col, p.endCol) = false) (h : ∀ S, evPairs (ev (M.gam N s0 call lam act) n sc) ks vs σ S = .ok kvs S) (hl : kvs.length ≤ 15) (hp : ∀ d ∈ (mergeD [] kvs).map (·.2), cloB S.length d = true) :
    ev (M.gam N s0 call lam act) (n + 1) sc (.Dict ks vs p) σ S = .ok (.dv ((mergeD [] kvs).map (·.1)) ((mergeD [] kvs).map (·.2))) S := by
  simp only [Bool.and_eq_true, Bool.not_eq_true', decide_eq_true_eq] at hc
  obtain ⟨c1, c2, c3, c4⟩ := hc
  have ho : (M.gam N s0 call lam act).own p = false := ho
  cases ks with
  | nil => cases c1
  | cons k0 ks =>
    have e1 : ev (M.gam N s0 call lam act) (n + 1) sc (.Dict (k0 :: ks) vs p) σ S = (evPairs (ev (M.gam N s0 call lam act) n sc) (k0 :: ks) vs σ (S ++ [.dk []])).bind fun kvs S1 => match S1[S.length]? with
        | some (.dk []) => if kvs.length ≤ 15 then (if (M.gam N s0 call lam act).own p = true then .ok (.ref S.length) (S1.set S.length (.dk (mergeD [] kvs))) else scope (M.gam N s0 call lam act).kp S (.ok (.ref S.length) (S1.set S.length (.dk (mergeD [] kvs))))) else .no
        | _ => .no := by
      unfold ev
      simp only [if_pos (show (k0 :: ks).length = vs.length ∧ (k0 :: ks).length ≤ 15 ∧ (k0 :: ks).all (·.isSome) = true from ⟨c2, c3, c4⟩)]
      try rfl
    rw [e1, h]
    simp only [Res.bind, List.getElem?_concat_length, if_pos hl, ho]
    show scope keepC S (.ok (.ref S.length) ((S ++ [Dp.M.dk []]).set S.length (.dk (mergeD [] kvs)))) = _
    have e2 : (S ++ [Dp.M.dk []]).set S.length (.dk (mergeD [] kvs)) = S ++ [.dk (mergeD [] kvs)] := by simp
    rw [e2]
    have e : frz (S ++ [.dk (mergeD [] kvs)]) S.length 6 (.ref S.length) = some (.dv ((mergeD [] kvs).map (·.1)) ((mergeD [] kvs).map (·.2))) := by
      unfold frz
      have c : cloB S.length (.ref S.length) = false := by unfold cloB; simp
      rw [if_neg (by rw [c]; decide)]
      simp only [List.getElem?_concat_length]
      rw [mapO_same fun d hd => frz_clo (hp d hd)]
      rfl
    unfold scope
    dsimp only
    rw [if_neg (by simp), e]
    dsimp only
    have : (S ++ [Dp.M.dk (mergeD [] kvs)]).take S.length = S := by simp
    rw [this, keep_refl]
    rfl
end
end Dp
end
section
set_option Elab.async false
set_option linter.all false
set_option maxRecDepth 100000
set_option maxHeartbeats 4000000
namespace Dp
open PySem PySem.Spec PyProof.Rows L2 LamX
section
variable {M : Mo} {N : List Str} {s0 : List (Str × NameKind)} {call : Str → List D → Sto → Res D} {lam : Str → Arguments → Expr → Scope → EvF} {act : Str → EvF}
variable {n : Nat} {sc scp : Scope} {σ σ1 σ2 : Sig} {S S1 S2 S3 S4 : Sto} {a b c e tg it elt : Expr} {d x y z v : D} {p q p2 : Pos} {r : SR} {rr : Res D}
/-! ### slices -/
theorem cut_from {ds : List D} {k : Nat} : Dp.cutD ds (some (k : Int)) none = ds.drop k := by
  unfold Dp.cutD
  rw [HT.sIx_nat, HT.sIx_none]
  by_cases h : k ≤ ds.length
  · rw [Nat.min_eq_left h, List.take_of_length_le (by simp)]
  · rw [Nat.min_eq_right (by omega), List.drop_of_length_le (Nat.le_refl _), List.drop_of_length_le (by omega)]; simp
theorem cut_to {ds : List D} {k : Nat} : Dp.cutD ds none (some (k : Int)) = ds.take k := by
  unfold Dp.cutD
  rw [HT.sIx_nat, HT.sIx_none]
  simp only [List.drop_zero, Nat.sub_zero]
  by_cases h : k ≤ ds.length
  · rw [Nat.min_eq_left h]
  · rw [Nat.min_eq_right (by omega), List.take_of_length_le (Nat.le_refl _), List.take_of_length_le (by omega)]
theorem cut_last {ds : List D} (h : 0 < ds.length) : Dp.cutD ds (some (-1)) none = ds.drop (ds.length - 1) := by
  unfold Dp.cutD
  have e : HT.sIx ds.length 0 (some (-1)) = ds.length - 1 := by
    unfold HT.sIx
    simp; omega
  rw [e, HT.sIx_none, List.take_of_length_le (by simp)]
/-! ### try, and what is called in it -/
theorem s_tryN {body : List Stmt} {f v1 y1 : Str} {C : Str} {i j : Nat} {p1 p2 p3 p4 p5 p6 : Pos} {ss : List Stmt} (hc : (glB sc f && (plainN f && (decide (sc.names.lookup v1 = some .local) && decide (sc.names.lookup y1 = some .local)))) = true) (hg : M.glob f = some (.con C)) (hi : slot N sc v1 = some i) (hj : slot N sc y1 = some j)
    (hb : exs (ex (M.gam N s0 call lam act) n sc) body σ S = .next σ1 S1) (h2 : exs (ex (M.gam N s0 call lam act) (n + 1) sc) ss σ1 S1 = r) :
    exs (ex (M.gam N s0 call lam act) (n + 1) sc) (.Try body [.ExceptHandler (some (.Name f p1)) (some v1) [.Assign [.Name y1 p2] (.Name v1 p3) p4] p5] [] [] p6 :: ss) σ S = r := by
  simp only [Bool.and_eq_true, decide_eq_true_eq] at hc
  obtain ⟨c1, c2, c3, c4⟩ := hc
  have hg : (M.gam N s0 call lam act).glob f = some (.con C) := hg
  have hi : slot (M.gam N s0 call lam act).N sc v1 = some i := hi
  have hj : slot (M.gam N s0 call lam act).N sc y1 = some j := hj
  refine s_cut (σ1 := σ1) (S1 := S1) ?_ h2
  unfold ex
  simp only [c1, c2, c3, c4, hg, hi, hj, hb, tryR, and_self, if_true]
theorem s_tryX {body : List Stmt} {f v1 y1 : Str} {C : Str} {x1 : Exn} {i j : Nat} {p1 p2 p3 p4 p5 p6 : Pos} {ss : List Stmt} (hc : (glB sc f && (plainN f && (decide (sc.names.lookup v1 = some .local) && decide (sc.names.lookup y1 = some .local)))) = true) (hg : M.glob f = some (.con C)) (hi : slot N sc v1 = some i) (hj : slot N sc y1 = some j)
    (hb : exs (ex (M.gam N s0 call lam act) n sc) body σ S = .exc x1 σ1 S1) (hx : M.isx.lookup (x1.cls, C) = some true) (h2 : exs (ex (M.gam N s0 call lam act) (n + 1) sc) ss (((σ1.set i (some x1.d)).set j (some x1.d)).set i none) S1 = r) :
    exs (ex (M.gam N s0 call lam act) (n + 1) sc) (.Try body [.ExceptHandler (some (.Name f p1)) (some v1) [.Assign [.Name y1 p2] (.Name v1 p3) p4] p5] [] [] p6 :: ss) σ S = r := by
  simp only [Bool.and_eq_true, decide_eq_true_eq] at hc
  obtain ⟨c1, c2, c3, c4⟩ := hc
  have hg : (M.gam N s0 call lam act).glob f = some (.con C) := hg
  have hi : slot (M.gam N s0 call lam act).N sc v1 = some i := hi
  have hj : slot (M.gam N s0 call lam act).N sc y1 = some j := hj
  have hx : (M.gam N s0 call lam act).isx x1.cls C = some true := hx
  refine s_cut (σ1 := ((σ1.set i (some x1.d)).set j (some x1.d)).set i none) (S1 := S1) ?_ h2
  unfold ex
  simp only [c1, c2, c3, c4, hg, hi, hj, hb, tryR, hx, and_self, if_true]
theorem s_act {f : Str} {p1 p2 p3 : Pos} {ss : List Stmt} (h : act f σ S = .ok d S1) (h2 : exs (ex (M.gam N s0 call lam act) (n + 1) sc) ss σ S1 = r) : exs (ex (M.gam N s0 call lam act) (n + 1) sc) (.Expr (.Call (.Name f p1) [] [] p2) p3 :: ss) σ S = r := by
  refine s_cut (σ1 := σ) (S1 := S1) ?_ h2
  have h : (M.gam N s0 call lam act).actc f σ S = .ok d S1 := h
  unfold ex
  simp only [h, Res.st]
theorem s_actX {f : Str} {p1 p2 p3 : Pos} {ss : List Stmt} {x1 : Exn} (h : act f σ S = .exc x1 S1) : exs (ex (M.gam N s0 call lam act) (n + 1) sc) (.Expr (.Call (.Name f p1) [] [] p2) p3 :: ss) σ S = .exc x1 σ S1 := by
  refine s_exc ?_
  have h : (M.gam N s0 call lam act).actc f σ S = .exc x1 S1 := h
  unfold ex
  simp only [h, Res.st]
/-- a store that goes back: a place given up behind it -/
theorem scope_back {m : Dp.M} (hl : S1.length = S.length) (hk : keepC S S1 = true) (hv : cloB S.length v = true) : scope keepC S (.ok v (S1 ++ [m])) = .ok v S1 := by
  unfold scope
  dsimp only
  rw [if_neg (by simp [hl]), frz_clo hv]
  dsimp only
  have : (S1 ++ [m]).take S.length = S1 := by rw [← hl]; simp
  rw [this, hk]
  rfl
theorem scope_backX {m : Dp.M} {x1 : Exn} (hl : S1.length = S.length) (hk : keepC S S1 = true) (hv : x1.attr = none) : scope keepC S (.exc x1 (S1 ++ [m])) = .exc x1 S1 := by
  unfold scope
  dsimp only
  have e : frzX (S1 ++ [m]) S.length x1 = some x1 := by unfold frzX; rw [hv]
  rw [if_neg (by simp [hl]), e]
  dsimp only
  have : (S1 ++ [m]).take S.length = S1 := by rw [← hl]; simp
  rw [this, hk]
  rfl
/-- x(lambda: body) -/
theorem q_lam {t tx : DD} {call1 call0 : Str → List D → Sto → Res D} {f : Str} {nt : Nat} {qn : Str} {ps : Arguments} {body : Expr} {lp : Pos} (hs : sc.names = s0) (ht : M.tab.lookup t.name = some (nt, qn)) (hx : M.find f = some tx) (hc : (glB t.scope f && (plainN f && (lamSB t.scope scp && (noArgsB ps && decide (tx.ps.length = 1))))) = true)
    (hS : S[nt]? = some (.tab t.name qn)) (hl : S1.length = S.length) (hk : keepC S S1 = true) (hv : cloB S.length v = true)
    (h : ∀ (g c : Addr) (τ : L2.St), M.run tx call1 noLam (actF tx.N tx.scope ⟨S.length, g, c, qn, σ, τ, fun S' => ev (M.gam t.N [] call0 noLam noAct) M.fuel scp body σ S'⟩) [.adr g] (S ++ [.code c qn σ τ]) = .ok v (S1 ++ [.code c qn σ τ])) :
    ev (M.gam N s0 call (M.lamF t call1 call0) act) (n + 1) sc (.Call (.Name f p) [.Lambda ps body scp lp] [] q) σ S = .ok v S1 := by
  simp only [Bool.and_eq_true, decide_eq_true_eq] at hc
  obtain ⟨c1, c2, c3, c4, c5⟩ := hc
  have e : ev (M.gam N s0 call (M.lamF t call1 call0) act) (n + 1) sc (.Call (.Name f p) [.Lambda ps body scp lp] [] q) σ S = scope keepC S (M.lamF t call1 call0 f ps body scp σ S) := by
    unfold ev
    exact if_pos hs
  rw [e]
  have e2 : M.lamF t call1 call0 f ps body scp σ S = .ok v (S1 ++ [.junk]) := by
    unfold Mo.lamF
    rw [ht, hx]
    dsimp only
    rw [if_pos ⟨⟨c1, c2, c3, c4, c5⟩, hS⟩]
    refine allR_eq fun g c τ => ?_
    rw [h g c τ]
    unfold dropM
    congr 1
    rw [← hl]
    simp
  rw [e2]
  exact scope_back hl hk hv
end
end Dp
end
section
set_option Elab.async false
set_option linter.all false
set_option maxRecDepth 100000
set_option maxHeartbeats 4000000
namespace Dp
open PySem PySem.Spec PyProof.Rows L2 LamX
theorem len_ref {S : Sto} {n : Nat} {ds : List D} (h : S[n]? = some (.lst ds)) : fLen [.ref n] S = some (.int ds.length, S) := by
  unfold fLen lenD
  simp only [lsD, lst_of h, Option.map_some]
  rfl
theorem erase_perm {α : Type} : ∀ {l : List α} {i : Nat} {d : α}, l[i]? = some d → (d :: l.eraseIdx i).Perm l
  | [], _, d, h => by simp at h
  | a :: l, 0, d, h => by simp at h; subst h; exact .refl _
  | a :: l, i + 1, d, h => by
    have h : l[i]? = some d := by simpa using h
    show (d :: a :: l.eraseIdx i).Perm (a :: l)
    exact (List.Perm.swap a d _).trans ((erase_perm h).cons a)
/-! ### what is told of a new list goes into the value -/
section
variable {S S1 : Sto} {l : Sto} {ds : List D} {m : Nat} {v : D}
theorem scope_ref (hl : S1.length = S.length) (hk : keepC S S1 = true) (hm : (S1 ++ l)[m]? = some (.lst ds)) (hn : S.length ≤ m) (hc : ∀ d ∈ ds, cloB S.length d = true) : scope keepC S (.ok (.ref m) (S1 ++ l)) = .ok (.lv ds) S1 := by
  have hlt : m < (S1 ++ l).length := (List.getElem?_eq_some_iff.mp hm).1
  have e : frz (S1 ++ l) S.length 6 (.ref m) = some (.lv ds) := by
    unfold frz
    have c : cloB S.length (.ref m) = false := by unfold cloB; simp; omega
    rw [if_neg (by rw [c]; decide)]
    simp only [hm]
    rw [mapO_same fun d hd => frz_clo (hc d hd)]
    rfl
  unfold scope
  dsimp only
  rw [if_neg (by rw [List.length_append] at hlt ⊢; omega), e]
  dsimp only
  have : (S1 ++ l).take S.length = S1 := by rw [← hl]; simp
  rw [this, hk]
  rfl
theorem scope_val (hl : S1.length = S.length) (hk : keepC S S1 = true) (hv : cloB S.length v = true) : scope keepC S (.ok v (S1 ++ l)) = .ok v S1 := by
  unfold scope
  dsimp only
  by_cases h0 : l = []
  · subst h0
    rw [List.append_nil, if_pos hl]
  · rw [if_neg (by rw [List.length_append, hl]; intro z; exact h0 (List.length_eq_zero_iff.mp (by omega))), frz_clo hv]
    dsimp only
    have : (S1 ++ l).take S.length = S1 := by rw [← hl]; simp
    rw [this, hk]
    rfl
open Classical in
theorem keep_of (h : ∀ (i : Nat) (m : M), S1[i]? = some m → S[i]? = some m ∨ cloM S1.length m = true) : keepC S S1 = true := by
  unfold keepC
  exact decide_eq_true h
end
/-! ### comprehensions whose turns write what stands around -/
section
variable {α : Type} {F : α → Sto} {n0 : Nat} {src : Src} {f : D → Sto → Res (Option D)} {xs : List D}
theorem loop_st (P : List D → α → List D → Prop) (hF : ∀ s, (F s).length = n0) (hw : ∀ S, Walks src xs S)
    (hs : ∀ d ys s acc, P (d :: ys) s acc → ∃ o s', f d (F s ++ [.lst acc]) = .ok o (F s' ++ [.lst acc]) ∧ P ys s' (acc ++ o.toList)) :
    ∀ (ys : List D) (i m : Nat) (s : α) (acc : List D), xs.drop i = ys → ys.length < m → acc.length + ys.length ≤ 100000 → P ys s acc →
      ∃ s' acc', loopC src f n0 m i (F s ++ [.lst acc]) = .ok (.ref n0) (F s' ++ [.lst acc']) ∧ P [] s' acc'
  | [], i, 0, s, acc, _, hm, _, _ => absurd hm (by simp)
  | [], i, m + 1, s, acc, hd, hm, _, hp => by
    have e : xs[i]? = none := by
      rw [List.getElem?_eq_none_iff]
      have := congrArg List.length hd
      simp at this
      omega
    exact ⟨s, acc, l_end (by rw [hw, e]), hp⟩
  | d :: ys, i, 0, s, acc, _, hm, _, _ => absurd hm (by simp)
  | d :: ys, i, m + 1, s, acc, hd, hm, hz, hp => by
    have e : xs[i]? = some d := by
      have := congrArg (fun l => l[0]?) hd
      simpa using this
    have hd2 : xs.drop (i + 1) = ys := by
      have := congrArg List.tail hd
      simpa using this
    obtain ⟨o, s1, h1, h2⟩ := hs d ys s acc hp
    cases o with
    | none =>
      obtain ⟨s', acc', h3, h4⟩ := loop_st P hF hw hs ys (i + 1) m s1 acc hd2 (by simp at hm; omega) (by simp at hz; omega) (by simpa using h2)
      exact ⟨s', acc', l_skip (by rw [hw, e]) h1 h3, h4⟩
    | some y =>
      obtain ⟨s', acc', h3, h4⟩ := loop_st P hF hw hs ys (i + 1) m s1 (acc ++ [y]) hd2 (by simp at hm; omega) (by simp at hz ⊢; omega) h2
      refine ⟨s', acc', ?_, h4⟩
      refine l_go (acc := acc) (by rw [hw, e]) h1 (by rw [← hF s1]; simp) (by rw [sizeLine_eq]; simp at hz; omega) ?_
      have es : (F s1 ++ [M.lst acc]).set n0 (M.lst (acc ++ [y])) = F s1 ++ [.lst (acc ++ [y])] := by rw [← hF s1]; simp
      rw [es]
      exact h3
end
section
variable {M : Mo} {N : List Str} {s0 : List (Str × NameKind)} {call : Str → List D → Sto → Res D} {lam : Str → Arguments → Expr → Scope → EvF} {act : Str → EvF}
variable {n : Nat} {sc scp : Scope} {σ : Sig} {tg it elt : Expr} {ifs : List Expr} {p : Pos} {α : Type} {F : α → Sto} {n0 : Nat} {src : Src} {xs : List D}
theorem q_lcS (P : List D → α → List D → Prop) {S : Sto} {s : α} (hF : ∀ s, (F s).length = n0) (hs : evSrc (ev (M.gam N s0 call lam act) n sc) (M.gam N s0 call lam act) sc tg it σ S = .ok src (F s)) (hb : (blkC N sc scp (ownOf N scp) && (!isSetE it && !decide ((L2.relS scp sc).names = s0))) = true) (ho : M.own.contains (p.line, p.col, p.endCol) = false)
    (hw : ∀ S, Walks src xs S) (hl : srcLen (F s) src = xs.length) (hz : xs.length ≤ 100000) (hk : ∀ s s', keepC (F s) (F s') = true)
    (hf : ∀ d ys s acc, P (d :: ys) s acc → ∃ o s', turnC (ev (M.gam N s0 call lam act) n) (tv (M.gam N s0 call lam act) n) N scp (L2.relS scp sc) tg elt ifs σ ((ownOf N scp).map (·.2)) d (F s ++ [.lst acc]) = .ok o (F s' ++ [.lst acc]) ∧ P ys s' (acc ++ o.toList))
    (h0 : P xs s []) (hc : ∀ s acc, P [] s acc → ∀ y ∈ acc, cloB n0 y = true) :
    ∃ s' acc, ev (M.gam N s0 call lam act) (n + 1) sc (.ListComp elt [⟨tg, it, ifs, 0⟩] scp p) σ S = .ok (.lv acc) (F s') ∧ P [] s' acc := by
  simp only [Bool.and_eq_true, Bool.not_eq_true', decide_eq_false_iff_not] at hb
  have ho : (M.gam N s0 call lam act).own p = false := ho
  obtain ⟨s', acc, h1, h2⟩ := loop_st (F := F) (n0 := n0) (src := src) (xs := xs) P hF hw hf xs 0 (xs.length + 1) s [] (by simp) (by omega) (by simpa using hz) h0
  refine ⟨s', acc, ?_, h2⟩
  have e0 : (blkC (M.gam N s0 call lam act).N sc scp (ownOf (M.gam N s0 call lam act).N scp) = true ∧ isSetE it = false) ∧ (L2.relS scp sc).names ≠ (M.gam N s0 call lam act).sc0 := ⟨⟨hb.1, hb.2.1⟩, hb.2.2⟩
  unfold ev lcomp
  simp only [if_pos e0, hs, Res.bind, ho, hl]
  show scope keepC (F s) (loopC src (turnC (ev (M.gam N s0 call lam act) n) (tv (M.gam N s0 call lam act) n) N scp (L2.relS scp sc) tg elt ifs σ ((ownOf N scp).map (·.2))) (F s).length (xs.length + 1) 0 (F s ++ [.lst []])).nx = _
  rw [hF s, h1]
  simp only [Res.nx]
  rw [← hF s']
  refine scope_ref (by rw [hF, hF]) (hk _ _) (by simp) (by rw [hF, hF]; exact Nat.le_refl _) fun d hd => ?_
  rw [hF]
  exact hc s' acc h2 d hd
theorem turn_oneS {f : Scope → Expr → EvF} {t : Scope → Expr → TvF} {inner : Scope} {vs : List Nat} {l : List (Nat × D)} {d y : D} {S S1 : Sto} (ha : asgE N scp tg d = some l) (hi : allIn l vs = true) (h : f inner elt (sets (wipeD σ vs) l) S = .ok y S1) : turnC f t N scp inner tg elt [] σ vs d S = .ok (some y) S1 := turn_one ha hi h
end
/-! ### data that may be laid out and compared -/
def OkD (d : D) : Prop := ∀ S, ∃ p, py S 60 d = some p ∧ p.canLay0 = true ∧ p.depth ≤ 50
theorem py_more {S : Sto} : ∀ (k : Nat) {d : D} {p : PyData}, py S k d = some p → py S (k + 1) d = some p := by
  intro k
  induction k with
  | zero => intro d p h; cases h
  | succ k ih =>
    intro d p h
    have hl : ∀ {ds : List D} {ps : List PyData}, pyL (py S k) ds = some ps → pyL (py S (k + 1)) ds = some ps := by
      intro ds
      induction ds with
      | nil => intro ps h; exact h
      | cons d ds ih2 =>
        intro ps h
        unfold pyL at h ⊢
        split at h
        · rename_i p1 ps1 e1 e2
          cases h
          rw [ih e1, ih2 e2]
        · cases h
    have hm : ∀ {ds : List D} {c : List PyData → PyData}, (pyL (py S k) ds).map c = some p → (pyL (py S (k + 1)) ds).map c = some p := fun {ds c} h => by
      cases z : pyL (py S k) ds with
      | none => rw [z] at h; cases h
      | some ps => rw [z] at h; rw [hl z]; exact h
    unfold py at h
    unfold py
    cases d with
    | ref n =>
      dsimp only at h ⊢
      cases z : lstOf S n with
      | none => rw [z] at h; cases h
      | some ds => rw [z] at h; exact hm h
    | tup ds => exact hm h
    | lv ds => exact hm h
    | kt ks => exact hm h
    | _ => exact h
theorem shapeB_all {S : Sto} : ∀ {ds : List D}, (∀ d ∈ ds, OkD d) → shapeB S ds := by
  intro ds h
  have key : ∀ {ds : List D}, (∀ d ∈ ds, OkD d) → ∃ ps, pyL (py S 65) ds = some ps ∧ PyData.canLayAll0 ps = true ∧ PyData.depthAll ps ≤ 51 := by
    intro ds
    induction ds with
    | nil => intro _; exact ⟨[], rfl, rfl, by decide⟩
    | cons d ds ih =>
      intro h
      obtain ⟨ps, h1, h2, h3⟩ := ih fun e he => h e (List.mem_cons_of_mem _ he)
      obtain ⟨p, g1, g2, g3⟩ := h d List.mem_cons_self S
      refine ⟨p :: ps, ?_, ?_, ?_⟩
      · unfold pyL
        rw [py_more 64 (py_more 63 (py_more 62 (py_more 61 (py_more 60 g1)))), h1]
      · show (p.canLay0 && PyData.canLayAll0 ps) = true
        rw [g2, h2]; rfl
      · show max p.depth (PyData.depthAll ps) ≤ 51
        omega
  obtain ⟨ps, h1, h2, h3⟩ := key h
  refine ⟨ps, h1, ?_⟩
  show (PyData.canLayAll0 ps && decide (PyData.depthAll ps + 1 ≤ 64)) = true
  rw [h2, Bool.true_and]
  exact decide_eq_true (by omega)
theorem okD_int {i : Int} : OkD (.int i) := fun S => ⟨.int i, by unfold py; rfl, rfl, Nat.zero_le _⟩
theorem okD_ints {ns : List Int} : OkD (.tup (ns.map .int)) := fun S => ⟨.tuple (ns.map .int), by
    unfold py
    show (pyL (py S 59) (ns.map D.int)).map PyData.tuple = _
    rw [pyL_ints (fun i => py_int)]
    rfl, lay_ints ns, by
    have := depth_ints ns
    show PyData.depthAll (ns.map PyData.int) + 1 ≤ 50
    omega⟩
end Dp
end
section
set_option Elab.async false
set_option linter.all false
set_option maxRecDepth 100000
set_option maxHeartbeats 4000000
namespace Dp
open PySem PySem.Spec PyProof.Rows L2 LamX
section
variable {M : Mo} {N : List Str} {s0 : List (Str × NameKind)} {call : Str → List D → Sto → Res D} {lam : Str → Arguments → Expr → Scope → EvF} {act : Str → EvF}
variable {n : Nat} {sc scp : Scope} {σ : Sig} {S S1 S2 : Sto} {p : Pos} {d x y : D} {tg it elt : Expr} {ifs : List Expr}
/-- a comprehension that makes a list to be written -/
theorem q_lcO {s : Src} {o : D → Option D} {xs : List D} (hs : evSrc (ev (M.gam N s0 call lam act) n sc) (M.gam N s0 call lam act) sc tg it σ S = .ok s S) (hb : (blkC N sc scp (ownOf N scp) && (!isSetE it && !decide ((L2.relS scp sc).names = s0))) = true) (ho : M.own.contains (p.line, p.col, p.endCol) = true)
    (hw : ∀ acc, Walks s xs (S ++ [.lst acc])) (hl : srcLen S s = xs.length) (hz : xs.length ≤ 1000000) (hf : ∀ d ∈ xs, ∀ S', turnC (ev (M.gam N s0 call lam act) n) (tv (M.gam N s0 call lam act) n) N scp (L2.relS scp sc) tg elt ifs σ ((ownOf N scp).map (·.2)) d S' = .ok (o d) S') :
    ev (M.gam N s0 call lam act) (n + 1) sc (.ListComp elt [⟨tg, it, ifs, 0⟩] scp p) σ S = .ok (.ref S.length) (S ++ [.lst (xs.filterMap o)]) := by
  simp only [Bool.and_eq_true, Bool.not_eq_true', decide_eq_false_iff_not] at hb
  have ho : (M.gam N s0 call lam act).own p = true := ho
  have key := loop_pure (S := S) (s := s) (o := o) (f := turnC (ev (M.gam N s0 call lam act) n) (tv (M.gam N s0 call lam act) n) N scp (L2.relS scp sc) tg elt ifs σ ((ownOf N scp).map (·.2))) (xs := xs) (fun acc => hw acc) (fun d hd acc => hf d hd _) xs 0 (xs.length + 1) [] (by simp) (by omega) (by simpa using hz)
  have e0 : (blkC (M.gam N s0 call lam act).N sc scp (ownOf (M.gam N s0 call lam act).N scp) = true ∧ isSetE it = false) ∧ (L2.relS scp sc).names ≠ (M.gam N s0 call lam act).sc0 := ⟨⟨hb.1, hb.2.1⟩, hb.2.2⟩
  unfold ev lcomp
  simp only [if_pos e0, hs, Res.bind, ho, hl]
  show (loopC s (turnC (ev (M.gam N s0 call lam act) n) (tv (M.gam N s0 call lam act) n) N scp (L2.relS scp sc) tg elt ifs σ ((ownOf N scp).map (·.2))) S.length (xs.length + 1) 0 (S ++ [.lst []])).nx = _
  rw [key]
  simp only [Res.nx, List.nil_append]
/-- a display of a dict that is to be written -/
theorem q_dO {ks : List (Option Expr)} {vs : List Expr} {kvs : List (Key × D)} (hc : (!ks.isEmpty && (decide (ks.length = vs.length) && (decide (ks.length ≤ 15) && ks.all (·.isSome)))) = true) (ho : M.own.contains (p.line, p.col, p.endCol) = true) (h : ∀ S, evPairs (ev (M.gam N s0 call lam act) n sc) ks vs σ S = .ok kvs S) (hl : kvs.length ≤ 15) :
    ev (M.gam N s0 call lam act) (n + 1) sc (.Dict ks vs p) σ S = .ok (.ref S.length) (S ++ [.dk (mergeD [] kvs)]) := by
  simp only [Bool.and_eq_true, Bool.not_eq_true', decide_eq_true_eq] at hc
  obtain ⟨c1, c2, c3, c4⟩ := hc
  have ho : (M.gam N s0 call lam act).own p = true := ho
  cases ks with
  | nil => cases c1
  | cons k0 ks =>
    have e1 : ev (M.gam N s0 call lam act) (n + 1) sc (.Dict (k0 :: ks) vs p) σ S = (evPairs (ev (M.gam N s0 call lam act) n sc) (k0 :: ks) vs σ (S ++ [.dk []])).bind fun kvs S1 => match S1[S.length]? with
        | some (.dk []) => if kvs.length ≤ 15 then (if (M.gam N s0 call lam act).own p = true then .ok (.ref S.length) (S1.set S.length (.dk (mergeD [] kvs))) else scope (M.gam N s0 call lam act).kp S (.ok (.ref S.length) (S1.set S.length (.dk (mergeD [] kvs))))) else .no
        | _ => .no := by
      unfold ev
      simp only [if_pos (show (k0 :: ks).length = vs.length ∧ (k0 :: ks).length ≤ 15 ∧ (k0 :: ks).all (·.isSome) = true from ⟨c2, c3, c4⟩)]
      try rfl
    rw [e1, h]
    simp only [Res.bind, List.getElem?_concat_length, if_pos hl, ho, if_true]
    simp
end
/-- displays of a tuple, a list -/
theorem srcD_lv {S : Sto} {ds : List D} : srcD S (.lv ds) = some (.lv ds) := rfl
theorem cat_lv {xs ys : List D} {S : Sto} {o : Bool} (ho : o = false) (h : xs.length + ys.length ≤ 100000) : binD o .Add (.lv xs) (.lv ys) S = some (.lv (xs ++ ys), S) := by
  subst ho
  show (if xs.length + ys.length ≤ sizeLine then newL false (xs ++ ys) S else none) = _
  rw [if_pos (by rw [sizeLine_eq]; omega)]; rfl
theorem cat_tup {xs ys : List D} {S : Sto} {o : Bool} (h : xs.length + ys.length ≤ 100000) : binD o .Add (.tup xs) (.tup ys) S = some (.tup (xs ++ ys), S) := by
  show (if xs.length + ys.length ≤ sizeLine then some (D.tup (xs ++ ys), S) else none) = _
  rw [if_pos (by rw [sizeLine_eq]; omega)]
theorem okD_list {ds : List D} (h : ∀ d ∈ ds, OkD d) (S : Sto) : ∃ ps, pyL (py S 65) ds = some ps ∧ PyData.canLayAll0 ps = true ∧ PyData.depthAll ps ≤ 51 := by
  induction ds with
  | nil => exact ⟨[], rfl, rfl, by decide⟩
  | cons d ds ih =>
    obtain ⟨ps, h1, h2, h3⟩ := ih fun e he => h e (List.mem_cons_of_mem _ he)
    obtain ⟨p, g1, g2, g3⟩ := h d List.mem_cons_self S
    refine ⟨p :: ps, ?_, ?_, ?_⟩
    · unfold pyL
      rw [py_more 64 (py_more 63 (py_more 62 (py_more 61 (py_more 60 g1)))), h1]
    · show (p.canLay0 && PyData.canLayAll0 ps) = true
      rw [g2, h2]; rfl
    · show max p.depth (PyData.depthAll ps) ≤ 51
      omega
theorem eq_nil_tup {ds : List D} (h : ∀ d ∈ ds, OkD d) {S : Sto} : eqD (.tup ds) (.tup []) S = some ds.isEmpty := by
  obtain ⟨ps, h1, h2, h3⟩ := okD_list h S
  have e1 : py S 66 (.tup ds) = some (.tuple ps) := by
    unfold py
    show (pyL (py S 65) ds).map PyData.tuple = _
    rw [h1]; rfl
  have e2 : py S 66 (.tup []) = some (.tuple []) := by unfold py; rfl
  have s1 : SeqAt.shaped (.tuple ps) = true := by
    show (PyData.canLayAll0 ps && decide (PyData.depthAll ps + 1 ≤ 64)) = true
    rw [h2, Bool.true_and]
    exact decide_eq_true (by omega)
  unfold eqD
  rw [e1, e2]
  dsimp only
  rw [if_pos ⟨s1, by decide⟩]
  have := len_pyL h1
  cases ds <;> cases ps <;> first | rfl | (simp at this)
theorem ne_nil_tup {ds : List D} (h : ∀ d ∈ ds, OkD d) {S : Sto} : cmpD .NotEq (.tup ds) (.tup []) S = some (!ds.isEmpty) := by
  show (eqD (.tup ds) (.tup []) S).map not = _
  rw [eq_nil_tup h]; rfl
theorem sl_to {ds : List D} {m : Nat} {o : Bool} {S : Sto} : slD o (.tup ds) none (some (m : Int)) S = some (.tup (ds.take m), S) := by
  show some (D.tup (Dp.cutD ds none (some (m : Int))), S) = _
  rw [cut_to]
theorem sl_from {ds : List D} {m : Nat} {o : Bool} {S : Sto} : slD o (.tup ds) (some (m : Int)) none S = some (.tup (ds.drop m), S) := by
  show some (D.tup (Dp.cutD ds (some (m : Int)) none), S) = _
  rw [cut_from]
theorem sl_from1 {ds : List D} {m : Nat} {o : Bool} {S : Sto} : slD o (.tup ds) (some ((m : Int) + 1)) none S = some (.tup (ds.drop (m + 1)), S) := sl_from (m := m + 1)
theorem sl_last {ds : List D} {o : Bool} {S : Sto} (h : 0 < ds.length) : slD o (.tup ds) (some (-1)) none S = some (.tup (ds.drop (ds.length - 1)), S) := by
  show some (D.tup (Dp.cutD ds (some (-1)) none), S) = _
  rw [cut_last h]
theorem lsW_ref {S : Sto} {n : Nat} {xs : List D} (h : S[n]? = some (.lst xs)) : lsW S (.ref n) = some xs := by
  unfold lsW; dsimp only; rw [h]
theorem cat_ref {S : Sto} {n : Nat} {xs ys : List D} {o : Bool} (h : S[n]? = some (.lst xs)) (hz : xs.length + ys.length ≤ 100000) : binD o .Add (.ref n) (.lv ys) S = newL o (xs ++ ys) S := by
  show (match lsW S (.ref n), lsW S (.lv ys) with
    | some xs, some ys => if xs.length + ys.length ≤ sizeLine then newL o (xs ++ ys) S else none
    | _, _ => none) = _
  rw [lsW_ref h]
  show (if xs.length + ys.length ≤ sizeLine then newL o (xs ++ ys) S else none) = _
  rw [if_pos (by rw [sizeLine_eq]; omega)]
theorem cat_refO {S : Sto} {n : Nat} {xs ys : List D} {o : Bool} (h : S[n]? = some (.lst xs)) (hz : xs.length + ys.length ≤ 100000) (ho : o = true) : binD o .Add (.ref n) (.lv ys) S = some (.ref S.length, S ++ [.lst (xs ++ ys)]) := by
  subst ho
  rw [cat_ref h hz]; rfl
theorem walks_ref {S : Sto} {n : Nat} {xs : List D} (h : S[n]? = some (.lst xs)) : Walks (.lst n) xs S := fun i => by
  show (lstOf S n).map (fun ds => ds[i]?) = _
  rw [lst_of h]; rfl
theorem walks_ref' {S : Sto} {n : Nat} {xs : List D} {m : M} (h : S[n]? = some (.lst xs)) : Walks (.lst n) xs (S ++ [m]) := walks_ref (by
  have := (List.getElem?_eq_some_iff.mp h).1
  rw [List.getElem?_append_left this]; exact h)
theorem src_ref {S : Sto} {n : Nat} {xs : List D} (h : S[n]? = some (.lst xs)) : srcD S (.ref n) = some (.lst n) := by
  show (lstOf S n).map (fun _ => Src.lst n) = _
  rw [lst_of h]; rfl
theorem ne_str {t : Str} {S : Sto} (h : PyData.strOk t = true) : cmpD .NotEq (.str t) (.str t) S = some false := by
  show (eqD (.str t) (.str t) S).map not = _
  have e : py S 66 (.str t) = some (.str t) := by unfold py; rfl
  have h1 : SeqAt.shaped (.str t) = true := by
    show (PyData.canLay0 (.str t) && _) = true
    unfold PyData.canLay0
    rw [h]; rfl
  unfold eqD
  rw [e]
  dsimp only
  rw [if_pos ⟨h1, h1⟩]
  show some (!(t == t)) = _
  simp
end Dp
end
section
set_option Elab.async false
set_option linter.all false
set_option maxRecDepth 100000
set_option maxHeartbeats 4000000
namespace Dp
open PySem PySem.Spec PyProof.Rows L2 LamX
/-! ### dicts of pairs of ints -/
abbrev QD := List ((Int × Int) × Int)
def kq (q : Int × Int) : List Key := [.inl q.1, .inl q.2]
def eQ (e : (Int × Int) × Int) : List Key × D := (kq e.1, .int e.2)
def dQ (l : QD) : List (List Key × D) := l.map eQ
theorem kq_inj {q r : Int × Int} (h : kq q = kq r) : q = r := by
  unfold kq at h
  simp only [List.cons.injEq, Sum.inl.injEq, and_true] at h
  exact Prod.ext h.1 h.2
theorem kq_iff {q r : Int × Int} : kq q = kq r ↔ q = r := ⟨kq_inj, fun h => by rw [h]⟩
def valQ (l : QD) (q : Int × Int) : Option Int := (l.find? fun e => decide (e.1 = q)).map (·.2)
def putQ (l : QD) (q : Int × Int) (c : Int) : QD := if (l.any fun e => decide (e.1 = q)) = true then l.map (fun e => if e.1 = q then (e.1, c) else e) else l ++ [(q, c)]
def coef (l : QD) (q : Int × Int) : Int := (valQ l q).getD 0
theorem valD_Q (q : Int × Int) : ∀ l : QD, valD (dQ l) (kq q) = (valQ l q).map .int
  | [] => rfl
  | e :: l => by
    have ih := valD_Q q l
    unfold valD valQ dQ at *
    rw [List.map_cons, List.find?_cons, List.find?_cons]
    by_cases h : e.1 = q
    · have h2 : (eQ e).1 = kq q := congrArg kq h
      simp only [h, h2, decide_true, Option.map_some]
      rfl
    · have h2 : ¬ (eQ e).1 = kq q := fun z => h (kq_inj z)
      simp only [h, h2, decide_false]
      exact ih
theorem any_Q (q : Int × Int) (l : QD) : ((dQ l).any fun p => decide (p.1 = kq q)) = l.any fun e => decide (e.1 = q) := by
  unfold dQ
  rw [List.any_map]
  congr 1
  funext e
  show decide (kq e.1 = kq q) = decide (e.1 = q)
  by_cases h : e.1 = q
  · rw [decide_eq_true h, decide_eq_true (congrArg kq h)]
  · rw [decide_eq_false h, decide_eq_false fun z => h (kq_inj z)]
theorem putD_Q (q : Int × Int) (c : Int) (l : QD) : putD (dQ l) (kq q) (.int c) = dQ (putQ l q c) := by
  unfold putD putQ
  rw [any_Q]
  split
  · unfold dQ
    rw [List.map_map, List.map_map]
    refine List.map_congr_left fun e _ => ?_
    show (if kq e.1 = kq q then (kq e.1, D.int c) else eQ e) = eQ (if e.1 = q then (e.1, c) else e)
    by_cases h : e.1 = q
    · rw [if_pos h, if_pos (congrArg kq h)]; rfl
    · rw [if_neg h, if_neg fun z => h (kq_inj z)]
  · unfold dQ
    rw [List.map_append]; rfl
theorem valQ_put (l : QD) (q r : Int × Int) (c : Int) : valQ (putQ l q c) r = if r = q then some c else valQ l r := by
  unfold putQ
  split
  · rename_i h
    induction l with
    | nil => cases h
    | cons e l ih =>
      unfold valQ at *
      rw [List.map_cons, List.find?_cons, List.find?_cons]
      by_cases he : e.1 = q
      · simp only [if_pos he]
        by_cases hr : r = q
        · subst hr
          simp [he]
        · have h1 : ¬ e.1 = r := fun z => hr (by rw [← z, he])
          simp only [h1, decide_false, if_neg hr]
          clear ih h
          induction l with
          | nil => rfl
          | cons f l ih2 =>
            rw [List.map_cons, List.find?_cons, List.find?_cons]
            by_cases hf : f.1 = q
            · have h2 : ¬ f.1 = r := fun z => hr (by rw [← z, hf])
              simp only [if_pos hf, h2, decide_false]
              exact ih2
            · simp only [if_neg hf]
              by_cases h2 : f.1 = r
              · simp only [h2, decide_true]
              · simp only [h2, decide_false]
                exact ih2
      · simp only [if_neg he]
        have h' : (l.any fun e => decide (e.1 = q)) = true := by
          rw [List.any_cons, decide_eq_false he, Bool.false_or] at h
          exact h
        by_cases h2 : e.1 = r
        · have hr : ¬ r = q := fun z => he (by rw [h2, z])
          simp only [h2, decide_true, if_neg hr]
        · simp only [h2, decide_false]
          exact ih h'
  · rename_i h
    unfold valQ
    rw [List.find?_append]
    have hn : ∀ e ∈ l, ¬ e.1 = q := fun e he z => h (List.any_eq_true.mpr ⟨e, he, decide_eq_true z⟩)
    by_cases hr : r = q
    · subst hr
      have e1 : (l.find? fun e => decide (e.1 = r)) = none := List.find?_eq_none.mpr fun e he => by simp [hn e he]
      rw [e1]
      simp
    · rw [if_neg hr]
      have e2 : ([(q, c)].find? fun e => decide (e.1 = r)) = none := List.find?_eq_none.mpr fun e he => by
        rw [List.mem_singleton.mp he]
        simp [Ne.symm hr]
      rw [e2]
      cases (l.find? fun e => decide (e.1 = r)) <;> rfl
theorem coef_put (l : QD) (q r : Int × Int) (c : Int) : coef (putQ l q c) r = if r = q then c else coef l r := by
  unfold coef
  rw [valQ_put]
  split <;> rfl
theorem putQ_keys (l : QD) (q : Int × Int) (c : Int) : (putQ l q c).map (·.1) = if (l.any fun e => decide (e.1 = q)) = true then l.map (·.1) else l.map (·.1) ++ [q] := by
  unfold putQ
  split
  · rw [List.map_map]
    refine List.map_congr_left fun e _ => ?_
    show (if e.1 = q then (e.1, c) else e).1 = e.1
    split <;> rfl
  · rw [List.map_append]; rfl
theorem putQ_nodup {l : QD} (h : (l.map (·.1)).Nodup) (q : Int × Int) (c : Int) : ((putQ l q c).map (·.1)).Nodup := by
  rw [putQ_keys]
  split
  · exact h
  · rename_i hn
    rw [List.nodup_append]
    refine ⟨h, List.pairwise_singleton _ _, fun a ha b hb => ?_⟩
    rw [List.mem_singleton.mp hb]
    obtain ⟨e, he, rfl⟩ := List.mem_map.mp ha
    exact fun z => hn (List.any_eq_true.mpr ⟨e, he, decide_eq_true z⟩)
theorem putQ_len (l : QD) (q : Int × Int) (c : Int) : (putQ l q c).length ≤ l.length + 1 := by
  unfold putQ
  split
  · rw [List.length_map]; omega
  · rw [List.length_append]; simp
theorem putQ_key_in {l : QD} {q : Int × Int} {c : Int} {r : Int × Int} (h : r ∈ (putQ l q c).map (·.1)) : r ∈ l.map (·.1) ∨ r = q := by
  rw [putQ_keys] at h
  split at h
  · exact .inl h
  · rcases List.mem_append.mp h with h | h
    · exact .inl h
    · exact .inr (List.mem_singleton.mp h)
theorem valQ_mem {l : QD} (h : (l.map (·.1)).Nodup) {q : Int × Int} {c : Int} : valQ l q = some c ↔ (q, c) ∈ l := by
  induction l with
  | nil => exact Iff.intro (fun h => nomatch h) (fun h => nomatch h)
  | cons e l ih =>
    rw [List.map_cons, List.nodup_cons] at h
    unfold valQ at *
    rw [List.find?_cons]
    by_cases he : e.1 = q
    · simp only [he, decide_true, Option.map_some, Option.some.injEq]
      constructor
      · intro hc
        refine List.mem_cons.mpr (.inl ?_)
        exact (Prod.ext he hc).symm
      · intro hm
        rcases List.mem_cons.mp hm with z | z
        · rw [← z]
        · exact absurd (List.mem_map_of_mem (f := (·.1)) z) (by rw [← he] at *; exact h.1)
    · simp only [he, decide_false]
      rw [ih h.2]
      constructor
      · exact fun z => List.mem_cons_of_mem _ z
      · intro hm
        rcases List.mem_cons.mp hm with z | z
        · exact absurd (by rw [← z]) he
        · exact z
theorem valQ_none {l : QD} {q : Int × Int} (h : q ∉ l.map (·.1)) : valQ l q = none := by
  unfold valQ
  rw [List.find?_eq_none.mpr fun e he => by
    have : ¬ e.1 = q := fun z => h (by rw [← z]; exact List.mem_map_of_mem he)
    simp [this]]
  rfl
/-! ### the store's dict -/
theorem dt_get {S : Sto} {m : Nat} {l : QD} (h : S[m]? = some (.dt (dQ l))) (q : Int × Int) : dgetA S (.ref m) (.kt (kq q)) = some ((valQ l q).map .int) := by
  unfold dgetA dkOf dtOf
  simp only [h]
  show some (valD (dQ l) (kq q)) = _
  rw [valD_Q]
theorem ft_get {S : Sto} {m : Nat} {l : QD} (h : S[m]? = some (.ft (dQ l))) (q : Int × Int) : dgetA S (.ref m) (.kt (kq q)) = some ((valQ l q).map .int) := by
  unfold dgetA dkOf dtOf
  simp only [h]
  show some (valD (dQ l) (kq q)) = _
  rw [valD_Q]
def dwQ (l : QD) : D := .dw ((dQ l).map (·.1)) ((dQ l).map (·.2))
theorem zip_Q (l : QD) : ((dQ l).map (·.1)).zip ((dQ l).map (·.2)) = dQ l := by
  generalize dQ l = m
  induction m with
  | nil => rfl
  | cons a m ih => simp [ih]
theorem dw_get {S : Sto} {l : QD} (q : Int × Int) : dgetA S (dwQ l) (.kt (kq q)) = some ((valQ l q).map .int) := by
  show some (valD (((dQ l).map (·.1)).zip ((dQ l).map (·.2))) (kq q)) = _
  rw [zip_Q, valD_Q]
theorem get2_dt {S : Sto} {m : Nat} {l : QD} (h : S[m]? = some (.dt (dQ l))) (q : Int × Int) : get2 (.ref m) (.kt (kq q)) (.int 0) S = some (.int (coef l q), S) := by
  unfold get2
  rw [dt_get h]
  unfold coef
  cases valQ l q <;> rfl
theorem isDD_dt {S : Sto} {m : Nat} {kvs : List (List Key × D)} (h : S[m]? = some (.dt kvs)) : isDD S (.ref m) = true := by
  unfold isDD dkOf dtOf
  simp only [h]
  rfl
theorem ix_dt {S : Sto} {m : Nat} {l : QD} (h : S[m]? = some (.dt (dQ l))) {q : Int × Int} {c : Int} (hc : valQ l q = some c) : ixA (.ref m) (.kt (kq q)) S = some (.int c, S) := by
  have hs : isSeqD S (.ref m) = false := by
    show (lstOf S m).isSome = false
    unfold lstOf; rw [h]; rfl
  unfold ixA
  rw [if_neg (by rw [hs]; decide), dt_get h, hc]; rfl
theorem ix_ft {S : Sto} {m : Nat} {l : QD} (h : S[m]? = some (.ft (dQ l))) {q : Int × Int} {c : Int} (hc : valQ l q = some c) : ixA (.ref m) (.kt (kq q)) S = some (.int c, S) := by
  have hs : isSeqD S (.ref m) = false := by
    show (lstOf S m).isSome = false
    unfold lstOf; rw [h]; rfl
  unfold ixA
  rw [if_neg (by rw [hs]; decide), ft_get h, hc]; rfl
theorem ix_dw {S : Sto} {l : QD} {q : Int × Int} {c : Int} (hc : valQ l q = some c) : ixA (dwQ l) (.kt (kq q)) S = some (.int c, S) := by
  unfold ixA
  rw [if_neg (show ¬ isSeqD S (dwQ l) = true from fun z => by cases z), dw_get, hc]; rfl
theorem set_dt {S : Sto} {m : Nat} {l : QD} (h : S[m]? = some (.dt (dQ l))) (hz : l.length < 16777216) (q : Int × Int) (c : Int) : setD S m (.kt (kq q)) (.int c) = some (S.set m (.dt (dQ (putQ l q c)))) := by
  unfold setD dsetD
  simp only [h]
  show (if (dQ l).length < sizeLine then some (S.set m (.dt (putD (dQ l) (kq q) (.int c)))) else none) = _
  rw [if_pos (by rw [sizeLine_eq]; unfold dQ; rw [List.length_map]; exact hz), putD_Q]
theorem isDD_dw {S : Sto} {l : QD} : isDD S (dwQ l) = true := rfl
/-! ### sorted by an order told by another -/
theorem insG_map {α β : Type} {lt : β → β → Bool} (f : α → β) (a : α) : ∀ l : List α, insG lt (f a) (l.map f) = (insG (fun x y => lt (f x) (f y)) a l).map f
  | [] => rfl
  | b :: l => by
    show (if lt (f a) (f b) = true then f a :: f b :: l.map f else f b :: insG lt (f a) (l.map f)) = (if lt (f a) (f b) = true then a :: b :: l else b :: insG (fun x y => lt (f x) (f y)) a l).map f
    split
    · rfl
    · rw [List.map_cons, insG_map f a l]
theorem sortG_map {α β : Type} {lt : β → β → Bool} (f : α → β) : ∀ l : List α, sortG lt (l.map f) = (sortG (fun x y => lt (f x) (f y)) l).map f
  | [] => rfl
  | a :: l => by
    show insG lt (f a) (sortG lt (l.map f)) = _
    rw [sortG_map f l, insG_map]
    rfl
theorem swo_on {α β : Type} {lt : β → β → Bool} (O : SrtO.Swo lt) (f : α → β) : SrtO.Swo fun x y => lt (f x) (f y) := ⟨fun x y h => O.asym _ _ h, fun x y z h1 h2 => O.tr _ _ _ h1 h2⟩
/-- the pairs of a dict, sorted -/
def srtQ (l : QD) : QD := sortG (fun x y => ltI (eQ x) (eQ y)) l
def ltQ2 (q r : Int × Int) : Prop := q.1 < r.1 ∨ (q.1 = r.1 ∧ q.2 < r.2)
theorem srtQ_items (l : QD) : (sortG ltI (dQ l)).map itD = (srtQ l).map fun e => D.tup [.kt (kq e.1), .int e.2] := by
  show (sortG ltI (l.map eQ)).map itD = _
  rw [sortG_map, List.map_map]
  rfl
theorem all_itB (l : QD) : (dQ l).all itB = true := List.all_eq_true.mpr fun p hp => by
  obtain ⟨e, _, rfl⟩ := List.mem_map.mp hp
  rfl
theorem srtQ_perm (l : QD) : (srtQ l).Perm l := sortG_perm l
theorem asc_of {R : QD} (hs : R.Pairwise fun x y => ltI (eQ y) (eQ x) = false) (hn : (R.map (·.1)).Nodup) : (R.map (·.1)).Pairwise ltQ2 := by
  rw [List.pairwise_map]
  have hn : R.Pairwise fun a b => a.1 ≠ b.1 := by
    unfold List.Nodup at hn
    rw [List.pairwise_map] at hn
    exact hn
  refine List.Pairwise.imp₂ (fun a b h1 h2 => ?_) hs hn
  have := lex3_no.mp h1
  have hne : ¬ (a.1.1 = b.1.1 ∧ a.1.2 = b.1.2) := fun e => h2 (Prod.ext e.1 e.2)
  simp only [eQ, kq, itI] at this
  unfold ltQ2
  omega
theorem srtQ_asc {l : QD} (h : (l.map (·.1)).Nodup) : ((srtQ l).map (·.1)).Pairwise ltQ2 :=
  asc_of (sortG_srt (swo_on ltI_swo eQ) l) (((srtQ_perm l).map (·.1)).nodup_iff.mpr h)
/-- the keys, sorted -/
def srtK (ks : List (Int × Int)) : List (Int × Int) := sortG (fun x y => ltK (kq x) (kq y)) ks
theorem srtK_perm (l : List (Int × Int)) : (srtK l).Perm l := sortG_perm l
theorem srtK_asc {l : List (Int × Int)} (h : l.Nodup) : (srtK l).Pairwise ltQ2 := by
  have hs : (srtK l).Pairwise fun x y => ltK (kq y) (kq x) = false := sortG_srt (swo_on ltK_swo kq) l
  have hn : (srtK l).Nodup := (srtK_perm l).nodup_iff.mpr h
  refine List.Pairwise.imp₂ (fun a b h1 h2 => ?_) hs hn
  have := SrtO.lexB_no.mp h1
  have hne : ¬ (a.1 = b.1 ∧ a.2 = b.2) := fun e => h2 (Prod.ext e.1 e.2)
  simp only [kq, kI] at this
  unfold ltQ2
  omega
theorem srtK_keys (l : QD) : (sortG ltK ((dQ l).map (·.1))).map D.kt = (srtK (l.map (·.1))).map fun q => .kt (kq q) := by
  have e : (dQ l).map (·.1) = (l.map (·.1)).map kq := by
    unfold dQ
    rw [List.map_map, List.map_map]; rfl
  rw [e, sortG_map, List.map_map]
  rfl
theorem all_kB (l : QD) : ((dQ l).map (·.1)).all kB = true := List.all_eq_true.mpr fun p hp => by
  obtain ⟨p2, hp2, rfl⟩ := List.mem_map.mp hp
  obtain ⟨e, _, rfl⟩ := List.mem_map.mp hp2
  rfl
/-- two ascending rows of the same members are one -/
theorem asc_same : ∀ {A B : List (Int × Int × Int)}, (A.map fun t => (t.1, t.2.1)).Pairwise ltQ2 → (B.map fun t => (t.1, t.2.1)).Pairwise ltQ2 → (∀ t, t ∈ A ↔ t ∈ B) → A = B
  | [], [], _, _, _ => rfl
  | [], b :: B, _, _, h => nomatch (h b).mpr List.mem_cons_self
  | a :: A, [], _, _, h => nomatch (h a).mp List.mem_cons_self
  | a :: A, b :: B, hA, hB, h => by
    rw [List.map_cons, List.pairwise_cons] at hA hB
    have ab : a = b := by
      rcases List.mem_cons.mp ((h a).mp List.mem_cons_self) with e | e
      · exact e
      · rcases List.mem_cons.mp ((h b).mpr List.mem_cons_self) with e2 | e2
        · exact e2.symm
        · have h1 := hA.1 _ (List.mem_map_of_mem (f := fun t : Int × Int × Int => (t.1, t.2.1)) e2)
          have h2 := hB.1 _ (List.mem_map_of_mem (f := fun t : Int × Int × Int => (t.1, t.2.1)) e)
          unfold ltQ2 at h1 h2
          dsimp only at h1 h2
          omega
    subst ab
    rw [asc_same hA.2 hB.2 fun t => ?_]
    have key : ∀ {X : List (Int × Int × Int)}, (∀ q ∈ X.map (fun t => (t.1, t.2.1)), ltQ2 (a.1, a.2.1) q) → a ∉ X := fun {X} hX hm => by
      have := hX _ (List.mem_map_of_mem (f := fun t : Int × Int × Int => (t.1, t.2.1)) hm)
      unfold ltQ2 at this
      dsimp only at this
      omega
    constructor
    · intro ht
      rcases List.mem_cons.mp ((h t).mp (List.mem_cons_of_mem _ ht)) with e | e
      · subst e; exact absurd ht (key hA.1)
      · exact e
    · intro ht
      rcases List.mem_cons.mp ((h t).mpr (List.mem_cons_of_mem _ ht)) with e | e
      · subst e; exact absurd ht (key hB.1)
      · exact e
end Dp
namespace Dp
open PySem PySem.Spec PyProof.Rows L2 LamX
section
variable {M : Mo} {N : List Str} {s0 : List (Str × NameKind)} {call : Str → List D → Sto → Res D} {lam : Str → Arguments → Expr → Scope → EvF} {act : Str → EvF}
variable {n : Nat} {sc : Scope} {σ : Sig} {S S1 : Sto} {p q : Pos} {rr : Res D}
theorem t_chain {op op' : CmpOp} {a b c : Expr} {x y z : D} {S2 : Sto} {t t' : Bool} (hm : lastMarks [op, op'] [b, c] = false) (ha : ev (M.gam N s0 call lam act) n sc a σ S = .ok x S1) (hb : ev (M.gam N s0 call lam act) n sc b σ S1 = .ok y S2) (h : cmpD op x y S2 = some t) (hc : t = true → ev (M.gam N s0 call lam act) n sc c σ S2 = .ok z S2) (h2 : t = true → cmpD op' y z S2 = some t') :
    tv (M.gam N s0 call lam act) (n + 1) sc (.Compare a [op, op'] [b, c] p) σ S = .ok (t && t') S2 := by
  unfold tv
  cases t with
  | false => simp only [hm, ha, hb, Res.bind, h]; rfl
  | true => simp only [hm, ha, hb, Res.bind, h, hc rfl, h2 rfl, oT]; rfl
/-- x += e -/
theorem s_aug {f : Str} {i : Nat} {op : Operator} {g : Int → Int → Int} {e : Expr} {ss : List Stmt} {r : SR} {a b : Int} (h : ev (M.gam N s0 call lam act) n sc e σ S = .ok (.int b) S1) (hg : augI op = some g) (hi : σ[i]? = some (some (.int a))) (hl : locB sc f = true) (hs : slot N sc f = some i) (h2 : exs (ex (M.gam N s0 call lam act) (n + 1) sc) ss (σ.set i (some (.int (g a b)))) S1 = r) : exs (ex (M.gam N s0 call lam act) (n + 1) sc) (.AugAssign (.Name f p) op e q :: ss) σ S = r := by
  have hs : slot (M.gam N s0 call lam act).N sc f = some i := hs
  refine s_cut (σ1 := σ.set i (some (.int (g a b)))) (S1 := S1) ?_ h2
  unfold ex
  simp only [hl, hs, if_true, augR, hg, hi, h, Res.st]
/-- a call of a local name that holds a def -/
theorem q_callV {f g : Str} {t : DD} {args : List Expr} {ds : List D} {i : Nat} (hl : evL (ev (M.gam N s0 call lam act) n sc) args σ S = .ok ds S1) (hs : slot N sc f = some i) (hi : σ[i]? = some (some (.con g))) (hf : M.find g = some t)
    (hc : (!glB sc f && (visB sc f && (plainN f && (!args.any isStar && (!isLam1 args && !args.isEmpty))))) = true) (hlen : ds.length = t.ps.length) (ho : M.own.contains (q.line, q.col, q.endCol) = false) (h : scope keepC S1 (call g ds S1) = rr) :
    ev (M.gam N s0 call lam act) (n + 1) sc (.Call (.Name f p) args [] q) σ S = rr := by
  simp only [Bool.and_eq_true, Bool.not_eq_true'] at hc
  obtain ⟨c0, c1, c2, c3, c4, c5⟩ := hc
  have g2 : (M.gam N s0 call lam act).pars g = some t.ps := by show (M.find g).map (·.ps) = _; rw [hf]; rfl
  have ho : (M.gam N s0 call lam act).own q = false := ho
  have hs : slot (M.gam N s0 call lam act).N sc f = some i := hs
  have h : (M.gam N s0 call lam act).callS false g ds S1 = rr := by unfold Gam.callS; rw [if_neg (by decide)]; exact h
  rw [ev_call c4]
  unfold callN
  rw [if_neg (by rw [c0]; simp), if_pos ⟨c1, c2, c3⟩]
  cases args with
  | nil => cases c5
  | cons a args => simp only [hs, hi, g2, hl, Res.bind, hlen, ho, h, if_true]
end
/-! ### the most of ints -/
theorem most_pair {i j : Int} {S : Sto} : fMaxA [.tup [.int i, .int j]] S = some (.int (max i j), S) := by
  show some (dR (PySem.W.maxD (.int i) ([j].map PyData.int)), S) = _
  rw [PySem.W.maxD_ints]; rfl
theorem most_ints {n : Int} {ns : List Int} {S : Sto} : fMaxA [.lv ((n :: ns).map .int)] S = some (.int (ns.foldl max n), S) := by
  have ha : alikeB ((n :: ns).map D.int) = true := by
    unfold alikeB
    rw [Bool.or_eq_true]
    exact .inl (List.all_eq_true.mpr fun d hd => by
      obtain ⟨i, _, rfl⟩ := List.mem_map.mp hd; rfl)
  have e : (ns.map D.int).map pR = ns.map PyData.int := by rw [List.map_map]; rfl
  show (if alikeB ((n :: ns).map D.int) = true then some (dR (PySem.W.maxD (pR (.int n)) ((ns.map D.int).map pR)), S) else none) = _
  rw [if_pos ha, e]
  show some (dR (PySem.W.maxD (.int n) (ns.map PyData.int)), S) = _
  rw [PySem.W.maxD_ints]; rfl
theorem most_gt {b : Int} : ∀ {ns : List Int} {n : Int}, decide (ns.foldl max n > b) = (n :: ns).any fun i => decide (i > b)
  | [], n => by simp
  | m :: ns, n => by
    rw [List.foldl_cons, most_gt (ns := ns), List.any_cons, List.any_cons, List.any_cons, ← Bool.or_assoc]
    congr 1
    by_cases h1 : n > b
    · by_cases h2 : m > b
      · rw [decide_eq_true h1, decide_eq_true h2, decide_eq_true (by omega)]; rfl
      · rw [decide_eq_true h1, decide_eq_false h2, decide_eq_true (by omega)]; rfl
    · by_cases h2 : m > b
      · rw [decide_eq_false h1, decide_eq_true h2, decide_eq_true (by omega)]; rfl
      · rw [decide_eq_false h1, decide_eq_false h2, decide_eq_false (by omega)]; rfl
end Dp
end
section
set_option Elab.async false
set_option linter.all false
set_option maxRecDepth 100000
set_option maxHeartbeats 0
namespace Law
open PySem PySem.Spec PyProof.Rows L2 Dp
def top (i : Nat) : Stmt := PySem.Challenge.pw_rowsfilled_k24_multiples_that_come_to_on.main.body.getD i (.Pass ⟨0, 0, 0, 0⟩)
def d_is_number : DD := ⟨"is_number", ["thing"], ["thing"], [], defArgs (top 6), defBody (top 6), defScope (top 6)⟩
def d_is_number_within : DD := ⟨"is_number_within", ["thing", "least", "most"], ["thing", "least", "most"], [], defArgs (top 7), defBody (top 7), defScope (top 7)⟩
def d_is_prime : DD := ⟨"is_prime", ["thing"], ["thing"], [], defArgs (top 8), defBody (top 8), defScope (top 8)⟩
def d_is_term : DD := ⟨"is_term", ["prime", "thing", "i", "j", "c"], ["prime", "thing"], [], defArgs (top 9), defBody (top 9), defScope (top 9)⟩
def d_is_poly_of : DD := ⟨"is_poly_of", ["prime", "thing", "before", "term"], ["prime", "thing"], [], defArgs (top 10), defBody (top 10), defScope (top 10)⟩
def d_check_prime : DD := ⟨"check_prime", ["prime"], ["prime"], [], defArgs (top 11), defBody (top 11), defScope (top 11)⟩
def d_gathered : DD := ⟨"gathered", ["prime", "sums", "c", "i", "j"], ["prime", "sums"], [], defArgs (top 14), defBody (top 14), defScope (top 14)⟩
def d_add_product : DD := ⟨"add_product", ["sums", "one", "other", "i", "j", "c", "k", "m", "d", "powers"], ["sums", "one", "other"], [], defArgs (top 15), defBody (top 15), defScope (top 15)⟩
def d_is_row_of : DD := ⟨"is_row_of", ["prime", "thing", "size", "poly"], ["prime", "thing", "size"], [], defArgs (top 18), defBody (top 18), defScope (top 18)⟩
def d_check_row : DD := ⟨"check_row", ["prime", "row", "size"], ["prime", "row"], [], defArgs (top 19), defBody (top 19), defScope (top 19)⟩
def d_sum_of_products : DD := ⟨"sum_of_products", ["prime", "one", "other", "sums", "first", "second"], ["prime", "one", "other"], [], defArgs (top 21), defBody (top 21), defScope (top 21)⟩
def d_are_ones : DD := ⟨"are_ones", ["prime", "row", "thing"], ["prime", "row", "thing"], [(0, ["thing", "row", "prime"], [2, 1, 0])], defArgs (top 23), defBody (top 23), defScope (top 23)⟩
def d__law_begun : DD := ⟨"_law_begun", ["script", "cells_here", "large", "cell"], ["script"], [], defArgs (top 25), defBody (top 25), defScope (top 25)⟩
def d__law_draw : DD := ⟨"_law_draw", ["state", "size_here", "turn", "cell", "mixed", "found"], ["state", "size_here"], [], defArgs (top 26), defBody (top 26), defScope (top 26)⟩
def d__law_pick : DD := ⟨"_law_pick", ["state", "several"], ["state", "several"], [], defArgs (top 27), defBody (top 27), defScope (top 27)⟩
def d__law_mixed : DD := ⟨"_law_mixed", ["state", "several", "left", "found"], ["state", "several"], [], defArgs (top 28), defBody (top 28), defScope (top 28)⟩
def d__law_caught : DD := ⟨"_law_caught", ["work", "caught", "error"], ["work"], [], defArgs (top 29), defBody (top 29), defScope (top 29)⟩
def d__law_is_whole : DD := ⟨"_law_is_whole", ["item"], ["item"], [], defArgs (top 30), defBody (top 30), defScope (top 30)⟩
def d__law_odd : DD := ⟨"_law_odd", ["state"], ["state"], [], defArgs (top 31), defBody (top 31), defScope (top 31)⟩
def d__law_is_from : DD := ⟨"_law_is_from", ["item", "low", "high"], ["item", "low", "high"], [], defArgs (top 32), defBody (top 32), defScope (top 32)⟩
def d__law_prime : DD := ⟨"_law_prime", ["state"], ["state"], [], defArgs (top 33), defBody (top 33), defScope (top 33)⟩
def d__law_no_prime : DD := ⟨"_law_no_prime", ["state"], ["state"], [], defArgs (top 34), defBody (top 34), defScope (top 34)⟩
def d__law_is_poly : DD := ⟨"_law_is_poly", ["prime", "item", "term", "one", "other"], ["prime", "item"], [], defArgs (top 35), defBody (top 35), defScope (top 35)⟩
def d__law_dict : DD := ⟨"_law_dict", ["poly", "term"], ["poly"], [], defArgs (top 36), defBody (top 36), defScope (top 36)⟩
def d__law_poly_of : DD := ⟨"_law_poly_of", ["told", "pair"], ["told"], [], defArgs (top 37), defBody (top 37), defScope (top 37)⟩
def d__law_added : DD := ⟨"_law_added", ["prime", "one", "other", "number", "found", "pair"], ["prime", "one", "other", "number"], [], defArgs (top 38), defBody (top 38), defScope (top 38)⟩
def d__law_product : DD := ⟨"_law_product", ["prime", "one", "other", "found", "i", "j", "k", "m", "pair"], ["prime", "one", "other"], [], defArgs (top 39), defBody (top 39), defScope (top 39)⟩
def d__law_plus : DD := ⟨"_law_plus", ["prime", "one", "other"], ["prime", "one", "other"], [], defArgs (top 40), defBody (top 40), defScope (top 40)⟩
def d__law_less : DD := ⟨"_law_less", ["prime", "one", "other"], ["prime", "one", "other"], [], defArgs (top 41), defBody (top 41), defScope (top 41)⟩
def d__law_times : DD := ⟨"_law_times", ["prime", "one", "other"], ["prime", "one", "other"], [], defArgs (top 42), defBody (top 42), defScope (top 42)⟩
def d__law_poly : DD := ⟨"_law_poly", ["state", "prime", "most_x", "most_y", "way", "menu", "i", "found", "j", "term"], ["state", "prime", "most_x", "most_y"], [], defArgs (top 43), defBody (top 43), defScope (top 43)⟩
def d__law_some : DD := ⟨"_law_some", ["state", "prime", "most_x", "most_y", "told"], ["state", "prime", "most_x", "most_y"], [], defArgs (top 44), defBody (top 44), defScope (top 44)⟩
def d__law_no_poly : DD := ⟨"_law_no_poly", ["state", "prime", "told", "spot", "some", "i", "j", "number", "term", "item"], ["state", "prime"], [], defArgs (top 45), defBody (top 45), defScope (top 45)⟩
def d__law_said : DD := ⟨"_law_said", ["told", "due"], ["told", "due"], [], defArgs (top 46), defBody (top 46), defScope (top 46)⟩
def d__law_sum_of : DD := ⟨"_law_sum_of", ["prime", "row", "several", "found", "one", "other"], ["prime", "row", "several"], [], defArgs (top 47), defBody (top 47), defScope (top 47)⟩
def d__law_is_row : DD := ⟨"_law_is_row", ["prime", "item", "told"], ["prime", "item"], [], defArgs (top 48), defBody (top 48), defScope (top 48)⟩
def d__law_row : DD := ⟨"_law_row", ["state", "prime", "most", "wide", "lap"], ["state", "prime", "most"], [], defArgs (top 49), defBody (top 49), defScope (top 49)⟩
def d__law_bad_row : DD := ⟨"_law_bad_row", ["state", "prime", "row", "spot", "some", "item"], ["state", "prime"], [], defArgs (top 50), defBody (top 50), defScope (top 50)⟩
def d__law_number : DD := ⟨"_law_number", ["number"], ["number"], [], defArgs (top 51), defBody (top 51), defScope (top 51)⟩
def d__law_are_ones : DD := ⟨"_law_are_ones", ["prime", "row", "item", "told"], ["prime", "row", "item"], [], defArgs (top 52), defBody (top 52), defScope (top 52)⟩
def d__law_made : DD := ⟨"_law_made", ["state", "prime", "told", "left", "number", "back", "spot", "row", "several", "lap", "item"], ["state", "prime"], [], defArgs (top 53), defBody (top 53), defScope (top 53)⟩
def d__law_near : DD := ⟨"_law_near", ["state", "prime", "several", "told", "bad", "spot", "way"], ["state", "prime", "several"], [], defArgs (top 54), defBody (top 54), defScope (top 54)⟩
def d_law : DD := ⟨"law", ["script", "state", "turn", "prime", "item", "row", "several", "due", "none_here", "bad"], ["script"], [], defArgs (top 55), defBody (top 55), defScope (top 55)⟩
def clsItem (s : Stmt) (j : Nat) : Stmt := match s with
  | .ClassDef _ _ _ body _ _ _ _ _ _ _ => body.getD j (.Pass ⟨0, 0, 0, 0⟩)
  | s => s
def M0 : Mo := { defs := [d_is_number, d_is_number_within, d_is_prime, d_is_term, d_is_poly_of, d_check_prime, d_gathered, d_add_product, d_is_row_of, d_check_row, d_sum_of_products, d_are_ones, d__law_begun, d__law_draw, d__law_pick, d__law_mixed, d__law_caught, d__law_is_whole, d__law_odd, d__law_is_from, d__law_prime, d__law_no_prime, d__law_is_poly, d__law_dict, d__law_poly_of, d__law_added, d__law_product, d__law_plus, d__law_less, d__law_times, d__law_poly, d__law_some, d__law_no_poly, d__law_said, d__law_sum_of, d__law_is_row, d__law_row, d__law_bad_row, d__law_number, d__law_are_ones, d__law_made, d__law_near, d_law], vals := [("MOST_POWER", (.int 999)), ("ONE", (.tup [(.tup [(.int 0), (.int 0), (.int 1)])])), ("SIZES", (.tup [(.int 2), (.int 3), (.int 4)])), ("int", .ty "int"), ("bool", .ty "bool"), ("tuple", .ty "tuple"), ("list", .ty "list"), ("dict", .ty "dict"), ("FillError", .con "FillError"), ("BadPrime", .con "BadPrime"), ("BadRow", .con "BadRow")], free := ["len", "isinstance", "int", "tuple", "list", "repr", "abs", "min", "max", "sorted", "dict", "all", "any", "range", "zip", "enumerate", "reversed", "bool"], attr := [("FillError", none), ("BadPrime", none), ("BadRow", none)], isx := [(("FillError", "FillError"), true), (("FillError", "BadPrime"), false), (("FillError", "BadRow"), false), (("BadPrime", "FillError"), true), (("BadPrime", "BadPrime"), true), (("BadPrime", "BadRow"), false), (("BadRow", "FillError"), true), (("BadRow", "BadPrime"), false), (("BadRow", "BadRow"), true)], tab := [("law", (1, "law.<locals>.<lambda>"))], fuel := 40, wf := 100000, own := [(42, 21, 35), (53, 11, 13), (53, 11, 1000013), (65, 12, 72), (66, 11, 70), (82, 19, 32), (82, 34, 36), (113, 18, 36), (117, 12, 53), (122, 12, 14), (122, 12, 1000014), (125, 18, 30), (125, 44, 58), (125, 69, 73), (125, 83, 87), (151, 11, 131), (152, 11, 140), (155, 11, 130), (184, 99, 101), (203, 12, 30)], inis := [] }
theorem ok_is_number : d_is_number.Ok := ⟨⟨rfl, rfl, rfl, by decide +kernel, rfl, by decide +kernel, by decide +kernel⟩, fun _ _ _ _ _ _ us hl => match us, hl with | [_], _ => rfl, fun n ks perm h => by cases h⟩
theorem ok_is_number_within : d_is_number_within.Ok := ⟨⟨rfl, rfl, rfl, by decide +kernel, rfl, by decide +kernel, by decide +kernel⟩, fun _ _ _ _ _ _ us hl => match us, hl with | [_, _, _], _ => rfl, fun n ks perm h => by cases h⟩
theorem ok_is_prime : d_is_prime.Ok := ⟨⟨rfl, rfl, rfl, by decide +kernel, rfl, by decide +kernel, by decide +kernel⟩, fun _ _ _ _ _ _ us hl => match us, hl with | [_], _ => rfl, fun n ks perm h => by cases h⟩
theorem ok_is_term : d_is_term.Ok := ⟨⟨rfl, rfl, rfl, by decide +kernel, rfl, by decide +kernel, by decide +kernel⟩, fun _ _ _ _ _ _ us hl => match us, hl with | [_, _], _ => rfl, fun n ks perm h => by cases h⟩
theorem ok_is_poly_of : d_is_poly_of.Ok := ⟨⟨rfl, rfl, rfl, by decide +kernel, rfl, by decide +kernel, by decide +kernel⟩, fun _ _ _ _ _ _ us hl => match us, hl with | [_, _], _ => rfl, fun n ks perm h => by cases h⟩
theorem ok_check_prime : d_check_prime.Ok := ⟨⟨rfl, rfl, rfl, by decide +kernel, rfl, by decide +kernel, by decide +kernel⟩, fun _ _ _ _ _ _ us hl => match us, hl with | [_], _ => rfl, fun n ks perm h => by cases h⟩
theorem ok_gathered : d_gathered.Ok := ⟨⟨rfl, rfl, rfl, by decide +kernel, rfl, by decide +kernel, by decide +kernel⟩, fun _ _ _ _ _ _ us hl => match us, hl with | [_, _], _ => rfl, fun n ks perm h => by cases h⟩
theorem ok_add_product : d_add_product.Ok := ⟨⟨rfl, rfl, rfl, by decide +kernel, rfl, by decide +kernel, by decide +kernel⟩, fun _ _ _ _ _ _ us hl => match us, hl with | [_, _, _], _ => rfl, fun n ks perm h => by cases h⟩
theorem ok_is_row_of : d_is_row_of.Ok := ⟨⟨rfl, rfl, rfl, by decide +kernel, rfl, by decide +kernel, by decide +kernel⟩, fun _ _ _ _ _ _ us hl => match us, hl with | [_, _, _], _ => rfl, fun n ks perm h => by cases h⟩
theorem ok_check_row : d_check_row.Ok := ⟨⟨rfl, rfl, rfl, by decide +kernel, rfl, by decide +kernel, by decide +kernel⟩, fun _ _ _ _ _ _ us hl => match us, hl with | [_, _], _ => rfl, fun n ks perm h => by cases h⟩
theorem ok_sum_of_products : d_sum_of_products.Ok := ⟨⟨rfl, rfl, rfl, by decide +kernel, rfl, by decide +kernel, by decide +kernel⟩, fun _ _ _ _ _ _ us hl => match us, hl with | [_, _, _], _ => rfl, fun n ks perm h => by cases h⟩
theorem ok_are_ones : d_are_ones.Ok := ⟨⟨rfl, rfl, rfl, by decide +kernel, rfl, by decide +kernel, by decide +kernel⟩, fun _ _ _ _ _ _ us hl => match us, hl with | [_, _, _], _ => rfl, fun n ks perm h kV doc pm an cdv ct us ws l1 l2 => by
  have hm := kwFind_len h
  have hm : (n, ks, perm) ∈ ([(0, ["thing", "row", "prime"], [2, 1, 0])] : List (Nat × List Str × List Nat)) := hm
  simp only [List.mem_cons, List.not_mem_nil, or_false, Prod.mk.injEq] at hm
  rcases hm with ⟨rfl, rfl, rfl⟩
  · exact match us, ws, l1, l2 with | [], [_, _, _], _, _ => rfl⟩
theorem ok__law_begun : d__law_begun.Ok := ⟨⟨rfl, rfl, rfl, by decide +kernel, rfl, by decide +kernel, by decide +kernel⟩, fun _ _ _ _ _ _ us hl => match us, hl with | [_], _ => rfl, fun n ks perm h => by cases h⟩
theorem ok__law_draw : d__law_draw.Ok := ⟨⟨rfl, rfl, rfl, by decide +kernel, rfl, by decide +kernel, by decide +kernel⟩, fun _ _ _ _ _ _ us hl => match us, hl with | [_, _], _ => rfl, fun n ks perm h => by cases h⟩
theorem ok__law_pick : d__law_pick.Ok := ⟨⟨rfl, rfl, rfl, by decide +kernel, rfl, by decide +kernel, by decide +kernel⟩, fun _ _ _ _ _ _ us hl => match us, hl with | [_, _], _ => rfl, fun n ks perm h => by cases h⟩
theorem ok__law_mixed : d__law_mixed.Ok := ⟨⟨rfl, rfl, rfl, by decide +kernel, rfl, by decide +kernel, by decide +kernel⟩, fun _ _ _ _ _ _ us hl => match us, hl with | [_, _], _ => rfl, fun n ks perm h => by cases h⟩
theorem ok__law_caught : d__law_caught.Ok := ⟨⟨rfl, rfl, rfl, by decide +kernel, rfl, by decide +kernel, by decide +kernel⟩, fun _ _ _ _ _ _ us hl => match us, hl with | [_], _ => rfl, fun n ks perm h => by cases h⟩
theorem ok__law_is_whole : d__law_is_whole.Ok := ⟨⟨rfl, rfl, rfl, by decide +kernel, rfl, by decide +kernel, by decide +kernel⟩, fun _ _ _ _ _ _ us hl => match us, hl with | [_], _ => rfl, fun n ks perm h => by cases h⟩
theorem ok__law_odd : d__law_odd.Ok := ⟨⟨rfl, rfl, rfl, by decide +kernel, rfl, by decide +kernel, by decide +kernel⟩, fun _ _ _ _ _ _ us hl => match us, hl with | [_], _ => rfl, fun n ks perm h => by cases h⟩
theorem ok__law_is_from : d__law_is_from.Ok := ⟨⟨rfl, rfl, rfl, by decide +kernel, rfl, by decide +kernel, by decide +kernel⟩, fun _ _ _ _ _ _ us hl => match us, hl with | [_, _, _], _ => rfl, fun n ks perm h => by cases h⟩
theorem ok__law_prime : d__law_prime.Ok := ⟨⟨rfl, rfl, rfl, by decide +kernel, rfl, by decide +kernel, by decide +kernel⟩, fun _ _ _ _ _ _ us hl => match us, hl with | [_], _ => rfl, fun n ks perm h => by cases h⟩
theorem ok__law_no_prime : d__law_no_prime.Ok := ⟨⟨rfl, rfl, rfl, by decide +kernel, rfl, by decide +kernel, by decide +kernel⟩, fun _ _ _ _ _ _ us hl => match us, hl with | [_], _ => rfl, fun n ks perm h => by cases h⟩
theorem ok__law_is_poly : d__law_is_poly.Ok := ⟨⟨rfl, rfl, rfl, by decide +kernel, rfl, by decide +kernel, by decide +kernel⟩, fun _ _ _ _ _ _ us hl => match us, hl with | [_, _], _ => rfl, fun n ks perm h => by cases h⟩
theorem ok__law_dict : d__law_dict.Ok := ⟨⟨rfl, rfl, rfl, by decide +kernel, rfl, by decide +kernel, by decide +kernel⟩, fun _ _ _ _ _ _ us hl => match us, hl with | [_], _ => rfl, fun n ks perm h => by cases h⟩
theorem ok__law_poly_of : d__law_poly_of.Ok := ⟨⟨rfl, rfl, rfl, by decide +kernel, rfl, by decide +kernel, by decide +kernel⟩, fun _ _ _ _ _ _ us hl => match us, hl with | [_], _ => rfl, fun n ks perm h => by cases h⟩
theorem ok__law_added : d__law_added.Ok := ⟨⟨rfl, rfl, rfl, by decide +kernel, rfl, by decide +kernel, by decide +kernel⟩, fun _ _ _ _ _ _ us hl => match us, hl with | [_, _, _, _], _ => rfl, fun n ks perm h => by cases h⟩
theorem ok__law_product : d__law_product.Ok := ⟨⟨rfl, rfl, rfl, by decide +kernel, rfl, by decide +kernel, by decide +kernel⟩, fun _ _ _ _ _ _ us hl => match us, hl with | [_, _, _], _ => rfl, fun n ks perm h => by cases h⟩
theorem ok__law_plus : d__law_plus.Ok := ⟨⟨rfl, rfl, rfl, by decide +kernel, rfl, by decide +kernel, by decide +kernel⟩, fun _ _ _ _ _ _ us hl => match us, hl with | [_, _, _], _ => rfl, fun n ks perm h => by cases h⟩
theorem ok__law_less : d__law_less.Ok := ⟨⟨rfl, rfl, rfl, by decide +kernel, rfl, by decide +kernel, by decide +kernel⟩, fun _ _ _ _ _ _ us hl => match us, hl with | [_, _, _], _ => rfl, fun n ks perm h => by cases h⟩
theorem ok__law_times : d__law_times.Ok := ⟨⟨rfl, rfl, rfl, by decide +kernel, rfl, by decide +kernel, by decide +kernel⟩, fun _ _ _ _ _ _ us hl => match us, hl with | [_, _, _], _ => rfl, fun n ks perm h => by cases h⟩
theorem ok__law_poly : d__law_poly.Ok := ⟨⟨rfl, rfl, rfl, by decide +kernel, rfl, by decide +kernel, by decide +kernel⟩, fun _ _ _ _ _ _ us hl => match us, hl with | [_, _, _, _], _ => rfl, fun n ks perm h => by cases h⟩
theorem ok__law_some : d__law_some.Ok := ⟨⟨rfl, rfl, rfl, by decide +kernel, rfl, by decide +kernel, by decide +kernel⟩, fun _ _ _ _ _ _ us hl => match us, hl with | [_, _, _, _], _ => rfl, fun n ks perm h => by cases h⟩
theorem ok__law_no_poly : d__law_no_poly.Ok := ⟨⟨rfl, rfl, rfl, by decide +kernel, rfl, by decide +kernel, by decide +kernel⟩, fun _ _ _ _ _ _ us hl => match us, hl with | [_, _], _ => rfl, fun n ks perm h => by cases h⟩
theorem ok__law_said : d__law_said.Ok := ⟨⟨rfl, rfl, rfl, by decide +kernel, rfl, by decide +kernel, by decide +kernel⟩, fun _ _ _ _ _ _ us hl => match us, hl with | [_, _], _ => rfl, fun n ks perm h => by cases h⟩
theorem ok__law_sum_of : d__law_sum_of.Ok := ⟨⟨rfl, rfl, rfl, by decide +kernel, rfl, by decide +kernel, by decide +kernel⟩, fun _ _ _ _ _ _ us hl => match us, hl with | [_, _, _], _ => rfl, fun n ks perm h => by cases h⟩
theorem ok__law_is_row : d__law_is_row.Ok := ⟨⟨rfl, rfl, rfl, by decide +kernel, rfl, by decide +kernel, by decide +kernel⟩, fun _ _ _ _ _ _ us hl => match us, hl with | [_, _], _ => rfl, fun n ks perm h => by cases h⟩
theorem ok__law_row : d__law_row.Ok := ⟨⟨rfl, rfl, rfl, by decide +kernel, rfl, by decide +kernel, by decide +kernel⟩, fun _ _ _ _ _ _ us hl => match us, hl with | [_, _, _], _ => rfl, fun n ks perm h => by cases h⟩
theorem ok__law_bad_row : d__law_bad_row.Ok := ⟨⟨rfl, rfl, rfl, by decide +kernel, rfl, by decide +kernel, by decide +kernel⟩, fun _ _ _ _ _ _ us hl => match us, hl with | [_, _], _ => rfl, fun n ks perm h => by cases h⟩
theorem ok__law_number : d__law_number.Ok := ⟨⟨rfl, rfl, rfl, by decide +kernel, rfl, by decide +kernel, by decide +kernel⟩, fun _ _ _ _ _ _ us hl => match us, hl with | [_], _ => rfl, fun n ks perm h => by cases h⟩
theorem ok__law_are_ones : d__law_are_ones.Ok := ⟨⟨rfl, rfl, rfl, by decide +kernel, rfl, by decide +kernel, by decide +kernel⟩, fun _ _ _ _ _ _ us hl => match us, hl with | [_, _, _], _ => rfl, fun n ks perm h => by cases h⟩
theorem ok__law_made : d__law_made.Ok := ⟨⟨rfl, rfl, rfl, by decide +kernel, rfl, by decide +kernel, by decide +kernel⟩, fun _ _ _ _ _ _ us hl => match us, hl with | [_, _], _ => rfl, fun n ks perm h => by cases h⟩
theorem ok__law_near : d__law_near.Ok := ⟨⟨rfl, rfl, rfl, by decide +kernel, rfl, by decide +kernel, by decide +kernel⟩, fun _ _ _ _ _ _ us hl => match us, hl with | [_, _, _], _ => rfl, fun n ks perm h => by cases h⟩
theorem ok_law : d_law.Ok := ⟨⟨rfl, rfl, rfl, by decide +kernel, rfl, by decide +kernel, by decide +kernel⟩, fun _ _ _ _ _ _ us hl => match us, hl with | [_], _ => rfl, fun n ks perm h => by cases h⟩
abbrev R0 : PySem.W.OpenRow := PySem.W.OpenLaw.row PySem.Challenge.rw_rowsfilled_k24_multiples_that_come_to_on
abbrev hk : PySem.W.Hook := M0.hook 4
def ob (s : PySem.W.SharedT) : ObL := M0.obs 4 (HandSHeadRun.getT s)
theorem ob_eq (s : PySem.W.SharedT) : ob s = hk.obs s.abs := Mo.obs_eq (HandSHeadRun.getT_eq s)
theorem run (w : World) : HandSHeadRun.RunEq R0 (PySem.W.view R0.prog [55]) hk ob 4000 [("is_number" : Str), ("is_number_within" : Str), ("is_prime" : Str), ("is_term" : Str), ("is_poly_of" : Str), ("check_prime" : Str), ("gathered" : Str), ("add_product" : Str), ("is_row_of" : Str), ("check_row" : Str), ("sum_of_products" : Str), ("are_ones" : Str), ("_law_begun" : Str), ("_law_draw" : Str), ("_law_pick" : Str), ("_law_mixed" : Str), ("_law_caught" : Str), ("_law_is_whole" : Str), ("_law_odd" : Str), ("_law_is_from" : Str), ("_law_prime" : Str), ("_law_no_prime" : Str), ("_law_is_poly" : Str), ("_law_dict" : Str), ("_law_poly_of" : Str), ("_law_added" : Str), ("_law_product" : Str), ("_law_plus" : Str), ("_law_less" : Str), ("_law_times" : Str), ("_law_poly" : Str), ("_law_some" : Str), ("_law_no_poly" : Str), ("_law_said" : Str), ("_law_sum_of" : Str), ("_law_is_row" : Str), ("_law_row" : Str), ("_law_bad_row" : Str), ("_law_number" : Str), ("_law_are_ones" : Str), ("_law_made" : Str), ("_law_near" : Str), ("FillError" : Str), ("BadPrime" : Str), ("BadRow" : Str), ("MOST_POWER" : Str), ("ONE" : Str), ("SIZES" : Str)] w := by
  intro os
  kernel_rfl
end Law
end
section
set_option maxRecDepth 100000
set_option maxHeartbeats 400000
namespace Law
open PySem PySem.Spec PyProof.Rows L2 Dp
theorem fd_is_number : M0.find "is_number" = some d_is_number := by kernel_rfl
theorem fd_is_number_within : M0.find "is_number_within" = some d_is_number_within := by kernel_rfl
theorem is_number_ok {K : Nat} (hK : 3 ≤ K) {d : D} {S : Sto} (h : pureB d = true) : M0.callS K "is_number" [d] S = .ok (.bl (isNumB d)) S := by
  obtain ⟨k, rfl⟩ : ∃ k, K = k + 3 := ⟨K - 3, by omega⟩
  have e : isNumB d = (isIntB d && !(isBlB d)) := by cases d <;> rfl
  rw [e]
  exact c_ret fd_is_number rfl (s_ret (q_bool (e_and rfl
    (q_blt (l_cons rfl (q_loc (i := 0) (by decide +kernel) rfl) (l_cons rfl (q_glo (by decide +kernel) (by decide +kernel) rfl) l_nil)) (by decide +kernel) (by decide +kernel) rfl (isi_int h))
    (fun _ => e_one (q_not (q_blt (l_cons rfl (q_loc (i := 0) (by decide +kernel) rfl) (l_cons rfl (q_glo (by decide +kernel) (by decide +kernel) rfl) l_nil)) (by decide +kernel) (by decide +kernel) rfl (isi_bool h)))))))
end Law
end
section
set_option maxRecDepth 100000
set_option maxHeartbeats 1000000
namespace Law
open PySem PySem.Spec PyProof.Rows L2 Dp
def numIn (lo hi : Int) : D → Bool
  | .int i => decide (lo ≤ i) && decide (i ≤ hi)
  | _ => false
theorem is_number_within_ok {K : Nat} (hK : 4 ≤ K) {d : D} {lo hi : Int} {S : Sto} (h : pureB d = true) : M0.callS K "is_number_within" [d, .int lo, .int hi] S = .ok (.bl (numIn lo hi d)) S := by
  obtain ⟨k, rfl⟩ : ∃ k, K = k + 3 := ⟨K - 3, by omega⟩
  cases d with
  | int i =>
    exact Eq.trans (c_ret fd_is_number_within rfl (s_ret (q_bool (e_and rfl (q_call (l_cons rfl (q_loc (i := 0) (by decide +kernel) rfl) l_nil) fd_is_number rfl (by decide +kernel) rfl rfl (is_number_ok (by omega) h)) (fun h1 => (e_one (q_chain rfl (q_loc (i := 1) (by decide +kernel) rfl) (q_loc (i := 0) (by decide +kernel) rfl) rfl (fun _ => (q_loc (i := 2) (by decide +kernel) rfl)) (fun _ => rfl)))))))) rfl
  | _ => exact Eq.trans (c_ret fd_is_number_within rfl (s_ret (q_bool (e_and (t' := false) rfl (q_call (l_cons rfl (q_loc (i := 0) (by decide +kernel) rfl) l_nil) fd_is_number rfl (by decide +kernel) rfl rfl (is_number_ok (by omega) h)) (fun h1 => nomatch h1))))) rfl
end Law
end
section
set_option maxRecDepth 100000
set_option maxHeartbeats 1000000
namespace Law
open PySem PySem.Spec PyProof.Rows L2 Dp
theorem fd_is_prime : M0.find "is_prime" = some d_is_prime := by kernel_rfl
theorem fd_is_term : M0.find "is_term" = some d_is_term := by kernel_rfl
theorem fd_is_poly_of : M0.find "is_poly_of" = some d_is_poly_of := by kernel_rfl
theorem fd_check_prime : M0.find "check_prime" = some d_check_prime := by kernel_rfl
def primeB : D → Bool
  | .int i => i == 2 || (i == 3 || (i == 5 || i == 7))
  | _ => false
theorem is_prime_ok {K : Nat} (hK : 4 ≤ K) {d : D} {S : Sto} (h : pureB d = true) : M0.callS K "is_prime" [d] S = .ok (.bl (primeB d)) S := by
  obtain ⟨k, rfl⟩ : ∃ k, K = k + 3 := ⟨K - 3, by omega⟩
  cases d with
  | int i =>
    exact (c_ret fd_is_prime rfl (s_ret (q_bool (e_and rfl (q_call (l_cons rfl (q_loc (i := 0) (by decide +kernel) rfl) l_nil) fd_is_number rfl (by decide +kernel) rfl rfl (is_number_ok (by omega) h)) (fun h1 => (e_one (q_cmp rfl (q_loc (i := 0) (by decide +kernel) rfl) (q_tup rfl (l_cons rfl q_int (l_cons rfl q_int (l_cons rfl q_int (l_cons rfl q_int l_nil)))) (Nat.le_of_ble_eq_true rfl)) rfl))))))).trans (by
      simp [primeB, isNumB, eqF, Bool.beq_eq_decide_eq, eq_comm])
  | _ => exact (c_ret fd_is_prime rfl (s_ret (q_bool (e_and (t' := false) rfl (q_call (l_cons rfl (q_loc (i := 0) (by decide +kernel) rfl) l_nil) fd_is_number rfl (by decide +kernel) rfl rfl (is_number_ok (by omega) h)) (fun h1 => nomatch h1))))).trans rfl
def termB (p : Int) : D → Bool
  | .tup [i, j, c] => numIn 0 999 i && (numIn 0 999 j && numIn 1 (p - 1) c)
  | _ => false
theorem is_term_ok {K : Nat} (hK : 5 ≤ K) {p : Int} {d : D} {S : Sto} (h : pureB d = true) : M0.callS K "is_term" [.int p, d] S = .ok (.bl (termB p d)) S := by
  obtain ⟨k, rfl⟩ : ∃ k, K = k + 3 := ⟨K - 3, by omega⟩
  by_cases ht : isTupB d = true
  · obtain ⟨ds, rfl⟩ : ∃ ds, d = .tup ds := by cases d <;> first | exact ⟨_, rfl⟩ | cases ht
    by_cases hl : ds.length = 3
    · obtain ⟨a, b, c, rfl⟩ : ∃ a b c, ds = [a, b, c] := by
        match ds, hl with
        | [a, b, c], _ => exact ⟨a, b, c, rfl⟩
      simp only [pureB_tup, pureBs_cons, Bool.and_eq_true] at h
      exact c_ret fd_is_term rfl (s_if (t_bool (b_or rfl (t_not (t_val rfl (q_blt (l_cons rfl (q_loc (i := 1) (by decide +kernel) rfl) (l_cons rfl (q_glo (by decide +kernel) (by decide +kernel) rfl) l_nil)) (by decide +kernel) (by decide +kernel) rfl rfl) rfl)) (fun h1 => (b_one (t_cmp rfl (q_blt (l_cons rfl (q_loc (i := 1) (by decide +kernel) rfl) l_nil) (by decide +kernel) (by decide +kernel) rfl rfl) q_int ne_int)))))
        (fun h2 _ => by simp at h2)
        (fun h3 => (j_next s_nil 
        (s_tup (q_loc (i := 1) (by decide +kernel) rfl) rfl rfl 
        (s_if (t_bool (b_or rfl (t_not (t_val rfl (q_call (l_cons rfl (q_loc (i := 2) (by decide +kernel) rfl) (l_cons rfl q_int (l_cons rfl (q_glo (by decide +kernel) (by decide +kernel) rfl) l_nil))) fd_is_number_within rfl (by decide +kernel) rfl rfl (is_number_within_ok (by omega) h.1)) rfl)) (fun h4 => (b_one (t_not (t_val rfl (q_call (l_cons rfl (q_loc (i := 3) (by decide +kernel) rfl) (l_cons rfl q_int (l_cons rfl (q_glo (by decide +kernel) (by decide +kernel) rfl) l_nil))) fd_is_number_within rfl (by decide +kernel) rfl rfl (is_number_within_ok (by omega) h.2.1)) rfl))))))
        (fun h5 _ => (Eq.trans (j_ret (s_ret q_bl)) (by
          congr 2
          simp only [Bool.or_eq_true, Bool.not_eq_true'] at h5
          rcases h5 with h5 | h5 <;> simp [termB, h5])))
        (fun h6 => (j_next s_nil 
        (Eq.trans (s_ret (q_call (l_cons rfl (q_loc (i := 4) (by decide +kernel) rfl) (l_cons rfl q_int (l_cons rfl (q_bin (q_loc (i := 0) (by decide +kernel) rfl) q_int rfl) l_nil))) fd_is_number_within rfl (by decide +kernel) rfl rfl (is_number_within_ok (by omega) h.2.2.1))) (by
          congr 2
          simp only [Bool.or_eq_false_iff, Bool.not_eq_false'] at h6
          simp [termB, h6])))))))))
    · have hf : termB p (.tup ds) = false := by
        unfold termB
        split
        · rename_i e; cases e; exact absurd rfl hl
        · rfl
      rw [hf]
      exact c_ret fd_is_term rfl (s_if (t_bool (b_or rfl (t_not (t_val rfl (q_blt (l_cons rfl (q_loc (i := 1) (by decide +kernel) rfl) (l_cons rfl (q_glo (by decide +kernel) (by decide +kernel) rfl) l_nil)) (by decide +kernel) (by decide +kernel) rfl rfl) rfl)) (fun h1 => (b_one (t_cmp rfl (q_blt (l_cons rfl (q_loc (i := 1) (by decide +kernel) rfl) l_nil) (by decide +kernel) (by decide +kernel) rfl rfl) q_int ne_int)))))
        (fun h2 _ => (Eq.trans (j_ret (s_ret q_bl)) rfl))
        (fun h3 => by
          simp only [Bool.or_eq_false_iff, Bool.not_eq_false', beq_iff_eq] at h3
          exact absurd h3.2 (by omega)))
  · have hf : termB p d = false := by
      cases d <;> first | rfl | exact absurd rfl ht
    rw [hf]
    exact c_ret fd_is_term rfl (s_if (t_bool (b_or (t' := false) rfl (t_not (t_val rfl (q_blt (l_cons rfl (q_loc (i := 1) (by decide +kernel) rfl) (l_cons rfl (q_glo (by decide +kernel) (by decide +kernel) rfl) l_nil)) (by decide +kernel) (by decide +kernel) rfl (isi_tup h)) rfl)) (fun h1 => by simp at h1; exact absurd h1 ht)))
        (fun h2 _ => (Eq.trans (j_ret (s_ret q_bl)) rfl))
        (fun h3 => by simp at h3; exact absurd h3 ht))
end Law
end
section
set_option maxRecDepth 100000
set_option maxHeartbeats 1000000
namespace Law
open PySem PySem.Spec PyProof.Rows L2 Dp
def ltP (a b i j : Int) : Bool := decide (a < i) || (a == i && decide (b < j))
def polyFrom (p : Int) : Int → Int → List D → Bool
  | _, _, [] => true
  | a, b, d :: ds => match d with
    | .tup [.int i, .int j, .int c] => termB p d && (ltP a b i j && polyFrom p i j ds)
    | _ => false
def polyB (p : Int) : D → Bool
  | .tup ds => polyFrom p (-1) (-1) ds
  | _ => false
theorem le_pairs {i j a b : Int} {S : Sto} : cmpD .LtE (.tup [.int i, .int j]) (.tup [.int a, .int b]) S = some (!ltP a b i j) := by
  show some (lexI (fun a b => decide (a ≤ b)) (fun i j => decide (i ≤ j)) [i, j] [a, b]) = _
  congr 1
  have e1 : ∀ u v : Int, decide (u ≤ v) = !decide (v < u) := fun u v => by
    by_cases h : u ≤ v
    · rw [decide_eq_true h, decide_eq_false (by omega)]; rfl
    · rw [decide_eq_false h, decide_eq_true (by omega)]; rfl
  have e2 : lexI (fun a b => decide (a ≤ b)) (fun i j => decide (i ≤ j)) [i, j] [a, b] = (if decide (i = a) = true then (if decide (j = b) = true then true else decide (j ≤ b)) else decide (i ≤ a)) := rfl
  rw [e2, e1, e1]
  unfold ltP
  by_cases h1 : i = a
  · subst h1
    by_cases h2 : j = b
    · subst h2; simp
    · simp [h2]
  · have h3 : (a == i) = false := beq_eq_false_iff_ne.mpr (Ne.symm h1)
    simp [h1, h3]
theorem termB_tup {p : Int} {d : D} (h : termB p d = true) : ∃ i j c, d = .tup [.int i, .int j, .int c] := by
  unfold termB at h
  split at h
  · rename_i i j c
    simp only [Bool.and_eq_true] at h
    obtain ⟨h1, h2, h3⟩ := h
    cases i <;> first | (cases h1; done) | skip
    cases j <;> first | (cases h2; done) | skip
    cases c <;> first | (cases h3; done) | skip
    exact ⟨_, _, _, rfl⟩
  · cases h
theorem is_poly_of_ok {K : Nat} (hK : 6 ≤ K) {p : Int} {d : D} {S : Sto} (h : pureB d = true) : M0.callS K "is_poly_of" [.int p, d] S = .ok (.bl (polyB p d)) S := by
  obtain ⟨k, rfl⟩ : ∃ k, K = k + 3 := ⟨K - 3, by omega⟩
  by_cases ht : isTupB d = true
  · obtain ⟨xs, rfl⟩ : ∃ ds, d = .tup ds := by cases d <;> first | exact ⟨_, rfl⟩ | cases ht
    refine c_ret fd_is_poly_of rfl (s_if (t_not (t_val rfl (q_blt (l_cons rfl (q_loc (i := 1) (by decide +kernel) rfl) (l_cons rfl (q_glo (by decide +kernel) (by decide +kernel) rfl) l_nil)) (by decide +kernel) (by decide +kernel) rfl (isi_tup h)) rfl))
      (fun h1 _ => by simp [isTupB] at h1)
      (fun h2 => (j_next s_nil 
      (s_set (q_tup rfl (l_cons rfl (q_neg q_int) (l_cons rfl (q_neg q_int) l_nil)) (Nat.le_of_ble_eq_true rfl)) (by decide +kernel) (i := 2) (by decide +kernel) 
      (s_for (x_val (q_loc (i := 1) (by decide +kernel) rfl) rfl rfl) rfl rfl rfl ?_)))))
    refine for_ind (xs := xs) (P := fun ys σ S' => S' = S ∧ pureBs ys = true ∧ ∃ a b, σ = [some (.int p), some (.tup xs), some (.tup [.int a, .int b]), none] ∧ polyFrom p (-1) (-1) xs = polyFrom p a b ys) (R := fun r1 => r1.bind _ = _) (fun _ _ _ _ => walks_tup) ?_ ?_ xs 0 _ _ _ rfl (Nat.lt_succ_self _) ⟨rfl, h, -1, -1, rfl, rfl⟩
    · rintro σ S' ⟨rfl, _, a, b, rfl, e⟩
      exact j_next rfl (Eq.trans (s_ret q_bl) (by congr 2; show true = polyFrom p (-1) (-1) xs; rw [e]; rfl))
    · rintro d ys σ S' ⟨rfl, hp, a, b, rfl, e⟩
      rw [pureBs_cons, Bool.and_eq_true] at hp
      refine ⟨[(3, d)], rfl, ?_⟩
      by_cases hT : termB p d = true
      · obtain ⟨i, j, c, rfl⟩ := termB_tup hT
        have e2 : polyFrom p a b (.tup [.int i, .int j, .int c] :: ys) = (ltP a b i j && polyFrom p i j ys) := by
          show (termB p _ && (ltP a b i j && polyFrom p i j ys)) = _
          rw [hT]; rfl
        cases hl : ltP a b i j with
        | true =>
          refine .inl ⟨_, _, (s_if (t_bool (b_or rfl (t_not (t_val rfl (q_call (l_cons rfl (q_loc (i := 0) (by decide +kernel) rfl) (l_cons rfl (q_loc (i := 3) (by decide +kernel) rfl) l_nil)) fd_is_term rfl (by decide +kernel) rfl rfl (is_term_ok (by omega) hp.1)) rfl)) (fun h3 => (b_one (t_cmp rfl (q_sl (q_loc (i := 3) (by decide +kernel) rfl) p_none (p_some q_int) rfl) (q_loc (i := 2) (by decide +kernel) rfl) le_pairs)))))
            (fun h4 _ => by rw [hT, hl] at h4; simp at h4)
            (fun h5 => (j_next s_nil 
            (s_set (q_sl (q_loc (i := 3) (by decide +kernel) rfl) p_none (p_some q_int) rfl) (by decide +kernel) (i := 2) (by decide +kernel) 
            s_nil)))), rfl, rfl, hp.2, i, j, rfl, ?_⟩
          rw [e, e2, hl]; rfl
        | false =>
          refine .inr (.inl ⟨.bl false, S', (s_if (t_bool (b_or rfl (t_not (t_val rfl (q_call (l_cons rfl (q_loc (i := 0) (by decide +kernel) rfl) (l_cons rfl (q_loc (i := 3) (by decide +kernel) rfl) l_nil)) fd_is_term rfl (by decide +kernel) rfl rfl (is_term_ok (by omega) hp.1)) rfl)) (fun h3 => (b_one (t_cmp rfl (q_sl (q_loc (i := 3) (by decide +kernel) rfl) p_none (p_some q_int) rfl) (q_loc (i := 2) (by decide +kernel) rfl) le_pairs)))))
            (fun h4 _ => (Eq.trans (j_ret (s_ret q_bl)) rfl))
            (fun h5 => by rw [hT, hl] at h5; simp at h5)), ?_⟩)
          refine j_ret (Eq.trans rfl ?_)
          congr 2
          show false = polyFrom p (-1) (-1) xs
          rw [e, e2, hl]; rfl
      · refine .inr (.inl ⟨.bl false, S', s_if (t_bool (b_or (t' := false) rfl (t_not (t_val rfl (q_call (l_cons rfl (q_loc (i := 0) (by decide +kernel) rfl) (l_cons rfl (q_loc (i := 3) (by decide +kernel) rfl) l_nil)) fd_is_term rfl (by decide +kernel) rfl rfl (is_term_ok (by omega) hp.1)) rfl)) (fun h3 => by simp at h3; exact absurd h3 hT)))
            (fun h4 _ => (Eq.trans (j_ret (s_ret q_bl)) rfl))
            (fun h5 => by simp at h5; exact absurd h5 hT), ?_⟩)
        refine j_ret (Eq.trans rfl ?_)
        congr 2
        show false = polyFrom p (-1) (-1) xs
        rw [e]
        unfold polyFrom
        split
        · rw [Bool.eq_false_iff.mpr hT]; rfl
        · rfl
  · have hf : polyB p d = false := by
      cases d <;> first | rfl | exact absurd rfl ht
    rw [hf]
    exact c_ret fd_is_poly_of rfl (s_if (t_not (t_val rfl (q_blt (l_cons rfl (q_loc (i := 1) (by decide +kernel) rfl) (l_cons rfl (q_glo (by decide +kernel) (by decide +kernel) rfl) l_nil)) (by decide +kernel) (by decide +kernel) rfl (isi_tup h)) rfl))
      (fun h1 _ => (Eq.trans (j_ret (s_ret q_bl)) rfl))
      (fun h2 => by simp at h2; exact absurd h2 ht))
end Law
end
section
set_option maxRecDepth 100000
set_option maxHeartbeats 1000000
namespace Law
open PySem PySem.Spec PyProof.Rows L2 Dp
/-- what the script has left -/
structure Sta where
  L : List Int
  l : Int
  t : Int
structure Sta.ok (s : Sta) : Prop where
  hL : ∀ i ∈ s.L, 0 ≤ i
  hl : 0 ≤ s.l
  ht : 0 ≤ s.t
  hz : s.L.length ≤ 63
def stK (C : List Int) (l t : Int) : List (Key × D) := [(.inr "large", .ref 2), (.inr "cells", .lv (C.map .int)), (.inr "left", .int l), (.inr "turn", .int t)]
def St (ns C : List Int) (s : Sta) (X : Sto) : Sto := .fro (ns.map .int) :: .tab "law" ((("law" : Str) ++ ".<locals>.") ++ "<lambda>") :: .lst (s.L.map .int) :: .dk (stK C s.l s.t) :: X
theorem fd__law_draw : M0.find "_law_draw" = some d__law_draw := by kernel_rfl
variable {ns C : List Int} {X : Sto} {s : Sta}
theorem g_left : ixA (.ref 3) (.str "left") (St ns C s X) = some (.int s.l, St ns C s X) := by rfl
theorem g_turn : ixA (.ref 3) (.str "turn") (St ns C s X) = some (.int s.t, St ns C s X) := by rfl
theorem g_large : ixA (.ref 3) (.str "large") (St ns C s X) = some (.ref 2, St ns C s X) := by rfl
theorem g_cells : ixA (.ref 3) (.str "cells") (St ns C s X) = some (.lv (C.map .int), St ns C s X) := by rfl
theorem p_left {i : Int} : setD (St ns C s X) 3 (.str "left") (.int i) = some (St ns C { s with l := i } X) := by
  show (if 4 < sizeLine then some _ else none) = _
  rw [sizeLine_eq]; rfl
theorem p_turn {i : Int} : setD (St ns C s X) 3 (.str "turn") (.int i) = some (St ns C { s with t := i } X) := by
  show (if 4 < sizeLine then some _ else none) = _
  rw [sizeLine_eq]; rfl
theorem St_len {s' : Sta} : (St ns C s' X).length = (St ns C s X).length := rfl
theorem pop_large {i : Int} {L : List Int} {l t : Int} : mPop 2 [.int 0] (St ns C ⟨i :: L, l, t⟩ X) = some (.int i, St ns C ⟨L, l, t⟩ X) := by
  rw [pop_ref (ds := (i :: L).map D.int) (d := .int i) rfl (by decide) (by decide) rfl]; rfl
theorem draw_loop {k : Nat} {sz : D} : ∀ (L : List Int) (m : Nat) (l t : Int), (∀ i ∈ L, 0 ≤ i) → 0 ≤ l → L.length < m →
    ∃ L' l', whileL keepC false (tv (M0.gam d__law_draw.N d__law_draw.scope.names (M0.call (k + 2)) (M0.lamF d__law_draw (M0.call (k + 1)) (M0.call k)) noAct) 39 d__law_draw.scope (whileT (nthS d__law_draw.body 0))) (exs (ex (M0.gam d__law_draw.N d__law_draw.scope.names (M0.call (k + 2)) (M0.lamF d__law_draw (M0.call (k + 1)) (M0.call k)) noAct) 39 d__law_draw.scope) (loopB (nthS d__law_draw.body 0))) m [some (.ref 3), some sz, none, none, none, none] (St ns C ⟨L, l, t⟩ X) = .next [some (.ref 3), some sz, none, none, none, none] (St ns C ⟨L', l', t⟩ X) ∧ (∀ i ∈ L', 0 ≤ i) ∧ 0 ≤ l' ∧ L'.length ≤ L.length
  | L, 0, _, _, _, _, hm => absurd hm (Nat.not_lt_zero _)
  | L, m + 1, l, t, hL, hl, hm => by
    cases hc : (l == 0 && !(L.map D.int).isEmpty) with
    | false =>
      refine ⟨L, l, w_end ?_, hL, hl, Nat.le_refl _⟩
      exact Eq.trans (t_bool (b_and rfl (t_cmp rfl (q_ix rfl (q_loc (i := 0) (by decide +kernel) rfl) q_str g_left) q_int Dp.eq_int) (fun h5 => (b_one (t_cmp rfl (q_ix rfl (q_loc (i := 0) (by decide +kernel) rfl) q_str g_large) (q_lst rfl l_nil (Nat.le_of_ble_eq_true rfl)) (ne_nil_ref (ds := L.map D.int) rfl (shape_ints L))))))) (by rw [hc])
    | true =>
      cases L with
      | nil => simp at hc
      | cons i L =>
        obtain ⟨L', l', e, h1, h2, h3⟩ := draw_loop (k := k) (sz := sz) L m i t (fun j hj => hL j (List.mem_cons_of_mem _ hj)) (hL i List.mem_cons_self) (by simp at hm; omega)
        refine ⟨L', l', ?_, h1, h2, by simp; omega⟩
        refine w_go (S1 := St ns C ⟨i :: L, l, t⟩ X) (S2 := St ns C ⟨L, i, t⟩ X) (Eq.trans (t_bool (b_and rfl (t_cmp rfl (q_ix rfl (q_loc (i := 0) (by decide +kernel) rfl) q_str g_left) q_int Dp.eq_int) (fun h5 => (b_one (t_cmp rfl (q_ix rfl (q_loc (i := 0) (by decide +kernel) rfl) q_str g_large) (q_lst rfl l_nil (Nat.le_of_ble_eq_true rfl)) (ne_nil_ref (ds := (i :: L).map D.int) rfl (shape_ints (i :: L)))))))) (by rw [hc]))
          (s_put (q_meth (q_ix rfl (q_loc (i := 0) (by decide +kernel) rfl) q_str g_large) q_int (by decide +kernel) rfl rfl pop_large) (q_loc (i := 0) (by decide +kernel) rfl) q_str rfl p_left 
            s_nil) rfl e
theorem draw_ok {K : Nat} (hK : 3 ≤ K) {n : Int} (hn : 0 < n ∧ n < 1073741824) (hs : s.ok) (ht : s.t ≤ 1000000000) (hC : ∀ i ∈ C, 0 ≤ i) (hCz : C.length ≤ 63) :
    ∃ r s', M0.callS K "_law_draw" [.ref 3, .int n] (St ns C s X) = .ok (.int r) (St ns C s' X) ∧ s'.ok ∧ s'.t ≤ s.t + 1 ∧ 0 ≤ r ∧ r < n := by
  obtain ⟨k, rfl⟩ : ∃ k, K = k + 3 := ⟨K - 3, by omega⟩
  obtain ⟨L, l, t⟩ := s
  obtain ⟨hL, hl, h0, hz⟩ := hs
  dsimp only at hL hl h0 hz ht
  obtain ⟨L', l', e, h1, h2, h3⟩ := draw_loop (k := k) (sz := .int n) (ns := ns) (C := C) (X := X) L 100000 l t hL hl (by omega)
  by_cases hp : 0 < l'
  · refine ⟨l' % n, ⟨L', l' / n, t⟩, ?_, ⟨h1, Int.ediv_nonneg h2 (by omega), h0, by simp; omega⟩, by simp; omega, Int.emod_nonneg _ (by omega), Int.emod_lt_of_pos _ hn.1⟩
    exact c_retW fd__law_draw rfl (s_whl rfl e 
      (s_if (t_cmp rfl (q_ix rfl (q_loc (i := 0) (by decide +kernel) rfl) q_str g_left) q_int rfl)
      (fun h1 _ => (j_ret (s_set (q_bin (q_blt (l_cons rfl (q_ix rfl (q_loc (i := 0) (by decide +kernel) rfl) q_str g_left) l_nil) (by decide +kernel) (by decide +kernel) rfl rfl) (q_loc (i := 1) (by decide +kernel) rfl) (l_mod hn.1)) (by decide +kernel) (i := 5) (by decide +kernel) 
        (s_put (q_bin (q_ix rfl (q_loc (i := 0) (by decide +kernel) rfl) q_str g_left) (q_loc (i := 1) (by decide +kernel) rfl) (l_fdiv hn)) (q_loc (i := 0) (by decide +kernel) rfl) q_str rfl p_left 
        (s_ret (q_loc (i := 5) (by decide +kernel) rfl))))))
      (fun h2 => by simp at h2; omega))) rfl
  · have hl0 : l' = 0 := by omega
    subst hl0
    have gT : ∀ {i : Int}, ixA (.ref 3) (.str "cells") (St ns C ⟨L', 0, i⟩ X) = some (.lv (C.map .int), St ns C ⟨L', 0, i⟩ X) := by intro i; rfl
    obtain ⟨c, hc0, hcE⟩ : ∃ c : Int, 0 ≤ c ∧ ∀ {σ : Sig}, σ[0]? = some (some (.ref 3)) → σ[2]? = some (some (.int (t + 1))) → ev (M0.gam d__law_draw.N d__law_draw.scope.names (M0.call (k + 2)) (M0.lamF d__law_draw (M0.call (k + 1)) (M0.call k)) noAct) 39 d__law_draw.scope (valueE (nthS d__law_draw.body 4)) σ (St ns C ⟨L', 0, t + 1⟩ X) = .ok (.int c) (St ns C ⟨L', 0, t + 1⟩ X) := by
      cases C with
      | nil => exact ⟨0, by omega, fun {σ} e0 e2 => (q_ife (t_cmp rfl (q_ix rfl (q_loc (i := 0) (by decide +kernel) e0) q_str g_cells) (q_lst rfl l_nil (Nat.le_of_ble_eq_true rfl)) (ne_nil_lv (shape_ints []))) (fun h3 => by simp at h3) (fun h4 => q_int))⟩
      | cons c0 C =>
        have hm : (0 : Int) ≤ (t + 1) % (((c0 :: C).map D.int).length : Int) := Int.emod_nonneg _ (by simp; try omega)
        have hm2 : (t + 1) % (((c0 :: C).map D.int).length : Int) < (((c0 :: C).map D.int).length : Int) := Int.emod_lt_of_pos _ (by simp)
        have hj : ((t + 1) % (((c0 :: C).map D.int).length : Int)).toNat < (c0 :: C).length := by simp at hm2 ⊢; omega
        refine ⟨(c0 :: C)[((t + 1) % (((c0 :: C).map D.int).length : Int)).toNat], hC _ (List.getElem_mem hj), fun {σ} e0 e2 => ?_⟩
        exact (q_ife (t_cmp rfl (q_ix rfl (q_loc (i := 0) (by decide +kernel) e0) q_str g_cells) (q_lst rfl l_nil (Nat.le_of_ble_eq_true rfl)) (ne_nil_lv (shape_ints (c0 :: C)))) (fun h3 => (q_ix rfl (q_ix rfl (q_loc (i := 0) (by decide +kernel) e0) q_str gT) (q_bin (q_blt (l_cons rfl (q_loc (i := 2) (by decide +kernel) e2) l_nil) (by decide +kernel) (by decide +kernel) rfl rfl) (q_blt (l_cons rfl (q_ix rfl (q_loc (i := 0) (by decide +kernel) e0) q_str gT) l_nil) (by decide +kernel) (by decide +kernel) rfl rfl) (l_mod (by simp))) (ix_lv hm (by rw [List.getElem?_map, List.getElem?_eq_getElem hj]; rfl)))) (fun h4 => by simp at h4))
    suffices hq : ∃ q : Int, M0.callS (k + 3) "_law_draw" [.ref 3, .int n] (St ns C ⟨L, l, t⟩ X) = .ok (.int (q % n)) (St ns C ⟨L', 0, t + 1⟩ X) by
      obtain ⟨q, hq⟩ := hq
      exact ⟨_, ⟨L', 0, t + 1⟩, hq, ⟨h1, Int.le_refl _, by simp; omega, by simp; omega⟩, by simp, Int.emod_nonneg _ (by omega), Int.emod_lt_of_pos _ hn.1⟩
    exact ⟨_, c_retW fd__law_draw rfl (s_whl rfl e 
      (s_if (t_cmp rfl (q_ix rfl (q_loc (i := 0) (by decide +kernel) rfl) q_str g_left) q_int rfl)
      (fun h1 _ => by simp at h1)
      (fun h2 => (j_next s_nil 
      (s_set (q_bin (q_ix rfl (q_loc (i := 0) (by decide +kernel) rfl) q_str g_turn) q_int rfl) (by decide +kernel) (i := 2) (by decide +kernel) 
      (s_put (q_loc (i := 2) (by decide +kernel) rfl) (q_loc (i := 0) (by decide +kernel) rfl) q_str rfl p_turn 
      (s_set (hcE rfl rfl) (by decide +kernel) (i := 3) (by decide +kernel) 
      (s_set (q_bin (q_blt (l_cons rfl (q_bin (q_bin (q_bin (q_bin (q_blt (l_cons rfl (q_loc (i := 3) (by decide +kernel) rfl) l_nil) (by decide +kernel) (by decide +kernel) rfl rfl) q_int (l_mod (by decide))) (q_bin q_int (q_loc (i := 2) (by decide +kernel) rfl) (l_mul (.inl ⟨by decide, by decide⟩))) rfl) q_int rfl) q_int (l_pow ⟨by decide, by decide⟩ (by dsimp only; omega))) l_nil) (by decide +kernel) (by decide +kernel) rfl rfl) q_int (l_mod (by decide))) (by decide +kernel) (i := 4) (by decide +kernel) 
      (s_ret (q_bin (q_blt (l_cons rfl (q_bin (q_bin (q_blt (l_cons rfl (q_bin (q_bin (q_loc (i := 4) (by decide +kernel) rfl) (q_bin q_int (q_loc (i := 2) (by decide +kernel) rfl) (l_mul (.inl ⟨by decide, by decide⟩))) rfl) q_int (l_pow ⟨by decide, by decide⟩ (by dsimp only; omega))) l_nil) (by decide +kernel) (by decide +kernel) rfl rfl) q_int (l_mod (by decide))) q_int (l_fdiv ⟨by decide, by decide⟩)) l_nil) (by decide +kernel) (by decide +kernel) rfl rfl) (q_loc (i := 1) (by decide +kernel) rfl) (l_mod hn.1))))))))))) rfl⟩
end Law
end
section
set_option maxRecDepth 100000
set_option maxHeartbeats 1000000
namespace Law
open PySem PySem.Spec PyProof.Rows L2 Dp
theorem fd__law_pick : M0.find "_law_pick" = some d__law_pick := by kernel_rfl
theorem fd__law_prime : M0.find "_law_prime" = some d__law_prime := by kernel_rfl
theorem fd__law_no_prime : M0.find "_law_no_prime" = some d__law_no_prime := by kernel_rfl
structure Cok (C : List Int) : Prop where
  pos : ∀ i ∈ C, 0 ≤ i
  len : C.length ≤ 63
/-- a call that draws at most c times and gives what P says -/
def Draws (ns C : List Int) (X : Sto) (c : Int) (f : Sto → Res D) (P : D → Prop) : Prop := ∀ s : Sta, s.ok → s.t + c ≤ 1000000000 → ∃ v s', f (St ns C s X) = .ok v (St ns C s' X) ∧ s'.ok ∧ s'.t ≤ s.t + c ∧ P v
variable {ns C : List Int} {X : Sto}
theorem draw_d (hC : Cok C) {K : Nat} (hK : 3 ≤ K) {n : Int} (hn : 0 < n ∧ n < 1073741824) : Draws ns C X 1 (M0.callS K "_law_draw" [.ref 3, .int n]) (fun v => ∃ r, v = .int r ∧ 0 ≤ r ∧ r < n) := fun s hs ht => by
  obtain ⟨r, s', h1, h2, h3, h4, h5⟩ := draw_ok (ns := ns) (X := X) hK hn hs (by omega) hC.pos hC.len
  exact ⟨_, s', h1, h2, h3, r, rfl, h4, h5⟩
theorem pick_d (hC : Cok C) {K : Nat} (hK : 4 ≤ K) {ds : List D} (hn : 0 < ds.length ∧ ds.length < 1073741824) : Draws ns C X 1 (M0.callS K "_law_pick" [.ref 3, .lv ds]) (fun v => v ∈ ds) := fun s hs ht => by
  obtain ⟨k, rfl⟩ : ∃ k, K = k + 3 := ⟨K - 3, by omega⟩
  obtain ⟨v, s', h1, h2, h3, r, rfl, h4, h5⟩ := draw_d (X := X) (ns := ns) hC (K := k + 2) (by omega) (n := (ds.length : Int)) (by omega) s hs ht
  have hj : r.toNat < ds.length := by omega
  exact ⟨ds[r.toNat], s', c_retW fd__law_pick rfl (s_ret (q_ix rfl (q_loc (i := 1) (by decide +kernel) rfl) (q_call (l_cons rfl (q_loc (i := 0) (by decide +kernel) rfl) (l_cons rfl (q_blt (l_cons rfl (q_loc (i := 1) (by decide +kernel) rfl) l_nil) (by decide +kernel) (by decide +kernel) rfl rfl) l_nil)) fd__law_draw rfl (by decide +kernel) rfl rfl h1) (ix_lv h4 (List.getElem?_eq_getElem hj)))) rfl, h2, h3, List.getElem_mem hj⟩
theorem prime_d (hC : Cok C) {K : Nat} (hK : 5 ≤ K) : Draws ns C X 1 (M0.callS K "_law_prime" [.ref 3]) (fun v => v ∈ [D.int 2, .int 3, .int 5, .int 7]) := fun s hs ht => by
  obtain ⟨k, rfl⟩ : ∃ k, K = k + 3 := ⟨K - 3, by omega⟩
  obtain ⟨v, s', h1, h2, h3, h4⟩ := pick_d (X := X) (ns := ns) hC (K := k + 2) (by omega) (ds := [D.int 2, .int 3, .int 5, .int 7]) ⟨by decide, by decide⟩ s hs ht
  exact ⟨v, s', c_retW fd__law_prime rfl (s_ret (q_call (l_cons rfl (q_loc (i := 0) (by decide +kernel) rfl) (l_cons rfl (q_lst rfl (l_cons rfl q_int (l_cons rfl q_int (l_cons rfl q_int (l_cons rfl q_int l_nil)))) (Nat.le_of_ble_eq_true rfl)) l_nil)) fd__law_pick rfl (by decide +kernel) rfl rfl h1)) rfl, h2, h3, h4⟩
def noPrimes : List D := [.non, .int 0, .int 1, .int 4, .int 6, .int 8, .int 9, .int 11, .int (-2), .bl true, .str "2", .tup [.int 2], .lv [.int 3], .dv [] [], .int 999999937]
theorem no_prime_d (hC : Cok C) {K : Nat} (hK : 5 ≤ K) : Draws ns C X 1 (M0.callS K "_law_no_prime" [.ref 3]) (fun v => pureB v = true ∧ primeB v = false) := fun s hs ht => by
  obtain ⟨k, rfl⟩ : ∃ k, K = k + 3 := ⟨K - 3, by omega⟩
  obtain ⟨v, s', h1, h2, h3, h4⟩ := pick_d (X := X) (ns := ns) hC (K := k + 2) (by omega) (ds := noPrimes) ⟨by decide, by decide⟩ s hs ht
  refine ⟨v, s', c_retW fd__law_no_prime rfl (s_ret (q_call (l_cons rfl (q_loc (i := 0) (by decide +kernel) rfl) (l_cons rfl (q_lst rfl (l_cons rfl q_non (l_cons rfl q_int (l_cons rfl q_int (l_cons rfl q_int (l_cons rfl q_int (l_cons rfl q_int (l_cons rfl q_int (l_cons rfl q_int (l_cons rfl (q_neg q_int) (l_cons rfl q_bl (l_cons rfl q_str (l_cons rfl (q_tup rfl (l_cons rfl q_int l_nil) (Nat.le_of_ble_eq_true rfl)) (l_cons rfl (q_lst rfl (l_cons rfl q_int l_nil) (Nat.le_of_ble_eq_true rfl)) (l_cons rfl (q_dv0 rfl) (l_cons rfl q_int l_nil))))))))))))))) (Nat.le_of_ble_eq_true rfl)) l_nil)) fd__law_pick rfl (by decide +kernel) rfl rfl h1)) rfl, h2, h3, ?_⟩
  simp only [noPrimes, List.mem_cons, List.not_mem_nil, or_false] at h4
  rcases h4 with rfl | rfl | rfl | rfl | rfl | rfl | rfl | rfl | rfl | rfl | rfl | rfl | rfl | rfl | rfl <;> exact ⟨rfl, rfl⟩
end Law
end
section
set_option maxRecDepth 100000
set_option maxHeartbeats 1000000
namespace Law
open PySem PySem.Spec PyProof.Rows L2 Dp
variable {ns C : List Int} {X : Sto}
theorem fd__law_odd : M0.find "_law_odd" = some d__law_odd := by kernel_rfl
def odds : List D := [.non, .bl true, .bl false, .str "0", .str "", .lv [], .dv [] [], .tup [.non], .tup [.str "a", .int 1], .lv [.lv [.int 0]], .dv [.inl 0] [.int 0], .tup [.bl true], .int 5, .int (-1)]
theorem odd_d (hC : Cok C) {K : Nat} (hK : 5 ≤ K) : Draws ns C X 1 (M0.callS K "_law_odd" [.ref 3]) (fun v => pureB v = true ∧ ∀ xs, v = .tup xs → xs.length ≤ 3000) := fun s hs ht => by
  obtain ⟨k, rfl⟩ : ∃ k, K = k + 3 := ⟨K - 3, by omega⟩
  obtain ⟨v, s', h1, h2, h3, h4⟩ := pick_d (X := X) (ns := ns) hC (K := k + 2) (by omega) (ds := odds) ⟨by decide, by decide⟩ s hs ht
  refine ⟨v, s', c_retW fd__law_odd rfl (s_ret (q_call (l_cons rfl (q_loc (i := 0) (by decide +kernel) rfl) (l_cons rfl (q_lst rfl (l_cons rfl q_non (l_cons rfl q_bl (l_cons rfl q_bl (l_cons rfl q_str (l_cons rfl q_str (l_cons rfl (q_lst rfl l_nil (Nat.le_of_ble_eq_true rfl)) (l_cons rfl (q_dv0 rfl) (l_cons rfl (q_tup rfl (l_cons rfl q_non l_nil) (Nat.le_of_ble_eq_true rfl)) (l_cons rfl (q_tup rfl (l_cons rfl q_str (l_cons rfl q_int l_nil)) (Nat.le_of_ble_eq_true rfl)) (l_cons rfl (q_lst rfl (l_cons rfl (q_lst rfl (l_cons rfl q_int l_nil) (Nat.le_of_ble_eq_true rfl)) l_nil) (Nat.le_of_ble_eq_true rfl)) (l_cons rfl (q_dv rfl rfl (fun _ => dp_cons q_int q_int dp_nil rfl) (by decide) (by intro d hd; simp [mergeD, putD] at hd; subst hd; rfl)) (l_cons rfl (q_tup rfl (l_cons rfl q_bl l_nil) (Nat.le_of_ble_eq_true rfl)) (l_cons rfl q_int (l_cons rfl (q_neg q_int) l_nil)))))))))))))) (Nat.le_of_ble_eq_true rfl)) l_nil)) fd__law_pick rfl (by decide +kernel) rfl rfl h1)) rfl, h2, h3, ?_⟩
  simp only [odds, List.mem_cons, List.not_mem_nil, or_false] at h4
  rcases h4 with rfl | rfl | rfl | rfl | rfl | rfl | rfl | rfl | rfl | rfl | rfl | rfl | rfl | rfl <;> exact ⟨rfl, fun xs e => by cases e <;> simp⟩
end Law
end
section
set_option maxRecDepth 100000
set_option maxHeartbeats 1000000
namespace Law
open PySem PySem.Spec PyProof.Rows L2 Dp
theorem fd__law_is_whole : M0.find "_law_is_whole" = some d__law_is_whole := by kernel_rfl
theorem fd__law_is_from : M0.find "_law_is_from" = some d__law_is_from := by kernel_rfl
theorem fd__law_is_poly : M0.find "_law_is_poly" = some d__law_is_poly := by kernel_rfl
theorem law_is_whole_ok {K : Nat} (hK : 3 ≤ K) {d : D} {S : Sto} (h : pureB d = true) : M0.callS K "_law_is_whole" [d] S = .ok (.bl (isNumB d)) S := by
  obtain ⟨k, rfl⟩ : ∃ k, K = k + 3 := ⟨K - 3, by omega⟩
  have e : isNumB d = (isIntB d && !(isBlB d)) := by cases d <;> rfl
  rw [e]
  exact c_ret fd__law_is_whole rfl (s_ret (q_bool (e_and rfl (q_blt (l_cons rfl (q_loc (i := 0) (by decide +kernel) rfl) (l_cons rfl (q_glo (by decide +kernel) (by decide +kernel) rfl) l_nil)) (by decide +kernel) (by decide +kernel) rfl (isi_int h)) (fun h1 => (e_one (q_not (q_blt (l_cons rfl (q_loc (i := 0) (by decide +kernel) rfl) (l_cons rfl (q_glo (by decide +kernel) (by decide +kernel) rfl) l_nil)) (by decide +kernel) (by decide +kernel) rfl (isi_bool h))))))))
theorem law_is_from_ok {K : Nat} (hK : 4 ≤ K) {d : D} {lo hi : Int} {S : Sto} (h : pureB d = true) : M0.callS K "_law_is_from" [d, .int lo, .int hi] S = .ok (.bl (numIn lo hi d)) S := by
  obtain ⟨k, rfl⟩ : ∃ k, K = k + 3 := ⟨K - 3, by omega⟩
  cases d with
  | int i =>
    exact Eq.trans (c_ret fd__law_is_from rfl (s_ret (q_bool (e_and rfl (q_call (l_cons rfl (q_loc (i := 0) (by decide +kernel) rfl) l_nil) fd__law_is_whole rfl (by decide +kernel) rfl rfl (law_is_whole_ok (by omega) h)) (fun h1 => (e_one (q_chain rfl (q_loc (i := 1) (by decide +kernel) rfl) (q_loc (i := 0) (by decide +kernel) rfl) rfl (fun _ => (q_loc (i := 2) (by decide +kernel) rfl)) (fun _ => rfl)))))))) rfl
  | _ => exact Eq.trans (c_ret fd__law_is_from rfl (s_ret (q_bool (e_and (t' := false) rfl (q_call (l_cons rfl (q_loc (i := 0) (by decide +kernel) rfl) l_nil) fd__law_is_whole rfl (by decide +kernel) rfl rfl (law_is_whole_ok (by omega) h)) (fun h1 => nomatch h1))))) rfl
theorem ge_pairs {i j a b : Int} {S : Sto} : cmpD .GtE (.tup [.int i, .int j]) (.tup [.int a, .int b]) S = some (!ltP i j a b) := by
  show some (lexI (fun a b => decide (a ≥ b)) (fun i j => decide (j ≤ i)) [i, j] [a, b]) = _
  congr 1
  have e1 : ∀ u v : Int, decide (u ≤ v) = !decide (v < u) := fun u v => by
    by_cases h : u ≤ v
    · rw [decide_eq_true h, decide_eq_false (by omega)]; rfl
    · rw [decide_eq_false h, decide_eq_true (by omega)]; rfl
  have e2 : lexI (fun a b => decide (a ≥ b)) (fun i j => decide (j ≤ i)) [i, j] [a, b] = (if decide (i = a) = true then (if decide (j = b) = true then true else decide (b ≤ j)) else decide (a ≤ i)) := rfl
  rw [e2, e1, e1]
  unfold ltP
  by_cases h1 : i = a
  · subst h1
    by_cases h2 : j = b
    · subst h2; simp
    · simp [h2]
  · have h3 : (i == a) = false := beq_eq_false_iff_ne.mpr h1
    simp [h1, h3]
/-- the first two of a term -/
def fstI : D → Int
  | .tup (.int i :: _) => i
  | _ => 0
def sndI : D → Int
  | .tup (_ :: .int j :: _) => j
  | _ => 0
def ltT (d e : D) : Bool := ltP (fstI d) (sndI d) (fstI e) (sndI e)
def ascB : List D → Bool
  | d :: e :: r => ltT d e && ascB (e :: r)
  | _ => true
theorem polyFrom_eq {p : Int} : ∀ {xs : List D} {a b : Int}, polyFrom p a b xs = (xs.all (termB p) && (match xs with
    | [] => true
    | d :: _ => ltP a b (fstI d) (sndI d)) && ascB xs)
  | [], a, b => rfl
  | d :: xs, a, b => by
    cases h : termB p d with
    | false =>
      have e : polyFrom p a b (d :: xs) = false := by
        unfold polyFrom
        split
        · rw [h]; rfl
        · rfl
      rw [e]; simp [h]
    | true =>
      obtain ⟨i, j, c, rfl⟩ := termB_tup h
      have e : polyFrom p a b (.tup [.int i, .int j, .int c] :: xs) = (ltP a b i j && polyFrom p i j xs) := by
        show (termB p _ && (ltP a b i j && polyFrom p i j xs)) = _
        rw [h]; rfl
      rw [e, polyFrom_eq (xs := xs)]
      cases xs with
      | nil => simp [h, ascB, fstI, sndI]
      | cons e2 xs =>
        simp only [List.all_cons, h, Bool.true_and]
        show (ltP a b i j && (_ && ltP i j (fstI e2) (sndI e2) && ascB (e2 :: xs))) = (_ && ltP a b i j && (ltP i j (fstI e2) (sndI e2) && ascB (e2 :: xs)))
        cases (termB p e2 && xs.all (termB p)) <;> cases ltP a b i j <;> cases ltP i j (fstI e2) (sndI e2) <;> rfl
theorem polyB_eq {p : Int} {xs : List D} : polyB p (.tup xs) = (xs.all (termB p) && ascB xs) := by
  show polyFrom p (-1) (-1) xs = _
  rw [polyFrom_eq]
  cases xs with
  | nil => rfl
  | cons d xs =>
    cases h : termB p d with
    | false => simp [h]
    | true =>
      obtain ⟨i, j, c, rfl⟩ := termB_tup h
      have : ltP (-1) (-1) i j = true := by
        simp [termB, numIn] at h
        unfold ltP
        simp
        omega
      simp only [List.all_cons, h]
      show (_ && ltP (-1) (-1) i j && _) = _
      rw [this, Bool.and_true]
def stepB (i : D) : Option D := match i with
  | .tup [d, e] => if ltT d e = true then none else some (.int 1)
  | _ => none
theorem zip_asc : ∀ (xs : List D), ((zipD xs (xs.drop 1)).filterMap stepB).isEmpty = ascB xs
  | [] => rfl
  | [d] => rfl
  | d :: e :: r => by
    have ih := zip_asc (e :: r)
    have e1 : zipD (d :: e :: r) ((d :: e :: r).drop 1) = .tup [d, e] :: zipD (e :: r) ((e :: r).drop 1) := rfl
    have ea : ascB (d :: e :: r) = (ltT d e && ascB (e :: r)) := by rw [ascB]
    rw [e1, List.filterMap_cons, ea]
    cases h : ltT d e with
    | true =>
      have : stepB (.tup [d, e]) = none := by show (if ltT d e = true then none else some (D.int 1)) = _; rw [h]; rfl
      rw [this]
      simpa using ih
    | false =>
      have : stepB (.tup [d, e]) = some (.int 1) := by show (if ltT d e = true then none else some (D.int 1)) = _; rw [h]; rfl
      rw [this]; rfl
theorem zip_mem : ∀ {xs ys : List D} {z : D}, z ∈ zipD xs ys → ∃ d e, z = .tup [d, e] ∧ d ∈ xs ∧ e ∈ ys
  | [], ys, z, h => by simp [zipD] at h
  | d :: xs, [], z, h => by simp [zipD] at h
  | d :: xs, e :: ys, z, h => by
    rcases List.mem_cons.mp h with rfl | h
    · exact ⟨d, e, rfl, List.mem_cons_self, List.mem_cons_self⟩
    · obtain ⟨d', e', h1, h2, h3⟩ := zip_mem h
      exact ⟨d', e', h1, List.mem_cons_of_mem _ h2, List.mem_cons_of_mem _ h3⟩
theorem zip_len : ∀ {xs ys : List D}, (zipD xs ys).length = min xs.length ys.length
  | [], ys => by simp [zipD]
  | d :: xs, [] => by simp [zipD]
  | d :: xs, e :: ys => by simp [zipD, zip_len (xs := xs) (ys := ys)]
theorem steps_ints (xs : List D) : ∃ ns : List Int, xs.filterMap stepB = ns.map .int := by
  induction xs with
  | nil => exact ⟨[], rfl⟩
  | cons d xs ih =>
    obtain ⟨ns, e⟩ := ih
    rw [List.filterMap_cons]
    cases h : stepB d with
    | none => exact ⟨ns, e⟩
    | some y =>
      have : y = .int 1 := by
        unfold stepB at h
        split at h
        · split at h
          · cases h
          · cases h; rfl
        · cases h
      exact ⟨1 :: ns, by rw [this, e]; rfl⟩
theorem law_is_poly_ok {K : Nat} (hK : 5 ≤ K) {p : Int} {d : D} {S : Sto} (h : pureB d = true) (hz : ∀ xs, d = .tup xs → xs.length ≤ 100000) : M0.callS K "_law_is_poly" [.int p, d] S = .ok (.bl (polyB p d)) S := by
  obtain ⟨k, rfl⟩ : ∃ k, K = k + 3 := ⟨K - 3, by omega⟩
  by_cases ht : isTupB d = true
  · obtain ⟨xs, rfl⟩ : ∃ ds, d = .tup ds := by cases d <;> first | exact ⟨_, rfl⟩ | cases ht
    have hz := hz xs rfl
    rw [polyB_eq]
    refine c_ret fd__law_is_poly rfl (s_if (t_not (t_val rfl (q_blt (l_cons rfl (q_loc (i := 1) (by decide +kernel) rfl) (l_cons rfl (q_glo (by decide +kernel) (by decide +kernel) rfl) l_nil)) (by decide +kernel) (by decide +kernel) rfl (isi_tup h)) rfl))
      (fun h1 _ => by simp [isTupB] at h1)
      (fun h2 => (j_next s_nil 
      (s_for (x_val (q_loc (i := 1) (by decide +kernel) rfl) rfl rfl) rfl rfl rfl ?_))))
    refine for_ind (xs := xs) (P := fun ys σ S' => S' = S ∧ pureBs ys = true ∧ σ = [some (.int p), some (.tup xs), none, none, none] ∧ xs.all (termB p) = ys.all (termB p)) (R := fun r1 => r1.bind _ = _) (fun _ _ _ _ => walks_tup) ?_ ?_ xs 0 _ _ _ rfl (Nat.lt_succ_self _) ⟨rfl, h, rfl, rfl⟩
    · rintro σ S' ⟨rfl, _, rfl, e⟩
      have hall : xs.all (termB p) = true := e
      have form : ∀ d ∈ xs, ∃ i j c, d = .tup [.int i, .int j, .int c] := fun d hd => termB_tup (List.all_eq_true.mp hall d hd)
      obtain ⟨ones, hones⟩ := steps_ints (zipD xs (xs.drop 1))
      refine j_next rfl (Eq.trans (s_ret (q_cmp rfl (q_lc (o := stepB) (xs := zipD xs (xs.drop 1)) (x_zip (q_loc (i := 1) (by decide +kernel) rfl) (q_sl (q_loc (i := 1) (by decide +kernel) rfl) (p_some q_int) p_none rfl) (by decide +kernel) rfl (by rw [show Dp.cutD xs (some 1) none = xs.drop 1 from cut_from (k := 1)]; rfl)) (by decide +kernel) rfl (fun _ => walks_zipT) zip_len.symm (by rw [zip_len]; omega) (fun d hd S1 => ?_) (fun d hd y hy => ?_)) (q_lst rfl l_nil (Nat.le_of_ble_eq_true rfl)) (eq_nil_lv' (by rw [hones]; exact shape_ints ones)))) ?_)
      · obtain ⟨d1, e1, rfl, m1, m2⟩ := zip_mem hd
        obtain ⟨i, j, c, rfl⟩ := form d1 m1
        obtain ⟨i', j', c', rfl⟩ := form e1 (List.mem_of_mem_drop m2)
        refine Eq.trans (turn_if rfl rfl (t_cmp rfl (q_sl (q_loc (i := 3) (by decide +kernel) rfl) p_none (p_some q_int) rfl) (q_sl (q_loc (i := 4) (by decide +kernel) rfl) p_none (p_some q_int) rfl) ge_pairs) (fun _ => q_int)) ?_
        congr 1
        show (if (!ltP i j i' j') = true then some (D.int 1) else none) = (if ltP i j i' j' = true then none else some (D.int 1))
        cases ltP i j i' j' <;> rfl
      · unfold stepB at hy
        split at hy
        · split at hy
          · cases hy
          · cases hy; rfl
        · cases hy
      · rw [zip_asc, hall]; rfl
    · rintro d ys σ S' ⟨rfl, hp, rfl, e⟩
      rw [pureBs_cons, Bool.and_eq_true] at hp
      refine ⟨[(2, d)], rfl, ?_⟩
      have fin : termB p d = false → (SR.ret (.bl false) S').bind (exs (ex (M0.gam d__law_is_poly.N d__law_is_poly.scope.names (M0.call (k + 2)) (M0.lamF d__law_is_poly (M0.call (k + 1)) (M0.call k)) noAct) 40 d__law_is_poly.scope) (d__law_is_poly.body.drop 2)) = SR.ret (.bl (xs.all (termB p) && ascB xs)) S' := fun hT => by
        rw [e]; simp [hT, SR.bind]
      by_cases hk : ∃ a b c, d = .tup [a, b, c]
      · obtain ⟨a, b, c, rfl⟩ := hk
        have hq := hp.1
        simp only [pureB_tup, pureBs_cons, Bool.and_eq_true] at hq
        have hq : pureB a = true ∧ pureB b = true ∧ pureB c = true := ⟨hq.1, hq.2.1, hq.2.2.1⟩
        cases h3 : numIn 1 (p - 1) c with
        | false =>
          refine .inr (.inl ⟨.bl false, S', (s_if (t_bool (b_or rfl (t_not (t_val rfl (q_blt (l_cons rfl (q_loc (i := 2) (by decide +kernel) rfl) (l_cons rfl (q_glo (by decide +kernel) (by decide +kernel) rfl) l_nil)) (by decide +kernel) (by decide +kernel) rfl (isi_tup hp.1)) rfl)) (fun h4 => (b_or rfl (t_cmp rfl (q_blt (l_cons rfl (q_loc (i := 2) (by decide +kernel) rfl) l_nil) (by decide +kernel) (by decide +kernel) rfl rfl) q_int Dp.ne_int) (fun h3 => (b_one (t_not (t_val rfl (q_call (l_cons rfl (q_ix rfl (q_loc (i := 2) (by decide +kernel) rfl) q_int (ix_tup (by decide) rfl)) (l_cons rfl q_int (l_cons rfl (q_bin (q_loc (i := 0) (by decide +kernel) rfl) q_int rfl) l_nil))) fd__law_is_from rfl (by decide +kernel) rfl rfl (law_is_from_ok (by omega) hq.2.2)) rfl))))))))
            (fun h5 _ => (Eq.trans (j_ret (s_ret q_bl)) rfl))
            (fun h5 => by simp [isTupB, h3] at h5)), ?_⟩)
          exact fin (by simp [termB, h3])
        | true =>
          cases h1 : numIn 0 999 a with
          | false =>
            refine .inr (.inl ⟨.bl false, S', (s_if (t_bool (b_or rfl (t_not (t_val rfl (q_blt (l_cons rfl (q_loc (i := 2) (by decide +kernel) rfl) (l_cons rfl (q_glo (by decide +kernel) (by decide +kernel) rfl) l_nil)) (by decide +kernel) (by decide +kernel) rfl (isi_tup hp.1)) rfl)) (fun h4 => (b_or rfl (t_cmp rfl (q_blt (l_cons rfl (q_loc (i := 2) (by decide +kernel) rfl) l_nil) (by decide +kernel) (by decide +kernel) rfl rfl) q_int Dp.ne_int) (fun h3 => (b_one (t_not (t_val rfl (q_call (l_cons rfl (q_ix rfl (q_loc (i := 2) (by decide +kernel) rfl) q_int (ix_tup (by decide) rfl)) (l_cons rfl q_int (l_cons rfl (q_bin (q_loc (i := 0) (by decide +kernel) rfl) q_int rfl) l_nil))) fd__law_is_from rfl (by decide +kernel) rfl rfl (law_is_from_ok (by omega) hq.2.2)) rfl))))))))
              (fun h5 _ => by simp [isTupB, h3] at h5)
              (fun h6 => (j_next s_nil 
              (s_if (t_bool (b_or rfl (t_not (t_val rfl (q_call (l_cons rfl (q_ix rfl (q_loc (i := 2) (by decide +kernel) rfl) q_int (ix_tup (by decide) rfl)) (l_cons rfl q_int (l_cons rfl q_int l_nil))) fd__law_is_from rfl (by decide +kernel) rfl rfl (law_is_from_ok (by omega) hq.1)) rfl)) (fun h7 => (b_one (t_not (t_val rfl (q_call (l_cons rfl (q_ix rfl (q_loc (i := 2) (by decide +kernel) rfl) q_int (ix_tup (by decide) rfl)) (l_cons rfl q_int (l_cons rfl q_int l_nil))) fd__law_is_from rfl (by decide +kernel) rfl rfl (law_is_from_ok (by omega) hq.2.1)) rfl))))))
              (fun h5 _ => (Eq.trans (j_ret (s_ret q_bl)) rfl))
              (fun h5 => by simp [h1] at h5))))), ?_⟩)
            exact fin (by simp [termB, h1])
          | true =>
            cases h2 : numIn 0 999 b with
            | false =>
              refine .inr (.inl ⟨.bl false, S', (s_if (t_bool (b_or rfl (t_not (t_val rfl (q_blt (l_cons rfl (q_loc (i := 2) (by decide +kernel) rfl) (l_cons rfl (q_glo (by decide +kernel) (by decide +kernel) rfl) l_nil)) (by decide +kernel) (by decide +kernel) rfl (isi_tup hp.1)) rfl)) (fun h4 => (b_or rfl (t_cmp rfl (q_blt (l_cons rfl (q_loc (i := 2) (by decide +kernel) rfl) l_nil) (by decide +kernel) (by decide +kernel) rfl rfl) q_int Dp.ne_int) (fun h3 => (b_one (t_not (t_val rfl (q_call (l_cons rfl (q_ix rfl (q_loc (i := 2) (by decide +kernel) rfl) q_int (ix_tup (by decide) rfl)) (l_cons rfl q_int (l_cons rfl (q_bin (q_loc (i := 0) (by decide +kernel) rfl) q_int rfl) l_nil))) fd__law_is_from rfl (by decide +kernel) rfl rfl (law_is_from_ok (by omega) hq.2.2)) rfl))))))))
                (fun h5 _ => by simp [isTupB, h3] at h5)
                (fun h6 => (j_next s_nil 
                (s_if (t_bool (b_or rfl (t_not (t_val rfl (q_call (l_cons rfl (q_ix rfl (q_loc (i := 2) (by decide +kernel) rfl) q_int (ix_tup (by decide) rfl)) (l_cons rfl q_int (l_cons rfl q_int l_nil))) fd__law_is_from rfl (by decide +kernel) rfl rfl (law_is_from_ok (by omega) hq.1)) rfl)) (fun h7 => (b_one (t_not (t_val rfl (q_call (l_cons rfl (q_ix rfl (q_loc (i := 2) (by decide +kernel) rfl) q_int (ix_tup (by decide) rfl)) (l_cons rfl q_int (l_cons rfl q_int l_nil))) fd__law_is_from rfl (by decide +kernel) rfl rfl (law_is_from_ok (by omega) hq.2.1)) rfl))))))
                (fun h5 _ => (Eq.trans (j_ret (s_ret q_bl)) rfl))
                (fun h5 => by simp [h1, h2] at h5))))), ?_⟩)
              exact fin (by simp [termB, h2])
            | true =>
              refine .inl ⟨_, _, (s_if (t_bool (b_or rfl (t_not (t_val rfl (q_blt (l_cons rfl (q_loc (i := 2) (by decide +kernel) rfl) (l_cons rfl (q_glo (by decide +kernel) (by decide +kernel) rfl) l_nil)) (by decide +kernel) (by decide +kernel) rfl (isi_tup hp.1)) rfl)) (fun h4 => (b_or rfl (t_cmp rfl (q_blt (l_cons rfl (q_loc (i := 2) (by decide +kernel) rfl) l_nil) (by decide +kernel) (by decide +kernel) rfl rfl) q_int Dp.ne_int) (fun h3 => (b_one (t_not (t_val rfl (q_call (l_cons rfl (q_ix rfl (q_loc (i := 2) (by decide +kernel) rfl) q_int (ix_tup (by decide) rfl)) (l_cons rfl q_int (l_cons rfl (q_bin (q_loc (i := 0) (by decide +kernel) rfl) q_int rfl) l_nil))) fd__law_is_from rfl (by decide +kernel) rfl rfl (law_is_from_ok (by omega) hq.2.2)) rfl))))))))
                (fun h5 _ => by simp [isTupB, h3] at h5)
                (fun h6 => (j_next s_nil 
                (s_if (t_bool (b_or rfl (t_not (t_val rfl (q_call (l_cons rfl (q_ix rfl (q_loc (i := 2) (by decide +kernel) rfl) q_int (ix_tup (by decide) rfl)) (l_cons rfl q_int (l_cons rfl q_int l_nil))) fd__law_is_from rfl (by decide +kernel) rfl rfl (law_is_from_ok (by omega) hq.1)) rfl)) (fun h7 => (b_one (t_not (t_val rfl (q_call (l_cons rfl (q_ix rfl (q_loc (i := 2) (by decide +kernel) rfl) q_int (ix_tup (by decide) rfl)) (l_cons rfl q_int (l_cons rfl q_int l_nil))) fd__law_is_from rfl (by decide +kernel) rfl rfl (law_is_from_ok (by omega) hq.2.1)) rfl))))))
                (fun h5 _ => by simp [h1, h2] at h5)
                (fun h5 => j_next s_nil s_nil))))), rfl, rfl, hp.2, rfl, ?_⟩
              rw [e]; simp [termB, h1, h2, h3]
      · have hT : termB p d = false := by
          cases hh : termB p d with
          | false => rfl
          | true => obtain ⟨i, j, c, r⟩ := termB_tup hh; exact absurd ⟨_, _, _, r⟩ hk
        by_cases ht : isTupB d = true
        · obtain ⟨ds, rfl⟩ : ∃ ds, d = .tup ds := by cases d <;> first | exact ⟨_, rfl⟩ | cases ht
          have hl : ds.length ≠ 3 := fun z => by
            match ds, z with
            | [a, b, c], _ => exact hk ⟨a, b, c, rfl⟩
          have hl2 : ((ds.length : Int) == 3) = false := beq_eq_false_iff_ne.mpr (by omega)
          refine .inr (.inl ⟨.bl false, S', s_if (t_bool (b_or rfl (t_not (t_val rfl (q_blt (l_cons rfl (q_loc (i := 2) (by decide +kernel) rfl) (l_cons rfl (q_glo (by decide +kernel) (by decide +kernel) rfl) l_nil)) (by decide +kernel) (by decide +kernel) rfl (isi_tup hp.1)) rfl)) (fun h4 => (b_or (t' := false) rfl (t_cmp rfl (q_blt (l_cons rfl (q_loc (i := 2) (by decide +kernel) rfl) l_nil) (by decide +kernel) (by decide +kernel) rfl rfl) q_int Dp.ne_int) (fun h3 => by simp [hl2] at h3)))))
            (fun h5 _ => (Eq.trans (j_ret (s_ret q_bl)) rfl))
            (fun h5 => by simp [isTupB, hl2] at h5), fin hT⟩)
        · refine .inr (.inl ⟨.bl false, S', s_if (t_bool (b_or (t' := false) rfl (t_not (t_val rfl (q_blt (l_cons rfl (q_loc (i := 2) (by decide +kernel) rfl) (l_cons rfl (q_glo (by decide +kernel) (by decide +kernel) rfl) l_nil)) (by decide +kernel) (by decide +kernel) rfl (isi_tup hp.1)) rfl)) (fun h4 => by simp at h4; exact absurd h4 ht)))
            (fun h5 _ => (Eq.trans (j_ret (s_ret q_bl)) rfl))
            (fun h5 => by simp at h5; exact absurd h5 ht), fin hT⟩)
  · have hf : polyB p d = false := by
      cases d <;> first | rfl | exact absurd rfl ht
    rw [hf]
    exact c_ret fd__law_is_poly rfl (s_if (t_not (t_val rfl (q_blt (l_cons rfl (q_loc (i := 1) (by decide +kernel) rfl) (l_cons rfl (q_glo (by decide +kernel) (by decide +kernel) rfl) l_nil)) (by decide +kernel) (by decide +kernel) rfl (isi_tup h)) rfl))
      (fun h1 _ => (Eq.trans (j_ret (s_ret q_bl)) rfl))
      (fun h2 => by simp at h2; exact absurd h2 ht))
end Law
end
section
set_option maxRecDepth 100000
set_option maxHeartbeats 1000000
namespace Law
open PySem PySem.Spec PyProof.Rows L2 Dp LamX
theorem fd__law_mixed : M0.find "_law_mixed" = some d__law_mixed := by kernel_rfl
theorem fd__law_caught : M0.find "_law_caught" = some d__law_caught := by kernel_rfl
variable {ns C : List Int} {X : Sto} {s : Sta}
theorem ints_clo {n : Nat} : ∀ L : List Int, cloBs n (L.map .int) = true
  | [] => rfl
  | i :: L => by
    show (true && cloBs n (L.map .int)) = true
    rw [ints_clo L]; rfl
theorem keep_St {s' : Sta} : keepC (St ns C s X) (St ns C s' X) = true := by
  refine keep_of fun i m h => ?_
  match i, h with
  | 0, h => exact .inl h
  | 1, h => exact .inl h
  | 2, h =>
    have h : some (M.lst (s'.L.map .int)) = some m := h
    cases h
    exact .inr (ints_clo _)
  | 3, h =>
    have h : some (M.dk (stK C s'.l s'.t)) = some m := h
    cases h
    refine .inr ?_
    show (decide (2 < (St ns C s' X).length) && (cloBs _ (C.map .int) && (true && (true && true)))) = true
    rw [ints_clo]
    simp [St]
  | i + 4, h => exact .inl h
theorem St_app {Y : Sto} : St ns C s X ++ Y = St ns C s (X ++ Y) := rfl
theorem St_at {m : M} (i : Nat) : (St ns C s (X ++ [m]))[4 + X.length]? = some m := by
  show (_ :: _ :: _ :: _ :: (X ++ [m]))[4 + X.length]? = some m
  rw [show 4 + X.length = X.length + 4 by omega]
  simp
noncomputable abbrev mG (k : Nat) : Gam := M0.gam d__law_mixed.N d__law_mixed.scope.names (M0.call (k + 2)) (M0.lamF d__law_mixed (M0.call (k + 1)) (M0.call k)) noAct
theorem mix_at1 {L F : List D} : (St ns C s (X ++ [.lst L, .lst F]))[4 + X.length]? = some (.lst L) := by
  show (_ :: _ :: _ :: _ :: (X ++ [M.lst L, M.lst F]))[4 + X.length]? = _
  rw [show 4 + X.length = X.length + 4 by omega]
  simp
theorem mix_at2 {L F : List D} : (St ns C s (X ++ [.lst L, .lst F]))[4 + X.length + 1]? = some (.lst F) := by
  show (_ :: _ :: _ :: _ :: (X ++ [M.lst L, M.lst F]))[4 + X.length + 1]? = _
  rw [show 4 + X.length + 1 = (X.length + 1) + 4 by omega]
  simp
theorem mix_set1 {L F : List D} {m : M} : (St ns C s (X ++ [.lst L, .lst F])).set (4 + X.length) m = St ns C s (X ++ [m, .lst F]) := by
  show (_ :: _ :: _ :: _ :: (X ++ [M.lst L, M.lst F])).set (4 + X.length) m = _ :: _ :: _ :: _ :: (X ++ [m, M.lst F])
  rw [show 4 + X.length = X.length + 4 by omega]
  simp
theorem mix_set2 {L F : List D} {m : M} : (St ns C s (X ++ [.lst L, .lst F])).set (4 + X.length + 1) m = St ns C s (X ++ [.lst L, m]) := by
  show (_ :: _ :: _ :: _ :: (X ++ [M.lst L, M.lst F])).set (4 + X.length + 1) m = _ :: _ :: _ :: _ :: (X ++ [M.lst L, m])
  rw [show 4 + X.length + 1 = (X.length + 1) + 4 by omega]
  simp
theorem mixed_loop (hC : Cok C) {k : Nat} (hk : 3 ≤ k + 2) {sv : D} : ∀ (m : Nat) (L F : List D) (s : Sta), s.ok → s.t + L.length ≤ 1000000000 → L.length < m → F.length + L.length ≤ 100000 → (∀ d ∈ L, OkD d) →
    ∃ F' s', whileL keepC false (tv (mG k) 39 d__law_mixed.scope (whileT (nthS d__law_mixed.body 1))) (exs (ex (mG k) 39 d__law_mixed.scope) (loopB (nthS d__law_mixed.body 1))) m [some (.ref 3), some sv, some (.ref (4 + X.length)), some (.ref (4 + X.length + 1))] (St ns C s (X ++ [.lst L, .lst F])) = .next [some (.ref 3), some sv, some (.ref (4 + X.length)), some (.ref (4 + X.length + 1))] (St ns C s' (X ++ [.lst [], .lst F'])) ∧ F'.Perm (F ++ L) ∧ s'.ok ∧ s'.t ≤ s.t + L.length
  | 0, L, _, _, _, _, hm, _, _ => absurd hm (Nat.not_lt_zero _)
  | m + 1, L, F, s, hs, ht, hm, hz, ho => by
    cases L with
    | nil =>
      refine ⟨F, s, w_end ?_, by simp, hs, by simp⟩
      exact Eq.trans (t_cmp rfl (q_loc (i := 2) (by decide +kernel) rfl) (q_lst rfl l_nil (Nat.le_of_ble_eq_true rfl)) (ne_nil_ref (lst_of mix_at1) (shapeB_all ho))) rfl
    | cons d0 L0 =>
      have hlen : (0 : Int) < ((d0 :: L0).length : Int) ∧ ((d0 :: L0).length : Int) < 1073741824 := by simp at hz ⊢; omega
      obtain ⟨v, s1, e1, g1, g2, r, rfl, g3, g4⟩ := draw_d (ns := ns) (X := X ++ [.lst (d0 :: L0), .lst F]) hC (K := k + 2) hk hlen s hs (by simp at ht ⊢; omega)
      have hj : r.toNat < (d0 :: L0).length := by omega
      have m1 := mix_at1 (ns := ns) (C := C) (X := X) (s := s) (L := d0 :: L0) (F := F)
      have m2 := mix_at1 (ns := ns) (C := C) (X := X) (s := s1) (L := d0 :: L0) (F := F)
      have m3 := mix_at2 (ns := ns) (C := C) (X := X) (s := s1) (L := (d0 :: L0).eraseIdx r.toNat) (F := F)
      have m4 := mix_at2 (ns := ns) (C := C) (X := X) (s := s) (L := d0 :: L0) (F := F)
      obtain ⟨F', s', e2, p2, o2, t2⟩ := mixed_loop hC hk (sv := sv) m ((d0 :: L0).eraseIdx r.toNat) (F ++ [(d0 :: L0)[r.toNat]]) s1 g1 (by rw [List.length_eraseIdx_of_lt hj]; simp at ht ⊢; omega) (by rw [List.length_eraseIdx_of_lt hj]; simp at hm ⊢; omega) (by rw [List.length_eraseIdx_of_lt hj]; simp at hz ⊢; omega) (fun d hd => ho d (List.mem_of_mem_eraseIdx hd))
      refine ⟨F', s', ?_, ?_, o2, ?_⟩
      · have hb : exs (ex (mG k) 39 d__law_mixed.scope) (loopB (nthS d__law_mixed.body 1)) [some (.ref 3), some sv, some (.ref (4 + X.length)), some (.ref (4 + X.length + 1))] (St ns C s (X ++ [.lst (d0 :: L0), .lst F])) = .next [some (.ref 3), some sv, some (.ref (4 + X.length)), some (.ref (4 + X.length + 1))] (St ns C s1 (X ++ [.lst ((d0 :: L0).eraseIdx r.toNat), .lst (F ++ [(d0 :: L0)[r.toNat]])])) :=
          s_exM (S1 := St ns C s1 (X ++ [.lst ((d0 :: L0).eraseIdx r.toNat), .lst (F ++ [(d0 :: L0)[r.toNat]])])) (q_meth (S2 := St ns C s1 (X ++ [.lst ((d0 :: L0).eraseIdx r.toNat), .lst F])) (q_loc (i := 3) (by decide +kernel) rfl) (q_meth (q_loc (i := 2) (by decide +kernel) rfl) (q_call (l_cons rfl (q_loc (i := 0) (by decide +kernel) rfl) (l_cons rfl (q_blt (l_cons rfl (q_loc (i := 2) (by decide +kernel) rfl) l_nil) (by decide +kernel) (by decide +kernel) rfl (len_ref (ds := d0 :: L0) m1)) l_nil)) fd__law_draw rfl (by decide +kernel) rfl rfl e1) (by decide +kernel) rfl (lst_of m1) (Eq.trans (pop_ref m2 g3 (by simp at hz; omega) (List.getElem?_eq_getElem hj)) (by rw [mix_set1]))) (by decide +kernel) rfl (lst_of m4) (Eq.trans (app_ref m3 (by simp at hz; omega)) (by rw [mix_set2]))) s_nil
        exact w_go (Eq.trans (t_cmp rfl (q_loc (i := 2) (by decide +kernel) rfl) (q_lst rfl l_nil (Nat.le_of_ble_eq_true rfl)) (ne_nil_ref (lst_of m1) (shapeB_all ho))) rfl) hb (by simp [St]) e2
      · refine p2.trans ?_
        rw [List.append_assoc]
        refine List.Perm.append_left F ?_
        exact (by simpa using erase_perm (List.getElem?_eq_getElem hj))
      · rw [List.length_eraseIdx_of_lt hj] at t2
        simp at t2 ⊢; omega
theorem mixed_d (hC : Cok C) {K : Nat} (hK : 4 ≤ K) {ds : List D} (hz : ds.length ≤ 10000) (ho : ∀ d ∈ ds, OkD d) (hc : ∀ d ∈ ds, pureB d = true) : Draws ns C X ds.length (M0.callS K "_law_mixed" [.ref 3, .lv ds]) (fun v => ∃ es : List D, v = .lv es ∧ es.Perm ds) := fun s hs ht => by
  obtain ⟨k, rfl⟩ : ∃ k, K = k + 3 := ⟨K - 3, by omega⟩
  obtain ⟨F', s', e, p, o, t⟩ := mixed_loop (X := X) (ns := ns) hC (k := k) (by omega) (sv := .lv ds) 100000 ds [] s hs ht (by omega) (by simp; omega) ho
  have p : F'.Perm ds := by simpa using p
  have hcl : ∀ d ∈ F', cloB (St ns C s X).length d = true := fun d hd => pure_clo (hc d (p.mem_iff.mp hd))
  refine ⟨.lv F', s', ?_, o, t, F', rfl, p⟩
  refine Eq.trans (congrArg (scope keepC (St ns C s X)) (q_def fd__law_mixed rfl (d_ret
    (s_par (q_tup rfl (l_cons rfl (q_blt (l_cons rfl (q_loc (i := 1) (by decide +kernel) rfl) l_nil) (by decide +kernel) (by decide +kernel) rfl rfl) (l_cons rfl (q_lsO rfl l_nil (Nat.le_of_ble_eq_true rfl)) l_nil)) (Nat.le_of_ble_eq_true rfl)) rfl rfl (by simp) 
      (s_whl (σ1 := [some (.ref 3), some (.lv ds), some (.ref (4 + X.length)), some (.ref (4 + X.length + 1))]) (S1 := St ns C s' (X ++ [.lst [], .lst F'])) rfl (Eq.trans (by
        have a1 : (St ns C s X).length = 4 + X.length := by show X.length + 4 = _; omega
        have a2 : (St ns C s X ++ [M.lst ds]).length = 4 + X.length + 1 := by rw [List.length_append, a1]; rfl
        have a3 : St ns C s X ++ [M.lst ds] ++ [M.lst []] = St ns C s (X ++ [.lst ds, .lst []]) := by rw [List.append_assoc]; rfl
        rw [a2, a1, a3]
        rfl) e)
      (s_ret (q_loc (i := 3) (by decide +kernel) rfl))))))) ?_
  · have : St ns C s' (X ++ [.lst [], .lst F']) = St ns C s' X ++ [.lst [], .lst F'] := rfl
    rw [this]
    exact scope_ref rfl keep_St (by rw [← this]; exact mix_at2) (by show X.length + 4 ≤ _; omega) hcl
end Law
end
section
set_option maxRecDepth 100000
set_option maxHeartbeats 1000000
namespace Law
open PySem PySem.Spec PyProof.Rows L2 Dp LamX
theorem fd__law_begun : M0.find "_law_begun" = some d__law_begun := by kernel_rfl
theorem check_prime_ok {K : Nat} (hK : 5 ≤ K) {d : D} {S : Sto} (h : pureB d = true) : M0.callS K "check_prime" [d] S = if primeB d = true then .ok .non S else .exc ⟨"BadPrime", none⟩ S := by
  obtain ⟨k, rfl⟩ : ∃ k, K = k + 3 := ⟨K - 3, by omega⟩
  cases hp : primeB d with
  | true =>
    rw [if_pos rfl]
    exact c_nxt fd_check_prime rfl (s_if (t_not (t_val rfl (q_call (l_cons rfl (q_loc (i := 0) (by decide +kernel) rfl) l_nil) fd_is_prime rfl (by decide +kernel) rfl rfl (is_prime_ok (by omega) h)) rfl))
      (fun h1 _ => by simp [hp] at h1)
      (fun h2 => (j_next s_nil s_nil)))
  | false =>
    rw [if_neg (by decide)]
    exact c_exc fd_check_prime rfl (s_if (t_not (t_val rfl (q_call (l_cons rfl (q_loc (i := 0) (by decide +kernel) rfl) l_nil) fd_is_prime rfl (by decide +kernel) rfl rfl (is_prime_ok (by omega) h)) rfl))
      (fun h1 _ => (j_exc (s_rai (by decide +kernel) rfl rfl)))
      (fun h2 => by simp [hp] at h2))
theorem primeB_int {d : D} (h : primeB d = true) : ∃ p, d = .int p ∧ 2 ≤ p ∧ p ≤ 7 := by
  cases d <;> first | cases h | skip
  refine ⟨_, rfl, ?_⟩
  simp [primeB] at h
  omega
/-! ### _law_begun -/
def cells (ns : List Int) : List Int := ns.map fun i => (if i < 0 then -i else i : Int)
def larges (C : List Int) : List Int := C.filterMap fun i => if 1000000000000000000 ≤ i then some (i - 1000000000000000000) else none
abbrev S00 (ns : List Int) : Sto := [.fro (ns.map .int), .tab "law" ((("law" : Str) ++ ".<locals>.") ++ "<lambda>")]
theorem cells_eq {ns : List Int} : (ns.map D.int).filterMap (fun d => match d with | .int i => some (.int (if i < 0 then -i else i)) | _ => none) = (cells ns).map D.int := by
  induction ns with
  | nil => rfl
  | cons i ns ih =>
    simp only [List.map_cons, cells, List.filterMap_cons]
    rw [ih]; rfl
theorem large_eq {C : List Int} : (C.map D.int).filterMap (fun d => match d with | .int i => if 1000000000000000000 ≤ i then some (.int (i - 1000000000000000000)) else none | _ => none) = (larges C).map D.int := by
  induction C with
  | nil => rfl
  | cons i C ih =>
    simp only [List.map_cons, larges, List.filterMap_cons]
    by_cases h : 1000000000000000000 ≤ i
    · simp only [if_pos h]; rw [ih]; rfl
    · simp only [if_neg h]; rw [ih]; rfl
theorem begun_ok {K : Nat} (hK : 3 ≤ K) {ns : List Int} (hz : ns.length ≤ 63) : M0.call K "_law_begun" [.ref 0] (S00 ns) = .ok (.ref 3) (St ns (cells ns) ⟨larges (cells ns), 0, 0⟩ []) := by
  obtain ⟨k, rfl⟩ : ∃ k, K = k + 3 := ⟨K - 3, by omega⟩
  refine q_def fd__law_begun rfl (d_ret (s_set (Eq.trans (q_lc (o := fun d => match d with | .int i => some (.int (if i < 0 then -i else i)) | _ => none) (xs := ns.map .int) (x_val (q_loc (i := 0) (by decide +kernel) rfl) rfl rfl) (by decide +kernel) rfl (fun _ _ => rfl) rfl (by simp; omega) ?_ ?_) (by rw [cells_eq])) (by decide +kernel) (i := 1) (by decide +kernel) 
  (s_set (S1 := S00 ns ++ [.lst ((larges (cells ns)).map .int)]) (Eq.trans (q_lcO (o := fun d => match d with | .int i => if 1000000000000000000 ≤ i then some (.int (i - 1000000000000000000)) else none | _ => none) (xs := (cells ns).map .int) (x_val (q_loc (i := 1) (by decide +kernel) rfl) rfl rfl) (by decide +kernel) rfl (fun _ => walks_lv) rfl (by simp [cells]; omega) ?_) (by rw [large_eq]; rfl)) (by decide +kernel) (i := 2) (by decide +kernel) 
  (s_ret (Eq.trans (q_dO (kvs := [(.inr "large", .ref 2), (.inr "cells", .lv ((cells ns).map .int)), (.inr "left", .int 0), (.inr "turn", .int 0)]) rfl rfl (fun _ => dp_cons q_str (q_loc (i := 2) (by decide +kernel) rfl) (dp_cons q_str (q_loc (i := 1) (by decide +kernel) rfl) (dp_cons q_str q_int (dp_cons q_str q_int dp_nil rfl) rfl) rfl) rfl) (by simp)) rfl)))))
  · intro d hd S1
    obtain ⟨i, hi, rfl⟩ := List.mem_map.mp hd
    exact turn_one rfl rfl (q_blt (l_cons rfl (q_loc (i := 3) (by decide +kernel) rfl) l_nil) (by decide +kernel) (by decide +kernel) rfl rfl)
  · intro d hd y hy
    obtain ⟨i, hi, rfl⟩ := List.mem_map.mp hd
    cases hy; rfl
  · intro d hd S1
    obtain ⟨i, hi, rfl⟩ := List.mem_map.mp hd
    refine Eq.trans (turn_if (b := decide (1000000000000000000 ≤ i)) rfl rfl (t_cmp rfl (q_loc (i := 3) (by decide +kernel) rfl) (q_bin q_int q_int (l_pow ⟨by decide, by decide⟩ ⟨by decide, by decide⟩)) rfl) (fun _ => (q_bin (q_loc (i := 3) (by decide +kernel) rfl) (q_bin q_int q_int (l_pow ⟨by decide, by decide⟩ ⟨by decide, by decide⟩)) rfl))) ?_
    by_cases h : 1000000000000000000 ≤ i
    · simp only [decide_eq_true h, if_pos h, if_true]; rfl
    · simp only [decide_eq_false h, if_neg h]; rfl
/-! ### _law_caught -/
theorem caught_x {call1 : Str → List D → Sto → Res D} {A : Dp.Act} {S S1 : Sto} {x : Exn} (hS : S[A.m]? = some (M.code A.c A.q A.s A.t)) (h : A.th S = Res.exc x S1) (hx : M0.isx.lookup (x.cls, ("FillError" : Str)) = some true) :
    M0.run d__law_caught call1 noLam (actF d__law_caught.N d__law_caught.scope A) [.adr A.f] S = .ok x.d S1 := by
  unfold Mo.run
  rw [if_pos (show [D.adr A.f].length = d__law_caught.ps.length from rfl)]
  exact d_ret (s_set q_non (by decide +kernel) (i := 1) (by decide +kernel) (s_tryX (i := 2) (j := 1) (by decide +kernel) rfl (by decide +kernel) (by decide +kernel) (s_actX (Eq.trans (actF_some (i := 0) (by decide +kernel) rfl hS) h)) hx (s_ret (q_loc (i := 1) (by decide +kernel) rfl))))
theorem caught_n {call1 : Str → List D → Sto → Res D} {A : Dp.Act} {S S1 : Sto} {d : D} (hS : S[A.m]? = some (M.code A.c A.q A.s A.t)) (h : A.th S = .ok d S1) :
    M0.run d__law_caught call1 noLam (actF d__law_caught.N d__law_caught.scope A) [.adr A.f] S = .ok .non S1 := by
  unfold Mo.run
  rw [if_pos (show [D.adr A.f].length = d__law_caught.ps.length from rfl)]
  exact d_ret (s_set q_non (by decide +kernel) (i := 1) (by decide +kernel) (s_tryN (i := 2) (j := 1) (by decide +kernel) rfl (by decide +kernel) (by decide +kernel) (s_act (Eq.trans (actF_some (i := 0) (by decide +kernel) rfl hS) h) s_nil) (s_ret (q_loc (i := 1) (by decide +kernel) rfl))))
end Law
end
section
set_option maxRecDepth 100000
set_option maxHeartbeats 1000000
namespace Law
open PySem PySem.Spec PyProof.Rows L2 Dp LamX
theorem fd__law_poly : M0.find "_law_poly" = some d__law_poly := by kernel_rfl
variable {ns C : List Int} {X : Sto} {s : Sta}
/-- a pair, a term -/
def prD (q : Int × Int) : D := .tup [.int q.1, .int q.2]
def trD (t : Int × Int × Int) : D := .tup [.int t.1, .int t.2.1, .int t.2.2]
def frst (t : Int × Int × Int) : Int × Int := (t.1, t.2.1)
def ltQ (q r : Int × Int) : Prop := q.1 < r.1 ∨ (q.1 = r.1 ∧ q.2 < r.2)
/-- what the helper for polys gives -/
structure PolyT (p mx my : Int) (T : List (Int × Int × Int)) : Prop where
  asc : T.Pairwise (fun t u => ltQ (frst t) (frst u))
  bd : ∀ t ∈ T, 0 ≤ t.1 ∧ t.1 ≤ mx ∧ 0 ≤ t.2.1 ∧ t.2.1 ≤ my ∧ 1 ≤ t.2.2 ∧ t.2.2 < p
  len : T.length ≤ 1000
def rowQ (my : Int) (i : Nat) : List (Int × Int) := (List.range (my + 1).toNat).map fun (k : Nat) => ((i : Int), (k : Int))
def gridTo (my : Int) : Nat → List (Int × Int)
  | 0 => []
  | i + 1 => gridTo my i ++ rowQ my i
theorem grid_in {my : Int} {i : Nat} {q : Int × Int} (h : q ∈ gridTo my i) : 0 ≤ q.1 ∧ q.1 < i ∧ 0 ≤ q.2 ∧ q.2 < my + 1 := by
  induction i with
  | zero => cases h
  | succ i ih =>
    rcases List.mem_append.mp h with h | h
    · have := ih h; omega
    · obtain ⟨k, hk, rfl⟩ := List.mem_map.mp h
      have := List.mem_range.mp hk
      dsimp only
      omega
theorem grid_nodup {my : Int} {i : Nat} : (gridTo my i).Nodup := by
  induction i with
  | zero => exact List.nodup_nil
  | succ i ih =>
    refine List.nodup_append.mpr ⟨ih, ?_, fun q hq r hr e => ?_⟩
    · refine List.pairwise_map.mpr (List.Pairwise.imp (fun {a b} hab e => ?_) (List.nodup_range (n := (my + 1).toNat)))
      have := congrArg Prod.snd e
      dsimp only at this
      exact hab (by omega)
    · subst e
      obtain ⟨k, hk, rfl⟩ := List.mem_map.mp hr
      have := grid_in hq
      dsimp only at this
      omega
theorem grid_len {my : Int} {i : Nat} : (gridTo my i).length = i * (my + 1).toNat := by
  induction i with
  | zero => simp [gridTo]
  | succ i ih =>
    show (gridTo my i ++ rowQ my i).length = _
    rw [List.length_append, ih]
    simp [rowQ, Nat.succ_mul]
theorem key_pr {q : Int × Int} : keyD (prD q) = q := rfl
theorem key_map {Q : List (Int × Int)} : (Q.map prD).map keyD = Q := by
  rw [List.map_map]
  exact (List.map_congr_left fun q _ => rfl).trans (List.map_id Q)
theorem of_perm {es : List D} {Q : List (Int × Int)} (h : es.Perm (Q.map prD)) : es = (es.map keyD).map prD ∧ (es.map keyD).Perm Q := by
  refine ⟨?_, ?_⟩
  · rw [List.map_map]
    refine ((List.map_congr_left fun d hd => ?_).trans (List.map_id es)).symm
    obtain ⟨q, _, rfl⟩ := List.mem_map.mp (h.mem_iff.mp hd)
    rfl
  · exact (h.map keyD).trans (by rw [key_map])
theorem pairs_all {Q : List (Int × Int)} : (Q.map prD).all pairB = true := by
  rw [List.all_eq_true]
  intro d hd
  obtain ⟨q, _, rfl⟩ := List.mem_map.mp hd
  rfl
theorem sorted_lv0 {Q : List (Int × Int)} {S : Sto} : fSorted false [.lv (Q.map prD)] S = some (.lv (sortD (Q.map prD)), S) := by
  unfold fSorted
  show (if (Q.map prD).all pairB = true then newL false (sortD (Q.map prD)) S else none) = _
  rw [if_pos pairs_all]; rfl
theorem sorted_lv {Q : List (Int × Int)} {S : Sto} : fSortA false [.lv (Q.map prD)] S = some (.lv (sortD (Q.map prD)), S) := by
  unfold fSortA
  rw [sorted_lv0]
theorem sorted_asc {Q : List (Int × Int)} (h : Q.Nodup) : ∃ R : List (Int × Int), sortD (Q.map prD) = R.map prD ∧ R.Perm Q ∧ R.Pairwise ltQ := by
  have hp := of_perm (sortD_perm (Q.map prD))
  refine ⟨_, hp.1, hp.2, ?_⟩
  have hs := sortD_srt (Q.map prD)
  rw [hp.1] at hs
  generalize (sortD (Q.map prD)).map keyD = R at hp hs ⊢
  have hs : (R.map prD).Pairwise (fun x y => ltD y x = false) := hs
  rw [List.pairwise_map] at hs
  have hn : R.Nodup := hp.2.nodup_iff.mpr h
  refine List.Pairwise.imp₂ (R := fun a b => ltD (prD b) (prD a) = false) (S := fun a b => a ≠ b) (fun a b h1 h2 => ?_) hs hn
  have := SrtO.lexB_no.mp h1
  rw [key_pr, key_pr] at this
  have hne : ¬ (a.1 = b.1 ∧ a.2 = b.2) := fun e => h2 (Prod.ext e.1 e.2)
  unfold ltQ
  omega
noncomputable abbrev pG (k : Nat) : Gam := M0.gam d__law_poly.N d__law_poly.scope.names (M0.call (k + 2)) (M0.lamF d__law_poly (M0.call (k + 1)) (M0.call k)) noAct
theorem row_map' {i : Nat} : ∀ l : List Nat, (l.map fun (k : Nat) => D.int (0 + (k : Int))).filterMap (fun d => match d with | .int j => some (prD ((i : Int), j)) | _ => none) = (l.map fun (k : Nat) => ((i : Int), (k : Int))).map prD
  | [] => rfl
  | k :: l => by
    have ih := row_map' (i := i) l
    simp only [List.map_cons, List.filterMap_cons]
    rw [ih, Int.zero_add]
theorem row_map {my : Int} {i : Nat} : ((List.range (my + 1).toNat).map fun (k : Nat) => D.int (0 + (k : Int))).filterMap (fun d => match d with | .int j => some (prD ((i : Int), j)) | _ => none) = (rowQ my i).map prD := row_map' _
theorem grid_loop {k : Nat} {S : Sto} {st pr way : D} {mx my : Int} (h1 : 0 ≤ mx ∧ mx ≤ 999) (h2 : 0 ≤ my ∧ my ≤ 999) (h3 : (mx + 1).toNat * (my + 1).toNat ≤ 1000) :
    forL keepC false (.rng 0 (mx + 1).toNat) (asgE d__law_poly.N d__law_poly.scope (forT (nthS d__law_poly.body 3))) (exs (ex (pG k) 39 d__law_poly.scope) (loopB (nthS d__law_poly.body 3))) ((mx + 1).toNat + 1) 0 [some st, some pr, some (.int mx), some (.int my), some way, some (.lv []), none, none, none, none] S
      = .next [some st, some pr, some (.int mx), some (.int my), some way, some (.lv ((gridTo my (mx + 1).toNat).map prD)), none, none, none, none] S := by
  refine for_ind (xs := (List.range (mx + 1).toNat).map fun (i : Nat) => .int (0 + (i : Int)))
    (P := fun ys σ S' => ∃ i, i ≤ (mx + 1).toNat ∧ ys = ((List.range (mx + 1).toNat).map fun (i : Nat) => D.int (0 + (i : Int))).drop i ∧ S' = S ∧ σ = [some st, some pr, some (.int mx), some (.int my), some way, some (.lv ((gridTo my i).map prD)), none, none, none, none])
    (R := fun r => r = .next [some st, some pr, some (.int mx), some (.int my), some way, some (.lv ((gridTo my (mx + 1).toNat).map prD)), none, none, none, none] S) (fun _ _ _ _ => walks_rng) ?_ ?_ _ 0 _ _ _ rfl (by simp) ⟨0, by omega, rfl, rfl, rfl⟩
  · rintro σ S' ⟨i, hi, hd, rfl, rfl⟩
    have : i = (mx + 1).toNat := by
      have := congrArg List.length hd
      simp at this
      omega
    rw [this]
  · rintro d ys σ S' ⟨i, hi, hd, rfl, rfl⟩
    have hlt : i < (mx + 1).toNat := by
      have := congrArg List.length hd
      simp at this
      omega
    rw [List.drop_eq_getElem_cons (by simpa using hlt)] at hd
    simp at hd
    obtain ⟨rfl, rfl⟩ := hd
    have hl : ((gridTo my i).map prD).length + ((rowQ my i).map prD).length ≤ 100000 := by
      rw [List.length_map, List.length_map, grid_len, rowQ, List.length_map, List.length_range]
      have : i * (my + 1).toNat + (my + 1).toNat ≤ 1000 := by
        refine Nat.le_trans ?_ h3
        rw [← Nat.succ_mul]
        exact Nat.mul_le_mul_right _ hlt
      omega
    refine ⟨_, rfl, .inl ⟨_, _, s_set (q_bin (q_loc (i := 5) (by decide +kernel) rfl) (Eq.trans (q_lc (o := fun d => match d with | .int j => some (prD ((i : Int), j)) | _ => none) (xs := (List.range (my + 1).toNat).map fun (k : Nat) => .int (0 + (k : Int))) (x_rng1 (q_bin (q_loc (i := 3) (by decide +kernel) rfl) q_int rfl) (by decide +kernel) rfl (by omega)) (by decide +kernel) rfl (fun _ => walks_rng) ?_ ?_ (fun d hd S1 => ?_) ?_) (by rw [row_map])) ?_) (by decide +kernel) (i := 5) (by decide +kernel) s_nil, rfl, i + 1, hlt, ?_, rfl, rfl⟩⟩
    · show (my + 1).toNat = _
      simp
    · simp; omega
    · obtain ⟨j, _, rfl⟩ := List.mem_map.mp hd
      exact turn_one rfl rfl (q_tup rfl (l_cons rfl (q_loc (i := 6) (by decide +kernel) rfl) (l_cons rfl (q_loc (i := 8) (by decide +kernel) rfl) l_nil)) (Nat.le_of_ble_eq_true rfl))
    · intro d hd y hy
      obtain ⟨j, _, rfl⟩ := List.mem_map.mp hd
      cases hy; rfl
    · rw [cat_lv (by decide +kernel) hl, ← List.map_append]
      rfl
    · simp
end Law
end
section
set_option maxRecDepth 100000
set_option maxHeartbeats 1000000
namespace Law
open PySem PySem.Spec PyProof.Rows L2 Dp LamX
variable {ns C : List Int} {X : Sto} {s : Sta}
theorem tr_clo {n : Nat} {t : Int × Int × Int} : cloB n (trD t) = true := rfl
theorem filt_map : ∀ T : List (Int × Int × Int), (T.map trD).filterMap (fun d => match d with | .tup [_, _, .int c] => if (!(c == 0)) = true then some d else none | _ => none) = (T.filter fun t => !(t.2.2 == 0)).map trD
  | [] => rfl
  | t :: T => by
    have ih := filt_map T
    simp only [List.map_cons, List.filterMap_cons]
    rw [ih]
    simp only [trD, List.filter_cons]
    cases h : (t.2.2 == 0) <;> simp [trD]
theorem poly_of {p mx my : Int} {T : List (Int × Int × Int)} {R : List (Int × Int)} (h1 : T.map frst = R) (h2 : R.Pairwise ltQ) (h3 : ∀ q ∈ R, 0 ≤ q.1 ∧ q.1 ≤ mx ∧ 0 ≤ q.2 ∧ q.2 ≤ my) (h4 : R.length ≤ 1000) (h5 : ∀ t ∈ T, 0 ≤ t.2.2 ∧ t.2.2 < p) : PolyT p mx my (T.filter fun t => !(t.2.2 == 0)) := by
  subst h1
  refine ⟨?_, fun t ht => ?_, ?_⟩
  · exact (List.pairwise_map.mp h2).sublist List.filter_sublist
  · have hm := List.mem_filter.mp ht
    have a := h3 (frst t) (List.mem_map.mpr ⟨t, hm.1, rfl⟩)
    have b := h5 t hm.1
    have c : t.2.2 ≠ 0 := by simpa using hm.2
    unfold frst at a
    dsimp only at a
    omega
  · have := List.length_filter_le (fun t : Int × Int × Int => !(t.2.2 == 0)) T
    simp at h4
    omega
theorem poly_rest (hC : Cok C) {k : Nat} (hk : 3 ≤ k + 2) {p mx my : Int} {way : D} (hp : 2 ≤ p ∧ p ≤ 7) {Q : List (Int × Int)} (hn : Q.Nodup) (hq : ∀ q ∈ Q, 0 ≤ q.1 ∧ q.1 ≤ mx ∧ 0 ≤ q.2 ∧ q.2 ≤ my) (hl : Q.length ≤ 1000) (hs : s.ok) (ht : s.t + 1000 ≤ 1000000000) :
    ∃ T s', exs (ex (pG k) 40 d__law_poly.scope) (d__law_poly.body.drop 5) [some (.ref 3), some (.int p), some (.int mx), some (.int my), some way, some (.lv (Q.map prD)), none, none, none, none] (St ns C s X) = .ret (.tup (T.map trD)) (St ns C s' X) ∧ PolyT p mx my T ∧ s'.ok ∧ s'.t ≤ s.t + 1000 := by
  obtain ⟨R, e0, hR, hA⟩ := sorted_asc hn
  have hRl : R.length ≤ 1000 := by rw [hR.length_eq]; exact hl
  have he : ∃ s' acc, ev (pG k) 39 d__law_poly.scope (valueE (nthS d__law_poly.body 5)) [some (.ref 3), some (.int p), some (.int mx), some (.int my), some way, some (.lv (Q.map prD)), none, none, none, none] (St ns C s X) = .ok (.lv acc) (St ns C s' X) ∧ s'.ok ∧ ∃ (T : List (Int × Int × Int)) (R2 : List (Int × Int)), [] = R2.map prD ∧ T.map frst ++ R2 = R ∧ acc = T.map trD ∧ (∀ t ∈ T, 0 ≤ t.2.2 ∧ t.2.2 < p) ∧ s'.t + R2.length ≤ s.t + R.length := by
    refine q_lcS (F := fun s => St ns C s X) (n0 := (St ns C s X).length) (src := .lv (R.map prD)) (xs := R.map prD) (s := s) 
      (fun ys s2 acc => s2.ok ∧ ∃ (T : List (Int × Int × Int)) (R2 : List (Int × Int)), ys = R2.map prD ∧ T.map frst ++ R2 = R ∧ acc = T.map trD ∧ (∀ t ∈ T, 0 ≤ t.2.2 ∧ t.2.2 < p) ∧ s2.t + R2.length ≤ s.t + R.length)
      (fun _ => rfl)
      (x_call (q_blt (l_cons rfl (q_loc (i := 5) (by decide +kernel) rfl) l_nil) (by decide +kernel) (by decide +kernel) rfl (sorted_lv.trans (by rw [e0]))) (by decide +kernel) rfl) (by decide +kernel) (by decide +kernel) (fun _ => walks_lv) rfl (by simp; omega) (fun _ _ => keep_St)
      ?hf ⟨hs, [], R, rfl, rfl, rfl, (fun _ h => nomatch h), Int.le_refl _⟩ ?hc
    case hf =>
      rintro d ys s2 acc ⟨g1, T, R2, g2, g3, g4, g5, g6⟩
      cases R2 with
      | nil => simp at g2
      | cons q R2 =>
        simp only [List.map_cons, List.cons.injEq] at g2
        obtain ⟨rfl, rfl⟩ := g2
        obtain ⟨v, s3, e3, o3, t3, c, rfl, c0, c1⟩ := draw_d (ns := ns) (X := X ++ [.lst acc]) hC (K := k + 2) hk (n := p) (by omega) s2 g1 (by simp at g6; omega)
        refine ⟨some (trD (q.1, q.2, c)), s3, turn_oneS rfl rfl (q_tup rfl (l_cons rfl (q_loc (i := 6) (by decide +kernel) rfl) (l_cons rfl (q_loc (i := 8) (by decide +kernel) rfl) (l_cons rfl (q_call (l_cons rfl (q_loc (i := 0) (by decide +kernel) rfl) (l_cons rfl (q_loc (i := 1) (by decide +kernel) rfl) l_nil)) fd__law_draw rfl (by decide +kernel) rfl rfl e3) l_nil))) (Nat.le_of_ble_eq_true rfl)), o3, T ++ [(q.1, q.2, c)], R2, rfl, ?_, ?_, ?_, ?_⟩
        · rw [← g3]; simp [frst]
        · rw [g4]; simp
        · intro t ht
          rcases List.mem_append.mp ht with h | h
          · exact g5 t h
          · cases List.mem_singleton.mp h
            exact ⟨c0, c1⟩
        · simp at g6; omega
    case hc =>
      rintro s2 acc ⟨_, T, R2, _, _, rfl, _, _⟩ y hy
      obtain ⟨t, _, rfl⟩ := List.mem_map.mp hy
      rfl
  obtain ⟨s', acc, e1, g1, T, R2, g2, g3, rfl, g5, g6⟩ := he
  have : R2 = [] := by cases R2 with
    | nil => rfl
    | cons _ _ => cases g2
  subst this
  rw [List.append_nil] at g3
  simp at g6
  refine ⟨_, s', ?_, poly_of g3 hA (fun q hq' => hq q (hR.mem_iff.mp hq')) hRl g5, g1, by omega⟩
  have hTl : T.length ≤ 1000 := by rw [← g3] at hRl; simpa using hRl
  exact (s_set e1 (by decide +kernel) (i := 7) (by decide +kernel) 
    (s_ret (q_blt (l_cons rfl (Eq.trans (q_lc (o := fun d => match d with | .tup [_, _, .int c] => if (!(c == 0)) = true then some d else none | _ => none) (xs := T.map trD) (x_val (q_loc (i := 7) (by decide +kernel) rfl) rfl rfl) (by decide +kernel) rfl (fun _ => walks_lv) rfl (by simp; omega) (fun d hd S1 => by
      obtain ⟨t, _, rfl⟩ := List.mem_map.mp hd
      exact turn_if rfl rfl (t_cmp rfl (q_ix rfl (q_loc (i := 9) (by decide +kernel) rfl) q_int (ix_tup (by decide) rfl)) q_int Dp.ne_int) (fun _ => (q_loc (i := 9) (by decide +kernel) rfl))) (fun d hd y hy => by
      obtain ⟨t, _, rfl⟩ := List.mem_map.mp hd
      simp only [trD] at hy
      split at hy
      · cases hy; rfl
      · cases hy)) (by rw [filt_map])) l_nil) (by decide +kernel) (by decide +kernel) rfl rfl)))
end Law
end
section
set_option maxRecDepth 100000
set_option maxHeartbeats 1000000
namespace Law
open PySem PySem.Spec PyProof.Rows L2 Dp LamX
theorem fd__law_some : M0.find "_law_some" = some d__law_some := by kernel_rfl
variable {ns C : List Int} {X : Sto} {s : Sta}
theorem slot_cut {es : List D} {m : Nat} {S : Sto} : slD false (.lv es) none (some (1 + (m : Int))) S = some (.lv (es.take (m + 1)), S) := by
  rw [show (1 + (m : Int)) = ((m + 1 : Nat) : Int) by omega]
  show newL false (Dp.cutD es none (some ((m + 1 : Nat) : Int))) S = _
  rw [cut_to]; rfl
theorem poly_d (hC : Cok C) {K : Nat} (hK : 5 ≤ K) {p mx my : Int} (hp : 2 ≤ p ∧ p ≤ 7) (h1 : 0 ≤ mx ∧ mx ≤ 999) (h2 : 0 ≤ my ∧ my ≤ 999) (h3 : (mx + 1).toNat * (my + 1).toNat ≤ 1000) :
    Draws ns C X 3000 (M0.callS K "_law_poly" [.ref 3, .int p, .int mx, .int my]) (fun v => ∃ T, v = .tup (T.map trD) ∧ PolyT p mx my T) := fun s hs ht => by
  obtain ⟨k, rfl⟩ : ∃ k, K = k + 3 := ⟨K - 3, by omega⟩
  obtain ⟨v, s1, e1, o1, t1, way, rfl, w0, w1⟩ := draw_d (ns := ns) (X := X) hC (K := k + 2) (by omega) (n := 8) (by decide) s hs (by omega)
  by_cases hw : way = 0
  · subst hw
    obtain ⟨v, s2, e2, o2, t2, hv⟩ := pick_d (ns := ns) (X := X) hC (K := k + 2) (by omega) (ds := [.tup ([].map trD), .tup ([(0, 0, 1)].map trD), .tup ([(0, 0, p - 1)].map trD), .tup ([(mx, my, 1)].map trD)]) ⟨by simp, by simp⟩ s1 o1 (by omega)
    refine ⟨v, s2, c_retW fd__law_poly rfl (s_set (q_call (l_cons rfl (q_loc (i := 0) (by decide +kernel) rfl) (l_cons rfl q_int l_nil)) fd__law_draw rfl (by decide +kernel) rfl rfl e1) (by decide +kernel) (i := 4) (by decide +kernel) 
      (s_if (t_cmp rfl (q_loc (i := 4) (by decide +kernel) rfl) q_int Dp.eq_int)
      (fun h1 _ => ((j_ret (s_ret (q_call (l_cons rfl (q_loc (i := 0) (by decide +kernel) rfl) (l_cons rfl (q_lst rfl (l_cons rfl (q_tup rfl l_nil (Nat.le_of_ble_eq_true rfl)) (l_cons rfl (q_tup rfl (l_cons rfl (q_tup rfl (l_cons rfl q_int (l_cons rfl q_int (l_cons rfl q_int l_nil))) (Nat.le_of_ble_eq_true rfl)) l_nil) (Nat.le_of_ble_eq_true rfl)) (l_cons rfl (q_tup rfl (l_cons rfl (q_tup rfl (l_cons rfl q_int (l_cons rfl q_int (l_cons rfl (q_bin (q_loc (i := 1) (by decide +kernel) rfl) q_int rfl) l_nil))) (Nat.le_of_ble_eq_true rfl)) l_nil) (Nat.le_of_ble_eq_true rfl)) (l_cons rfl (q_tup rfl (l_cons rfl (q_tup rfl (l_cons rfl (q_loc (i := 2) (by decide +kernel) rfl) (l_cons rfl (q_loc (i := 3) (by decide +kernel) rfl) (l_cons rfl q_int l_nil))) (Nat.le_of_ble_eq_true rfl)) l_nil) (Nat.le_of_ble_eq_true rfl)) l_nil)))) (Nat.le_of_ble_eq_true rfl)) l_nil)) fd__law_pick rfl (by decide +kernel) rfl rfl e2)))))
      (fun h2 => by simp at h2))) rfl, o2, by omega, ?_⟩
    have one : ∀ i j c : Int, 0 ≤ i → i ≤ mx → 0 ≤ j → j ≤ my → 1 ≤ c → c < p → PolyT p mx my [(i, j, c)] := fun i j c a1 a2 a3 a4 a5 a6 => ⟨by simp, fun t ht => by cases List.mem_singleton.mp ht; exact ⟨a1, a2, a3, a4, a5, a6⟩, by simp⟩
    simp only [List.mem_cons, List.not_mem_nil, or_false] at hv
    rcases hv with rfl | rfl | rfl | rfl
    · exact ⟨[], rfl, ⟨by simp, (fun _ h => nomatch h), by simp⟩⟩
    · exact ⟨_, rfl, one _ _ _ (by omega) (by omega) (by omega) (by omega) (by omega) (by omega)⟩
    · exact ⟨_, rfl, one _ _ _ (by omega) (by omega) (by omega) (by omega) (by omega) (by omega)⟩
    · exact ⟨_, rfl, one _ _ _ (by omega) (by omega) (by omega) (by omega) (by omega) (by omega)⟩
  · have hb : (way == 0) = false := beq_eq_false_iff_ne.mpr hw
    have gb : ∀ q ∈ gridTo my (mx + 1).toNat, 0 ≤ q.1 ∧ q.1 ≤ mx ∧ 0 ≤ q.2 ∧ q.2 ≤ my := fun q hq => by have := grid_in hq; omega
    have gl : (gridTo my (mx + 1).toNat).length ≤ 1000 := by rw [grid_len]; exact h3
    by_cases h5 : way < 5
    · obtain ⟨v, s2, e2, o2, t2, es, rfl, hp2⟩ := mixed_d (ns := ns) (X := X) hC (K := k + 2) (by omega) (ds := (gridTo my (mx + 1).toNat).map prD) (by simp; omega) (fun d hd => by
        obtain ⟨q, _, rfl⟩ := List.mem_map.mp hd
        exact okD_ints (ns := [q.1, q.2])) (fun d hd => by
        obtain ⟨q, _, rfl⟩ := List.mem_map.mp hd
        rfl) s1 o1 (by simp; omega)
      obtain ⟨v, s3, e3, o3, t3, r, rfl, r0, r1⟩ := draw_d (ns := ns) (X := X) hC (K := k + 2) (by omega) (n := 4) (by decide) s2 o2 (by simp at t2; omega)
      obtain ⟨m, rfl⟩ : ∃ m : Nat, r = (m : Int) := ⟨r.toNat, by omega⟩
      obtain ⟨a1, a2⟩ := of_perm hp2
      obtain ⟨T, s', e4, q4, o4, t4⟩ := poly_rest (ns := ns) (X := X) hC (k := k) (by omega) (p := p) (mx := mx) (my := my) (way := .int way) hp (Q := (es.map keyD).take (m + 1)) (List.Nodup.sublist (List.take_sublist _ _) (a2.nodup_iff.mpr grid_nodup)) (fun q hq => gb q (a2.mem_iff.mp (List.mem_of_mem_take hq))) (by have := a2.length_eq; simp at this ⊢; omega) (s := s3) o3 (by simp at t2; omega)
      refine ⟨_, s', c_retW fd__law_poly rfl (s_set (q_call (l_cons rfl (q_loc (i := 0) (by decide +kernel) rfl) (l_cons rfl q_int l_nil)) fd__law_draw rfl (by decide +kernel) rfl rfl e1) (by decide +kernel) (i := 4) (by decide +kernel) 
        (s_if (t_cmp rfl (q_loc (i := 4) (by decide +kernel) rfl) q_int Dp.eq_int)
        (fun h1 _ => by rw [hb] at h1; cases h1)
        (fun _ => (j_next s_nil 
        (s_set (q_lst rfl l_nil (Nat.le_of_ble_eq_true rfl)) (by decide +kernel) (i := 5) (by decide +kernel) 
        (s_for (x_rng1 (q_bin (q_loc (i := 2) (by decide +kernel) rfl) q_int rfl) (by decide +kernel) rfl (by omega)) rfl rfl (grid_loop h1 h2 h3)
        (s_if (t_cmp rfl (q_loc (i := 4) (by decide +kernel) rfl) q_int rfl)
        (fun h3 _ => (j_next (s_set (q_sl (q_call (l_cons rfl (q_loc (i := 0) (by decide +kernel) rfl) (l_cons rfl (q_loc (i := 5) (by decide +kernel) rfl) l_nil)) fd__law_mixed rfl (by decide +kernel) rfl rfl e2) p_none (p_some (q_bin q_int (q_call (l_cons rfl (q_loc (i := 0) (by decide +kernel) rfl) (l_cons rfl q_int l_nil)) fd__law_draw rfl (by decide +kernel) rfl rfl e3) rfl)) (slot_cut.trans (by rw [a1, ← List.map_take, key_map]))) (by decide +kernel) (i := 5) (by decide +kernel) s_nil) e4))
        (fun h4 => absurd h5 (of_decide_eq_false h4))))))))) rfl, o4, by simp at t2; omega, T, rfl, q4⟩
    · obtain ⟨T, s', e4, q4, o4, t4⟩ := poly_rest (ns := ns) (X := X) hC (k := k) (by omega) (p := p) (mx := mx) (my := my) (way := .int way) hp (Q := gridTo my (mx + 1).toNat) grid_nodup gb gl (s := s1) o1 (by omega)
      refine ⟨_, s', c_retW fd__law_poly rfl (s_set (q_call (l_cons rfl (q_loc (i := 0) (by decide +kernel) rfl) (l_cons rfl q_int l_nil)) fd__law_draw rfl (by decide +kernel) rfl rfl e1) (by decide +kernel) (i := 4) (by decide +kernel) 
        (s_if (t_cmp rfl (q_loc (i := 4) (by decide +kernel) rfl) q_int Dp.eq_int)
        (fun h1 _ => by rw [hb] at h1; cases h1)
        (fun _ => (j_next s_nil 
        (s_set (q_lst rfl l_nil (Nat.le_of_ble_eq_true rfl)) (by decide +kernel) (i := 5) (by decide +kernel) 
        (s_for (x_rng1 (q_bin (q_loc (i := 2) (by decide +kernel) rfl) q_int rfl) (by decide +kernel) rfl (by omega)) rfl rfl (grid_loop h1 h2 h3)
        (s_if (t_cmp rfl (q_loc (i := 4) (by decide +kernel) rfl) q_int rfl)
        (fun h3 _ => absurd (of_decide_eq_true h3) h5)
        (fun h4 => (j_next s_nil e4))))))))) rfl, o4, by omega, T, rfl, q4⟩
theorem okD_tr {t : Int × Int × Int} : OkD (trD t) := okD_ints (ns := [t.1, t.2.1, t.2.2])
theorem okD_trs {T : List (Int × Int × Int)} : ∀ d ∈ T.map trD, OkD d := fun d hd => by
  obtain ⟨t, _, rfl⟩ := List.mem_map.mp hd
  exact okD_tr
theorem some_d (hC : Cok C) {K : Nat} (hK : 6 ≤ K) {p mx my : Int} (hp : 2 ≤ p ∧ p ≤ 7) (h1 : 0 ≤ mx ∧ mx ≤ 999) (h2 : 0 ≤ my ∧ my ≤ 999) (h3 : (mx + 1).toNat * (my + 1).toNat ≤ 1000) :
    Draws ns C X 3010 (M0.callS K "_law_some" [.ref 3, .int p, .int mx, .int my]) (fun v => ∃ T, v = .tup (T.map trD) ∧ PolyT p mx my T ∧ T ≠ []) := fun s hs ht => by
  obtain ⟨k, rfl⟩ : ∃ k, K = k + 3 := ⟨K - 3, by omega⟩
  obtain ⟨v, s1, e1, o1, t1, T, rfl, hT⟩ := poly_d (ns := ns) (X := X) hC (K := k + 2) (by omega) hp h1 h2 h3 s hs (by omega)
  cases T with
  | cons t T =>
    exact ⟨_, s1, c_retW fd__law_some rfl (s_set (q_call (l_cons rfl (q_loc (i := 0) (by decide +kernel) rfl) (l_cons rfl (q_loc (i := 1) (by decide +kernel) rfl) (l_cons rfl (q_loc (i := 2) (by decide +kernel) rfl) (l_cons rfl (q_loc (i := 3) (by decide +kernel) rfl) l_nil)))) fd__law_poly rfl (by decide +kernel) rfl rfl e1) (by decide +kernel) (i := 4) (by decide +kernel) 
      (s_ret (q_ife (t_cmp rfl (q_loc (i := 4) (by decide +kernel) rfl) (q_tup rfl l_nil (Nat.le_of_ble_eq_true rfl)) (ne_nil_tup okD_trs)) (fun h1 => (q_loc (i := 4) (by decide +kernel) rfl)) (fun h2 => by simp at h2)))) rfl, o1, by omega, _, rfl, hT, by simp⟩
  | nil =>
    obtain ⟨v, s2, e2, o2, t2, a, rfl, a0, a1⟩ := draw_d (ns := ns) (X := X) hC (K := k + 2) (by omega) (n := mx + 1) (by omega) s1 o1 (by omega)
    obtain ⟨v, s3, e3, o3, t3, b, rfl, b0, b1⟩ := draw_d (ns := ns) (X := X) hC (K := k + 2) (by omega) (n := my + 1) (by omega) s2 o2 (by omega)
    obtain ⟨v, s4, e4, o4, t4, c, rfl, c0, c1⟩ := draw_d (ns := ns) (X := X) hC (K := k + 2) (by omega) (n := p - 1) (by omega) s3 o3 (by omega)
    exact ⟨_, s4, c_retW fd__law_some rfl (s_set (q_call (l_cons rfl (q_loc (i := 0) (by decide +kernel) rfl) (l_cons rfl (q_loc (i := 1) (by decide +kernel) rfl) (l_cons rfl (q_loc (i := 2) (by decide +kernel) rfl) (l_cons rfl (q_loc (i := 3) (by decide +kernel) rfl) l_nil)))) fd__law_poly rfl (by decide +kernel) rfl rfl e1) (by decide +kernel) (i := 4) (by decide +kernel) 
      (s_ret (q_ife (t_cmp rfl (q_loc (i := 4) (by decide +kernel) rfl) (q_tup rfl l_nil (Nat.le_of_ble_eq_true rfl)) (ne_nil_tup okD_trs)) (fun h1 => by simp at h1) (fun h2 => (q_tup rfl (l_cons rfl (q_tup rfl (l_cons rfl (q_call (l_cons rfl (q_loc (i := 0) (by decide +kernel) rfl) (l_cons rfl (q_bin (q_loc (i := 2) (by decide +kernel) rfl) q_int rfl) l_nil)) fd__law_draw rfl (by decide +kernel) rfl rfl e2) (l_cons rfl (q_call (l_cons rfl (q_loc (i := 0) (by decide +kernel) rfl) (l_cons rfl (q_bin (q_loc (i := 3) (by decide +kernel) rfl) q_int rfl) l_nil)) fd__law_draw rfl (by decide +kernel) rfl rfl e3) (l_cons rfl (q_bin q_int (q_call (l_cons rfl (q_loc (i := 0) (by decide +kernel) rfl) (l_cons rfl (q_bin (q_loc (i := 1) (by decide +kernel) rfl) q_int rfl) l_nil)) fd__law_draw rfl (by decide +kernel) rfl rfl e4) rfl) l_nil))) (Nat.le_of_ble_eq_true rfl)) l_nil) (Nat.le_of_ble_eq_true rfl)))))) rfl, o4, by omega, [(a, b, 1 + c)], rfl, ⟨by simp, fun t ht => by
        cases List.mem_singleton.mp ht
        dsimp only
        exact ⟨a0, by omega, b0, by omega, by omega, by omega⟩, by simp⟩, by simp⟩
end Law
end
section
set_option maxRecDepth 100000
set_option maxHeartbeats 1000000
namespace Law
open PySem PySem.Spec PyProof.Rows L2 Dp LamX
theorem fd__law_no_poly : M0.find "_law_no_poly" = some d__law_no_poly := by kernel_rfl
variable {ns C : List Int} {X : Sto} {s : Sta}
noncomputable abbrev nG (k : Nat) : Gam := M0.gam d__law_no_poly.N d__law_no_poly.scope.names (M0.call (k + 2)) (M0.lamF d__law_no_poly (M0.call (k + 1)) (M0.call k)) noAct
def Item (d : D) : Prop := pureB d = true ∧ ∀ xs, d = .tup xs → xs.length ≤ 3000
theorem pure_trs {T : List (Int × Int × Int)} : pureBs (T.map trD) = true := pureBs_all.mpr fun d hd => by
  obtain ⟨t, _, rfl⟩ := List.mem_map.mp hd
  rfl
def npR (T : List (Int × Int × Int)) : D := if T.length = 1 then .tup (T.map trD ++ T.map trD) else .tup (T.map trD).reverse
def npE2 (T : List (Int × Int × Int)) : List D := [.lv (T.map trD), .tup (T.map trD ++ (T.map trD).drop ((T.map trD).length - 1)), npR T, .non, .int 0, .str "x", .dv [] [], .tup [.int 0]]
theorem item_tup {ds : List D} (h : pureBs ds = true) (hl : ds.length ≤ 3000) : Item (.tup ds) := ⟨h, fun xs e => by cases e; exact hl⟩
theorem npE2_ok {T : List (Int × Int × Int)} (hT : T.length ≤ 1000) : ∀ d ∈ npE2 T, Item d := by
  have hp := pureBs_all.mp (pure_trs (T := T))
  intro d hd
  simp only [npE2, List.mem_cons, List.not_mem_nil, or_false] at hd
  rcases hd with rfl | rfl | rfl | rfl | rfl | rfl | rfl | rfl
  · exact ⟨pure_trs, fun xs e => by cases e⟩
  · refine item_tup (pureBs_all.mpr fun d hd => ?_) (by simp; omega)
    rcases List.mem_append.mp hd with h | h
    · exact hp d h
    · exact hp d (List.mem_of_mem_drop h)
  · unfold npR
    split
    · refine item_tup (pureBs_all.mpr fun d hd => ?_) (by simp; omega)
      rcases List.mem_append.mp hd with h | h <;> exact hp d h
    · exact item_tup (pureBs_all.mpr fun d hd => hp d (List.mem_reverse.mp hd)) (by simp; omega)
  · exact ⟨rfl, fun xs e => by cases e⟩
  · exact ⟨rfl, fun xs e => by cases e⟩
  · exact ⟨rfl, fun xs e => by cases e⟩
  · exact ⟨rfl, fun xs e => by cases e⟩
  · exact item_tup rfl (by simp)
theorem np_rest (hC : Cok C) {k : Nat} (hk : 5 ≤ k + 2) {p : Int} {T : List (Int × Int × Int)} (hT : T.length ≤ 1000) (hT0 : 0 < T.length) {sp a b c : D} {L1 L2 : List D} (h : ∀ d ∈ L2, Item d) (hl : L2.length ≤ 100) (hs : s.ok) (ht : s.t + 1 ≤ 1000000000) :
    ∃ v s' L3, exs (ex (nG k) 40 d__law_no_poly.scope) (d__law_no_poly.body.drop 6) [some (.ref 3), some (.int p), some (.tup (T.map trD)), some sp, some (.ref (4 + X.length + 1)), some a, some b, some c, none, none] (St ns C s (X ++ [.lst L1, .lst L2])) = .ret v (St ns C s' (X ++ [.lst L1, .lst L2, .lst L3])) ∧ (Item v ∧ polyB p v = false) ∧ s'.ok ∧ s'.t ≤ s.t + 1 := by
  have hI : ∀ d ∈ L2 ++ npE2 T, Item d := fun d hd => by
    rcases List.mem_append.mp hd with g | g
    · exact h d g
    · exact npE2_ok hT d g
  have hL : (L2 ++ npE2 T).length ≤ 200 := by simp [npE2]; omega
  have m2 := mix_at2 (ns := ns) (C := C) (X := X) (s := s) (L := L1) (F := L2)
  have e3 : (St ns C s (X ++ [.lst L1, .lst L2]) ++ [.lst (L2 ++ npE2 T)]) = St ns C s (X ++ [.lst L1, .lst L2, .lst (L2 ++ npE2 T)]) := by
    show _ :: _ :: _ :: _ :: ((X ++ [M.lst L1, M.lst L2]) ++ [.lst (L2 ++ npE2 T)]) = _
    rw [List.append_assoc]; rfl
  have l3 : (St ns C s (X ++ [.lst L1, .lst L2])).length = 4 + X.length + 2 := by
    show (X ++ [M.lst L1, M.lst L2]).length + 4 = _
    simp; omega
  have m3 : (St ns C s (X ++ [.lst L1, .lst L2, .lst (L2 ++ npE2 T)]))[4 + X.length + 2]? = some (.lst (L2 ++ npE2 T)) := by
    rw [← e3, ← l3]; simp
  have hN : D.non ∈ (L2 ++ npE2 T).filterMap (fun d => if (!polyB p d) = true then some d else none) := List.mem_filterMap.mpr ⟨.non, List.mem_append.mpr (.inr (by simp [npE2])), rfl⟩
  obtain ⟨v, s', e4, o4, t4, hv⟩ := pick_d (ns := ns) (X := X ++ [.lst L1, .lst L2, .lst (L2 ++ npE2 T)]) hC (K := k + 2) (by omega) (ds := (L2 ++ npE2 T).filterMap (fun d => if (!polyB p d) = true then some d else none)) ⟨List.length_pos_of_mem hN, by
    have := List.length_filterMap_le (fun d => if (!polyB p d) = true then some d else none) (L2 ++ npE2 T)
    omega⟩ s hs ht
  refine ⟨v, s', L2 ++ npE2 T, s_set (S1 := St ns C s (X ++ [M.lst L1, M.lst L2, M.lst (L2 ++ npE2 T)])) (q_bin (S2 := St ns C s (X ++ [M.lst L1, M.lst L2])) (q_loc (i := 4) (by decide +kernel) rfl) (q_lst (ds := npE2 T) rfl (l_cons rfl (q_blt (l_cons rfl (q_loc (i := 2) (by decide +kernel) rfl) l_nil) (by decide +kernel) (by decide +kernel) rfl rfl) (l_cons rfl (q_bin (q_loc (i := 2) (by decide +kernel) rfl) (q_sl (q_loc (i := 2) (by decide +kernel) rfl) (p_some (q_neg q_int)) p_none (sl_last (by simpa using hT0))) (cat_tup (by simp; omega))) (l_cons rfl (q_ife (t_cmp rfl (q_blt (l_cons rfl (q_loc (i := 2) (by decide +kernel) rfl) l_nil) (by decide +kernel) (by decide +kernel) rfl rfl) q_int Dp.eq_int) (fun h2 => ?g1) (fun h3 => ?g2)) (l_cons rfl q_non (l_cons rfl q_int (l_cons rfl q_str (l_cons rfl (q_dv0 rfl) (l_cons rfl (q_tup rfl (l_cons rfl q_int l_nil) (Nat.le_of_ble_eq_true rfl)) l_nil)))))))) (Nat.le_of_ble_eq_true rfl)) ?g3) (by decide +kernel) (i := 4) (by decide +kernel) 
    (s_ret (q_call (l_cons rfl (q_loc (i := 0) (by decide +kernel) rfl) (l_cons rfl (q_lc (o := fun d => if (!polyB p d) = true then some d else none) (xs := L2 ++ npE2 T) (x_val (q_loc (i := 4) (by decide +kernel) rfl) rfl (src_ref m3)) (by decide +kernel) rfl (fun _ => walks_ref' m3) ?g4 (by omega) (fun d hd S1 => (turn_if rfl rfl (t_not (t_val rfl (q_call (l_cons rfl (q_loc (i := 1) (by decide +kernel) rfl) (l_cons rfl (q_loc (i := 9) (by decide +kernel) rfl) l_nil)) fd__law_is_poly rfl (by decide +kernel) rfl rfl (law_is_poly_ok (by omega) (hI d hd).1 (fun xs e => by have := (hI d hd).2 xs e; omega))) rfl)) (fun _ => (q_loc (i := 9) (by decide +kernel) rfl)))) ?g5) l_nil)) fd__law_pick rfl (by decide +kernel) rfl rfl e4)), ?g6, o4, t4⟩
  case g1 =>
    have h2 : T.length = 1 := by have := eq_of_beq h2; simp at this; omega
    match T, h2 with
    | [t], _ => exact (q_bin (q_tup rfl (l_cons rfl (q_ix rfl (q_loc (i := 2) (by decide +kernel) rfl) (q_neg q_int) rfl) l_nil) (Nat.le_of_ble_eq_true rfl)) (q_sl (q_loc (i := 2) (by decide +kernel) rfl) p_none (p_some q_int) (sl_to (m := 1))) (cat_tup (by simp)))
  case g2 =>
    have h3 : T.length ≠ 1 := by have := ne_of_beq_false h3; simp at this; omega
    exact Eq.trans (q_rev (q_loc (i := 2) (by decide +kernel) rfl) (q_neg q_int) rfl) (by unfold npR; rw [if_neg h3])
  case g3 =>
    refine Eq.trans (cat_refO m2 (by simp [npE2]; omega) (by decide +kernel)) ?_
    rw [e3, l3]
  case g4 =>
    show ((lstOf _ _).map List.length).getD 0 = _
    rw [lst_of m3]; rfl
  case g5 =>
    intro d hd y hy
    split at hy
    · cases hy; exact pure_clo (hI _ hd).1
    · cases hy
  case g6 =>
    obtain ⟨d, hd, hy⟩ := List.mem_filterMap.mp hv
    split at hy
    · rename_i hb
      cases hy
      exact ⟨hI _ hd, by simpa using hb⟩
    · cases hy
end Law
end
section
set_option maxRecDepth 100000
set_option maxHeartbeats 1000000
namespace Law
open PySem PySem.Spec PyProof.Rows L2 Dp LamX
variable {ns C : List Int} {X : Sto} {s : Sta}
def npL1 (p i j c : Int) : List D := [.tup [.int i, .int j, .int 0], .tup [.int i, .int j, .int p], .tup [.int i, .int j, .int (-1)], .tup [.int (-1), .int j, .int c], .tup [.int 1000, .int j, .int c], .tup [.int i, .int 1000, .int c], .tup [.int i, .int j], .tup [.int i, .int j, .int c, .int 0]]
def npE1 (i j c : Int) : List D := [.lv [.int i, .int j, .int c], .non, .tup [.int i, .int j, .bl true], .tup [.int i, .int j, .str "1"], .tup [.non, .int j, .int c]]
def npW (T : List (Int × Int × Int)) (m : Nat) (d : D) : D := .tup (((T.map trD).take m ++ [d]) ++ (T.map trD).drop (m + 1))
theorem npW_ok {T : List (Int × Int × Int)} (hT : T.length ≤ 1000) {m : Nat} {d : D} (h : pureB d = true) : Item (npW T m d) := by
  have hp := pureBs_all.mp (pure_trs (T := T))
  refine item_tup (pureBs_all.mpr fun e he => ?_) (by simp; omega)
  rcases List.mem_append.mp he with h1 | h1
  · rcases List.mem_append.mp h1 with h2 | h2
    · exact hp e (List.mem_of_mem_take h2)
    · cases List.mem_singleton.mp h2; exact h
  · exact hp e (List.mem_of_mem_drop h1)
theorem no_poly_d (hC : Cok C) {K : Nat} (hK : 7 ≤ K) {p : Int} (hp : 2 ≤ p ∧ p ≤ 7) :
    Draws ns C X 3020 (M0.callS K "_law_no_poly" [.ref 3, .int p]) (fun v => Item v ∧ polyB p v = false) := fun s hs ht => by
  obtain ⟨k, rfl⟩ : ∃ k, K = k + 3 := ⟨K - 3, by omega⟩
  obtain ⟨v, s1, e1, o1, t1, T, rfl, hT, hT0⟩ := some_d (ns := ns) (X := X) hC (K := k + 2) (by omega) (p := p) (mx := 3) (my := 3) hp (by decide) (by decide) (by decide) s hs (by omega)
  have hl := hT.len
  have hpos : 0 < T.length := List.length_pos_iff.mpr hT0
  obtain ⟨v, s2, e2, o2, t2, r, rfl, r0, r1⟩ := draw_d (ns := ns) (X := X) hC (K := k + 2) (by omega) (n := ((T.map trD).length : Int)) (by simp; omega) s1 o1 (by omega)
  obtain ⟨m, rfl⟩ : ∃ m : Nat, r = (m : Int) := ⟨r.toNat, by omega⟩
  have hm : m < T.length := by simp at r1; omega
  obtain ⟨⟨i, j, c⟩, hTm⟩ : ∃ t, T[m]? = some t := ⟨_, List.getElem?_eq_getElem hm⟩
  have hTm : (T.map trD)[m]? = some (.tup [.int i, .int j, .int c]) := by rw [List.getElem?_map, hTm]; rfl
  have hP : ∀ d ∈ npL1 p i j c ++ npE1 i j c, pureB d = true := pureBs_all.mp rfl
  have hI : ∀ d ∈ (npL1 p i j c ++ npE1 i j c).map (npW T m), Item d := fun d hd => by
    obtain ⟨e, he, rfl⟩ := List.mem_map.mp hd
    exact npW_ok hl (hP e he)
  have hW : Item (npW T m (.tup [.bl (i == 1), .int j, .int c])) := npW_ok hl rfl
  have a1 : (St ns C s2 X).length = 4 + X.length := by show X.length + 4 = _; omega
  have m1 : (St ns C s2 (X ++ [M.lst (npL1 p i j c)]))[4 + X.length]? = some (.lst (npL1 p i j c)) := St_at 0
  have l2 : (St ns C s2 (X ++ [M.lst (npL1 p i j c)])).length = 4 + X.length + 1 := by
    show (X ++ [M.lst (npL1 p i j c)]).length + 4 = _
    simp; omega
  have a3 : ∀ L, St ns C s2 (X ++ [M.lst (npL1 p i j c)]) ++ [M.lst L] = St ns C s2 (X ++ [M.lst (npL1 p i j c), M.lst L]) := fun L => by
    show _ :: _ :: _ :: _ :: ((X ++ [M.lst (npL1 p i j c)]) ++ [M.lst L]) = _
    rw [List.append_assoc]; rfl
  have main : ∀ (r : SR), exs (ex (nG k) 40 d__law_no_poly.scope) (d__law_no_poly.body.drop 5) [some (.ref 3), some (.int p), some (.tup (T.map trD)), some (.int m), some (.ref (4 + X.length + 1)), some (.int i), some (.int j), some (.int c), none, none] (St ns C s2 (X ++ [M.lst (npL1 p i j c), M.lst ((npL1 p i j c ++ npE1 i j c).map (npW T m))])) = r →
      exs (ex (nG k) 40 d__law_no_poly.scope) d__law_no_poly.body [some (.ref 3), some (.int p), none, none, none, none, none, none, none, none] (St ns C s X) = r := fun r hr => 
    s_set (q_call (l_cons rfl (q_loc (i := 0) (by decide +kernel) rfl) (l_cons rfl (q_loc (i := 1) (by decide +kernel) rfl) (l_cons rfl q_int (l_cons rfl q_int l_nil)))) fd__law_some rfl (by decide +kernel) rfl rfl e1) (by decide +kernel) (i := 2) (by decide +kernel) 
    (s_set (q_call (l_cons rfl (q_loc (i := 0) (by decide +kernel) rfl) (l_cons rfl (q_blt (l_cons rfl (q_loc (i := 2) (by decide +kernel) rfl) l_nil) (by decide +kernel) (by decide +kernel) rfl rfl) l_nil)) fd__law_draw rfl (by decide +kernel) rfl rfl e2) (by decide +kernel) (i := 3) (by decide +kernel) 
    (s_tup (q_ix rfl (q_loc (i := 2) (by decide +kernel) rfl) (q_loc (i := 3) (by decide +kernel) rfl) (ix_tup (by omega) hTm)) rfl rfl 
    (s_set (S1 := St ns C s2 (X ++ [M.lst (npL1 p i j c)])) (Eq.trans (q_lsO rfl (l_cons rfl (q_tup rfl (l_cons rfl (q_loc (i := 5) (by decide +kernel) rfl) (l_cons rfl (q_loc (i := 6) (by decide +kernel) rfl) (l_cons rfl q_int l_nil))) (Nat.le_of_ble_eq_true rfl)) (l_cons rfl (q_tup rfl (l_cons rfl (q_loc (i := 5) (by decide +kernel) rfl) (l_cons rfl (q_loc (i := 6) (by decide +kernel) rfl) (l_cons rfl (q_loc (i := 1) (by decide +kernel) rfl) l_nil))) (Nat.le_of_ble_eq_true rfl)) (l_cons rfl (q_tup rfl (l_cons rfl (q_loc (i := 5) (by decide +kernel) rfl) (l_cons rfl (q_loc (i := 6) (by decide +kernel) rfl) (l_cons rfl (q_neg q_int) l_nil))) (Nat.le_of_ble_eq_true rfl)) (l_cons rfl (q_tup rfl (l_cons rfl (q_neg q_int) (l_cons rfl (q_loc (i := 6) (by decide +kernel) rfl) (l_cons rfl (q_loc (i := 7) (by decide +kernel) rfl) l_nil))) (Nat.le_of_ble_eq_true rfl)) (l_cons rfl (q_tup rfl (l_cons rfl q_int (l_cons rfl (q_loc (i := 6) (by decide +kernel) rfl) (l_cons rfl (q_loc (i := 7) (by decide +kernel) rfl) l_nil))) (Nat.le_of_ble_eq_true rfl)) (l_cons rfl (q_tup rfl (l_cons rfl (q_loc (i := 5) (by decide +kernel) rfl) (l_cons rfl q_int (l_cons rfl (q_loc (i := 7) (by decide +kernel) rfl) l_nil))) (Nat.le_of_ble_eq_true rfl)) (l_cons rfl (q_tup rfl (l_cons rfl (q_loc (i := 5) (by decide +kernel) rfl) (l_cons rfl (q_loc (i := 6) (by decide +kernel) rfl) l_nil)) (Nat.le_of_ble_eq_true rfl)) (l_cons rfl (q_tup rfl (l_cons rfl (q_loc (i := 5) (by decide +kernel) rfl) (l_cons rfl (q_loc (i := 6) (by decide +kernel) rfl) (l_cons rfl (q_loc (i := 7) (by decide +kernel) rfl) (l_cons rfl q_int l_nil)))) (Nat.le_of_ble_eq_true rfl)) l_nil)))))))) (Nat.le_of_ble_eq_true rfl)) (by rw [a1]; rfl)) (by decide +kernel) (i := 4) (by decide +kernel) 
    (s_set (S1 := St ns C s2 (X ++ [M.lst (npL1 p i j c), M.lst ((npL1 p i j c ++ npE1 i j c).map (npW T m))])) (Eq.trans (q_lcO (o := fun d => some (npW T m d)) (xs := npL1 p i j c ++ npE1 i j c) (x_val (q_bin (q_loc (i := 4) (by decide +kernel) rfl) (q_lst (ds := npE1 i j c) rfl (l_cons rfl (q_lst rfl (l_cons rfl (q_loc (i := 5) (by decide +kernel) rfl) (l_cons rfl (q_loc (i := 6) (by decide +kernel) rfl) (l_cons rfl (q_loc (i := 7) (by decide +kernel) rfl) l_nil))) (Nat.le_of_ble_eq_true rfl)) (l_cons rfl q_non (l_cons rfl (q_tup rfl (l_cons rfl (q_loc (i := 5) (by decide +kernel) rfl) (l_cons rfl (q_loc (i := 6) (by decide +kernel) rfl) (l_cons rfl q_bl l_nil))) (Nat.le_of_ble_eq_true rfl)) (l_cons rfl (q_tup rfl (l_cons rfl (q_loc (i := 5) (by decide +kernel) rfl) (l_cons rfl (q_loc (i := 6) (by decide +kernel) rfl) (l_cons rfl q_str l_nil))) (Nat.le_of_ble_eq_true rfl)) (l_cons rfl (q_tup rfl (l_cons rfl q_non (l_cons rfl (q_loc (i := 6) (by decide +kernel) rfl) (l_cons rfl (q_loc (i := 7) (by decide +kernel) rfl) l_nil))) (Nat.le_of_ble_eq_true rfl)) l_nil))))) (Nat.le_of_ble_eq_true rfl)) (cat_ref m1 (by simp [npL1, npE1]))) rfl rfl) (by decide +kernel) rfl (fun _ => walks_lv) rfl (by simp [npL1, npE1]) (fun d hd S1 => (turn_one rfl rfl (q_bin (q_bin (q_sl (q_loc (i := 2) (by decide +kernel) rfl) p_none (p_some (q_loc (i := 3) (by decide +kernel) rfl)) sl_to) (q_tup rfl (l_cons rfl (q_loc (i := 8) (by decide +kernel) rfl) l_nil) (Nat.le_of_ble_eq_true rfl)) (cat_tup (by simp; omega))) (q_sl (q_loc (i := 2) (by decide +kernel) rfl) (p_some (q_bin (q_loc (i := 3) (by decide +kernel) rfl) q_int rfl)) p_none sl_from1) (cat_tup (by simp; omega)))))) (by rw [l2, a3, List.filterMap_eq_map'])) (by decide +kernel) (i := 4) (by decide +kernel) hr))))
  have fin : ∀ (v : D) (s' : Sta) (L2 L3 : List D), exs (ex (nG k) 40 d__law_no_poly.scope) (d__law_no_poly.body.drop 5) [some (.ref 3), some (.int p), some (.tup (T.map trD)), some (.int m), some (.ref (4 + X.length + 1)), some (.int i), some (.int j), some (.int c), none, none] (St ns C s2 (X ++ [M.lst (npL1 p i j c), M.lst ((npL1 p i j c ++ npE1 i j c).map (npW T m))])) = .ret v (St ns C s' (X ++ [M.lst (npL1 p i j c), M.lst L2, M.lst L3])) → Item v → 
      M0.callS (k + 3) "_law_no_poly" [.ref 3, .int p] (St ns C s X) = .ok v (St ns C s' X) := fun v s' L2 L3 h hv => by
    refine Eq.trans (congrArg (scope keepC (St ns C s X)) (q_def fd__law_no_poly rfl (d_ret (main _ h)))) ?_
    exact scope_val (S1 := St ns C s' X) (l := [M.lst (npL1 p i j c), M.lst L2, M.lst L3]) rfl keep_St (pure_clo hv.1)
  by_cases hi : i < 2
  · obtain ⟨v, s3, L3, e3, v3, o3, t3⟩ := np_rest (ns := ns) (X := X) hC (k := k) (by omega) (p := p) hl hpos (sp := .int m) (a := .int i) (b := .int j) (c := .int c) (L1 := npL1 p i j c) (L2 := (npL1 p i j c ++ npE1 i j c).map (npW T m) ++ [npW T m (.tup [.bl (i == 1), .int j, .int c])]) (fun d hd => by
      rcases List.mem_append.mp hd with h | h
      · exact hI d h
      · cases List.mem_singleton.mp h; exact hW) (by simp [npL1, npE1]) (s := s2) o2 (by omega)
    refine ⟨v, s3, fin v s3 ((npL1 p i j c ++ npE1 i j c).map (npW T m) ++ [npW T m (.tup [.bl (i == 1), .int j, .int c])]) L3 ?_ v3.1, o3, by omega, v3⟩
    have m2 := mix_at2 (ns := ns) (C := C) (X := X) (s := s2) (L := npL1 p i j c) (F := (npL1 p i j c ++ npE1 i j c).map (npW T m))
    refine s_if (t_cmp rfl (q_loc (i := 5) (by decide +kernel) rfl) q_int rfl)
      (fun h1 _ => j_next (s_exM (q_meth (q_loc (i := 4) (by decide +kernel) rfl) (q_bin (q_bin (q_sl (q_loc (i := 2) (by decide +kernel) rfl) p_none (p_some (q_loc (i := 3) (by decide +kernel) rfl)) sl_to) (q_tup rfl (l_cons rfl (q_tup rfl (l_cons rfl (q_cmp rfl (q_loc (i := 5) (by decide +kernel) rfl) q_int Dp.eq_int) (l_cons rfl (q_loc (i := 6) (by decide +kernel) rfl) (l_cons rfl (q_loc (i := 7) (by decide +kernel) rfl) l_nil))) (Nat.le_of_ble_eq_true rfl)) l_nil) (Nat.le_of_ble_eq_true rfl)) (cat_tup (by simp; omega))) (q_sl (q_loc (i := 2) (by decide +kernel) rfl) (p_some (q_bin (q_loc (i := 3) (by decide +kernel) rfl) q_int rfl)) p_none sl_from1) (cat_tup (by simp; omega))) (by decide +kernel) rfl (lst_of m2) (Eq.trans (app_ref m2 (by simp [npL1, npE1])) (by rw [mix_set2]; rfl))) s_nil) e3)
      (fun h4 => absurd hi (of_decide_eq_false h4))
  · obtain ⟨v, s3, L3, e3, v3, o3, t3⟩ := np_rest (ns := ns) (X := X) hC (k := k) (by omega) (p := p) hl hpos (sp := .int m) (a := .int i) (b := .int j) (c := .int c) (L1 := npL1 p i j c) (L2 := (npL1 p i j c ++ npE1 i j c).map (npW T m)) hI (by simp [npL1, npE1]) (s := s2) o2 (by omega)
    refine ⟨v, s3, fin v s3 ((npL1 p i j c ++ npE1 i j c).map (npW T m)) L3 ?_ v3.1, o3, by omega, v3⟩
    refine s_if (t_cmp rfl (q_loc (i := 5) (by decide +kernel) rfl) q_int rfl)
      (fun h1 _ => absurd (of_decide_eq_true h1) hi)
      (fun h4 => j_next s_nil e3)
end Law
end
section
set_option maxRecDepth 100000
set_option maxHeartbeats 1000000
namespace Law
open PySem PySem.Spec PyProof.Rows L2 Dp LamX
theorem fd_add_product : M0.find "add_product" = some d_add_product := by kernel_rfl
theorem fd_gathered : M0.find "gathered" = some d_gathered := by kernel_rfl
theorem c_nxtW {M : Mo} {k : Nat} {f : Str} {t : DD} {ds : List D} {S S1 : Sto} {σ : Sig} (hf : M.find f = some t) (hl : ds.length = t.ps.length)
    (h : exs (ex (M.gam t.N t.scope.names (M.call (k + 2)) (M.lamF t (M.call (k + 1)) (M.call k)) noAct) M.fuel t.scope) t.body (startD t.N ds) S = .next σ S1) (hz : S1.length = S.length) : M.callS (k + 3) f ds S = .ok .non S1 := scope_len (q_def hf hl (d_nxt h)) hz
abbrev Tri := List (Int × Int × Int)
/-- each term times n -/
def addS (n : Int) (l : QD) (T : Tri) : QD := T.foldl (fun l t => putQ l (frst t) (coef l (frst t) + t.2.2 * n)) l
theorem set_at {S : Sto} {m : Nat} {a b : M} (h : S[m]? = some a) : (S.set m b)[m]? = some b := List.getElem?_set_self (List.getElem?_eq_some_iff.mp h).1
end Law
end
section
set_option maxRecDepth 100000
set_option maxHeartbeats 1000000
namespace Law
open PySem PySem.Spec PyProof.Rows L2 Dp LamX
/-- one term times each -/
def addR (a : Int × Int × Int) (l : QD) (B : Tri) : QD := B.foldl (fun l b => putQ l (a.1 + b.1, a.2.1 + b.2.1) (coef l (a.1 + b.1, a.2.1 + b.2.1) + a.2.2 * b.2.2)) l
def addP (l : QD) (A B : Tri) : QD := A.foldl (fun l a => addR a l B) l
theorem addR_len (a : Int × Int × Int) : ∀ (B : Tri) (l : QD), (addR a l B).length ≤ l.length + B.length
  | [], l => Nat.le_refl _
  | b :: B, l => by
    have h1 := addR_len a B (putQ l (a.1 + b.1, a.2.1 + b.2.1) (coef l (a.1 + b.1, a.2.1 + b.2.1) + a.2.2 * b.2.2))
    have h2 := putQ_len l (a.1 + b.1, a.2.1 + b.2.1) (coef l (a.1 + b.1, a.2.1 + b.2.1) + a.2.2 * b.2.2)
    show (addR a (putQ _ _ _) B).length ≤ _
    simp only [List.length_cons]
    omega
def smallI (i : Int) : Prop := -18446744073709551616 < i ∧ i < 18446744073709551616
noncomputable abbrev apG (k : Nat) : Gam := M0.gam d_add_product.N d_add_product.scope.names (M0.call (k + 2)) (M0.lamF d_add_product (M0.call (k + 1)) (M0.call k)) noAct
theorem set_self {S : Sto} {m : Nat} {a : M} (h : S[m]? = some a) : S = S.set m a := by
  refine List.ext_getElem? fun i => ?_
  by_cases hi : m = i
  · subst hi
    rw [set_at h, h]
  · rw [List.getElem?_set_ne hi]
theorem row_loop {k : Nat} {S : Sto} {m : Nat} {l : QD} {A B : Tri} {a : Int × Int × Int} (ha : smallI a.2.2) (h : S[m]? = some (.dt (dQ l))) (hz : l.length + B.length ≤ 1000000) :
    forL keepC false (.tup (B.map trD)) (asgE d_add_product.N d_add_product.scope (forT (nthS (loopB (nthS d_add_product.body 0)) 0))) (exs (ex (apG k) 38 d_add_product.scope) (loopB (nthS (loopB (nthS d_add_product.body 0)) 0))) (B.length + 1) 0
      [some (.ref m), some (.tup (A.map trD)), some (.tup (B.map trD)), some (.int a.1), some (.int a.2.1), some (.int a.2.2), none, none, none, none] S
      = .next [some (.ref m), some (.tup (A.map trD)), some (.tup (B.map trD)), some (.int a.1), some (.int a.2.1), some (.int a.2.2), none, none, none, none] (S.set m (.dt (dQ (addR a l B)))) := by
  refine for_ind (xs := B.map trD)
    (P := fun ys σ S' => ∃ (l' : QD) (Y : Tri), ys = Y.map trD ∧ S' = S.set m (.dt (dQ l')) ∧ addR a l' Y = addR a l B ∧ l'.length + Y.length ≤ 1000000 ∧ σ = [some (.ref m), some (.tup (A.map trD)), some (.tup (B.map trD)), some (.int a.1), some (.int a.2.1), some (.int a.2.2), none, none, none, none])
    (R := fun r => r = .next [some (.ref m), some (.tup (A.map trD)), some (.tup (B.map trD)), some (.int a.1), some (.int a.2.1), some (.int a.2.2), none, none, none, none] (S.set m (.dt (dQ (addR a l B))))) (fun _ _ _ _ => walks_tup) ?_ ?_ _ 0 _ _ _ rfl (by simp) ⟨l, B, rfl, set_self h, rfl, hz, rfl⟩
  · rintro σ S' ⟨l', Y, e, rfl, e2, _, rfl⟩
    cases Y with
    | nil => rw [← e2]; rfl
    | cons a Y => cases e
  · rintro d ys σ S' ⟨l', Y, e, rfl, e2, hz, rfl⟩
    cases Y with
    | nil => cases e
    | cons t Y =>
      cases e
      obtain ⟨i, j, c⟩ := t
      have hs := set_at (b := .dt (dQ l')) h
      refine ⟨[(6, .int i), (7, .int j), (8, .int c)], rfl, .inl ⟨_, _, (s_set (q_kt (ks := kq (a.1 + i, a.2.1 + j)) rfl (l_cons rfl (q_bin (q_loc (i := 3) (by decide +kernel) rfl) (q_loc (i := 6) (by decide +kernel) rfl) rfl) (l_cons rfl (q_bin (q_loc (i := 4) (by decide +kernel) rfl) (q_loc (i := 7) (by decide +kernel) rfl) rfl) l_nil)) rfl (Nat.le_of_ble_eq_true rfl)) (by decide +kernel) (i := 9) (by decide +kernel)
        (s_put (q_bin (q_get (q_loc (i := 0) (by decide +kernel) rfl) (q_loc (i := 9) (by decide +kernel) rfl) q_int rfl (isDD_dt hs) (get2_dt hs (a.1 + i, a.2.1 + j))) (q_bin (q_loc (i := 5) (by decide +kernel) rfl) (q_loc (i := 8) (by decide +kernel) rfl) (l_mul (.inl ha))) rfl) (q_loc (i := 0) (by decide +kernel) rfl) (q_loc (i := 9) (by decide +kernel) rfl) rfl (set_dt hs (by simp at hz; omega) (a.1 + i, a.2.1 + j) _)
        s_nil)), by simp, putQ l' (a.1 + i, a.2.1 + j) (coef l' (a.1 + i, a.2.1 + j) + a.2.2 * c), Y, rfl, by rw [List.set_set], e2, ?_, rfl⟩⟩
      have := putQ_len l' (a.1 + i, a.2.1 + j) (coef l' (a.1 + i, a.2.1 + j) + a.2.2 * c)
      simp at hz
      omega
theorem add_product_ok {K : Nat} (hK : 3 ≤ K) {S : Sto} {m : Nat} {l : QD} {A B : Tri} (hA : ∀ t ∈ A, smallI t.2.2) (h : S[m]? = some (.dt (dQ l))) (hz : l.length + A.length * B.length ≤ 1000000) (hz2 : B.length ≤ 1000000 ∧ A.length ≤ 1000000) :
    M0.callS K "add_product" [.ref m, .tup (A.map trD), .tup (B.map trD)] S = .ok .non (S.set m (.dt (dQ (addP l A B)))) := by
  obtain ⟨k, rfl⟩ : ∃ k, K = k + 3 := ⟨K - 3, by omega⟩
  refine c_nxtW (σ := [some (.ref m), some (.tup (A.map trD)), some (.tup (B.map trD)), none, none, none, none, none, none, none]) fd_add_product rfl (s_for (x_val (q_loc (i := 1) (by decide +kernel) rfl) rfl rfl) rfl rfl rfl ?_) (by simp)
  refine j_next ?_ s_nil
  refine for_ind (xs := A.map trD)
    (P := fun ys σ S' => ∃ (l' : QD) (Y : Tri), ys = Y.map trD ∧ (∀ t ∈ Y, smallI t.2.2) ∧ S' = S.set m (.dt (dQ l')) ∧ addP l' Y B = addP l A B ∧ l'.length + Y.length * B.length ≤ 1000000 ∧ σ = [some (.ref m), some (.tup (A.map trD)), some (.tup (B.map trD)), none, none, none, none, none, none, none])
    (R := fun r => r = .next [some (.ref m), some (.tup (A.map trD)), some (.tup (B.map trD)), none, none, none, none, none, none, none] (S.set m (.dt (dQ (addP l A B))))) (fun _ _ _ _ => walks_tup) ?_ ?_ _ 0 _ _ _ rfl (by simp [srcLen]) ⟨l, A, rfl, hA, set_self h, rfl, hz, rfl⟩
  · rintro σ S' ⟨l', Y, e, _, rfl, e2, _, rfl⟩
    cases Y with
    | nil => rw [← e2]; rfl
    | cons a Y => cases e
  · rintro d ys σ S' ⟨l', Y, e, hY, rfl, e2, hz, rfl⟩
    cases Y with
    | nil => cases e
    | cons t Y =>
      cases e
      have hs := set_at (b := .dt (dQ l')) h
      simp only [List.length_cons, Nat.add_mul, Nat.one_mul] at hz
      have hr := row_loop (k := k) (A := A) (B := B) (a := t) (hY t List.mem_cons_self) hs (by omega)
      rw [List.set_set] at hr
      refine ⟨[(3, .int t.1), (4, .int t.2.1), (5, .int t.2.2)], rfl, .inl ⟨_, _, (s_for (x_val (q_loc (i := 2) (by decide +kernel) rfl) rfl rfl) rfl rfl (by
        show forL keepC false _ _ _ ((B.map trD).length + 1) 0 _ _ = _
        rw [List.length_map]
        exact hr) (j_next rfl s_nil)), by simp, addR t l' B, Y, rfl, fun u hu => hY u (List.mem_cons_of_mem _ hu), rfl, e2, ?_, rfl⟩⟩
      have := addR_len t B l'
      omega
end Law
end
section
set_option maxRecDepth 1000000
set_option maxHeartbeats 1000000
namespace Law
open PySem PySem.Spec PyProof.Rows L2 Dp LamX
/-- the terms of a dict's sums, in order -/
def gath (p : Int) (l : QD) : Tri := (srtQ l).filterMap fun e => if (!(e.2 % p == 0)) = true then some (e.1.1, e.1.2, e.2 % p) else none
def gO (p : Int) : D → Option D
  | .tup [.kt [.inl i, .inl j], .int c] => if (!(c % p == 0)) = true then some (trD (i, j, c % p)) else none
  | _ => none
theorem gath_map (p : Int) : ∀ l : QD, (l.map fun e => D.tup [.kt (kq e.1), .int e.2]).filterMap (gO p) = (l.filterMap fun e => if (!(e.2 % p == 0)) = true then some (e.1.1, e.1.2, e.2 % p) else none).map trD
  | [] => rfl
  | e :: l => by
    rw [List.map_cons, List.filterMap_cons, List.filterMap_cons, gath_map p l]
    have hg : gO p (.tup [.kt (kq e.1), .int e.2]) = if (!(e.2 % p == 0)) = true then some (trD (e.1.1, e.1.2, e.2 % p)) else none := rfl
    rw [hg]
    by_cases h : (!(e.2 % p == 0)) = true
    · simp only [if_pos h, List.map_cons]
    · simp only [if_neg h]
theorem gathered_ok {K : Nat} (hK : 3 ≤ K) {S : Sto} {m : Nat} {l : QD} {p : Int} (hp : 0 < p) (h : S[m]? = some (.dt (dQ l))) (hz : l.length ≤ 1000000) :
    M0.callS K "gathered" [.int p, .ref m] S = .ok (.tup ((gath p l).map trD)) S := by
  obtain ⟨k, rfl⟩ : ∃ k, K = k + 3 := ⟨K - 3, by omega⟩
  have hl : (srtQ l).length = l.length := (srtQ_perm l).length_eq
  refine (c_ret fd_gathered rfl (s_ret (q_blt (l_cons rfl (q_lc (o := gO p) (xs := (sortG ltI (dQ l)).map itD) (x_call (q_items (q_loc (i := 1) (by decide +kernel) rfl) rfl rfl h (all_itB _)) (by decide +kernel) rfl) (by decide +kernel) rfl (fun _ => walks_lv) rfl (by
    rw [srtQ_items, List.length_map]; omega) ?_ ?_) l_nil) (by decide +kernel) (by decide +kernel) rfl rfl))).trans ?_
  · intro d hd S1
    rw [srtQ_items] at hd
    obtain ⟨e, _, rfl⟩ := List.mem_map.mp hd
    obtain ⟨⟨i, j⟩, c⟩ := e
    exact (turn_if (l := [(3, .int i), (4, .int j), (2, .int c)]) rfl rfl (t_cmp rfl (q_bin (q_loc (i := 2) (by decide +kernel) rfl) (q_loc (i := 0) (by decide +kernel) rfl) (l_mod hp)) q_int Dp.ne_int) (fun _ => (q_tup rfl (l_cons rfl (q_loc (i := 3) (by decide +kernel) rfl) (l_cons rfl (q_loc (i := 4) (by decide +kernel) rfl) (l_cons rfl (q_bin (q_loc (i := 2) (by decide +kernel) rfl) (q_loc (i := 0) (by decide +kernel) rfl) (l_mod hp)) l_nil))) (Nat.le_of_ble_eq_true rfl))))
  · intro d hd y hy
    rw [srtQ_items] at hd
    obtain ⟨e, _, rfl⟩ := List.mem_map.mp hd
    have hy : (if (!(e.2 % p == 0)) = true then some (trD (e.1.1, e.1.2, e.2 % p)) else none) = some y := hy
    split at hy
    · cases hy; rfl
    · cases hy
  · rw [srtQ_items, gath_map]
    rfl
end Law
end
section
set_option maxRecDepth 1000000
set_option maxHeartbeats 1000000
namespace Law
open PySem PySem.Spec PyProof.Rows L2 Dp LamX
/-- a def that makes one thing and gives it up -/
theorem c_ret1 {M : Mo} {k : Nat} {f : Str} {t : DD} {ds : List D} {S : Sto} {d : D} {m : Dp.M} (hf : M.find f = some t) (hl : ds.length = t.ps.length)
    (h : exs (ex (M.gam t.N t.scope.names (M.call (k + 2)) (M.lamF t (M.call (k + 1)) (M.call k)) noAct) M.fuel t.scope) t.body (startD t.N ds) S = .ret d (S ++ [m])) (hv : cloB S.length d = true) : M.callS (k + 3) f ds S = .ok d S := by
  show scope keepC S (M.call (k + 3) f ds S) = _
  rw [q_def hf hl (d_ret h)]
  exact scope_back rfl keep_refl hv
theorem pure_tr (T : Tri) : pureB (.tup (T.map trD)) = true := pure_trs
theorem clo_tr (T : Tri) {n : Nat} : cloB n (.tup (T.map trD)) = true := pure_clo (pure_tr T)
theorem at_len {S : Sto} {m : M} : (S ++ [m])[S.length]? = some m := by simp
theorem set_len {S : Sto} {m m2 : M} : (S ++ [m]).set S.length m2 = S ++ [m2] := by simp
theorem addS_len (n : Int) : ∀ (T : Tri) (l : QD), (addS n l T).length ≤ l.length + T.length
  | [], l => Nat.le_refl _
  | t :: T, l => by
    have h1 := addS_len n T (putQ l (frst t) (coef l (frst t) + t.2.2 * n))
    have h2 := putQ_len l (frst t) (coef l (frst t) + t.2.2 * n)
    show (addS n (putQ _ _ _) T).length ≤ _
    simp only [List.length_cons]
    omega
theorem addP_len (B : Tri) : ∀ (A : Tri) (l : QD), (addP l A B).length ≤ l.length + A.length * B.length
  | [], l => by simp [addP]
  | a :: A, l => by
    have h1 := addP_len B A (addR a l B)
    have h2 := addR_len a B l
    show (addP (addR a l B) A B).length ≤ _
    simp only [List.length_cons, Nat.add_mul, Nat.one_mul]
    omega
theorem prime_pos {p : Int} (hp : primeB (.int p) = true) : 2 ≤ p ∧ p ≤ 7 := by
  obtain ⟨q, e, h⟩ := primeB_int hp
  cases e; exact h
end Law
end
section
set_option maxRecDepth 100000
set_option maxHeartbeats 1000000
set_option linter.all false
namespace Law
open PySem PySem.Spec PyProof.Rows L2 Dp LamX
/-! ### what sums and products hold -/
def cf : Tri → Int × Int → Int
  | [], _ => 0
  | t :: T, q => (if q = frst t then t.2.2 else 0) + cf T q
def x2 (q : Int × Int) (a b : Int × Int × Int) : Int := if q = (a.1 + b.1, a.2.1 + b.2.1) then a.2.2 * b.2.2 else 0
def cpR (q : Int × Int) (a : Int × Int × Int) : Tri → Int
  | [] => 0
  | b :: B => x2 q a b + cpR q a B
def cp (q : Int × Int) (B : Tri) : Tri → Int
  | [] => 0
  | a :: A => cpR q a B + cp q B A
theorem cf_c (t : Int × Int × Int) (T : Tri) (q : Int × Int) : cf (t :: T) q = (if q = frst t then t.2.2 else 0) + cf T q := rfl
theorem cpR_c (q : Int × Int) (a b : Int × Int × Int) (B : Tri) : cpR q a (b :: B) = x2 q a b + cpR q a B := rfl
theorem cp_c (q : Int × Int) (B : Tri) (a : Int × Int × Int) (A : Tri) : cp q B (a :: A) = cpR q a B + cp q B A := rfl
theorem coef_nil (q : Int × Int) : coef [] q = 0 := rfl
theorem coef_addS (n : Int) (q : Int × Int) : ∀ (T : Tri) (l : QD), coef (addS n l T) q = coef l q + cf T q * n
  | [], l => by simp [cf, addS]
  | t :: T, l => by
    show coef (addS n (putQ l (frst t) (coef l (frst t) + t.2.2 * n)) T) q = _
    rw [coef_addS n q T, coef_put, cf_c]
    split
    · rename_i h; subst h
      rw [Int.add_mul, Int.add_assoc]
    · rw [Int.zero_add]
theorem coef_addR (q : Int × Int) (a : Int × Int × Int) : ∀ (B : Tri) (l : QD), coef (addR a l B) q = coef l q + cpR q a B
  | [], l => by simp [cpR, addR]
  | b :: B, l => by
    show coef (addR a (putQ l (a.1 + b.1, a.2.1 + b.2.1) (coef l (a.1 + b.1, a.2.1 + b.2.1) + a.2.2 * b.2.2)) B) q = _
    rw [coef_addR q a B, coef_put, cpR_c]
    unfold x2
    split
    · rename_i h; subst h
      rw [Int.add_assoc]
    · rw [Int.zero_add]
theorem coef_addP (q : Int × Int) (B : Tri) : ∀ (A : Tri) (l : QD), coef (addP l A B) q = coef l q + cp q B A
  | [], l => by simp [cp, addP]
  | a :: A, l => by
    show coef (addP (addR a l B) A B) q = _
    rw [coef_addP q B A, coef_addR, cp_c, Int.add_assoc]
theorem x2_comm (q : Int × Int) (a b : Int × Int × Int) : x2 q a b = x2 q b a := by
  unfold x2
  rw [Int.add_comm a.1, Int.add_comm a.2.1, Int.mul_comm]
theorem cp_cons (q : Int × Int) (b : Int × Int × Int) (B : Tri) : ∀ A : Tri, cp q (b :: B) A = cpR q b A + cp q B A
  | [] => rfl
  | a :: A => by
    have ih := cp_cons q b B A
    rw [cp_c, cp_c, cpR_c, cpR_c, ih, x2_comm q a b]
    omega
theorem cp_nil (q : Int × Int) : ∀ A : Tri, cp q [] A = 0
  | [] => rfl
  | a :: A => by
    unfold cp
    rw [cp_nil q A]; rfl
theorem cp_comm (q : Int × Int) (B : Tri) : ∀ A : Tri, cp q B A = cp q A B
  | [] => (cp_nil q B).symm
  | a :: A => by
    rw [cp_cons]
    show cpR q a B + cp q B A = _
    rw [cp_comm q B A]
theorem addS_nodup (n : Int) : ∀ (T : Tri) {l : QD}, (l.map (·.1)).Nodup → ((addS n l T).map (·.1)).Nodup
  | [], l, h => h
  | t :: T, l, h => addS_nodup n T (putQ_nodup h _ _)
theorem addR_nodup (a : Int × Int × Int) : ∀ (T : Tri) {l : QD}, (l.map (·.1)).Nodup → ((addR a l T).map (·.1)).Nodup
  | [], l, h => h
  | t :: T, l, h => addR_nodup a T (putQ_nodup h _ _)
theorem addP_nodup (B : Tri) : ∀ (T : Tri) {l : QD}, (l.map (·.1)).Nodup → ((addP l T B).map (·.1)).Nodup
  | [], l, h => h
  | t :: T, l, h => addP_nodup B T (addR_nodup t B h)
/-- the members of what is gathered -/
theorem gath_mem {p : Int} {l : QD} (h : (l.map (·.1)).Nodup) {t : Int × Int × Int} : t ∈ gath p l ↔ t.2.2 = coef l (frst t) % p ∧ t.2.2 ≠ 0 := by
  unfold gath
  rw [List.mem_filterMap]
  constructor
  · rintro ⟨e, he, hg⟩
    have he : e ∈ l := (srtQ_perm l).mem_iff.mp he
    split at hg
    · rename_i hn
      cases hg
      have hv := (valQ_mem h).mpr (show (e.1, e.2) ∈ l from he)
      have hc : coef l e.1 = e.2 := by unfold coef; rw [hv]; rfl
      refine ⟨?_, ?_⟩
      · show e.2 % p = coef l (e.1.1, e.1.2) % p
        rw [show ((e.1.1, e.1.2) : Int × Int) = e.1 from rfl, hc]
      · simpa using hn
    · cases hg
  · rintro ⟨h1, h2⟩
    cases hv : valQ l (frst t) with
    | none =>
      have hc : coef l (frst t) = 0 := by unfold coef; rw [hv]; rfl
      rw [hc] at h1
      exact absurd (by simpa using h1) h2
    | some c =>
      have hc : coef l (frst t) = c := by unfold coef; rw [hv]; rfl
      rw [hc] at h1
      refine ⟨(frst t, c), (srtQ_perm l).mem_iff.mpr ((valQ_mem h).mp hv), ?_⟩
      show (if (!(c % p == 0)) = true then some (t.1, t.2.1, c % p) else none) = some t
      rw [← h1, if_pos (by simpa using h2)]
theorem gath_asc {p : Int} {l : QD} (h : (l.map (·.1)).Nodup) : ((gath p l).map fun t => (t.1, t.2.1)).Pairwise ltQ2 := by
  have hs := srtQ_asc h
  rw [List.pairwise_map] at hs ⊢
  unfold gath
  rw [List.pairwise_filterMap]
  refine hs.imp fun {a b} hab x hx y hy => ?_
  split at hx
  · split at hy
    · cases hx; cases hy
      exact hab
    · cases hy
  · cases hx
/-! ### what the law's own dicts say -/
/-- the terms of a dict, in order -/
def polyOf (l : QD) : Tri := (srtK (l.map (·.1))).map fun q => (q.1, q.2, coef l q)
theorem polyOf_mem {l : QD} (h : (l.map (·.1)).Nodup) {t : Int × Int × Int} : t ∈ polyOf l ↔ (frst t, t.2.2) ∈ l := by
  unfold polyOf
  rw [List.mem_map]
  constructor
  · rintro ⟨q, hq, rfl⟩
    have hq := (srtK_perm _).mem_iff.mp hq
    obtain ⟨e, he, rfl⟩ := List.mem_map.mp hq
    have hv := (valQ_mem h).mpr (show (e.1, e.2) ∈ l from he)
    have hc : coef l e.1 = e.2 := by unfold coef; rw [hv]; rfl
    show ((e.1.1, e.1.2), coef l e.1) ∈ l
    rw [hc]; exact he
  · intro hm
    have hv := (valQ_mem h).mpr hm
    have hc : coef l (frst t) = t.2.2 := by unfold coef; rw [hv]; rfl
    refine ⟨frst t, (srtK_perm _).mem_iff.mpr (List.mem_map_of_mem (f := (·.1)) hm), ?_⟩
    rw [hc]; rfl
theorem polyOf_asc {l : QD} (h : (l.map (·.1)).Nodup) : ((polyOf l).map fun t => (t.1, t.2.1)).Pairwise ltQ2 := by
  unfold polyOf
  rw [List.map_map]
  have : ((fun t : Int × Int × Int => (t.1, t.2.1)) ∘ fun q : Int × Int => (q.1, q.2, coef l q)) = id := rfl
  rw [this, List.map_id]
  exact srtK_asc h
def entr (T : Tri) : QD := T.map fun t => (frst t, t.2.2)
theorem entr_nodup {T : Tri} (h : T.Pairwise fun t u => ltQ (frst t) (frst u)) : ((entr T).map (·.1)).Nodup := by
  unfold entr
  rw [List.map_map]
  show (T.map frst).Nodup
  unfold List.Nodup
  rw [List.pairwise_map]
  refine h.imp fun {a b} hab e => ?_
  unfold ltQ at hab
  rw [e] at hab
  omega
theorem cf_none : ∀ {T : Tri} {q : Int × Int}, q ∉ T.map frst → cf T q = 0
  | [], _, _ => rfl
  | t :: T, q, h => by
    rw [List.map_cons, List.mem_cons, not_or] at h
    unfold cf
    rw [if_neg h.1, cf_none h.2]; rfl
theorem entr_keys (T : Tri) : (entr T).map (·.1) = T.map frst := by unfold entr; rw [List.map_map]; rfl
theorem coef_entr : ∀ {T : Tri}, ((entr T).map (·.1)).Nodup → ∀ q, coef (entr T) q = cf T q
  | [], _, q => rfl
  | t :: T, h, q => by
    have h2 : ((entr T).map (·.1)).Nodup := (List.nodup_cons.mp h).2
    have ih := coef_entr h2 q
    have hn : frst t ∉ T.map frst := by
      have := (List.nodup_cons.mp h).1
      rw [← entr_keys]; exact this
    unfold cf
    show coef ((frst t, t.2.2) :: entr T) q = _
    unfold coef valQ at ih ⊢
    rw [List.find?_cons]
    by_cases e : frst t = q
    · subst e
      rw [if_pos rfl, cf_none hn]
      simp
    · have e2 : ¬ q = frst t := fun z => e z.symm
      rw [if_neg e2]
      simp only [e, decide_false, Int.zero_add]
      exact ih
/-! ### a dict of rows of pairs -/
def mrgQ (l m : QD) : QD := m.foldl (fun acc e => putQ acc e.1 e.2) l
theorem mergeT_Q : ∀ (m l : QD), mergeT (dQ l) (dQ m) = dQ (mrgQ l m)
  | [], l => rfl
  | e :: m, l => by
    show mergeT (putD (dQ l) (kq e.1) (.int e.2)) (dQ m) = dQ (mrgQ (putQ l e.1 e.2) m)
    rw [putD_Q, mergeT_Q m]
theorem mrg_app : ∀ (m l : QD), ((l ++ m).map (·.1)).Nodup → mrgQ l m = l ++ m
  | [], l, _ => by simp [mrgQ]
  | e :: m, l, h => by
    have hn : putQ l e.1 e.2 = l ++ [e] := by
      unfold putQ
      rw [if_neg]
      intro z
      obtain ⟨f, hf, hfe⟩ := List.any_eq_true.mp z
      have hfe : f.1 = e.1 := of_decide_eq_true hfe
      rw [List.map_append, List.map_cons, List.nodup_append] at h
      exact h.2.2 f.1 (List.mem_map_of_mem hf) e.1 List.mem_cons_self hfe
    show mrgQ (putQ l e.1 e.2) m = _
    rw [hn, mrg_app m (l ++ [e]) (by simpa using h)]
    simp
theorem mrg_nil {m : QD} (h : (m.map (·.1)).Nodup) : mrgQ [] m = m := by
  rw [mrg_app m [] (by simpa using h)]; rfl
theorem ktPs_Q : ∀ l : QD, ktPs (l.map fun e => D.tup [.kt (kq e.1), .int e.2]) = some (dQ l)
  | [] => rfl
  | e :: l => by
    show (match ktP (.tup [.kt (kq e.1), .int e.2]), ktPs (l.map fun e => D.tup [.kt (kq e.1), .int e.2]) with
      | some p, some ps => some (p :: ps)
      | _, _ => none) = _
    rw [ktPs_Q l]; rfl
theorem dict_lv {S : Sto} {l : QD} (h : (l.map (·.1)).Nodup) : fDict false [.lv (l.map fun e => D.tup [.kt (kq e.1), .int e.2])] S = some (dwQ l, S) := by
  show (match ktPs (l.map fun e => D.tup [.kt (kq e.1), .int e.2]) with
    | some kvs => newT false (mergeT [] kvs) S
    | none => none) = _
  rw [ktPs_Q]
  show some (D.dw ((mergeT (dQ []) (dQ l)).map (·.1)) ((mergeT (dQ []) (dQ l)).map (·.2)), S) = _
  rw [mergeT_Q, mrg_nil h]; rfl
theorem dict_lvO {S : Sto} {l : QD} (h : (l.map (·.1)).Nodup) : fDict true [.lv (l.map fun e => D.tup [.kt (kq e.1), .int e.2])] S = some (.ref S.length, S ++ [.dt (dQ l)]) := by
  show (match ktPs (l.map fun e => D.tup [.kt (kq e.1), .int e.2]) with
    | some kvs => newT true (mergeT [] kvs) S
    | none => none) = _
  rw [ktPs_Q]
  show some (D.ref S.length, S ++ [.dt (mergeT (dQ []) (dQ l))]) = _
  rw [mergeT_Q, mrg_nil h]
end Law
end
section
set_option maxRecDepth 1000000
set_option maxHeartbeats 1000000
set_option linter.all false
namespace Law
open PySem PySem.Spec PyProof.Rows L2 Dp LamX
theorem fd__law_dict : M0.find "_law_dict" = some d__law_dict := by kernel_rfl
theorem fd__law_poly_of : M0.find "_law_poly_of" = some d__law_poly_of := by kernel_rfl
theorem fd__law_added : M0.find "_law_added" = some d__law_added := by kernel_rfl
theorem fm_gen {α β γ δ : Type} {f : α → γ} {o : γ → Option δ} {h : α → Option β} {g : β → δ} : ∀ l : List α, (∀ x ∈ l, o (f x) = (h x).map g) → (l.map f).filterMap o = (l.filterMap h).map g
  | [], _ => rfl
  | a :: l, hh => by
    rw [List.map_cons, List.filterMap_cons, List.filterMap_cons, hh a List.mem_cons_self, fm_gen l fun x hx => hh x (List.mem_cons_of_mem _ hx)]
    cases h a <;> rfl
theorem fm_all {α β : Type} {g : α → β} : ∀ l : List α, l.filterMap (fun a => some (g a)) = l.map g
  | [] => rfl
  | a :: l => by rw [List.filterMap_cons, List.map_cons, fm_all l]
theorem fm_map {α γ δ : Type} {f : α → γ} {o : γ → Option δ} {g : α → δ} (l : List α) (h : ∀ x ∈ l, o (f x) = some (g x)) : (l.map f).filterMap o = l.map g := by
  rw [fm_gen (h := fun x => some x) (g := g) l fun x hx => by rw [h x hx]; rfl, fm_all, List.map_id']
def pairKV (e : (Int × Int) × Int) : D := .tup [.kt (kq e.1), .int e.2]
theorem clo_kv {n : Nat} {e : (Int × Int) × Int} : cloB n (pairKV e) = true := rfl
theorem clo_dw {n : Nat} {l : QD} : cloB n (dwQ l) = true := by
  show cloBs n ((dQ l).map (·.2)) = true
  induction l with
  | nil => rfl
  | cons e l ih => 
    show (true && cloBs n ((dQ l).map (·.2))) = true
    rw [ih]; rfl
def dictO : D → Option D
  | .tup [.int i, .int j, .int c] => some (pairKV ((i, j), c))
  | _ => none
variable {S : Sto} {p : Int}
theorem _law_dict_ok {K : Nat} (hK : 3 ≤ K) {T : Tri} (hn : ((entr T).map (·.1)).Nodup) (hz : T.length ≤ 1000000) : M0.callS K "_law_dict" [.tup (T.map trD)] S = .ok (dwQ (entr T)) S := by
  obtain ⟨k, rfl⟩ : ∃ k, K = k + 3 := ⟨K - 3, by omega⟩
  have e1 : (T.map trD).filterMap dictO = (entr T).map pairKV := by
    unfold entr
    rw [fm_map (f := trD) (o := dictO) (g := fun t => pairKV (frst t, t.2.2)) T fun x _ => rfl, List.map_map]; rfl
  have e2 : fDict false [.lv ((T.map trD).filterMap dictO)] S = some (dwQ (entr T), S) := by
    rw [e1]; exact dict_lv hn
  refine c_ret fd__law_dict rfl (s_ret (q_blt (l_cons rfl (q_lc (o := dictO) (xs := T.map trD) (x_val (q_loc (i := 0) (by decide +kernel) rfl) rfl rfl) (by decide +kernel) rfl (fun _ => walks_tup) rfl (by simpa using hz) ?_ ?_) l_nil) (by decide +kernel) (by decide +kernel) rfl e2))
  · intro d hd S1
    obtain ⟨⟨i, j, c⟩, _, rfl⟩ := List.mem_map.mp hd
    exact (turn_one (l := [(1, trD (i, j, c))]) rfl rfl (q_tup rfl (l_cons rfl (q_kt (ks := kq (i, j)) rfl (l_cons rfl (q_ix rfl (q_loc (i := 1) (by decide +kernel) rfl) q_int (ix_tup (by decide) rfl)) (l_cons rfl (q_ix rfl (q_loc (i := 1) (by decide +kernel) rfl) q_int (ix_tup (by decide) rfl)) l_nil)) rfl (Nat.le_of_ble_eq_true rfl)) (l_cons rfl (q_ix rfl (q_loc (i := 1) (by decide +kernel) rfl) q_int (ix_tup (by decide) rfl)) l_nil)) (Nat.le_of_ble_eq_true rfl)))
  · intro d hd y hy
    obtain ⟨⟨i, j, c⟩, _, rfl⟩ := List.mem_map.mp hd
    cases hy; rfl
/-! ### a dict told in order -/
theorem sortA_dw {l : QD} : fSortA false [dwQ l] S = some (.lv ((srtK (l.map (·.1))).map fun q => .kt (kq q)), S) := by
  have h1 : fSorted false [dwQ l] S = none := rfl
  unfold fSortA
  rw [h1]
  dsimp only
  unfold fSortK
  have h2 : dtOf S (dwQ l) = some (dQ l) := by
    show some (((dQ l).map (·.1)).zip ((dQ l).map (·.2))) = _
    rw [zip_Q]
  rw [h2]
  dsimp only
  rw [if_pos (all_kB l), srtK_keys]; rfl
theorem kt_cat {q : Int × Int} {c : Int} {o : Bool} : binD o .Add (.kt (kq q)) (.tup [.int c]) S = some (trD (q.1, q.2, c), S) := by
  show (if 2 + (0 + 1) ≤ sizeLine then some (D.tup ((kq q).map dKey ++ [.int c]), S) else none) = _
  rw [if_pos (by rw [sizeLine_eq]; decide)]; rfl
def polyO (l : QD) : D → Option D
  | .kt [.inl i, .inl j] => some (trD (i, j, coef l (i, j)))
  | _ => none
theorem _law_poly_of_ok {K : Nat} (hK : 3 ≤ K) {l : QD} (hn : (l.map (·.1)).Nodup) (hz : l.length ≤ 1000000) : M0.callS K "_law_poly_of" [dwQ l] S = .ok (.tup ((polyOf l).map trD)) S := by
  obtain ⟨k, rfl⟩ : ∃ k, K = k + 3 := ⟨K - 3, by omega⟩
  have hl : (srtK (l.map (·.1))).length = l.length := by rw [(srtK_perm _).length_eq, List.length_map]
  refine (c_ret fd__law_poly_of rfl (s_ret (q_blt (l_cons rfl (q_lc (o := polyO l) (xs := (srtK (l.map (·.1))).map fun q => .kt (kq q)) (x_call (q_blt (l_cons rfl (q_loc (i := 0) (by decide +kernel) rfl) l_nil) (by decide +kernel) (by decide +kernel) rfl sortA_dw) (by decide +kernel) rfl) (by decide +kernel) rfl (fun _ => walks_lv) rfl (by rw [List.length_map]; omega) ?_ ?_) l_nil) (by decide +kernel) (by decide +kernel) rfl rfl))).trans ?_
  · intro d hd S1
    obtain ⟨q, hq, rfl⟩ := List.mem_map.mp hd
    have hv : valQ l q = some (coef l q) := by
      obtain ⟨e, he, rfl⟩ := List.mem_map.mp ((srtK_perm _).mem_iff.mp hq)
      have hv := (valQ_mem hn).mpr (show (e.1, e.2) ∈ l from he)
      unfold coef
      rw [hv]; rfl
    exact (turn_one (l := [(1, .kt (kq q))]) rfl rfl (q_bin (q_loc (i := 1) (by decide +kernel) rfl) (q_tup rfl (l_cons rfl (q_ix rfl (q_loc (i := 0) (by decide +kernel) rfl) (q_loc (i := 1) (by decide +kernel) rfl) (ix_dw hv)) l_nil) (Nat.le_of_ble_eq_true rfl)) kt_cat))
  · intro d hd y hy
    obtain ⟨q, _, rfl⟩ := List.mem_map.mp hd
    cases hy; rfl
  · rw [fm_map (g := fun q => trD (q.1, q.2, coef l q)) (o := polyO l) _ fun x _ => rfl]
    unfold polyOf
    rw [List.map_map]
    rfl
/-! ### the law's sums -/
def lawAdd (p n : Int) (l o : QD) : QD := o.foldl (fun l e => putQ l e.1 ((coef l e.1 + n * e.2) % p)) l
/-- those that are not nought -/
def nz (f : Int → Int) (l : QD) : QD := l.filterMap fun e => if (!(f e.2 == 0)) = true then some (e.1, f e.2) else none
theorem nz_nodup {f : Int → Int} {l : QD} (h : (l.map (·.1)).Nodup) : ((nz f l).map (·.1)).Nodup := by
  unfold nz List.Nodup at *
  rw [List.pairwise_map] at h ⊢
  rw [List.pairwise_filterMap]
  refine h.imp fun {a b} hab x hx y hy => ?_
  split at hx
  · split at hy
    · cases hx; cases hy; exact hab
    · cases hy
  · cases hx
theorem lawAdd_nodup {p n : Int} : ∀ (o : QD) {l : QD}, (l.map (·.1)).Nodup → ((lawAdd p n l o).map (·.1)).Nodup
  | [], _, h => h
  | e :: o, l, h => lawAdd_nodup o (putQ_nodup h _ _)
theorem lawAdd_len {p n : Int} : ∀ (o l : QD), (lawAdd p n l o).length ≤ l.length + o.length
  | [], l => Nat.le_refl _
  | e :: o, l => by
    have h1 := lawAdd_len (p := p) (n := n) o (putQ l e.1 ((coef l e.1 + n * e.2) % p))
    have h2 := putQ_len l e.1 ((coef l e.1 + n * e.2) % p)
    show (lawAdd p n (putQ _ _ _) o).length ≤ _
    simp only [List.length_cons]
    omega
theorem val_of {l : QD} (hn : (l.map (·.1)).Nodup) {e : (Int × Int) × Int} (he : e ∈ l) : valQ l e.1 = some e.2 ∧ coef l e.1 = e.2 := by
  have hv := (valQ_mem hn).mpr (show (e.1, e.2) ∈ l from he)
  exact ⟨hv, by unfold coef; rw [hv]; rfl⟩
def keysD (l : QD) : List D := l.map fun e => .kt (kq e.1)
theorem keys_kys (l : QD) : ((dQ l).map (·.1)).map D.kt = keysD l := by unfold dQ keysD; rw [List.map_map, List.map_map]; rfl
theorem walks_Q {l : QD} {S : Sto} : Walks (.kys ((dQ l).map (·.1))) (keysD l) S := by rw [← keys_kys]; exact walks_kys
theorem len_Q {l : QD} {S : Sto} : srcLen S (.kys ((dQ l).map (·.1))) = (keysD l).length := by simp [srcLen, dQ, keysD]
def sameO (l : QD) : D → Option D
  | .kt [.inl i, .inl j] => some (pairKV ((i, j), coef l (i, j)))
  | _ => none
def nzO (f : Int → Int) (l : QD) : D → Option D
  | .kt [.inl i, .inl j] => if (!(f (coef l (i, j)) == 0)) = true then some (pairKV ((i, j), f (coef l (i, j)))) else none
  | _ => none
theorem nz_map {f : Int → Int} {l : QD} (hn : (l.map (·.1)).Nodup) : (keysD l).filterMap (nzO f l) = (nz f l).map pairKV := by
  unfold keysD nz
  refine fm_gen l fun e he => ?_
  have hc := (val_of hn he).2
  show (if (!(f (coef l e.1) == 0)) = true then some (pairKV (e.1, f (coef l e.1))) else none) = _
  rw [hc]
  split <;> rfl
theorem same_map {l : QD} (hn : (l.map (·.1)).Nodup) : (keysD l).filterMap (sameO l) = l.map pairKV := by
  have h := fm_gen (f := fun e : (Int × Int) × Int => D.kt (kq e.1)) (o := sameO l) (h := fun e => some e) (g := pairKV) l fun e he => by
    have hc := (val_of hn he).2
    show some (pairKV (e.1, coef l e.1)) = _
    rw [hc]; rfl
  rw [show keysD l = l.map fun e => .kt (kq e.1) from rfl, h, List.filterMap_some]
theorem at_len2 {m m2 : M} : ((S ++ [m]) ++ [m2])[S.length]? = some m := by simp
theorem set_len2 {m : M} {n : Nat} (h : n = S.length) {m0 : M} : (S ++ [m0]).set n m = S ++ [m] := by subst h; simp
theorem _law_added_ok {K : Nat} (hK : 3 ≤ K) (hp : 0 < p) {n : Int} (hnb : smallI n) {o1 o2 : QD} (h1 : (o1.map (·.1)).Nodup) (h2 : (o2.map (·.1)).Nodup) (z1 : o1.length ≤ 10000) (z2 : o2.length ≤ 10000) :
    M0.callS K "_law_added" [.int p, dwQ o1, dwQ o2, .int n] S = .ok (dwQ (nz id (lawAdd p n o1 o2))) S := by
  obtain ⟨k, rfl⟩ : ∃ k, K = k + 3 := ⟨K - 3, by omega⟩
  have hd1 : fDict true [.lv ((keysD o1).filterMap (sameO o1))] S = some (.ref S.length, S ++ [.dt (dQ o1)]) := by rw [same_map h1]; exact dict_lvO h1
  have nL := lawAdd_nodup (p := p) (n := n) o2 h1
  have zL := lawAdd_len (p := p) (n := n) o2 o1
  have hd2 : fDict false [.lv ((keysD (lawAdd p n o1 o2)).filterMap (nzO id (lawAdd p n o1 o2)))] (S ++ [.ft (dQ (lawAdd p n o1 o2))]) = some (dwQ (nz id (lawAdd p n o1 o2)), S ++ [.ft (dQ (lawAdd p n o1 o2))]) := by rw [nz_map nL]; exact dict_lv (nz_nodup nL)
  refine c_ret1 (m := .ft (dQ (lawAdd p n o1 o2))) fd__law_added rfl (s_set (q_blt (l_cons rfl (q_lcK (o := sameO o1) (xs := keysD o1) (x_keys (q_loc (i := 1) (by decide +kernel) rfl) rfl srcW_dw) (by decide +kernel) rfl (fun _ => walks_Q) len_Q (by simp [keysD]; omega) ?_ ?_) l_nil) (by decide +kernel) (by decide +kernel) rfl hd1) (by decide +kernel) (i := 4) (by decide +kernel)
    (s_for (x_keys (q_loc (i := 2) (by decide +kernel) rfl) rfl srcW_dw) rfl rfl rfl ?_)) clo_dw
  · intro d hd acc
    obtain ⟨e, he, rfl⟩ := List.mem_map.mp hd
    obtain ⟨hv, hc⟩ := val_of h1 he
    have : sameO o1 (.kt (kq e.1)) = some (.tup [.kt (kq e.1), .int e.2]) := by
      show some (pairKV (e.1, coef o1 e.1)) = _
      rw [hc]; rfl
    rw [this]
    exact (turn_one (l := [(5, .kt (kq e.1))]) rfl rfl (q_tup rfl (l_cons rfl (q_loc (i := 5) (by decide +kernel) rfl) (l_cons rfl (q_ix rfl (q_loc (i := 1) (by decide +kernel) rfl) (q_loc (i := 5) (by decide +kernel) rfl) (ix_dw hv)) l_nil)) (Nat.le_of_ble_eq_true rfl)))
  · intro d hd y hy
    obtain ⟨e, he, rfl⟩ := List.mem_map.mp hd
    cases hy; rfl
  · refine for_ind (xs := keysD o2)
      (P := fun ys σ S' => ∃ (l' Y : QD), ys = keysD Y ∧ (∀ e ∈ Y, e ∈ o2) ∧ S' = S ++ [.dt (dQ l')] ∧ lawAdd p n l' Y = lawAdd p n o1 o2 ∧ l'.length + Y.length ≤ 1000000 ∧ σ = [some (.int p), some (dwQ o1), some (dwQ o2), some (.int n), some (.ref S.length), none])
      (R := fun r => r.bind _ = _) (fun _ _ _ _ => walks_Q) ?_ ?_ _ 0 _ _ _ rfl (by rw [len_Q]; exact Nat.lt_succ_self _) ⟨o1, o2, rfl, fun e h => h, rfl, rfl, by omega, rfl⟩
    · rintro σ S' ⟨l', Y, e, _, rfl, e2, _, rfl⟩
      cases Y with
      | cons a Y => cases e
      | nil =>
        have e2 : l' = lawAdd p n o1 o2 := e2
        subst e2
        refine j_next rfl (s_ret (q_blt (l_cons rfl (q_lcK (o := nzO id (lawAdd p n o1 o2)) (xs := keysD (lawAdd p n o1 o2)) (x_keys (q_loc (i := 4) (by decide +kernel) rfl) rfl ((srcW_dt at_len).trans (by rw [set_len2 rfl]))) (by decide +kernel) rfl (fun _ => walks_Q) len_Q (by simp [keysD]; omega) ?_ ?_) l_nil) (by decide +kernel) (by decide +kernel) rfl hd2))
        · intro d hd acc
          obtain ⟨e, he, rfl⟩ := List.mem_map.mp hd
          obtain ⟨hv, hc⟩ := val_of nL he
          have : nzO id (lawAdd p n o1 o2) (.kt (kq e.1)) = if (!(e.2 == 0)) = true then some (.tup [.kt (kq e.1), .int e.2]) else none := by
            show (if (!(id (coef (lawAdd p n o1 o2) e.1) == 0)) = true then some (pairKV (e.1, id (coef (lawAdd p n o1 o2) e.1))) else none) = _
            rw [hc]; rfl
          rw [this]
          exact (turn_if (l := [(5, .kt (kq e.1))]) rfl rfl (t_cmp rfl (q_ix rfl (q_loc (i := 4) (by decide +kernel) rfl) (q_loc (i := 5) (by decide +kernel) rfl) (ix_ft at_len2 hv)) q_int Dp.ne_int) (fun _ => (q_tup rfl (l_cons rfl (q_loc (i := 5) (by decide +kernel) rfl) (l_cons rfl (q_ix rfl (q_loc (i := 4) (by decide +kernel) rfl) (q_loc (i := 5) (by decide +kernel) rfl) (ix_ft at_len2 hv)) l_nil)) (Nat.le_of_ble_eq_true rfl))))
        · intro d hd y hy
          obtain ⟨e, he, rfl⟩ := List.mem_map.mp hd
          have hy : (if (!(id (coef (lawAdd p n o1 o2) e.1) == 0)) = true then some (pairKV (e.1, id (coef (lawAdd p n o1 o2) e.1))) else none) = some y := hy
          split at hy
          · cases hy; rfl
          · cases hy
    · rintro d ys σ S' ⟨l', Y, e, hY, rfl, e2, hz, rfl⟩
      cases Y with
      | nil => cases e
      | cons t Y =>
        cases e
        obtain ⟨hv, hc⟩ := val_of h2 (hY t List.mem_cons_self)
        simp only [List.length_cons] at hz
        refine ⟨[(5, .kt (kq t.1))], rfl, .inl ⟨_, _, (s_put (q_bin (q_blt (l_cons rfl (q_bin (q_get (q_loc (i := 4) (by decide +kernel) rfl) (q_loc (i := 5) (by decide +kernel) rfl) q_int rfl (isDD_dt at_len) (get2_dt at_len t.1)) (q_bin (q_loc (i := 3) (by decide +kernel) rfl) (q_ix rfl (q_loc (i := 2) (by decide +kernel) rfl) (q_loc (i := 5) (by decide +kernel) rfl) (ix_dw hv)) (l_mul (.inl hnb))) rfl) l_nil) (by decide +kernel) (by decide +kernel) rfl rfl) (q_loc (i := 0) (by decide +kernel) rfl) (l_mod hp)) (q_loc (i := 4) (by decide +kernel) rfl) (q_loc (i := 5) (by decide +kernel) rfl) rfl (set_dt at_len (by omega) t.1 _)
          s_nil), by simp, putQ l' t.1 ((coef l' t.1 + n * t.2) % p), Y, rfl, fun e he => hY e (List.mem_cons_of_mem _ he), by rw [set_len2 rfl], e2, ?_, rfl⟩⟩
        have := putQ_len l' t.1 ((coef l' t.1 + n * t.2) % p)
        omega
end Law
end
section
set_option maxRecDepth 1000000
set_option maxHeartbeats 1000000
set_option linter.all false
namespace Law
open PySem PySem.Spec PyProof.Rows L2 Dp LamX
theorem fd__law_product : M0.find "_law_product" = some d__law_product := by kernel_rfl
theorem fd__law_plus : M0.find "_law_plus" = some d__law_plus := by kernel_rfl
theorem fd__law_less : M0.find "_law_less" = some d__law_less := by kernel_rfl
theorem fd__law_times : M0.find "_law_times" = some d__law_times := by kernel_rfl
variable {S : Sto} {p : Int} {A B : Tri}
noncomputable abbrev lpG (k : Nat) : Gam := M0.gam d__law_product.N d__law_product.scope.names (M0.call (k + 2)) (M0.lamF d__law_product (M0.call (k + 1)) (M0.call k)) noAct
theorem ent_at {T : Tri} (hn : ((entr T).map (·.1)).Nodup) {t : Int × Int × Int} (ht : t ∈ T) : valQ (entr T) (frst t) = some t.2.2 := (val_of hn (List.mem_map_of_mem (f := fun t : Int × Int × Int => (frst t, t.2.2)) ht)).1
theorem keys_entr (T : Tri) : keysD (entr T) = T.map fun t => .kt (kq (frst t)) := by unfold keysD entr; rw [List.map_map]; rfl
theorem prow_loop {k : Nat} {l : QD} {a : Int × Int × Int} {pv : D} (ha : smallI a.2.2) (hA : valQ (entr A) (frst a) = some a.2.2) (hB : ((entr B).map (·.1)).Nodup) (hz : l.length + B.length ≤ 1000000) :
    forL keepC false (.kys ((dQ (entr B)).map (·.1))) (asgE d__law_product.N d__law_product.scope (forT (nthS (loopB (nthS d__law_product.body 1)) 0))) (exs (ex (lpG k) 38 d__law_product.scope) (loopB (nthS (loopB (nthS d__law_product.body 1)) 0))) (B.length + 1) 0
      [some pv, some (dwQ (entr A)), some (dwQ (entr B)), some (.ref S.length), some (.int a.1), some (.int a.2.1), none, none, none] (S ++ [.dt (dQ l)])
      = .next [some pv, some (dwQ (entr A)), some (dwQ (entr B)), some (.ref S.length), some (.int a.1), some (.int a.2.1), none, none, none] (S ++ [.dt (dQ (addR a l B))]) := by
  refine for_ind (xs := keysD (entr B))
    (P := fun ys σ S' => ∃ (l' : QD) (Y : Tri), ys = Y.map (fun t => .kt (kq (frst t))) ∧ (∀ t ∈ Y, t ∈ B) ∧ S' = S ++ [.dt (dQ l')] ∧ addR a l' Y = addR a l B ∧ l'.length + Y.length ≤ 1000000 ∧ σ = [some pv, some (dwQ (entr A)), some (dwQ (entr B)), some (.ref S.length), some (.int a.1), some (.int a.2.1), none, none, none])
    (R := fun r => r = .next [some pv, some (dwQ (entr A)), some (dwQ (entr B)), some (.ref S.length), some (.int a.1), some (.int a.2.1), none, none, none] (S ++ [.dt (dQ (addR a l B))])) (fun _ _ _ _ => walks_Q) ?_ ?_ _ 0 _ _ _ rfl (by rw [keys_entr, List.drop_zero, List.length_map]; exact Nat.lt_succ_self _) ⟨l, B, keys_entr B, fun t h => h, rfl, rfl, hz, rfl⟩
  · rintro σ S' ⟨l', Y, e, _, rfl, e2, _, rfl⟩
    cases Y with
    | nil => rw [← e2]; rfl
    | cons a Y => cases e
  · rintro d ys σ S' ⟨l', Y, e, hY, rfl, e2, hz, rfl⟩
    cases Y with
    | nil => cases e
    | cons t Y =>
      cases e
      have hv := ent_at hB (hY t List.mem_cons_self)
      obtain ⟨i, j, c⟩ := t
      simp only [List.length_cons] at hz
      refine ⟨[(6, .int i), (7, .int j)], rfl, .inl ⟨_, _, (s_put (q_bin (q_get (q_loc (i := 3) (by decide +kernel) rfl) (q_kt (ks := kq (a.1 + i, a.2.1 + j)) rfl (l_cons rfl (q_bin (q_loc (i := 4) (by decide +kernel) rfl) (q_loc (i := 6) (by decide +kernel) rfl) rfl) (l_cons rfl (q_bin (q_loc (i := 5) (by decide +kernel) rfl) (q_loc (i := 7) (by decide +kernel) rfl) rfl) l_nil)) rfl (Nat.le_of_ble_eq_true rfl)) q_int rfl (isDD_dt at_len) (get2_dt at_len (a.1 + i, a.2.1 + j))) (q_bin (q_ix rfl (q_loc (i := 1) (by decide +kernel) rfl) (q_kt (ks := kq (frst a)) rfl (l_cons rfl (q_loc (i := 4) (by decide +kernel) rfl) (l_cons rfl (q_loc (i := 5) (by decide +kernel) rfl) l_nil)) rfl (Nat.le_of_ble_eq_true rfl)) (ix_dw hA)) (q_ix rfl (q_loc (i := 2) (by decide +kernel) rfl) (q_kt (ks := kq (i, j)) rfl (l_cons rfl (q_loc (i := 6) (by decide +kernel) rfl) (l_cons rfl (q_loc (i := 7) (by decide +kernel) rfl) l_nil)) rfl (Nat.le_of_ble_eq_true rfl)) (ix_dw hv)) (l_mul (.inl ha))) rfl) (q_loc (i := 3) (by decide +kernel) rfl) (q_kt (ks := kq (a.1 + i, a.2.1 + j)) rfl (l_cons rfl (q_bin (q_loc (i := 4) (by decide +kernel) rfl) (q_loc (i := 6) (by decide +kernel) rfl) rfl) (l_cons rfl (q_bin (q_loc (i := 5) (by decide +kernel) rfl) (q_loc (i := 7) (by decide +kernel) rfl) rfl) l_nil)) rfl (Nat.le_of_ble_eq_true rfl)) rfl (set_dt at_len (by omega) (a.1 + i, a.2.1 + j) _)
        s_nil), by simp, putQ l' (a.1 + i, a.2.1 + j) (coef l' (a.1 + i, a.2.1 + j) + a.2.2 * c), Y, rfl, fun t h => hY t (List.mem_cons_of_mem _ h), by rw [set_len2 rfl], e2, ?_, rfl⟩⟩
      have := putQ_len l' (a.1 + i, a.2.1 + j) (coef l' (a.1 + i, a.2.1 + j) + a.2.2 * c)
      omega
theorem _law_product_ok {K : Nat} (hK : 3 ≤ K) (hp : 0 < p) (hA : ((entr A).map (·.1)).Nodup) (hB : ((entr B).map (·.1)).Nodup) (hs : ∀ t ∈ A, smallI t.2.2) (lA : A.length ≤ 10000) (lB : B.length ≤ 10000) (lAB : A.length * B.length ≤ 1000000) :
    M0.callS K "_law_product" [.int p, dwQ (entr A), dwQ (entr B)] S = .ok (dwQ (nz (fun c => c % p) (addP [] A B))) S := by
  obtain ⟨k, rfl⟩ : ∃ k, K = k + 3 := ⟨K - 3, by omega⟩
  have nL : ((addP [] A B).map (·.1)).Nodup := addP_nodup B A List.nodup_nil
  have zL := addP_len B A []
  simp only [List.length_nil, Nat.zero_add] at zL
  have hd2 : fDict false [.lv ((keysD (addP [] A B)).filterMap (nzO (fun c => c % p) (addP [] A B)))] (S ++ [.ft (dQ (addP [] A B))]) = some (dwQ (nz (fun c => c % p) (addP [] A B)), S ++ [.ft (dQ (addP [] A B))]) := by rw [nz_map nL]; exact dict_lv (nz_nodup nL)
  refine c_ret1 (m := .ft (dQ (addP [] A B))) fd__law_product rfl (s_set (q_newT rfl) (by decide +kernel) (i := 3) (by decide +kernel) 
    (s_for (x_keys (q_loc (i := 1) (by decide +kernel) rfl) rfl srcW_dw) rfl rfl rfl ?_)) clo_dw
  refine for_ind (xs := keysD (entr A))
    (P := fun ys σ S' => ∃ (l' : QD) (Y : Tri), ys = Y.map (fun t => .kt (kq (frst t))) ∧ (∀ t ∈ Y, t ∈ A) ∧ S' = S ++ [.dt (dQ l')] ∧ addP l' Y B = addP [] A B ∧ l'.length + Y.length * B.length ≤ 1000000 ∧ σ = [some (.int p), some (dwQ (entr A)), some (dwQ (entr B)), some (.ref S.length), none, none, none, none, none])
    (R := fun r => r.bind _ = _) (fun _ _ _ _ => walks_Q) ?_ ?_ _ 0 _ _ _ rfl (by rw [len_Q]; exact Nat.lt_succ_self _) ⟨[], A, keys_entr A, fun t h => h, rfl, rfl, by simpa using lAB, rfl⟩
  · rintro σ S' ⟨l', Y, e, _, rfl, e2, _, rfl⟩
    cases Y with
    | cons a Y => cases e
    | nil =>
      have e2 : l' = addP [] A B := e2
      subst e2
      refine j_next rfl (s_ret (q_blt (l_cons rfl (q_lcK (o := nzO (fun c => c % p) (addP [] A B)) (xs := keysD (addP [] A B)) (x_keys (q_loc (i := 3) (by decide +kernel) rfl) rfl ((srcW_dt at_len).trans (by rw [set_len2 rfl]))) (by decide +kernel) rfl (fun _ => walks_Q) len_Q (by simp [keysD]; omega) ?_ ?_) l_nil) (by decide +kernel) (by decide +kernel) rfl hd2))
      · intro d hd acc
        obtain ⟨e, he, rfl⟩ := List.mem_map.mp hd
        obtain ⟨hv, hc⟩ := val_of nL he
        have : nzO (fun c => c % p) (addP [] A B) (.kt (kq e.1)) = if (!(e.2 % p == 0)) = true then some (.tup [.kt (kq e.1), .int (e.2 % p)]) else none := by
          show (if (!(coef (addP [] A B) e.1 % p == 0)) = true then some (pairKV (e.1, coef (addP [] A B) e.1 % p)) else none) = _
          rw [hc]; rfl
        rw [this]
        exact (turn_if (l := [(8, .kt (kq e.1))]) rfl rfl (t_cmp rfl (q_bin (q_blt (l_cons rfl (q_ix rfl (q_loc (i := 3) (by decide +kernel) rfl) (q_loc (i := 8) (by decide +kernel) rfl) (ix_ft at_len2 hv)) l_nil) (by decide +kernel) (by decide +kernel) rfl rfl) (q_loc (i := 0) (by decide +kernel) rfl) (l_mod hp)) q_int Dp.ne_int) (fun _ => (q_tup rfl (l_cons rfl (q_loc (i := 8) (by decide +kernel) rfl) (l_cons rfl (q_bin (q_blt (l_cons rfl (q_ix rfl (q_loc (i := 3) (by decide +kernel) rfl) (q_loc (i := 8) (by decide +kernel) rfl) (ix_ft at_len2 hv)) l_nil) (by decide +kernel) (by decide +kernel) rfl rfl) (q_loc (i := 0) (by decide +kernel) rfl) (l_mod hp)) l_nil)) (Nat.le_of_ble_eq_true rfl))))
      · intro d hd y hy
        obtain ⟨e, he, rfl⟩ := List.mem_map.mp hd
        have hy : (if (!(coef (addP [] A B) e.1 % p == 0)) = true then some (pairKV (e.1, coef (addP [] A B) e.1 % p)) else none) = some y := hy
        split at hy
        · cases hy; rfl
        · cases hy
  · rintro d ys σ S' ⟨l', Y, e, hY, rfl, e2, hz, rfl⟩
    cases Y with
    | nil => cases e
    | cons t Y =>
      cases e
      simp only [List.length_cons, Nat.add_mul, Nat.one_mul] at hz
      have hr := prow_loop (k := k) (S := S) (A := A) (B := B) (l := l') (a := t) (pv := .int p) (hs t (hY t List.mem_cons_self)) (ent_at hA (hY t List.mem_cons_self)) hB (by omega)
      refine ⟨[(4, .int t.1), (5, .int t.2.1)], rfl, .inl ⟨_, _, (s_for (x_keys (q_loc (i := 2) (by decide +kernel) rfl) rfl srcW_dw) rfl rfl (by
        show forL keepC false _ _ _ (((dQ (entr B)).map (·.1)).length + 1) 0 _ _ = _
        have : ((dQ (entr B)).map (·.1)).length = B.length := by simp [dQ, entr]
        rw [this]
        exact hr) (j_next rfl s_nil)), by simp, addR t l' B, Y, rfl, fun u hu => hY u (List.mem_cons_of_mem _ hu), rfl, e2, ?_, rfl⟩⟩
      have := addR_len t B l'
      omega
end Law
end
section
set_option maxRecDepth 1000000
set_option maxHeartbeats 1000000
set_option linter.all false
namespace Law
open PySem PySem.Spec PyProof.Rows L2 Dp LamX
variable {S : Sto} {p : Int} {A B : Tri}
/-- a poly of the prime: in order, its numbers from 1 on -/
structure Pol (p : Int) (T : Tri) : Prop where
  asc : T.Pairwise fun t u => ltQ (frst t) (frst u)
  bd : ∀ t ∈ T, 1 ≤ t.2.2 ∧ t.2.2 < p
theorem Pol.nd (h : Pol p A) : ((entr A).map (·.1)).Nodup := entr_nodup h.asc
theorem cf_bd : ∀ {T : Tri}, ((entr T).map (·.1)).Nodup → (∀ t ∈ T, 1 ≤ t.2.2 ∧ t.2.2 < p) → 0 < p → ∀ q, 0 ≤ cf T q ∧ cf T q < p
  | [], _, _, hp, q => ⟨Int.le_refl _, hp⟩
  | t :: T, hn, hb, hp, q => by
    have hn' : frst t ∉ T.map frst := by
      have := (List.nodup_cons.mp hn).1
      rw [← entr_keys]; exact this
    rw [cf_c]
    by_cases h : q = frst t
    · subst h
      rw [if_pos rfl, cf_none hn', Int.add_zero]
      have := hb t List.mem_cons_self
      omega
    · rw [if_neg h, Int.zero_add]
      exact cf_bd (List.nodup_cons.mp hn).2 (fun u hu => hb u (List.mem_cons_of_mem _ hu)) hp q
theorem mem_coef {l : QD} (h : (l.map (·.1)).Nodup) {q : Int × Int} {c : Int} (hc : c ≠ 0) : (q, c) ∈ l ↔ coef l q = c := by
  rw [← valQ_mem h]
  unfold coef
  cases valQ l q with
  | none =>
    refine Iff.intro (fun z => nomatch z) fun z => ?_
    exact absurd z.symm hc
  | some d => exact Iff.intro (fun z => by cases z; rfl) (fun z => by rw [← z]; rfl)
theorem nz_mem {f : Int → Int} {l : QD} {q : Int × Int} {c : Int} : (q, c) ∈ nz f l ↔ c ≠ 0 ∧ ∃ c0, (q, c0) ∈ l ∧ c = f c0 := by
  unfold nz
  rw [List.mem_filterMap]
  constructor
  · rintro ⟨e, he, hg⟩
    split at hg
    · rename_i hn
      cases hg
      exact ⟨by simpa using hn, e.2, he, rfl⟩
    · cases hg
  · rintro ⟨h1, c0, h2, rfl⟩
    refine ⟨(q, c0), h2, ?_⟩
    rw [if_pos (by simpa using h1)]
theorem coef_lawAdd {n : Int} (q : Int × Int) : ∀ (o : QD) (l : QD), (o.map (·.1)).Nodup → coef (lawAdd p n l o) q = if q ∈ o.map (·.1) then (coef l q + n * coef o q) % p else coef l q
  | [], l, _ => rfl
  | e :: o, l, h => by
    have h1 := (List.nodup_cons.mp h).1
    have h2 := (List.nodup_cons.mp h).2
    show coef (lawAdd p n (putQ l e.1 ((coef l e.1 + n * e.2) % p)) o) q = _
    rw [coef_lawAdd q o _ h2, coef_put, List.map_cons]
    by_cases he : q = e.1
    · subst he
      have h1 : e.1 ∉ o.map (·.1) := h1
      rw [if_neg h1, if_pos rfl, if_pos List.mem_cons_self]
      have : coef (e :: o) e.1 = e.2 := by unfold coef valQ; simp
      rw [this]
    · have e2 : coef (e :: o) q = coef o q := by
        unfold coef valQ
        rw [List.find?_cons]
        simp [Ne.symm he]
      rw [if_neg he, e2]
      by_cases hm : q ∈ o.map (·.1)
      · rw [if_pos hm, if_pos (List.mem_cons_of_mem _ hm)]
      · rw [if_neg hm, if_neg fun z => (List.mem_cons.mp z).elim he hm]
theorem law_add_eq {n n' : Int} (hp : 0 < p) (hA : Pol p A) (hB : Pol p B) (hn : ∃ j, n = n' + p * j) : polyOf (nz id (lawAdd p n (entr A) (entr B))) = gath p (addS n' (addS 1 [] A) B) := by
  have nL : ((lawAdd p n (entr A) (entr B)).map (·.1)).Nodup := lawAdd_nodup _ hA.nd
  have nG : ((addS n' (addS 1 [] A) B).map (·.1)).Nodup := addS_nodup _ _ (addS_nodup _ _ List.nodup_nil)
  refine asc_same (polyOf_asc (nz_nodup nL)) (gath_asc nG) fun t => ?_
  rw [polyOf_mem (nz_nodup nL), nz_mem, gath_mem nG, coef_addS, coef_addS, coef_nil]
  have key : coef (lawAdd p n (entr A) (entr B)) (frst t) = (0 + cf A (frst t) * 1 + cf B (frst t) * n') % p := by
    rw [coef_lawAdd _ _ _ hB.nd, coef_entr hA.nd, coef_entr hB.nd]
    obtain ⟨j, rfl⟩ := hn
    have hb := cf_bd hA.nd hA.bd hp (frst t)
    split
    · have : cf A (frst t) + (n' + p * j) * cf B (frst t) = (0 + cf A (frst t) * 1 + cf B (frst t) * n') + p * (j * cf B (frst t)) := by
        rw [Int.add_mul, Int.mul_assoc, Int.mul_comm n']; omega
      rw [this, Int.add_mul_emod_self_left]
    · rename_i hm
      rw [entr_keys] at hm
      rw [cf_none hm]
      simp only [Int.zero_mul, Int.zero_add, Int.mul_one, Int.add_zero]
      exact (Int.emod_eq_of_lt hb.1 hb.2).symm
  constructor
  · rintro ⟨h1, c0, h2, h3⟩
    have h3 : t.2.2 = c0 := h3
    subst h3
    rw [mem_coef nL h1, key] at h2
    exact ⟨h2.symm, h1⟩
  · rintro ⟨h1, h2⟩
    exact ⟨h2, t.2.2, (mem_coef nL h2).mpr (key.trans h1.symm), rfl⟩
theorem law_times_eq {L : QD} (nL : (L.map (·.1)).Nodup) : polyOf (nz (fun c => c % p) L) = gath p L := by
  refine asc_same (polyOf_asc (nz_nodup nL)) (gath_asc nL) fun t => ?_
  rw [polyOf_mem (nz_nodup nL), nz_mem, gath_mem nL]
  constructor
  · rintro ⟨h1, c0, h2, h3⟩
    have := (val_of nL h2).2
    dsimp only at this
    exact ⟨by rw [this]; exact h3, h1⟩
  · rintro ⟨h1, h2⟩
    refine ⟨h2, coef L (frst t), ?_, h1⟩
    refine (mem_coef nL fun z => h2 ?_).mpr rfl
    rw [h1, z]; rfl
theorem addP_nil_nd : ((addP [] A B).map (·.1)).Nodup := addP_nodup B A List.nodup_nil
theorem times_comm : gath p (addP [] A B) = gath p (addP [] B A) := by
  refine asc_same (gath_asc addP_nil_nd) (gath_asc addP_nil_nd) fun t => ?_
  rw [gath_mem addP_nil_nd, gath_mem addP_nil_nd, coef_addP, coef_addP, cp_comm]
theorem len_nz {f : Int → Int} {l : QD} : (nz f l).length ≤ l.length := List.length_filterMap_le _ _
theorem len_entr (T : Tri) : (entr T).length = T.length := by unfold entr; exact List.length_map ..
theorem _law_plus_ok {K : Nat} (hK : 6 ≤ K) (hp : 0 < p) (hA : Pol p A) (hB : Pol p B) (lA : A.length ≤ 10000) (lB : B.length ≤ 10000) :
    M0.callS K "_law_plus" [.int p, .tup (A.map trD), .tup (B.map trD)] S = .ok (.tup ((gath p (addS 1 (addS 1 [] A) B)).map trD)) S := by
  obtain ⟨k, rfl⟩ : ∃ k, K = k + 3 := ⟨K - 3, by omega⟩
  have nL : ((lawAdd p 1 (entr A) (entr B)).map (·.1)).Nodup := lawAdd_nodup _ hA.nd
  have c3 := _law_added_ok (K := k + 2) (by omega) (S := S) hp (n := 1) ⟨by decide, by decide⟩ hA.nd hB.nd (by rw [len_entr]; exact lA) (by rw [len_entr]; exact lB)
  have zl := lawAdd_len (p := p) (n := 1) (entr B) (entr A)
  rw [len_entr, len_entr] at zl
  have zn := len_nz (f := id) (l := lawAdd p 1 (entr A) (entr B))
  have c4 := _law_poly_of_ok (K := k + 2) (by omega) (S := S) (nz_nodup nL) (l := nz id (lawAdd p 1 (entr A) (entr B))) (by omega)
  rw [law_add_eq hp hA hB (n := 1) (n' := 1) ⟨0, by omega⟩] at c4
  exact (c_ret fd__law_plus rfl (s_ret (q_call (l_cons rfl (q_call (l_cons rfl (q_loc (i := 0) (by decide +kernel) rfl) (l_cons rfl (q_call (l_cons rfl (q_loc (i := 1) (by decide +kernel) rfl) l_nil) fd__law_dict rfl (by decide +kernel) rfl rfl (_law_dict_ok (by omega) hA.nd (by omega))) (l_cons rfl (q_call (l_cons rfl (q_loc (i := 2) (by decide +kernel) rfl) l_nil) fd__law_dict rfl (by decide +kernel) rfl rfl (_law_dict_ok (by omega) hB.nd (by omega))) (l_cons rfl q_int l_nil)))) fd__law_added rfl (by decide +kernel) rfl rfl c3) l_nil) fd__law_poly_of rfl (by decide +kernel) rfl rfl c4)))
theorem _law_less_ok {K : Nat} (hK : 6 ≤ K) (hp : 2 ≤ p ∧ p ≤ 7) (hA : Pol p A) (hB : Pol p B) (lA : A.length ≤ 10000) (lB : B.length ≤ 10000) :
    M0.callS K "_law_less" [.int p, .tup (A.map trD), .tup (B.map trD)] S = .ok (.tup ((gath p (addS (-1) (addS 1 [] A) B)).map trD)) S := by
  obtain ⟨k, rfl⟩ : ∃ k, K = k + 3 := ⟨K - 3, by omega⟩
  have nL : ((lawAdd p (p - 1) (entr A) (entr B)).map (·.1)).Nodup := lawAdd_nodup _ hA.nd
  have c3 := _law_added_ok (K := k + 2) (by omega) (S := S) (p := p) (by omega) (n := p - 1) ⟨by omega, by omega⟩ hA.nd hB.nd (by rw [len_entr]; exact lA) (by rw [len_entr]; exact lB)
  have zl := lawAdd_len (p := p) (n := p - 1) (entr B) (entr A)
  rw [len_entr, len_entr] at zl
  have zn := len_nz (f := id) (l := lawAdd p (p - 1) (entr A) (entr B))
  have c4 := _law_poly_of_ok (K := k + 2) (by omega) (S := S) (nz_nodup nL) (l := nz id (lawAdd p (p - 1) (entr A) (entr B))) (by omega)
  rw [law_add_eq (by omega) hA hB (n := p - 1) (n' := -1) ⟨1, by omega⟩] at c4
  exact (c_ret fd__law_less rfl (s_ret (q_call (l_cons rfl (q_call (l_cons rfl (q_loc (i := 0) (by decide +kernel) rfl) (l_cons rfl (q_call (l_cons rfl (q_loc (i := 1) (by decide +kernel) rfl) l_nil) fd__law_dict rfl (by decide +kernel) rfl rfl (_law_dict_ok (by omega) hA.nd (by omega))) (l_cons rfl (q_call (l_cons rfl (q_loc (i := 2) (by decide +kernel) rfl) l_nil) fd__law_dict rfl (by decide +kernel) rfl rfl (_law_dict_ok (by omega) hB.nd (by omega))) (l_cons rfl (q_bin (q_loc (i := 0) (by decide +kernel) rfl) q_int rfl) l_nil)))) fd__law_added rfl (by decide +kernel) rfl rfl c3) l_nil) fd__law_poly_of rfl (by decide +kernel) rfl rfl c4)))
theorem Pol.small (h : Pol p A) (hp : p ≤ 7) : ∀ t ∈ A, smallI t.2.2 := fun t ht => by
  have := h.bd t ht
  unfold smallI
  omega
theorem _law_times_ok {K : Nat} (hK : 6 ≤ K) (hp : 2 ≤ p ∧ p ≤ 7) (hA : Pol p A) (hB : Pol p B) (lA : A.length ≤ 10000) (lB : B.length ≤ 10000) (lAB : A.length * B.length ≤ 1000000) :
    M0.callS K "_law_times" [.int p, .tup (A.map trD), .tup (B.map trD)] S = .ok (.tup ((gath p (addP [] A B)).map trD)) S := by
  obtain ⟨k, rfl⟩ : ∃ k, K = k + 3 := ⟨K - 3, by omega⟩
  have c3 := _law_product_ok (K := k + 2) (by omega) (S := S) (p := p) (by omega) hA.nd hB.nd (hA.small hp.2) lA lB lAB
  have zl := addP_len B A []
  simp only [List.length_nil, Nat.zero_add] at zl
  have zn := len_nz (f := fun c => c % p) (l := addP [] A B)
  have c4 := _law_poly_of_ok (K := k + 2) (by omega) (S := S) (nz_nodup addP_nil_nd) (l := nz (fun c => c % p) (addP [] A B)) (by omega)
  rw [law_times_eq addP_nil_nd] at c4
  exact (c_ret fd__law_times rfl (s_ret (q_call (l_cons rfl (q_call (l_cons rfl (q_loc (i := 0) (by decide +kernel) rfl) (l_cons rfl (q_call (l_cons rfl (q_loc (i := 1) (by decide +kernel) rfl) l_nil) fd__law_dict rfl (by decide +kernel) rfl rfl (_law_dict_ok (by omega) hA.nd (by omega))) (l_cons rfl (q_call (l_cons rfl (q_loc (i := 2) (by decide +kernel) rfl) l_nil) fd__law_dict rfl (by decide +kernel) rfl rfl (_law_dict_ok (by omega) hB.nd (by omega))) l_nil))) fd__law_product rfl (by decide +kernel) rfl rfl c3) l_nil) fd__law_poly_of rfl (by decide +kernel) rfl rfl c4)))
end Law
end
section
set_option maxRecDepth 100000
set_option maxHeartbeats 1000000
set_option linter.all false
namespace Law
open PySem PySem.Spec PyProof.Rows L2 Dp LamX
/-! ### the text of a row of polys -/
mutual
def onlyI : PyData → Bool
  | .int _ => true
  | .list xs => onlyIs xs
  | .tuple xs => onlyIs xs
  | _ => false
def onlyIs : List PyData → Bool
  | [] => true
  | x :: xs => onlyI x && onlyIs xs
end
theorem so_str (s : String) : PyData.strOk (Str.ofString s) = true := by
  rw [Str.ofString_eq_toList]
  show (s.toList.map Char.toNat).toArray.all (· < 0x110000) = true
  rw [Array.all_eq_true]
  intro i hi
  simp only [List.size_toArray, List.length_map] at hi
  simp only [List.getElem_toArray, List.getElem_map, decide_eq_true_eq]
  have := (s.toList[i]'hi).valid
  show (s.toList[i]'hi).val.toNat < 1114112
  rcases this with h | h
  · omega
  · exact h.2
theorem so_app {a b : Str} (ha : PyData.strOk a = true) (hb : PyData.strOk b = true) : PyData.strOk (a ++ b) = true := by
  show (a.cps ++ b.cps).all (· < 0x110000) = true
  rw [Array.all_append]
  show (PyData.strOk a && PyData.strOk b) = true
  rw [ha, hb]; rfl
theorem so_from : ∀ (ts : List Str) (k : Nat) (acc : Str), (∀ t ∈ ts, PyData.strOk t = true) → PyData.strOk acc = true → PyData.strOk (textFrom k acc ts) = true
  | [], _, _, _, h => h
  | t :: ts, k, acc, h, ha => by
    refine so_from ts (k + 1) _ (fun u hu => h u (List.mem_cons_of_mem _ hu)) ?_
    exact so_app (so_app ha (so_str _)) (h t List.mem_cons_self)
theorem so_join : ∀ (ts : List Str), (∀ t ∈ ts, PyData.strOk t = true) → PyData.strOk (Str.join ", " ts) = true
  | [], _ => so_str ""
  | [x], h => h x List.mem_cons_self
  | x :: y :: r, h => so_app (so_app (h x List.mem_cons_self) (so_str _)) (so_join (y :: r) fun u hu => h u (List.mem_cons_of_mem _ hu))
mutual
theorem so_shown : ∀ d : PyData, onlyI d = true → PyData.strOk d.shown = true
  | .int i, _ => so_str _
  | .list xs, h => so_app (so_from _ _ _ (so_all xs h) (so_str _)) (so_str _)
  | .tuple xs, h => by
    refine so_app (so_app (so_str _) (so_join _ (so_all xs h))) ?_
    exact so_str _
  | .none, h => by cases h
  | .bool _, h => by cases h
  | .str _, h => by cases h
  | .dict _, h => by cases h
theorem so_all : ∀ xs : List PyData, onlyIs xs = true → ∀ t ∈ PyData.shownAll xs, PyData.strOk t = true
  | [], _ => fun t ht => nomatch ht
  | x :: xs, h => fun t ht => by
    have h : (onlyI x && onlyIs xs) = true := h
    rw [Bool.and_eq_true] at h
    rcases List.mem_cons.mp ht with e | e
    · rw [e]; exact so_shown x h.1
    · exact so_all xs h.2 t e
end
/-- what may be shown, of a bounded text -/
structure Sh (d : PyData) (w k : Nat) : Prop where
  sh : d.showable = true
  dc : d.hasDict = false
  lf : d.leavesShort 13 = true
  on : onlyI d = true
  w : d.weight ≤ w
  dp : d.depth ≤ k
  cl : d.canLay0 = true
structure Shs (ds : List PyData) (w k : Nat) : Prop where
  sh : PyData.showableAll ds = true
  dc : PyData.hasDictAll ds = false
  lf : PyData.leavesShortAll 13 ds = true
  on : onlyIs ds = true
  w : PyData.weightAll ds ≤ w
  dp : PyData.depthAll ds ≤ k
  cl : PyData.canLayAll0 ds = true
theorem Shs.nil {k : Nat} : Shs [] 0 k := ⟨rfl, rfl, rfl, rfl, Nat.le_refl _, Nat.zero_le _, rfl⟩
theorem Shs.cons {d : PyData} {ds : List PyData} {w w2 k : Nat} (h : Sh d w k) (g : Shs ds w2 k) : Shs (d :: ds) (w + 1 + w2) k := by
  refine ⟨?_, ?_, ?_, ?_, ?_, ?_, ?_⟩
  · show (d.showable && PyData.showableAll ds) = true
    rw [h.sh, g.sh]; rfl
  · show (d.hasDict || PyData.hasDictAll ds) = false
    rw [h.dc, g.dc]; rfl
  · show (d.leavesShort 13 && PyData.leavesShortAll 13 ds) = true
    rw [h.lf, g.lf]; rfl
  · show (onlyI d && onlyIs ds) = true
    rw [h.on, g.on]; rfl
  · have := h.w
    have := g.w
    show d.weight + 1 + PyData.weightAll ds ≤ _
    omega
  · have := h.dp
    have := g.dp
    show max d.depth (PyData.depthAll ds) ≤ k
    omega
  · show (d.canLay0 && PyData.canLayAll0 ds) = true
    rw [h.cl, g.cl]; rfl
theorem Shs.tup {ds : List PyData} {w k : Nat} (h : Shs ds w k) : Sh (.tuple ds) w (k + 1) := ⟨h.sh, h.dc, h.lf, h.on, h.w, by have := h.dp; show PyData.depthAll ds + 1 ≤ k + 1; omega, h.cl⟩
theorem Shs.lst {ds : List PyData} {w k : Nat} (h : Shs ds w k) : Sh (.list ds) w (k + 1) := ⟨h.sh, h.dc, h.lf, h.on, h.w, by have := h.dp; show PyData.depthAll ds + 1 ≤ k + 1; omega, h.cl⟩
theorem sh_int {i : Int} (h : 0 ≤ i ∧ i < 2048) : Sh (.int i) 11 1 := by
  have hl : i.natAbs.log2 < 11 ∨ i = 0 := by
    by_cases h0 : i = 0
    · exact .inr h0
    · exact .inl ((Nat.log2_lt (by omega)).mpr (by omega))
  refine ⟨?_, rfl, ?_, rfl, ?_, by unfold PyData.depth; exact Nat.zero_le _, rfl⟩
  · show decide (i.natAbs.log2 < 1920) = true
    rcases hl with hl | hl
    · exact decide_eq_true (by omega)
    · subst hl; decide
  · exact decide_eq_true (PyData.shown_int_le2 (by omega) (by omega))
  · show (if i == 0 then 0 else i.natAbs.log2 + 1) ≤ 11
    split
    · omega
    · rename_i hn
      rcases hl with hl | hl
      · omega
      · subst hl; exact absurd rfl hn
def pt (t : Int × Int × Int) : PyData := .tuple [.int t.1, .int t.2.1, .int t.2.2]
def smT (t : Int × Int × Int) : Prop := (0 ≤ t.1 ∧ t.1 < 2048) ∧ (0 ≤ t.2.1 ∧ t.2.1 < 2048) ∧ 0 ≤ t.2.2 ∧ t.2.2 < 2048
def smA (T : Tri) : Prop := ∀ t ∈ T, smT t
theorem sh_pt {t : Int × Int × Int} (h : smT t) : Sh (pt t) 36 2 := (Shs.cons (sh_int h.1) (Shs.cons (sh_int h.2.1) (Shs.cons (sh_int h.2.2) Shs.nil))).tup
theorem sh_pts : ∀ {T : Tri}, smA T → Shs (T.map pt) (37 * T.length) 2
  | [], _ => Shs.nil
  | t :: T, h => by
    have := Shs.cons (sh_pt (h t List.mem_cons_self)) (sh_pts (T := T) fun u hu => h u (List.mem_cons_of_mem _ hu))
    rw [List.length_cons, show 37 * (T.length + 1) = 36 + 1 + 37 * T.length by omega]
    exact this
def pT (T : Tri) : PyData := .tuple (T.map pt)
def tupT (T : Tri) : D := .tup (T.map trD)
def lens (Ts : List Tri) : Nat := (Ts.map List.length).sum
theorem sh_rows : ∀ {Ts : List Tri}, (∀ T ∈ Ts, smA T) → Shs (Ts.map pT) (37 * lens Ts + Ts.length) 3
  | [], _ => Shs.nil
  | T :: Ts, h => by
    have := Shs.cons (sh_pts (h T List.mem_cons_self)).tup (sh_rows (Ts := Ts) fun u hu => h u (List.mem_cons_of_mem _ hu))
    have e : 37 * lens (T :: Ts) + (T :: Ts).length = 37 * T.length + 1 + (37 * lens Ts + Ts.length) := by
      unfold lens
      simp only [List.map_cons, List.sum_cons, List.length_cons]
      omega
    rw [e]
    exact this
theorem pyL_map {α : Type} {f : D → Option PyData} {g : α → D} {h : α → PyData} : ∀ {l : List α}, (∀ x ∈ l, f (g x) = some (h x)) → pyL f (l.map g) = some (l.map h)
  | [], _ => rfl
  | a :: l, hh => by
    rw [List.map_cons]
    unfold pyL
    rw [hh a List.mem_cons_self, pyL_map fun x hx => hh x (List.mem_cons_of_mem _ hx)]
    rfl
theorem py_tr {S : Sto} {k : Nat} (t : Int × Int × Int) : py S (k + 2) (trD t) = some (pt t) := by
  unfold py
  show (pyL (py S (k + 1)) [.int t.1, .int t.2.1, .int t.2.2]).map PyData.tuple = _
  have : pyL (py S (k + 1)) [.int t.1, .int t.2.1, .int t.2.2] = some [.int t.1, .int t.2.1, .int t.2.2] := by
    simp only [pyL, py_int]
  rw [this]; rfl
theorem py_T {S : Sto} {k : Nat} (T : Tri) : py S (k + 3) (tupT T) = some (pT T) := by
  unfold py
  show (pyL (py S (k + 2)) (T.map trD)).map PyData.tuple = _
  rw [pyL_map fun t _ => py_tr t]; rfl
theorem py_Ts {S : Sto} {k : Nat} (Ts : List Tri) : py S (k + 4) (.lv (Ts.map tupT)) = some (.list (Ts.map pT)) := by
  unfold py
  show (pyL (py S (k + 3)) (Ts.map tupT)).map PyData.list = _
  rw [pyL_map fun t _ => py_T t]; rfl
theorem repr_go {S : Sto} {d : D} {p : PyData} {w k : Nat} (h1 : fRepr [d] S = match py S 60 d with
    | some p => if isDisplay p = true ∧ p.showable = true ∧ p.hasDict = false ∧ p.depth ≤ 60 ∧ p.shown.length ≤ sizeLine then some (.str p.shown, S) else none
    | none => none) (h : py S 60 d = some p) (hd : isDisplay p = true) (hs : Sh p w k) (hk : k ≤ 60) (hw : w ≤ 1000000) : fRepr [d] S = some (.str p.shown, S) := by
  rw [h1, h]
  dsimp only
  rw [if_pos]
  refine ⟨hd, hs.sh, hs.dc, Nat.le_trans hs.dp hk, ?_⟩
  have := PyData.shown_le 13 (by decide) p hs.lf
  have := hs.w
  rw [sizeLine_eq]
  omega
theorem repr_rows {Ts : List Tri} (h : ∀ T ∈ Ts, smA T) (hz : lens Ts ≤ 20000) (hl : Ts.length ≤ 10) : ∃ t, (∀ S, fRepr [.lv (Ts.map tupT)] S = some (.str t, S)) ∧ ∀ S, cmpD .NotEq (.str t) (.str t) S = some false :=
  ⟨_, fun S => repr_go rfl (py_Ts Ts) rfl (sh_rows h).lst (by decide) (by omega), fun S => ne_str (so_shown _ (sh_rows h).lst.on)⟩
theorem repr_row {T : Tri} (h : smA T) (hz : T.length ≤ 20000) : ∃ t, (∀ S, fRepr [tupT T] S = some (.str t, S)) ∧ ∀ S, cmpD .NotEq (.str t) (.str t) S = some false :=
  ⟨_, fun S => repr_go rfl (py_T T) rfl (sh_pts h).tup (by decide) (by omega), fun S => ne_str (so_shown _ (sh_pts h).tup.on)⟩
/-- a poly is itself -/
theorem eq_self {T : Tri} (h : smA T) {S : Sto} : cmpD .NotEq (tupT T) (tupT T) S = some false := by
  show (eqD (tupT T) (tupT T) S).map not = _
  have hs := (sh_pts h).tup
  have h1 : SeqAt.shaped (pT T) = true := by
    show (PyData.canLay0 (pT T) && decide (PyData.depth (pT T) ≤ 64)) = true
    rw [show PyData.canLay0 (pT T) = true from hs.cl, Bool.true_and]
    exact decide_eq_true (Nat.le_trans hs.dp (by decide))
  unfold eqD
  rw [py_T T]
  dsimp only
  rw [if_pos ⟨h1, h1⟩]
  have e : PyData.eqv (pT T) (pT T) = true := SeqAt.eqv_refl _ hs.cl
  rw [e]; rfl
end Law
end
section
set_option maxRecDepth 100000
set_option maxHeartbeats 1000000
set_option linter.all false
namespace Law
open PySem PySem.Spec PyProof.Rows L2 Dp LamX
variable {S : Sto} {p : Int} {A B : Tri}
/-- powers from nought to M -/
def Bd (M : Int) (T : Tri) : Prop := ∀ t ∈ T, (0 ≤ t.1 ∧ t.1 ≤ M) ∧ 0 ≤ t.2.1 ∧ t.2.1 ≤ M
theorem frst_1 {u t : Int × Int × Int} (e : frst u = frst t) : u.1 = t.1 := (Prod.mk.inj e).1
theorem frst_2 {u t : Int × Int × Int} (e : frst u = frst t) : u.2.1 = t.2.1 := (Prod.mk.inj e).2
theorem cf_some {T : Tri} {q : Int × Int} (h : cf T q ≠ 0) : q ∈ T.map frst := Classical.byContradiction fun z => h (cf_none z)
theorem cpR_some {q : Int × Int} {a : Int × Int × Int} : ∀ {B : Tri}, cpR q a B ≠ 0 → ∃ b ∈ B, q = (a.1 + b.1, a.2.1 + b.2.1)
  | [], h => absurd rfl h
  | b :: B, h => by
    by_cases e : q = (a.1 + b.1, a.2.1 + b.2.1)
    · exact ⟨b, List.mem_cons_self, e⟩
    · rw [cpR_c] at h
      unfold x2 at h
      rw [if_neg e, Int.zero_add] at h
      obtain ⟨c, h1, h2⟩ := cpR_some h
      exact ⟨c, List.mem_cons_of_mem _ h1, h2⟩
theorem cp_some {q : Int × Int} {B : Tri} : ∀ {A : Tri}, cp q B A ≠ 0 → ∃ a ∈ A, ∃ b ∈ B, q = (a.1 + b.1, a.2.1 + b.2.1)
  | [], h => absurd rfl h
  | a :: A, h => by
    rw [cp_c] at h
    by_cases e : cpR q a B = 0
    · rw [e, Int.zero_add] at h
      obtain ⟨c, h1, h2⟩ := cp_some h
      exact ⟨c, List.mem_cons_of_mem _ h1, h2⟩
    · exact ⟨a, List.mem_cons_self, cpR_some e⟩
theorem addS_nil_nd (n m : Int) : ((addS n (addS m [] A) B).map (·.1)).Nodup := addS_nodup _ _ (addS_nodup _ _ List.nodup_nil)
theorem gath_num {l : QD} (hp : 0 < p) (h : (l.map (·.1)).Nodup) {t : Int × Int × Int} (ht : t ∈ gath p l) : (1 ≤ t.2.2 ∧ t.2.2 < p) ∧ coef l (frst t) ≠ 0 := by
  obtain ⟨h1, h2⟩ := (gath_mem h).mp ht
  have a := Int.emod_nonneg (coef l (frst t)) (show p ≠ 0 by omega)
  have b := Int.emod_lt_of_pos (coef l (frst t)) hp
  refine ⟨by omega, fun z => h2 ?_⟩
  rw [h1, z]; rfl
theorem add_bd {M : Int} {n : Int} (hp : 0 < p) (hA : Bd M A) (hB : Bd M B) : Bd M (gath p (addS n (addS 1 [] A) B)) := by
  intro t ht
  obtain ⟨_, h⟩ := gath_num hp (addS_nil_nd n 1) ht
  rw [coef_addS, coef_addS, coef_nil] at h
  by_cases h1 : cf A (frst t) = 0
  · by_cases h2 : cf B (frst t) = 0
    · rw [h1, h2] at h
      simp at h
    · obtain ⟨u, hu, e⟩ := List.mem_map.mp (cf_some h2)
      have := hB u hu
      have e1 : u.1 = t.1 := frst_1 e
      have e2 : u.2.1 = t.2.1 := frst_2 e
      rw [e1, e2] at this; exact this
  · obtain ⟨u, hu, e⟩ := List.mem_map.mp (cf_some h1)
    have := hA u hu
    have e1 : u.1 = t.1 := frst_1 e
    have e2 : u.2.1 = t.2.1 := frst_2 e
    rw [e1, e2] at this; exact this
theorem mul_in (hp : 0 < p) {t : Int × Int × Int} (ht : t ∈ gath p (addP [] A B)) : ∃ a ∈ A, ∃ b ∈ B, t.1 = a.1 + b.1 ∧ t.2.1 = a.2.1 + b.2.1 := by
  obtain ⟨_, h⟩ := gath_num hp addP_nil_nd ht
  rw [coef_addP, coef_nil, Int.zero_add] at h
  obtain ⟨a, ha, b, hb, e⟩ := cp_some h
  exact ⟨a, ha, b, hb, congrArg Prod.fst e, congrArg Prod.snd e⟩
theorem mul_bd {M N : Int} (hp : 0 < p) (hA : Bd M A) (hB : Bd N B) : Bd (M + N) (gath p (addP [] A B)) := by
  intro t ht
  obtain ⟨a, ha, b, hb, e1, e2⟩ := mul_in hp ht
  have h1 := hA a ha
  have h2 := hB b hb
  omega
theorem gath_sm {M : Int} {l : QD} (hp : 0 < p ∧ p ≤ 7) (h : (l.map (·.1)).Nodup) (hM : M < 2048) (hb : Bd M (gath p l)) : smA (gath p l) := by
  intro t ht
  obtain ⟨h1, _⟩ := gath_num hp.1 h ht
  have h2 := hb t ht
  exact ⟨by omega, by omega, by omega⟩
/-! ### how many terms there may be -/
theorem asc_len : ∀ {l : List Int} {lo hi : Int}, l.Pairwise (· < ·) → (∀ x ∈ l, lo ≤ x ∧ x < hi) → l.length ≤ (hi - lo).toNat
  | [], _, _, _, _ => Nat.zero_le _
  | a :: l, lo, hi, h, hb => by
    rw [List.pairwise_cons] at h
    have ha := hb a List.mem_cons_self
    have := asc_len (l := l) (lo := a + 1) (hi := hi) h.2 fun x hx => by
      have h1 := h.1 x hx
      have h2 := hb x (List.mem_cons_of_mem _ hx)
      omega
    rw [List.length_cons]
    omega
theorem grid_few {T : Tri} (ha : (T.map fun t => (t.1, t.2.1)).Pairwise ltQ2) (hb : Bd 40 T) : T.length ≤ 1681 := by
  have h := asc_len (l := T.map fun t => t.1 * 41 + t.2.1) (lo := 0) (hi := 1681) ?_ fun x hx => ?_
  · simpa using h
  · rw [List.pairwise_map] at ha ⊢
    refine List.Pairwise.imp_of_mem (fun {a b} ha1 hb1 hab => ?_) ha
    have h1 := hb a ha1
    have h2 := hb b hb1
    unfold ltQ2 at hab
    dsimp only at hab
    omega
  · obtain ⟨t, ht, rfl⟩ := List.mem_map.mp hx
    have := hb t ht
    omega
/-! ### what is drawn is a poly -/
theorem termB_of {t : Int × Int × Int} (h1 : 0 ≤ t.1 ∧ t.1 ≤ 999) (h2 : 0 ≤ t.2.1 ∧ t.2.1 ≤ 999) (h3 : 1 ≤ t.2.2 ∧ t.2.2 < p) : termB p (trD t) = true := by
  show ((decide (0 ≤ t.1) && decide (t.1 ≤ 999)) && ((decide (0 ≤ t.2.1) && decide (t.2.1 ≤ 999)) && (decide (1 ≤ t.2.2) && decide (t.2.2 ≤ p - 1)))) = true
  simp only [Bool.and_eq_true, decide_eq_true_eq]
  omega
theorem polyFrom_of : ∀ {T : Tri} {a b : Int}, T.Pairwise (fun t u => ltQ (frst t) (frst u)) → (∀ t ∈ T, ltP a b t.1 t.2.1 = true) → (∀ t ∈ T, termB p (trD t) = true) → polyFrom p a b (T.map trD) = true
  | [], _, _, _, _, _ => rfl
  | t :: T, a, b, h, hl, ht => by
    rw [List.pairwise_cons] at h
    show (termB p (trD t) && (ltP a b t.1 t.2.1 && polyFrom p t.1 t.2.1 (T.map trD))) = true
    rw [ht t List.mem_cons_self, hl t List.mem_cons_self, Bool.true_and, Bool.true_and]
    refine polyFrom_of h.2 (fun u hu => ?_) fun u hu => ht u (List.mem_cons_of_mem _ hu)
    have := h.1 u hu
    unfold ltQ frst at this
    unfold ltP
    simp only [Bool.or_eq_true, Bool.and_eq_true, decide_eq_true_eq, beq_iff_eq]
    omega
theorem polyB_of (h : Pol p A) (hb : Bd 999 A) : polyB p (.tup (A.map trD)) = true := by
  show polyFrom p (-1) (-1) (A.map trD) = true
  refine polyFrom_of h.asc (fun t ht => ?_) fun t ht => ?_
  · have := hb t ht
    unfold ltP
    simp only [Bool.or_eq_true, Bool.and_eq_true, decide_eq_true_eq, beq_iff_eq]
    omega
  · have h1 := hb t ht
    exact termB_of h1.1 h1.2 (h.bd t ht)
theorem PolyT.pol {mx my : Int} (h : PolyT p mx my A) : Pol p A := ⟨h.asc, fun t ht => (h.bd t ht).2.2.2.2⟩
theorem PolyT.bd' {mx my M : Int} (h : PolyT p mx my A) (h1 : mx ≤ M) (h2 : my ≤ M) : Bd M A := fun t ht => by
  have := h.bd t ht
  omega
theorem Bd.mono {M N : Int} (h : Bd M A) (hl : M ≤ N) : Bd N A := fun t ht => by
  have := h t ht
  omega
theorem Pol.sm (h : Pol p A) (hp : p ≤ 7) (hb : Bd 999 A) : smA A := fun t ht => by
  have h1 := hb t ht
  have h2 := h.bd t ht
  exact ⟨by omega, by omega, by omega⟩
/-- less itself: nothing -/
theorem less_self : gath p (addS (-1) (addS 1 [] A) A) = [] := by
  refine List.eq_nil_iff_forall_not_mem.mpr fun t ht => ?_
  obtain ⟨h1, h2⟩ := (gath_mem (addS_nil_nd (-1) 1)).mp ht
  rw [coef_addS, coef_addS, coef_nil] at h1
  refine h2 (h1.trans ?_)
  have : 0 + cf A (frst t) * 1 + cf A (frst t) * -1 = 0 := by omega
  rw [this]; rfl
theorem plus_nil (hp : 0 < p) (h : Pol p A) : gath p (addS 1 (addS 1 [] A) []) = A := by
  refine asc_same (gath_asc (addS_nil_nd 1 1)) ?_ fun t => ?_
  · rw [List.pairwise_map]
    exact h.asc
  · rw [gath_mem (addS_nil_nd 1 1), coef_addS, coef_addS, coef_nil, ← coef_entr h.nd]
    have e : cf [] (frst t) = 0 := rfl
    rw [e]
    have hb := cf_bd h.nd h.bd hp (frst t)
    rw [← coef_entr h.nd] at hb
    have e2 : (0 + coef (entr A) (frst t) * 1 + 0 * 1) % p = coef (entr A) (frst t) := by
      rw [show 0 + coef (entr A) (frst t) * 1 + 0 * 1 = coef (entr A) (frst t) by omega]
      exact Int.emod_eq_of_lt hb.1 hb.2
    rw [e2]
    constructor
    · rintro ⟨h1, h2⟩
      have := (mem_coef h.nd h2).mpr h1.symm
      obtain ⟨u, hu, e⟩ := List.mem_map.mp this
      have e1 : frst u = frst t := (Prod.mk.inj e).1
      have e3 : u.2.2 = t.2.2 := (Prod.mk.inj e).2
      have : u = t := Prod.ext (frst_1 e1) (Prod.ext (frst_2 e1) e3)
      rw [← this]; exact hu
    · intro ht
      have h0 := h.bd t ht
      have h2 : t.2.2 ≠ 0 := by omega
      exact ⟨((mem_coef h.nd h2).mp (List.mem_map_of_mem (f := fun t : Int × Int × Int => (frst t, t.2.2)) ht)).symm, h2⟩
end Law
end
section
set_option maxRecDepth 100000
set_option maxHeartbeats 1000000
set_option linter.all false
namespace Law
open PySem PySem.Spec PyProof.Rows L2 Dp LamX
theorem fd_is_row_of : M0.find "is_row_of" = some d_is_row_of := by kernel_rfl
theorem fd_check_row : M0.find "check_row" = some d_check_row := by kernel_rfl
theorem fd_sum_of_products : M0.find "sum_of_products" = some d_sum_of_products := by kernel_rfl
theorem fd_are_ones : M0.find "are_ones" = some d_are_ones := by kernel_rfl
variable {S : Sto} {p : Int}
theorem bls_map {α : Type} (g : α → Bool) : ∀ l : List α, blsOf (l.map fun d => D.bl (g d)) = some (l.map g)
  | [] => rfl
  | a :: l => by
    show (blsOf (l.map fun d => D.bl (g d))).map (g a :: ·) = _
    rw [bls_map g l]; rfl
theorem all_lv {α : Type} (g : α → Bool) (l : List α) : fBls (fun bs => bs.all id) [.lv (l.map fun d => .bl (g d))] S = some (.bl (l.all g), S) := by
  show (match blsOf (l.map fun d => D.bl (g d)) with
    | some bs => some (D.bl (bs.all id), S)
    | none => none) = _
  rw [bls_map]
  show some (D.bl ((l.map g).all id), S) = _
  rw [List.all_map]; rfl
theorem any_lv {α : Type} (g : α → Bool) (l : List α) : fBls (fun bs => bs.any id) [.lv (l.map fun d => .bl (g d))] S = some (.bl (l.any g), S) := by
  show (match blsOf (l.map fun d => D.bl (g d)) with
    | some bs => some (D.bl (bs.any id), S)
    | none => none) = _
  rw [bls_map]
  show some (D.bl ((l.map g).any id), S) = _
  rw [List.any_map]; rfl
def rowB (p n : Int) : D → Bool
  | .tup ds => ((ds.length : Int) == n) && ds.all (polyB p)
  | _ => false
/-- data whose rows are not long -/
def Short (d : D) : Prop := pureB d = true ∧ ∀ ds, d = .tup ds → ds.length ≤ 100000
theorem is_row_of_ok {K : Nat} (hK : 8 ≤ K) {n : Int} {d : D} (h : Short d) : M0.callS K "is_row_of" [.int p, d, .int n] S = .ok (.bl (rowB p n d)) S := by
  obtain ⟨k, rfl⟩ : ∃ k, K = k + 3 := ⟨K - 3, by omega⟩
  by_cases ht : isTupB d = true
  · obtain ⟨ds, rfl⟩ : ∃ ds, d = .tup ds := by cases d <;> first | exact ⟨_, rfl⟩ | cases ht
    have hp := pureBs_all.mp h.1
    have hl := h.2 ds rfl
    have e1 : fBls (fun bs => bs.all id) [.lv (ds.filterMap fun d => some (.bl (polyB p d)))] S = some (.bl (ds.all (polyB p)), S) := by
      rw [fm_all, all_lv]
    exact (c_ret fd_is_row_of rfl (s_ret (q_bool (e_and (t := true) rfl (q_blt (l_cons rfl (q_loc (i := 1) (by decide +kernel) rfl) (l_cons rfl (q_glo (by decide +kernel) (by decide +kernel) rfl) l_nil)) (by decide +kernel) (by decide +kernel) rfl rfl) (fun _ => (e_and rfl (q_cmp rfl (q_blt (l_cons rfl (q_loc (i := 1) (by decide +kernel) rfl) l_nil) (by decide +kernel) (by decide +kernel) rfl rfl) (q_loc (i := 2) (by decide +kernel) rfl) Dp.eq_int) (fun _ => (e_one (q_blt (l_cons rfl (q_lc (o := fun d => some (.bl (polyB p d))) (xs := ds) (x_val (q_loc (i := 1) (by decide +kernel) rfl) rfl rfl) (by decide +kernel) rfl (fun _ => walks_tup) rfl (by omega) (fun d hd S1 => (turn_one (l := [(3, d)]) rfl rfl (q_call (l_cons rfl (q_loc (i := 0) (by decide +kernel) rfl) (l_cons rfl (q_loc (i := 3) (by decide +kernel) rfl) l_nil)) fd_is_poly_of rfl (by decide +kernel) rfl rfl (is_poly_of_ok (by omega) (hp d hd))))) (fun d hd y hy => by cases hy; rfl)) l_nil) (by decide +kernel) (by decide +kernel) rfl e1)))))))))
  · have hf : rowB p n d = false := by cases d <;> first | rfl | exact absurd rfl ht
    rw [hf]
    exact (c_ret fd_is_row_of rfl (s_ret (q_bool (e_and (t' := false) rfl (q_blt (l_cons rfl (q_loc (i := 1) (by decide +kernel) rfl) (l_cons rfl (q_glo (by decide +kernel) (by decide +kernel) rfl) l_nil)) (by decide +kernel) (by decide +kernel) rfl (isi_tup h.1)) (fun h2 => absurd h2 ht))))).trans (by rw [Bool.and_false])
def rowsB (p : Int) (d : D) : Bool := [2, 3, 4].any fun n => rowB p n d
def sizeO (p : Int) (r : D) : D → Option D
  | .int n => some (.bl (rowB p n r))
  | _ => none
theorem check_row_ok {K : Nat} (hK : 10 ≤ K) {d : D} (h : Short d) : M0.callS K "check_row" [.int p, d] S = if rowsB p d = true then .ok .non S else .exc ⟨"BadRow", none⟩ S := by
  obtain ⟨k, rfl⟩ : ∃ k, K = k + 3 := ⟨K - 3, by omega⟩
  have e1 : fBls (fun bs => bs.any id) [.lv (([2, 3, 4].map D.int).filterMap (sizeO p d))] S = some (.bl (rowsB p d), S) := by
    rw [fm_map (f := D.int) (o := sizeO p d) (g := fun n => D.bl (rowB p n d)) _ fun x _ => rfl, any_lv]; rfl
  have tst : tv (M0.gam d_check_row.N d_check_row.scope.names (M0.call (k + 2)) (M0.lamF d_check_row (M0.call (k + 1)) (M0.call k)) noAct) 39 d_check_row.scope (whileT (nthS d_check_row.body 0)) [some (.int p), some d, none] S = .ok (!rowsB p d) S :=
    (t_not (t_val rfl (q_blt (l_cons rfl (q_lc (o := sizeO p d) (xs := [2, 3, 4].map D.int) (x_val (q_glo (by decide +kernel) (by decide +kernel) rfl) rfl rfl) (by decide +kernel) rfl (fun _ => walks_tup) rfl (by decide) (fun e hd S1 => by
      obtain ⟨n, _, rfl⟩ := List.mem_map.mp hd
      exact (turn_one (l := [(2, .int n)]) rfl rfl (q_call (l_cons rfl (q_loc (i := 0) (by decide +kernel) rfl) (l_cons rfl (q_loc (i := 1) (by decide +kernel) rfl) (l_cons rfl (q_loc (i := 2) (by decide +kernel) rfl) l_nil))) fd_is_row_of rfl (by decide +kernel) rfl rfl (is_row_of_ok (by omega) h)))) (fun e hd y hy => by
      obtain ⟨n, _, rfl⟩ := List.mem_map.mp hd
      cases hy; rfl)) l_nil) (by decide +kernel) (by decide +kernel) rfl e1) rfl))
  cases hr : rowsB p d with
  | true =>
    rw [if_pos rfl]
    exact c_nxt fd_check_row rfl (s_if tst (fun h1 _ => by rw [hr] at h1; cases h1) (fun h2 => (j_next s_nil s_nil)))
  | false =>
    rw [if_neg (by decide)]
    exact c_exc fd_check_row rfl (s_if tst (fun h1 _ => (j_exc (s_rai (by decide +kernel) rfl rfl))) (fun h2 => by rw [hr] at h2; cases h2))
end Law
end
section
set_option maxRecDepth 100000
set_option maxHeartbeats 1000000
set_option linter.all false
namespace Law
open PySem PySem.Spec PyProof.Rows L2 Dp LamX
variable {S : Sto} {p : Int}
/-- the sums of products of pairs -/
def sumP (l : QD) (P : List (Tri × Tri)) : QD := P.foldl (fun l ab => addP l ab.1 ab.2) l
def pairD (ab : Tri × Tri) : D := .tup [tupT ab.1, tupT ab.2]
structure Few (P : List (Tri × Tri)) : Prop where
  n : P.length ≤ 10
  a : ∀ ab ∈ P, ab.1.length ≤ 300 ∧ ab.2.length ≤ 300
  s : ∀ ab ∈ P, ∀ t ∈ ab.1, smallI t.2.2
theorem zipD_T : ∀ As Bs : List Tri, zipD (As.map tupT) (Bs.map tupT) = (As.zip Bs).map pairD
  | [], _ => by cases ‹List Tri› <;> rfl
  | a :: As, [] => rfl
  | a :: As, b :: Bs => by
    show D.tup [tupT a, tupT b] :: zipD (As.map tupT) (Bs.map tupT) = pairD (a, b) :: (As.zip Bs).map pairD
    rw [zipD_T As Bs]; rfl
theorem sumP_nd : ∀ (P : List (Tri × Tri)) {l : QD}, (l.map (·.1)).Nodup → ((sumP l P).map (·.1)).Nodup
  | [], _, h => h
  | ab :: P, l, h => sumP_nd P (addP_nodup ab.2 ab.1 h)
theorem coef_sumP (q : Int × Int) : ∀ (P : List (Tri × Tri)) (l : QD), coef (sumP l P) q = coef l q + (P.map fun ab => cp q ab.2 ab.1).sum
  | [], l => by simp [sumP]
  | ab :: P, l => by
    show coef (sumP (addP l ab.1 ab.2) P) q = _
    rw [coef_sumP q P, coef_addP, List.map_cons, List.sum_cons]
    omega
theorem sum_loop {k : Nat} (hk : 3 ≤ k + 2) {pv av bv : D} {As Bs : List Tri} (hF : Few (As.zip Bs)) :
    forL keepC false (.zipT (As.map tupT) (Bs.map tupT)) (asgE d_sum_of_products.N d_sum_of_products.scope (forT (nthS d_sum_of_products.body 1))) (exs (ex (M0.gam d_sum_of_products.N d_sum_of_products.scope.names (M0.call (k + 2)) (M0.lamF d_sum_of_products (M0.call (k + 1)) (M0.call k)) noAct) 39 d_sum_of_products.scope) (loopB (nthS d_sum_of_products.body 1))) ((As.zip Bs).length + 1) 0
      [some pv, some av, some bv, some (.ref S.length), none, none] (S ++ [.dt (dQ [])])
      = .next [some pv, some av, some bv, some (.ref S.length), none, none] (S ++ [.dt (dQ (sumP [] (As.zip Bs)))]) ∧ (sumP [] (As.zip Bs)).length ≤ 90000 * (As.zip Bs).length := by
  refine for_ind (xs := (As.zip Bs).map pairD)
    (P := fun ys σ S' => ∃ (l' : QD) (Y : List (Tri × Tri)), ys = Y.map pairD ∧ (∀ ab ∈ Y, ab ∈ As.zip Bs) ∧ S' = S ++ [.dt (dQ l')] ∧ sumP l' Y = sumP [] (As.zip Bs) ∧ l'.length + 90000 * Y.length ≤ 90000 * (As.zip Bs).length ∧ σ = [some pv, some av, some bv, some (.ref S.length), none, none])
    (R := fun r => r = .next [some pv, some av, some bv, some (.ref S.length), none, none] (S ++ [.dt (dQ (sumP [] (As.zip Bs)))]) ∧ (sumP [] (As.zip Bs)).length ≤ 90000 * (As.zip Bs).length) (fun _ _ _ _ => by rw [← zipD_T]; exact walks_zipT) ?_ ?_ _ 0 _ _ _ rfl (by rw [List.drop_zero, List.length_map]; exact Nat.lt_succ_self _) ⟨[], As.zip Bs, rfl, fun _ h => h, rfl, rfl, by simp, rfl⟩
  · rintro σ S' ⟨l', Y, e, _, rfl, e2, hz, rfl⟩
    cases Y with
    | nil =>
      have e2 : l' = sumP [] (As.zip Bs) := e2
      subst e2
      exact ⟨rfl, by simpa using hz⟩
    | cons a Y => cases e
  · rintro d ys σ S' ⟨l', Y, e, hY, rfl, e2, hz, rfl⟩
    cases Y with
    | nil => cases e
    | cons ab Y =>
      cases e
      obtain ⟨a, b⟩ := ab
      have hm := hY _ List.mem_cons_self
      obtain ⟨z1, z2⟩ := hF.a _ hm
      have hn := hF.n
      dsimp only at z1 z2
      have zz : a.length * b.length ≤ 300 * 300 := Nat.mul_le_mul z1 z2
      simp only [List.length_cons] at hz
      have h1 := add_product_ok (K := k + 2) (by omega) (S := S ++ [.dt (dQ l')]) (m := S.length) (l := l') (A := a) (B := b) (hF.s _ hm) at_len (by omega) (by omega)
      rw [set_len] at h1
      have hb : exs (ex (M0.gam d_sum_of_products.N d_sum_of_products.scope.names (M0.call (k + 2)) (M0.lamF d_sum_of_products (M0.call (k + 1)) (M0.call k)) noAct) 39 d_sum_of_products.scope) (loopB (nthS d_sum_of_products.body 1)) [some pv, some av, some bv, some (.ref S.length), some (tupT a), some (tupT b)] (S ++ [.dt (dQ l')]) = .next [some pv, some av, some bv, some (.ref S.length), some (tupT a), some (tupT b)] (S ++ [.dt (dQ (addP l' a b))]) :=
        (s_exC (q_call (l_cons rfl (q_loc (i := 3) (by decide +kernel) rfl) (l_cons rfl (q_loc (i := 4) (by decide +kernel) rfl) (l_cons rfl (q_loc (i := 5) (by decide +kernel) rfl) l_nil))) fd_add_product rfl (by decide +kernel) rfl rfl h1) s_nil)
      refine ⟨[(4, tupT a), (5, tupT b)], rfl, .inl ⟨_, _, hb, by simp, addP l' a b, Y, rfl, fun u hu => hY u (List.mem_cons_of_mem _ hu), rfl, e2, ?_, rfl⟩⟩
      have := addP_len b a l'
      omega
theorem sum_of_products_ok {K : Nat} (hK : 6 ≤ K) (hp : 0 < p) {As Bs : List Tri} (hF : Few (As.zip Bs)) :
    M0.callS K "sum_of_products" [.int p, .tup (As.map tupT), .tup (Bs.map tupT)] S = .ok (tupT (gath p (sumP [] (As.zip Bs)))) S := by
  obtain ⟨k, rfl⟩ : ∃ k, K = k + 3 := ⟨K - 3, by omega⟩
  obtain ⟨h1, h2⟩ := sum_loop (S := S) (k := k) (by omega) (pv := .int p) (av := .tup (As.map tupT)) (bv := .tup (Bs.map tupT)) hF
  have hn := hF.n
  have h3 := gathered_ok (K := k + 2) (by omega) (S := S ++ [.dt (dQ (sumP [] (As.zip Bs)))]) (m := S.length) (l := sumP [] (As.zip Bs)) hp at_len (by omega)
  have hl : srcLen (S ++ [.dt (dQ [])]) (.zipT (As.map tupT) (Bs.map tupT)) = (As.zip Bs).length := by simp [srcLen]
  exact (c_ret1 fd_sum_of_products rfl (s_set (q_newT rfl) (by decide +kernel) (i := 3) (by decide +kernel) 
    (s_for (x_zip (q_loc (i := 1) (by decide +kernel) rfl) (q_loc (i := 2) (by decide +kernel) rfl) (by decide +kernel) rfl rfl) rfl rfl (by
      show forL keepC false _ _ _ (srcLen (S ++ [.dt (dQ [])]) (.zipT (As.map tupT) (Bs.map tupT)) + 1) 0 _ _ = _
      rw [hl]
      exact h1) (j_next rfl 
    (s_ret (q_call (l_cons rfl (q_loc (i := 0) (by decide +kernel) rfl) (l_cons rfl (q_loc (i := 3) (by decide +kernel) rfl) l_nil)) fd_gathered rfl (by decide +kernel) rfl rfl h3))))) (clo_tr _))
end Law
end
section
set_option maxRecDepth 100000
set_option maxHeartbeats 1000000
set_option linter.all false
namespace Law
open PySem PySem.Spec PyProof.Rows L2 Dp LamX
variable {S : Sto} {p : Int}
/-! ### polys compared -/
theorem cl_pts : ∀ T : Tri, PyData.canLayAll0 (T.map pt) = true ∧ PyData.depthAll (T.map pt) ≤ 1
  | [] => ⟨rfl, Nat.zero_le _⟩
  | t :: T => by
    obtain ⟨h1, h2⟩ := cl_pts T
    refine ⟨?_, ?_⟩
    · show (PyData.canLay0 (pt t) && PyData.canLayAll0 (T.map pt)) = true
      rw [h1]; rfl
    · show max (PyData.depth (pt t)) (PyData.depthAll (T.map pt)) ≤ 1
      have : PyData.depth (pt t) = 1 := rfl
      omega
theorem sh_T (T : Tri) : SeqAt.shaped (pT T) = true := by
  obtain ⟨h1, h2⟩ := cl_pts T
  show (PyData.canLayAll0 (T.map pt) && decide (PyData.depthAll (T.map pt) + 1 ≤ 64)) = true
  rw [h1, Bool.true_and]
  exact decide_eq_true (by omega)
theorem eqv_pts : ∀ A B : Tri, PyData.eqvAll (A.map pt) (B.map pt) = decide (A = B)
  | [], [] => rfl
  | [], b :: B => rfl
  | a :: A, [] => rfl
  | a :: A, b :: B => by
    show (PyData.eqv (pt a) (pt b) && PyData.eqvAll (A.map pt) (B.map pt)) = _
    rw [eqv_pts A B]
    have e : PyData.eqv (pt a) (pt b) = ((a.1 == b.1) && ((a.2.1 == b.2.1) && ((a.2.2 == b.2.2) && true))) := rfl
    rw [e]
    obtain ⟨a1, a2, a3⟩ := a
    obtain ⟨b1, b2, b3⟩ := b
    dsimp only
    by_cases h : a1 = b1 ∧ a2 = b2 ∧ a3 = b3
    · obtain ⟨rfl, rfl, rfl⟩ := h
      simp
    · have : ¬ ((a1, a2, a3) :: A = (b1, b2, b3) :: B) := fun z => by
        have := (List.cons.inj z).1
        simp only [Prod.mk.injEq] at this
        exact h this
      rw [decide_eq_false this]
      have hb : ((a1 == b1) && ((a2 == b2) && ((a3 == b3) && true))) = false := by
        rw [Bool.eq_false_iff]
        intro z
        simp only [Bool.and_eq_true, beq_iff_eq] at z
        exact h ⟨z.1, z.2.1, z.2.2.1⟩
      rw [hb, Bool.false_and]
theorem eq_T {A B : Tri} : cmpD .Eq (tupT A) (tupT B) S = some (decide (A = B)) := by
  show eqD (tupT A) (tupT B) S = _
  unfold eqD
  rw [py_T A, py_T B]
  dsimp only
  rw [if_pos ⟨sh_T A, sh_T B⟩]
  show some (PyData.eqvAll (A.map pt) (B.map pt)) = _
  rw [eqv_pts]
theorem ne_T {A B : Tri} : cmpD .NotEq (tupT A) (tupT B) S = some (!decide (A = B)) := by
  show (eqD (tupT A) (tupT B) S).map not = _
  rw [show eqD (tupT A) (tupT B) S = some (decide (A = B)) from eq_T]; rfl
/-! ### what is judged a poly is one -/
theorem from_tri : ∀ {ds : List D} {a b : Int}, polyFrom p a b ds = true → ∃ T : Tri, ds = T.map trD ∧ (∀ t ∈ T, ltP a b t.1 t.2.1 = true) ∧ T.Pairwise (fun t u => ltQ (frst t) (frst u)) ∧ ∀ t ∈ T, ((0 ≤ t.1 ∧ t.1 ≤ 999) ∧ 0 ≤ t.2.1 ∧ t.2.1 ≤ 999) ∧ 1 ≤ t.2.2 ∧ t.2.2 < p
  | [], a, b, _ => ⟨[], rfl, (fun _ h => nomatch h), .nil, fun _ h => nomatch h⟩
  | d :: ds, a, b, h => by
    unfold polyFrom at h
    split at h
    · rename_i i j c
      simp only [Bool.and_eq_true] at h
      obtain ⟨h1, h2, h3⟩ := h
      obtain ⟨T, rfl, g1, g2, g3⟩ := from_tri h3
      have hl : ∀ t ∈ T, ltQ (i, j) (frst t) := fun t ht => by
        have := g1 t ht
        unfold ltP at this
        simp only [Bool.or_eq_true, Bool.and_eq_true, decide_eq_true_eq, beq_iff_eq] at this
        unfold ltQ frst
        dsimp only
        omega
      have hb : ((0 ≤ i ∧ i ≤ 999) ∧ 0 ≤ j ∧ j ≤ 999) ∧ 1 ≤ c ∧ c < p := by
        have h1 : ((decide (0 ≤ i) && decide (i ≤ 999)) && ((decide (0 ≤ j) && decide (j ≤ 999)) && (decide (1 ≤ c) && decide (c ≤ p - 1)))) = true := h1
        simp only [Bool.and_eq_true, decide_eq_true_eq] at h1
        omega
      refine ⟨(i, j, c) :: T, rfl, fun t ht => ?_, List.pairwise_cons.mpr ⟨hl, g2⟩, fun t ht => ?_⟩
      · rcases List.mem_cons.mp ht with rfl | ht
        · exact h2
        · have := hl t ht
          unfold ltP at h2 ⊢
          unfold ltQ frst at this
          simp only [Bool.or_eq_true, Bool.and_eq_true, decide_eq_true_eq, beq_iff_eq] at h2 ⊢
          dsimp only at this
          omega
      · rcases List.mem_cons.mp ht with rfl | ht
        · exact hb
        · exact g3 t ht
    · cases h
theorem polyB_tri {d : D} (h : polyB p d = true) : ∃ T : Tri, d = tupT T ∧ Pol p T ∧ Bd 999 T := by
  unfold polyB at h
  split at h
  · obtain ⟨T, rfl, _, h2, h3⟩ := from_tri h
    exact ⟨T, rfl, ⟨h2, fun t ht => (h3 t ht).2⟩, fun t ht => (h3 t ht).1⟩
  · cases h
theorem all_tri : ∀ {ds : List D}, ds.all (polyB p) = true → ∃ Ts : List Tri, ds = Ts.map tupT ∧ ∀ T ∈ Ts, Pol p T ∧ Bd 999 T
  | [], _ => ⟨[], rfl, fun _ h => nomatch h⟩
  | d :: ds, h => by
    rw [List.all_cons, Bool.and_eq_true] at h
    obtain ⟨T, rfl, h1, h2⟩ := polyB_tri h.1
    obtain ⟨Ts, rfl, h3⟩ := all_tri h.2
    exact ⟨T :: Ts, rfl, fun U hU => by
      rcases List.mem_cons.mp hU with rfl | hU
      · exact ⟨h1, h2⟩
      · exact h3 U hU⟩
end Law
end
section
set_option maxRecDepth 100000
set_option maxHeartbeats 1000000
set_option linter.all false
namespace Law
open PySem PySem.Spec PyProof.Rows L2 Dp LamX
variable {S : Sto} {p : Int}
def triOf : D → Int × Int × Int
  | .tup [.int i, .int j, .int c] => (i, j, c)
  | _ => (0, 0, 0)
def trisOf : D → List Tri
  | .tup ds => ds.map fun d => match d with
    | .tup es => es.map triOf
    | _ => []
  | _ => []
def rowT (Ts : List Tri) : D := .tup (Ts.map tupT)
theorem tris_row (Ts : List Tri) : trisOf (rowT Ts) = Ts := by
  show (Ts.map tupT).map _ = Ts
  rw [List.map_map]
  refine (List.map_congr_left fun T _ => ?_).trans (List.map_id Ts)
  show (T.map trD).map triOf = T
  rw [List.map_map]
  exact (List.map_congr_left fun t _ => rfl).trans (List.map_id T)
/-- a row of polys -/
structure RowOk (p : Int) (Ts : List Tri) : Prop where
  n : 2 ≤ Ts.length ∧ Ts.length ≤ 4
  pol : ∀ T ∈ Ts, Pol p T ∧ Bd 20 T
  len : ∀ T ∈ Ts, T.length ≤ 300
theorem pure_row (Ts : List Tri) : pureB (rowT Ts) = true := by
  show pureBs (Ts.map tupT) = true
  rw [pureBs_all]
  intro d hd
  obtain ⟨T, _, rfl⟩ := List.mem_map.mp hd
  exact pure_tr T
theorem short_row {Ts : List Tri} (h : Ts.length ≤ 100000) : Short (rowT Ts) := ⟨pure_row Ts, fun ds e => by cases e; simpa using h⟩
theorem row_is {n : Int} {Ts : List Tri} (h : ∀ T ∈ Ts, Pol p T ∧ Bd 999 T) (hn : (Ts.length : Int) = n) : rowB p n (rowT Ts) = true := by
  show (((Ts.map tupT).length : Int) == n && (Ts.map tupT).all (polyB p)) = true
  rw [List.length_map, hn, beq_self_eq_true, Bool.true_and, List.all_eq_true]
  intro d hd
  obtain ⟨T, hT, rfl⟩ := List.mem_map.mp hd
  exact polyB_of (h T hT).1 (h T hT).2
theorem row_of {n : Int} {d : D} (h : rowB p n d = true) : ∃ Ts : List Tri, d = rowT Ts ∧ (Ts.length : Int) = n ∧ ∀ T ∈ Ts, Pol p T ∧ Bd 999 T := by
  unfold rowB at h
  split at h
  · rename_i ds
    rw [Bool.and_eq_true] at h
    obtain ⟨Ts, rfl, h2⟩ := all_tri h.2
    exact ⟨Ts, rfl, by simpa using h.1, h2⟩
  · cases h
theorem RowOk.rows {Ts : List Tri} (h : RowOk p Ts) : rowsB p (rowT Ts) = true := by
  unfold rowsB
  rw [List.any_eq_true]
  refine ⟨(Ts.length : Int), ?_, row_is (fun T hT => ⟨(h.pol T hT).1, (h.pol T hT).2.mono (by decide)⟩) rfl⟩
  have := h.n
  simp only [List.mem_cons, List.not_mem_nil, or_false]
  omega
/-- what are_ones says -/
def onesB (p : Int) (Rs : List Tri) (d : D) : Bool := rowB p Rs.length d && decide (gath p (sumP [] (Rs.zip (trisOf d))) = [(0, 0, 1)])
/-- a thing whose polys are not long -/
def Light (p : Int) (d : D) : Prop := Short d ∧ ∀ Ts : List Tri, d = rowT Ts → (∀ T ∈ Ts, Pol p T ∧ Bd 999 T) → ∀ T ∈ Ts, T.length ≤ 300 ∧ Bd 20 T
theorem few_zip {Rs Ts : List Tri} (hp : p ≤ 7) (hR : RowOk p Rs) (hl : ∀ T ∈ Ts, T.length ≤ 300) : Few (Rs.zip Ts) := by
  refine ⟨?_, fun ab h => ?_, fun ab h => ?_⟩
  · have := hR.n
    rw [List.length_zip]
    omega
  · obtain ⟨h1, h2⟩ := List.of_mem_zip (a := ab.1) (b := ab.2) h
    exact ⟨hR.len _ h1, hl _ h2⟩
  · obtain ⟨h1, _⟩ := List.of_mem_zip (a := ab.1) (b := ab.2) h
    exact (hR.pol _ h1).1.small hp
theorem are_ones_ok {K : Nat} (hK : 14 ≤ K) (hp : primeB (.int p) = true) {Rs : List Tri} (hR : RowOk p Rs) {d : D} (hd : Light p d) :
    M0.callS K "are_ones" [.int p, rowT Rs, d] S = .ok (.bl (onesB p Rs d)) S := by
  obtain ⟨k, rfl⟩ : ∃ k, K = k + 3 := ⟨K - 3, by omega⟩
  have hp2 := prime_pos hp
  have c1 := check_prime_ok (K := k + 2) (by omega) (S := S) (d := .int p) rfl
  rw [hp, if_pos rfl] at c1
  have c2 := check_row_ok (K := k + 2) (by omega) (S := S) (p := p) (d := rowT Rs) (short_row (by have := hR.n; omega))
  rw [hR.rows, if_pos rfl] at c2
  have hlen : fLen [rowT Rs] S = some (.int (Rs.length : Int), S) := by
    show some (D.int (((Rs.map tupT).length : Nat) : Int), S) = _
    rw [List.length_map]
  have c3 := is_row_of_ok (K := k + 2) (by omega) (S := S) (p := p) (n := Rs.length) hd.1
  exact (c_ret fd_are_ones rfl (s_exC (q_call (l_cons rfl (q_loc (i := 0) (by decide +kernel) rfl) l_nil) fd_check_prime rfl (by decide +kernel) rfl rfl c1) 
    (s_exC (q_call (l_cons rfl (q_loc (i := 0) (by decide +kernel) rfl) (l_cons rfl (q_loc (i := 1) (by decide +kernel) rfl) l_nil)) fd_check_row rfl (by decide +kernel) rfl rfl c2) 
    (s_ret (q_bool (e_and rfl (q_call (l_cons rfl (q_loc (i := 0) (by decide +kernel) rfl) (l_cons rfl (q_loc (i := 2) (by decide +kernel) rfl) (l_cons rfl (q_blt (l_cons rfl (q_loc (i := 1) (by decide +kernel) rfl) l_nil) (by decide +kernel) (by decide +kernel) rfl hlen) l_nil))) fd_is_row_of rfl (by decide +kernel) rfl rfl c3) (fun h1 => by
      obtain ⟨Ts, rfl, _, hP⟩ := row_of h1
      rw [tris_row]
      have c4 := sum_of_products_ok (K := k + 2) (by omega) (S := S) (p := p) (by omega) (few_zip hp2.2 hR fun T hT => (hd.2 Ts rfl hP T hT).1)
      exact (e_one (q_cmp rfl (q_call (l_cons rfl (q_loc (i := 0) (by decide +kernel) rfl) (l_cons rfl (q_loc (i := 1) (by decide +kernel) rfl) (l_cons rfl (q_loc (i := 2) (by decide +kernel) rfl) l_nil))) fd_sum_of_products rfl (by decide +kernel) rfl rfl c4) (q_glo (by decide +kernel) (by decide +kernel) rfl) (eq_T (B := [(0, 0, 1)])))))))))))
theorem are_ones_p {K : Nat} (hK : 14 ≤ K) {pd a b : D} (h0 : pureB pd = true) (hp : primeB pd = false) : M0.callS K "are_ones" [pd, a, b] S = .exc ⟨"BadPrime", none⟩ S := by
  obtain ⟨k, rfl⟩ : ∃ k, K = k + 3 := ⟨K - 3, by omega⟩
  have c1 := check_prime_ok (K := k + 2) (by omega) (S := S) h0
  rw [hp, if_neg (by decide)] at c1
  exact c_exc fd_are_ones rfl (s_exX (q_call (l_cons rfl (q_loc (i := 0) (by decide +kernel) rfl) l_nil) fd_check_prime rfl (by decide +kernel) rfl rfl c1))
theorem are_ones_r {K : Nat} (hK : 14 ≤ K) (hp : primeB (.int p) = true) {a b : D} (ha : Short a) (hr : rowsB p a = false) : M0.callS K "are_ones" [.int p, a, b] S = .exc ⟨"BadRow", none⟩ S := by
  obtain ⟨k, rfl⟩ : ∃ k, K = k + 3 := ⟨K - 3, by omega⟩
  have c1 := check_prime_ok (K := k + 2) (by omega) (S := S) (d := .int p) rfl
  rw [hp, if_pos rfl] at c1
  have c2 := check_row_ok (K := k + 2) (by omega) (S := S) (p := p) ha
  rw [hr, if_neg (by decide)] at c2
  exact c_exc fd_are_ones rfl (s_exC (q_call (l_cons rfl (q_loc (i := 0) (by decide +kernel) rfl) l_nil) fd_check_prime rfl (by decide +kernel) rfl rfl c1)
    (s_exX (q_call (l_cons rfl (q_loc (i := 0) (by decide +kernel) rfl) (l_cons rfl (q_loc (i := 1) (by decide +kernel) rfl) l_nil)) fd_check_row rfl (by decide +kernel) rfl rfl c2)))
end Law
end
section
set_option maxRecDepth 100000
set_option maxHeartbeats 1000000
set_option linter.all false
namespace Law
open PySem PySem.Spec PyProof.Rows L2 Dp LamX
variable {S : Sto} {p : Int}
/-! ### polys told by their numbers -/
structure Can (p : Int) (T : Tri) (f : Int × Int → Int) : Prop where
  asc : (T.map fun t => (t.1, t.2.1)).Pairwise ltQ2
  mem : ∀ t, t ∈ T ↔ t.2.2 = f (frst t) % p ∧ t.2.2 ≠ 0
theorem can_gath {l : QD} (h : (l.map (·.1)).Nodup) : Can p (gath p l) (coef l) := ⟨gath_asc h, fun t => gath_mem h⟩
theorem can_uniq {A B : Tri} {f g : Int × Int → Int} (h : Can p A f) (k : Can p B g) (e : ∀ q, f q % p = g q % p) : A = B := asc_same h.asc k.asc fun t => by rw [h.mem, k.mem, e]
theorem Can.mono {A : Tri} {f g : Int × Int → Int} (h : Can p A f) (e : ∀ q, f q % p = g q % p) : Can p A g := ⟨h.asc, fun t => by rw [h.mem, e]⟩
theorem Can.pol {A : Tri} {f : Int × Int → Int} (h : Can p A f) (hp : 0 < p) : Pol p A := by
  refine ⟨?_, fun t ht => ?_⟩
  · have := h.asc
    rw [List.pairwise_map] at this
    exact this
  · obtain ⟨h1, h2⟩ := (h.mem t).mp ht
    have a := Int.emod_nonneg (f (frst t)) (show p ≠ 0 by omega)
    have b := Int.emod_lt_of_pos (f (frst t)) hp
    omega
theorem Can.cf {A : Tri} {f : Int × Int → Int} (h : Can p A f) (hp : 0 < p) (q : Int × Int) : cf A q = f q % p := by
  have hP := h.pol hp
  rw [← coef_entr hP.nd]
  by_cases h0 : f q % p = 0
  · rw [h0]
    cases z : valQ (entr A) q with
    | none => unfold coef; rw [z]; rfl
    | some c =>
      obtain ⟨t, ht, e⟩ := List.mem_map.mp ((valQ_mem hP.nd).mp z)
      obtain ⟨h1, h2⟩ := (h.mem t).mp ht
      have e1 : frst t = q := (Prod.mk.inj e).1
      rw [e1, h0] at h1
      exact absurd h1 h2
  · refine (mem_coef hP.nd h0).mp ?_
    have hm : ((q.1, q.2, f q % p) : Int × Int × Int) ∈ A := (h.mem _).mpr ⟨rfl, h0⟩
    exact List.mem_map_of_mem (f := fun t : Int × Int × Int => (frst t, t.2.2)) hm
theorem can_nil : Can p [] fun _ => 0 := ⟨.nil, fun t => by
  constructor
  · intro h; cases h
  · rintro ⟨h1, h2⟩
    exact absurd (by rw [h1]; rfl) h2⟩
theorem can_plus {A B : Tri} {f g : Int × Int → Int} (hA : Can p A f) (hB : Can p B g) (hp : 0 < p) : Can p (gath p (addS 1 (addS 1 [] A) B)) fun q => f q + g q :=
  (can_gath (addS_nil_nd 1 1)).mono fun q => by
    rw [coef_addS, coef_addS, coef_nil, hA.cf hp, hB.cf hp, Int.zero_add, Int.mul_one, Int.mul_one, ← Int.add_emod]
theorem can_less {A B : Tri} {f g : Int × Int → Int} (hA : Can p A f) (hB : Can p B g) (hp : 0 < p) : Can p (gath p (addS (-1) (addS 1 [] A) B)) fun q => f q - g q :=
  (can_gath (addS_nil_nd (-1) 1)).mono fun q => by
    rw [coef_addS, coef_addS, coef_nil, hA.cf hp, hB.cf hp, Int.zero_add, Int.mul_one]
    rw [show f q % p + g q % p * -1 = f q % p - g q % p by omega, ← Int.sub_emod]
theorem can_times {A B : Tri} : Can p (gath p (addP [] A B)) fun q => cp q B A :=
  (can_gath addP_nil_nd).mono fun q => by rw [coef_addP, coef_nil, Int.zero_add]
theorem can_pol {A : Tri} (h : Pol p A) (hp : 0 < p) : Can p A (cf A) := by
  have := can_plus (p := p) (A := A) (B := []) (f := cf A) (g := fun _ => 0) ?_ can_nil hp
  · rw [plus_nil hp h] at this
    exact this.mono fun q => by rw [Int.add_zero]
  · refine ⟨?_, fun t => ?_⟩
    · rw [List.pairwise_map]; exact h.asc
    · have e := cf_bd h.nd h.bd hp (frst t)
      rw [Int.emod_eq_of_lt e.1 e.2, ← coef_entr h.nd]
      constructor
      · intro ht
        have h0 := h.bd t ht
        have h2 : t.2.2 ≠ 0 := by omega
        exact ⟨((mem_coef h.nd h2).mp (List.mem_map_of_mem (f := fun t : Int × Int × Int => (frst t, t.2.2)) ht)).symm, h2⟩
      · rintro ⟨h1, h2⟩
        obtain ⟨u, hu, e⟩ := List.mem_map.mp ((mem_coef h.nd h2).mpr h1.symm)
        have e1 : frst u = frst t := (Prod.mk.inj e).1
        have e3 : u.2.2 = t.2.2 := (Prod.mk.inj e).2
        have : u = t := Prod.ext (frst_1 e1) (Prod.ext (frst_2 e1) e3)
        rw [← this]; exact hu
/-- the law's sum of products, pair by pair -/
def lawS (p : Int) (P : List (Tri × Tri)) (F : Tri) : Tri := P.foldl (fun F ab => gath p (addS 1 (addS 1 [] F) (gath p (addP [] ab.1 ab.2)))) F
def sumC (P : List (Tri × Tri)) (q : Int × Int) : Int := (P.map fun ab => cp q ab.2 ab.1).sum
theorem can_lawS (hp : 0 < p) : ∀ (P : List (Tri × Tri)) {F : Tri} {f : Int × Int → Int}, Can p F f → Can p (lawS p P F) fun q => f q + sumC P q
  | [], F, f, h => h.mono fun q => by simp [sumC]
  | ab :: P, F, f, h => (can_lawS hp P (can_plus h can_times hp)).mono fun q => by
    unfold sumC
    rw [List.map_cons, List.sum_cons, Int.add_assoc]
theorem can_sumP (P : List (Tri × Tri)) : Can p (gath p (sumP [] P)) (sumC P) := (can_gath (sumP_nd (l := []) P List.nodup_nil)).mono fun q => by
  rw [coef_sumP, coef_nil, Int.zero_add]; rfl
theorem lawS_eq (hp : 0 < p) (P : List (Tri × Tri)) : lawS p P [] = gath p (sumP [] P) := can_uniq (can_lawS hp P can_nil) (can_sumP P) fun q => by rw [Int.zero_add]
end Law
end
section
set_option maxRecDepth 100000
set_option maxHeartbeats 1000000
set_option linter.all false
namespace Law
open PySem PySem.Spec PyProof.Rows L2 Dp LamX
variable {S : Sto} {p : Int}
theorem fd__law_said : M0.find "_law_said" = some d__law_said := by kernel_rfl
theorem fd__law_is_row : M0.find "_law_is_row" = some d__law_is_row := by kernel_rfl
theorem fd__law_sum_of : M0.find "_law_sum_of" = some d__law_sum_of := by kernel_rfl
theorem fd__law_are_ones : M0.find "_law_are_ones" = some d__law_are_ones := by kernel_rfl
theorem fd__law_number : M0.find "_law_number" = some d__law_number := by kernel_rfl
theorem eq_bl {a b : Bool} : cmpD .Eq (.bl a) (.bl b) S = some (a == b) := by
  show eqD (.bl a) (.bl b) S = _
  unfold eqD py
  rfl
theorem _law_said_ok {K : Nat} (hK : 3 ≤ K) {a b : Bool} : M0.callS K "_law_said" [.bl a, .bl b] S = .ok (.bl (a == b)) S := by
  obtain ⟨k, rfl⟩ : ∃ k, K = k + 3 := ⟨K - 3, by omega⟩
  exact (c_ret fd__law_said rfl (s_ret (q_bool (e_and (t := true) rfl (q_blt (l_cons rfl (q_loc (i := 0) (by decide +kernel) rfl) (l_cons rfl (q_glo (by decide +kernel) (by decide +kernel) rfl) l_nil)) (by decide +kernel) (by decide +kernel) rfl rfl) (fun _ => (e_one (q_cmp rfl (q_loc (i := 0) (by decide +kernel) rfl) (q_loc (i := 1) (by decide +kernel) rfl) eq_bl)))))))
theorem _law_number_ok {K : Nat} (hK : 3 ≤ K) {n : Int} (hn : 0 < n) : M0.callS K "_law_number" [.int n] S = .ok (tupT [(0, 0, n)]) S := by
  obtain ⟨k, rfl⟩ : ∃ k, K = k + 3 := ⟨K - 3, by omega⟩
  exact (c_ret fd__law_number rfl (s_ret (q_ife (t := true) (t_cmp rfl (q_loc (i := 0) (by decide +kernel) rfl) q_int (by show some (decide (n > 0)) = _; rw [decide_eq_true hn])) (fun h1 => (q_tup rfl (l_cons rfl (q_tup rfl (l_cons rfl q_int (l_cons rfl q_int (l_cons rfl (q_loc (i := 0) (by decide +kernel) rfl) l_nil))) (Nat.le_of_ble_eq_true rfl)) l_nil) (Nat.le_of_ble_eq_true rfl))) (fun h2 => nomatch h2))))
/-- those that are no polys -/
def nI (p : Int) (ds : List D) : List Int := ds.filterMap fun d => if (!polyB p d) = true then some 1 else none
def nO (p : Int) (d : D) : Option D := if (!polyB p d) = true then some (.int 1) else none
theorem nO_map (p : Int) : ∀ ds : List D, ds.filterMap (nO p) = (nI p ds).map .int
  | [] => rfl
  | d :: ds => by
    unfold nI
    rw [List.filterMap_cons, List.filterMap_cons, nO_map p ds]
    unfold nO
    by_cases h : (!polyB p d) = true
    · rw [if_pos h, if_pos h]; rfl
    · rw [if_neg h, if_neg h]; rfl
theorem nI_empty (p : Int) : ∀ ds : List D, ((nI p ds).map D.int).isEmpty = ds.all (polyB p)
  | [] => rfl
  | d :: ds => by
    have ih := nI_empty p ds
    unfold nI at ih ⊢
    rw [List.filterMap_cons, List.all_cons]
    cases h : polyB p d with
    | true =>
      rw [if_neg (by simp), Bool.true_and]
      exact ih
    | false =>
      rw [if_pos (by simp)]
      rfl
/-- data whose rows, and those in them, are not long -/
def Deep (d : D) : Prop := Short d ∧ ∀ ds, d = .tup ds → ∀ e ∈ ds, ∀ xs, e = .tup xs → xs.length ≤ 100000
theorem rowsB_tup {ds : List D} : rowsB p (.tup ds) = ((decide (2 ≤ (ds.length : Int)) && decide ((ds.length : Int) ≤ 4)) && ds.all (polyB p)) := by
  show (((ds.length : Int) == 2) && ds.all (polyB p) || ((((ds.length : Int) == 3) && ds.all (polyB p)) || ((((ds.length : Int) == 4) && ds.all (polyB p)) || false))) = _
  cases ds.all (polyB p) with
  | false => simp
  | true =>
    simp only [Bool.and_true, Bool.or_false]
    rw [Bool.eq_iff_iff]
    simp only [Bool.or_eq_true, Bool.and_eq_true, beq_iff_eq, decide_eq_true_eq]
    omega
theorem _law_is_row_ok {K : Nat} (hK : 8 ≤ K) {d : D} (h : Deep d) : M0.callS K "_law_is_row" [.int p, d] S = .ok (.bl (rowsB p d)) S := by
  obtain ⟨k, rfl⟩ : ∃ k, K = k + 3 := ⟨K - 3, by omega⟩
  by_cases ht : isTupB d = true
  · obtain ⟨ds, rfl⟩ : ∃ ds, d = .tup ds := by cases d <;> first | exact ⟨_, rfl⟩ | cases ht
    have hp := pureBs_all.mp h.1.1
    have hl := h.1.2 ds rfl
    have tst : tv (M0.gam d__law_is_row.N d__law_is_row.scope.names (M0.call (k + 2)) (M0.lamF d__law_is_row (M0.call (k + 1)) (M0.call k)) noAct) 39 d__law_is_row.scope (whileT (nthS d__law_is_row.body 0)) [some (.int p), some (.tup ds), none] S = .ok (false || !(decide (2 ≤ (ds.length : Int)) && decide ((ds.length : Int) ≤ 4))) S :=
      (t_bool (b_or rfl (t_not (t_val (t := true) rfl (q_blt (l_cons rfl (q_loc (i := 1) (by decide +kernel) rfl) (l_cons rfl (q_glo (by decide +kernel) (by decide +kernel) rfl) l_nil)) (by decide +kernel) (by decide +kernel) rfl rfl) rfl)) (fun h1 => (b_one (t_not (t_chain rfl q_int (q_blt (l_cons rfl (q_loc (i := 1) (by decide +kernel) rfl) l_nil) (by decide +kernel) (by decide +kernel) rfl rfl) rfl (fun _ => q_int) (fun _ => rfl)))))))
    rw [rowsB_tup]
    cases hc : (decide (2 ≤ (ds.length : Int)) && decide ((ds.length : Int) ≤ 4)) with
    | false =>
      rw [hc] at tst
      exact c_ret fd__law_is_row rfl (s_if tst (fun _ _ => j_ret (s_ret q_bl)) (fun h => nomatch h))
    | true =>
      rw [hc] at tst
      rw [Bool.true_and]
      exact c_ret fd__law_is_row rfl (s_if tst (fun h _ => nomatch h) (fun _ => (j_next s_nil 
        (Eq.trans (s_ret (q_cmp rfl (Eq.trans (q_lc (o := nO p) (xs := ds) (x_val (q_loc (i := 1) (by decide +kernel) rfl) rfl rfl) (by decide +kernel) rfl (fun _ => walks_tup) rfl (by omega) (fun d hd S1 => (turn_if (l := [(2, d)]) rfl rfl (t_not (t_val rfl (q_call (l_cons rfl (q_loc (i := 0) (by decide +kernel) rfl) (l_cons rfl (q_loc (i := 2) (by decide +kernel) rfl) l_nil)) fd__law_is_poly rfl (by decide +kernel) rfl rfl (law_is_poly_ok (by omega) (hp d hd) (h.2 ds rfl d hd))) rfl)) (fun _ => q_int))) (fun d hd y hy => by
            unfold nO at hy
            split at hy
            · cases hy; rfl
            · cases hy)) (by rw [nO_map])) (q_lst rfl l_nil (Nat.le_of_ble_eq_true rfl)) (eq_nil_lv' (shape_ints (nI p ds))))) (by rw [nI_empty])))))
  · have hf : rowsB p d = false := by cases d <;> first | rfl | exact absurd rfl ht
    rw [hf]
    exact c_ret fd__law_is_row rfl (s_if (t_bool (b_or (t' := false) rfl (t_not (t_val rfl (q_blt (l_cons rfl (q_loc (i := 1) (by decide +kernel) rfl) (l_cons rfl (q_glo (by decide +kernel) (by decide +kernel) rfl) l_nil)) (by decide +kernel) (by decide +kernel) rfl (isi_tup h.1.1)) rfl)) (fun h1 => by simp at h1; exact absurd h1 ht)))
        (fun h2 _ => (j_ret (s_ret q_bl)))
        (fun h3 => by simp at h3; exact absurd h3 ht))
end Law
end
section
set_option maxRecDepth 100000
set_option maxHeartbeats 1000000
set_option linter.all false
namespace Law
open PySem PySem.Spec PyProof.Rows L2 Dp LamX
variable {S : Sto} {p : Int}
/-- pairs of polys, small -/
def Prs (p : Int) (P : List (Tri × Tri)) : Prop := ∀ ab ∈ P, (Pol p ab.1 ∧ Bd 20 ab.1 ∧ ab.1.length ≤ 300) ∧ Pol p ab.2 ∧ Bd 20 ab.2 ∧ ab.2.length ≤ 300
theorem pol_asc {T : Tri} (h : Pol p T) : (T.map fun t => (t.1, t.2.1)).Pairwise ltQ2 := by
  rw [List.pairwise_map]; exact h.asc
theorem lawsum_loop {k : Nat} (hk : 9 ≤ k + 2) (hp : 2 ≤ p ∧ p ≤ 7) {rv sv : D} {src : Src} {P : List (Tri × Tri)} (hw : Walks src (P.map pairD) S) (hP : Prs p P) :
    forL keepC false src (asgE d__law_sum_of.N d__law_sum_of.scope (forT (nthS d__law_sum_of.body 1))) (exs (ex (M0.gam d__law_sum_of.N d__law_sum_of.scope.names (M0.call (k + 2)) (M0.lamF d__law_sum_of (M0.call (k + 1)) (M0.call k)) noAct) 39 d__law_sum_of.scope) (loopB (nthS d__law_sum_of.body 1))) (P.length + 1) 0
      [some (.int p), some rv, some sv, some (tupT []), none, none] S
      = .next [some (.int p), some rv, some sv, some (tupT (lawS p P [])), none, none] S := by
  refine for_ind (xs := P.map pairD)
    (P := fun ys σ S' => ∃ (F : Tri) (Y : List (Tri × Tri)), ys = Y.map pairD ∧ (∀ ab ∈ Y, ab ∈ P) ∧ S' = S ∧ lawS p Y F = lawS p P [] ∧ Pol p F ∧ Bd 40 F ∧ σ = [some (.int p), some rv, some sv, some (tupT F), none, none])
    (R := fun r => r = .next [some (.int p), some rv, some sv, some (tupT (lawS p P [])), none, none] S) (fun ys σ S' h => by
      obtain ⟨_, _, _, _, rfl, _⟩ := h
      exact hw) ?_ ?_ _ 0 _ _ _ rfl (by rw [List.drop_zero, List.length_map]; exact Nat.lt_succ_self _) ⟨[], P, rfl, fun _ h => h, rfl, rfl, ⟨.nil, fun _ h => nomatch h⟩, (fun _ h => nomatch h), rfl⟩
  · rintro σ S' ⟨F, Y, e, _, rfl, e2, _, _, rfl⟩
    cases Y with
    | nil => rw [← e2]; rfl
    | cons a Y => cases e
  · rintro d ys σ S' ⟨F, Y, e, hY, rfl, e2, hF, bF, rfl⟩
    cases Y with
    | nil => cases e
    | cons ab Y =>
      cases e
      obtain ⟨a, b⟩ := ab
      obtain ⟨⟨a1, a2, a3⟩, b1, b2, b3⟩ := hP _ (hY _ List.mem_cons_self)
      dsimp only at a1 a2 a3 b1 b2 b3
      have zz : a.length * b.length ≤ 300 * 300 := Nat.mul_le_mul a3 b3
      have c1 := _law_times_ok (K := k + 2) (by omega) (S := S') hp a1 b1 (by omega) (by omega) (by omega)
      have g1 : Bd 40 (gath p (addP [] a b)) := mul_bd (M := 20) (N := 20) (by omega) a2 b2
      have l1 := grid_few (gath_asc addP_nil_nd) g1
      have q1 : Pol p (gath p (addP [] a b)) := (can_times (p := p) (A := a) (B := b)).pol (by omega)
      have l2 := grid_few (pol_asc hF) bF
      have c2 := _law_plus_ok (K := k + 2) (by omega) (S := S') (p := p) (by omega) hF q1 (by omega) (by omega)
      have hb : exs (ex (M0.gam d__law_sum_of.N d__law_sum_of.scope.names (M0.call (k + 2)) (M0.lamF d__law_sum_of (M0.call (k + 1)) (M0.call k)) noAct) 39 d__law_sum_of.scope) (loopB (nthS d__law_sum_of.body 1)) [some (.int p), some rv, some sv, some (tupT F), some (tupT a), some (tupT b)] S' = .next [some (.int p), some rv, some sv, some (tupT (gath p (addS 1 (addS 1 [] F) (gath p (addP [] a b))))), some (tupT a), some (tupT b)] S' :=
        (s_set (q_call (l_cons rfl (q_loc (i := 0) (by decide +kernel) rfl) (l_cons rfl (q_loc (i := 3) (by decide +kernel) rfl) (l_cons rfl (q_call (l_cons rfl (q_loc (i := 0) (by decide +kernel) rfl) (l_cons rfl (q_loc (i := 4) (by decide +kernel) rfl) (l_cons rfl (q_loc (i := 5) (by decide +kernel) rfl) l_nil))) fd__law_times rfl (by decide +kernel) rfl rfl c1) l_nil))) fd__law_plus rfl (by decide +kernel) rfl rfl c2) (by decide +kernel) (i := 3) (by decide +kernel) s_nil)
      exact ⟨[(4, tupT a), (5, tupT b)], rfl, .inl ⟨_, _, hb, rfl, _, Y, rfl, fun u hu => hY u (List.mem_cons_of_mem _ hu), rfl, e2, (can_plus (can_pol hF (by omega)) (can_pol q1 (by omega)) (by omega)).pol (by omega), add_bd (by omega) bF g1, rfl⟩⟩
theorem _law_sum_of_ok {K : Nat} (hK : 12 ≤ K) (hp : 2 ≤ p ∧ p ≤ 7) {As Bs : List Tri} (hP : Prs p (As.zip Bs)) :
    M0.callS K "_law_sum_of" [.int p, rowT As, rowT Bs] S = .ok (tupT (gath p (sumP [] (As.zip Bs)))) S := by
  obtain ⟨k, rfl⟩ : ∃ k, K = k + 3 := ⟨K - 3, by omega⟩
  have h1 := lawsum_loop (S := S) (k := k) (by omega) hp (rv := rowT As) (sv := rowT Bs) (src := .zipT (As.map tupT) (Bs.map tupT)) (P := As.zip Bs) (by rw [← zipD_T]; exact walks_zipT) hP
  rw [lawS_eq (by omega)] at h1
  have hl : srcLen S (.zipT (As.map tupT) (Bs.map tupT)) = (As.zip Bs).length := by simp [srcLen]
  exact c_ret fd__law_sum_of rfl (s_set (q_tup rfl l_nil (Nat.le_of_ble_eq_true rfl)) (by decide +kernel) (i := 3) (by decide +kernel) 
    (s_for (x_zip (q_loc (i := 1) (by decide +kernel) rfl) (q_loc (i := 2) (by decide +kernel) rfl) (by decide +kernel) rfl rfl) rfl rfl (by
      show forL keepC false _ _ _ (srcLen S (.zipT (As.map tupT) (Bs.map tupT)) + 1) 0 _ _ = _
      rw [hl]
      exact h1) (j_next rfl (s_ret (q_loc (i := 3) (by decide +kernel) rfl)))))
theorem zipR_walks {As Bs : List Tri} {m : Nat} (h : S[m]? = some (.lst (Bs.map tupT))) : Walks (.zipR (.lv (As.map tupT)) (.at m)) ((As.zip Bs).map pairD) S := fun i => by
  have e1 : lrOf S (.lv (As.map tupT)) = some (As.map tupT) := rfl
  have e2 : lrOf S (.at m) = some (Bs.map tupT) := lst_of h
  show (match lrOf S (.lv (As.map tupT)), lrOf S (.at m) with
    | some ds, some es => some (match ds[i]?, es[i]? with
      | some d, some e => some (D.tup [d, e])
      | _, _ => none)
    | _, _ => none) = _
  rw [e1, e2, ← zipD_T, zipD_at]
  all_goals rfl
/-- a list that nobody writes, one of the store -/
theorem _law_sum_of_okR {K : Nat} (hK : 12 ≤ K) (hp : 2 ≤ p ∧ p ≤ 7) {As Bs : List Tri} {m : Nat} (h : S[m]? = some (.lst (Bs.map tupT))) (hP : Prs p (As.zip Bs)) :
    M0.callS K "_law_sum_of" [.int p, .lv (As.map tupT), .ref m] S = .ok (tupT (gath p (sumP [] (As.zip Bs)))) S := by
  obtain ⟨k, rfl⟩ : ∃ k, K = k + 3 := ⟨K - 3, by omega⟩
  have h1 := lawsum_loop (S := S) (k := k) (by omega) hp (rv := .lv (As.map tupT)) (sv := .ref m) (src := .zipR (.lv (As.map tupT)) (.at m)) (P := As.zip Bs) (zipR_walks h) hP
  rw [lawS_eq (by omega)] at h1
  have hz : srcZ S (.lv (As.map tupT)) (.ref m) = some (.zipR (.lv (As.map tupT)) (.at m)) := by
    show (lstOf S m).map (fun _ => Src.zipR (.lv (As.map tupT)) (.at m)) = _
    rw [lst_of h]; rfl
  have hl : srcLen S (.zipR (.lv (As.map tupT)) (.at m)) = (As.zip Bs).length := by
    show min (As.map tupT).length ((lstOf S m).getD []).length = _
    rw [lst_of h]
    simp
  exact c_ret fd__law_sum_of rfl (s_set (q_tup rfl l_nil (Nat.le_of_ble_eq_true rfl)) (by decide +kernel) (i := 3) (by decide +kernel) 
    (s_for (x_zip (q_loc (i := 1) (by decide +kernel) rfl) (q_loc (i := 2) (by decide +kernel) rfl) (by decide +kernel) rfl hz) rfl rfl (by
      show forL keepC false _ _ _ (srcLen S (.zipR (.lv (As.map tupT)) (.at m)) + 1) 0 _ _ = _
      rw [hl]
      exact h1) (j_next rfl (s_ret (q_loc (i := 3) (by decide +kernel) rfl)))))
/-- a thing that the laws may judge -/
def Fine (p : Int) (d : D) : Prop := Deep d ∧ ∀ Ts : List Tri, d = rowT Ts → (∀ T ∈ Ts, Pol p T ∧ Bd 999 T) → ∀ T ∈ Ts, T.length ≤ 300 ∧ Bd 20 T
theorem prs_zip {Rs Ts : List Tri} (hR : RowOk p Rs) (hT : ∀ T ∈ Ts, Pol p T) (hl : ∀ T ∈ Ts, T.length ≤ 300 ∧ Bd 20 T) : Prs p (Rs.zip Ts) := fun ab h => by
  obtain ⟨h1, h2⟩ := List.of_mem_zip (a := ab.1) (b := ab.2) h
  exact ⟨⟨(hR.pol _ h1).1, (hR.pol _ h1).2, hR.len _ h1⟩, hT _ h2, (hl _ h2).2, (hl _ h2).1⟩
end Law
end
section
set_option maxRecDepth 100000
set_option maxHeartbeats 1000000
set_option linter.all false
namespace Law
open PySem PySem.Spec PyProof.Rows L2 Dp LamX
variable {S : Sto} {p : Int}
theorem nI_ne {ds : List D} : cmpD .NotEq (.lv ((nI p ds).map D.int)) (.lv []) S = some (!ds.all (polyB p)) := by
  rw [ne_nil_lv (shape_ints (nI p ds)), nI_empty]
theorem fine_light {d : D} (h : Fine p d) : Light p d := ⟨h.1.1, h.2⟩
theorem _law_are_ones_ok {K : Nat} (hK : 14 ≤ K) (hp : primeB (.int p) = true) {Rs : List Tri} (hR : RowOk p Rs) {d : D} (h : Fine p d) :
    M0.callS K "_law_are_ones" [.int p, rowT Rs, d] S = .ok (.bl (onesB p Rs d)) S := by
  obtain ⟨k, rfl⟩ : ∃ k, K = k + 3 := ⟨K - 3, by omega⟩
  have hp2 := prime_pos hp
  by_cases ht : isTupB d = true
  · obtain ⟨ds, rfl⟩ : ∃ ds, d = .tup ds := by cases d <;> first | exact ⟨_, rfl⟩ | cases ht
    have hpu := pureBs_all.mp h.1.1.1
    have hl := h.1.1.2 ds rfl
    have hlen : fLen [rowT Rs] S = some (.int (Rs.length : Int), S) := by
      show some (D.int (((Rs.map tupT).length : Nat) : Int), S) = _
      rw [List.length_map]
    have tst : tv (M0.gam d__law_are_ones.N d__law_are_ones.scope.names (M0.call (k + 2)) (M0.lamF d__law_are_ones (M0.call (k + 1)) (M0.call k)) noAct) 39 d__law_are_ones.scope (whileT (nthS d__law_are_ones.body 0)) [some (.int p), some (rowT Rs), some (.tup ds), none] S = .ok (false || (!((ds.length : Int) == (Rs.length : Int)) || !ds.all (polyB p))) S :=
      (t_bool (b_or rfl (t_not (t_val (t := true) rfl (q_blt (l_cons rfl (q_loc (i := 2) (by decide +kernel) rfl) (l_cons rfl (q_glo (by decide +kernel) (by decide +kernel) rfl) l_nil)) (by decide +kernel) (by decide +kernel) rfl rfl) rfl)) (fun _ => (b_or rfl (t_cmp rfl (q_blt (l_cons rfl (q_loc (i := 2) (by decide +kernel) rfl) l_nil) (by decide +kernel) (by decide +kernel) rfl rfl) (q_blt (l_cons rfl (q_loc (i := 1) (by decide +kernel) rfl) l_nil) (by decide +kernel) (by decide +kernel) rfl hlen) Dp.ne_int) (fun _ => (b_one (t_cmp rfl (Eq.trans (q_lc (o := nO p) (xs := ds) (x_val (q_loc (i := 2) (by decide +kernel) rfl) rfl rfl) (by decide +kernel) rfl (fun _ => walks_tup) rfl (by omega) (fun d hd S1 => (turn_if (l := [(3, d)]) rfl rfl (t_not (t_val rfl (q_call (l_cons rfl (q_loc (i := 0) (by decide +kernel) rfl) (l_cons rfl (q_loc (i := 3) (by decide +kernel) rfl) l_nil)) fd__law_is_poly rfl (by decide +kernel) rfl rfl (law_is_poly_ok (by omega) (hpu d hd) (h.1.2 ds rfl d hd))) rfl)) (fun _ => q_int))) (fun d hd y hy => by
            unfold nO at hy
            split at hy
            · cases hy; rfl
            · cases hy)) (by rw [nO_map])) (q_lst rfl l_nil (Nat.le_of_ble_eq_true rfl)) nI_ne)))))))
    have hrow : rowB p Rs.length (.tup ds) = (((ds.length : Int) == (Rs.length : Int)) && ds.all (polyB p)) := rfl
    cases hc : (((ds.length : Int) == (Rs.length : Int)) && ds.all (polyB p)) with
    | false =>
      have e : (false || (!((ds.length : Int) == (Rs.length : Int)) || !ds.all (polyB p))) = true := by
        rw [Bool.false_or, ← Bool.not_and, hc]; rfl
      rw [e] at tst
      have eo : onesB p Rs (.tup ds) = false := by unfold onesB; rw [hrow, hc]; rfl
      rw [eo]
      exact c_ret fd__law_are_ones rfl (s_if tst (fun _ _ => j_ret (s_ret q_bl)) (fun h => nomatch h))
    | true =>
      have e : (false || (!((ds.length : Int) == (Rs.length : Int)) || !ds.all (polyB p))) = false := by
        rw [Bool.false_or, ← Bool.not_and, hc]; rfl
      rw [e] at tst
      obtain ⟨Ts, hd, _, hT⟩ := row_of (hrow.trans hc)
      have hd2 : ds = Ts.map tupT := by cases hd; rfl
      subst hd2
      have c1 := _law_sum_of_ok (K := k + 2) (S := S) (by omega) hp2 (prs_zip hR (fun T h => (hT T h).1) (h.2 Ts rfl hT))
      have eo : onesB p Rs (rowT Ts) = decide (gath p (sumP [] (Rs.zip Ts)) = [(0, 0, 1)]) := by
        unfold onesB
        rw [show rowB p Rs.length (rowT Ts) = true from hrow.trans hc, Bool.true_and, tris_row]
      show _ = Res.ok (D.bl (onesB p Rs (rowT Ts))) S
      rw [eo]
      exact c_ret fd__law_are_ones rfl (s_if tst (fun h _ => nomatch h) (fun _ => (j_next s_nil 
        (s_ret (q_cmp rfl (q_call (l_cons rfl (q_loc (i := 0) (by decide +kernel) rfl) (l_cons rfl (q_loc (i := 1) (by decide +kernel) rfl) (l_cons rfl (q_loc (i := 2) (by decide +kernel) rfl) l_nil))) fd__law_sum_of rfl (by decide +kernel) rfl rfl c1) (q_tup rfl (l_cons rfl (q_tup rfl (l_cons rfl q_int (l_cons rfl q_int (l_cons rfl q_int l_nil))) (Nat.le_of_ble_eq_true rfl)) l_nil) (Nat.le_of_ble_eq_true rfl)) (eq_T (B := [(0, 0, 1)])))))))
  · have hf : onesB p Rs d = false := by
      unfold onesB
      have : rowB p Rs.length d = false := by cases d <;> first | rfl | exact absurd rfl ht
      rw [this]; rfl
    rw [hf]
    exact c_ret fd__law_are_ones rfl (s_if (t_bool (b_or (t' := false) rfl (t_not (t_val rfl (q_blt (l_cons rfl (q_loc (i := 2) (by decide +kernel) rfl) (l_cons rfl (q_glo (by decide +kernel) (by decide +kernel) rfl) l_nil)) (by decide +kernel) (by decide +kernel) rfl (isi_tup h.1.1.1)) rfl)) (fun h1 => by simp at h1; exact absurd h1 ht)))
        (fun h2 _ => (j_ret (s_ret q_bl)))
        (fun h3 => by simp at h3; exact absurd h3 ht))
end Law
end
section
set_option maxRecDepth 100000
set_option maxHeartbeats 1000000
set_option linter.all false
namespace Law
open PySem PySem.Spec PyProof.Rows L2 Dp LamX
variable {S : Sto} {p : Int}
/-- times a number -/
theorem cp_num (n : Int) (q : Int × Int) : ∀ A : Tri, cp q [(0, 0, n)] A = cf A q * n
  | [] => by simp [cp, cf]
  | a :: A => by
    rw [cp_c, cp_num n q A, cf_c]
    show (x2 q a (0, 0, n) + 0) + cf A q * n = _
    unfold x2
    dsimp only
    simp only [Int.add_zero]
    have e : (a.1, a.2.1) = frst a := rfl
    rw [e]
    by_cases h : q = frst a
    · rw [if_pos h, if_pos h, Int.add_mul]
    · rw [if_neg h, if_neg h]; simp
theorem sumC_app (P Q : List (Tri × Tri)) (q : Int × Int) : sumC (P ++ Q) q = sumC P q + sumC Q q := by
  unfold sumC
  rw [List.map_append, List.sum_append]
theorem sumC_one (ab : Tri × Tri) (q : Int × Int) : sumC [ab] q = cp q ab.2 ab.1 := by simp [sumC]
theorem zip_ins {α β : Type} {as : List α} {bs : List β} (h : as.length = bs.length) (s : Nat) (a : α) (b : β) : (as.take s ++ a :: as.drop s).zip (bs.take s ++ b :: bs.drop s) = (as.take s).zip (bs.take s) ++ (a, b) :: (as.drop s).zip (bs.drop s) := by
  rw [List.zip_append (by simp [h]), List.zip_cons_cons]
theorem zip_cut {α β : Type} {as : List α} {bs : List β} (h : as.length = bs.length) (s : Nat) : (as.take s).zip (bs.take s) ++ (as.drop s).zip (bs.drop s) = as.zip bs := by
  rw [← List.zip_append (by simp [h]), List.take_append_drop, List.take_append_drop]
theorem mod_mul {a b p : Int} (h : a % p = b % p) (c : Int) : (a * c) % p = (b * c) % p := by
  rw [Int.mul_emod, h, ← Int.mul_emod]
theorem mod_add {a b c d p : Int} (h : a % p = b % p) (k : c % p = d % p) : (a + c) % p = (b + d) % p := by
  rw [Int.add_emod, h, k, ← Int.add_emod]
/-- rows that come to one by how they are made -/
theorem made_one (hp : 1 < p) {Rs Bs : List Tri} (hl : Rs.length = Bs.length) (s : Nat) {n b : Int} (hnb : b * n % p = 1) :
    gath p (sumP [] ((Rs.take s ++ gath p (addP [] (gath p (addS (-1) (addS 1 [] [(0, 0, 1)]) (gath p (sumP [] (Rs.zip Bs))))) [(0, 0, n)]) :: Rs.drop s).zip (Bs.take s ++ [(0, 0, b)] :: Bs.drop s))) = [(0, 0, 1)] := by
  have hp0 : 0 < p := by omega
  have h1 : Pol p [(0, 0, 1)] := ⟨List.pairwise_singleton _ _, fun t ht => by cases List.mem_singleton.mp ht; exact ⟨by show (1 : Int) ≤ 1; omega, by show (1 : Int) < p; omega⟩⟩
  have c1 := can_pol h1 hp0
  have cL := can_less c1 (can_sumP (p := p) (Rs.zip Bs)) hp0
  have cM := can_times (p := p) (A := gath p (addS (-1) (addS 1 [] [(0, 0, 1)]) (gath p (sumP [] (Rs.zip Bs))))) (B := [(0, 0, n)])
  refine can_uniq (can_sumP _) c1 fun q => ?_
  rw [zip_ins hl, sumC_app, ← List.singleton_append, sumC_app, sumC_one]
  dsimp only
  rw [cp_num, cM.cf hp0, cp_num, cL.cf hp0]
  have hz : sumC ((Rs.take s).zip (Bs.take s)) q + sumC ((Rs.drop s).zip (Bs.drop s)) q = sumC (Rs.zip Bs) q := by rw [← sumC_app, zip_cut hl]
  generalize sumC ((Rs.take s).zip (Bs.take s)) q = x at hz
  generalize sumC ((Rs.drop s).zip (Bs.drop s)) q = y at hz
  generalize sumC (Rs.zip Bs) q = z at hz
  generalize cf [(0, 0, 1)] q = d
  have e1 : ((d - z) % p * n % p * b) % p = (d - z) % p := by
    rw [mod_mul (b := (d - z) % p * n) (Int.emod_emod_of_dvd _ (Int.dvd_refl p)), Int.mul_assoc, Int.mul_comm n b, Int.mul_emod, hnb, Int.mul_one, Int.emod_emod_of_dvd _ (Int.dvd_refl p), Int.emod_emod_of_dvd _ (Int.dvd_refl p)]
  have e2 : (x + ((d - z) % p * n % p * b + y)) % p = ((x + y) + (d - z)) % p := by
    rw [show x + ((d - z) % p * n % p * b + y) = (x + y) + (d - z) % p * n % p * b by omega]
    exact mod_add rfl e1
  rw [e2, hz, show z + (d - z) = d by omega]
end Law
end
section
set_option maxRecDepth 100000
set_option maxHeartbeats 1000000
set_option linter.all false
namespace Law
open PySem PySem.Spec PyProof.Rows L2 Dp LamX
variable {ns C : List Int} {X : Sto} {s : Sta}
theorem fd__law_made : M0.find "_law_made" = some d__law_made := by kernel_rfl
noncomputable abbrev maG (k : Nat) : Gam := M0.gam d__law_made.N d__law_made.scope.names (M0.call (k + 2)) (M0.lamF d__law_made (M0.call (k + 1)) (M0.call k)) noAct
def firstE : Expr → Expr
  | .Tuple (e :: _) _ _ => e
  | e => e
theorem made_row (hC : Cok C) {k : Nat} (hk : 5 ≤ k + 2) {p : Int} (hp : 2 ≤ p ∧ p ≤ 7) {x2 x3 x4 x5 x6 x7 x8 x9 y0 : Option D} (hs : s.ok) (ht : s.t + 9001 ≤ 1000000000) :
    ∃ s', ∃ Rs : List Tri, ev (maG k) 38 d__law_made.scope (firstE (valueE (nthS d__law_made.body 0))) [some (.ref 3), some (.int p), x2, x3, x4, x5, x6, x7, x8, x9, y0] (St ns C s X) = .ok (.lv (Rs.map tupT)) (St ns C s' X) ∧ s'.ok ∧ s'.t ≤ s.t + 9001 ∧ (1 ≤ Rs.length ∧ Rs.length ≤ 3) ∧ ∀ T ∈ Rs, PolyT p 3 3 T := by
  obtain ⟨v, s1, e1, o1, t1, hv⟩ := pick_d (ns := ns) (X := X) hC (K := k + 2) (by omega) (ds := [.int 1, .int 2, .int 3]) ⟨by decide, by decide⟩ s hs (by omega)
  obtain ⟨n, rfl, hn⟩ : ∃ n : Nat, v = .int n ∧ 1 ≤ n ∧ n ≤ 3 := by
    simp only [List.mem_cons, List.not_mem_nil, or_false] at hv
    rcases hv with rfl | rfl | rfl
    · exact ⟨1, rfl, by decide⟩
    · exact ⟨2, rfl, by decide⟩
    · exact ⟨3, rfl, by decide⟩
  have he : ∃ s' acc, ev (maG k) 38 d__law_made.scope (firstE (valueE (nthS d__law_made.body 0))) [some (.ref 3), some (.int p), x2, x3, x4, x5, x6, x7, x8, x9, y0] (St ns C s X) = .ok (.lv acc) (St ns C s' X) ∧ s'.ok ∧ ∃ (Ts : List Tri), acc = Ts.map tupT ∧ Ts.length + ([] : List D).length = n ∧ (∀ T ∈ Ts, PolyT p 3 3 T) ∧ s'.t + 3000 * ([] : List D).length ≤ s1.t + 3000 * n := by
    refine q_lcS (F := fun s => St ns C s X) (n0 := (St ns C s X).length) (src := .rng 0 n) (xs := (List.range n).map fun (k : Nat) => .int (0 + (k : Int))) (s := s1)
      (fun ys s2 acc => s2.ok ∧ ∃ (Ts : List Tri), acc = Ts.map tupT ∧ Ts.length + ys.length = n ∧ (∀ T ∈ Ts, PolyT p 3 3 T) ∧ s2.t + 3000 * ys.length ≤ s1.t + 3000 * n)
      (fun _ => rfl) (x_rng1 (j := (n : Int)) (q_call (l_cons rfl (q_loc (i := 0) (by decide +kernel) rfl) (l_cons rfl (q_lst rfl (l_cons rfl q_int (l_cons rfl q_int (l_cons rfl q_int l_nil))) (Nat.le_of_ble_eq_true rfl)) l_nil)) fd__law_pick rfl (by decide +kernel) rfl rfl e1) (by decide +kernel) rfl (by omega)) (by decide +kernel) (by decide +kernel) (fun _ => walks_rng) (by show n = _; simp) (by simp; omega) (fun _ _ => keep_St)
      ?hf ⟨o1, [], rfl, by simp, (fun _ h => nomatch h), by simp⟩ ?hc
    case hf =>
      rintro d ys s2 acc ⟨g1, Ts, rfl, g2, g3, g4⟩
      simp only [List.length_cons] at g2 g4
      obtain ⟨v, s3, e3, o3, t3, T, rfl, hT⟩ := poly_d (ns := ns) (X := X ++ [.lst (Ts.map tupT)]) hC (K := k + 2) hk (p := p) (mx := 3) (my := 3) hp (by decide) (by decide) (by decide) s2 g1 (by omega)
      refine ⟨some (tupT T), s3, turn_oneS rfl rfl (q_call (l_cons rfl (q_loc (i := 0) (by decide +kernel) rfl) (l_cons rfl (q_loc (i := 1) (by decide +kernel) rfl) (l_cons rfl q_int (l_cons rfl q_int l_nil)))) fd__law_poly rfl (by decide +kernel) rfl rfl e3), o3, Ts ++ [T], ?_, ?_, ?_, by omega⟩
      · rw [List.map_append]; rfl
      · rw [List.length_append]; simp; omega
      · intro U hU
        rcases List.mem_append.mp hU with h | h
        · exact g3 U h
        · cases List.mem_singleton.mp h
          exact hT
    case hc =>
      rintro s2 acc ⟨_, Ts, rfl, _, _, _⟩ y hy
      obtain ⟨T, _, rfl⟩ := List.mem_map.mp hy
      exact clo_tr T
  obtain ⟨s', acc, e2, g1, Ts, rfl, g2, g3, g4⟩ := he
  simp only [List.length_nil, Nat.add_zero] at g2 g4
  exact ⟨s', Ts, e2, g1, by omega, by omega, g3⟩
theorem made_loop (hC : Cok C) {k : Nat} (hk : 5 ≤ k + 2) {p : Int} (hp : 2 ≤ p ∧ p ≤ 7) {Rs : List Tri} (hR : Rs.length ≤ 3) (hs : s.ok) (ht : s.t + 9000 ≤ 1000000000) :
    ∃ s', ∃ Bs : List Tri, forL keepC false (.lv (Rs.map tupT)) (asgE d__law_made.N d__law_made.scope (forT (nthS d__law_made.body 1))) (exs (ex (maG k) 39 d__law_made.scope) (loopB (nthS d__law_made.body 1))) (Rs.length + 1) 0 [some (.ref 3), some (.int p), none, none, none, none, none, some (.lv (Rs.map tupT)), some (.ref (4 + X.length)), none, none] (St ns C s (X ++ [.lst []]))
      = .next [some (.ref 3), some (.int p), none, none, none, none, none, some (.lv (Rs.map tupT)), some (.ref (4 + X.length)), none, none] (St ns C s' (X ++ [.lst (Bs.map tupT)])) ∧ s'.ok ∧ s'.t ≤ s.t + 9000 ∧ Bs.length = Rs.length ∧ ∀ T ∈ Bs, PolyT p 2 2 T := by
  refine for_ind (xs := Rs.map tupT)
    (P := fun ys σ S' => ∃ s1, ∃ Bs : List Tri, S' = St ns C s1 (X ++ [.lst (Bs.map tupT)]) ∧ s1.ok ∧ Bs.length + ys.length = Rs.length ∧ s1.t + 3000 * ys.length ≤ s.t + 3000 * Rs.length ∧ (∀ T ∈ Bs, PolyT p 2 2 T) ∧ σ = [some (.ref 3), some (.int p), none, none, none, none, none, some (.lv (Rs.map tupT)), some (.ref (4 + X.length)), none, none])
    (R := fun r => ∃ s', ∃ Bs : List Tri, r = .next [some (.ref 3), some (.int p), none, none, none, none, none, some (.lv (Rs.map tupT)), some (.ref (4 + X.length)), none, none] (St ns C s' (X ++ [.lst (Bs.map tupT)])) ∧ s'.ok ∧ s'.t ≤ s.t + 9000 ∧ Bs.length = Rs.length ∧ ∀ T ∈ Bs, PolyT p 2 2 T) (fun _ _ _ _ => walks_lv) ?_ ?_ _ 0 _ _ _ rfl (by simp) ⟨s, [], rfl, hs, by simp, by simp, (fun _ h => nomatch h), rfl⟩
  · rintro σ S' ⟨s1, Bs, rfl, o1, l1, t1, h1, rfl⟩
    simp at l1 t1
    exact ⟨s1, Bs, rfl, o1, by omega, l1, h1⟩
  · rintro d ys σ S' ⟨s1, Bs, rfl, o1, l1, t1, h1, rfl⟩
    simp only [List.length_cons] at l1 t1
    obtain ⟨v, s3, e3, o3, t3, T, rfl, hT⟩ := poly_d (ns := ns) (X := X ++ [.lst (Bs.map tupT)]) hC (K := k + 2) hk (p := p) (mx := 2) (my := 2) hp (by decide) (by decide) (by decide) s1 o1 (by omega)
    have m1 := St_at (ns := ns) (C := C) (X := X) (s := s1) (m := .lst (Bs.map tupT)) 0
    have m2 := St_at (ns := ns) (C := C) (X := X) (s := s3) (m := .lst (Bs.map tupT)) 0
    have hset : (St ns C s3 (X ++ [.lst (Bs.map tupT)])).set (4 + X.length) (.lst (Bs.map tupT ++ [tupT T])) = St ns C s3 (X ++ [.lst ((Bs ++ [T]).map tupT)]) := by
      show (_ :: _ :: _ :: _ :: (X ++ [M.lst (Bs.map tupT)])).set (4 + X.length) _ = _ :: _ :: _ :: _ :: (X ++ [M.lst ((Bs ++ [T]).map tupT)])
      rw [show 4 + X.length = X.length + 4 by omega]
      simp
    have hb : exs (ex (maG k) 39 d__law_made.scope) (loopB (nthS d__law_made.body 1)) [some (.ref 3), some (.int p), some d, none, none, none, none, some (.lv (Rs.map tupT)), some (.ref (4 + X.length)), none, none] (St ns C s1 (X ++ [.lst (Bs.map tupT)])) = .next [some (.ref 3), some (.int p), some d, none, none, none, none, some (.lv (Rs.map tupT)), some (.ref (4 + X.length)), none, none] (St ns C s3 (X ++ [.lst ((Bs ++ [T]).map tupT)])) :=
      (s_exM (q_meth (q_loc (i := 8) (by decide +kernel) rfl) (q_call (l_cons rfl (q_loc (i := 0) (by decide +kernel) rfl) (l_cons rfl (q_loc (i := 1) (by decide +kernel) rfl) (l_cons rfl q_int (l_cons rfl q_int l_nil)))) fd__law_poly rfl (by decide +kernel) rfl rfl e3) (by decide +kernel) rfl (lst_of m1) (Eq.trans (app_ref m2 (by simp; omega)) (congrArg (fun z => some (D.non, z)) hset))) s_nil)
    refine ⟨[(2, d)], rfl, .inl ⟨_, _, hb, by simp [St], s3, Bs ++ [T], rfl, o3, by simp; omega, by omega, fun U hU => ?_, rfl⟩⟩
    rcases List.mem_append.mp hU with h | h
    · exact h1 U h
    · cases List.mem_singleton.mp h
      exact hT
end Law
end
section
set_option maxRecDepth 100000
set_option maxHeartbeats 1000000
set_option linter.all false
namespace Law
open PySem PySem.Spec PyProof.Rows L2 Dp LamX
variable {ns C : List Int} {X : Sto} {s : Sta} {S : Sto} {p : Int}
theorem c_retB {M : Mo} {k : Nat} {f : Str} {t : DD} {ds : List D} {S S1 : Sto} {d : D} {m : Dp.M} (hf : M.find f = some t) (hl : ds.length = t.ps.length)
    (h : exs (ex (M.gam t.N t.scope.names (M.call (k + 2)) (M.lamF t (M.call (k + 1)) (M.call k)) noAct) M.fuel t.scope) t.body (startD t.N ds) S = .ret d (S1 ++ [m])) (hz : S1.length = S.length) (hk : keepC S S1 = true) (hv : cloB S.length d = true) : M.callS (k + 3) f ds S = .ok d S1 := by
  show scope keepC S (M.call (k + 3) f ds S) = _
  rw [q_def hf hl (d_ret h)]
  exact scope_back hz hk hv
theorem sumC_some {q : Int × Int} : ∀ {P : List (Tri × Tri)}, sumC P q ≠ 0 → ∃ ab ∈ P, cp q ab.2 ab.1 ≠ 0
  | [], h => absurd rfl h
  | ab :: P, h => by
    by_cases e : cp q ab.2 ab.1 = 0
    · have h2 : sumC P q ≠ 0 := fun z => h (by
        unfold sumC at z ⊢
        rw [List.map_cons, List.sum_cons, e, z]; rfl)
      obtain ⟨c, h3, h4⟩ := sumC_some h2
      exact ⟨c, List.mem_cons_of_mem _ h3, h4⟩
    · exact ⟨ab, List.mem_cons_self, e⟩
theorem sum_bd {M N : Int} (hp : 0 < p) {P : List (Tri × Tri)} (h : ∀ ab ∈ P, Bd M ab.1 ∧ Bd N ab.2) : Bd (M + N) (gath p (sumP [] P)) := by
  intro t ht
  obtain ⟨_, hc⟩ := gath_num hp (sumP_nd P (l := []) List.nodup_nil) ht
  rw [coef_sumP, coef_nil, Int.zero_add] at hc
  obtain ⟨ab, hab, h2⟩ := sumC_some (P := P) hc
  obtain ⟨a, ha, b, hb, e⟩ := cp_some h2
  have e1 : t.1 = a.1 + b.1 := (Prod.mk.inj e).1
  have e2 : t.2.1 = a.2.1 + b.2.1 := (Prod.mk.inj e).2
  have h3 := (h ab hab).1 a ha
  have h4 := (h ab hab).2 b hb
  omega
/-- the numbers that undo n -/
def invO (p n : Int) : D → Option D
  | .int i => if (i * n % p == 1) = true then some (.int i) else none
  | _ => none
def invL (p n : Int) : List D := ((List.range (p - 1).toNat).map fun (k : Nat) => D.int (1 + (k : Int))).filterMap (invO p n)
theorem inv_ok (hp : primeB (.int p) = true) {n : Int} (hn : 1 ≤ n ∧ n < p) : ∃ b : Int, (1 ≤ b ∧ b < p) ∧ b * n % p = 1 ∧ (invL p n)[0]? = some (.int b) := by
  have h : p = 2 ∨ p = 3 ∨ p = 5 ∨ p = 7 := by
    simp [primeB] at hp
    exact hp
  rcases h with rfl | rfl | rfl | rfl
  · have : n = 1 := by omega
    subst this
    exact ⟨1, by decide, by decide, rfl⟩
  · have : n = 1 ∨ n = 2 := by omega
    rcases this with rfl | rfl
    · exact ⟨1, by decide, by decide, rfl⟩
    · exact ⟨2, by decide, by decide, rfl⟩
  · have : n = 1 ∨ n = 2 ∨ n = 3 ∨ n = 4 := by omega
    rcases this with rfl | rfl | rfl | rfl
    · exact ⟨1, by decide, by decide, rfl⟩
    · exact ⟨3, by decide, by decide, rfl⟩
    · exact ⟨2, by decide, by decide, rfl⟩
    · exact ⟨4, by decide, by decide, rfl⟩
  · have : n = 1 ∨ n = 2 ∨ n = 3 ∨ n = 4 ∨ n = 5 ∨ n = 6 := by omega
    rcases this with rfl | rfl | rfl | rfl | rfl | rfl
    · exact ⟨1, by decide, by decide, rfl⟩
    · exact ⟨4, by decide, by decide, rfl⟩
    · exact ⟨5, by decide, by decide, rfl⟩
    · exact ⟨2, by decide, by decide, rfl⟩
    · exact ⟨3, by decide, by decide, rfl⟩
    · exact ⟨6, by decide, by decide, rfl⟩
theorem lv_to {ds : List D} {m : Nat} : slD false (.lv ds) none (some (m : Int)) S = some (.lv (ds.take m), S) := by
  show some (D.lv (Dp.cutD ds none (some (m : Int))), S) = _
  rw [cut_to]
theorem lv_from {ds : List D} {m : Nat} : slD false (.lv ds) (some (m : Int)) none S = some (.lv (ds.drop m), S) := by
  show some (D.lv (Dp.cutD ds (some (m : Int)) none), S) = _
  rw [cut_from]
theorem ref_to {ds : List D} {m n : Nat} (h : S[n]? = some (.lst ds)) : slD false (.ref n) none (some (m : Int)) S = some (.lv (ds.take m), S) := by
  show (lsD S (.ref n)).bind (fun ds => newL false (Dp.cutD ds none (some (m : Int))) S) = _
  rw [show lsD S (.ref n) = some ds from lst_of h]
  show newL false (Dp.cutD ds none (some (m : Int))) S = _
  rw [cut_to]; rfl
theorem ref_from {ds : List D} {m n : Nat} (h : S[n]? = some (.lst ds)) : slD false (.ref n) (some (m : Int)) none S = some (.lv (ds.drop m), S) := by
  show (lsD S (.ref n)).bind (fun ds => newL false (Dp.cutD ds (some (m : Int)) none) S) = _
  rw [show lsD S (.ref n) = some ds from lst_of h]
  show newL false (Dp.cutD ds (some (m : Int)) none) S = _
  rw [cut_from]; rfl
theorem num_pol {n : Int} (hn : 1 ≤ n ∧ n < p) : Pol p [(0, 0, n)] ∧ Bd 0 [(0, 0, n)] := ⟨⟨List.pairwise_singleton _ _, fun t ht => by cases List.mem_singleton.mp ht; exact hn⟩, fun t ht => by cases List.mem_singleton.mp ht; exact ⟨⟨Int.le_refl 0, Int.le_refl 0⟩, Int.le_refl 0, Int.le_refl 0⟩⟩
end Law
end
section
set_option maxRecDepth 100000
set_option maxHeartbeats 1000000
set_option linter.all false
namespace Law
open PySem PySem.Spec PyProof.Rows L2 Dp LamX
variable {ns C : List Int} {X : Sto} {s : Sta} {S : Sto} {p : Int}
theorem bd_few {T : Tri} (h : Pol p T) (hb : Bd 5 T) : T.length ≤ 36 := by
  have ha := pol_asc h
  have h := asc_len (l := T.map fun t => t.1 * 6 + t.2.1) (lo := 0) (hi := 36) ?_ fun x hx => ?_
  · simpa using h
  · rw [List.pairwise_map] at ha ⊢
    refine List.Pairwise.imp_of_mem (fun {a b} ha1 hb1 hab => ?_) ha
    have h1 := hb a ha1
    have h2 := hb b hb1
    unfold ltQ2 at hab
    dsimp only at hab
    omega
  · obtain ⟨t, ht, rfl⟩ := List.mem_map.mp hx
    have := hb t ht
    omega
theorem made_d (hC : Cok C) {K : Nat} (hK : 14 ≤ K) (hp : primeB (.int p) = true) :
    Draws ns C X 19000 (M0.callS K "_law_made" [.ref 3, .int p]) (fun v => ∃ Rs Bs : List Tri, v = .tup [rowT Rs, rowT Bs] ∧ Rs.length = Bs.length ∧ (2 ≤ Rs.length ∧ Rs.length ≤ 4) ∧ (∀ T ∈ Rs, Pol p T ∧ Bd 5 T) ∧ (∀ T ∈ Bs, Pol p T ∧ Bd 5 T) ∧ gath p (sumP [] (Rs.zip Bs)) = [(0, 0, 1)]) := fun s hs ht => by
  obtain ⟨k, rfl⟩ : ∃ k, K = k + 3 := ⟨K - 3, by omega⟩
  have hp2 := prime_pos hp
  obtain ⟨s1, Rs, e1, o1, t1, nR, hR⟩ := made_row (ns := ns) (X := X) hC (k := k) (by omega) hp2 (x2 := none) (x3 := none) (x4 := none) (x5 := none) (x6 := none) (x7 := none) (x8 := none) (x9 := none) (y0 := none) hs (by omega)
  obtain ⟨s2, Bs, e2, o2, t2, nB, hB⟩ := made_loop (ns := ns) (X := X) hC (k := k) (by omega) hp2 (Rs := Rs) nR.2 o1 (by omega)
  have rP : ∀ T ∈ Rs, Pol p T ∧ Bd 3 T := fun T hT => ⟨(hR T hT).pol, (hR T hT).bd' (by decide) (by decide)⟩
  have bP : ∀ T ∈ Bs, Pol p T ∧ Bd 2 T := fun T hT => ⟨(hB T hT).pol, (hB T hT).bd' (by decide) (by decide)⟩
  have m2 := St_at (ns := ns) (C := C) (X := X) (s := s2) (m := .lst (Bs.map tupT)) 0
  have c1 := _law_sum_of_okR (K := k + 2) (S := St ns C s2 (X ++ [.lst (Bs.map tupT)])) (by omega) hp2 (As := Rs) (Bs := Bs) m2 (fun ab h => by
    obtain ⟨h1, h2⟩ := List.of_mem_zip (a := ab.1) (b := ab.2) h
    have g1 := rP _ h1
    have g2 := bP _ h2
    have l1 := bd_few g1.1 (g1.2.mono (by decide))
    have l2 := bd_few g2.1 (g2.2.mono (by decide))
    exact ⟨⟨g1.1, g1.2.mono (by decide), by omega⟩, g2.1, g2.2.mono (by decide), by omega⟩)
  have one := num_pol (p := p) (n := 1) ⟨by decide, by omega⟩
  have bG : Bd 5 (gath p (sumP [] (Rs.zip Bs))) := sum_bd (M := 3) (N := 2) (by omega) fun ab h => by
    obtain ⟨h1, h2⟩ := List.of_mem_zip (a := ab.1) (b := ab.2) h
    exact ⟨(rP _ h1).2, (bP _ h2).2⟩
  have pG : Pol p (gath p (sumP [] (Rs.zip Bs))) := (can_sumP (p := p) (Rs.zip Bs)).pol (by omega)
  have lG2 := bd_few pG bG
  have c2 := _law_less_ok (K := k + 2) (S := St ns C s2 (X ++ [.lst (Bs.map tupT)])) (by omega) hp2 one.1 pG (Nat.le_of_ble_eq_true rfl) (by omega)
  have hmade := fun (sp : Nat) (n b : Int) (h : b * n % p = 1) => made_one (p := p) (by omega) nB.symm sp (n := n) (b := b) h
  have bL : Bd 5 (gath p (addS (-1) (addS 1 [] [(0, 0, 1)]) (gath p (sumP [] (Rs.zip Bs))))) := add_bd (by omega) (one.2.mono (by decide)) bG
  have pL : Pol p (gath p (addS (-1) (addS 1 [] [(0, 0, 1)]) (gath p (sumP [] (Rs.zip Bs))))) := (can_less (can_pol one.1 (by omega)) (can_pol pG (by omega)) (by omega)).pol (by omega)
  revert c1 c2 hmade bL pL
  generalize gath p (addS (-1) (addS 1 [] [(0, 0, 1)]) (gath p (sumP [] (Rs.zip Bs)))) = L
  intro c1 c2 hmade bL pL
  have lL := bd_few pL bL
  obtain ⟨v, s3, e3, o3, t3, r, rfl, r0, r1⟩ := draw_d (ns := ns) (X := X ++ [.lst (Bs.map tupT)]) hC (K := k + 2) (by omega) (n := p - 1) (by omega) s2 o2 (by omega)
  obtain ⟨b, hb, hbn, hget⟩ := inv_ok hp (n := 1 + r) (by omega)
  obtain ⟨v, s4, e4, o4, t4, q, rfl, q0, q1⟩ := draw_d (ns := ns) (X := X ++ [.lst (Bs.map tupT)]) hC (K := k + 2) (by omega) (n := (Rs.length : Int) + 1) (by omega) s3 o3 (by omega)
  obtain ⟨sp, rfl⟩ : ∃ m : Nat, q = (m : Int) := ⟨q.toNat, by omega⟩
  have m4 := St_at (ns := ns) (C := C) (X := X) (s := s4) (m := .lst (Bs.map tupT)) 0
  have pn := num_pol (p := p) (n := 1 + r) (by omega)
  have pb := num_pol (p := p) (n := b) hb
  have c5 := _law_times_ok (K := k + 2) (S := St ns C s4 (X ++ [.lst (Bs.map tupT)])) (by omega) hp2 pL pn.1 (by omega) (Nat.le_of_ble_eq_true rfl) (by show L.length * 1 ≤ _; omega)
  have bM : Bd 5 (gath p (addP [] L [(0, 0, 1 + r)])) := mul_bd (M := 5) (N := 0) (by omega) bL pn.2
  have pM : Pol p (gath p (addP [] L [(0, 0, 1 + r)])) := (can_times (p := p) (A := L) (B := [(0, 0, 1 + r)])).pol (by omega)
  have h1 := hmade sp (1 + r) b hbn
  revert c5 bM pM h1
  generalize gath p (addP [] L [(0, 0, 1 + r)]) = Mt
  intro c5 bM pM h1
  refine ⟨.tup [rowT (Rs.take sp ++ Mt :: Rs.drop sp), rowT (Bs.take sp ++ [(0, 0, b)] :: Bs.drop sp)], s4, ?_, o4, by omega, _, _, rfl, ?_, ?_, ?_, ?_, h1⟩
  · have hpl : (St ns C s1 X).length = 4 + X.length := by simp [St]; omega
    have hlen : ∀ S, fLen [.lv (Rs.map tupT)] S = some (.int (Rs.length : Int), S) := fun S => by
      show some (D.int (((Rs.map tupT).length : Nat) : Int), S) = _
      rw [List.length_map]
    have hr : ∀ (Ts : List Tri) (M : Tri), ((Ts.map tupT).take sp ++ [tupT M]) ++ (Ts.map tupT).drop sp = (Ts.take sp ++ M :: Ts.drop sp).map tupT := fun Ts M => by
      simp [List.map_take, List.map_drop]
    have n1 := _law_number_ok (K := k + 2) (S := St ns C s4 (X ++ [.lst (Bs.map tupT)])) (by omega) (n := 1 + r) (by omega)
    have n2 := _law_number_ok (K := k + 2) (S := St ns C s4 (X ++ [.lst (Bs.map tupT)])) (by omega) (n := b) (by omega)
    refine c_retB (m := .lst (Bs.map tupT)) (S1 := St ns C s4 X) fd__law_made rfl (s_par (l := [(7, .lv (Rs.map tupT)), (8, .ref (4 + X.length))]) (q_tup rfl (l_cons rfl e1 (l_cons rfl (Eq.trans (q_lsO rfl l_nil (Nat.le_of_ble_eq_true rfl)) (by rw [hpl])) l_nil)) (Nat.le_of_ble_eq_true rfl)) rfl rfl (by simp)
      (s_for (x_val (q_loc (i := 7) (by decide +kernel) rfl) rfl rfl) rfl rfl (by
        show forL keepC false _ _ _ ((Rs.map tupT).length + 1) 0 _ _ = _
        rw [List.length_map]
        exact e2) (j_next rfl 
      (s_set (q_call (l_cons rfl (q_loc (i := 1) (by decide +kernel) rfl) (l_cons rfl (q_tup rfl (l_cons rfl (q_tup rfl (l_cons rfl q_int (l_cons rfl q_int (l_cons rfl q_int l_nil))) (Nat.le_of_ble_eq_true rfl)) l_nil) (Nat.le_of_ble_eq_true rfl)) (l_cons rfl (q_call (l_cons rfl (q_loc (i := 1) (by decide +kernel) rfl) (l_cons rfl (q_loc (i := 7) (by decide +kernel) rfl) (l_cons rfl (q_loc (i := 8) (by decide +kernel) rfl) l_nil))) fd__law_sum_of rfl (by decide +kernel) rfl rfl c1) l_nil))) fd__law_less rfl (by decide +kernel) rfl rfl c2) (by decide +kernel) (i := 3) (by decide +kernel) 
      (s_set (q_bin q_int (q_call (l_cons rfl (q_loc (i := 0) (by decide +kernel) rfl) (l_cons rfl (q_bin (q_loc (i := 1) (by decide +kernel) rfl) q_int rfl) l_nil)) fd__law_draw rfl (by decide +kernel) rfl rfl e3) rfl) (by decide +kernel) (i := 4) (by decide +kernel) 
      (s_set (q_ix rfl (q_lc (o := invO p (1 + r)) (xs := (List.range (p - 1).toNat).map fun (k : Nat) => .int (1 + (k : Int))) (x_rng2 q_int (q_loc (i := 1) (by decide +kernel) rfl) (by decide +kernel) rfl (by omega) (by omega)) (by decide +kernel) rfl (fun _ => walks_rng) (by show (p - 1).toNat = _; simp) (by simp; omega) (fun d hd S1 => by
        obtain ⟨i, hi, rfl⟩ := List.mem_map.mp hd
        have hi := List.mem_range.mp hi
        exact (turn_if (l := [(10, .int (1 + (i : Int)))]) rfl rfl (t_cmp rfl (q_bin (q_blt (l_cons rfl (q_bin (q_loc (i := 10) (by decide +kernel) rfl) (q_loc (i := 4) (by decide +kernel) rfl) (l_mul (.inl (by omega)))) l_nil) (by decide +kernel) (by decide +kernel) rfl rfl) (q_loc (i := 1) (by decide +kernel) rfl) (l_mod (by omega))) q_int Dp.eq_int) (fun _ => (q_loc (i := 10) (by decide +kernel) rfl)))) (fun d hd y hy => by
        obtain ⟨i, _, rfl⟩ := List.mem_map.mp hd
        have hy : (if ((1 + (i : Int)) * (1 + r) % p == 1) = true then some (D.int (1 + (i : Int))) else none) = some y := hy
        split at hy
        · cases hy; rfl
        · cases hy)) q_int (ix_lv (by decide) (by show (invL p (1 + r))[0]? = _; exact hget))) (by decide +kernel) (i := 5) (by decide +kernel) 
      (s_set (q_call (l_cons rfl (q_loc (i := 0) (by decide +kernel) rfl) (l_cons rfl (q_bin (q_blt (l_cons rfl (q_loc (i := 7) (by decide +kernel) rfl) l_nil) (by decide +kernel) (by decide +kernel) rfl (hlen _)) q_int rfl) l_nil)) fd__law_draw rfl (by decide +kernel) rfl rfl e4) (by decide +kernel) (i := 6) (by decide +kernel) 
      (s_set (q_bin (q_bin (q_sl (q_loc (i := 7) (by decide +kernel) rfl) p_none (p_some (q_loc (i := 6) (by decide +kernel) rfl)) lv_to) (q_lst rfl (l_cons rfl (q_call (l_cons rfl (q_loc (i := 1) (by decide +kernel) rfl) (l_cons rfl (q_loc (i := 3) (by decide +kernel) rfl) (l_cons rfl (q_call (l_cons rfl (q_loc (i := 4) (by decide +kernel) rfl) l_nil) fd__law_number rfl (by decide +kernel) rfl rfl n1) l_nil))) fd__law_times rfl (by decide +kernel) rfl rfl c5) l_nil) (Nat.le_of_ble_eq_true rfl)) (cat_lv (by decide +kernel) (by simp; omega))) (q_sl (q_loc (i := 7) (by decide +kernel) rfl) (p_some (q_loc (i := 6) (by decide +kernel) rfl)) p_none lv_from) (cat_lv (by decide +kernel) (by simp; omega))) (by decide +kernel) (i := 7) (by decide +kernel) 
      (Eq.trans (s_ret (q_tup rfl (l_cons rfl (q_blt (l_cons rfl (q_loc (i := 7) (by decide +kernel) rfl) l_nil) (by decide +kernel) (by decide +kernel) rfl rfl) (l_cons rfl (q_blt (l_cons rfl (q_bin (q_bin (q_sl (q_loc (i := 8) (by decide +kernel) rfl) p_none (p_some (q_loc (i := 6) (by decide +kernel) rfl)) (ref_to m4)) (q_lst rfl (l_cons rfl (q_call (l_cons rfl (q_loc (i := 5) (by decide +kernel) rfl) l_nil) fd__law_number rfl (by decide +kernel) rfl rfl n2) l_nil) (Nat.le_of_ble_eq_true rfl)) (cat_lv (by decide +kernel) (by simp; omega))) (q_sl (q_loc (i := 8) (by decide +kernel) rfl) (p_some (q_loc (i := 6) (by decide +kernel) rfl)) p_none (ref_from m4)) (cat_lv (by decide +kernel) (by simp; omega))) l_nil) (by decide +kernel) (by decide +kernel) rfl rfl) l_nil)) (Nat.le_of_ble_eq_true rfl))) (by
        show SR.ret (D.tup [.tup (((Rs.map tupT).take sp ++ [tupT Mt]) ++ (Rs.map tupT).drop sp), .tup (((Bs.map tupT).take sp ++ [tupT [(0, 0, b)]]) ++ (Bs.map tupT).drop sp)]) _ = _
        rw [hr, hr]; rfl)))))))))) (by simp [St]) keep_St (pure_clo (by
        show (pureB (rowT (Rs.take sp ++ Mt :: Rs.drop sp)) && (pureB (rowT (Bs.take sp ++ [(0, 0, b)] :: Bs.drop sp)) && true)) = true
        rw [pure_row, pure_row]; rfl))
  · simp; omega
  · simp; omega
  · intro T hT
    rcases List.mem_append.mp hT with h | h
    · exact ⟨(rP T (List.mem_of_mem_take h)).1, (rP T (List.mem_of_mem_take h)).2.mono (by decide)⟩
    · rcases List.mem_cons.mp h with rfl | h
      · exact ⟨pM, bM⟩
      · exact ⟨(rP T (List.mem_of_mem_drop h)).1, (rP T (List.mem_of_mem_drop h)).2.mono (by decide)⟩
  · intro T hT
    rcases List.mem_append.mp hT with h | h
    · exact ⟨(bP T (List.mem_of_mem_take h)).1, (bP T (List.mem_of_mem_take h)).2.mono (by decide)⟩
    · rcases List.mem_cons.mp h with rfl | h
      · exact ⟨pb.1, pb.2.mono (by decide)⟩
      · exact ⟨(bP T (List.mem_of_mem_drop h)).1, (bP T (List.mem_of_mem_drop h)).2.mono (by decide)⟩
end Law
end
section
set_option maxRecDepth 100000
set_option maxHeartbeats 1000000
set_option linter.all false
namespace Law
open PySem PySem.Spec PyProof.Rows L2 Dp LamX
variable {ns C : List Int} {X : Sto} {s : Sta}
theorem fd__law_row : M0.find "_law_row" = some d__law_row := by kernel_rfl
noncomputable abbrev roG (k : Nat) : Gam := M0.gam d__law_row.N d__law_row.scope.names (M0.call (k + 2)) (M0.lamF d__law_row (M0.call (k + 1)) (M0.call k)) noAct
def argE : Expr → Expr
  | .Call _ (e :: _) _ _ => e
  | e => e
theorem row_wide (hC : Cok C) {k : Nat} (hk : 5 ≤ k + 2) {p : Int} (hs : s.ok) (ht : s.t + 2 ≤ 1000000000) :
    ∃ s', ∃ a b : Int, ev (roG k) 39 d__law_row.scope (valueE (nthS d__law_row.body 0)) [some (.ref 3), some (.int p), some (.int 3), none, none] (St ns C s X) = .ok (.lv [.int a, .int b]) (St ns C s' X) ∧ s'.ok ∧ s'.t ≤ s.t + 2 ∧ (0 ≤ a ∧ a ≤ 3) ∧ (0 ≤ b ∧ b ≤ 3) := by
  have he : ∃ s' acc, ev (roG k) 39 d__law_row.scope (valueE (nthS d__law_row.body 0)) [some (.ref 3), some (.int p), some (.int 3), none, none] (St ns C s X) = .ok (.lv acc) (St ns C s' X) ∧ s'.ok ∧ ∃ (Ts : List Int), acc = Ts.map D.int ∧ Ts.length + ([] : List D).length = 2 ∧ (∀ T ∈ Ts, 0 ≤ T ∧ T ≤ 3) ∧ s'.t + 1 * ([] : List D).length ≤ s.t + 1 * 2 := by
    refine q_lcS (F := fun s => St ns C s X) (n0 := (St ns C s X).length) (src := .rng 0 2) (xs := (List.range 2).map fun (k : Nat) => .int (0 + (k : Int))) (s := s)
      (fun ys s2 acc => s2.ok ∧ ∃ (Ts : List Int), acc = Ts.map D.int ∧ Ts.length + ys.length = 2 ∧ (∀ T ∈ Ts, 0 ≤ T ∧ T ≤ 3) ∧ s2.t + 1 * ys.length ≤ s.t + 1 * 2)
      (fun _ => rfl) (x_rng1 (j := 2) q_int (by decide +kernel) rfl (by omega)) (by decide +kernel) (by decide +kernel) (fun _ => walks_rng) (by show 2 = _; simp) (by simp) (fun _ _ => keep_St)
      ?hf ⟨hs, [], rfl, by simp, (fun _ h => nomatch h), by simp⟩ ?hc
    case hf =>
      rintro d ys s2 acc ⟨g1, Ts, rfl, g2, g3, g4⟩
      simp only [List.length_cons] at g2 g4
      obtain ⟨v, s3, e3, o3, t3, r, rfl, r0, r1⟩ := draw_d (ns := ns) (X := X ++ [.lst (Ts.map D.int)]) hC (K := k + 2) (by omega) (n := 3 + 1) (by decide) s2 g1 (by omega)
      refine ⟨some (.int r), s3, turn_oneS rfl rfl (q_call (l_cons rfl (q_loc (i := 0) (by decide +kernel) rfl) (l_cons rfl (q_bin (q_loc (i := 2) (by decide +kernel) rfl) q_int rfl) l_nil)) fd__law_draw rfl (by decide +kernel) rfl rfl e3), o3, Ts ++ [r], ?_, ?_, ?_, by omega⟩
      · rw [List.map_append]; rfl
      · rw [List.length_append]; simp; omega
      · intro U hU
        rcases List.mem_append.mp hU with h | h
        · exact g3 U h
        · cases List.mem_singleton.mp h
          omega
    case hc =>
      rintro s2 acc ⟨_, Ts, rfl, _, _, _⟩ y hy
      obtain ⟨T, _, rfl⟩ := List.mem_map.mp hy
      rfl
  obtain ⟨s', acc, e2, g1, Ts, rfl, g2, g3, g4⟩ := he
  simp only [List.length_nil, Nat.add_zero] at g2 g4
  match Ts, g2 with
  | [a, b], _ => exact ⟨s', a, b, e2, g1, by omega, g3 a (by simp), g3 b (by simp)⟩
theorem row_items (hC : Cok C) {k : Nat} (hk : 5 ≤ k + 2) {p a b : Int} (hp : 2 ≤ p ∧ p ≤ 7) (ha : 0 ≤ a ∧ a ≤ 3) (hb : 0 ≤ b ∧ b ≤ 3) (hs : s.ok) (ht : s.t + 12001 ≤ 1000000000) :
    ∃ s', ∃ Rs : List Tri, ev (roG k) 38 d__law_row.scope (argE (valueE (nthS d__law_row.body 1))) [some (.ref 3), some (.int p), some (.int 3), some (.lv [.int a, .int b]), none] (St ns C s X) = .ok (.lv (Rs.map tupT)) (St ns C s' X) ∧ s'.ok ∧ s'.t ≤ s.t + 12001 ∧ (2 ≤ Rs.length ∧ Rs.length ≤ 4) ∧ ∀ T ∈ Rs, PolyT p a b T := by
  obtain ⟨v, s1, e1, o1, t1, hv⟩ := pick_d (ns := ns) (X := X) hC (K := k + 2) (by omega) (ds := [.int 2, .int 2, .int 3, .int 3, .int 4]) ⟨by decide, by decide⟩ s hs (by omega)
  obtain ⟨n, rfl, hn⟩ : ∃ n : Nat, v = .int n ∧ 2 ≤ n ∧ n ≤ 4 := by
    simp only [List.mem_cons, List.not_mem_nil, or_false] at hv
    rcases hv with rfl | rfl | rfl | rfl | rfl
    · exact ⟨2, rfl, by decide⟩
    · exact ⟨2, rfl, by decide⟩
    · exact ⟨3, rfl, by decide⟩
    · exact ⟨3, rfl, by decide⟩
    · exact ⟨4, rfl, by decide⟩
  have hab : (a + 1).toNat * (b + 1).toNat ≤ 1000 := Nat.le_trans (Nat.mul_le_mul (show (a + 1).toNat ≤ 4 by omega) (show (b + 1).toNat ≤ 4 by omega)) (by decide)
  have he : ∃ s' acc, ev (roG k) 38 d__law_row.scope (argE (valueE (nthS d__law_row.body 1))) [some (.ref 3), some (.int p), some (.int 3), some (.lv [.int a, .int b]), none] (St ns C s X) = .ok (.lv acc) (St ns C s' X) ∧ s'.ok ∧ ∃ (Ts : List Tri), acc = Ts.map tupT ∧ Ts.length + ([] : List D).length = n ∧ (∀ T ∈ Ts, PolyT p a b T) ∧ s'.t + 3000 * ([] : List D).length ≤ s1.t + 3000 * n := by
    refine q_lcS (F := fun s => St ns C s X) (n0 := (St ns C s X).length) (src := .rng 0 n) (xs := (List.range n).map fun (k : Nat) => .int (0 + (k : Int))) (s := s1)
      (fun ys s2 acc => s2.ok ∧ ∃ (Ts : List Tri), acc = Ts.map tupT ∧ Ts.length + ys.length = n ∧ (∀ T ∈ Ts, PolyT p a b T) ∧ s2.t + 3000 * ys.length ≤ s1.t + 3000 * n)
      (fun _ => rfl) (x_rng1 (j := (n : Int)) (q_call (l_cons rfl (q_loc (i := 0) (by decide +kernel) rfl) (l_cons rfl (q_lst rfl (l_cons rfl q_int (l_cons rfl q_int (l_cons rfl q_int (l_cons rfl q_int (l_cons rfl q_int l_nil))))) (Nat.le_of_ble_eq_true rfl)) l_nil)) fd__law_pick rfl (by decide +kernel) rfl rfl e1) (by decide +kernel) rfl (by omega)) (by decide +kernel) (by decide +kernel) (fun _ => walks_rng) (by show n = _; simp) (by simp; omega) (fun _ _ => keep_St)
      ?hf ⟨o1, [], rfl, by simp, (fun _ h => nomatch h), by simp⟩ ?hc
    case hf =>
      rintro d ys s2 acc ⟨g1, Ts, rfl, g2, g3, g4⟩
      simp only [List.length_cons] at g2 g4
      obtain ⟨v, s3, e3, o3, t3, T, rfl, hT⟩ := poly_d (ns := ns) (X := X ++ [.lst (Ts.map tupT)]) hC (K := k + 2) hk (p := p) (mx := a) (my := b) hp (by omega) (by omega) hab s2 g1 (by omega)
      refine ⟨some (tupT T), s3, turn_oneS rfl rfl (q_call (l_cons rfl (q_loc (i := 0) (by decide +kernel) rfl) (l_cons rfl (q_loc (i := 1) (by decide +kernel) rfl) (l_cons rfl (q_ix rfl (q_loc (i := 3) (by decide +kernel) rfl) q_int (ix_lv (by decide) rfl)) (l_cons rfl (q_ix rfl (q_loc (i := 3) (by decide +kernel) rfl) q_int (ix_lv (by decide) rfl)) l_nil)))) fd__law_poly rfl (by decide +kernel) rfl rfl e3), o3, Ts ++ [T], ?_, ?_, ?_, by omega⟩
      · rw [List.map_append]; rfl
      · rw [List.length_append]; simp; omega
      · intro U hU
        rcases List.mem_append.mp hU with h | h
        · exact g3 U h
        · cases List.mem_singleton.mp h
          exact hT
    case hc =>
      rintro s2 acc ⟨_, Ts, rfl, _, _, _⟩ y hy
      obtain ⟨T, _, rfl⟩ := List.mem_map.mp hy
      exact clo_tr T
  obtain ⟨s', acc, e2, g1, Ts, rfl, g2, g3, g4⟩ := he
  simp only [List.length_nil, Nat.add_zero] at g2 g4
  exact ⟨s', Ts, e2, g1, by omega, by omega, g3⟩
theorem row_d (hC : Cok C) {K : Nat} (hK : 8 ≤ K) {p : Int} (hp : 2 ≤ p ∧ p ≤ 7) :
    Draws ns C X 12010 (M0.callS K "_law_row" [.ref 3, .int p, .int 3]) (fun v => ∃ Rs : List Tri, v = rowT Rs ∧ (2 ≤ Rs.length ∧ Rs.length ≤ 4) ∧ ∀ T ∈ Rs, Pol p T ∧ Bd 3 T) := fun s hs ht => by
  obtain ⟨k, rfl⟩ : ∃ k, K = k + 3 := ⟨K - 3, by omega⟩
  obtain ⟨s1, a, b, e1, o1, t1, ha, hb⟩ := row_wide (ns := ns) (X := X) hC (k := k) (by omega) (p := p) hs (by omega)
  obtain ⟨s2, Rs, e2, o2, t2, nR, hR⟩ := row_items (ns := ns) (X := X) hC (k := k) (by omega) hp ha hb o1 (by omega)
  refine ⟨rowT Rs, s2, c_retW fd__law_row rfl (s_set e1 (by decide +kernel) (i := 3) (by decide +kernel)
    (s_ret (q_blt (l_cons rfl e2 l_nil) (by decide +kernel) (by decide +kernel) rfl rfl))) rfl, o2, by omega, Rs, rfl, nR, fun T hT => ⟨(hR T hT).pol, (hR T hT).bd' (by omega) (by omega)⟩⟩
end Law
end
section
set_option maxRecDepth 100000
set_option maxHeartbeats 1000000
set_option linter.all false
namespace Law
open PySem PySem.Spec PyProof.Rows L2 Dp LamX
variable {ns C : List Int} {X : Sto} {s : Sta} {p : Int}
theorem fd__law_near : M0.find "_law_near" = some d__law_near := by kernel_rfl
/-- an element of an item -/
def Elt (p : Int) (d : D) : Prop := pureB d = true ∧ (∀ xs, d = .tup xs → xs.length ≤ 100000) ∧ ∀ T : Tri, d = tupT T → Pol p T → Bd 999 T → T.length ≤ 300 ∧ Bd 20 T
theorem fine_tup {ds : List D} (h : ∀ d ∈ ds, Elt p d) (hl : ds.length ≤ 1000) : Fine p (.tup ds) := by
  refine ⟨⟨⟨pureBs_all.mpr fun d hd => (h d hd).1, fun xs e => by cases e; omega⟩, fun xs e d hd => by cases e; exact (h d hd).2.1⟩, fun Ts e hP T hT => ?_⟩
  have e2 : ds = Ts.map tupT := by cases e; rfl
  subst e2
  exact (h (tupT T) (List.mem_map.mpr ⟨T, hT, rfl⟩)).2.2 T rfl (hP T hT).1 (hP T hT).2
theorem fine_non {d : D} (h : pureB d = true) (hn : ∀ xs, d ≠ .tup xs) : Fine p d :=
  ⟨⟨⟨h, fun xs e => absurd e (hn xs)⟩, fun xs e => absurd e (hn xs)⟩, fun Ts e => absurd e (hn _)⟩
theorem trD_inj : ∀ {t u : Int × Int × Int}, trD t = trD u → t = u
  | (i, j, c), (a, b, d), h => by cases h; rfl
theorem trs_inj : ∀ {T U : Tri}, T.map trD = U.map trD → T = U
  | [], [], _ => rfl
  | t :: T, u :: U, h => by
    rw [List.map_cons, List.map_cons] at h
    injection h with h1 h2
    rw [trD_inj h1, trs_inj h2]
  | [], u :: U, h => by cases h
  | t :: T, [], h => by cases h
theorem tupT_inj {T U : Tri} (h : tupT T = tupT U) : T = U := by
  unfold tupT at h
  injection h with h
  exact trs_inj h
theorem elt_tri {T : Tri} (hl : T.length ≤ 300) (hb : Bd 20 T) : Elt p (tupT T) :=
  ⟨pure_tr T, fun xs e => by
    have : xs = T.map trD := by cases e; rfl
    subst this
    rw [List.length_map]; omega, fun U e _ _ => by
    cases tupT_inj e
    exact ⟨hl, hb⟩⟩
theorem elt_non {d : D} (h : pureB d = true) (hn : ∀ xs, d ≠ .tup xs) : Elt p d :=
  ⟨h, fun xs e => absurd e (hn xs), fun T e => absurd e (hn _)⟩
theorem elt_no {d : D} (h : Item d) (hn : polyB p d = false) : Elt p d :=
  ⟨h.1, fun xs e => by have := h.2 xs e; omega, fun T e hP hB => by
    subst e
    rw [show polyB p (tupT T) = true from polyB_of hP hB] at hn
    cases hn⟩
theorem elt_tr (t : Int × Int × Int) : Elt p (trD t) :=
  ⟨rfl, fun xs e => by
    obtain ⟨i, j, c⟩ := t
    have : xs = [.int i, .int j, .int c] := by cases e; rfl
    subst this
    show 3 ≤ 100000
    omega, fun T e => by
    obtain ⟨i, j, c⟩ := t
    match T, e with
    | [], e => cases e
    | (a, b, d) :: T, e => cases e⟩
theorem elt_row {B : Tri} {Bs : List Tri} (hl : (B :: Bs).length ≤ 1000) : Elt p (rowT (B :: Bs)) :=
  ⟨pure_row _, fun xs e => by
    have : xs = (B :: Bs).map tupT := by cases e; rfl
    subst this
    rw [List.length_map]; omega, fun T e => by
    have e : (B :: Bs).map tupT = T.map trD := by
      unfold rowT tupT at e
      injection e
    match T, e with
    | [], e => cases e
    | (a, b, d) :: T, e =>
      rw [List.map_cons, List.map_cons] at e
      injection e with e _
      match B, e with
      | [], e => cases e
      | (x, y, z) :: B, e => cases e⟩
theorem fine_tri (T : Tri) (hl : T.length ≤ 1000) : Fine p (tupT T) := fine_tup (fun d hd => by
  obtain ⟨t, _, rfl⟩ := List.mem_map.mp hd
  exact elt_tr t) (by rw [List.length_map]; exact hl)
end Law
end
section
set_option maxRecDepth 100000
set_option maxHeartbeats 1000000
set_option linter.all false
namespace Law
open PySem PySem.Spec PyProof.Rows L2 Dp LamX
variable {ns C : List Int} {X : Sto} {s : Sta} {p : Int}
def neO (B : Tri) (Ds : List D) : List D := [.lv Ds, .tup (cutD Ds none (some (-1))), .tup (Ds ++ [.tup []]), .tup Ds.reverse, .non, .tup [.tup Ds], .dv [] [], tupT B]
theorem near_d (hC : Cok C) {K : Nat} (hK : 12 ≤ K) (hp : 2 ≤ p ∧ p ≤ 7) {Bs : List Tri} (hn : 2 ≤ Bs.length ∧ Bs.length ≤ 4) (hB : ∀ T ∈ Bs, Pol p T ∧ Bd 5 T) :
    Draws ns C X 7000 (M0.callS K "_law_near" [.ref 3, .int p, rowT Bs]) (fun v => Fine p v) := fun s hs ht => by
  obtain ⟨k, rfl⟩ : ∃ k, K = k + 3 := ⟨K - 3, by omega⟩
  have hlen : ∀ S, fLen [rowT Bs] S = some (.int (Bs.length : Int), S) := fun S => by
    show some (D.int (((Bs.map tupT).length : Nat) : Int), S) = _
    rw [List.length_map]
  obtain ⟨v, s1, e1, o1, t1, q, rfl, q0, q1⟩ := draw_d (ns := ns) (X := X) hC (K := k + 2) (by omega) (n := (Bs.length : Int)) (by omega) s hs (by omega)
  obtain ⟨sp, rfl⟩ : ∃ m : Nat, q = (m : Int) := ⟨q.toNat, by omega⟩
  obtain ⟨v, s2, e2, o2, t2, w, rfl, w0, w1⟩ := draw_d (ns := ns) (X := X) hC (K := k + 2) (by omega) (n := 5) (by decide) s1 o1 (by omega)
  obtain ⟨v, s3, e3, o3, t3, U, rfl, hU, _⟩ := some_d (ns := ns) (X := X) hC (K := k + 2) (by omega) (p := p) (mx := 1) (my := 1) hp (by decide) (by decide) (by decide) s2 o2 (by omega)
  have hsp : sp < Bs.length := by omega
  obtain ⟨B, hBs⟩ : ∃ B, Bs[sp]? = some B := ⟨_, List.getElem?_eq_getElem hsp⟩
  have hBm : B ∈ Bs := List.mem_of_getElem? hBs
  have hix : (Bs.map tupT)[(sp : Int).toNat]? = some (tupT B) := by
    rw [List.getElem?_map, show (sp : Int).toNat = sp from rfl, hBs]; rfl
  have c1 := _law_plus_ok (K := k + 2) (S := St ns C s3 X) (by omega) (by omega) (hB B hBm).1 hU.pol (by have := bd_few (hB B hBm).1 (hB B hBm).2; omega) (by have := bd_few hU.pol ((hU.bd' (M := 5) (by decide) (by decide))); omega)
  have bG : Bd 5 (gath p (addS 1 (addS 1 [] B) U)) := add_bd (by omega) (hB B hBm).2 (hU.bd' (by decide) (by decide))
  have pG : Pol p (gath p (addS 1 (addS 1 [] B) U)) := (can_plus (can_pol (hB B hBm).1 (by omega)) (can_pol hU.pol (by omega)) (by omega)).pol (by omega)
  revert c1 bG pG
  generalize gath p (addS 1 (addS 1 [] B) U) = G
  intro c1 bG pG
  have eB : ∀ T ∈ Bs, Elt p (tupT T) := fun T hT => elt_tri (by have := bd_few (hB T hT).1 (hB T hT).2; omega) ((hB T hT).2.mono (by decide))
  have eD : ∀ d ∈ Bs.map tupT, Elt p d := fun d hd => by
    obtain ⟨T, hT, rfl⟩ := List.mem_map.mp hd
    exact eB T hT
  have eG : Elt p (tupT G) := elt_tri (by have := bd_few pG bG; omega) (bG.mono (by decide))
  have fput : ∀ d, Elt p d → Fine p (.tup (((Bs.map tupT).take sp ++ [d]) ++ (Bs.map tupT).drop (sp + 1))) := fun d hd => fine_tup (fun e he => by
    rcases List.mem_append.mp he with h | h
    · rcases List.mem_append.mp h with h | h
      · exact eD e (List.mem_of_mem_take h)
      · cases List.mem_singleton.mp h; exact hd
    · exact eD e (List.mem_of_mem_drop h)) (by simp; omega)
  by_cases hw : w < 2
  · refine ⟨.tup (((Bs.map tupT).take sp ++ [tupT G]) ++ (Bs.map tupT).drop (sp + 1)), s3, c_retW fd__law_near rfl (s_par (l := [(5, .int (sp : Int)), (6, .int w)]) (q_tup rfl (l_cons rfl (q_call (l_cons rfl (q_loc (i := 0) (by decide +kernel) rfl) (l_cons rfl (q_blt (l_cons rfl (q_loc (i := 2) (by decide +kernel) rfl) l_nil) (by decide +kernel) (by decide +kernel) rfl (hlen _)) l_nil)) fd__law_draw rfl (by decide +kernel) rfl rfl e1) (l_cons rfl (q_call (l_cons rfl (q_loc (i := 0) (by decide +kernel) rfl) (l_cons rfl q_int l_nil)) fd__law_draw rfl (by decide +kernel) rfl rfl e2) l_nil)) (Nat.le_of_ble_eq_true rfl)) rfl rfl (by simp)
      (s_set (q_call (l_cons rfl (q_loc (i := 1) (by decide +kernel) rfl) (l_cons rfl (q_ix rfl (q_loc (i := 2) (by decide +kernel) rfl) (q_loc (i := 5) (by decide +kernel) rfl) (ix_tup (by omega) hix)) (l_cons rfl (q_call (l_cons rfl (q_loc (i := 0) (by decide +kernel) rfl) (l_cons rfl (q_loc (i := 1) (by decide +kernel) rfl) (l_cons rfl q_int (l_cons rfl q_int l_nil)))) fd__law_some rfl (by decide +kernel) rfl rfl e3) l_nil))) fd__law_plus rfl (by decide +kernel) rfl rfl c1) (by decide +kernel) (i := 3) (by decide +kernel)
      (s_if (t_cmp rfl (q_loc (i := 6) (by decide +kernel) rfl) q_int rfl)
        (fun _ _ => j_ret (s_ret (q_bin (q_bin (q_sl (q_loc (i := 2) (by decide +kernel) rfl) p_none (p_some (q_loc (i := 5) (by decide +kernel) rfl)) sl_to) (q_tup rfl (l_cons rfl (q_loc (i := 3) (by decide +kernel) rfl) l_nil) (Nat.le_of_ble_eq_true rfl)) (cat_tup (by simp; omega))) (q_sl (q_loc (i := 2) (by decide +kernel) rfl) (p_some (q_bin (q_loc (i := 5) (by decide +kernel) rfl) q_int rfl)) p_none sl_from1) (cat_tup (by simp; omega)))))
        (fun h => absurd hw (of_decide_eq_false h))))) rfl, o3, by omega, fput _ eG⟩
  · obtain ⟨v4, s4, e4, o4, t4, i4, n4⟩ := no_poly_d (ns := ns) (X := X) hC (K := k + 2) (by omega) (p := p) hp s3 o3 (by omega)
    obtain ⟨v5, s5, e5, o5, t5, h5⟩ := pick_d (ns := ns) (X := X) hC (K := k + 2) (by omega) (ds := [v4, .lv (B.map trD), .non, .int 1]) ⟨by simp, by simp⟩ s4 o4 (by omega)
    have el5 : Elt p v5 := by
      simp only [List.mem_cons, List.not_mem_nil, or_false] at h5
      rcases h5 with rfl | rfl | rfl | rfl
      · exact elt_no i4 n4
      · exact elt_non pure_trs (fun xs e => by cases e)
      · exact elt_non rfl (fun xs e => by cases e)
      · exact elt_non rfl (fun xs e => by cases e)
    by_cases hw2 : w = 2
    · refine ⟨.tup (((Bs.map tupT).take sp ++ [v5]) ++ (Bs.map tupT).drop (sp + 1)), s5, c_retW fd__law_near rfl (s_par (l := [(5, .int (sp : Int)), (6, .int w)]) (q_tup rfl (l_cons rfl (q_call (l_cons rfl (q_loc (i := 0) (by decide +kernel) rfl) (l_cons rfl (q_blt (l_cons rfl (q_loc (i := 2) (by decide +kernel) rfl) l_nil) (by decide +kernel) (by decide +kernel) rfl (hlen _)) l_nil)) fd__law_draw rfl (by decide +kernel) rfl rfl e1) (l_cons rfl (q_call (l_cons rfl (q_loc (i := 0) (by decide +kernel) rfl) (l_cons rfl q_int l_nil)) fd__law_draw rfl (by decide +kernel) rfl rfl e2) l_nil)) (Nat.le_of_ble_eq_true rfl)) rfl rfl (by simp)
      (s_set (q_call (l_cons rfl (q_loc (i := 1) (by decide +kernel) rfl) (l_cons rfl (q_ix rfl (q_loc (i := 2) (by decide +kernel) rfl) (q_loc (i := 5) (by decide +kernel) rfl) (ix_tup (by omega) hix)) (l_cons rfl (q_call (l_cons rfl (q_loc (i := 0) (by decide +kernel) rfl) (l_cons rfl (q_loc (i := 1) (by decide +kernel) rfl) (l_cons rfl q_int (l_cons rfl q_int l_nil)))) fd__law_some rfl (by decide +kernel) rfl rfl e3) l_nil))) fd__law_plus rfl (by decide +kernel) rfl rfl c1) (by decide +kernel) (i := 3) (by decide +kernel)
      (s_if (t_cmp rfl (q_loc (i := 6) (by decide +kernel) rfl) q_int rfl)
        (fun h _ => absurd (of_decide_eq_true h) hw)
        (fun _ => j_next s_nil
      (s_set (q_call (l_cons rfl (q_loc (i := 0) (by decide +kernel) rfl) (l_cons rfl (q_lst rfl (l_cons rfl (q_call (l_cons rfl (q_loc (i := 0) (by decide +kernel) rfl) (l_cons rfl (q_loc (i := 1) (by decide +kernel) rfl) l_nil)) fd__law_no_poly rfl (by decide +kernel) rfl rfl e4) (l_cons rfl (q_blt (l_cons rfl (q_ix rfl (q_loc (i := 2) (by decide +kernel) rfl) (q_loc (i := 5) (by decide +kernel) rfl) (ix_tup (by omega) hix)) l_nil) (by decide +kernel) (by decide +kernel) rfl rfl) (l_cons rfl q_non (l_cons rfl q_int l_nil)))) (Nat.le_of_ble_eq_true rfl)) l_nil)) fd__law_pick rfl (by decide +kernel) rfl rfl e5) (by decide +kernel) (i := 4) (by decide +kernel)
      (s_if (t_cmp rfl (q_loc (i := 6) (by decide +kernel) rfl) q_int Dp.eq_int)
        (fun _ _ => j_ret (s_ret (q_bin (q_bin (q_sl (q_loc (i := 2) (by decide +kernel) rfl) p_none (p_some (q_loc (i := 5) (by decide +kernel) rfl)) sl_to) (q_tup rfl (l_cons rfl (q_loc (i := 4) (by decide +kernel) rfl) l_nil) (Nat.le_of_ble_eq_true rfl)) (cat_tup (by simp; omega))) (q_sl (q_loc (i := 2) (by decide +kernel) rfl) (p_some (q_bin (q_loc (i := 5) (by decide +kernel) rfl) q_int rfl)) p_none sl_from1) (cat_tup (by simp; omega)))))
        (fun h => absurd hw2 (by have := ne_of_beq_false h; omega)))))))) rfl, o5, by omega, fput _ el5⟩
    · match Bs, hn with
      | B0 :: Bs', hn =>
      obtain ⟨v6, s6, e6, o6, t6, h6⟩ := pick_d (ns := ns) (X := X) hC (K := k + 2) (by omega) (ds := neO B0 ((B0 :: Bs').map tupT)) ⟨by simp [neO], by simp [neO]⟩ s5 o5 (by omega)
      refine ⟨v6, s6, c_retW fd__law_near rfl (s_par (l := [(5, .int (sp : Int)), (6, .int w)]) (q_tup rfl (l_cons rfl (q_call (l_cons rfl (q_loc (i := 0) (by decide +kernel) rfl) (l_cons rfl (q_blt (l_cons rfl (q_loc (i := 2) (by decide +kernel) rfl) l_nil) (by decide +kernel) (by decide +kernel) rfl (hlen _)) l_nil)) fd__law_draw rfl (by decide +kernel) rfl rfl e1) (l_cons rfl (q_call (l_cons rfl (q_loc (i := 0) (by decide +kernel) rfl) (l_cons rfl q_int l_nil)) fd__law_draw rfl (by decide +kernel) rfl rfl e2) l_nil)) (Nat.le_of_ble_eq_true rfl)) rfl rfl (by simp)
      (s_set (q_call (l_cons rfl (q_loc (i := 1) (by decide +kernel) rfl) (l_cons rfl (q_ix rfl (q_loc (i := 2) (by decide +kernel) rfl) (q_loc (i := 5) (by decide +kernel) rfl) (ix_tup (by omega) hix)) (l_cons rfl (q_call (l_cons rfl (q_loc (i := 0) (by decide +kernel) rfl) (l_cons rfl (q_loc (i := 1) (by decide +kernel) rfl) (l_cons rfl q_int (l_cons rfl q_int l_nil)))) fd__law_some rfl (by decide +kernel) rfl rfl e3) l_nil))) fd__law_plus rfl (by decide +kernel) rfl rfl c1) (by decide +kernel) (i := 3) (by decide +kernel)
      (s_if (t_cmp rfl (q_loc (i := 6) (by decide +kernel) rfl) q_int rfl)
        (fun h _ => absurd (of_decide_eq_true h) hw)
        (fun _ => j_next s_nil
      (s_set (q_call (l_cons rfl (q_loc (i := 0) (by decide +kernel) rfl) (l_cons rfl (q_lst rfl (l_cons rfl (q_call (l_cons rfl (q_loc (i := 0) (by decide +kernel) rfl) (l_cons rfl (q_loc (i := 1) (by decide +kernel) rfl) l_nil)) fd__law_no_poly rfl (by decide +kernel) rfl rfl e4) (l_cons rfl (q_blt (l_cons rfl (q_ix rfl (q_loc (i := 2) (by decide +kernel) rfl) (q_loc (i := 5) (by decide +kernel) rfl) (ix_tup (by omega) hix)) l_nil) (by decide +kernel) (by decide +kernel) rfl rfl) (l_cons rfl q_non (l_cons rfl q_int l_nil)))) (Nat.le_of_ble_eq_true rfl)) l_nil)) fd__law_pick rfl (by decide +kernel) rfl rfl e5) (by decide +kernel) (i := 4) (by decide +kernel)
      (s_if (t_cmp rfl (q_loc (i := 6) (by decide +kernel) rfl) q_int Dp.eq_int)
        (fun h _ => absurd (eq_of_beq h) hw2)
        (fun _ => j_next s_nil
        (s_ret (q_call (l_cons rfl (q_loc (i := 0) (by decide +kernel) rfl) (l_cons rfl (q_lst (ds := neO B0 ((B0 :: Bs').map tupT)) rfl (l_cons rfl (q_blt (l_cons rfl (q_loc (i := 2) (by decide +kernel) rfl) l_nil) (by decide +kernel) (by decide +kernel) rfl rfl) (l_cons rfl (q_sl (q_loc (i := 2) (by decide +kernel) rfl) p_none (p_some (q_neg q_int)) rfl) (l_cons rfl (q_bin (q_loc (i := 2) (by decide +kernel) rfl) (q_tup rfl (l_cons rfl (q_tup rfl l_nil (Nat.le_of_ble_eq_true rfl)) l_nil) (Nat.le_of_ble_eq_true rfl)) (cat_tup (by simp; simp at hn; omega))) (l_cons rfl (q_rev (q_loc (i := 2) (by decide +kernel) rfl) (q_neg q_int) rfl) (l_cons rfl q_non (l_cons rfl (q_tup rfl (l_cons rfl (q_loc (i := 2) (by decide +kernel) rfl) l_nil) (Nat.le_of_ble_eq_true rfl)) (l_cons rfl (q_dv0 rfl) (l_cons rfl (q_ix rfl (q_loc (i := 2) (by decide +kernel) rfl) q_int (ix_tup (by decide) rfl)) l_nil)))))))) (Nat.le_of_ble_eq_true rfl)) l_nil)) fd__law_pick rfl (by decide +kernel) rfl rfl e6))))))))) rfl, o6, by omega, ?_⟩
      have hl : ((B0 :: Bs').map tupT).length ≤ 4 := by rw [List.length_map]; exact hn.2
      simp only [neO, List.mem_cons, List.not_mem_nil, or_false] at h6
      rcases h6 with rfl | rfl | rfl | rfl | rfl | rfl | rfl | rfl
      · exact fine_non (pureBs_all.mpr fun d hd => (eD d hd).1) (fun xs e => by cases e)
      · refine fine_tup (fun d hd => eD d (List.mem_of_mem_drop (List.mem_of_mem_take hd))) ?_
        unfold Dp.cutD
        rw [List.length_take, List.length_drop]
        omega
      · refine fine_tup (fun d hd => ?_) (by rw [List.length_append]; simp at hl ⊢; omega)
        rcases List.mem_append.mp hd with h | h
        · exact eD d h
        · cases List.mem_singleton.mp h
          exact elt_tri (T := []) (by simp) (fun t h => nomatch h)
      · exact fine_tup (fun d hd => eD d (List.mem_reverse.mp hd)) (by rw [List.length_reverse]; omega)
      · exact fine_non rfl (fun xs e => by cases e)
      · exact fine_tup (fun d hd => by
          cases List.mem_singleton.mp hd
          exact elt_row (by simp at hl ⊢; omega)) (by simp)
      · exact fine_non rfl (fun xs e => by cases e)
      · exact fine_tri B0 (by have := bd_few (hB B0 (by simp)).1 (hB B0 (by simp)).2; omega)
end Law
end
section
set_option maxRecDepth 100000
set_option maxHeartbeats 1000000
set_option linter.all false
namespace Law
open PySem PySem.Spec PyProof.Rows L2 Dp LamX
variable {ns C : List Int} {X : Sto} {s : Sta} {p : Int}
theorem fd__law_bad_row : M0.find "_law_bad_row" = some d__law_bad_row := by kernel_rfl
def putD (Ds : List D) (m : Nat) (d : D) : D := .tup ((Ds.take m ++ [d]) ++ Ds.drop (m + 1))
def brO (R : D) (Ds : List D) (m : Nat) (v : D) : List D := [.non, .int 5, .lv Ds, .tup (Ds.take 1), .tup [R, R, R, R, R], .tup [], .dv [] [], .str "row", R, putD Ds m v]
def brK (p : Int) (d : D) : Option D := if (!rowsB p d) = true then some d else none
theorem bad_row_d (hC : Cok C) {K : Nat} (hK : 14 ≤ K) (hp : 2 ≤ p ∧ p ≤ 7) :
    Draws ns C X 19000 (M0.callS K "_law_bad_row" [.ref 3, .int p]) (fun v => Short v ∧ rowsB p v = false) := fun s hs ht => by
  obtain ⟨k, rfl⟩ : ∃ k, K = k + 3 := ⟨K - 3, by omega⟩
  obtain ⟨v, s1, e1, o1, t1, Rs, rfl, hn, hR⟩ := row_d (ns := ns) (X := X) hC (K := k + 2) (by omega) (p := p) hp s hs (by omega)
  have hlen : ∀ S, fLen [rowT Rs] S = some (.int (Rs.length : Int), S) := fun S => by
    show some (D.int (((Rs.map tupT).length : Nat) : Int), S) = _
    rw [List.length_map]
  obtain ⟨v, s2, e2, o2, t2, q, rfl, q0, q1⟩ := draw_d (ns := ns) (X := X) hC (K := k + 2) (by omega) (n := (Rs.length : Int)) (by omega) s1 o1 (by omega)
  obtain ⟨sp, rfl⟩ : ∃ m : Nat, q = (m : Int) := ⟨q.toNat, by omega⟩
  have hsp : sp < Rs.length := by omega
  obtain ⟨B, hBs⟩ : ∃ B, Rs[sp]? = some B := ⟨_, List.getElem?_eq_getElem hsp⟩
  have hix : (Rs.map tupT)[(sp : Int).toNat]? = some (tupT B) := by
    rw [List.getElem?_map, show (sp : Int).toNat = sp from rfl, hBs]; rfl
  obtain ⟨v3, s3, e3, o3, t3, i3, n3⟩ := no_poly_d (ns := ns) (X := X) hC (K := k + 2) (by omega) (p := p) hp s2 o2 (by omega)
  obtain ⟨v4, s4, e4, o4, t4, i4, n4⟩ := no_poly_d (ns := ns) (X := X) hC (K := k + 2) (by omega) (p := p) hp s3 o3 (by omega)
  have eB : ∀ T ∈ Rs, Elt p (tupT T) := fun T hT => elt_tri (by have := bd_few (hR T hT).1 ((hR T hT).2.mono (by decide)); omega) ((hR T hT).2.mono (by decide))
  have eD : ∀ d ∈ Rs.map tupT, Elt p d := fun d hd => by
    obtain ⟨T, hT, rfl⟩ := List.mem_map.mp hd
    exact eB T hT
  have hl : (Rs.map tupT).length ≤ 4 := by rw [List.length_map]; exact hn.2
  have fput : ∀ d, Elt p d → Fine p (putD (Rs.map tupT) sp d) := fun d hd => fine_tup (fun e he => by
    rcases List.mem_append.mp he with h | h
    · rcases List.mem_append.mp h with h | h
      · exact eD e (List.mem_of_mem_take h)
      · cases List.mem_singleton.mp h; exact hd
    · exact eD e (List.mem_of_mem_drop h)) (by simp; omega)
  match Rs, hn with
  | R0 :: Rs', hn =>
  have eR : Elt p (tupT R0) := eB R0 (by simp)
  have hF : ∀ d ∈ brO (tupT R0) ((R0 :: Rs').map tupT) sp v3 ++ [putD ((R0 :: Rs').map tupT) sp v4, putD ((R0 :: Rs').map tupT) sp (.lv (B.map trD))], Fine p d := fun d hd => by
    rcases List.mem_append.mp hd with h | h
    · simp only [brO, List.mem_cons, List.not_mem_nil, or_false] at h
      rcases h with rfl | rfl | rfl | rfl | rfl | rfl | rfl | rfl | rfl | rfl
      · exact fine_non rfl (fun xs e => by cases e)
      · exact fine_non rfl (fun xs e => by cases e)
      · exact fine_non (pureBs_all.mpr fun d hd => (eD d hd).1) (fun xs e => by cases e)
      · exact fine_tup (fun d hd => eD d (List.mem_of_mem_take hd)) (by rw [List.length_take]; omega)
      · exact fine_tup (fun d hd => by
          simp only [List.mem_cons, List.not_mem_nil, or_false, or_self] at hd
          subst hd; exact eR) (by simp)
      · exact fine_tup (fun d hd => nomatch hd) (by simp)
      · exact fine_non rfl (fun xs e => by cases e)
      · exact fine_non rfl (fun xs e => by cases e)
      · exact fine_tri R0 (by have := bd_few (hR R0 (by simp)).1 ((hR R0 (by simp)).2.mono (by decide)); omega)
      · exact fput _ (elt_no i3 n3)
    · simp only [List.mem_cons, List.not_mem_nil, or_false] at h
      rcases h with rfl | rfl
      · exact fput _ (elt_no i4 n4)
      · exact fput _ (elt_non pure_trs (fun xs e => by cases e))
  generalize hL : brO (tupT R0) ((R0 :: Rs').map tupT) sp v3 ++ [putD ((R0 :: Rs').map tupT) sp v4, putD ((R0 :: Rs').map tupT) sp (.lv (B.map trD))] = L at hF
  have hLl : L.length = 12 := by rw [← hL]; rfl
  have hNon : D.non ∈ L := by rw [← hL]; simp [brO]
  have hN : D.non ∈ L.filterMap (brK p) := List.mem_filterMap.mpr ⟨.non, hNon, rfl⟩
  obtain ⟨v, s5, e5, o5, t5, h5⟩ := pick_d (ns := ns) (X := X) hC (K := k + 2) (by omega) (ds := L.filterMap (brK p)) ⟨List.length_pos_of_mem hN, by
    have := List.length_filterMap_le (brK p) L
    omega⟩ s4 o4 (by omega)
  refine ⟨v, s5, c_retW fd__law_bad_row rfl 
    (s_set (q_call (l_cons rfl (q_loc (i := 0) (by decide +kernel) rfl) (l_cons rfl (q_loc (i := 1) (by decide +kernel) rfl) (l_cons rfl q_int l_nil))) fd__law_row rfl (by decide +kernel) rfl rfl e1) (by decide +kernel) (i := 2) (by decide +kernel)
    (s_set (q_call (l_cons rfl (q_loc (i := 0) (by decide +kernel) rfl) (l_cons rfl (q_blt (l_cons rfl (q_loc (i := 2) (by decide +kernel) rfl) l_nil) (by decide +kernel) (by decide +kernel) rfl (hlen _)) l_nil)) fd__law_draw rfl (by decide +kernel) rfl rfl e2) (by decide +kernel) (i := 3) (by decide +kernel)
    (s_set (S1 := St ns C s3 X) (q_lst (ds := brO (tupT R0) ((R0 :: Rs').map tupT) sp v3) rfl (l_cons rfl q_non (l_cons rfl q_int (l_cons rfl (q_blt (l_cons rfl (q_loc (i := 2) (by decide +kernel) rfl) l_nil) (by decide +kernel) (by decide +kernel) rfl rfl) (l_cons rfl (q_sl (q_loc (i := 2) (by decide +kernel) rfl) p_none (p_some q_int) (sl_to (m := 1))) (l_cons rfl (q_bin (q_tup rfl (l_cons rfl (q_ix rfl (q_loc (i := 2) (by decide +kernel) rfl) q_int (ix_tup (by decide) rfl)) l_nil) (Nat.le_of_ble_eq_true rfl)) q_int rfl) (l_cons rfl (q_tup rfl l_nil (Nat.le_of_ble_eq_true rfl)) (l_cons rfl (q_dv0 rfl) (l_cons rfl q_str (l_cons rfl (q_ix rfl (q_loc (i := 2) (by decide +kernel) rfl) q_int (ix_tup (by decide) rfl)) (l_cons rfl (q_bin (q_bin (q_sl (q_loc (i := 2) (by decide +kernel) rfl) p_none (p_some (q_loc (i := 3) (by decide +kernel) rfl)) sl_to) (q_tup rfl (l_cons rfl (q_call (l_cons rfl (q_loc (i := 0) (by decide +kernel) rfl) (l_cons rfl (q_loc (i := 1) (by decide +kernel) rfl) l_nil)) fd__law_no_poly rfl (by decide +kernel) rfl rfl e3) l_nil) (Nat.le_of_ble_eq_true rfl)) (cat_tup (by simp; simp at hl; omega))) (q_sl (q_loc (i := 2) (by decide +kernel) rfl) (p_some (q_bin (q_loc (i := 3) (by decide +kernel) rfl) q_int rfl)) p_none sl_from1) (cat_tup (by simp; simp at hl; omega))) l_nil)))))))))) (Nat.le_of_ble_eq_true rfl)) (by decide +kernel) (i := 4) (by decide +kernel)
    (s_set (S1 := St ns C s4 X) (q_bin (q_loc (i := 4) (by decide +kernel) rfl) (q_lst (ds := [putD ((R0 :: Rs').map tupT) sp v4, putD ((R0 :: Rs').map tupT) sp (.lv (B.map trD))]) rfl (l_cons rfl (q_bin (q_bin (q_sl (q_loc (i := 2) (by decide +kernel) rfl) p_none (p_some (q_loc (i := 3) (by decide +kernel) rfl)) sl_to) (q_tup rfl (l_cons rfl (q_call (l_cons rfl (q_loc (i := 0) (by decide +kernel) rfl) (l_cons rfl (q_loc (i := 1) (by decide +kernel) rfl) l_nil)) fd__law_no_poly rfl (by decide +kernel) rfl rfl e4) l_nil) (Nat.le_of_ble_eq_true rfl)) (cat_tup (by simp; simp at hl; omega))) (q_sl (q_loc (i := 2) (by decide +kernel) rfl) (p_some (q_bin (q_loc (i := 3) (by decide +kernel) rfl) q_int rfl)) p_none sl_from1) (cat_tup (by simp; simp at hl; omega))) (l_cons rfl (q_bin (q_bin (q_sl (q_loc (i := 2) (by decide +kernel) rfl) p_none (p_some (q_loc (i := 3) (by decide +kernel) rfl)) sl_to) (q_tup rfl (l_cons rfl (q_blt (l_cons rfl (q_ix rfl (q_loc (i := 2) (by decide +kernel) rfl) (q_loc (i := 3) (by decide +kernel) rfl) (ix_tup (by omega) hix)) l_nil) (by decide +kernel) (by decide +kernel) rfl rfl) l_nil) (Nat.le_of_ble_eq_true rfl)) (cat_tup (by simp; simp at hl; omega))) (q_sl (q_loc (i := 2) (by decide +kernel) rfl) (p_some (q_bin (q_loc (i := 3) (by decide +kernel) rfl) q_int rfl)) p_none sl_from1) (cat_tup (by simp; simp at hl; omega))) l_nil)) (Nat.le_of_ble_eq_true rfl)) (Eq.trans (cat_lv (by decide +kernel) (by simp [brO])) (by rw [hL]))) (by decide +kernel) (i := 4) (by decide +kernel)
    (s_ret (q_call (l_cons rfl (q_loc (i := 0) (by decide +kernel) rfl) (l_cons rfl (q_lc (o := brK p) (xs := L) (x_val (q_loc (i := 4) (by decide +kernel) rfl) rfl rfl) (by decide +kernel) rfl (fun _ => walks_lv) rfl (by omega) (fun d hd S1 => (turn_if rfl rfl (t_not (t_val rfl (q_call (l_cons rfl (q_loc (i := 1) (by decide +kernel) rfl) (l_cons rfl (q_loc (i := 5) (by decide +kernel) rfl) l_nil)) fd__law_is_row rfl (by decide +kernel) rfl rfl (_law_is_row_ok (by omega) (hF d hd).1)) rfl)) (fun _ => (q_loc (i := 5) (by decide +kernel) rfl)))) (fun d hd y hy => by
      unfold brK at hy
      split at hy
      · cases hy; exact pure_clo (hF d hd).1.1.1
      · cases hy)) l_nil)) fd__law_pick rfl (by decide +kernel) rfl rfl e5)))))) rfl, o5, by omega, ?_⟩
  obtain ⟨d, hd, hy⟩ := List.mem_filterMap.mp h5
  unfold brK at hy
  split at hy
  · rename_i hb
    cases hy
    exact ⟨(hF _ hd).1.1, by simpa using hb⟩
  · cases hy
end Law
end
section
set_option maxRecDepth 100000
set_option maxHeartbeats 1000000
set_option linter.all false
namespace Law
open PySem PySem.Spec PyProof.Rows L2 Dp LamX
variable {ns C : List Int} {X : Sto} {s : Sta} {p : Int}
theorem odd_m (hC : Cok C) {K : Nat} (hK : 5 ≤ K) : Draws ns C X 1 (M0.callS K "_law_odd" [.ref 3]) (fun v => Fine p v) := fun s hs ht => by
  obtain ⟨k, rfl⟩ : ∃ k, K = k + 3 := ⟨K - 3, by omega⟩
  obtain ⟨v, s', h1, h2, h3, h4⟩ := pick_d (X := X) (ns := ns) hC (K := k + 2) (by omega) (ds := odds) ⟨by decide, by decide⟩ s hs ht
  refine ⟨v, s', c_retW fd__law_odd rfl (s_ret (q_call (l_cons rfl (q_loc (i := 0) (by decide +kernel) rfl) (l_cons rfl (q_lst rfl (l_cons rfl q_non (l_cons rfl q_bl (l_cons rfl q_bl (l_cons rfl q_str (l_cons rfl q_str (l_cons rfl (q_lst rfl l_nil (Nat.le_of_ble_eq_true rfl)) (l_cons rfl (q_dv0 rfl) (l_cons rfl (q_tup rfl (l_cons rfl q_non l_nil) (Nat.le_of_ble_eq_true rfl)) (l_cons rfl (q_tup rfl (l_cons rfl q_str (l_cons rfl q_int l_nil)) (Nat.le_of_ble_eq_true rfl)) (l_cons rfl (q_lst rfl (l_cons rfl (q_lst rfl (l_cons rfl q_int l_nil) (Nat.le_of_ble_eq_true rfl)) l_nil) (Nat.le_of_ble_eq_true rfl)) (l_cons rfl (q_dv rfl rfl (fun _ => dp_cons q_int q_int dp_nil rfl) (by decide) (by intro d hd; simp [mergeD, Dp.putD] at hd; subst hd; rfl)) (l_cons rfl (q_tup rfl (l_cons rfl q_bl l_nil) (Nat.le_of_ble_eq_true rfl)) (l_cons rfl q_int (l_cons rfl (q_neg q_int) l_nil)))))))))))))) (Nat.le_of_ble_eq_true rfl)) l_nil)) fd__law_pick rfl (by decide +kernel) rfl rfl h1)) rfl, h2, h3, ?_⟩
  simp only [odds, List.mem_cons, List.not_mem_nil, or_false] at h4
  rcases h4 with rfl | rfl | rfl | rfl | rfl | rfl | rfl | rfl | rfl | rfl | rfl | rfl | rfl | rfl
  · exact fine_non rfl (fun xs e => by cases e)
  · exact fine_non rfl (fun xs e => by cases e)
  · exact fine_non rfl (fun xs e => by cases e)
  · exact fine_non rfl (fun xs e => by cases e)
  · exact fine_non rfl (fun xs e => by cases e)
  · exact fine_non rfl (fun xs e => by cases e)
  · exact fine_non rfl (fun xs e => by cases e)
  · exact fine_tup (fun d hd => by cases List.mem_singleton.mp hd; exact elt_non rfl (fun xs e => by cases e)) (by decide)
  · exact fine_tup (fun d hd => by
      simp only [List.mem_cons, List.not_mem_nil, or_false] at hd
      rcases hd with rfl | rfl <;> exact elt_non rfl (fun xs e => by cases e)) (by decide)
  · exact fine_non rfl (fun xs e => by cases e)
  · exact fine_non rfl (fun xs e => by cases e)
  · exact fine_tup (fun d hd => by cases List.mem_singleton.mp hd; exact elt_non rfl (fun xs e => by cases e)) (by decide)
  · exact fine_non rfl (fun xs e => by cases e)
  · exact fine_non rfl (fun xs e => by cases e)
theorem mul_rep {x : D} {n : Nat} (h : 2 ≤ n ∧ n ≤ 4) {o : Bool} {S : Sto} : binD o .Mult (.tup [x]) (.int (n : Int)) S = some (.tup (List.replicate n [x]).flatten, S) := by
  show (if 2 ≤ (n : Int) ∧ (n : Int) ≤ 1000 ∧ ([] : List D).length < 1000 then some (D.tup (List.replicate (n : Int).toNat [x]).flatten, S) else none) = _
  rw [if_pos ⟨by omega, by omega, by decide⟩]; rfl
theorem fine_rep {n : Nat} (h : n ≤ 4) : Fine p (.tup (List.replicate n [D.tup []]).flatten) := fine_tup (fun d hd => by
  obtain ⟨l, hl, hd⟩ := List.mem_flatten.mp hd
  have := (List.mem_replicate.mp hl).2
  subst this
  cases List.mem_singleton.mp hd
  exact elt_tri (T := []) (by simp) (fun t h => nomatch h)) (by simp; omega)
theorem fd_law : M0.find "law" = some d_law := by kernel_rfl
noncomputable abbrev lG (k : Nat) : Gam := M0.gam d_law.N d_law.scope.names (M0.call (k + 2)) (M0.lamF d_law (M0.call (k + 1)) (M0.call k)) noAct
theorem q_same : (("law" : Str) ++ ".<locals>.") ++ "<lambda>" = ("law.<locals>.<lambda>" : Str) := by decide +kernel
/-- the body of a turn -/
def tB : List Stmt := loopB (nthS d_law.body 1)
theorem items_loop {k : Nat} (hk : 14 ≤ k) {tu : D} {Rs : List Tri} {sv : D} (hp : primeB (.int p) = true) (hR : RowOk p Rs) {ds : List D} (hF : ∀ d ∈ ds, Fine p d) (hl : ds.length ≤ 1000) :
    forL keepC false (.lv ds) (asgE d_law.N d_law.scope (forT (nthS tB 3))) (exs (ex (lG k) 38 d_law.scope) (loopB (nthS tB 3))) (ds.length + 1) 0
      [some (.ref 0), some (.ref 3), some tu, some (.int p), none, some (rowT Rs), some sv, none, none, none] (St ns C s [])
      = .next [some (.ref 0), some (.ref 3), some tu, some (.int p), none, some (rowT Rs), some sv, none, none, none] (St ns C s []) := by
  refine for_ind (xs := ds)
    (P := fun ys σ S' => (∀ d ∈ ys, Fine p d) ∧ S' = St ns C s [] ∧ σ = [some (.ref 0), some (.ref 3), some tu, some (.int p), none, some (rowT Rs), some sv, none, none, none])
    (R := fun r => r = .next [some (.ref 0), some (.ref 3), some tu, some (.int p), none, some (rowT Rs), some sv, none, none, none] (St ns C s [])) (fun _ _ _ _ => walks_lv) ?_ ?_ _ 0 _ _ _ rfl (by simp) ⟨hF, rfl, rfl⟩
  · rintro σ S' ⟨_, rfl, rfl⟩
    rfl
  · rintro d ys σ S' ⟨hd, rfl, rfl⟩
    have fd := hd d List.mem_cons_self
    have c1 := _law_are_ones_ok (K := k + 2) (S := St ns C s []) (by omega) hp hR fd
    have c2 := are_ones_ok (K := k + 2) (S := St ns C s []) (by omega) hp hR (fine_light fd)
    revert c1 c2
    generalize onesB p Rs d = b
    intro c1 c2
    have c3 : M0.callS (k + 2) "_law_said" [.bl b, .bl b] (St ns C s []) = .ok (.bl true) (St ns C s []) := (_law_said_ok (by omega)).trans (by cases b <;> rfl)
    refine ⟨[(4, d)], rfl, .inl ⟨[some (.ref 0), some (.ref 3), some tu, some (.int p), some d, some (rowT Rs), some sv, some (.bl b), none, none], St ns C s [], ?_, rfl, fun d h => hd d (List.mem_cons_of_mem _ h), rfl, rfl⟩⟩
    exact (s_set (q_call (l_cons rfl (q_loc (i := 3) (by decide +kernel) rfl) (l_cons rfl (q_loc (i := 5) (by decide +kernel) rfl) (l_cons rfl (q_loc (i := 4) (by decide +kernel) rfl) l_nil))) fd__law_are_ones rfl (by decide +kernel) rfl rfl c1) (by decide +kernel) (i := 7) (by decide +kernel)
      (s_if (t_bool (b_or rfl (t_not (t_val rfl (q_call (l_cons rfl (q_call (l_cons rfl (q_loc (i := 3) (by decide +kernel) rfl) (l_cons rfl (q_loc (i := 5) (by decide +kernel) rfl) (l_cons rfl (q_loc (i := 4) (by decide +kernel) rfl) l_nil))) fd_are_ones rfl (by decide +kernel) rfl rfl c2) (l_cons rfl (q_loc (i := 7) (by decide +kernel) rfl) l_nil)) fd__law_said rfl (by decide +kernel) rfl rfl c3) rfl)) (fun _ => (b_one (t_not (t_val rfl (q_call (l_cons rfl (q_callK l_nil (k_cons (q_loc (i := 4) (by decide +kernel) rfl) (k_cons (q_loc (i := 5) (by decide +kernel) rfl) (k_cons (q_loc (i := 3) (by decide +kernel) rfl) k_nil))) fd_are_ones rfl (by decide +kernel) rfl rfl rfl c2) (l_cons rfl (q_loc (i := 7) (by decide +kernel) rfl) l_nil)) fd__law_said rfl (by decide +kernel) rfl rfl c3) rfl))))))
      (fun h _ => nomatch h)
      (fun _ => j_next s_nil s_nil)))
end Law
end
section
set_option maxRecDepth 100000
set_option maxHeartbeats 1000000
set_option linter.all false
namespace Law
open PySem PySem.Spec PyProof.Rows L2 Dp LamX
variable {ns C : List Int} {X : Sto} {s : Sta} {p : Int}
theorem turn_ok (hC : Cok C) {k : Nat} (hk : 14 ≤ k) {tu : D} (hs : s.ok) (ht : s.t + 53000 ≤ 1000000000) :
    ∃ s' σ', exs (ex (lG k) 39 d_law.scope) tB [some (.ref 0), some (.ref 3), some tu, none, none, none, none, none, none, none] (St ns C s [])
      = .next σ' (St ns C s' []) ∧ maskD [some (.ref 0), some (.ref 3), none, none, none, none, none, none, none, none] σ' = [some (.ref 0), some (.ref 3), none, none, none, none, none, none, none, none] ∧ s'.ok ∧ s'.t ≤ s.t + 53000 := by
  obtain ⟨v, s1, e1, o1, t1, hv⟩ := prime_d (ns := ns) (X := []) hC (K := k + 2) (by omega) s hs (by omega)
  obtain ⟨p, rfl, hp⟩ : ∃ p, v = .int p ∧ primeB (.int p) = true := by
    simp only [List.mem_cons, List.not_mem_nil, or_false] at hv
    rcases hv with rfl | rfl | rfl | rfl <;> exact ⟨_, rfl, rfl⟩
  have hp2 := prime_pos hp
  obtain ⟨v, s2, e2, o2, t2, Rs, Bs, rfl, hl, hn, hR, hB, h1⟩ := made_d (ns := ns) (X := []) hC (K := k + 2) (by omega) (p := p) hp s1 o1 (by omega)
  have few : ∀ {T : Tri}, Pol p T ∧ Bd 5 T → T.length ≤ 300 ∧ Bd 20 T := fun {T} h => ⟨by have := bd_few h.1 h.2; omega, h.2.mono (by decide)⟩
  have hRo : RowOk p Rs := ⟨hn, fun T hT => ⟨(hR T hT).1, (few (hR T hT)).2⟩, fun T hT => (few (hR T hT)).1⟩
  have fB : Fine p (rowT Bs) := fine_tup (fun d hd => by
    obtain ⟨T, hT, rfl⟩ := List.mem_map.mp hd
    exact elt_tri (few (hB T hT)).1 (few (hB T hT)).2) (by rw [List.length_map]; omega)
  have ho : onesB p Rs (rowT Bs) = true := by
    unfold onesB
    rw [row_is (fun T hT => ⟨(hB T hT).1, (hB T hT).2.mono (by decide)⟩) (by omega), tris_row, h1]
    rfl
  have a1 := are_ones_ok (K := k + 2) (S := St ns C s2 []) (by omega) hp hRo (fine_light fB)
  rw [ho] at a1
  have c3 : M0.callS (k + 2) "_law_said" [.bl true, .bl true] (St ns C s2 []) = .ok (.bl true) (St ns C s2 []) := _law_said_ok (by omega)
  obtain ⟨n1, s3, e3, o3, t3, f1⟩ := near_d (ns := ns) (X := []) hC (K := k + 2) (by omega) (p := p) hp2 (Bs := Bs) (by omega) hB s2 o2 (by omega)
  obtain ⟨n2, s4, e4, o4, t4, f2⟩ := near_d (ns := ns) (X := []) hC (K := k + 2) (by omega) (p := p) hp2 (Bs := Bs) (by omega) hB s3 o3 (by omega)
  obtain ⟨n3, s5, e5, o5, t5, f3⟩ := odd_m (ns := ns) (X := []) (p := p) hC (K := k + 2) (by omega) s4 o4 (by omega)
  have hlen : ∀ S, fLen [rowT Rs] S = some (.int (Rs.length : Int), S) := fun S => by
    show some (D.int (((Rs.map tupT).length : Nat) : Int), S) = _
    rw [List.length_map]
  obtain ⟨v1, s6, e6, o6, t6, g1, g2⟩ := no_prime_d (ns := ns) (X := []) hC (K := k + 2) (by omega) s5 o5 (by omega)
  obtain ⟨v2, s7, e7, o7, t7, g3, g4⟩ := bad_row_d (ns := ns) (X := []) hC (K := k + 2) (by omega) (p := p) hp2 s6 o6 (by omega)
  have loop := items_loop (ns := ns) (C := C) (s := s5) hk (tu := tu) (sv := rowT Bs) hp hRo (ds := [rowT Bs, n1, n2, n3, .tup (List.replicate Rs.length [D.tup []]).flatten]) (fun d hd => by
    simp only [List.mem_cons, List.not_mem_nil, or_false] at hd
    rcases hd with rfl | rfl | rfl | rfl | rfl
    · exact fB
    · exact f1
    · exact f2
    · exact f3
    · exact fine_rep hn.2) (by simp)
  refine ⟨s7, [some (.ref 0), some (.ref 3), some tu, some (.int p), none, some (rowT Rs), some (rowT Bs), none, some v1, some v2], ?_, rfl, o7, by omega⟩
  exact (s_set (q_call (l_cons rfl (q_loc (i := 1) (by decide +kernel) rfl) l_nil) fd__law_prime rfl (by decide +kernel) rfl rfl e1) (by decide +kernel) (i := 3) (by decide +kernel)
    (s_tup (q_call (l_cons rfl (q_loc (i := 1) (by decide +kernel) rfl) (l_cons rfl (q_loc (i := 3) (by decide +kernel) rfl) l_nil)) fd__law_made rfl (by decide +kernel) rfl rfl e2) rfl rfl
    (s_if (t_not (t_val rfl (q_call (l_cons rfl (q_call (l_cons rfl (q_loc (i := 3) (by decide +kernel) rfl) (l_cons rfl (q_loc (i := 5) (by decide +kernel) rfl) (l_cons rfl (q_loc (i := 6) (by decide +kernel) rfl) l_nil))) fd_are_ones rfl (by decide +kernel) rfl rfl a1) (l_cons rfl q_bl l_nil)) fd__law_said rfl (by decide +kernel) rfl rfl c3) rfl))
      (fun h _ => nomatch h)
      (fun _ => j_next s_nil
    (s_for (x_val (q_lst rfl (l_cons rfl (q_loc (i := 6) (by decide +kernel) rfl) (l_cons rfl (q_call (l_cons rfl (q_loc (i := 1) (by decide +kernel) rfl) (l_cons rfl (q_loc (i := 3) (by decide +kernel) rfl) (l_cons rfl (q_loc (i := 6) (by decide +kernel) rfl) l_nil))) fd__law_near rfl (by decide +kernel) rfl rfl e3) (l_cons rfl (q_call (l_cons rfl (q_loc (i := 1) (by decide +kernel) rfl) (l_cons rfl (q_loc (i := 3) (by decide +kernel) rfl) (l_cons rfl (q_loc (i := 6) (by decide +kernel) rfl) l_nil))) fd__law_near rfl (by decide +kernel) rfl rfl e4) (l_cons rfl (q_call (l_cons rfl (q_loc (i := 1) (by decide +kernel) rfl) l_nil) fd__law_odd rfl (by decide +kernel) rfl rfl e5) (l_cons rfl (q_bin (q_tup rfl (l_cons rfl (q_tup rfl l_nil (Nat.le_of_ble_eq_true rfl)) l_nil) (Nat.le_of_ble_eq_true rfl)) (q_blt (l_cons rfl (q_loc (i := 5) (by decide +kernel) rfl) l_nil) (by decide +kernel) (by decide +kernel) rfl (hlen _)) (mul_rep hn)) l_nil))))) (Nat.le_of_ble_eq_true rfl)) rfl rfl) rfl rfl loop (j_next rfl
    (s_par (l := [(8, v1), (9, v2)]) (q_tup rfl (l_cons rfl (q_call (l_cons rfl (q_loc (i := 1) (by decide +kernel) rfl) l_nil) fd__law_no_prime rfl (by decide +kernel) rfl rfl e6) (l_cons rfl (q_call (l_cons rfl (q_loc (i := 1) (by decide +kernel) rfl) (l_cons rfl (q_loc (i := 3) (by decide +kernel) rfl) l_nil)) fd__law_bad_row rfl (by decide +kernel) rfl rfl e7) l_nil)) (Nat.le_of_ble_eq_true rfl)) rfl rfl (by simp)
    (s_if (t_not (t_val rfl (q_blt (l_cons rfl (q_lam (v := .exv "BadPrime" none []) (S1 := St ns C s7 []) rfl rfl fd__law_caught (by decide +kernel) (by show some (M.tab "law" _) = _; rw [q_same]; rfl) rfl keep_refl rfl (fun g c τ => by
          refine caught_x (x := ⟨"BadPrime", none⟩) ?_ ?_ rfl
          · simp
          · dsimp only
            exact (q_call (l_cons rfl (q_loc (i := 8) (by decide +kernel) rfl) (l_cons rfl (q_loc (i := 9) (by decide +kernel) rfl) (l_cons rfl (q_loc (i := 6) (by decide +kernel) rfl) l_nil))) fd_are_ones rfl (by decide +kernel) rfl rfl (are_ones_p hk g1 g2)))) (l_cons rfl (q_glo (by decide +kernel) (by decide +kernel) rfl) l_nil)) (by decide +kernel) (by decide +kernel) rfl rfl) rfl))
      (fun h _ => nomatch h)
      (fun _ => (j_next s_nil
    (s_if (t_not (t_val rfl (q_blt (l_cons rfl (q_lam (v := .exv "BadRow" none []) (S1 := St ns C s7 []) rfl rfl fd__law_caught (by decide +kernel) (by show some (M.tab "law" _) = _; rw [q_same]; rfl) rfl keep_refl rfl (fun g c τ => by
          refine caught_x (x := ⟨"BadRow", none⟩) ?_ ?_ rfl
          · simp
          · dsimp only
            exact (q_call (l_cons rfl (q_loc (i := 3) (by decide +kernel) rfl) (l_cons rfl (q_loc (i := 9) (by decide +kernel) rfl) (l_cons rfl (q_loc (i := 6) (by decide +kernel) rfl) l_nil))) fd_are_ones rfl (by decide +kernel) rfl rfl (are_ones_r hk hp g3 g4)))) (l_cons rfl (q_glo (by decide +kernel) (by decide +kernel) rfl) l_nil)) (by decide +kernel) (by decide +kernel) rfl rfl) rfl))
      (fun h _ => nomatch h)
      (fun _ => (j_next s_nil s_nil)))))))))))))
theorem turns_ok (hC : Cok C) {k : Nat} (hk : 14 ≤ k) {n : Nat} (hs : s.ok) (ht : s.t + 53000 * n ≤ 1000000000) :
    ∃ s', forL keepC false (.rng 0 n) (asgE d_law.N d_law.scope (forT (nthS d_law.body 1))) (exs (ex (lG k) 39 d_law.scope) tB) (n + 1) 0 [some (.ref 0), some (.ref 3), none, none, none, none, none, none, none, none] (St ns C s []) = .next [some (.ref 0), some (.ref 3), none, none, none, none, none, none, none, none] (St ns C s' []) := by
  refine for_ind (xs := (List.range n).map fun (i : Nat) => .int (0 + (i : Int)))
    (P := fun ys σ S' => ∃ s1 : Sta, s1.ok ∧ s1.t + 53000 * ys.length ≤ 1000000000 ∧ S' = St ns C s1 [] ∧ σ = [some (.ref 0), some (.ref 3), none, none, none, none, none, none, none, none])
    (R := fun r => ∃ s', r = .next [some (.ref 0), some (.ref 3), none, none, none, none, none, none, none, none] (St ns C s' [])) (fun _ _ _ _ => walks_rng) ?_ ?_ _ 0 _ _ _ rfl (by simp) ⟨s, hs, by simpa using ht, rfl, rfl⟩
  · rintro σ S' ⟨s1, o1, t1, rfl, rfl⟩
    exact ⟨s1, rfl⟩
  · rintro d ys σ S' ⟨s1, o1, t1, rfl, rfl⟩
    simp at t1
    obtain ⟨s2, σ', e2, m2, o2, t2⟩ := turn_ok (ns := ns) hC hk (tu := d) o1 (by omega)
    exact ⟨_, rfl, .inl ⟨σ', _, e2, rfl, s2, o2, by omega, rfl, m2⟩⟩
theorem cells_ok {ns : List Int} (h : ns.length ≤ 63) : Cok (cells ns) := ⟨fun i hi => by
  obtain ⟨j, _, rfl⟩ := List.mem_map.mp hi
  split <;> omega, by simp [cells]; omega⟩
theorem larges_ok {ns : List Int} (h : ns.length ≤ 63) : Sta.ok ⟨larges (cells ns), 0, 0⟩ := by
  refine ⟨fun i hi => ?_, Int.le_refl _, Int.le_refl _, ?_⟩
  · obtain ⟨j, _, hj⟩ := List.mem_filterMap.mp hi
    split at hj
    · cases hj; omega
    · cases hj
  · have := List.length_filterMap_le (fun i : Int => if 1000000000000000000 ≤ i then some (i - 1000000000000000000) else none) (cells ns)
    have h2 : (cells ns).length = ns.length := by simp [cells]
    show (larges (cells ns)).length ≤ 63
    unfold larges
    omega
theorem law_pure {ns : List Int} (h : ns.length ≤ 63) : ∃ S', M0.call 40 "law" [.ref 0] (S00 ns) = .ok (.bl true) S' := by
  have hb := begun_ok (K := 39) (by decide) h
  obtain ⟨s', e⟩ := turns_ok (ns := ns) (cells_ok h) (k := 37) (by decide) (n := (3 + if (6 : Int) < ((ns.map D.int).length : Int) then (6 : Int) else ((ns.map D.int).length : Int)).toNat) (larges_ok h) (by
    dsimp only
    split <;> omega)
  refine ⟨_, q_def fd_law rfl (d_ret (s_set (S1 := St ns (cells ns) ⟨larges (cells ns), 0, 0⟩ []) (q_callO (l_cons rfl (q_loc (i := 0) (by decide +kernel) rfl) l_nil) fd__law_begun rfl (by decide +kernel) rfl rfl hb) (by decide +kernel) (i := 1) (by decide +kernel) 
    (s_for (x_rng1 (q_bin q_int (q_blt (l_cons rfl (q_blt (l_cons rfl (q_loc (i := 0) (by decide +kernel) rfl) l_nil) (by decide +kernel) (by decide +kernel) rfl rfl) (l_cons rfl q_int l_nil)) (by decide +kernel) (by decide +kernel) rfl rfl) rfl) (by decide +kernel) rfl ?_) rfl rfl e
    (j_next rfl (s_ret q_bl)))))⟩
  · split <;> omega
end Law
end
set_option Elab.async false
set_option linter.all false
set_option maxRecDepth 100000
set_option maxHeartbeats 0
namespace Law
open PySem PySem.Spec PyProof.Rows L2 Dp
theorem all_ok : ∀ t ∈ M0.defs, t.Ok := by
  intro t h
  have h : t ∈ [d_is_number, d_is_number_within, d_is_prime, d_is_term, d_is_poly_of, d_check_prime, d_gathered, d_add_product, d_is_row_of, d_check_row, d_sum_of_products, d_are_ones, d__law_begun, d__law_draw, d__law_pick, d__law_mixed, d__law_caught, d__law_is_whole, d__law_odd, d__law_is_from, d__law_prime, d__law_no_prime, d__law_is_poly, d__law_dict, d__law_poly_of, d__law_added, d__law_product, d__law_plus, d__law_less, d__law_times, d__law_poly, d__law_some, d__law_no_poly, d__law_said, d__law_sum_of, d__law_is_row, d__law_row, d__law_bad_row, d__law_number, d__law_are_ones, d__law_made, d__law_near, d_law] := h
  simp only [List.mem_cons, List.not_mem_nil, or_false] at h
  rcases h with rfl | rfl | rfl | rfl | rfl | rfl | rfl | rfl | rfl | rfl | rfl | rfl | rfl | rfl | rfl | rfl | rfl | rfl | rfl | rfl | rfl | rfl | rfl | rfl | rfl | rfl | rfl | rfl | rfl | rfl | rfl | rfl | rfl | rfl | rfl | rfl | rfl | rfl | rfl | rfl | rfl | rfl | rfl
  · exact ok_is_number
  · exact ok_is_number_within
  · exact ok_is_prime
  · exact ok_is_term
  · exact ok_is_poly_of
  · exact ok_check_prime
  · exact ok_gathered
  · exact ok_add_product
  · exact ok_is_row_of
  · exact ok_check_row
  · exact ok_sum_of_products
  · exact ok_are_ones
  · exact ok__law_begun
  · exact ok__law_draw
  · exact ok__law_pick
  · exact ok__law_mixed
  · exact ok__law_caught
  · exact ok__law_is_whole
  · exact ok__law_odd
  · exact ok__law_is_from
  · exact ok__law_prime
  · exact ok__law_no_prime
  · exact ok__law_is_poly
  · exact ok__law_dict
  · exact ok__law_poly_of
  · exact ok__law_added
  · exact ok__law_product
  · exact ok__law_plus
  · exact ok__law_less
  · exact ok__law_times
  · exact ok__law_poly
  · exact ok__law_some
  · exact ok__law_no_poly
  · exact ok__law_said
  · exact ok__law_sum_of
  · exact ok__law_is_row
  · exact ok__law_row
  · exact ok__law_bad_row
  · exact ok__law_number
  · exact ok__law_are_ones
  · exact ok__law_made
  · exact ok__law_near
  · exact ok_law
theorem free_ok : ∀ x ∈ bltNs, x ∈ M0.free := by decide +kernel
theorem ty_ok : ∀ p ∈ M0.vals, tyB M0.free p := by
  intro p h
  have h : p ∈ M0.vals := h
  unfold M0 at h
  simp only [List.mem_cons, List.not_mem_nil, or_false] at h
  rcases h with rfl | rfl | rfl | rfl | rfl | rfl | rfl | rfl | rfl | rfl | rfl
  all_goals first | exact True.intro | exact ⟨by decide +kernel, by decide +kernel, by decide +kernel⟩
theorem ini_ok : ∀ i ∈ M0.inis, i.Ok := by
  intro i h
  have h : i ∈ [] := h
  simp only [List.mem_cons, List.not_mem_nil, or_false] at h

theorem tab_ok : ∀ y z, M0.tab.lookup y = some z → y = "law" ∧ z = (1, (("law" : Str) ++ ".<locals>.") ++ "<lambda>") := by
  intro y z h
  have hm := lookup_mem h
  have hm : (y, z) ∈ [(("law" : Str), (1, ("law.<locals>.<lambda>" : Str)))] := hm
  have := List.mem_singleton.mp hm
  cases this
  exact ⟨rfl, by decide +kernel⟩
theorem pure_ok : ∀ ns : List Int, ns.length ≤ 63 → (∀ z ∈ ns, Builtin.Int.intBits z ≤ 1048576) → ∃ S', M0.call 40 "law" [.ref 0] [.fro (ns.map .int), .tab "law" ((("law" : Str) ++ ".<locals>.") ++ "<lambda>")] = .ok (.bl true) S' := fun ns h _ => law_pure h
end Law
open PySem PySem.W PySem.Calls PyProof.Rows
theorem PySem.Challenge.cw_rowsfilled_k24_multiples_that_come_to_on_holds : PySem.Challenge.rw_rowsfilled_k24_multiples_that_come_to_on.Holds := by
  w_on; o_law
  refine HandSHeadRun.head_any (r := OpenLaw.row PySem.Challenge.rw_rowsfilled_k24_multiples_that_come_to_on) (q := view (OpenLaw.row PySem.Challenge.rw_rowsfilled_k24_multiples_that_come_to_on).prog [55]) (H := Law.hk) (ob := Law.ob) (M := 4000) (loose := [("is_number" : PySem.Str), ("is_number_within" : PySem.Str), ("is_prime" : PySem.Str), ("is_term" : PySem.Str), ("is_poly_of" : PySem.Str), ("check_prime" : PySem.Str), ("gathered" : PySem.Str), ("add_product" : PySem.Str), ("is_row_of" : PySem.Str), ("check_row" : PySem.Str), ("sum_of_products" : PySem.Str), ("are_ones" : PySem.Str), ("_law_begun" : PySem.Str), ("_law_draw" : PySem.Str), ("_law_pick" : PySem.Str), ("_law_mixed" : PySem.Str), ("_law_caught" : PySem.Str), ("_law_is_whole" : PySem.Str), ("_law_odd" : PySem.Str), ("_law_is_from" : PySem.Str), ("_law_prime" : PySem.Str), ("_law_no_prime" : PySem.Str), ("_law_is_poly" : PySem.Str), ("_law_dict" : PySem.Str), ("_law_poly_of" : PySem.Str), ("_law_added" : PySem.Str), ("_law_product" : PySem.Str), ("_law_plus" : PySem.Str), ("_law_less" : PySem.Str), ("_law_times" : PySem.Str), ("_law_poly" : PySem.Str), ("_law_some" : PySem.Str), ("_law_no_poly" : PySem.Str), ("_law_said" : PySem.Str), ("_law_sum_of" : PySem.Str), ("_law_is_row" : PySem.Str), ("_law_row" : PySem.Str), ("_law_bad_row" : PySem.Str), ("_law_number" : PySem.Str), ("_law_are_ones" : PySem.Str), ("_law_made" : PySem.Str), ("_law_near" : PySem.Str), ("FillError" : PySem.Str), ("BadPrime" : PySem.Str), ("BadRow" : PySem.Str), ("MOST_POWER" : PySem.Str), ("ONE" : PySem.Str), ("SIZES" : PySem.Str)]) (d := HandSHeadRun.topDef (OpenLaw.row PySem.Challenge.rw_rowsfilled_k24_multiples_that_come_to_on).prog 55) (kwd := []) Law.ob_eq
    (by kernel_rfl) (fun s => by kernel_rfl) Law.run (by kernel_rfl) (by kernel_rfl) (by kernel_rfl) (by rfl) (by first | assumption | decide +kernel) (by decide +kernel) ⟨rfl, rfl, rfl, rfl, rfl, by decide +kernel⟩ ?hw ?hc
  case hw => w_witness2
  case hc =>
    have e : (HandSHeadRun.topDef (OpenLaw.row PySem.Challenge.rw_rowsfilled_k24_multiples_that_come_to_on).prog 55).name = ("law" : PySem.Str) := by kernel_rfl
    refine Dp.walk_mo (l := PySem.Challenge.rw_rowsfilled_k24_multiples_that_come_to_on) (n := 63) (k := 40) (m := 4) Law.M0 Law.d_law rfl (by decide) (by kernel_rfl) ⟨rfl, by decide, by decide⟩ (by kernel_rfl) (by rw [e]; rfl) rfl (by decide +kernel) Law.all_ok Law.free_ok Law.ty_ok (by decide +kernel) Law.ini_ok (by rw [e]; exact Law.tab_ok) (by rw [e]; exact Law.pure_ok)
