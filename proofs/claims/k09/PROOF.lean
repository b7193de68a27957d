import PyProof.Rows.All
import Wide.All
import OpenK.AllK
import Wide.FinOn
import HandS.ForMost
import HandS.Strs
import HandS.Sort
import HandS.SortInts
import HandS.IsInst
import HandS.Zip
import HandS.Deep
import HandS.TupLe
import HandS.TupAny
import HandS.Style
import HandS.Walk
import HandS.EndBits
import KE.SortData
import HandS.More
import HandS.Codes
import HandS.ExcInit
import HandS.ExcField
import HandS.ExcOwn
import HandS.WordsExc
import KE.KExcIs
import HandS.HeadHook1
import HandS.Small
import KE.KStateDown
import Lean
import HandS.Defaults
import HandS.Head0
import HandS.Head1
import HandS.Head2
import HandS.HeadEnd
import HandS.HeadHook2
import HandS.HeadHook4
import PySem.Challenge.RW_pressnotes_k09_stacks
set_option Elab.async false
set_option linter.all false
set_option maxRecDepth 100000
set_option maxHeartbeats 4000000
namespace Pn
open PySem PySem.Spec PyProof.Rows L2
/-! ### Rules of our own: text times int, sorted of data, repr of data -/
theorem op_repS {X : Cx} : OpR X (binaryOp .Mult) (fun x y H Q => ∃ (z : Str) (n : Int), x = .str z ∧ y = .int n ∧ MulOk z n ∧ Q (.str (Txt.mul z n)) H) := by
  intro pins s σ H x y v u Q I rx ry h
  obtain ⟨z, n, rfl, rfl, ok, q⟩ := h
  obtain ⟨t, rfl⟩ := rx
  obtain ⟨t2, rfl⟩ := ry
  exact SB.mul ok fun t3 k => ⟨.str _, H, I.tok _, ⟨_, rfl⟩, q⟩
section
variable {X : Cx} {pins : List (Addr × Obj)} {σ : L2.St} {H : Hp} {s : Shared}
theorem each_rel : ∀ {ys : List V} {ds : List PyData} {us : List Value}, DpAll X.K H ys ds → Vals ys us → PySem.W.EachIs (fun (v : Value) (b : V × PyData) => RelV b.1 v) us (ys.zip ds)
  | _, _, _, .nil, .nil => .nil
  | _, _, _, .cons _ d, .cons r t => .cons r (each_rel d t)
theorem each_reads (I : Inv X pins σ H s) : ∀ {ys : List V} {ds : List PyData} {us : List Value}, DpAll X.K H ys ds → Vals ys us →
    PySem.W.EachIs (fun (v : Value) (b : V × PyData) => ∃ as, Reads s.heap v b.2 as) us (ys.zip ds)
  | _, _, _, .nil, .nil => .nil
  | _, _, _, .cons d1 d, .cons r t => .cons (Dp.reads I _ _ _ d1 r) (each_reads I d t)
theorem zip_snd : ∀ {ys : List V} {ds : List PyData}, DpAll X.K H ys ds → (ys.zip ds).map Prod.snd = ds
  | _, _, .nil => rfl
  | _, _, .cons _ d => by rw [List.zip_cons_cons, List.map_cons, zip_snd d]
theorem zip_len : ∀ {ys : List V} {ds : List PyData}, DpAll X.K H ys ds → (ys.zip ds).length = ys.length
  | _, _, .nil => rfl
  | _, _, .cons _ d => by rw [List.zip_cons_cons, List.length_cons, List.length_cons, zip_len d]
theorem vals_each : ∀ {bs : List (V × PyData)} {out : List Value}, PySem.W.EachIs (fun (v : Value) (b : V × PyData) => RelV b.1 v) out bs → Vals (bs.map Prod.fst) out
  | _, _, .nil => .nil
  | _, _, .cons r t => .cons r (vals_each t)
end
/-- what sorted makes of the values ys that read as the data ds -/
def sortD (ys : List V) (ds : List PyData) : List V := ((ys.zip ds).mergeSort (PySem.W.dataLe false Prod.snd)).map Prod.fst
def rSortedD (K : PySem.W.Frag) : List V → Hp → VK → Prop := fun xs H Q => ∃ (a : Addr) (ys : List V) (ds : List PyData), xs = [.ref a] ∧ SqL K H a ys ∧ DpAll K H ys ds ∧
  PySem.W.AllAlike ds ∧ PySem.W.Sortable ds ∧ (∀ d ∈ ds, d.depth ≤ 60) ∧ ∀ p, H p = none → Q (.ref p) (upd H p (.lst (sortD ys ds)))
theorem cr_sortedD {X : Cx} {k : Nat} (hr : Room k X.A) : CallR X (.builtin "sorted") (rSortedD X.K) := by
  intro pins s σ H vs us Q I r h
  obtain ⟨a, ys, ds, rfl, hs, hd, h1, h2, h3, q⟩ := h
  obtain ⟨its, rv, hl, hz⟩ := I.list hs
  rw [Vals.ref1 r]
  have un := hr.un
  refine PySem.W.sorted_data (enc := Prod.snd) (R := fun (v : Value) (b : V × PyData) => RelV b.1 v) (bs := ys.zip ds) hl.isList (each_rel hd rv) (each_reads I hd rv) (by rw [zip_snd hd]; exact h1) (by rw [zip_snd hd]; exact h2) (by rw [zip_len hd]; exact hz)
    (fun b hb => ?_) (fun out ho he => ?_)
  · have z := h3 b.2 (by rw [← zip_snd hd]; exact List.mem_map.mpr ⟨b, hb, rfl⟩)
    omega
  · obtain ⟨ep, he'⟩ := PyProof.Rows.sortedAll_at s.heap its out.toArray
    have rv2 := vals_each he
    have hlen : (sortD ys ds).length ≤ sizeLine := by
      unfold sortD
      rw [List.length_map, List.length_mergeSort, zip_len hd]
      exact hz
    exact ⟨.ref _, upd H (s.heap.objs.size + 1) (.lst (sortD ys ds)), I.laid (t' := s.toks) (fun _ _ => PyProof.Rows.sortedAll_old) (Nat.le_succ _) ⟨hlen, out, ep, rv2, he'⟩, rfl, q _ (I.hok.fresh (Nat.le_succ _))⟩
def rRepr (K : PySem.W.Frag) : List V → Hp → VK → Prop := fun xs H Q => ∃ (a : Addr) (d : PyData), xs = [.ref a] ∧ Dp K H (.ref a) d ∧ d.showable = true ∧ d.hasDict = false ∧ d.depth ≤ 60 ∧ d.shown.length ≤ sizeLine ∧ Q (.str d.shown) H
theorem cr_repr {X : Cx} {k : Nat} (hg : X.A.guards = some []) (hr : Room k X.A) : CallR X (.builtin "repr") (rRepr X.K) := by
  intro pins s σ H vs us Q I r h
  obtain ⟨a, d, rfl, hd, h1, h2, h3, h4, q⟩ := h
  rw [Vals.ref1 r]
  have un := hr.un
  obtain ⟨as, rd⟩ := Dp.reads I d _ _ hd rfl
  exact repr_of_reads' rd h1 (PyData.noDict_hsm h2) hg (by omega) (fun _ _ e => e) (fun h' u tk hk => ⟨.str _, H, I.kept hk, ⟨u, rfl⟩, q⟩) h4
/-- a walk over a range within a comprehension of two fors -/
theorem rng_w {lo : Int} {n : Nat} {H0 : Hp} {B : V → Hp → (Hp → Prop) → Prop} {Qd : Hp → Prop} (Pv : Nat → Hp → Prop) (h0 : Pv 0 H0)
    (hs : ∀ i H, i < n → Pv i H → B (.int (lo + i)) H (Pv (i + 1))) (hd : ∀ H, Pv n H → Qd H) :
    ∃ W : Nat → Nat → Hp → Prop, (∃ m, W 0 m H0) ∧ ∀ i m H, W i m H → ((Itr lo n).stop i H ∧ Qd H) ∨
      ((Itr lo n).go i H ∧ ∃ Nx : Hp → Prop, (∀ H', Nx H' → ∃ m', m' < m ∧ W (i + 1) m' H') ∧ ∀ x H', (Itr lo n).yld i H x H' → B x H' Nx) := by
  refine ⟨fun i m H => m + i = n ∧ Pv i H, ⟨n, rfl, h0⟩, ?_⟩
  rintro i m H ⟨e, p⟩
  by_cases c : i < n
  · refine Or.inr ⟨c, Pv (i + 1), fun H' p' => ⟨m - 1, by omega, by omega, p'⟩, fun x H' y => ?_⟩
    obtain ⟨rfl, rfl⟩ := y
    exact hs i _ c p
  · have z : i = n := by omega
    subst z
    exact Or.inl ⟨Nat.le_refl _, hd H p⟩
/-! a tuple that is known to have no dict (so that its methods can be called) -/
def Tpl (o : Obj) : Prop := o.cls = .type "tuple" ∧ o.dict = none
def tTupF (t : TA) : TE := fun σ H Q => t σ H fun xs H1 => xs.length ≤ sizeLine ∧ ∀ p o, H1 p = none → Tpl o → Q (.ref p) (upd H1 p (.frz o (.tup xs)))
theorem pe_tupF {X : Cx} {es : List Expr} {t : TA} {pos : Pos} {x1} (h : PA X es t) : PE X (.Tuple es x1 pos) (tTupF t) := by
  constructor
  intro pins s σ H Q I hq
  refine wpAny_Tuple_spliced (thn (h.run pos pins s σ H _ I hq) ?_)
  rintro us s1 ⟨xs, H1, I1, r, z, q⟩
  refine ⟨by rw [← r.length]; exact z, ?_⟩
  have new : (s1.heap.push { cls := .type "tuple", data := .seq us.toArray }).get? s1.heap.objs.size = some { cls := .type "tuple", data := .seq us.toArray } := Heap.get?_push_size _ rfl
  exact ⟨.ref s1.heap.objs.size, upd H1 _ (.frz { cls := .type "tuple", data := .seq us.toArray } (.tup xs)), I1.laid (t' := s1.toks) (fun _ _ e => Heap.get?_push_of_some _ e) (Nat.le_refl _) ⟨new, z, us, r, _, new, rfl, _, rfl⟩, rfl,
    q _ _ (I1.hok.fresh (Nat.le_refl _)) ⟨rfl, rfl⟩⟩
def tBMF (r : V → List V → Hp → VK → Prop) (to : TE) (t : TA) : TE := fun σ H Q => to σ H fun x H1 => (∃ p o u, x = .ref p ∧ H1 p = some (.frz o u) ∧ Tpl o) ∧ t σ H1 fun xs H2 => r x xs H2 Q
theorem pe_bmF {X : Cx} {o e : Expr} {es : List Expr} {to : TE} {t : TA} {name : Str} {apos cpos : Pos} {id : String} {r : V → List V → Hp → VK → Prop}
    (pa : PlainAttrs "tuple") (slot : Slot "tuple" name id) (hty : typeOf (.builtin id) = pure (.type "method_descriptor")) (hm : MtR X id r) (ho : PE X o to) (ha : PA X (e :: es) t)
    (hb : attributeBase o name X.env (eval o X.env) = eval o X.env := by rfl)
    (hf : ((backTo cpos (starEach (e :: es) X.env)).all (fun x => !x.1) && (backToKw cpos (keywordEach [] X.env)).all (fun x => x.1.isSome) && decide ((e :: es).length + ([] : List Keyword).length + (if ([] : List Keyword).isEmpty then 0 else 1) < 30)) = true := by rfl)
    (hl : (apos.endLine == cpos.line) = true := by rfl) (hs : starEach (e :: es) X.env = (false, eval e X.env) :: starEach es X.env := by rfl) (hp : (backTo cpos (starEach es X.env)).any (·.1) = false := by rfl) :
    PE X (.Call (.Attribute o name apos) (e :: es) [] cpos) (tBMF r to t) := by
  constructor
  intro pins s σ H Q I h
  refine wpAny_Call_method_late hb hf hl rfl (thn (ho.run pins s σ H _ I h) ?_)
  rintro v s1 ⟨x, H1, I1, r1, ⟨p, ob, u, rfl, hfz, hc, hd⟩, q1⟩
  obtain rfl : v = .ref p := r1
  obtain ⟨at1, _⟩ := I1.hok p _ hfz
  refine ⟨"tuple", id, pa, slot, hty, ⟨ob, at1, hc⟩, fun a e => by cases e; exact ⟨ob, at1, hd⟩, ?_⟩
  have run := ha.run cpos pins s1 σ H1 _ I1 q1
  rw [hs] at run ⊢
  refine Calls.callWith_builtin (by show (false || (backTo cpos (starEach es X.env)).any (·.1)) = false; rw [hp]; rfl) (Calls.evalArgs_plain ?_)
  exact thn run fun us s2 ⟨vs, H2, I2, r2, q2⟩ => hm pins s2 σ H2 (.ref p) vs (.ref p) us Q I2 rfl r2 q2
/-! ### sorted of a dict whose keys are ints, however many -/
def rSortDI : List V → Hp → VK → Prop := fun xs H Q => ∃ (a : Addr) (kvs : List (Key × V)) (ks : List Int), xs = [.ref a] ∧ Rd H a (.dK kvs) ∧ kvs.map (·.1) = ks.map Sum.inl ∧ ks.length ≤ 100000 ∧
  ∀ (ys : List Int) (p : Addr), ys.Perm ks → ys.Pairwise (· ≤ ·) → H p = none → Q (.ref p) (upd H p (.lst (ys.map V.int)))
theorem cr_sortDI {X : Cx} (calm : X.calm = true) : CallR X (.builtin "sorted") rSortDI := by
  intro pins s σ H xs us Q I r h
  obtain ⟨a, kvs, ks, rfl, hd, keys, long, q⟩ := h
  rw [Vals.ref1 r]
  obtain ⟨z, lo, vs, rel, dd⟩ := dk_rd I.hok hd
  obtain ⟨ep, at1⟩ := dd.dictAt
  have vkeys : vs.map (·.1) = ks.map Sum.inl := rel.keys.symm.trans keys
  have len1 : vs.length = ks.length := by simpa using congrArg List.length vkeys
  have line : ks.length ≤ sizeLine := Nat.le_trans long (by decide)
  refine (Calls.call_function_entry PyProof.Rows.kind_sorted PyProof.Rows.plain_sorted PyProof.Rows.entry_sorted (PyProof.Rows.args_sorted1 _) ?_); unfold Builtin.«sorted»
  refine (wpAny_bind (m := checkCount "sorted" 1 1 _) (wpAny_pure ?_))
  refine wpAny_bind (PySem.W.kdu_collect (A := X.A.in1) (PySem.W.kdl_dict (knd := mixKind X.prog X.w) (kvs := vs) (ep := ep) lo) (I.ok.hd calm) at1 (by rw [len1]; exact line) fun h1 tk acc keep got => ?_)
  have len2 : acc.toList.length = ks.length := by rw [Array.length_toList, got.1, len1]
  have ints1 : IntsAre acc.toList ks := ints_each len2 fun j v e => by
    obtain ⟨k, x, e1, e2⟩ := got.2 j v (by rw [← Array.getElem?_toList]; exact e)
    have e3 : (vs.map (·.1))[j]? = some k := by rw [List.getElem?_map, e1]; rfl
    rw [vkeys, List.getElem?_map] at e3
    obtain ⟨y, e4, e5⟩ : ∃ y, ks[j]? = some y ∧ Sum.inl y = k := by
      cases e4 : ks[j]? with
      | none => rw [e4] at e3; cases e3
      | some y => rw [e4] at e3; exact ⟨y, rfl, Option.some.inj e3⟩
    subst e5
    rcases keyIs_shape (show keyIs (Sum.inl y) v = true from e2) with ⟨i, t, ek, ev⟩ | ⟨z, t, ek, ev⟩
    · cases ek
      exact ⟨y, t, e4, ev⟩
    · cases ek
  have J : Inv X pins σ H { s with heap := h1, toks := tk } := I.kept keep
  refine wpAny_bind (wpAny_newList ?_ (by rw [len2]; exact line))
  have new : (h1.push (seqObj "list" acc.toList.toArray 0)).get? h1.objs.size = some (seqObj "list" acc.toList.toArray 0) := Heap.get?_push_size _ rfl
  show wpAny _ _ _ _ _ { s with toks := tk, heap := h1.push (seqObj "list" acc.toList.toArray 0) }
  refine wpAny_bind (wpAny_holding (wpAny_call_entry PyProof.Rows.slot_list_sort ⟨_, new, rfl⟩ PyProof.Rows.entry_list_sort (SrtO.list_sort_ord SrtO.swo_int new (by rw [len2]; exact line) (fun h2 => SrtO.ints_sortable ints1 h2) fun out o1 o2 => ⟨_, rfl, ?_⟩) (PyProof.Rows.args_list_sort _)))
  obtain ⟨g1, g2, g3⟩ := SrtO.ints_out ints1 o1 o2
  obtain ⟨en, at2⟩ := PyProof.Rows.sortedHeap_at (vs := acc.toList) (out := out.toArray) new
  have len3 : ((out.map SrtO.iv).map V.int).length ≤ sizeLine := by rw [List.length_map, g2.length_eq]; exact line
  refine wpAny_pure ⟨_, rfl, .ref h1.objs.size, upd H _ (.lst ((out.map SrtO.iv).map V.int)), J.laid (t' := tk) (fun b u e => ?_) (Nat.le_refl _) ⟨len3, out, en, vals_of_ints g1, at2⟩, rfl, q _ _ g2 g3 (J.hok.fresh (Nat.le_refl _))⟩
  have lt : b < h1.objs.size := Heap.lt_size e
  rw [PyProof.Rows.sortedHeap_old (Nat.ne_of_lt lt) (by rw [size_push']; exact Nat.lt_succ_of_lt lt)]
  exact (Heap.get?_push_of_some _ e)
/-! ### A def that is run where no repr is under way, and a law's end over it -/
structure FnG (P : Program) (w : World) (K : PySem.W.Frag) (mg : Str → Option Value) (base : Heap) (k : Nat) (f : Addr)
    (fd : FuncData) (ps : List Str) (sp : Sp) : Prop where
  len : ∀ vs H Q E, sp vs H Q E → vs.length = ps.length
  run : ∀ (A : Around) (outer : List Env) (s : Shared) (H : Hp) (args : Args) (us : List Value) (vs : List V) (Q : VK) (E : XK),
    Room k A → A.guards = some [] → Env0 P w K mg base A outer s H → BindsTo s fd args (ps.zip us) → Vals vs us → sp vs H Q E →
    codeAny (model P w) A (.call (.ref f) args) (CR CX0 outer P w H s Q E) s
section
variable {P : Program} {w : World} {K : PySem.W.Frag} {mg : Str → Option Value} {base : Heap}
/-- a body's walk, told that no repr is under way -/
theorem okG {x qual : Str} {st : Stmt} {f : Addr} {fd : FuncData} {N ps : List Str} {k : Nat} {sp : Sp}
    (F : Fun K x qual st f fd) (S : FnScope N ps (defScope st)) (hlen : ∀ vs H Q E, sp vs H Q E → vs.length = ps.length)
    (hb : ∀ (cdv : Value) (A : Around) (outer : List Env) (s : Shared) (H : Hp) (vs : List V) (Q : VK) (E : XK),
      Room k (A.deeper (envOfC qual (defScope st) s.heap.objs.size f cdv)) → (A.deeper (envOfC qual (defScope st) s.heap.objs.size f cdv)).guards = some [] →
      sp vs H Q E → ∃ t, PSs (cxOf CX0 P w K mg base N qual (defScope st) f cdv A outer s H E).nox (defBody st) t ∧
        t { nx := fun _ H' => Q .non H', rt := Q } (start N vs) H) : FnG P w K mg base (k + 1) f fd ps sp := by
  obtain ⟨oc, od, kV, doc, pm, an, cdv, ct, osl, rfl, lk, hcd⟩ := F.ex
  refine ⟨hlen, fun A outer s H args us vs Q E room gu e0 bind rel wish => ?_⟩
  have lv := hlen _ _ _ _ wish
  have old : ∀ b o, base.get? b = some o → s.heap.get? b = some o := fun b o e => (e0.bs b o e).1
  have inK : K.In s.heap := e0.mod.kin.keeps old
  refine codeAny_call_function room.depth (inK _ _ lk) rfl S.co S.gen rfl (PySem.W.codeRec_of inK hcd) (bind _ _ _ _ ?_)
  refine wpAny_newFunctionEnv_cells S.kind (fun y hy => ?_) fun env ee s1 x1 => ?_
  · obtain ⟨n, v⟩ := y
    cases S.par n (List.of_mem_zip hy).1 with
    | inl q => exact Or.inl q
    | inr q => exact Or.inr ⟨q, PySem.W.cellsFrom_some _ _ _ (Or.inl q)⟩
  subst ee
  refine ⟨(e0.mod.nolimit.keeps old).keeps x1.toInCall.keep, codeAny_func ?_⟩
  obtain ⟨t, ht, hq⟩ := hb cdv A outer s H vs Q E (room.deeper _) gu wish
  have I0 := inv_start (CX := CX0) (E := E) S room.hd e0 lv rel x1
  refine wpAny_mono (ht.nox.run [] s1 (start N vs) H _ I0 hq) (fun fl s2 hs => ?_) fun _ _ z => z
  cases fl with
  | ret u =>
    obtain ⟨v, σ2, H2, J, rv, q⟩ := hs
    exact ⟨v, H2, J.os, J.bare, J.base, J.hok, rv, q⟩
  | next =>
    obtain ⟨σ2, H2, J, q⟩ := hs
    exact ⟨.non, H2, J.os, J.bare, J.base, J.hok, rfl, q⟩
  | brk => exact hs.choose_spec.choose_spec.2.elim
  | cont => exact hs.choose_spec.choose_spec.2.elim
end
section
variable {P : Program} {w : World} {K : PySem.W.Frag} {mg mb : Str → Option Value} {k : Nat} {fa a : Addr} {fd : FuncData} {x : Str} {sp : Sp} {s1 : Shared} {vs : List Value} {ns : List Int}
/-- what the caller is told of the law's call -/
def Told (s1 : Shared) (r : Result) (s' : Shared) : Prop := r = .ok (.ret (.bool true)) ∧ OldK s1.heap s'.heap ∧ s'.os = s1.os ∧ AllBare s'.gens
theorem told_from (H : Hp) (kin : K.In s1.heap) (glob : s1.heap.Ns mainGlobals mg) (blt : s1.heap.Ns builtinsNs mb) (same : ∀ y : Str, y ≠ "__name__" → mb y = bootBuiltins y) (lim : s1.heap.NoLimit) (bare : s1.gens = #[])
    (obj : s1.heap.get? a = some { cls := .type "list", data := .seq vs.toArray }) (room : Room k callerA)
    (F : ∀ base : Heap, K.In base → base.Ns mainGlobals mg → FnG P w K mg base k fa fd [x] sp) (bind : ∀ (s : Shared) (u : Value), BindsTo s fd ⟨[u], []⟩ [(x, u)])
    (only : Only H) (wish : sp [.ref a] H (fun v _ => v = .bl true) fun _ _ _ => False) (hok : HOk P w H s1.heap) (self : ∀ b u, H b = some u → b = a ∧ K.lookup a = none) :
    codeAny (model P w) callerA (.call (.ref fa) ⟨[.ref a], []⟩) (Told s1) s1 := by
  have free : ∀ b, (b ≠ a ∨ K.lookup a ≠ none) → H b = none := fun b hb => by
    cases e : H b with
    | none => rfl
    | some u =>
      obtain ⟨e1, e2⟩ := self b u e
      cases hb with
      | inl n => exact absurd e1 n
      | inr n => exact absurd e2 n
  have nsB : ∀ {b : Addr} {m : Str → Option Value}, s1.heap.Ns b m → (hidT s1.heap H).Ns b m := by
    rintro b m ⟨o, es, ep, e, d, r⟩
    refine ⟨o, es, ep, hidT_get e (free b (Or.inl fun z => ?_)), d, r⟩
    subst z
    rw [obj] at e
    cases e
    exact nomatch d
  have kinB : K.In (hidT s1.heap H) := fun b o e => by
    refine hidT_get (kin b o e) ?_
    by_cases z : b = a
    · subst z
      exact free b (Or.inr (by rw [e]; exact fun q => nomatch q))
    · exact free b (Or.inl z)
  have limB : (hidT s1.heap H).NoLimit := by
    obtain ⟨mc, h1, h2⟩ := lim
    exact ⟨mc, nsB h1, h2⟩
  have env : Env0 P w K mg (hidT s1.heap H) callerA [] s1 H :=
    { frames := rfl, mod := ⟨kinB, nsB glob, ⟨mb, nsB blt, same⟩, limB⟩, bs := fun _ _ e => of_hidT e, bsz := Nat.le_of_eq (hidT_size _ _), funs := trivial,
      frf := fun b z => (List.not_mem_nil (show b ∈ ([] : List Addr) from z)).elim, hok := hok, bare := .of_eq bare }
  refine codeAny_mono ((F _ kinB (nsB glob)).run callerA [] s1 H ⟨[.ref a], []⟩ [.ref a] [.ref a] _ _ room rfl env (bind s1 _) (.cons rfl .nil) wish) ?_
  rintro (e | fl) s2 h
  · exact (show False from h).elim
  · cases fl with
    | ret u =>
      obtain ⟨v, H2, os2, bare2, un, hok2, rel, q⟩ := h
      have q : v = V.bl true := q
      subst q
      obtain rfl : u = Value.bool true := rel
      refine ⟨rfl, OldK.of_keep fun b o e => ?_, os2, bare2⟩
      cases z : H b with
      | none => exact un.keep b o e z (fun y => List.not_mem_nil (show b ∈ ([] : List Addr) from y)) List.not_mem_nil
      | some u =>
        obtain y | ⟨ob, xs, y⟩ := only b
        · rw [z] at y
          cases y
        · obtain ⟨g1, _⟩ := hok b _ y
          obtain ⟨g2, _⟩ := hok2 b _ (un.frzs b ob _ y)
          rw [e] at g1
          cases g1
          exact g2
    | next => exact h.elim
    | brk => exact h.elim
    | cont => exact h.elim
theorem told_law (kin : K.In s1.heap) (glob : s1.heap.Ns mainGlobals mg) (blt : s1.heap.Ns builtinsNs mb) (same : ∀ y : Str, y ≠ "__name__" → mb y = bootBuiltins y) (lim : s1.heap.NoLimit) (bare : s1.gens = #[])
    (obj : s1.heap.get? a = some { cls := .type "list", data := .seq vs.toArray }) (are : IntsAre vs ns) (long : ns.length ≤ sizeLine) (room : Room k callerA)
    (F : ∀ base : Heap, K.In base → base.Ns mainGlobals mg → FnG P w K mg base k fa fd [x] sp) (bind : ∀ (s : Shared) (u : Value), BindsTo s fd ⟨[u], []⟩ [(x, u)])
    (wish : ∀ H : Hp, SqL K H a (ns.map V.int) → sp [.ref a] H (fun v _ => v = .bl true) fun _ _ _ => False) :
    codeAny (model P w) callerA (.call (.ref fa) ⟨[.ref a], []⟩) (Told s1) s1 := by
  have rv := vals_ints are
  have nl := are.length
  cases hk : K.lookup a with
  | some o =>
    have e := kin a o hk
    rw [obj] at e
    cases e
    have sq : SqL K (fun _ => none) a (ns.map V.int) := Or.inr ⟨_, vs.toArray, _, hk, rfl, rfl, rfl, by rw [List.size_toArray, nl]; exact long, by simpa using rv⟩
    exact told_from (fun _ => none) kin glob blt same lim bare obj room F bind (fun _ => Or.inl rfl) (wish _ sq) (fun _ _ z => nomatch z) fun _ _ z => nomatch z
  | none =>
    have h1 : upd (fun _ => none) a (.frz { cls := .type "list", data := .seq vs.toArray } (.lst (ns.map V.int))) a = some (.frz { cls := .type "list", data := .seq vs.toArray } (.lst (ns.map V.int))) := upd_same
    have at_ : ∀ b u, upd (fun _ => none) a (.frz { cls := .type "list", data := .seq vs.toArray } (.lst (ns.map V.int))) b = some u → b = a ∧ u = .frz { cls := .type "list", data := .seq vs.toArray } (.lst (ns.map V.int)) := fun b u z => by
      by_cases e : b = a
      · subst e
        rw [h1] at z
        exact ⟨rfl, (Option.some.inj z).symm⟩
      · rw [upd_ne e] at z
        exact nomatch z
    refine told_from _ kin glob blt same lim bare obj room F bind (fun b => ?_) (wish _ (Or.inl (Or.inr ⟨_, h1⟩))) (fun b u z => ?_) fun b u z => ⟨(at_ b u z).1, hk⟩
    · by_cases e : b = a
      · rw [e, h1]
        exact Or.inr ⟨_, _, rfl⟩
      · exact Or.inl (upd_ne e)
    · obtain ⟨e1, e2⟩ := at_ b u z
      subst e1
      subst e2
      exact ⟨obj, by rw [List.length_map]; exact long, vs, _, rv, obj⟩
end
/-- a law's end, its def told that no repr is under way -/
theorem walkG {l : PySem.W.OpenLaw} {n k : Nat} {q : Program} {loose : List Str} {XP : (Str → Option Value) → Heap → Prop} {YP : World → Heap → Prop} {d : DefRec} {x : Str} {sp : PySem.W.Frag → Sp}
    (hn : l.most = some n) (hn2 : n ≤ sizeLine) (hdf : d.params.defaults = []) (hr : Room k callerA)
    (F : ∀ (w : World) (mg : Str → Option Value) (fa : Addr) (h : Heap), YP w h → h.Ns mainGlobals mg → mg d.name = some (.ref fa) →
      ∃ (K : PySem.W.Frag) (fd : FuncData), K.In h ∧ (∀ (s : Shared) (u : Value), BindsTo s fd ⟨[u], []⟩ [(x, u)]) ∧
        ∀ base : Heap, K.In base → base.Ns mainGlobals mg → FnG l.prog w K mg base k fa fd [x] (sp K))
    (hsp : ∀ (K : PySem.W.Frag) (H : Hp) (a : Addr) (ns : List Int), ns.length ≤ n → SqL K H a (ns.map V.int) → sp K [.ref a] H (fun v _ => v = .bl true) fun _ _ _ => False) :
    PySem.W.WalkO q loose XP YP l.row.toRowW d [] (fun f vs => PySem.call f vs) := by
  refine Att.attach_call hn hdf fun w s0 s1 mg mb fa o pm cd doc a vs ns G Y ho hd hcd hmg hobj hints hlen hg => ?_
  obtain ⟨K, fd, kin, hb, hF⟩ := F w mg fa _ Y G.T.g hmg
  exact told_law kin G.T.g G.T.b G.T.builtins G.T.nolimit hg hobj hints (Nat.le_trans hlen hn2) hr hF hb fun H sq => hsp K H a ns hlen sq

theorem mod_lo (x y : Int) (h : 0 < y) : 0 ≤ x.fmod y := Int.fmod_nonneg_of_pos _ h
theorem mod_hi (x y : Int) (h : 0 < y) : x.fmod y < y := Int.fmod_lt_of_pos _ h
/-- the feed at f: its cells, a counter of at most n, what is left of a great number -/
def Fd (H : Hp) (f c : Addr) (n : Int) : Prop := ∃ (cells : List Int) (at_ g : Int),
  H f = some (.lst [.ref c, .int at_, .int g]) ∧ H c = some (.lst (cells.map V.int)) ∧ cells.length ≤ 63 ∧ 0 ≤ at_ ∧ at_ ≤ n
theorem fd_ne {H : Hp} {f c : Addr} {cells : List Int} {a g : Int} (hf : H f = some (.lst [.ref c, .int a, .int g])) (hc : H c = some (.lst (cells.map V.int))) : c ≠ f := by
  refine ne_of hc hf fun z => ?_
  have z := HO.lst.inj z
  cases cells with
  | nil => cases z
  | cons x r => rw [List.map_cons] at z; cases z
theorem at_mod {cells : List Int} (a : Int) (h : 0 < cells.length) : ∃ v, atI (cells.map V.int) (a.fmod (((cells.map V.int).length : Nat) : Int)) = some (.int v) := by
  have hp : (0 : Int) < (((cells.map V.int).length : Nat) : Int) := by rw [List.length_map]; omega
  have h1 := mod_lo a _ hp
  have h2 := mod_hi a _ hp
  rw [List.length_map] at h1 h2 ⊢
  obtain ⟨k, hk⟩ : ∃ k : Nat, a.fmod ((cells.length : Nat) : Int) = (k : Int) := ⟨(a.fmod ((cells.length : Nat) : Int)).toNat, by omega⟩
  rw [hk] at h2 ⊢
  have hk2 : k < cells.length := by omega
  exact ⟨cells[k], atI_nat (by rw [List.getElem?_map, List.getElem?_eq_getElem hk2] <;> rfl)⟩
/-- what drawing leaves: all but the feed as it was -/
def But (f : Addr) (H H' : Hp) : Prop := ∀ a o, a ≠ f → H a = some o → H' a = some o
theorem But.refl (f : Addr) (H : Hp) : But f H H := fun _ _ _ h => h
theorem But.trans {f : Addr} {H H1 H2 : Hp} (a : But f H H1) (b : But f H1 H2) : But f H H2 := fun x o n h => b x o n (a x o n h)
theorem But.of_same {f : Addr} {H H' : Hp} (s : Same H H') : But f H H' := fun a o _ h => s a o h
theorem But.new {f : Addr} {H : Hp} {p : Addr} {o : HO} (h : H p = none) : But f H (upd H p o) := fun a u _ e => by
  rw [upd_ne (ne_of_none e h)]; exact e
theorem same_new {H : Hp} {p : Addr} (h : H p = none) (o : HO) : Same H (upd H p o) := fun b u q => by rw [upd_ne (ne_of_none q h)]; exact q
theorem But.feed {f : Addr} {H : Hp} {o : HO} : But f H (upd H f o) := fun a u n e => (upd_ne n).trans e
theorem Fd.mono {H : Hp} {f c : Addr} {n m : Int} (h : Fd H f c n) (l : n ≤ m) : Fd H f c m := by
  obtain ⟨cells, a, g, h1, h2, h3, h4, h5⟩ := h
  exact ⟨cells, a, g, h1, h2, h3, h4, by omega⟩
theorem Fd.same {H H' : Hp} {f c : Addr} {n : Int} (h : Fd H f c n) (s : Same H H') : Fd H' f c n := by
  obtain ⟨cells, a, g, h1, h2, h3⟩ := h
  exact ⟨cells, a, g, s _ _ h1, s _ _ h2, h3⟩
theorem Fd.new {H : Hp} {f c p : Addr} {n : Int} {o : HO} (h : Fd H f c n) (hp : H p = none) : Fd (upd H p o) f c n := h.same (same_new hp o)
theorem Fd.at {H : Hp} {f c : Addr} {n : Int} (h : Fd H f c n) : ∃ xs, H f = some (.lst xs) := by
  obtain ⟨cells, a, g, h1, _⟩ := h
  exact ⟨_, h1⟩
theorem Fd.cell {H : Hp} {f c : Addr} {n : Int} (h : Fd H f c n) : ∃ xs, H c = some (.lst xs) := by
  obtain ⟨cells, a, g, h1, h2, _⟩ := h
  exact ⟨_, h2⟩
theorem Fd.ne {H : Hp} {f c l : Addr} {n : Int} (h : Fd H f c n) (hl : H l = none) : l ≠ f ∧ l ≠ c := by
  obtain ⟨xs, h1⟩ := h.at
  obtain ⟨ys, h2⟩ := h.cell
  exact ⟨Ne.symm (ne_of_none h1 hl), Ne.symm (ne_of_none h2 hl)⟩
theorem Fd.upd {H : Hp} {f c l : Addr} {n : Int} {o : HO} (h : Fd H f c n) (e : l ≠ f ∧ l ≠ c) : Fd (upd H l o) f c n := by
  obtain ⟨cells, a, g, h1, h2, h3⟩ := h
  exact ⟨cells, a, g, (upd_ne (Ne.symm e.1)).trans h1, (upd_ne (Ne.symm e.2)).trans h2, h3⟩
theorem But.mut {f : Addr} {H H' : Hp} {l : Addr} {o : HO} (b : But f H H') (hl : H l = none) : But f H (upd H' l o) := fun a u n e => by
  rw [upd_ne (ne_of_none e hl)]
  exact b a u n e
theorem But.back {f c : Addr} {H H' : Hp} {t : Addr} {n : Int} (b : But f H H') (hf : Fd H' f c n) (ht : H' t = none) : H t = none := by
  cases e : H t with
  | none => rfl
  | some o =>
    have ne : t ≠ f := (hf.ne ht).1
    rw [b t o ne e] at ht
    cases ht
theorem same_mut {H H' : Hp} {l : Addr} {o : HO} (s : Same H H') (hl : H l = none) : Same H (upd H' l o) := fun b u q => by
  rw [upd_ne (ne_of_none q hl)]
  exact s _ _ q
theorem cut_take (xs : List V) (n : Nat) : cutV xs none (some (n : Int)) = xs.take n := by
  unfold cutV
  rw [HT.sIx_nat, HT.sIx_none, List.drop_zero, Nat.sub_zero]
  rw [List.take_eq_take_iff]
  omega
theorem free_of {H : Hp} {a b : Addr} {o : HO} (h : upd H a o b = none) : H b = none := by
  by_cases e : b = a
  · subst e
    rw [upd_same] at h
    cases h
  · rw [upd_ne e] at h
    exact h
def spDraw : Sp := fun vs H Q _ => ∃ (f c : Addr) (m n : Int), vs = [.ref f, .int m] ∧ Fd H f c n ∧ n ≤ 1000000 ∧ 0 < m ∧ m ≤ 1000000000 ∧
  ∀ (d : Int) (H' : Hp), 0 ≤ d → d < m → Fd H' f c (n + 1) → But f H H' → (∀ a, H a = none → H' a = none) → Q (.int d) H'
def spFeed (K : PySem.W.Frag) : Sp := fun vs H Q _ => ∃ (a : Addr) (ns : List Int), vs = [.ref a] ∧ SqL K H a (ns.map V.int) ∧
  ∀ (f c : Addr) (H' : Hp), H f = none → Same H H' → Fd H' f c 0 → Q (.ref f) H'
/-! ### Data that is alike -/
def flatD : PyData → Bool
  | .none => true
  | .bool _ => true
  | .int _ => true
  | .str _ => true
  | _ => false
/-- data of at most n lists or tuples within one another, none of more than 100,000 -/
def Nice : Nat → PyData → Prop
  | 0, d => flatD d = true
  | n + 1, d => flatD d = true ∨ ∃ ds, (d = .list ds ∨ d = .tuple ds) ∧ ds.length ≤ 100000 ∧ ∀ e ∈ ds, Nice n e
theorem Nice.flat {n : Nat} {d : PyData} (h : flatD d = true) : Nice n d := by
  cases n with
  | zero => exact h
  | succ n => exact Or.inl h
theorem kit2 {K : PySem.W.Frag} {t c1 c2 : Value} {b1 b2 : Bool} (h1 : PySem.W.kitOne K t c1 = some b1) (h2 : PySem.W.kitOne K t c2 = some b2) : PySem.W.kitAny K t [c1, c2] = some (b1 || b2) := by
  unfold PySem.W.kitAny PySem.W.kitAny PySem.W.kitAny
  rw [h1, h2]
  cases b1 <;> cases b2 <;> rfl
theorem k_NoneType_tuple {K : PySem.W.Frag} : PySem.W.kitOne K (.type "NoneType") (.type "tuple") = some false := kit_ty (by decide +kernel)
theorem k_NoneType_list {K : PySem.W.Frag} : PySem.W.kitOne K (.type "NoneType") (.type "list") = some false := kit_ty (by decide +kernel)
theorem k_NoneType_bool {K : PySem.W.Frag} : PySem.W.kitOne K (.type "NoneType") (.type "bool") = some false := kit_ty (by decide +kernel)
theorem k_NoneType_str {K : PySem.W.Frag} : PySem.W.kitOne K (.type "NoneType") (.type "str") = some false := kit_ty (by decide +kernel)
theorem k_NoneType_int {K : PySem.W.Frag} : PySem.W.kitOne K (.type "NoneType") (.type "int") = some false := kit_ty (by decide +kernel)
theorem k_bool_tuple {K : PySem.W.Frag} : PySem.W.kitOne K (.type "bool") (.type "tuple") = some false := kit_ty (by decide +kernel)
theorem k_bool_list {K : PySem.W.Frag} : PySem.W.kitOne K (.type "bool") (.type "list") = some false := kit_ty (by decide +kernel)
theorem k_bool_bool {K : PySem.W.Frag} : PySem.W.kitOne K (.type "bool") (.type "bool") = some true := kit_ty (by decide +kernel)
theorem k_bool_str {K : PySem.W.Frag} : PySem.W.kitOne K (.type "bool") (.type "str") = some false := kit_ty (by decide +kernel)
theorem k_bool_int {K : PySem.W.Frag} : PySem.W.kitOne K (.type "bool") (.type "int") = some true := kit_ty (by decide +kernel)
theorem k_int_tuple {K : PySem.W.Frag} : PySem.W.kitOne K (.type "int") (.type "tuple") = some false := kit_ty (by decide +kernel)
theorem k_int_list {K : PySem.W.Frag} : PySem.W.kitOne K (.type "int") (.type "list") = some false := kit_ty (by decide +kernel)
theorem k_int_bool {K : PySem.W.Frag} : PySem.W.kitOne K (.type "int") (.type "bool") = some false := kit_ty (by decide +kernel)
theorem k_int_str {K : PySem.W.Frag} : PySem.W.kitOne K (.type "int") (.type "str") = some false := kit_ty (by decide +kernel)
theorem k_int_int {K : PySem.W.Frag} : PySem.W.kitOne K (.type "int") (.type "int") = some true := kit_ty (by decide +kernel)
theorem k_str_tuple {K : PySem.W.Frag} : PySem.W.kitOne K (.type "str") (.type "tuple") = some false := kit_ty (by decide +kernel)
theorem k_str_list {K : PySem.W.Frag} : PySem.W.kitOne K (.type "str") (.type "list") = some false := kit_ty (by decide +kernel)
theorem k_str_bool {K : PySem.W.Frag} : PySem.W.kitOne K (.type "str") (.type "bool") = some false := kit_ty (by decide +kernel)
theorem k_str_str {K : PySem.W.Frag} : PySem.W.kitOne K (.type "str") (.type "str") = some true := kit_ty (by decide +kernel)
theorem k_str_int {K : PySem.W.Frag} : PySem.W.kitOne K (.type "str") (.type "int") = some false := kit_ty (by decide +kernel)
theorem k_list_tuple {K : PySem.W.Frag} : PySem.W.kitOne K (.type "list") (.type "tuple") = some false := kit_ty (by decide +kernel)
theorem k_list_list {K : PySem.W.Frag} : PySem.W.kitOne K (.type "list") (.type "list") = some true := kit_ty (by decide +kernel)
theorem k_list_bool {K : PySem.W.Frag} : PySem.W.kitOne K (.type "list") (.type "bool") = some false := kit_ty (by decide +kernel)
theorem k_list_str {K : PySem.W.Frag} : PySem.W.kitOne K (.type "list") (.type "str") = some false := kit_ty (by decide +kernel)
theorem k_list_int {K : PySem.W.Frag} : PySem.W.kitOne K (.type "list") (.type "int") = some false := kit_ty (by decide +kernel)
theorem k_tuple_tuple {K : PySem.W.Frag} : PySem.W.kitOne K (.type "tuple") (.type "tuple") = some true := kit_ty (by decide +kernel)
theorem k_tuple_list {K : PySem.W.Frag} : PySem.W.kitOne K (.type "tuple") (.type "list") = some false := kit_ty (by decide +kernel)
theorem k_tuple_bool {K : PySem.W.Frag} : PySem.W.kitOne K (.type "tuple") (.type "bool") = some false := kit_ty (by decide +kernel)
theorem k_tuple_str {K : PySem.W.Frag} : PySem.W.kitOne K (.type "tuple") (.type "str") = some false := kit_ty (by decide +kernel)
theorem k_tuple_int {K : PySem.W.Frag} : PySem.W.kitOne K (.type "tuple") (.type "int") = some false := kit_ty (by decide +kernel)
def tyD : PyData → String
  | .none => "NoneType"
  | .bool _ => "bool"
  | .int _ => "int"
  | .str _ => "str"
  | .list _ => "list"
  | .tuple _ => "tuple"
  | _ => "object"
theorem ty_of {K : PySem.W.Frag} {H : Hp} {v : V} {d : PyData} (h : Dp K H v d) : TyX K H v (.type (tyD d)) := by
  cases h with
  | non => exact .base .non
  | bl b => exact .base (.bl b)
  | int i => exact .base (.int i)
  | str x => exact .base (.str x)
  | lst s _ =>
    rcases s with (e | ⟨o, e⟩) | ⟨o, its, n, e, c, _⟩
    · exact .base (.lst e)
    · exact .base (.frz e)
    · exact .kList e c
  | tup s _ =>
    rcases s with (e | ⟨o, e⟩) | ⟨o, its, n, e, c, _⟩
    · exact .base (.tup e)
    · exact .fTuple e
    · exact .kTuple e c
theorem SqL.sm {K : PySem.W.Frag} {H H' : Hp} {a : Addr} {xs : List V} (e : Same H H') (h : SqL K H a xs) : SqL K H' a xs := e.seq h
theorem SqT.sm {K : PySem.W.Frag} {H H' : Hp} {a : Addr} {xs : List V} (e : Same H H') (h : SqT K H a xs) : SqT K H' a xs := by
  rcases h with (h | ⟨o, h⟩) | h
  · exact Or.inl (Or.inl (e _ _ h))
  · exact Or.inl (Or.inr ⟨o, e _ _ h⟩)
  · exact Or.inr h
mutual
theorem Dp.sm {K : PySem.W.Frag} {H H' : Hp} (e : Same H H') : ∀ {v : V} {d : PyData}, Dp K H v d → Dp K H' v d
  | _, _, .non => .non
  | _, _, .bl b => .bl b
  | _, _, .int i => .int i
  | _, _, .str x => .str x
  | _, _, .lst s a => .lst (SqL.sm e s) (DpAll.sm e a)
  | _, _, .tup s a => .tup (SqT.sm e s) (DpAll.sm e a)
theorem DpAll.sm {K : PySem.W.Frag} {H H' : Hp} (e : Same H H') : ∀ {vs : List V} {ds : List PyData}, DpAll K H vs ds → DpAll K H' vs ds
  | _, _, .nil => .nil
  | _, _, .cons a b => .cons (Dp.sm e a) (DpAll.sm e b)
end
theorem DpAll.len {K : PySem.W.Frag} {H : Hp} : ∀ {vs : List V} {ds : List PyData}, DpAll K H vs ds → vs.length = ds.length
  | _, _, .nil => rfl
  | _, _, .cons _ b => congrArg (· + 1) (DpAll.len b)
theorem DpAll.get {K : PySem.W.Frag} {H : Hp} : ∀ {vs : List V} {ds : List PyData} {i : Nat} {v : V}, DpAll K H vs ds → vs[i]? = some v → ∃ d, ds[i]? = some d ∧ Dp K H v d
  | _, _, 0, _, .cons a _, h => by
    cases h
    exact ⟨_, rfl, a⟩
  | _, _, i + 1, v, .cons _ b, h => DpAll.get (i := i) (v := v) b h
theorem walk_zt {K : PySem.W.Frag} {a b : Addr} {xs ys : List V} (hl : xs.length = ys.length) : Walk (RZ.ItzT K a b) xs.length (fun H => SqT K H a xs ∧ SqT K H b ys) (YPair (fun i => xs[i]?) (fun i => ys[i]?)) := by
  refine ⟨fun i H hi q => ?_, fun H q => ⟨xs, ys, q.1, q.2, Or.inl (Nat.le_refl _)⟩, fun i H v H' hi q y => ?_⟩
  · exact ⟨xs, ys, xs[i], ys[i]'(by omega), q.1, q.2, List.getElem?_eq_getElem hi, List.getElem?_eq_getElem (by omega)⟩
  · obtain ⟨T, x, y, h1, h2, h3, h4, h5⟩ := y
    exact ⟨T, x, y, h1, h2, h3, h4 xs q.1, h5 ys q.2⟩
/-- alike(x, y), x and y the same data -/
def spAlike (K : PySem.W.Frag) : Nat → Sp
  | 0 => fun _ _ _ _ => False
  | n + 1 => fun vs H Q _ => ∃ (x y : V) (d : PyData), vs = [x, y] ∧ Dp K H x d ∧ Dp K H y d ∧ Nice n d ∧ ∀ H', Same H H' → Q (.bl true) H'
theorem alike_none {P : Program} {w : World} {K : PySem.W.Frag} {mg : Str → Option Value} {base : Heap} {k : Nat} {f : Addr} {fd : FuncData} {ps : List Str} : FnOk P w K mg base CX0 k f fd ps (spAlike K 0) :=
  ⟨fun _ _ _ _ h => h.elim, fun _ _ _ _ _ _ _ _ _ _ _ _ _ h => h.elim⟩
/-! ### Printings -/
inductive Wd where | sh | ro | co
  deriving DecidableEq
def Wd.s : Wd → Str
  | .sh => "sheet"
  | .ro => "row"
  | .co => "column"
structure Prt where
  series : Str
  first : Int
  cols : Int
  rows : Int
  sheets : Int
  o1 : Wd
  o2 : Wd
  o3 : Wd
def Prt.size (p : Prt) : Wd → Int
  | .sh => p.sheets
  | .ro => p.rows
  | .co => p.cols
def seatW (s r c : Int) : Wd → Int
  | .sh => s
  | .ro => r
  | .co => c
def Prt.num (p : Prt) (s r c : Int) : Int := p.first + ((seatW s r c p.o1 * p.size p.o2 + seatW s r c p.o2) * p.size p.o3 + seatW s r c p.o3)
structure PrOk (p : Prt) : Prop where
  len : p.series.length ≤ 8
  f0 : 0 ≤ p.first
  c1 : 1 ≤ p.cols
  c2 : p.cols ≤ 12
  r1 : 1 ≤ p.rows
  r2 : p.rows ≤ 12
  s1 : 1 ≤ p.sheets
  s2 : p.sheets ≤ 1000000
  most : p.first + p.cols * p.rows * p.sheets ≤ 1000000000
  d12 : p.o1 ≠ p.o2
  d13 : p.o1 ≠ p.o3
  d23 : p.o2 ≠ p.o3
  chr : (p.series.cps.toList.all fun c => decide (c < 16 ^ 8)) = true
def prV (p : Prt) (t : Addr) : List V := [.str p.series, .int p.first, .int p.cols, .int p.rows, .int p.sheets, .ref t]
def ordV (p : Prt) : List V := [.str p.o1.s, .str p.o2.s, .str p.o3.s]
/-- the printing p stands at a -/
def PrAt (H : Hp) (a : Addr) (p : Prt) : Prop := ∃ t, H a = some (.tup (prV p t)) ∧ ∃ o, H t = some (.frz o (.tup (ordV p))) ∧ Tpl o
theorem PrAt.same {H H' : Hp} {a : Addr} {p : Prt} (h : PrAt H a p) (s : Same H H') : PrAt H' a p := by
  obtain ⟨t, h1, o, h2, h3⟩ := h
  exact ⟨t, s _ _ h1, o, s _ _ h2, h3⟩
theorem PrAt.but {H H' : Hp} {f c a : Addr} {p : Prt} {n : Int} (h : PrAt H a p) (hf : Fd H f c n) (s : But f H H') : PrAt H' a p := by
  obtain ⟨t, h1, o, h2, h3⟩ := h
  obtain ⟨xs, hx⟩ := hf.at
  exact ⟨t, s _ _ (ne_of h1 hx (fun z => nomatch z)) h1, o, s _ _ (ne_of h2 hx (fun z => nomatch z)) h2, h3⟩
theorem sqF {K : PySem.W.Frag} {H : Hp} {a : Addr} {o : Obj} {xs : List V} (h : H a = some (.frz o (.tup xs))) : SqT K H a xs := Or.inl (Or.inr ⟨o, h⟩)
def dictW (f : Wd → Int) : List (Key × V) := [(Sum.inr Wd.sh.s, .int (f .sh)), (Sum.inr Wd.ro.s, .int (f .ro)), (Sum.inr Wd.co.s, .int (f .co))]
def dictC (f : Wd → Int) : List (Key × V) := [(Sum.inr Wd.co.s, .int (f .co)), (Sum.inr Wd.ro.s, .int (f .ro)), (Sum.inr Wd.sh.s, .int (f .sh))]
theorem valW (f : Wd → Int) (u : Wd) : valV (dictW f) (Sum.inr u.s) = some (.int (f u)) := by cases u <;> rfl
theorem valC (f : Wd → Int) (u : Wd) : valV (dictC f) (Sum.inr u.s) = some (.int (f u)) := by cases u <;> rfl
theorem PrOk.size_lo {p : Prt} (h : PrOk p) (u : Wd) : 1 ≤ p.size u := by cases u <;> simp only [Prt.size] <;> first | exact h.s1 | exact h.r1 | exact h.c1
theorem PrOk.size_hi {p : Prt} (h : PrOk p) (u : Wd) : p.size u ≤ 1000000 := by
  have h1 := h.s2; have h2 := h.r2; have h3 := h.c2
  cases u <;> simp only [Prt.size] <;> omega
def spHow (dict : (Wd → Int) → List (Key × V)) : Sp := fun vs H Q _ => ∃ (a : Addr) (p : Prt), vs = [.ref a] ∧ PrAt H a p ∧
  ∀ (d : Addr) (H' : Hp), Same H H' → H' d = some (.dK (dict p.size)) → Q (.ref d) H'
def spNum : Sp := fun vs H Q _ => ∃ (a : Addr) (p : Prt) (s r c : Int), vs = [.ref a, .int s, .int r, .int c] ∧ PrAt H a p ∧ PrOk p ∧
  ∀ (H' : Hp), Same H H' → Q (.int (p.num s r c)) H'
theorem get_dW {H : Hp} {d : Addr} {f : Wd → Int} (h : H d = some (.dK (dictW f))) (u : Wd) : DGet H d (.str u.s) (some (.int (f u))) := by
  have q := DGet.k (k := Sum.inr u.s) h
  rw [valW] at q
  exact q
theorem get_dC {H : Hp} {d : Addr} {f : Wd → Int} (h : H d = some (.dK (dictC f))) (u : Wd) : DGet H d (.str u.s) (some (.int (f u))) := by
  have q := DGet.k (k := Sum.inr u.s) h
  rw [valC] at q
  exact q
theorem Prt.num_eq (p : Prt) (s r c : Int) : p.first + (seatW s r c p.o1 * p.size p.o2 * p.size p.o3 + seatW s r c p.o2 * p.size p.o3 + seatW s r c p.o3) = p.num s r c := by
  unfold Prt.num
  rw [Int.add_mul]
theorem PrOk.big {p : Prt} (ok : PrOk p) (u : Wd) : -(2 ^ 64) < p.size u ∧ p.size u < 2 ^ 64 := by
  have := ok.size_lo u
  have := ok.size_hi u
  constructor <;> omega
/-- what draw and its like leave for the words of an order -/
def spOrder : Sp := fun vs H Q _ => ∃ (f c : Addr) (n : Int), vs = [.ref f] ∧ Fd H f c n ∧ n ≤ 900000 ∧
  ∀ (t : Addr) (o : Obj) (u1 u2 u3 : Wd) (H' : Hp), Tpl o → u1 ≠ u2 → u1 ≠ u3 → u2 ≠ u3 → Fd H' f c (n + 2) → But f H H' → H t = none → H' t = some (.frz o (.tup [.str u1.s, .str u2.s, .str u3.s])) → Q (.ref t) H'
def spPrint : Sp := fun vs H Q _ => ∃ (f c : Addr) (n k : Int), vs = [.ref f, .int k] ∧ Fd H f c n ∧ n ≤ 800000 ∧ (k = 0 ∨ k = 1) ∧
  ∀ (a : Addr) (p : Prt) (H' : Hp), Fd H' f c (n + 20) → But f H H' → PrAt H' a p → PrOk p → (k = 1 → p.cols ≤ 4 ∧ p.rows ≤ 4 ∧ p.sheets ≤ 6) → Q (.ref a) H'
theorem mul_bound {a b : Int} {m n : Int} (a0 : 0 ≤ a) (a1 : a ≤ m) (b0 : 0 ≤ b) (b1 : b ≤ n) : 0 ≤ a * b ∧ a * b ≤ m * n :=
  ⟨Int.mul_nonneg a0 b0, Int.mul_le_mul a1 b1 b0 (Int.le_trans a0 a1)⟩
theorem prod_bound {c r s : Int} (c0 : 0 ≤ c) (c1 : c ≤ 12) (r0 : 0 ≤ r) (r1 : r ≤ 12) (s0 : 0 ≤ s) (s1 : s ≤ 1000000) : 0 ≤ c * r * s ∧ c * r * s ≤ 144000000 := by
  obtain ⟨h1, h2⟩ := mul_bound c0 c1 r0 r1
  obtain ⟨h3, h4⟩ := mul_bound h1 h2 s0 s1
  exact ⟨h3, by omega⟩
def abc : Str := "abcdefghijklmnopqrstuvwxyz"
theorem abc_at (i : Int) (h0 : 0 ≤ i) (h1 : i < 26) : ∃ ch, atI abc.cps.toList i = some ch ∧ ch < 16 ^ 8 := by
  obtain ⟨k, rfl⟩ : ∃ k : Nat, i = (k : Int) := ⟨i.toNat, by omega⟩
  have hk : k < abc.cps.toList.length := by
    have e : abc.cps.toList.length = 26 := by decide +kernel
    omega
  have all : ∀ c ∈ abc.cps.toList, c < 16 ^ 8 := by decide +kernel
  exact ⟨abc.cps.toList[k], atI_nat (List.getElem?_eq_getElem hk), all _ (List.getElem_mem hk)⟩
theorem mul_chr {ch : Nat} (n : Int) (h : ch < 16 ^ 8) : ((Txt.mul ⟨#[ch]⟩ n).cps.toList.all fun c => decide (c < 16 ^ 8)) = true := by
  rw [mul_one_list, List.all_eq_true]
  intro c hc
  rw [List.eq_of_mem_replicate hc]
  exact decide_eq_true h
theorem mul1_ok (ch : Nat) (d : Int) (h0 : 0 ≤ d) (h1 : d < 100) : MulOk ⟨#[ch]⟩ (1 + d) := by
  refine ⟨?_, fun _ _ => ?_, fun _ _ => ?_⟩
  · simp only [Bool.or_eq_false_iff, decide_eq_false_iff_not]
    constructor <;> omega
  · have e : (⟨#[ch]⟩ : Str).length = 1 := rfl
    rw [e]
    have : (1 : Int) ≤ (2 ^ 63 - 1) / (1 + d) := by
      rw [Int.le_ediv_iff_mul_le (by omega)]
      omega
    omega
  · have e : (⟨#[ch]⟩ : Str).length = 1 := rfl
    rw [e, Nat.one_mul]
    unfold Builtin.Str.tooLong
    rw [decide_eq_false_iff_not, sizeLine_eq]
    omega
theorem mul1_len (ch : Nat) (d : Int) (N : Nat) (h : 1 + d ≤ (N : Int)) : (Txt.mul ⟨#[ch]⟩ (1 + d)).length ≤ N := len_mul_one rfl h
def rowNums (p : Prt) (s r : Int) : List Int := (List.range p.cols.toNat).map fun (c : Nat) => p.num s r c
def numsOn (p : Prt) (s : Int) : List Int := (List.range p.rows.toNat).flatMap fun (r : Nat) => rowNums p s r
theorem rowNums_len (p : Prt) (s r : Int) : (rowNums p s r).length = p.cols.toNat := by
  unfold rowNums
  rw [List.length_map, List.length_range]
/-- the numbers ahead of the c-th of row r -/
def numsTo (p : Prt) (s : Int) (r c : Nat) : List Int := ((List.range r).flatMap fun (r : Nat) => rowNums p s r) ++ (List.range c).map fun (c : Nat) => p.num s r c
theorem numsTo_row (p : Prt) (s : Int) (r : Nat) : numsTo p s r p.cols.toNat = numsTo p s (r + 1) 0 := by
  unfold numsTo rowNums
  rw [List.range_succ, List.flatMap_append, List.range_zero, List.map_nil, List.append_nil, List.flatMap_singleton]
theorem numsTo_col (p : Prt) (s : Int) (r c : Nat) : numsTo p s r (c + 1) = numsTo p s r c ++ [p.num s r c] := by
  unfold numsTo
  rw [List.range_succ, List.map_append, List.append_assoc]
  rfl
theorem numsTo_all (p : Prt) (s : Int) : numsTo p s p.rows.toNat 0 = numsOn p s := by
  unfold numsTo numsOn
  rw [List.range_zero, List.map_nil, List.append_nil]
theorem numsTo_len (p : Prt) (s : Int) (r c : Nat) : (numsTo p s r c).length = r * p.cols.toNat + c := by
  unfold numsTo
  rw [List.length_append, List.length_map, List.length_range, List.length_flatMap]
  have e : (List.map (fun (a : Nat) => (rowNums p s a).length) (List.range r)) = List.replicate r p.cols.toNat := by
    apply List.ext_getElem
    · simp
    · intro i h1 h2
      simp [rowNums_len]
  rw [e, List.sum_replicate_nat]
def spNumsOn : Sp := fun vs H Q _ => ∃ (a : Addr) (p : Prt) (s : Int), vs = [.ref a, .int s] ∧ PrAt H a p ∧ PrOk p ∧
  ∀ (l : Addr) (H' : Hp), Same H H' → H l = none → H' l = some (.lst ((numsOn p s).map V.int)) → Q (.ref l) H'
/-! ### Runs -/
abbrev Rn := Str × Int × Int
def rnV (r : Rn) : List V := [.str r.1, .int r.2.1, .int r.2.2]
def rnD (r : Rn) : PyData := .tuple [.str r.1, .int r.2.1, .int r.2.2]
/-- the runs rs stand at the places ps -/
abbrev Prd (H : Hp) (ps : List Addr) (rs : List Rn) : Prop := Paired (fun (p : Addr) (r : Rn) => H p = some (.tup (rnV r))) ps rs
theorem Prd.len {H : Hp} {ps : List Addr} {rs : List Rn} (h : Prd H ps rs) : ps.length = rs.length := Paired.length h
theorem Prd.same {H H' : Hp} (s : Same H H') : ∀ {ps : List Addr} {rs : List Rn}, Prd H ps rs → Prd H' ps rs
  | _, _, .nil => .nil
  | _, _, .cons a b => .cons (s _ _ a) (Prd.same s b)
theorem Prd.get {H : Hp} : ∀ {ps : List Addr} {rs : List Rn} {i : Nat} {p : Addr}, Prd H ps rs → ps[i]? = some p → ∃ r, rs[i]? = some r ∧ H p = some (.tup (rnV r))
  | _, _, 0, _, .cons a _, h => by
    cases h
    exact ⟨_, rfl, a⟩
  | _, _, i + 1, p, .cons _ b, h => Prd.get (i := i) (p := p) b h
theorem Prd.app {H : Hp} : ∀ {ps qs : List Addr} {rs ts : List Rn}, Prd H ps rs → Prd H qs ts → Prd H (ps ++ qs) (rs ++ ts)
  | _, _, _, _, .nil, b => b
  | _, _, _, _, .cons a r, b => .cons a (Prd.app r b)
theorem Prd.mem {H : Hp} : ∀ {ps : List Addr} {rs : List Rn} {p : Addr}, Prd H ps rs → p ∈ ps → ∃ r ∈ rs, H p = some (.tup (rnV r))
  | _, _, p, .cons a b, h => by
    rcases List.mem_cons.mp h with e | e
    · subst e
      exact ⟨_, List.mem_cons_self, a⟩
    · obtain ⟨r, h1, h2⟩ := Prd.mem b e
      exact ⟨r, List.mem_cons_of_mem _ h1, h2⟩
theorem Prd.dp {K : PySem.W.Frag} {H : Hp} : ∀ {ps : List Addr} {rs : List Rn}, Prd H ps rs → DpAll K H (ps.map V.ref) (rs.map rnD)
  | _, _, .nil => .nil
  | _, _, .cons a b => .cons (.tup (SqT.of a) (.cons (.str _) (.cons (.int _) (.cons (.int _) .nil)))) (Prd.dp b)
/-- one run more, its place new or not, all else as it was -/
theorem Prd.keep {H H' : Hp} : ∀ {ps : List Addr} {rs : List Rn}, (∀ p ∈ ps, ∀ o, H p = some o → H' p = some o) → Prd H ps rs → Prd H' ps rs
  | _, _, _, .nil => .nil
  | _, _, k, .cons a b => .cons (k _ List.mem_cons_self _ a) (Prd.keep (fun p hp => k p (List.mem_cons_of_mem _ hp)) b)
def rnLe (a b : Rn) : Bool := PySem.W.dataLe false rnD a b
/-- Python's order of runs -/
def rnLt (a b : Rn) : Prop := a.1.cps.toList < b.1.cps.toList ∨ (a.1 = b.1 ∧ (a.2.1 < b.2.1 ∨ (a.2.1 = b.2.1 ∧ a.2.2 < b.2.2)))
theorem rn_lt (a b : Rn) : PySem.W.dataLt (rnD a) (rnD b) = decide (a.1.cps.toList < b.1.cps.toList ∨ (a.1 = b.1 ∧ (a.2.1 < b.2.1 ∨ (a.2.1 = b.2.1 ∧ a.2.2 < b.2.2)))) := by
  unfold rnD
  rw [PySem.W.dataLt_tuple, PySem.W.dataLt_cons (by simp [PySem.W.alike]), PySem.W.dataLt_cons (by simp [PySem.W.alike]), PySem.W.dataLt_cons (by simp [PySem.W.alike]), PySem.W.dataLt_str, PySem.W.dataLt_int, PySem.W.dataLt_int]
  rw [PyProof.Rows.lex_irrefl]
  simp only [PyData.eqv, beq_iff_eq]
  by_cases h1 : a.1 = b.1
  · have n : ¬ a.1.cps.toList < b.1.cps.toList := by
      rw [h1]
      exact List.lt_irrefl _
    by_cases h2 : a.2.1 = b.2.1
    · by_cases h3 : a.2.2 = b.2.2
      · rw [if_pos h1, if_pos h2, if_pos h3]
        symm
        rw [decide_eq_false_iff_not]
        rintro (h | ⟨_, h | ⟨_, h⟩⟩)
        · exact n h
        · omega
        · omega
      · rw [if_pos h1, if_pos h2, if_neg h3, decide_eq_decide]
        refine ⟨fun h => Or.inr ⟨h1, Or.inr ⟨h2, h⟩⟩, ?_⟩
        rintro (h | ⟨_, h | ⟨_, h⟩⟩)
        · exact absurd h n
        · omega
        · exact h
    · rw [if_pos h1, if_neg h2, decide_eq_decide]
      refine ⟨fun h => Or.inr ⟨h1, Or.inl h⟩, ?_⟩
      rintro (h | ⟨_, h | ⟨h, _⟩⟩)
      · exact absurd h n
      · exact h
      · exact absurd h h2
  · rw [if_neg h1, decide_eq_decide]
    refine ⟨Or.inl, ?_⟩
    rintro (h | ⟨h, _⟩)
    · exact h
    · exact absurd h h1
def apart (a b : Rn) : Bool := if a.1 = b.1 then decide (a.2.2 < b.2.1) else decide (a.1.cps.toList < b.1.cps.toList)
def push (acc : List Rn) (r : Rn) : List Rn := match acc.getLast? with
  | none => [r]
  | some l => if apart l r then acc ++ [r] else acc.dropLast ++ [(l.1, l.2.1, if r.2.2 > l.2.2 then r.2.2 else l.2.2)]
def merge (rs : List Rn) : List Rn := rs.foldl push []
def runsOf (rs : List Rn) : List Rn := merge (rs.mergeSort rnLe)
theorem sort_rn {H : Hp} {ps : List Addr} {rs : List Rn} (h : Prd H ps rs) : ∃ qs : List Addr, sortD (ps.map V.ref) (rs.map rnD) = qs.map V.ref ∧ Prd H qs (rs.mergeSort rnLe) := by
  have hl := h.len
  have e1 : ((ps.map V.ref).zip (rs.map rnD)) = (ps.zip rs).map (fun x => (V.ref x.1, rnD x.2)) := by
    rw [List.zip_map]
    rfl
  refine ⟨((ps.zip rs).mergeSort (fun x y => rnLe x.2 y.2)).map Prod.fst, ?_, ?_⟩
  · unfold sortD
    rw [e1, ← PySem.W.sort_maps (r := fun x y => rnLe x.2 y.2) (fun x : Addr × Rn => (V.ref x.1, rnD x.2)) (fun _ _ _ _ => rfl), List.map_map, List.map_map]
    rfl
  · have e2 : ((ps.zip rs).mergeSort (fun x y => rnLe x.2 y.2)).map Prod.snd = rs.mergeSort rnLe := by
      rw [PySem.W.sort_maps (s := rnLe) Prod.snd (fun _ _ _ _ => rfl), List.map_snd_zip (by omega)]
    rw [← e2]
    have at_ : ∀ x ∈ ps.zip rs, H x.1 = some (.tup (rnV x.2)) := by
      clear e1 e2 hl
      induction h with
      | nil => exact fun x hx => nomatch hx
      | cons a b ih =>
        intro x hx
        rcases List.mem_cons.mp hx with z | z
        · subst z
          exact a
        · exact ih x z
    have all : ∀ l : List (Addr × Rn), (∀ x ∈ l, H x.1 = some (.tup (rnV x.2))) → Prd H (l.map Prod.fst) (l.map Prod.snd) := fun l => by
      induction l with
      | nil => exact fun _ => .nil
      | cons x l ih => exact fun k => .cons (k x List.mem_cons_self) (ih fun y hy => k y (List.mem_cons_of_mem _ hy))
    exact all _ fun x hx => at_ x (List.mem_mergeSort.mp hx)
theorem rn_alike (rs : List Rn) : PySem.W.AllAlike (rs.map rnD) := by
  intro d hd e he
  obtain ⟨a, _, rfl⟩ := List.mem_map.mp hd
  obtain ⟨b, _, rfl⟩ := List.mem_map.mp he
  simp [rnD, PySem.W.alike, PySem.W.alikeAll]
theorem rn_sortable (rs : List Rn) : PySem.W.Sortable (rs.map rnD) := by
  refine Or.inl fun d hd => ?_
  obtain ⟨a, _, rfl⟩ := List.mem_map.mp hd
  exact ⟨_, _, rfl⟩
theorem rn_depth (rs : List Rn) : ∀ d ∈ rs.map rnD, d.depth ≤ 60 := by
  intro d hd
  obtain ⟨a, _, rfl⟩ := List.mem_map.mp hd
  simp [rnD, PyData.depth, PyData.depthAll]
theorem push_len (acc : List Rn) (r : Rn) : (push acc r).length ≤ acc.length + 1 := by
  unfold push
  split
  · simp
  · split
    · simp
    · simp
theorem merge_len (rs : List Rn) : (merge rs).length ≤ rs.length := by
  have all : ∀ (l acc : List Rn), (l.foldl push acc).length ≤ acc.length + l.length := fun l => by
    induction l with
    | nil => intro acc; simp
    | cons r l ih =>
      intro acc
      have h1 := ih (push acc r)
      have h2 := push_len acc r
      rw [List.foldl_cons, List.length_cons]
      omega
  have z := all rs []
  rw [List.length_nil, Nat.zero_add] at z
  exact z
theorem push_snoc (acc : List Rn) (l r : Rn) : push (acc ++ [l]) r = if apart l r then acc ++ [l] ++ [r] else acc ++ [(l.1, l.2.1, if r.2.2 > l.2.2 then r.2.2 else l.2.2)] := by
  unfold push
  rw [List.getLast?_concat]
  simp only [List.dropLast_concat]
theorem Prd.snoc {H : Hp} : ∀ {ps : List Addr} {rs : List Rn} {p : Addr}, Prd H (ps ++ [p]) rs → ∃ ts r, rs = ts ++ [r] ∧ Prd H ps ts ∧ H p = some (.tup (rnV r))
  | [], _, p, h => by
    cases h with
    | cons a b =>
      cases b
      exact ⟨[], _, rfl, .nil, a⟩
  | x :: ps, _, p, h => by
    cases h with
    | cons a b =>
      obtain ⟨ts, r, rfl, h1, h2⟩ := Prd.snoc b
      exact ⟨_ :: ts, r, rfl, .cons a h1, h2⟩
theorem Prd.one {H : Hp} {p : Addr} {r : Rn} (h : H p = some (.tup (rnV r))) : Prd H [p] [r] := .cons h .nil
theorem ix_last (n : Nat) : ixN (n + 1) (-1) = some n := by
  unfold ixN
  rw [if_neg (by omega), if_pos (by omega)]
  exact congrArg some (by omega)
theorem nil_or_snoc {α : Type} (l : List α) : l = [] ∨ ∃ i x, l = i ++ [x] := by
  rcases List.eq_nil_or_concat l with h | ⟨i, x, h⟩
  · exact .inl h
  · exact .inr ⟨i, x, by rw [h, List.concat_eq_append]⟩
theorem merge_more {l : List Rn} {i : Nat} {r : Rn} (h : l[i]? = some r) : merge (l.take (i + 1)) = push (merge (l.take i)) r := by
  unfold merge
  obtain ⟨hi, e⟩ := List.getElem?_eq_some_iff.mp h
  rw [List.take_succ_eq_append_getElem hi, List.foldl_append, e]
  rfl
def spApart : Sp := fun vs H Q _ => ∃ (p q : Addr) (a b : Rn), vs = [.ref p, .ref q] ∧ H p = some (.tup (rnV a)) ∧ H q = some (.tup (rnV b)) ∧ Q (.bl (apart a b)) H
def spRunsOf (K : PySem.W.Frag) : Sp := fun vs H Q _ => ∃ (a : Addr) (ps : List Addr) (rs : List Rn), vs = [.ref a] ∧ SqL K H a (ps.map V.ref) ∧ Prd H ps rs ∧ rs.length ≤ 100000 ∧
  ∀ (t : Addr) (qs : List Addr) (H' : Hp), Same H H' → H t = none → H' t = some (.tup (qs.map V.ref)) → Prd H' qs (runsOf rs) → Q (.ref t) H'
def single (s : Str) (n : Int) : Rn := (s, n, n + 1)
def spRunsNums : Sp := fun vs H Q _ => ∃ (a l : Addr) (p : Prt) (ns : List Int), vs = [.ref a, .ref l] ∧ PrAt H a p ∧ H l = some (.lst (ns.map V.int)) ∧ ns.length ≤ 100000 ∧
  ∀ (t : Addr) (qs : List Addr) (H' : Hp), Same H H' → H t = none → H' t = some (.tup (qs.map V.ref)) → Prd H' qs (runsOf (ns.map (single p.series))) → Q (.ref t) H'
def spSheetRuns : Sp := fun vs H Q _ => ∃ (a : Addr) (p : Prt) (s : Int), vs = [.ref a, .int s] ∧ PrAt H a p ∧ PrOk p ∧
  ∀ (t : Addr) (qs : List Addr) (H' : Hp), Same H H' → H t = none → H' t = some (.tup (qs.map V.ref)) → Prd H' qs (runsOf ((numsOn p s).map (single p.series))) → Q (.ref t) H'
def spPile (f : Prt → Int → Int → Int) : Sp := fun vs H Q _ => ∃ (a : Addr) (p : Prt) (r c : Int), vs = [.ref a, .int r, .int c] ∧ PrAt H a p ∧ PrOk p ∧
  ∀ (t : Addr) (H' : Hp), Same H H' → H t = none → H' t = some (.tup [.int (p.num 0 r c), .int (f p r c), .int p.sheets]) → Q (.ref t) H'
theorem numsOn_len {p : Prt} (ok : PrOk p) (s : Int) : (numsOn p s).length ≤ 144 := by
  rw [← numsTo_all, numsTo_len]
  have h1 := ok.r2
  have h2 := ok.c2
  have : p.rows.toNat * p.cols.toNat ≤ 12 * 12 := Nat.mul_le_mul (by omega) (by omega)
  omega
/-! ### Sheets: numbers on a sheet are unlike; joined they are the runs -/
theorem mixed {x y n c d : Int} (e : x * n + c = y * n + d) (c0 : 0 ≤ c) (c1 : c < n) (d0 : 0 ≤ d) (d1 : d < n) : x = y ∧ c = d := by
  have h1 : (x * n + c) / n = x := by
    rw [Int.add_comm, Int.add_mul_ediv_right _ _ (by omega), Int.ediv_eq_zero_of_lt c0 c1, Int.zero_add]
  have h2 : (y * n + d) / n = y := by
    rw [Int.add_comm, Int.add_mul_ediv_right _ _ (by omega), Int.ediv_eq_zero_of_lt d0 d1, Int.zero_add]
  have h3 : x = y := by rw [← h1, ← h2, e]
  subst h3
  exact ⟨rfl, by omega⟩
theorem cancel {x y n : Int} (e : x * n = y * n) (h : 1 ≤ n) : x = y := Int.eq_of_mul_eq_mul_right (by omega) e
theorem num_inj {p : Prt} (ok : PrOk p) {s r c r' c' : Int} (r0 : 0 ≤ r) (r1 : r < p.rows) (c0 : 0 ≤ c) (c1 : c < p.cols) (r0' : 0 ≤ r') (r1' : r' < p.rows) (c0' : 0 ≤ c') (c1' : c' < p.cols)
    (e : p.num s r c = p.num s r' c') : r = r' ∧ c = c' := by
  obtain ⟨series, first, cols, rows, sheets, o1, o2, o3⟩ := p
  have s1 := ok.s1
  have d12 := ok.d12
  have d13 := ok.d13
  have d23 := ok.d23
  dsimp only at *
  unfold Prt.num at e
  dsimp only at e
  have e := Int.add_left_cancel e
  cases o1 <;> cases o2 <;> cases o3 <;> first | exact absurd rfl d12 | exact absurd rfl d13 | exact absurd rfl d23 | skip
  all_goals simp only [seatW, Prt.size] at e
  · obtain ⟨h1, h2⟩ := mixed e c0 c1 c0' c1'
    exact ⟨by omega, h2⟩
  · obtain ⟨h1, h2⟩ := mixed e r0 r1 r0' r1'
    exact ⟨h2, by omega⟩
  · obtain ⟨h1, h2⟩ := mixed e c0 c1 c0' c1'
    exact ⟨cancel (n := sheets) (by omega) s1, h2⟩
  · have h1 := cancel (x := r * cols + c) (y := r' * cols + c') (n := sheets) (by omega) s1
    exact mixed h1 c0 c1 c0' c1'
  · obtain ⟨h1, h2⟩ := mixed e r0 r1 r0' r1'
    exact ⟨h2, cancel (n := sheets) (by omega) s1⟩
  · have h1 := cancel (x := c * rows + r) (y := c' * rows + r') (n := sheets) (by omega) s1
    obtain ⟨h2, h3⟩ := mixed h1 r0 r1 r0' r1'
    exact ⟨h3, h2⟩
theorem nums_nodup {p : Prt} (ok : PrOk p) (s : Int) : (numsOn p s).Pairwise (· ≠ ·) := by
  unfold numsOn
  rw [List.pairwise_flatMap]
  refine ⟨fun r hr => ?_, ?_⟩
  · unfold rowNums
    rw [List.pairwise_map]
    refine List.Pairwise.imp_of_mem ?_ List.nodup_range
    intro c c' hc hc' ne e
    have h1 := List.mem_range.mp hr
    have h2 := List.mem_range.mp hc
    have h3 := List.mem_range.mp hc'
    have z := num_inj ok (by omega) (by omega) (by omega) (by omega) (by omega) (by omega) (by omega) (by omega) e
    exact ne (by omega)
  · refine List.Pairwise.imp_of_mem ?_ List.nodup_range
    intro r r' hr hr' ne x hx y hy e
    unfold rowNums at hx hy
    obtain ⟨c, hc, rfl⟩ := List.mem_map.mp hx
    obtain ⟨c', hc', rfl⟩ := List.mem_map.mp hy
    have h1 := List.mem_range.mp hr
    have h2 := List.mem_range.mp hr'
    have h3 := List.mem_range.mp hc
    have h4 := List.mem_range.mp hc'
    have z := num_inj ok (by omega) (by omega) (by omega) (by omega) (by omega) (by omega) (by omega) (by omega) e
    exact ne (by omega)
/-- one number more, as the law joins them -/
def step (s : Str) (acc : List Rn) (n : Int) : List Rn := match acc.getLast? with
  | none => [single s n]
  | some l => if l.2.2 = n then acc.dropLast ++ [(s, l.2.1, n + 1)] else acc ++ [single s n]
theorem step_snoc (s : Str) (acc : List Rn) (l : Rn) (n : Int) : step s (acc ++ [l]) n = if l.2.2 = n then acc ++ [(s, l.2.1, n + 1)] else acc ++ [l] ++ [single s n] := by
  unfold step
  rw [List.getLast?_concat]
  simp only [List.dropLast_concat]
theorem push_step {s : Str} {acc : List Rn} {n : Int} (h : ∀ l, acc.getLast? = some l → l.1 = s ∧ l.2.2 ≤ n) : push acc (single s n) = step s acc n := by
  rcases nil_or_snoc acc with rfl | ⟨i, l, rfl⟩
  · rfl
  · obtain ⟨h1, h2⟩ := h l List.getLast?_concat
    rw [push_snoc, step_snoc]
    have e : apart l (single s n) = decide (l.2.2 < n) := if_pos h1
    rw [e]
    by_cases c : l.2.2 = n
    · rw [if_neg (by rw [decide_eq_true_eq]; omega), if_pos c]
      have m : (if (single s n).2.2 > l.2.2 then (single s n).2.2 else l.2.2) = n + 1 := if_pos (show n + 1 > l.2.2 by omega)
      rw [m, h1]
    · rw [if_pos (by rw [decide_eq_true_eq]; omega), if_neg c]
theorem step_last (s : Str) (acc : List Rn) (n : Int) : ∃ i l, step s acc n = i ++ [l] ∧ l.1 = s ∧ l.2.2 = n + 1 := by
  rcases nil_or_snoc acc with rfl | ⟨i, l, rfl⟩
  · exact ⟨[], single s n, rfl, rfl, rfl⟩
  · rw [step_snoc]
    by_cases c : l.2.2 = n
    · rw [if_pos c]
      exact ⟨_, _, rfl, rfl, rfl⟩
    · rw [if_neg c]
      exact ⟨_, _, rfl, rfl, rfl⟩
theorem fold_step (s : Str) : ∀ (ns : List Int) (acc : List Rn), ns.Pairwise (· < ·) → (∀ l, acc.getLast? = some l → l.1 = s ∧ ∀ n ∈ ns, l.2.2 ≤ n) → (ns.map (single s)).foldl push acc = ns.foldl (step s) acc
  | [], _, _, _ => rfl
  | n :: ns, acc, hp, h => by
    have hp := List.pairwise_cons.mp hp
    rw [List.map_cons, List.foldl_cons, List.foldl_cons, push_step (fun l hl => ⟨(h l hl).1, (h l hl).2 n List.mem_cons_self⟩)]
    refine fold_step s ns _ hp.2 fun l hl => ?_
    obtain ⟨i, l', e, h1, h2⟩ := step_last s acc n
    rw [e, List.getLast?_concat] at hl
    cases hl
    refine ⟨h1, fun m hm => ?_⟩
    have := hp.1 m hm
    omega
theorem single_le (s : Str) (a b : Int) : rnLe (single s a) (single s b) = decide (a ≤ b) := by
  show (!PySem.W.dataLt (rnD (single s b)) (rnD (single s a))) = _
  rw [rn_lt]
  have n : ¬ (single s b).1.cps.toList < (single s a).1.cps.toList := List.lt_irrefl _
  by_cases c : b < a
  · rw [decide_eq_true (Or.inr ⟨rfl, Or.inl c⟩), decide_eq_false (by omega)]
    rfl
  · have z : ¬ ((single s b).1.cps.toList < (single s a).1.cps.toList ∨ (single s b).1 = (single s a).1 ∧ ((single s b).2.1 < (single s a).2.1 ∨ (single s b).2.1 = (single s a).2.1 ∧ (single s b).2.2 < (single s a).2.2)) := by
      rintro (h | ⟨_, h | ⟨_, h⟩⟩)
      · exact n h
      · exact c h
      · have h : b + 1 < a + 1 := h
        omega
    rw [decide_eq_false z, decide_eq_true (by omega)]
    rfl
theorem runsOf_singles {s : Str} {ns ms : List Int} (hp : ms.Perm ns) (hs : ms.Pairwise (· ≤ ·)) (hn : ns.Pairwise (· ≠ ·)) : ms.foldl (step s) [] = runsOf (ns.map (single s)) := by
  unfold runsOf merge
  have e1 : (ns.map (single s)).mergeSort rnLe = (ns.mergeSort fun a b => decide (a ≤ b)).map (single s) := (PySem.W.sort_maps (single s) (fun a _ b _ => (single_le s a b).symm)).symm
  have e2 : ms = ns.mergeSort fun a b => decide (a ≤ b) := by
    refine List.Perm.eq_of_pairwise (le := fun a b => a ≤ b) (fun a b _ _ => Int.le_antisymm) hs ?_ (hp.trans (List.mergeSort_perm _ _).symm)
    have z := List.pairwise_mergeSort (le := fun (a b : Int) => decide (a ≤ b)) (fun a b c h1 h2 => by rw [decide_eq_true_eq] at *; omega) (fun a b => by rw [Bool.or_eq_true, decide_eq_true_eq, decide_eq_true_eq]; omega) ns
    exact z.imp fun h => of_decide_eq_true h
  have lt : ms.Pairwise (· < ·) := by
    have hm : ms.Pairwise (· ≠ ·) := (hp.pairwise_iff (fun h => Ne.symm h)).mpr hn
    exact (hs.and hm).imp fun h => by omega
  rw [e1, ← e2]
  exact (fold_step s ms [] lt fun l hl => nomatch hl).symm
theorem step_len (s : Str) (acc : List Rn) (n : Int) : (step s acc n).length ≤ acc.length + 1 := by
  rcases nil_or_snoc acc with rfl | ⟨i, l, rfl⟩
  · exact Nat.le_refl _
  · rw [step_snoc]
    split <;> simp
theorem steps_len (s : Str) (ns : List Int) : (ns.foldl (step s) []).length ≤ ns.length := by
  have all : ∀ (l : List Int) (acc : List Rn), (l.foldl (step s) acc).length ≤ acc.length + l.length := fun l => by
    induction l with
    | nil => intro acc; simp
    | cons r l ih =>
      intro acc
      have h1 := ih (step s acc r)
      have h2 := step_len s acc r
      rw [List.foldl_cons, List.length_cons]
      omega
  have z := all ns []
  rw [List.length_nil, Nat.zero_add] at z
  exact z
theorem steps_more {s : Str} {l : List Int} {i : Nat} {n : Int} (h : l[i]? = some n) : (l.take (i + 1)).foldl (step s) [] = step s ((l.take i).foldl (step s) []) n := by
  obtain ⟨hi, e⟩ := List.getElem?_eq_some_iff.mp h
  rw [List.take_succ_eq_append_getElem hi, List.foldl_append, e]
  rfl
/-- what a pile's numbers grow by, from the sizes of the words behind "sheet" -/
def stepOf (p : Prt) : Int := match p.o1, p.o2, p.o3 with
  | .sh, b, c => 1 * p.size b * p.size c
  | _, .sh, c => 1 * p.size c
  | _, _, _ => 1
theorem step_of {p : Prt} (ok : PrOk p) (r c : Int) : p.num 1 r c - p.num 0 r c = stepOf p := by
  obtain ⟨series, first, cols, rows, sheets, o1, o2, o3⟩ := p
  have d12 := ok.d12
  have d13 := ok.d13
  have d23 := ok.d23
  dsimp only at *
  unfold Prt.num stepOf
  dsimp only
  cases o1 <;> cases o2 <;> cases o3 <;> first | exact absurd rfl d12 | exact absurd rfl d13 | exact absurd rfl d23 | skip
  all_goals simp only [seatW, Prt.size, Int.zero_mul, Int.one_mul, Int.add_mul, Int.zero_add]
  all_goals omega
def strsW (ws : List Wd) : List V := ws.map fun w => V.str w.s
theorem behind {p : Prt} (ok : PrOk p) : ∃ (j : Nat) (bs : List Wd), [p.o1.s, p.o2.s, p.o3.s][j]? = some Wd.sh.s ∧ (∀ m, m < j → [p.o1.s, p.o2.s, p.o3.s][m]? ≠ some Wd.sh.s) ∧
    cutV (ordV p) (some ((j : Int) + 1)) none = strsW bs ∧ bs.foldl (fun x w => x * p.size w) 1 = stepOf p ∧ j < 3 := by
  obtain ⟨series, first, cols, rows, sheets, o1, o2, o3⟩ := p
  have d12 := ok.d12
  have d13 := ok.d13
  have d23 := ok.d23
  dsimp only at *
  cases o1 <;> cases o2 <;> cases o3 <;> first | exact absurd rfl d12 | exact absurd rfl d13 | exact absurd rfl d23 | skip
  · exact ⟨0, [.ro, .co], rfl, fun m hm => absurd hm (Nat.not_lt_zero _), rfl, rfl, by decide⟩
  · exact ⟨0, [.co, .ro], rfl, fun m hm => absurd hm (Nat.not_lt_zero _), rfl, rfl, by decide⟩
  · refine ⟨1, [.co], rfl, fun m hm => ?_, rfl, rfl, by decide⟩
    obtain rfl : m = 0 := by omega
    decide +kernel
  · refine ⟨2, [], rfl, fun m hm => ?_, rfl, rfl, by decide⟩
    rcases (show m = 0 ∨ m = 1 by omega) with rfl | rfl <;> decide +kernel
  · refine ⟨1, [.ro], rfl, fun m hm => ?_, rfl, rfl, by decide⟩
    obtain rfl : m = 0 := by omega
    decide +kernel
  · refine ⟨2, [], rfl, fun m hm => ?_, rfl, rfl, by decide⟩
    rcases (show m = 0 ∨ m = 1 by omega) with rfl | rfl <;> decide +kernel
theorem PrOk.thin1 {p : Prt} (ok : PrOk p) : PrOk { p with sheets := 1 } := by
  have h1 := ok.most
  have h2 : p.cols * p.rows * 1 ≤ p.cols * p.rows * p.sheets := Int.mul_le_mul_of_nonneg_left ok.s1 (Int.mul_nonneg (by have := ok.c1; omega) (by have := ok.r1; omega))
  exact ⟨ok.len, ok.f0, ok.c1, ok.c2, ok.r1, ok.r2, Int.le_refl 1, (show (1 : Int) ≤ 1000000 by decide), by show p.first + p.cols * p.rows * 1 ≤ _; omega, ok.d12, ok.d13, ok.d23, ok.chr⟩
theorem PrOk.thin2 {p : Prt} (ok : PrOk p) : PrOk { p with cols := 1 } := by
  have h1 := ok.most
  have h3 := ok.s1
  have h4 := ok.r1
  have h2 : 1 * p.rows * p.sheets ≤ p.cols * p.rows * p.sheets := Int.mul_le_mul_of_nonneg_right (Int.mul_le_mul_of_nonneg_right ok.c1 (by omega)) (by omega)
  exact ⟨ok.len, ok.f0, Int.le_refl 1, (show (1 : Int) ≤ 12 by decide), ok.r1, ok.r2, ok.s1, ok.s2, by show p.first + 1 * p.rows * p.sheets ≤ _; omega, ok.d12, ok.d13, ok.d23, ok.chr⟩
theorem PrOk.thin3 {p : Prt} (ok : PrOk p) : PrOk { p with rows := 1 } := by
  have h1 := ok.most
  have h3 := ok.s1
  have h4 := ok.c1
  have h2 : p.cols * 1 * p.sheets ≤ p.cols * p.rows * p.sheets := Int.mul_le_mul_of_nonneg_right (Int.mul_le_mul_of_nonneg_left ok.r1 (by omega)) (by omega)
  exact ⟨ok.len, ok.f0, ok.c1, ok.c2, Int.le_refl 1, (show (1 : Int) ≤ 12 by decide), ok.s1, ok.s2, by show p.first + p.cols * 1 * p.sheets ≤ _; omega, ok.d12, ok.d13, ok.d23, ok.chr⟩
/-- right printings at these places -/
def PrsAt (H : Hp) (as : List Addr) (ps : List Prt) : Prop := Paired (fun (a : Addr) (p : Prt) => PrAt H a p ∧ PrOk p) as ps
theorem PrsAt.same {H H' : Hp} (s : Same H H') : ∀ {as : List Addr} {ps : List Prt}, PrsAt H as ps → PrsAt H' as ps
  | _, _, .nil => .nil
  | _, _, .cons a b => .cons ⟨a.1.same s, a.2⟩ (PrsAt.same s b)
theorem PrsAt.but {H H' : Hp} {f c : Addr} {n : Int} (hf : Fd H f c n) (s : But f H H') : ∀ {as : List Addr} {ps : List Prt}, PrsAt H as ps → PrsAt H' as ps
  | _, _, .nil => .nil
  | _, _, .cons a b => .cons ⟨a.1.but hf s, a.2⟩ (PrsAt.but hf s b)
theorem PrsAt.get {H : Hp} : ∀ {as : List Addr} {ps : List Prt} {i : Nat} {a : Addr}, PrsAt H as ps → as[i]? = some a → ∃ p, ps[i]? = some p ∧ PrAt H a p ∧ PrOk p
  | _, _, 0, _, .cons a _, h => by
    cases h
    exact ⟨_, rfl, a.1, a.2⟩
  | _, _, i + 1, a, .cons _ b, h => PrsAt.get (i := i) (a := a) b h
def spPrints : Sp := fun vs H Q _ => ∃ (f c : Addr) (n : Int), vs = [.ref f] ∧ Fd H f c n ∧ n ≤ 700000 ∧
  ∀ (l : Addr) (as : List Addr) (ps : List Prt) (H' : Hp), Fd H' f c (n + 50) → But f H H' → l ≠ f → H' l = some (.lst (as.map V.ref)) → PrsAt H' as ps → as.length = 4 → Q (.ref l) H'
/-! ### How long a repr is -/
mutual
def cost : PyData → Nat
  | .none => 4
  | .bool _ => 5
  | .int _ => 2000
  | .str x => 10 * x.length + 2
  | .list xs => costAll xs + 3
  | .tuple xs => costAll xs + 3
  | .dict _ => 0
def costAll : List PyData → Nat
  | [] => 0
  | x :: xs => cost x + 2 + costAll xs
end
mutual
def fineD : PyData → Bool
  | .none => true
  | .bool _ => true
  | .int i => decide (i.natAbs.log2 < 1920)
  | .str x => x.cps.toList.all fun c => decide (c < 16 ^ 8)
  | .list xs => fineAll xs
  | .tuple xs => fineAll xs
  | .dict _ => false
def fineAll : List PyData → Bool
  | [] => true
  | x :: xs => fineD x && fineAll xs
end
theorem from_len : ∀ (ts : List Str) (k : Nat) (acc : Str), (textFrom k acc ts).length ≤ acc.length + piled ts
  | [], k, acc => by
    unfold textFrom
    exact Nat.le_add_right _ _
  | t :: ts, k, acc => by
    unfold textFrom
    rw [piled_cons]
    have z := from_len ts (k + 1) (acc ++ (if k > 0 then ", " else "" : String) ++ t)
    have e : (((if k > 0 then ", " else "" : String) : Str)).length ≤ 2 := by split <;> decide +kernel
    rw [strLen_append, strLen_append] at z
    omega
theorem tup_len (ts : List Str) : (tupleText ts).length ≤ piled ts + 3 := by
  have e1 : ((("(" : String) : Str)).length = 1 := rfl
  have e3 : (((if ts.length == 1 then ",)" else ")" : String) : Str)).length ≤ 2 := by split <;> decide +kernel
  unfold tupleText
  rw [strLen_append, strLen_append, e1]
  cases ts with
  | nil =>
    have : (Str.join ", " []).length = 0 := rfl
    omega
  | cons t ts =>
    have := join_length_add (t :: ts) (fun z => nomatch z)
    omega
mutual
theorem shown_cost : ∀ d : PyData, fineD d = true → d.shown.length ≤ cost d
  | .none, _ => by decide +kernel
  | .bool b, _ => by cases b <;> decide +kernel
  | .int i, h => by
    have := int_text_len_1921 (of_decide_eq_true h)
    unfold PyData.shown cost
    omega
  | .str x, h => StrLaws.reprText_len x fun c hc => of_decide_eq_true (List.all_eq_true.mp h c hc)
  | .list xs, h => by
    have z := shown_costAll xs h
    have y := from_len (PyData.shownAll xs) 0 "["
    have e : (("[" : String) : Str).length = 1 := rfl
    have e2 : (("]" : String) : Str).length = 1 := rfl
    unfold PyData.shown cost listText
    rw [strLen_append, e2]
    rw [e] at y
    omega
  | .tuple xs, h => by
    have z := shown_costAll xs h
    have y := tup_len (PyData.shownAll xs)
    unfold PyData.shown cost
    omega
theorem shown_costAll : ∀ xs : List PyData, fineAll xs = true → piled (PyData.shownAll xs) ≤ costAll xs
  | [], _ => Nat.zero_le _
  | x :: xs, h => by
    have h := Bool.and_eq_true_iff.mp h
    have z1 := shown_cost x h.1
    have z2 := shown_costAll xs h.2
    unfold PyData.shownAll costAll
    rw [piled_cons]
    omega
end
mutual
theorem fine_show : ∀ d : PyData, fineD d = true → d.showable = true ∧ d.hasDict = false
  | .none, _ => ⟨rfl, rfl⟩
  | .bool b, _ => ⟨rfl, rfl⟩
  | .int i, h => ⟨h, rfl⟩
  | .str x, h => ⟨rfl, rfl⟩
  | .list xs, h => fine_showAll xs h
  | .tuple xs, h => fine_showAll xs h
theorem fine_showAll : ∀ xs : List PyData, fineAll xs = true → PyData.showableAll xs = true ∧ PyData.hasDictAll xs = false
  | [], _ => ⟨rfl, rfl⟩
  | x :: xs, h => by
    have h := Bool.and_eq_true_iff.mp h
    have z1 := fine_show x h.1
    have z2 := fine_showAll xs h.2
    unfold PyData.showableAll PyData.hasDictAll
    rw [z1.1, z1.2, z2.1, z2.2]
    exact ⟨rfl, rfl⟩
end
theorem log_small {n : Nat} (h : n < 2 ^ 64) : n.log2 < 1920 := by
  by_cases z : n = 0
  · subst z
    decide +kernel
  · exact (Nat.log2_lt z).mpr (Nat.lt_of_lt_of_le h (Nat.pow_le_pow_right (by decide) (by decide)))
theorem int_fine {i : Int} (h0 : -1000000000000 ≤ i) (h1 : i ≤ 1000000000000) : fineD (.int i) = true := decide_eq_true (log_small (by omega))
def prD (p : Prt) : PyData := .tuple [.str p.series, .int p.first, .int p.cols, .int p.rows, .int p.sheets, .tuple [.str p.o1.s, .str p.o2.s, .str p.o3.s]]
theorem PrAt.dp {K : PySem.W.Frag} {H : Hp} {a : Addr} {p : Prt} (h : PrAt H a p) : Dp K H (.ref a) (prD p) := by
  obtain ⟨t, h1, o, h2, _⟩ := h
  exact .tup (SqT.of h1) (.cons (.str _) (.cons (.int _) (.cons (.int _) (.cons (.int _) (.cons (.int _) (.cons (.tup (sqF h2) (.cons (.str _) (.cons (.str _) (.cons (.str _) .nil)))) .nil))))))
theorem word_fine (u : Wd) : fineD (.str u.s) = true := by cases u <;> decide +kernel
theorem PrOk.fine {p : Prt} (ok : PrOk p) : fineD (prD p) = true := by
  have h1 := ok.f0; have h2 := ok.c1; have h3 := ok.c2; have h4 := ok.r1; have h5 := ok.r2; have h6 := ok.s1; have h7 := ok.s2; have h8 := ok.most
  have h9 := (prod_bound (c := p.cols) (r := p.rows) (s := p.sheets) (by omega) h3 (by omega) h5 (by omega) h7).1
  show (fineD (.str p.series) && (fineD (.int p.first) && (fineD (.int p.cols) && (fineD (.int p.rows) && (fineD (.int p.sheets) && ((fineD (.str p.o1.s) && (fineD (.str p.o2.s) && (fineD (.str p.o3.s) && true))) && true)))))) = true
  have e0 : fineD (.str p.series) = true := ok.chr
  rw [e0, int_fine (by omega) (by omega), int_fine (by omega) (by omega), int_fine (by omega) (by omega), int_fine (by omega) (by omega), word_fine, word_fine, word_fine]
  rfl
theorem word_cost (u : Wd) : cost (.str u.s) ≤ 62 := by cases u <;> decide +kernel
theorem PrOk.cost {p : Prt} (ok : PrOk p) : cost (prD p) ≤ 9000 := by
  have h := ok.len
  have h1 := word_cost p.o1; have h2 := word_cost p.o2; have h3 := word_cost p.o3
  simp only [prD, Pn.cost, costAll] at *
  omega
theorem PrsAt.dp {K : PySem.W.Frag} {H : Hp} : ∀ {as : List Addr} {ps : List Prt}, PrsAt H as ps → DpAll K H (as.map V.ref) (ps.map prD)
  | _, _, .nil => .nil
  | _, _, .cons a b => .cons a.1.dp (PrsAt.dp b)
theorem PrsAt.fine {H : Hp} : ∀ {as : List Addr} {ps : List Prt}, PrsAt H as ps → fineAll (ps.map prD) = true ∧ costAll (ps.map prD) ≤ 9002 * ps.length ∧ as.length = ps.length
  | _, _, .nil => ⟨rfl, Nat.le_refl _, rfl⟩
  | _, _, .cons (l₂ := l) a b => by
    obtain ⟨z1, z2, z3⟩ := PrsAt.fine b
    have y1 := a.2.fine
    have y2 := a.2.cost
    refine ⟨?_, ?_, congrArg (· + 1) z3⟩
    · rw [List.map_cons]
      unfold fineAll
      rw [y1, z1]
      rfl
    · rw [List.map_cons, List.length_cons]
      unfold costAll
      omega
theorem prs_depth (ps : List Prt) : (PyData.list (ps.map prD)).depth ≤ 60 := by
  have all : ∀ l : List Prt, PyData.depthAll (l.map prD) ≤ 4 := fun l => by
    induction l with
    | nil => simp [PyData.depthAll]
    | cons p l ih =>
      rw [List.map_cons]
      simp only [PyData.depthAll, prD, PyData.depth] at *
      omega
  have z := all ps
  simp only [PyData.depth]
  omega
def rnsD (rs : List Rn) : PyData := .tuple (rs.map rnD)
theorem rns_nice {rs : List Rn} (h : rs.length ≤ 100000) : Nice 2 (rnsD rs) := by
  refine Or.inr ⟨_, Or.inr rfl, by rw [List.length_map]; exact h, fun e he => ?_⟩
  obtain ⟨r, _, rfl⟩ := List.mem_map.mp he
  refine Or.inr ⟨_, Or.inr rfl, (show 3 ≤ 100000 by decide), fun e he => ?_⟩
  rcases List.mem_cons.mp he with rfl | he
  · exact Nice.flat rfl
  rcases List.mem_cons.mp he with rfl | he
  · exact Nice.flat rfl
  rcases List.mem_cons.mp he with rfl | he
  · exact Nice.flat rfl
  · exact nomatch he
theorem runsOf_len (rs : List Rn) : (runsOf rs).length ≤ rs.length := by
  unfold runsOf
  have z := merge_len (rs.mergeSort rnLe)
  rw [List.length_mergeSort] at z
  exact z
theorem prd_dp {K : PySem.W.Frag} {H : Hp} {t : Addr} {qs : List Addr} {rs : List Rn} (h : H t = some (.tup (qs.map V.ref))) (hq : Prd H qs rs) : Dp K H (.ref t) (rnsD rs) := .tup (SqT.of h) (Prd.dp hq)
def intsD (ns : List Int) : PyData := .tuple (ns.map .int)
theorem ints_dp {K : PySem.W.Frag} {H : Hp} {t : Addr} {ns : List Int} (h : H t = some (.tup (ns.map V.int))) : Dp K H (.ref t) (intsD ns) := by
  refine .tup (SqT.of h) ?_
  clear h
  induction ns with
  | nil => exact .nil
  | cons n ns ih => exact .cons (.int n) ih
theorem ints_nice {ns : List Int} (h : ns.length ≤ 100000) : Nice 2 (intsD ns) := by
  refine Or.inr ⟨_, Or.inr rfl, by rw [List.length_map]; exact h, fun e he => ?_⟩
  obtain ⟨r, _, rfl⟩ := List.mem_map.mp he
  exact Nice.flat rfl
def spLaw (K : PySem.W.Frag) : Sp := fun vs H Q _ => ∃ (a : Addr) (ns : List Int), vs = [.ref a] ∧ SqL K H a (ns.map V.int) ∧ ∀ H', Q (.bl true) H'
/-! ### Numbers told twice; dicts of numbers; seats -/
/-- neighbours alike told once -/
def dd : List Int → List Int
  | [] => []
  | [x] => [x]
  | x :: y :: r => if x = y then dd (y :: r) else x :: dd (y :: r)
theorem dd_mem : ∀ (l : List Int) (n : Int), n ∈ dd l ↔ n ∈ l
  | [], _ => Iff.rfl
  | [x], _ => Iff.rfl
  | x :: y :: r, n => by
    have ih := dd_mem (y :: r) n
    unfold dd
    split
    · rename_i e
      subst e
      rw [ih]
      simp
    · rw [List.mem_cons, ih, ← List.mem_cons]
theorem dd_up : ∀ (l : List Int), l.Pairwise (· ≤ ·) → (dd l).Pairwise (· < ·)
  | [], _ => .nil
  | [x], _ => List.pairwise_singleton _ _
  | x :: y :: r, h => by
    have hc := List.pairwise_cons.mp h
    have ih := dd_up (y :: r) hc.2
    unfold dd
    split
    · exact ih
    · rename_i ne
      refine List.pairwise_cons.mpr ⟨fun z hz => ?_, ih⟩
      have hz := (dd_mem _ z).mp hz
      have h1 := hc.1 y List.mem_cons_self
      rcases List.mem_cons.mp hz with rfl | hz
      · omega
      · have := (List.pairwise_cons.mp hc.2).1 z hz
        omega
theorem push_again (s : Str) (acc : List Rn) (n : Int) : push (step s acc n) (single s n) = step s acc n := by
  obtain ⟨i, l, e, h1, h2⟩ := step_last s acc n
  rw [e, push_snoc]
  have a : apart l (single s n) = false := (if_pos h1).trans (decide_eq_false (show ¬ l.2.2 < n by omega))
  rw [a, if_neg Bool.false_ne_true]
  have m : (if (single s n).2.2 > l.2.2 then (single s n).2.2 else l.2.2) = l.2.2 := if_neg (show ¬ n + 1 > l.2.2 by omega)
  rw [m]
theorem fold_dd (s : Str) : ∀ (l : List Int) (acc : List Rn), l.Pairwise (· ≤ ·) → (∀ r, acc.getLast? = some r → r.1 = s ∧ ∀ n ∈ l, r.2.2 ≤ n) → (l.map (single s)).foldl push acc = ((dd l).map (single s)).foldl push acc
  | [], _, _, _ => rfl
  | [x], _, _, _ => rfl
  | x :: y :: r, acc, h, ha => by
    have hc := List.pairwise_cons.mp h
    unfold dd
    split
    · rename_i e
      subst e
      rw [List.map_cons, List.map_cons, List.foldl_cons, List.foldl_cons, push_step (fun l hl => ⟨(ha l hl).1, (ha l hl).2 x List.mem_cons_self⟩), push_again]
      have ih := fold_dd s (x :: r) acc hc.2 fun l hl => ⟨(ha l hl).1, fun n hn => (ha l hl).2 n (List.mem_cons_of_mem _ hn)⟩
      rw [List.map_cons, List.foldl_cons, push_step (fun l hl => ⟨(ha l hl).1, (ha l hl).2 x List.mem_cons_self⟩)] at ih
      exact ih
    · rename_i ne
      show ((y :: r).map (single s)).foldl push (push acc (single s x)) = ((dd (y :: r)).map (single s)).foldl push (push acc (single s x))
      rw [push_step (fun l hl => ⟨(ha l hl).1, (ha l hl).2 x List.mem_cons_self⟩)]
      refine fold_dd s (y :: r) _ hc.2 fun l hl => ?_
      obtain ⟨i, l', e, h1, h2⟩ := step_last s acc x
      rw [e, List.getLast?_concat] at hl
      cases hl
      refine ⟨h1, fun n hn => ?_⟩
      have h3 := hc.1 y List.mem_cons_self
      rcases List.mem_cons.mp hn with rfl | hn
      · omega
      · have := (List.pairwise_cons.mp hc.2).1 n hn
        omega
def leI (a b : Int) : Bool := decide (a ≤ b)
theorem sortI_up (ns : List Int) : (ns.mergeSort leI).Pairwise (· ≤ ·) := by
  have z := List.pairwise_mergeSort (le := leI) (fun a b c h1 h2 => by unfold leI at *; rw [decide_eq_true_eq] at *; omega) (fun a b => by unfold leI; rw [Bool.or_eq_true, decide_eq_true_eq, decide_eq_true_eq]; omega) ns
  exact z.imp fun h => of_decide_eq_true h
theorem up_same {a b : List Int} (ha : a.Pairwise (· < ·)) (hb : b.Pairwise (· < ·)) (h : ∀ n, n ∈ a ↔ n ∈ b) : a = b := by
  have na : a.Nodup := ha.imp fun h => by omega
  have nb : b.Nodup := hb.imp fun h => by omega
  have hp : a.Perm b := (List.perm_ext_iff_of_nodup na nb).mpr h
  exact List.Perm.eq_of_pairwise (le := fun x y => x ≤ y) (fun x y _ _ => Int.le_antisymm) (ha.imp fun h => by omega) (hb.imp fun h => by omega) hp
/-- the numbers joined, whatever their order and however often each is told -/
theorem runsOf_mem {s : Str} {ns ys : List Int} (up : ys.Pairwise (· < ·)) (h : ∀ n, n ∈ ys ↔ n ∈ ns) : ys.foldl (step s) [] = runsOf (ns.map (single s)) := by
  unfold runsOf merge
  have e1 : (ns.map (single s)).mergeSort rnLe = (ns.mergeSort leI).map (single s) := (PySem.W.sort_maps (single s) (fun a _ b _ => (single_le s a b).symm)).symm
  have e2 : ys = dd (ns.mergeSort leI) := up_same up (dd_up _ (sortI_up ns)) fun n => by rw [h, dd_mem, List.mem_mergeSort]
  rw [e1, fold_dd s _ [] (sortI_up ns) (fun l hl => nomatch hl), ← e2]
  exact (fold_step s ys [] up fun l hl => nomatch hl).symm
theorem runsOf_like {s : Str} {ns ms : List Int} (h : ∀ n, n ∈ ns ↔ n ∈ ms) : runsOf (ns.map (single s)) = runsOf (ms.map (single s)) := by
  exact (runsOf_mem (ns := ns) (dd_up _ (sortI_up ms)) (fun n => by rw [dd_mem, List.mem_mergeSort, h])).symm.trans (runsOf_mem (dd_up _ (sortI_up ms)) (fun n => by rw [dd_mem, List.mem_mergeSort]))
/-- a dict whose keys are just these numbers -/
def DN (H : Hp) (d : Addr) (ns : List Int) : Prop := ∃ (kvs : List (Key × V)) (ks : List Int), H d = some (.dK kvs) ∧ kvs.map (·.1) = ks.map Sum.inl ∧ ks.Nodup ∧ (∀ n, n ∈ ks ↔ n ∈ ns) ∧ ks.length ≤ ns.length
theorem DN.same {H H' : Hp} {d : Addr} {ns : List Int} (h : DN H d ns) (s : Same H H') : DN H' d ns := by
  obtain ⟨kvs, ks, h1, r⟩ := h
  exact ⟨kvs, ks, s _ _ h1, r⟩
theorem put_keys {kvs : List (Key × V)} {ks : List Int} {n : Int} {v : V} (e : kvs.map (·.1) = ks.map Sum.inl) : ∃ ks' : List Int, (putK kvs (Sum.inl n) v).map (·.1) = ks'.map Sum.inl ∧ (ks.Nodup → ks'.Nodup) ∧ (∀ m, m ∈ ks' ↔ m ∈ ks ∨ m = n) ∧ ks'.length ≤ ks.length + 1 := by
  unfold putK
  by_cases c : (kvs.any fun kv => decide (kv.1 = Sum.inl n)) = true
  · rw [if_pos c]
    refine ⟨ks, ?_, _root_.id, fun m => ⟨Or.inl, ?_⟩, Nat.le_succ _⟩
    · rw [← e, List.map_map]
      refine List.map_congr_left fun kv _ => ?_
      show (if kv.1 = Sum.inl n then (kv.1, v) else kv).1 = kv.1
      split <;> rfl
    · rintro (h | rfl)
      · exact h
      · obtain ⟨kv, h1, h2⟩ := List.any_eq_true.mp c
        have h3 : kv.1 ∈ kvs.map (·.1) := List.mem_map.mpr ⟨kv, h1, rfl⟩
        rw [e, of_decide_eq_true h2] at h3
        obtain ⟨k, h4, h5⟩ := List.mem_map.mp h3
        cases h5
        exact h4
  · rw [if_neg c]
    refine ⟨ks ++ [n], by rw [List.map_append, List.map_append, e]; rfl, fun nd => ?_, fun m => by simp, by simp⟩
    refine List.nodup_append.mpr ⟨nd, List.pairwise_singleton _ _, fun a ha b hb => ?_⟩
    rw [List.mem_singleton] at hb
    subst hb
    rintro rfl
    apply c
    have h3 : (Sum.inl a : Key) ∈ kvs.map (·.1) := by rw [e]; exact List.mem_map.mpr ⟨a, ha, rfl⟩
    obtain ⟨kv, h4, h5⟩ := List.mem_map.mp h3
    exact List.any_eq_true.mpr ⟨kv, h4, decide_eq_true h5⟩
theorem DN.put {H : Hp} {d : Addr} {ns : List Int} {n : Int} {v : V} (h : DN H d ns) (hl : ns.length < 100000) : ∃ H', DPut H d (.int n) v H' ∧ DN H' d (ns ++ [n]) ∧ ∃ o, H' = upd H d o := by
  obtain ⟨kvs, ks, h1, h2, h3, h4, h5⟩ := h
  obtain ⟨ks', g1, g2, g3, g4⟩ := put_keys (n := n) (v := v) h2
  have len : kvs.length = ks.length := by simpa using congrArg List.length h2
  refine ⟨_, DPut.k (k := Sum.inl n) h1 (Nat.lt_trans (show _ < 100000 by omega) (by decide)), ⟨_, ks', upd_same, g1, g2 h3, fun m => ?_, ?_⟩, _, rfl⟩
  · rw [g3, h4, List.mem_append, List.mem_singleton]
  · rw [List.length_append, List.length_singleton]
    omega
abbrev Se := Int × Int × Int
def seV (e : Se) : List V := [.int e.1, .int e.2.1, .int e.2.2]
/-- the seats es stand at the places ps -/
abbrev Ses (H : Hp) (ps : List Addr) (es : List Se) : Prop := Paired (fun (p : Addr) (e : Se) => H p = some (.tup (seV e))) ps es
theorem Ses.len {H : Hp} {ps : List Addr} {es : List Se} (h : Ses H ps es) : ps.length = es.length := Paired.length h
theorem Ses.keep {H H' : Hp} : ∀ {ps : List Addr} {es : List Se}, (∀ p o, (∀ z, o ≠ HO.lst z) → H p = some o → H' p = some o) → Ses H ps es → Ses H' ps es
  | _, _, _, .nil => .nil
  | _, _, k, .cons a b => .cons (k _ _ (fun z => nofun) a) (Ses.keep k b)
theorem Ses.same {H H' : Hp} {ps : List Addr} {es : List Se} (s : Same H H') (h : Ses H ps es) : Ses H' ps es := Ses.keep (fun p o _ e => s p o e) h
theorem Ses.get {H : Hp} : ∀ {ps : List Addr} {es : List Se} {i : Nat} {p : Addr}, Ses H ps es → ps[i]? = some p → ∃ e, es[i]? = some e ∧ H p = some (.tup (seV e))
  | _, _, 0, _, .cons a _, h => by
    cases h
    exact ⟨_, rfl, a⟩
  | _, _, i + 1, p, .cons _ b, h => Ses.get (i := i) (p := p) b h
theorem Ses.app {H : Hp} : ∀ {ps qs : List Addr} {es ts : List Se}, Ses H ps es → Ses H qs ts → Ses H (ps ++ qs) (es ++ ts)
  | _, _, _, _, .nil, b => b
  | _, _, _, _, .cons a r, b => .cons a (Ses.app r b)
theorem Ses.rev {H : Hp} : ∀ {ps : List Addr} {es : List Se}, Ses H ps es → Ses H ps.reverse es.reverse
  | _, _, .nil => .nil
  | _, _, .cons a b => by
    rw [List.reverse_cons, List.reverse_cons]
    exact Ses.app (Ses.rev b) (.cons a .nil)
theorem Ses.snoc {H : Hp} : ∀ {ps : List Addr} {rs : List Se} {p : Addr}, Ses H (ps ++ [p]) rs → ∃ ts r, rs = ts ++ [r] ∧ Ses H ps ts ∧ H p = some (.tup (seV r))
  | [], _, p, h => by
    cases h with
    | cons a b =>
      cases b
      exact ⟨[], _, rfl, .nil, a⟩
  | x :: ps, _, p, h => by
    cases h with
    | cons a b =>
      obtain ⟨ts, r, rfl, h1, h2⟩ := Ses.snoc b
      exact ⟨_ :: ts, r, rfl, .cons a h1, h2⟩
def Prt.at_ (p : Prt) (e : Se) : Int := p.num e.1 e.2.1 e.2.2
def allNums (p : Prt) (shs : List Int) (es : List Se) : List Int := es.map p.at_ ++ shs.flatMap (numsOn p)
theorem allNums_mem (p : Prt) (shs : List Int) (es : List Se) (n : Int) : n ∈ allNums p shs es ↔ n ∈ shs.flatMap (numsOn p) ++ es.map p.at_ := by
  unfold allNums
  rw [List.mem_append, List.mem_append, Or.comm]
theorem flat_len {p : Prt} (ok : PrOk p) : ∀ shs : List Int, (shs.flatMap (numsOn p)).length ≤ 144 * shs.length
  | [] => Nat.le_refl _
  | s :: shs => by
    have z := flat_len ok shs
    have y := numsOn_len ok s
    rw [List.flatMap_cons, List.length_append, List.length_cons]
    omega
def spSpoilt (K : PySem.W.Frag) : Sp := fun vs H Q _ => ∃ (a ls le : Addr) (p : Prt) (shs : List Int) (ps : List Addr) (es : List Se), vs = [.ref a, .ref ls, .ref le] ∧ PrAt H a p ∧ PrOk p ∧
  SqL K H ls (shs.map V.int) ∧ SqL K H le (ps.map V.ref) ∧ Ses H ps es ∧ shs.length ≤ 20 ∧ es.length ≤ 1000 ∧
  ∀ (t : Addr) (qs : List Addr) (H' : Hp), Same H H' → H t = none → H' t = some (.tup (qs.map V.ref)) → Prd H' qs (runsOf ((allNums p shs es).map (single p.series))) → Q (.ref t) H'
/-- seats within bounds -/
def SeOk (e : Se) : Prop := (0 ≤ e.1 ∧ e.1 ≤ 1000000) ∧ (0 ≤ e.2.1 ∧ e.2.1 ≤ 1000000) ∧ (0 ≤ e.2.2 ∧ e.2.2 ≤ 1000000)
def spSeats : Sp := fun vs H Q _ => ∃ (f c a ls : Addr) (n : Int) (p : Prt) (shs : List Int), vs = [.ref f, .ref a, .ref ls] ∧ Fd H f c n ∧ n ≤ 600000 ∧ PrAt H a p ∧ PrOk p ∧
  H ls = some (.lst (shs.map V.int)) ∧ ls ≠ f ∧ (∀ s ∈ shs, 0 ≤ s ∧ s ≤ 1000000) ∧ shs.length ≤ 20 ∧
  ∀ (l : Addr) (ps : List Addr) (es : List Se) (H' : Hp), Fd H' f c (n + 500) → But f H H' → l ≠ f → l ≠ c → H l = none → H' l = some (.lst (ps.map V.ref)) → Ses H' ps es → es.length ≤ 100 → (∀ e ∈ es, SeOk e) → Q (.ref l) H'
theorem Ses.but {H H' : Hp} {f c : Addr} {n : Int} {ps : List Addr} {es : List Se} (hf : Fd H f c n) (b : But f H H') (h : Ses H ps es) : Ses H' ps es := by
  obtain ⟨zs, hz⟩ := hf.at
  exact Ses.keep (fun p o no e => b p o (ne_of e hz (no zs)) e) h
theorem pick_int {shs : List Int} {d : Int} (d0 : 0 ≤ d) (d1 : d < (((shs.map V.int).length : Nat) : Int)) : ∃ s ∈ shs, atI (shs.map V.int) d = some (.int s) := by
  rw [List.length_map] at d1
  obtain ⟨k, rfl⟩ : ∃ k : Nat, d = (k : Int) := ⟨d.toNat, by omega⟩
  have hk : k < shs.length := by omega
  exact ⟨shs[k], List.getElem_mem hk, atI_nat (by rw [List.getElem?_map, List.getElem?_eq_getElem hk]; rfl)⟩
def seD (e : Se) : PyData := .tuple [.int e.1, .int e.2.1, .int e.2.2]
theorem ints_all {K : PySem.W.Frag} {H : Hp} : ∀ ns : List Int, DpAll K H (ns.map V.int) (ns.map .int)
  | [] => .nil
  | n :: ns => .cons (.int n) (ints_all ns)
theorem Ses.dp {K : PySem.W.Frag} {H : Hp} : ∀ {ps : List Addr} {es : List Se}, Ses H ps es → DpAll K H (ps.map V.ref) (es.map seD)
  | _, _, .nil => .nil
  | _, _, .cons a b => .cons (.tup (SqT.of a) (.cons (.int _) (.cons (.int _) (.cons (.int _) .nil)))) (Ses.dp b)
theorem ints_fine : ∀ ns : List Int, (∀ s ∈ ns, 0 ≤ s ∧ s ≤ 1000000) → fineAll (ns.map .int) = true ∧ costAll (ns.map .int) ≤ 2002 * ns.length
  | [], _ => ⟨rfl, Nat.le_refl _⟩
  | n :: ns, h => by
    obtain ⟨z1, z2⟩ := ints_fine ns fun s hs => h s (List.mem_cons_of_mem _ hs)
    have hn := h n List.mem_cons_self
    refine ⟨?_, ?_⟩
    · rw [List.map_cons]
      unfold fineAll
      rw [int_fine (by omega) (by omega), z1]
      rfl
    · rw [List.map_cons, List.length_cons]
      unfold costAll
      have e : cost (.int n) = 2000 := rfl
      omega
theorem seats_fine : ∀ es : List Se, (∀ e ∈ es, SeOk e) → fineAll (es.map seD) = true ∧ costAll (es.map seD) ≤ 7000 * es.length
  | [], _ => ⟨rfl, Nat.le_refl _⟩
  | e :: es, h => by
    obtain ⟨z1, z2⟩ := seats_fine es fun s hs => h s (List.mem_cons_of_mem _ hs)
    obtain ⟨⟨a1, a2⟩, ⟨a3, a4⟩, ⟨a5, a6⟩⟩ := h e List.mem_cons_self
    refine ⟨?_, ?_⟩
    · rw [List.map_cons]
      unfold fineAll
      rw [z1]
      show (((fineD (.int e.1)) && (fineD (.int e.2.1) && (fineD (.int e.2.2) && true))) && true) = true
      rw [int_fine (by omega) (by omega), int_fine (by omega) (by omega), int_fine (by omega) (by omega)]
      rfl
    · rw [List.map_cons, List.length_cons]
      unfold costAll
      have e1 : cost (seD e) = 6009 := rfl
      omega
def trD (p : Prt) (shs : List Int) (es : List Se) : PyData := .tuple [prD p, .list (shs.map .int), .list (es.map seD)]
theorem tr_fine {p : Prt} (ok : PrOk p) {shs : List Int} {es : List Se} (h1 : ∀ s ∈ shs, 0 ≤ s ∧ s ≤ 1000000) (h2 : ∀ e ∈ es, SeOk e) (l1 : shs.length ≤ 20) (l2 : es.length ≤ 100) :
    (trD p shs es).showable = true ∧ (trD p shs es).hasDict = false ∧ (trD p shs es).shown.length ≤ sizeLine := by
  obtain ⟨a1, a2⟩ := ints_fine shs h1
  obtain ⟨b1, b2⟩ := seats_fine es h2
  have f : fineD (trD p shs es) = true := by
    show (fineD (prD p) && (fineAll (shs.map .int) && (fineAll (es.map seD) && true))) = true
    rw [ok.fine, a1, b1]
    rfl
  have c := shown_cost _ f
  have e : cost (trD p shs es) = (cost (prD p) + 2 + ((costAll (shs.map .int) + 3) + 2 + ((costAll (es.map seD) + 3) + 2 + 0))) + 3 := rfl
  have k := ok.cost
  obtain ⟨s1, s2⟩ := fine_show _ f
  exact ⟨s1, s2, Nat.le_trans c (Nat.le_trans (show _ ≤ 1000000 by omega) (by decide))⟩
theorem tr_depth (p : Prt) (shs : List Int) (es : List Se) : (trD p shs es).depth ≤ 60 := by
  have d1 : PyData.depthAll (shs.map .int) ≤ 1 := by
    induction shs with
    | nil => simp [PyData.depthAll]
    | cons s l ih => rw [List.map_cons]; simp only [PyData.depthAll, PyData.depth] at *; omega
  have d2 : PyData.depthAll (es.map seD) ≤ 3 := by
    induction es with
    | nil => simp [PyData.depthAll]
    | cons s l ih => rw [List.map_cons]; simp only [PyData.depthAll, seD, PyData.depth] at *; omega
  simp only [trD, prD, PyData.depth, PyData.depthAll]
  omega
theorem tr_dp {K : PySem.W.Frag} {H : Hp} {t a ls l : Addr} {p : Prt} {shs : List Int} {ps : List Addr} {es : List Se} (ht : H t = some (.tup [.ref a, .ref ls, .ref l])) (hp : PrAt H a p) (h1 : H ls = some (.lst (shs.map V.int))) (h2 : H l = some (.lst (ps.map V.ref))) (h3 : Ses H ps es) :
    Dp K H (.ref t) (trD p shs es) := .tup (SqT.of ht) (.cons hp.dp (.cons (.lst (SqL.of h1) (ints_all shs)) (.cons (.lst (SqL.of h2) h3.dp) .nil)))
theorem all_len {p : Prt} (ok : PrOk p) {shs : List Int} {es : List Se} (l1 : shs.length ≤ 20) (l2 : es.length ≤ 1000) (s : Str) : (runsOf ((allNums p shs es).map (single s))).length ≤ 100000 := by
  have z := runsOf_len ((allNums p shs es).map (single s))
  have y := flat_len ok shs
  unfold allNums at *
  rw [List.length_map, List.length_append, List.length_map] at z
  omega
theorem pair_nice {a b : PyData} (ha : Nice 2 a) (hb : Nice 2 b) : Nice 3 (.list [a, b]) := by
  refine Or.inr ⟨_, Or.inl rfl, (show 2 ≤ 100000 by decide), fun e he => ?_⟩
  rcases List.mem_cons.mp he with rfl | he
  · exact ha
  rcases List.mem_cons.mp he with rfl | he
  · exact hb
  · exact nomatch he
theorem Nice.more : ∀ {n : Nat} {d : PyData}, Nice n d → Nice (n + 1) d
  | 0, d, h => Or.inl h
  | n + 1, d, h => by
    rcases h with h | ⟨ds, h1, h2, h3⟩
    · exact Or.inl h
    · exact Or.inr ⟨ds, h1, h2, fun e he => Nice.more (h3 e he)⟩
theorem all_rev (p : Prt) (shs : List Int) (es : List Se) (n : Int) : n ∈ allNums p shs.reverse es.reverse ↔ n ∈ allNums p shs es := by
  unfold allNums
  simp only [List.mem_append, List.mem_map, List.mem_flatMap, List.mem_reverse]
theorem two_dp {K : PySem.W.Frag} {H : Hp} {t x y : Addr} {d e : PyData} (h : H t = some (.lst [.ref x, .ref y])) (hx : Dp K H (.ref x) d) (hy : Dp K H (.ref y) e) : Dp K H (.ref t) (.list [d, e]) := .lst (SqL.of h) (.cons hx (.cons hy .nil))
/-! ### Refusals: a class of the text over ValueError that keeps what it is made of -/
def clsBody : Stmt → List Stmt
  | .ClassDef _ _ _ b _ _ _ _ _ _ _ => b
  | _ => []
def oexB (K : PySem.W.Frag) (C : Addr) : Bool := match K.lookup C with
  | some ⟨c, _, .cls cd, sl⟩ => decide (c = .type "type") && (match cd.mro, sl.toList with
    | .ref D :: bm, [_, _, _, _, some (.builtin n), _] => decide (D = C) && (decide (n = "ValueError.__new__") && (PySem.HandSPX.refsVE bm && (cd.hasDict && !cd.hasDel)))
    | _, _ => false)
  | _ => false
theorem oexB_ok {K : PySem.W.Frag} {C : Addr} (h : oexB K C = true) : ∃ nm q N bs bm sn sub ab col dd k0 k1 k2 k3 k5,
    K.lookup C = some (excClassObj nm q C N bs bm true sn sub ab col dd k0 k1 k2 k3 k5 "ValueError.__new__") ∧ PySem.HandSPX.refsVE bm = true := by
  unfold oexB at h
  split at h
  · rename_i c dd cd sl e
    obtain ⟨h1, h2⟩ := Bool.and_eq_true_iff.mp h
    split at h2
    · rename_i D bm k0 k1 k2 k3 n k5 em es
      obtain ⟨h3, h2⟩ := Bool.and_eq_true_iff.mp h2
      obtain ⟨h4, h2⟩ := Bool.and_eq_true_iff.mp h2
      obtain ⟨h5, h2⟩ := Bool.and_eq_true_iff.mp h2
      obtain ⟨h6, h7⟩ := Bool.and_eq_true_iff.mp h2
      have z1 := of_decide_eq_true h1
      have z3 := of_decide_eq_true h3
      have z4 := of_decide_eq_true h4
      have z7 : cd.hasDel = false := by simpa using h7
      obtain ⟨nm, bs, mro, ns, qn, hd, sn, sub, ab, col, del⟩ := cd
      dsimp only at em h6 z7
      obtain ⟨l⟩ := sl
      dsimp only at es
      subst z1 z3 z4 em h6 z7 es
      exact ⟨nm, qn, ns, bs, bm, sn, sub, ab, col, dd, k0, k1, k2, k3, k5, e, h5⟩
    · cases h2
  · cases h
/-- what stands of the class x (one field f), caught by the class y, the classes zs others -/
structure Rf (K : PySem.W.Frag) (x f y : Str) (zs : List Str) : Prop where
  o : OexC K (He.ga K x)
  xf : XfC K (He.ga K x)
  no : PySem.W.findIn K (.ref (He.ga K x)) f = some none
  iC : PySem.W.findIn K (.ref (He.ga K x)) "__init__" = some (some (.ref (He.ma K (He.ga K x) "__init__")))
  tI : PySem.W.typeIn K (.ref (He.ma K (He.ga K x) "__init__")) = some (.type "function")
  cl : (PySem.W.clsIn K (He.ga K x)).isSome = true
  ha : PySem.W.findIn K (.ref (He.ga K x)) "__class__" = some (some (.builtin "object.__class__"))
  hn : PySem.W.specialIn K (.builtin "object.__class__") "__get__" = some (some (.builtin "getset_descriptor.__get__"))
  ht : PySem.W.takesIn K (.builtin "object.__class__") = some true
  hm : PySem.W.mroIn K (He.ga K x) (.type "object") = some true
  ex : PySem.W.exmOne K (.ref (He.ga K x)) (.ref (He.ga K y)) = some true
  isV : PySem.W.kitOne K (.ref (He.ga K x)) (.type "ValueError") = some true
  isO : PySem.W.kitAny K (.ref (He.ga K x)) (zs.map fun z => .ref (He.ga K z)) = some false
def rfB (K : PySem.W.Frag) (x f y : Str) (zs : List Str) : Bool :=
  oexB K (He.ga K x) && (He.eqO (PySem.W.findIn K (.ref (He.ga K x)) "__setattr__") (some (some (.builtin "object.__setattr__"))) && (decide (PySem.W.typeIn K (.ref (He.ga K x)) = some (.type "type")) && (PySem.W.keepIn K (.ref (He.ga K x)) &&
  (xfB K (He.ga K x) && (He.eqO (PySem.W.findIn K (.ref (He.ga K x)) f) (some none) && (He.eqO (PySem.W.findIn K (.ref (He.ga K x)) "__init__") (some (some (.ref (He.ma K (He.ga K x) "__init__")))) &&
  (decide (PySem.W.typeIn K (.ref (He.ma K (He.ga K x) "__init__")) = some (.type "function")) && ((PySem.W.clsIn K (He.ga K x)).isSome && (He.eqO (PySem.W.findIn K (.ref (He.ga K x)) "__class__") (some (some (.builtin "object.__class__"))) &&
  (He.eqO (PySem.W.specialIn K (.builtin "object.__class__") "__get__") (some (some (.builtin "getset_descriptor.__get__"))) && (decide (PySem.W.takesIn K (.builtin "object.__class__") = some true) && (decide (PySem.W.mroIn K (He.ga K x) (.type "object") = some true) &&
  (decide (PySem.W.exmOne K (.ref (He.ga K x)) (.ref (He.ga K y)) = some true) && (decide (PySem.W.kitOne K (.ref (He.ga K x)) (.type "ValueError") = some true) && decide (PySem.W.kitAny K (.ref (He.ga K x)) (zs.map fun z => .ref (He.ga K z)) = some false)))))))))))))))
theorem rfB_ok {K : PySem.W.Frag} {x f y : Str} {zs : List Str} (h : rfB K x f y zs = true) : Rf K x f y zs := by
  obtain ⟨h1, h⟩ := Bool.and_eq_true_iff.mp h
  obtain ⟨h2, h⟩ := Bool.and_eq_true_iff.mp h
  obtain ⟨h3, h⟩ := Bool.and_eq_true_iff.mp h
  obtain ⟨h4, h⟩ := Bool.and_eq_true_iff.mp h
  obtain ⟨h5, h⟩ := Bool.and_eq_true_iff.mp h
  obtain ⟨h6, h⟩ := Bool.and_eq_true_iff.mp h
  obtain ⟨h7, h⟩ := Bool.and_eq_true_iff.mp h
  obtain ⟨h8, h⟩ := Bool.and_eq_true_iff.mp h
  obtain ⟨h9, h⟩ := Bool.and_eq_true_iff.mp h
  obtain ⟨h10, h⟩ := Bool.and_eq_true_iff.mp h
  obtain ⟨h11, h⟩ := Bool.and_eq_true_iff.mp h
  obtain ⟨h12, h⟩ := Bool.and_eq_true_iff.mp h
  obtain ⟨h13, h⟩ := Bool.and_eq_true_iff.mp h
  obtain ⟨h14, h⟩ := Bool.and_eq_true_iff.mp h
  obtain ⟨h15, h16⟩ := Bool.and_eq_true_iff.mp h
  have xf := xfB_ok h5
  exact ⟨⟨oexB_ok h1, He.eqO_ok h2, xf.exC, of_decide_eq_true h3, h4⟩, xf, He.eqO_ok h6, He.eqO_ok h7, of_decide_eq_true h8, h9, He.eqO_ok h10, He.eqO_ok h11, of_decide_eq_true h12, of_decide_eq_true h13, of_decide_eq_true h14, of_decide_eq_true h15, of_decide_eq_true h16⟩
/-- what __init__ does: self.f = what it is given -/
def spIn (C : Addr) (f : Str) : Sp := fun vs H Q _ => ∃ (a : Addr) (x : V), vs = [.ref a, x] ∧ H a = some (exo a C none) ∧
  ∀ dx, H dx = none → dx ≠ a → Q .non (upd (upd H dx (exd dx [(f, x)])) a (exo a C (some dx)))
theorem init_ok {P : Program} {w : World} {K : PySem.W.Frag} {mg : Str → Option Value} {base : Heap} {qual f : Str} {st : Stmt} {fI C : Addr} {fd : FuncData} {N : List Str} {ps : List Str} {k : Nat} (F : Fun K "__init__" qual st fI fd) (S : FnScope N ps (defScope st)) (hp : ps.length = 2)
    (T : OexC K C) (no : PySem.W.findIn K (.ref C) f = some none)
    (hb : ∀ (X : Cx), X.N = N → X.K = K → X.env.scope = defScope st → PSs X (defBody st) (tOst X.K f (tVar 0) (tVar 1))) (hN : N = ps) : FnOk P w K mg base CX0 (k + 1) fI fd ps (spIn C f) := by
  refine F.ok S (fun vs H Q E h => ?_) (fun cdv A outer s H vs Q E hr h => ?_)
  · obtain ⟨a, x, rfl, _⟩ := h
    exact hp.symm
  · obtain ⟨a, x, rfl, ha, q⟩ := h
    refine ⟨_, hb _ rfl rfl rfl, ?_⟩
    subst hN
    match N, hp with
    | [n1, n2], _ => exact ⟨_, rfl, _, rfl, a, C, rfl, T, no, Or.inl ⟨ha, q⟩⟩
theorem mk_read {C : Addr} {f : Str} {v : V} {H : Hp} {Q : XK} (h : ∀ d H', H d = none → Same H H' → H' d = some (.xd [(f, v)]) → Q (.ref C) (some d) H') :
    [v].length ≤ 1000 ∧ ∀ a, H a = none → spIn C f (.ref a :: ([v] ++ [])) (upd H a (exo a C none))
      (fun u H2 => u = .non ∧ ∃ (d : Addr) (fs : List (Str × V)), H2 a = some (exo a C (some d)) ∧ H2 d = some (exd d fs) ∧ H d = none ∧ Q (.ref C) (some d) (upd (del H2 a) d (.xd fs))) (fun _ _ _ => False) := by
  refine ⟨(show 1 ≤ 1000 by decide), fun a ha => ⟨a, v, rfl, upd_same, fun dx hdx ne => ?_⟩⟩
  rw [upd_ne ne] at hdx
  refine ⟨rfl, dx, [(f, v)], upd_same, (upd_ne ne).trans upd_same, hdx, h dx _ hdx (fun b o e => ?_) upd_same⟩
  have n1 : b ≠ dx := ne_of_none e hdx
  have n2 : b ≠ a := ne_of_none e ha
  rw [upd_ne n1, del_ne n2, upd_ne n2, upd_ne n1, upd_ne n2]
  exact e
theorem PSs.as {X : Cx} {b : List Stmt} {t u : TS} (h : PSs X b t) (e : t = u) : PSs X b u := e ▸ h
section
variable {Y : Cx} {a : Addr} {oe : Obj} {cls : Value} {d : Option Addr} {x f y : Str} {zs : List Str}
theorem inst_at {C : Addr} {pins : List (Addr × Obj)} {σ : L2.St} {H : Hp} {s : Shared} {dd : Addr} {fs : List (Str × V)} (hp : (a, oe) ∈ Y.pn) (hz : Zc (.ref C) (some dd) oe) (hf : ∃ vs, oe.data = .fields vs) (I : Inv Y pins σ H s) (e : H dd = some (.xd fs)) :
    ∃ od, PySem.W.InstAt s.heap a oe C (some od) ∧ ∃ mA : Str → Option Value, (∀ g, RelO (fs.lookup g) (mA g)) ∧ ∀ n, PySem.W.lookIn n od = some (mA n) := by
  obtain ⟨ha, _⟩ := I.pin (a, oe) (List.mem_append_left _ hp)
  obtain ⟨vs, hd⟩ := hf
  have hx : ObjOk Y.prog Y.w H s.heap dd (.xd fs) := I.hok dd _ e
  obtain ⟨mA, hns, hr⟩ := hx
  obtain ⟨od, ho, hl⟩ := lookIn_ns hns
  exact ⟨od, ⟨ha, hz.1, by unfold PySem.W.notCls; rw [hd] <;> rfl, by rw [hz.2]; exact ho⟩, mA, hr, hl⟩
/-- isinstance(e, c), e the refusal that the suite holds -/
def rIs1 (K : PySem.W.Frag) (x : Str) (a : Addr) (cls : Value) (d : Option Addr) : List V → Hp → VK → Prop := fun xs H Q => cls = .ref (He.ga K x) ∧ ∃ (dd : Addr) (fs : List (Str × V)) (c : V) (cv : Value) (b : Bool), d = some dd ∧ H dd = some (.xd fs) ∧
  xs = [.ref a, c] ∧ (∀ u, RelV c u → u = cv) ∧ PySem.W.kitOne K (.ref (He.ga K x)) cv = some b ∧ Q (.bl b) H
theorem call_is1 {K : PySem.W.Frag} (hK : Y.K = K) (R : Rf K x f y zs) (hz : Zc cls d oe) (hf : ∃ vs, oe.data = .fields vs) (hp : (a, oe) ∈ Y.pn) : CallR Y (.builtin "isinstance") (rIs1 K x a cls d) := by
  subst hK
  intro pins s σ H xs us Q I r h
  obtain ⟨rfl, dd, fs, c, cv, b, rfl, hd, rfl, hcv, e, q⟩ := h
  obtain ⟨u1, u2, rfl, r1, r2⟩ := vals2 r
  obtain rfl : u1 = Value.ref a := r1
  have z := hcv _ r2
  subst z
  obtain ⟨od, J, _⟩ := inst_at hp hz hf I hd
  exact PySem.W.kia_one (PySem.W.kitx_exc (od := some od) R.cl R.xf.ga R.xf.gg R.xf.exC R.ha R.hn R.ht R.hm) I.kIn J e (fun z => nomatch z) fun tk => ⟨.bl b, H, I.kept (t' := tk) fun _ _ z => z, rfl, q⟩
theorem vals_refs : ∀ {cs : List Addr} {us : List Value}, Vals (cs.map V.ref) us → us = cs.map Value.ref
  | [], _, .nil => rfl
  | c :: cs, _, .cons r t => by
    have e : _ = Value.ref c := r
    rw [e, vals_refs t]
    rfl
/-- isinstance(e, (c, ..)) -/
def rIsN (K : PySem.W.Frag) (x : Str) (a : Addr) (cls : Value) (d : Option Addr) : List V → Hp → VK → Prop := fun xs H Q => cls = .ref (He.ga K x) ∧ ∃ (dd : Addr) (fs : List (Str × V)) (tp : Addr) (cs : List Addr) (b : Bool), d = some dd ∧ H dd = some (.xd fs) ∧
  xs = [.ref a, .ref tp] ∧ H tp = some (.tup (cs.map V.ref)) ∧ PySem.W.kitAny K (.ref (He.ga K x)) (cs.map Value.ref) = some b ∧ Q (.bl b) H
theorem call_isN {K : PySem.W.Frag} (hK : Y.K = K) (R : Rf K x f y zs) (hz : Zc cls d oe) (hf : ∃ vs, oe.data = .fields vs) (hp : (a, oe) ∈ Y.pn) : CallR Y (.builtin "isinstance") (rIsN K x a cls d) := by
  subst hK
  intro pins s σ H xs us Q I r h
  obtain ⟨rfl, dd, fs, tp, cs, b, rfl, hd, rfl, hT, e, q⟩ := h
  obtain ⟨u1, u2, rfl, r1, r2⟩ := vals2 r
  obtain rfl : u1 = Value.ref a := r1
  obtain rfl : u2 = Value.ref tp := r2
  obtain ⟨od, J, _⟩ := inst_at hp hz hf I hd
  obtain ⟨_, its, rv, o, h1, h2, n, h3⟩ := (show ObjOk Y.prog Y.w H s.heap tp (.tup (cs.map V.ref)) from I.hok tp _ hT)
  have e3 := vals_refs rv
  subst e3
  obtain ⟨oc, od2, dt, sl⟩ := o
  simp only at h2 h3
  subst h2 h3
  exact PySem.W.kia_tup (PySem.W.kitx_exc (od := some od) R.cl R.xf.ga R.xf.gg R.xf.exC R.ha R.hn R.ht R.hm) I.kIn J h1 e (fun z => nomatch z) fun tk => ⟨.bl b, H, I.kept (t' := tk) fun _ _ z => z, rfl, q⟩
/-- e.f, e the refusal that the suite holds -/
def tFld (K : PySem.W.Frag) (x f : Str) (a : Addr) (cls : Value) (d : Option Addr) (te : TE) : TE := fun σ H Q => te σ H fun u H1 => u = .ref a ∧ cls = .ref (He.ga K x) ∧ ∃ (dd : Addr) (fs : List (Str × V)) (v : V), d = some dd ∧ H1 dd = some (.xd fs) ∧ fs.lookup f = some v ∧ Q v H1
theorem pe_fld {K : PySem.W.Frag} {e : Expr} {te : TE} {pos : Pos} (hK : Y.K = K) (R : Rf K x f y zs) (hz : Zc cls d oe) (hf : ∃ vs, oe.data = .fields vs) (hp : (a, oe) ∈ Y.pn) (he : PE Y e te) (hb : attributeBase e f Y.env (eval e Y.env) = eval e Y.env := by rfl) :
    PE Y (.Attribute e f pos) (tFld K x f a cls d te) := by
  subst hK
  refine ⟨fun pins s σ H Q I h => attr_of hb (thn (he.run pins s σ H _ I h) fun u s1 hh => ?_)⟩
  obtain ⟨z, H1, I1, rx, rfl, rfl, dd, fs, v, rfl, ea, l, q⟩ := hh
  obtain rfl : u = Value.ref a := rx
  obtain ⟨od, J, mA, hr, hl⟩ := inst_at hp hz hf I1 ea
  obtain ⟨u, hu, ru⟩ := RelO.some_of (v := v) (o := mA f) (by rw [← l]; exact hr f)
  exact HandSPX.exc_get I1.kIn J R.xf.ga R.xf.gg R.xf.exC (PySem.W.findObj_own R.xf.hdC R.no rfl (by rw [hl, hu])) (handed_of ru) ⟨v, H1, I1.tok _, ru, q⟩
end
theorem kit_self {K : PySem.W.Frag} {t : Value} : PySem.W.kitOne K t t = some true := by
  unfold PySem.W.kitOne
  rw [if_pos (beq_iff_eq.mpr rfl)]
theorem look1 {f : Str} {v : V} : List.lookup f [(f, v)] = some v := by simp [List.lookup]
/-! ### Seats -/
def SeatIn (p : Prt) (f : Wd → Int) : Prop := ∀ u, 0 ≤ f u ∧ f u < p.size u
def seatAt (p : Prt) (m : Int) : Wd → Int := fun u => if u = p.o3 then m % p.size p.o3 else if u = p.o2 then m / p.size p.o3 % p.size p.o2 else m / p.size p.o3 / p.size p.o2
theorem size_prod {p : Prt} (ok : PrOk p) : p.size p.o1 * p.size p.o2 * p.size p.o3 = p.cols * p.rows * p.sheets := by
  have h1 := ok.d12; have h2 := ok.d13; have h3 := ok.d23
  generalize p.o1 = a at *
  generalize p.o2 = b at *
  generalize p.o3 = c at *
  cases a <;> cases b <;> cases c <;> simp only [ne_eq, not_true_eq_false] at h1 h2 h3 <;> simp only [Prt.size] <;> ac_rfl
theorem three {p : Prt} (ok : PrOk p) (u : Wd) : u = p.o1 ∨ u = p.o2 ∨ u = p.o3 := by
  have h1 := ok.d12; have h2 := ok.d13; have h3 := ok.d23
  generalize p.o1 = a at *
  generalize p.o2 = b at *
  generalize p.o3 = c at *
  cases a <;> cases b <;> cases c <;> cases u <;> simp at h1 h2 h3 ⊢
theorem seatAt3 (p : Prt) (m : Int) : seatAt p m p.o3 = m % p.size p.o3 := if_pos rfl
theorem seatAt2 {p : Prt} (ok : PrOk p) (m : Int) : seatAt p m p.o2 = m / p.size p.o3 % p.size p.o2 := by
  unfold seatAt
  rw [if_neg ok.d23, if_pos rfl]
theorem seatAt1 {p : Prt} (ok : PrOk p) (m : Int) : seatAt p m p.o1 = m / p.size p.o3 / p.size p.o2 := by
  unfold seatAt
  rw [if_neg ok.d13, if_neg ok.d12]
theorem seatAt_in {p : Prt} (ok : PrOk p) {m : Int} (h0 : 0 ≤ m) (h1 : m < p.cols * p.rows * p.sheets) : SeatIn p (seatAt p m) := by
  have s2 := ok.size_lo p.o2
  have s3 := ok.size_lo p.o3
  intro u
  rcases three ok u with rfl | rfl | rfl
  · rw [seatAt1 ok]
    refine ⟨Int.ediv_nonneg (Int.ediv_nonneg h0 (by omega)) (by omega), Int.ediv_lt_of_lt_mul (by omega) (Int.ediv_lt_of_lt_mul (by omega) ?_)⟩
    rw [size_prod ok]
    exact h1
  · rw [seatAt2 ok]
    exact ⟨Int.emod_nonneg _ (by omega), Int.emod_lt_of_pos _ (by omega)⟩
  · rw [seatAt3]
    exact ⟨Int.emod_nonneg _ (by omega), Int.emod_lt_of_pos _ (by omega)⟩
theorem seatW_of (f : Wd → Int) (u : Wd) : seatW (f .sh) (f .ro) (f .co) u = f u := by cases u <;> rfl
def Prt.at (p : Prt) (f : Wd → Int) : Int := p.num (f .sh) (f .ro) (f .co)
theorem at_eq (p : Prt) (f : Wd → Int) : p.at f = p.first + ((f p.o1 * p.size p.o2 + f p.o2) * p.size p.o3 + f p.o3) := by
  unfold Prt.at Prt.num
  rw [seatW_of, seatW_of, seatW_of]
theorem seatAt_num {p : Prt} (ok : PrOk p) (m : Int) : p.at (seatAt p m) = p.first + m := by
  rw [at_eq, seatAt1 ok, seatAt2 ok, seatAt3, Int.ediv_mul_add_emod, Int.ediv_mul_add_emod]
theorem at_range {p : Prt} (ok : PrOk p) {f : Wd → Int} (h : SeatIn p f) : p.first ≤ p.at f ∧ p.at f < p.first + p.cols * p.rows * p.sheets := by
  rw [at_eq, ← size_prod ok]
  obtain ⟨a0, a1⟩ := h p.o1
  obtain ⟨b0, b1⟩ := h p.o2
  obtain ⟨c0, c1⟩ := h p.o3
  generalize p.size p.o1 = A at *
  generalize p.size p.o2 = B at *
  generalize p.size p.o3 = C at *
  generalize f p.o1 = x at *
  generalize f p.o2 = y at *
  generalize f p.o3 = z at *
  have h1 : 0 ≤ x * B := Int.mul_nonneg a0 (by omega)
  have h2 : 0 ≤ (x * B + y) * C := Int.mul_nonneg (by omega) (by omega)
  have h3 : x * B ≤ (A - 1) * B := Int.mul_le_mul_of_nonneg_right (by omega) (by omega)
  have h4 : (A - 1) * B = A * B - B := by rw [Int.sub_mul, Int.one_mul]
  have h5 : (x * B + y) * C ≤ (A * B - 1) * C := Int.mul_le_mul_of_nonneg_right (by omega) (by omega)
  have h6 : (A * B - 1) * C = A * B * C - C := by rw [Int.sub_mul, Int.one_mul]
  constructor <;> omega
theorem at_inj {p : Prt} (ok : PrOk p) {f g : Wd → Int} (hf : SeatIn p f) (hg : SeatIn p g) (e : p.at f = p.at g) : f = g := by
  rw [at_eq, at_eq] at e
  have e1 : (f p.o1 * p.size p.o2 + f p.o2) * p.size p.o3 + f p.o3 = (g p.o1 * p.size p.o2 + g p.o2) * p.size p.o3 + g p.o3 := by omega
  have dm : ∀ {q x y s : Int}, 0 ≤ y → y < s → q = x * s + y → q / s = x ∧ q % s = y := fun {q x y s} h0 h1 e => by
    subst e
    rw [Int.add_comm, Int.add_mul_ediv_right _ _ (by omega), Int.add_mul_emod_self_right, Int.ediv_eq_zero_of_lt h0 h1, Int.emod_eq_of_lt h0 h1, Int.zero_add]
    exact ⟨rfl, rfl⟩
  obtain ⟨f1, f2⟩ := dm (hf p.o3).1 (hf p.o3).2 rfl
  obtain ⟨g1, g2⟩ := dm (hg p.o3).1 (hg p.o3).2 e1
  obtain ⟨k1, k2⟩ := dm (hf p.o2).1 (hf p.o2).2 (f1.symm.trans g1).symm
  obtain ⟨m1, m2⟩ := dm (hg p.o2).1 (hg p.o2).2 rfl
  funext u
  rcases three ok u with rfl | rfl | rfl
  · exact k1.symm.trans m1
  · exact k2.symm.trans m2
  · exact f2.symm.trans g2
def seOf (f : Wd → Int) : Se := (f .sh, f .ro, f .co)
def wOf (e : Se) : Wd → Int := seatW e.1 e.2.1 e.2.2
def Prt.end (p : Prt) : Int := p.first + p.cols * p.rows * p.sheets
def spPrinted : Sp := fun vs H Q _ => ∃ (a : Addr) (p : Prt), vs = [.ref a] ∧ PrAt H a p ∧ PrOk p ∧
  ∀ (t : Addr) (H' : Hp), Same H H' → H t = none → H' t = some (.tup [.str p.series, .int p.first, .int p.end]) → Q (.ref t) H'
def spSeat (C : Addr) : Sp := fun vs H Q E => ∃ (a : Addr) (p : Prt) (n : Int), vs = [.ref a, .int n] ∧ PrAt H a p ∧ PrOk p ∧
  (∀ (f : Wd → Int) (t : Addr) (H' : Hp), SeatIn p f → p.at f = n → Same H H' → H' t = some (.tup (seV (seOf f))) → Q (.ref t) H') ∧
  ((n < p.first ∨ p.end ≤ n) → ∀ (d : Addr) (H' : Hp), H d = none → Same H H' → H' d = some (.xd [("number", .int n)]) → E (.ref C) (some d) H')
def toldD (f : Wd → Int) : PyData := .tuple [.str "told", seD (seOf f)]
def noD (n : Int) : PyData := .tuple [.str "no", .int n]
def spHeard (K : PySem.W.Frag) : Sp := fun vs H Q _ => ∃ (a : Addr) (p : Prt) (n : Int), vs = [.ref a, .int n] ∧ PrAt H a p ∧ PrOk p ∧
  (∀ (f : Wd → Int) (t : Addr) (H' : Hp), SeatIn p f → p.at f = n → Same H H' → Dp K H' (.ref t) (toldD f) → Q (.ref t) H') ∧
  ((n < p.first ∨ p.end ≤ n) → ∀ (t : Addr) (H' : Hp), Same H H' → Dp K H' (.ref t) (noD n) → Q (.ref t) H')
/-- seats in a dict, its words in the order fast, slow, middle -/
def ordD (p : Prt) (f : Wd → Int) : List (Key × V) := [(Sum.inr p.o3.s, .int (f p.o3)), (Sum.inr p.o1.s, .int (f p.o1)), (Sum.inr p.o2.s, .int (f p.o2))]
theorem wd_inj {a b : Wd} (h : a.s = b.s) : a = b := by
  cases a <;> cases b <;> first | rfl | exact absurd h (by decide)
theorem val_ord {p : Prt} (ok : PrOk p) (f : Wd → Int) (u : Wd) : valV (ordD p f) (Sum.inr u.s) = some (.int (f u)) := by
  have n : ∀ {a b : Wd}, a ≠ b → ¬ ((Sum.inr a.s : Key) = Sum.inr b.s) := fun h z => h (wd_inj (Sum.inr.inj z))
  unfold ordD
  rcases three ok u with rfl | rfl | rfl
  · rw [valV_neg (n (Ne.symm ok.d13)), valV_pos rfl]
  · rw [valV_neg (n (Ne.symm ok.d23)), valV_neg (n ok.d12), valV_pos rfl]
  · rw [valV_pos rfl]
theorem same_put {H H' : Hp} {e : Addr} {o : HO} (s : Same H H') (he : H e = none) : Same H (upd H' e o) := fun b u hb => by
  rw [upd_ne (ne_of_none hb he)]
  exact s b u hb
theorem put3 {p : Prt} (ok : PrOk p) (x y z : V) : putK (putK (putK [] (Sum.inr p.o3.s : Key) x) (Sum.inr p.o1.s) y) (Sum.inr p.o2.s) z = [(Sum.inr p.o3.s, x), (Sum.inr p.o1.s, y), (Sum.inr p.o2.s, z)] := by
  have n : ∀ {a b : Wd}, a ≠ b → ¬ ((Sum.inr a.s : Key) = Sum.inr b.s) := fun h z => h (wd_inj (Sum.inr.inj z))
  have n1 := n (Ne.symm ok.d13)
  have n2 := n (Ne.symm ok.d23)
  have n3 := n ok.d12
  have e1 : putK [] (Sum.inr p.o3.s : Key) x = [(Sum.inr p.o3.s, x)] := rfl
  rw [e1]
  have e2 : putK [((Sum.inr p.o3.s : Key), x)] (Sum.inr p.o1.s) y = [(Sum.inr p.o3.s, x), (Sum.inr p.o1.s, y)] := by
    unfold putK
    rw [if_neg (by simp only [List.any_cons, List.any_nil, Bool.or_false, decide_eq_true_eq]; exact n1)]
    rfl
  rw [e2]
  unfold putK
  rw [if_neg (by
    simp only [List.any_cons, List.any_nil, Bool.or_false, Bool.or_eq_true, decide_eq_true_eq]
    intro h
    rcases h with h | h
    · exact n2 h
    · exact n3 h)]
  rfl
theorem get_ord {p : Prt} (ok : PrOk p) {H : Hp} {d : Addr} {f : Wd → Int} (h : H d = some (.dK (ordD p f))) (u : Wd) : DGet H d (.str u.s) (some (.int (f u))) := by
  have q := DGet.k (k := Sum.inr u.s) h
  rw [val_ord ok] at q
  exact q
theorem put_len (kvs : List (Key × V)) (k : Key) (v : V) : (putK kvs k v).length ≤ kvs.length + 1 := by
  unfold putK
  split
  · rw [List.length_map]
    omega
  · rw [List.length_append, List.length_singleton]
    exact Nat.le_refl _
theorem put_small {kvs : List (Key × V)} {k : Key} {v : V} (n : Nat) (h : kvs.length ≤ n) (hn : n < 1000) : (putK kvs k v).length < sizeLine := by
  have z := put_len kvs k v
  rw [sizeLine_eq]
  omega
theorem told_nice (f : Wd → Int) : Nice 2 (toldD f) := by
  refine Or.inr ⟨_, Or.inr rfl, (show 2 ≤ 100000 by decide), fun d hd => ?_⟩
  simp only [List.mem_cons, List.not_mem_nil, or_false] at hd
  rcases hd with rfl | rfl
  · exact Nice.flat rfl
  · refine Or.inr ⟨_, Or.inr rfl, (show 3 ≤ 100000 by decide), fun d hd => ?_⟩
    simp only [List.mem_cons, List.not_mem_nil, or_false] at hd
    rcases hd with rfl | rfl | rfl <;> rfl
theorem no_nice (n : Int) : Nice 2 (noD n) := by
  refine Or.inr ⟨_, Or.inr rfl, (show 2 ≤ 100000 by decide), fun d hd => ?_⟩
  simp only [List.mem_cons, List.not_mem_nil, or_false] at hd
  rcases hd with rfl | rfl <;> exact Nice.flat rfl
def spRight (K : PySem.W.Frag) : Sp := fun vs H Q _ => ∃ (a z : Addr) (p : Prt) (e : Se) (n : Int), vs = [.ref a, .ref z, .int n] ∧ PrAt H a p ∧ PrOk p ∧ SqT K H z (seV e) ∧ SeatIn p (wOf e) ∧ p.at (wOf e) = n ∧
  ∀ H', Same H H' → Q (.bl true) H'
def spBeyond : Sp := fun vs H Q _ => ∃ (f c a : Addr) (p : Prt) (n : Int), vs = [.ref f, .ref a] ∧ Fd H f c n ∧ n ≤ 800000 ∧ PrAt H a p ∧ PrOk p ∧
  ∀ (l : Addr) (xs : List Int) (H' : Hp), Fd H' f c (n + 1) → But f H H' → l ≠ f → l ≠ c → H' l = some (.lst (xs.map V.int)) → (∀ x ∈ xs, x < p.first ∨ p.end ≤ x) → Q (.ref l) H'
def spSpots : Sp := fun vs H Q _ => ∃ (f c a : Addr) (p : Prt) (n : Int), vs = [.ref f, .ref a] ∧ Fd H f c n ∧ n ≤ 800000 ∧ PrAt H a p ∧ PrOk p ∧
  ∀ (l : Addr) (ps : List Addr) (es : List Se) (H' : Hp), Fd H' f c (n + 36) → But f H H' → l ≠ f → l ≠ c → H' l = some (.lst (ps.map V.ref)) → Ses H' ps es → (∀ e ∈ es, SeatIn p (wOf e)) → Q (.ref l) H'
def Prt.small (p : Prt) : Prop := p.cols ≤ 4 ∧ p.rows ≤ 4 ∧ p.sheets ≤ 6
def SeatsFrom (p : Prt) (es : List Se) : Prop := ∀ (k : Nat) (e : Se), es[k]? = some e → SeatIn p (wOf e) ∧ p.at (wOf e) = p.first + k
def spAll : Sp := fun vs H Q _ => ∃ (a : Addr) (p : Prt), vs = [.ref a] ∧ PrAt H a p ∧ PrOk p ∧ p.small ∧
  ∀ (l : Addr) (ps : List Addr) (es : List Se) (H' : Hp), Same H H' → H l = none → H' l = some (.lst (ps.map V.ref)) → Ses H' ps es → SeatsFrom p es → Q (.ref l) H'
theorem seatIn_of {p : Prt} {s r c : Int} (s0 : 0 ≤ s) (s1 : s < p.sheets) (r0 : 0 ≤ r) (r1 : r < p.rows) (c0 : 0 ≤ c) (c1 : c < p.cols) : SeatIn p (wOf (s, r, c)) := fun u => by
  cases u
  · exact ⟨s0, s1⟩
  · exact ⟨r0, r1⟩
  · exact ⟨c0, c1⟩
theorem put3g {a b c : Wd} (ab : a ≠ b) (ac : a ≠ c) (bc : b ≠ c) (x y z : V) : mergeK [] [((Sum.inr a.s : Key), x), (Sum.inr b.s, y), (Sum.inr c.s, z)] = [(Sum.inr a.s, x), (Sum.inr b.s, y), (Sum.inr c.s, z)] := by
  cases a <;> cases b <;> cases c <;> first | exact absurd rfl ab | exact absurd rfl ac | exact absurd rfl bc | rfl
/-- the seat at slow, middle, fast -/
def seat3 (p : Prt) (x y z : Int) : Wd → Int := fun u => if u = p.o1 then x else if u = p.o2 then y else z
def ordS (p : Prt) (f : Wd → Int) : List (Key × V) := [(Sum.inr p.o1.s, .int (f p.o1)), (Sum.inr p.o2.s, .int (f p.o2)), (Sum.inr p.o3.s, .int (f p.o3))]
theorem seat31 (p : Prt) (x y z : Int) : seat3 p x y z p.o1 = x := if_pos rfl
theorem seat32 {p : Prt} (ok : PrOk p) (x y z : Int) : seat3 p x y z p.o2 = y := by
  unfold seat3
  rw [if_neg (Ne.symm ok.d12), if_pos rfl]
theorem seat33 {p : Prt} (ok : PrOk p) (x y z : Int) : seat3 p x y z p.o3 = z := by
  unfold seat3
  rw [if_neg (Ne.symm ok.d13), if_neg (Ne.symm ok.d23)]
theorem get_ordS {p : Prt} (ok : PrOk p) {H : Hp} {d : Addr} {f : Wd → Int} (h : H d = some (.dK (ordS p f))) (u : Wd) : DGet H d (.str u.s) (some (.int (f u))) := by
  have q := DGet.k (k := Sum.inr u.s) h
  have n : ∀ {a b : Wd}, a ≠ b → ¬ ((Sum.inr a.s : Key) = Sum.inr b.s) := fun h z => h (wd_inj (Sum.inr.inj z))
  have e : valV (ordS p f) (Sum.inr u.s) = some (.int (f u)) := by
    unfold ordS
    rcases three ok u with rfl | rfl | rfl
    · rw [valV_pos rfl]
    · rw [valV_neg (n ok.d12), valV_pos rfl]
    · rw [valV_neg (n ok.d13), valV_neg (n ok.d23), valV_pos rfl]
  rw [e] at q
  exact q
theorem w_se (f : Wd → Int) : wOf (seOf f) = f := by
  funext u
  cases u <;> rfl
theorem seats_more {p : Prt} (ok : PrOk p) {es : List Se} {i j k : Nat} (h : SeatsFrom p es) (hi : i < (p.size p.o1).toNat) (hj : j < (p.size p.o2).toNat) (hk : k < (p.size p.o3).toNat)
    (len : es.length = i * ((p.size p.o2).toNat * (p.size p.o3).toNat) + j * (p.size p.o3).toNat + k) : SeatsFrom p (es ++ [seOf (seat3 p (0 + (i : Int)) (0 + (j : Int)) (0 + (k : Int)))]) := by
  intro m e he
  by_cases c : m < es.length
  · rw [List.getElem?_append_left c] at he
    exact h m e he
  · rw [List.getElem?_append_right (by omega)] at he
    have z : m - es.length = 0 := by
      cases q : m - es.length with
      | zero => rfl
      | succ v =>
        rw [q] at he
        cases he
    rw [z] at he
    cases he
    have hm : m = es.length := by omega
    rw [w_se]
    refine ⟨fun u => ?_, ?_⟩
    · rcases three ok u with rfl | rfl | rfl
      · rw [seat31]
        omega
      · rw [seat32 ok]
        omega
      · rw [seat33 ok]
        omega
    · have b0 := ok.size_lo p.o2; have c0 := ok.size_lo p.o3
      have eB : ((p.size p.o2).toNat : Int) = p.size p.o2 := by omega
      have eC : ((p.size p.o3).toNat : Int) = p.size p.o3 := by omega
      rw [at_eq, seat31, seat32 ok, seat33 ok, hm, len]
      rw [Int.natCast_add, Int.natCast_add, Int.natCast_mul, Int.natCast_mul, Int.natCast_mul, eB, eC, Int.zero_add, Int.zero_add, Int.zero_add, Int.add_mul, Int.mul_assoc]
theorem size4 {p : Prt} (ok : PrOk p) (sm : p.small) (u : Wd) : p.size u ≤ 6 := by
  obtain ⟨h1, h2, h3⟩ := sm
  cases u <;> simp only [Prt.size] <;> omega
theorem prod_small {i j k B C : Nat} (hi : i ≤ 6) (hj : j ≤ B) (hk : k ≤ C) (hB : B ≤ 6) (hC : C ≤ 6) : i * (B * C) + j * C + k ≤ 1000 := by
  have h1 : B * C ≤ 6 * 6 := Nat.mul_le_mul hB hC
  have h2 : i * (B * C) ≤ 6 * 36 := Nat.mul_le_mul hi h1
  have h3 : j * C ≤ 6 * 6 := Nat.mul_le_mul (by omega) hC
  omega
theorem pick3 {x y z m : Int} (hx : 0 ≤ x ∧ x < m) (hy : 0 ≤ y ∧ y < m) (hz : 0 ≤ z ∧ z < m) {i : Int} (h0 : 0 ≤ i) (h1 : i < 3) : ∃ v : Int, atI [V.int x, .int y, .int z] i = some (.int v) ∧ 0 ≤ v ∧ v < m := by
  rcases (show i = 0 ∨ i = 1 ∨ i = 2 by omega) with rfl | rfl | rfl
  · exact ⟨x, rfl, hx⟩
  · exact ⟨y, rfl, hy⟩
  · exact ⟨z, rfl, hz⟩
def twoP (p q : Prt) : PyData := .tuple [prD p, prD q]
theorem twoP_ok {p q : Prt} (ok : PrOk p) (ok' : PrOk q) : (twoP p q).showable = true ∧ (twoP p q).hasDict = false ∧ (twoP p q).depth ≤ 60 ∧ (twoP p q).shown.length ≤ sizeLine := by
  have f : fineD (twoP p q) = true := by
    show (fineD (prD p) && (fineD (prD q) && true)) = true
    rw [ok.fine, ok'.fine]
    rfl
  obtain ⟨h1, h2⟩ := fine_show _ f
  refine ⟨h1, h2, ?_, ?_⟩
  · simp only [twoP, prD, PyData.depth, PyData.depthAll]
    decide +revert
  · have z := shown_cost _ f
    have c1 := ok.cost
    have c2 := ok'.cost
    have e : cost (twoP p q) = cost (prD p) + 2 + (cost (prD q) + 2 + 0) + 3 := rfl
    rw [sizeLine_eq]
    omega
theorem twoP_dp {K : PySem.W.Frag} {H : Hp} {r a b : Addr} {p q : Prt} (h : H r = some (.tup [V.ref a, .ref b])) (hp : PrAt H a p) (hq : PrAt H b q) : Dp K H (.ref r) (twoP p q) := .tup (SqT.of h) (.cons hp.dp (.cons hq.dp .nil))
def edD (p : Prt) : PyData := .tuple [.str p.series, .int p.first, .int p.end]
theorem ed_nice (p : Prt) : Nice 2 (edD p) := by
  refine Or.inr ⟨_, Or.inr rfl, (show 3 ≤ 100000 by decide), fun d hd => ?_⟩
  simp only [List.mem_cons, List.not_mem_nil, or_false] at hd
  rcases hd with rfl | rfl | rfl <;> exact Nice.flat rfl
theorem at0 (p : Prt) : p.at (wOf (0, 0, 0)) = p.first := by
  have z : ∀ u, wOf (0, 0, 0) u = 0 := fun u => by cases u <;> rfl
  rw [at_eq, z, z, z]
  simp
theorem of_map {α : Type} {g : α → V} {l : List α} {j : Nat} {x : V} (h : (l.map g)[j]? = some x) : ∃ w, l[j]? = some w ∧ x = g w := by
  rw [List.getElem?_map] at h
  cases e : l[j]? with
  | none =>
    rw [e] at h
    cases h
  | some w =>
    rw [e] at h
    exact ⟨w, rfl, (Option.some.inj h).symm⟩
/-! ### Stacks -/
inductive Way where | rows | cols
  deriving DecidableEq
def Way.s : Way → Str
  | .rows => "rows"
  | .cols => "columns"
def pileR (p : Prt) : Way → Int → Int
  | .rows, k => k / p.cols
  | .cols, k => k % p.rows
def pileC (p : Prt) : Way → Int → Int
  | .rows, k => k % p.cols
  | .cols, k => k / p.rows
def pileK (p : Prt) : Way → Int → Int → Int
  | .rows, r, c => r * p.cols + c
  | .cols, r, c => c * p.rows + r
def Prt.many (p : Prt) : Int := p.cols * p.rows * p.sheets
def stackN (p : Prt) (w : Way) (k : Int) : Int := p.num (k % p.sheets) (pileR p w (k / p.sheets)) (pileC p w (k / p.sheets))
def spPileSeat : Sp := fun vs H Q _ => ∃ (a : Addr) (p : Prt) (w : Way) (k : Int), vs = [.ref a, .str w.s, .int k] ∧ PrAt H a p ∧ PrOk p ∧
  ∀ (t : Addr) (H' : Hp), Same H H' → H' t = some (.tup [.int (pileR p w k), .int (pileC p w k)]) → Q (.ref t) H'
def spPilePlace : Sp := fun vs H Q _ => ∃ (a : Addr) (p : Prt) (w : Way) (r c : Int), vs = [.ref a, .str w.s, .int r, .int c] ∧ PrAt H a p ∧ PrOk p ∧
  ∀ (H' : Hp), Same H H' → Q (.int (pileK p w r c)) H'
def spStackAt (C : Addr) : Sp := fun vs H Q E => ∃ (a : Addr) (p : Prt) (w : Way) (k : Int), vs = [.ref a, .str w.s, .int k] ∧ PrAt H a p ∧ PrOk p ∧
  (0 ≤ k → k < p.many → ∀ H', Same H H' → Q (.int (stackN p w k)) H') ∧
  ((k < 0 ∨ p.many ≤ k) → ∀ (d : Addr) (H' : Hp), H d = none → Same H H' → H' d = some (.xd [("number", .int k)]) → E (.ref C) (some d) H')
def placeN (p : Prt) (w : Way) (f : Wd → Int) : Int := pileK p w (f .ro) (f .co) * p.sheets + f .sh
def spStackPlace (C : Addr) : Sp := fun vs H Q E => ∃ (a : Addr) (p : Prt) (w : Way) (n : Int), vs = [.ref a, .str w.s, .int n] ∧ PrAt H a p ∧ PrOk p ∧
  (∀ (f : Wd → Int) (H' : Hp), SeatIn p f → p.at f = n → Same H H' → Q (.int (placeN p w f)) H') ∧
  ((n < p.first ∨ p.end ≤ n) → ∀ (d : Addr) (H' : Hp), H d = none → Same H H' → H' d = some (.xd [("number", .int n)]) → E (.ref C) (some d) H')
def toldI (n : Int) : PyData := .tuple [.str "told", .int n]
def spHeardAt (K : PySem.W.Frag) : Sp := fun vs H Q _ => ∃ (a : Addr) (p : Prt) (w : Way) (k : Int), vs = [.ref a, .str w.s, .int k] ∧ PrAt H a p ∧ PrOk p ∧
  (0 ≤ k → k < p.many → ∀ (t : Addr) (H' : Hp), Same H H' → Dp K H' (.ref t) (toldI (stackN p w k)) → Q (.ref t) H') ∧
  ((k < 0 ∨ p.many ≤ k) → ∀ (t : Addr) (H' : Hp), Same H H' → Dp K H' (.ref t) (noD k) → Q (.ref t) H')
def spHeardPlace (K : PySem.W.Frag) : Sp := fun vs H Q _ => ∃ (a : Addr) (p : Prt) (w : Way) (n : Int), vs = [.ref a, .str w.s, .int n] ∧ PrAt H a p ∧ PrOk p ∧
  (∀ (f : Wd → Int) (t : Addr) (H' : Hp), SeatIn p f → p.at f = n → Same H H' → Dp K H' (.ref t) (toldI (placeN p w f)) → Q (.ref t) H') ∧
  ((n < p.first ∨ p.end ≤ n) → ∀ (t : Addr) (H' : Hp), Same H H' → Dp K H' (.ref t) (noD n) → Q (.ref t) H')
theorem way_rows (w : Way) : decide (V.str w.s = V.str "rows") = decide (w = .rows) := by cases w <;> decide +kernel
theorem pile_in {p : Prt} (ok : PrOk p) (w : Way) {k : Int} (h0 : 0 ≤ k) (h1 : k < p.cols * p.rows) : (0 ≤ pileR p w k ∧ pileR p w k < p.rows) ∧ (0 ≤ pileC p w k ∧ pileC p w k < p.cols) := by
  have c1 := ok.c1; have r1 := ok.r1
  cases w
  · exact ⟨⟨Int.ediv_nonneg h0 (by omega), Int.ediv_lt_of_lt_mul (by omega) (by rw [Int.mul_comm]; exact h1)⟩, Int.emod_nonneg _ (by omega), Int.emod_lt_of_pos _ (by omega)⟩
  · exact ⟨⟨Int.emod_nonneg _ (by omega), Int.emod_lt_of_pos _ (by omega)⟩, Int.ediv_nonneg h0 (by omega), Int.ediv_lt_of_lt_mul (by omega) h1⟩
theorem pile_back (p : Prt) (w : Way) (k : Int) : pileK p w (pileR p w k) (pileC p w k) = k := by
  cases w <;> simp only [pileK, pileR, pileC] <;> exact Int.ediv_mul_add_emod ..
def stackS (p : Prt) (w : Way) (k : Int) : Wd → Int := seatW (k % p.sheets) (pileR p w (k / p.sheets)) (pileC p w (k / p.sheets))
theorem stackN_at (p : Prt) (w : Way) (k : Int) : stackN p w k = p.at (stackS p w k) := rfl
theorem stackS_in {p : Prt} (ok : PrOk p) (w : Way) {k : Int} (h0 : 0 ≤ k) (h1 : k < p.many) : SeatIn p (stackS p w k) := by
  have s1 := ok.s1
  have e : k / p.sheets < p.cols * p.rows := Int.ediv_lt_of_lt_mul (by omega) h1
  obtain ⟨hr, hc⟩ := pile_in ok w (Int.ediv_nonneg h0 (by omega)) e
  intro u
  cases u
  · exact ⟨Int.emod_nonneg _ (by omega), Int.emod_lt_of_pos _ (by omega)⟩
  · exact hr
  · exact hc
theorem place_back (p : Prt) (w : Way) (k : Int) : placeN p w (stackS p w k) = k := by
  show pileK p w (pileR p w (k / p.sheets)) (pileC p w (k / p.sheets)) * p.sheets + k % p.sheets = k
  rw [pile_back]
  exact Int.ediv_mul_add_emod ..
/-- how far apart the numbers of a pile lie -/
def Prt.gap (p : Prt) : Int := if p.o1 = .sh then p.size p.o2 * p.size p.o3 else if p.o2 = .sh then p.size p.o3 else 1
theorem num_gap {p : Prt} (ok : PrOk p) (s r c : Int) : p.num s r c = p.num 0 r c + s * p.gap := by
  have h1 := ok.d12; have h2 := ok.d13; have h3 := ok.d23
  unfold Prt.num Prt.gap
  generalize p.o1 = x at *
  generalize p.o2 = y at *
  generalize p.o3 = z at *
  cases x <;> cases y <;> cases z <;> simp only [ne_eq, not_true_eq_false] at h1 h2 h3 <;> simp only [seatW, Prt.size, reduceCtorEq, if_true, if_false, Int.zero_mul, Int.zero_add, Int.add_zero, Int.mul_one, Int.add_mul, Int.mul_assoc] <;> omega
theorem gap_pos {p : Prt} (ok : PrOk p) : 0 < p.gap := by
  have h2 := ok.size_lo p.o2; have h3 := ok.size_lo p.o3
  unfold Prt.gap
  split
  · exact Int.mul_pos (by omega) (by omega)
  · split <;> omega
/-- the first and the last number of the k-th pile -/
def pileF (p : Prt) (w : Way) (k : Int) : Int := p.num 0 (pileR p w k) (pileC p w k)
def pileL (p : Prt) (w : Way) (k : Int) : Int := pileF p w k + p.gap * (p.sheets - 1)
/-- each pile's last lies below the next one's first, of the first m piles -/
def Up (p : Prt) (w : Way) (m : Nat) : Prop := ∀ k : Nat, k + 1 < m → pileL p w k < pileF p w (k + 1 : Nat)
theorem pile_step {p : Prt} (ok : PrOk p) (r c : Int) : p.num 1 r c - p.num 0 r c = p.gap := by
  rw [num_gap ok 1 r c, Int.one_mul]
  omega
theorem last_num {p : Prt} (ok : PrOk p) (w : Way) (k : Int) : p.num (p.sheets - 1) (pileR p w k) (pileC p w k) = pileL p w k := by
  rw [num_gap ok]
  unfold pileL pileF
  rw [Int.mul_comm]
theorem first_low {p : Prt} (ok : PrOk p) (w : Way) {k : Int} (h0 : 0 ≤ k) (h1 : k < p.cols * p.rows) : 0 ≤ pileF p w k := by
  have s1 := ok.s1
  obtain ⟨hr, hc⟩ := pile_in ok w h0 h1
  have z := (at_range ok (seatIn_of (p := p) (s := 0) (by omega) (by omega) hr.1 hr.2 hc.1 hc.2)).1
  have e : p.at (wOf (0, pileR p w k, pileC p w k)) = pileF p w k := rfl
  have f := ok.f0
  omega
def Prt.piles (p : Prt) : Nat := (p.cols * p.rows).toNat
theorem piles_eq {p : Prt} (ok : PrOk p) : (p.piles : Int) = p.cols * p.rows := by
  have h := Int.mul_nonneg (show 0 ≤ p.cols by have := ok.c1; omega) (show 0 ≤ p.rows by have := ok.r1; omega)
  unfold Prt.piles
  omega
theorem piles_le {p : Prt} (ok : PrOk p) : 0 ≤ p.cols * p.rows ∧ p.cols * p.rows ≤ 144 := by
  have c1 := ok.c1; have c2 := ok.c2; have r1 := ok.r1; have r2 := ok.r2
  exact mul_bound (by omega) c2 (by omega) r2
def spRising : Sp := fun vs H Q _ => ∃ (a : Addr) (p : Prt) (w : Way), vs = [.ref a, .str w.s] ∧ PrAt H a p ∧ PrOk p ∧
  ∀ (b : Bool) (H' : Hp), (b = true ↔ Up p w p.piles) → Same H H' → Q (.bl b) H'
def lastOf (p : Prt) (w : Way) : Nat → Int
  | 0 => -1
  | i + 1 => pileL p w i
theorem up_more {p : Prt} {w : Way} {i : Nat} (h : Up p w i) (c : ¬ pileF p w i ≤ lastOf p w i) : Up p w (i + 1) := by
  intro k hk
  by_cases z : k + 1 < i
  · exact h k z
  · have e : i = k + 1 := by omega
    subst e
    have c' : ¬ pileF p w (k + 1 : Nat) ≤ pileL p w k := c
    omega
theorem up_not {p : Prt} (ok : PrOk p) {w : Way} {i : Nat} (hi : i < p.piles) (c : pileF p w i ≤ lastOf p w i) : ¬ Up p w p.piles := by
  intro h
  cases i with
  | zero =>
    have e := piles_eq ok
    have z := first_low ok w (k := ((0 : Nat) : Int)) (by omega) (by omega)
    have c' : pileF p w ((0 : Nat) : Int) ≤ -1 := c
    omega
  | succ k =>
    have z := h k hi
    have c' : pileF p w (k + 1 : Nat) ≤ pileL p w k := c
    omega
/-- the piles stand at ps -/
def PlAt (H : Hp) (p : Prt) (w : Way) (ps : List Addr) : Prop := ∀ (k : Nat) (x : Addr), ps[k]? = some x → H x = some (.tup [.int (pileR p w k), .int (pileC p w k)])
theorem PlAt.same {H H' : Hp} {p : Prt} {w : Way} {ps : List Addr} (s : Same H H') (h : PlAt H p w ps) : PlAt H' p w ps := fun k x hx => s _ _ (h k x hx)
def spPiles : Sp := fun vs H Q _ => ∃ (a : Addr) (p : Prt) (w : Way), vs = [.ref a, .str w.s] ∧ PrAt H a p ∧ PrOk p ∧
  ∀ (l : Addr) (ps : List Addr) (H' : Hp), Same H H' → H l = none → H' l = some (.lst (ps.map V.ref)) → ps.length = p.piles → PlAt H' p w ps → Q (.ref l) H'
def numsW (p : Prt) (w : Way) (n : Nat) : List Int := (List.range n).map fun (k : Nat) => stackN p w k
def spNumbers : Sp := fun vs H Q _ => ∃ (a : Addr) (p : Prt) (w : Way), vs = [.ref a, .str w.s] ∧ PrAt H a p ∧ PrOk p ∧ p.small ∧
  ∀ (l : Addr) (H' : Hp), Same H H' → H l = none → H' l = some (.lst ((numsW p w (p.piles * p.sheets.toNat)).map V.int)) → Q (.ref l) H'
theorem pl_app {H H' : Hp} {p : Prt} {w : Way} {ps : List Addr} {u : Addr} (h : PlAt H p w ps) (k : ∀ x o, (∀ z, o ≠ HO.lst z) → H x = some o → H' x = some o) (hu : H' u = some (.tup [.int (pileR p w ps.length), .int (pileC p w ps.length)])) : PlAt H' p w (ps ++ [u]) := by
  intro i x hx
  by_cases c : i < ps.length
  · rw [List.getElem?_append_left c] at hx
    exact k _ _ (fun z => by intro e; cases e) (h i x hx)
  · rw [List.getElem?_append_right (by omega)] at hx
    have z : i - ps.length = 0 := by
      cases q : i - ps.length with
      | zero => rfl
      | succ v =>
        rw [q] at hx
        cases hx
    rw [z] at hx
    cases hx
    have e : i = ps.length := by omega
    rw [e]
    exact hu
theorem stack_nat {p : Prt} (ok : PrOk p) (w : Way) {S : Nat} (hS : (S : Int) = p.sheets) (j : Nat) : stackN p w j = pileF p w ((j / S : Nat) : Int) + ((j % S : Nat) : Int) * p.gap := by
  unfold stackN
  rw [num_gap ok, ← hS, ← Int.natCast_ediv, ← Int.natCast_emod]
  rfl
theorem stack_inj {p : Prt} (ok : PrOk p) (w : Way) {i j : Int} (i0 : 0 ≤ i) (i1 : i < p.many) (j0 : 0 ≤ j) (j1 : j < p.many) (e : stackN p w i = stackN p w j) : i = j := by
  rw [stackN_at, stackN_at] at e
  have z := at_inj ok (stackS_in ok w i0 i1) (stackS_in ok w j0 j1) e
  rw [← place_back p w i, z, place_back]
theorem many_nat {p : Prt} (ok : PrOk p) {S : Nat} (hS : (S : Int) = p.sheets) : ((p.piles * S : Nat) : Int) = p.many := by
  rw [Int.natCast_mul, piles_eq ok, hS]
  rfl
theorem nums_up {p : Prt} (ok : PrOk p) (w : Way) {S : Nat} (hS : (S : Int) = p.sheets) : (numsW p w (p.piles * S)).Pairwise (· ≤ ·) ↔ Up p w p.piles := by
  have s1 := ok.s1
  have S1 : 1 ≤ S := by omega
  have mn := many_nat ok hS
  have len : (numsW p w (p.piles * S)).length = p.piles * S := by
    unfold numsW
    rw [List.length_map, List.length_range]
  have get : ∀ (i : Nat) (h : i < (numsW p w (p.piles * S)).length), (numsW p w (p.piles * S))[i] = stackN p w i := fun i h => by
    simp [numsW]
  have first : ∀ k : Nat, stackN p w ((k * S : Nat) : Int) = pileF p w k := fun k => by
    rw [stack_nat ok w hS, Nat.mul_div_cancel _ (by omega), Nat.mul_mod_left, Int.natCast_zero, Int.zero_mul, Int.add_zero]
  have last : ∀ k : Nat, stackN p w ((k * S + (S - 1) : Nat) : Int) = pileL p w k := fun k => by
    have d : (k * S + (S - 1)) / S = k := by
      rw [Nat.mul_comm, Nat.mul_add_div (by omega), Nat.div_eq_of_lt (by omega), Nat.add_zero]
    have m : (k * S + (S - 1)) % S = S - 1 := by
      rw [Nat.mul_comm, Nat.mul_add_mod, Nat.mod_eq_of_lt (by omega)]
    rw [stack_nat ok w hS, d, m]
    unfold pileL
    rw [Int.mul_comm p.gap, show ((S - 1 : Nat) : Int) = p.sheets - 1 by omega]
  rw [List.pairwise_iff_getElem]
  constructor
  · intro h k hk
    have b : (k + 1) * S < p.piles * S := (Nat.mul_lt_mul_right (by omega)).mpr hk
    have e : (k + 1) * S = k * S + S := Nat.succ_mul k S
    have z := h (k * S + (S - 1)) ((k + 1) * S) (by rw [len]; omega) (by rw [len]; exact b) (by omega)
    rw [get, get, last, first] at z
    have ne : pileL p w k ≠ pileF p w (k + 1 : Nat) := fun q => by
      rw [← last, ← first] at q
      have y := stack_inj ok w (by omega) (by omega) (by omega) (by omega) q
      omega
    omega
  · intro h
    have step : ∀ j : Nat, j + 1 < p.piles * S → stackN p w j ≤ stackN p w (j + 1 : Nat) := fun j hj => by
      have dm := Nat.div_add_mod j S
      have ml := Nat.mod_lt j (show S > 0 by omega)
      rw [Nat.mul_comm] at dm
      by_cases c : j % S + 1 < S
      · have d : (j + 1) / S = j / S := by
          have e : j + 1 = S * (j / S) + (j % S + 1) := by rw [Nat.mul_comm]; omega
          rw [e, Nat.mul_add_div (by omega), Nat.div_eq_of_lt c, Nat.add_zero]
        have m : (j + 1) % S = j % S + 1 := by
          have e : j + 1 = S * (j / S) + (j % S + 1) := by rw [Nat.mul_comm]; omega
          rw [e, Nat.mul_add_mod, Nat.mod_eq_of_lt c]
        have g := gap_pos ok
        rw [stack_nat ok w hS j, stack_nat ok w hS (j + 1), d, m, Int.natCast_add, Int.add_mul]
        omega
      · have e1 : j = j / S * S + (S - 1) := by omega
        have e2 : j + 1 = (j / S + 1) * S := by rw [Nat.succ_mul]; omega
        have k1 : j / S + 1 < p.piles := by
          rw [e2] at hj
          exact Nat.lt_of_mul_lt_mul_right hj
        have z := h (j / S) k1
        have f := first (j / S + 1)
        have l := last (j / S)
        rw [← e2] at f
        rw [← e1] at l
        omega
    have chain : ∀ d i : Nat, i + d < p.piles * S → stackN p w i ≤ stackN p w (i + d : Nat) := fun d i => by
      induction d with
      | zero => intro _; exact Int.le_refl _
      | succ d ih =>
        intro hd
        exact Int.le_trans (ih (by omega)) (step (i + d) (by omega))
    intro i j hi hj hij
    rw [get, get]
    have z := chain (j - i) i (by rw [len] at hj; omega)
    rw [show i + (j - i) = j by omega] at z
    exact z
theorem toldI_nice (n : Int) : Nice 2 (toldI n) := by
  refine Or.inr ⟨_, Or.inr rfl, (show 2 ≤ 100000 by decide), fun d hd => ?_⟩
  simp only [List.mem_cons, List.not_mem_nil, or_false] at hd
  rcases hd with rfl | rfl <;> exact Nice.flat rfl
def spBey : Sp := fun vs H Q _ => ∃ (a : Addr) (p : Prt) (w : Way), vs = [.ref a, .str w.s] ∧ PrAt H a p ∧ PrOk p ∧ ∀ H', Same H H' → Q (.bl true) H'
def spWhole : Sp := fun vs H Q _ => ∃ (a : Addr) (p : Prt) (w : Way), vs = [.ref a, .str w.s] ∧ PrAt H a p ∧ PrOk p ∧ p.small ∧ ∀ H', Same H H' → Q (.bl true) H'
def spGreat : Sp := fun vs H Q _ => ∃ (f c a : Addr) (p : Prt) (w : Way) (n : Int), vs = [.ref f, .ref a, .str w.s] ∧ Fd H f c n ∧ n ≤ 700000 ∧ PrAt H a p ∧ PrOk p ∧ ∀ H', Fd H' f c (n + 24) → But f H H' → Q (.bl true) H'
theorem numsW_row {p : Prt} (ok : PrOk p) (w : Way) {S : Nat} (hS : (S : Int) = p.sheets) (i : Nat) : numsW p w (i * S) ++ ((List.range S).map fun (s : Nat) => p.num s (pileR p w i) (pileC p w i)) = numsW p w ((i + 1) * S) := by
  have s1 := ok.s1
  have S1 : 1 ≤ S := by omega
  unfold numsW
  rw [Nat.succ_mul, List.range_add, List.map_append, List.map_map]
  congr 1
  refine List.map_congr_left fun s hs => ?_
  have hs := List.mem_range.mp hs
  show p.num s (pileR p w i) (pileC p w i) = stackN p w ((i * S + s : Nat) : Int)
  have d : (i * S + s) / S = i := by rw [Nat.mul_comm, Nat.mul_add_div (by omega), Nat.div_eq_of_lt hs, Nat.add_zero]
  have m : (i * S + s) % S = s := by rw [Nat.mul_comm, Nat.mul_add_mod, Nat.mod_eq_of_lt hs]
  rw [stack_nat ok w hS, d, m, num_gap ok]
  rfl
theorem numsW_len (p : Prt) (w : Way) (n : Nat) : (numsW p w n).length = n := by
  unfold numsW
  rw [List.length_map, List.length_range]
theorem small_many {p : Prt} (ok : PrOk p) (sm : p.small) : p.piles * p.sheets.toNat ≤ 96 := by
  obtain ⟨h1, h2, h3⟩ := sm
  have c1 := ok.c1; have r1 := ok.r1
  have z := (mul_bound (show 0 ≤ p.cols by omega) h1 (show 0 ≤ p.rows by omega) h2).2
  have e := piles_eq ok
  exact Nat.mul_le_mul (show p.piles ≤ 16 by omega) (show p.sheets.toNat ≤ 6 by omega)
theorem eqv_ints : ∀ ns ms : List Int, PyData.eqvAll (ns.map .int) (ms.map .int) = decide (ns = ms)
  | [], [] => rfl
  | [], _ :: _ => rfl
  | _ :: _, [] => rfl
  | n :: ns, m :: ms => by
    have ih := eqv_ints ns ms
    have e : PyData.eqvAll ((n :: ns).map .int) ((m :: ms).map .int) = ((n == m) && PyData.eqvAll (ns.map .int) (ms.map .int)) := rfl
    rw [e, ih]
    by_cases h1 : n = m
    · by_cases h2 : ns = ms
      · simp [h1, h2]
      · simp [h1, h2]
    · simp [h1]
theorem shaped_ints (ns : List Int) : SeqAt.shaped (.list (ns.map .int)) = true := by
  have h1 : ∀ ns : List Int, PyData.canLayAll0 (ns.map .int) = true := fun ns => by
    induction ns with
    | nil => rfl
    | cons n ns ih =>
      show (true && PyData.canLayAll0 (ns.map .int)) = true
      rw [ih]
      rfl
  have h2 : ∀ ns : List Int, PyData.depthAll (ns.map .int) = 0 := fun ns => by
    induction ns with
    | nil => rfl
    | cons n ns ih =>
      show max 0 (PyData.depthAll (ns.map .int)) = 0
      rw [ih]
      rfl
  have d : (PyData.list (ns.map .int)).depth ≤ 64 := by
    show PyData.depthAll (ns.map .int) + 1 ≤ 64
    rw [h2]
    decide
  show (PyData.canLayAll0 (ns.map .int) && decide ((PyData.list (ns.map .int)).depth ≤ 64)) = true
  rw [h1, decide_eq_true d]
  rfl
theorem told_pair (a b : Int) : Nice 2 (.list [toldI a, toldI b]) := by
  have one : ∀ n : Int, Nice 1 (toldI n) := fun n => by
    refine Or.inr ⟨_, Or.inr rfl, (show 2 ≤ 100000 by decide), fun d hd => ?_⟩
    simp only [List.mem_cons, List.not_mem_nil, or_false] at hd
    rcases hd with rfl | rfl <;> rfl
  refine Or.inr ⟨_, Or.inl rfl, (show 2 ≤ 100000 by decide), fun d hd => ?_⟩
  simp only [List.mem_cons, List.not_mem_nil, or_false] at hd
  rcases hd with rfl | rfl <;> exact one _
theorem up_step {p : Prt} {w : Way} {i : Nat} : Up p w (i + 2) ↔ Up p w (i + 1) ∧ pileL p w i < pileF p w (i + 1 : Nat) := by
  constructor
  · exact fun h => ⟨fun k hk => h k (by omega), h i (by omega)⟩
  · rintro ⟨h1, h2⟩ k hk
    by_cases c : k + 1 < i + 1
    · exact h1 k c
    · have e : k = i := by omega
      subst e
      exact h2
theorem pick4 {x y z u m : Int} (hx : 0 ≤ x ∧ x < m) (hy : 0 ≤ y ∧ y < m) (hz : 0 ≤ z ∧ z < m) (hu : 0 ≤ u ∧ u < m) {i : Int} (h0 : 0 ≤ i) (h1 : i < 4) : ∃ v : Int, atI [V.int x, .int y, .int z, .int u] i = some (.int v) ∧ 0 ≤ v ∧ v < m := by
  rcases (show i = 0 ∨ i = 1 ∨ i = 2 ∨ i = 3 by omega) with rfl | rfl | rfl | rfl
  · exact ⟨x, rfl, hx⟩
  · exact ⟨y, rfl, hy⟩
  · exact ⟨z, rfl, hz⟩
  · exact ⟨u, rfl, hu⟩
theorem PlAt.but {H H' : Hp} {f c : Addr} {p : Prt} {w : Way} {n : Int} {ps : List Addr} (h : PlAt H p w ps) (hf : Fd H f c n) (s : But f H H') : PlAt H' p w ps := fun k x hx => by
  obtain ⟨xs, hxs⟩ := hf.at
  exact s _ _ (ne_of (h k x hx) hxs (fun z => nomatch z)) (h k x hx)
theorem stack_of {p : Prt} (ok : PrOk p) (w : Way) {x s : Int} (x0 : 0 ≤ x) (x1 : x < p.cols * p.rows) (s0 : 0 ≤ s) (s1 : s < p.sheets) :
    0 ≤ x * p.sheets + s ∧ x * p.sheets + s < p.many ∧ stackN p w (x * p.sheets + s) = p.num s (pileR p w x) (pileC p w x) := by
  have h1 : 0 ≤ x * p.sheets := Int.mul_nonneg x0 (by omega)
  have h2 : x * p.sheets ≤ (p.cols * p.rows - 1) * p.sheets := Int.mul_le_mul_of_nonneg_right (by omega) (by omega)
  have h3 : (p.cols * p.rows - 1) * p.sheets = p.many - p.sheets := by
    rw [Int.sub_mul, Int.one_mul]
    rfl
  refine ⟨by omega, by omega, ?_⟩
  unfold stackN
  have d : (x * p.sheets + s) / p.sheets = x := by
    rw [Int.add_comm, Int.add_mul_ediv_right _ _ (by omega), Int.ediv_eq_zero_of_lt s0 s1, Int.zero_add]
  have m : (x * p.sheets + s) % p.sheets = s := by
    rw [Int.add_comm, Int.add_mul_emod_self_right, Int.emod_eq_of_lt s0 s1]
  rw [d, m]
theorem sq_keep {K : PySem.W.Frag} {H : Hp} {t l : Addr} {xs zs : List V} {o : HO} (h : SqT K H t xs) (hl : H l = some (.lst zs)) : SqT K (upd H l o) t xs := by
  rcases h with (e | ⟨o', e⟩) | z
  · exact Or.inl (Or.inl ((upd_ne (ne_of e hl (fun z => nomatch z))).trans e))
  · exact Or.inl (Or.inr ⟨o', (upd_ne (ne_of e hl (fun z => nomatch z))).trans e⟩)
  · exact Or.inr z
theorem told_keep {K : PySem.W.Frag} {H : Hp} {t l : Addr} {n : Int} {zs : List V} {o : HO} (h : Dp K H (.ref t) (toldI n)) (hl : H l = some (.lst zs)) : Dp K (upd H l o) (.ref t) (toldI n) := by
  cases h with
  | tup s a =>
    cases a with
    | cons a1 r =>
      cases r with
      | cons a2 r2 =>
        cases r2
        cases a1
        cases a2
        exact .tup (sq_keep s hl) (.cons (.str _) (.cons (.int _) .nil))
section
variable {K : PySem.W.Frag} {H : Hp} {a : Addr} {σ : L2.St} {Q : VK} {xs l r : List V} {i j : Int}
theorem cut_read (hσ : σ[2]? = some (some (.ref a))) (hx : SqT K H a xs) (hl : ¬ (HT.sIx xs.length 0 none = 0 ∧ HT.sIx xs.length xs.length (some i) = xs.length)) (hr : ¬ (HT.sIx xs.length 0 (some j) = 0 ∧ HT.sIx xs.length xs.length none = xs.length))
    (el : cutV xs none (some i) = l) (er : cutV xs (some j) none = r) (nl : l ≠ []) (nr : r ≠ []) (hn : l.length + r.length ≤ 100) (h : ∀ c H', Same H H' → H' c = some (.tup (l ++ [V.int 1] ++ r)) → Q (.ref c) H') :
    tOp (rCatA K) (tOp (rCatA K) (tSl (rSlA K) (tVar 2) tNoPart (tPart (tC (V.int i)))) (tTup (tCons (tC (V.int 1)) tNil))) (tSl (rSlA K) (tVar 2) (tPart (tC (V.int j))) tNoPart) σ H Q := by
  subst el er
  refine ⟨_, hσ, i, rfl, a, xs, rfl, hx, fun z => absurd z hl, fun _ c1 n1 => ⟨(show 1 ≤ sizeLine by decide), fun c2 n2 => ?_⟩⟩
  have N1 := same_new n1 (.tup (cutV xs none (some i)))
  have N2 := same_new n2 (.tup [V.int 1])
  have z1 : ∀ n : Nat, n ≤ 200 → n ≤ sizeLine := fun n hn => Nat.le_trans hn (by decide)
  refine ⟨c1, c2, _, _, rfl, rfl, SqT.of (N2 _ _ upd_same), SqT.of upd_same, z1 _ (by rw [List.length_singleton]; omega), fun z => absurd z nl, fun _ z => absurd z (by simp), fun _ _ c3 n3 => ?_⟩
  have N3 := same_new n3 (.tup (cutV xs none (some i) ++ [V.int 1]))
  have T3 := N1.trans (N2.trans N3)
  refine ⟨_, hσ, j, rfl, a, xs, rfl, SqT.sm T3 hx, fun z => absurd z hr, fun _ c4 n4 => ?_⟩
  have N4 := same_new n4 (.tup (cutV xs (some j) none))
  refine ⟨c3, c4, _, _, rfl, rfl, SqT.of (N4 _ _ upd_same), SqT.of upd_same, z1 _ (by rw [List.length_append, List.length_singleton]; omega), fun z => absurd z (by simp), fun _ z => absurd z nr, fun _ _ c5 n5 => ?_⟩
  exact h c5 _ (T3.trans (N4.trans (same_new n5 _))) upd_same
end
theorem prod_mono {a b c x y z : Int} (x0 : 0 ≤ x) (xa : x ≤ a) (y0 : 0 ≤ y) (yb : y ≤ b) (z0 : 0 ≤ z) (zc : z ≤ c) : x * y * z ≤ a * b * c :=
  Int.mul_le_mul (Int.mul_le_mul xa yb y0 (by omega)) zc z0 (Int.mul_nonneg (by omega) (by omega))
def Prt.oneC (p : Prt) : Prt := { p with cols := 1 }
def Prt.oneR (p : Prt) : Prt := { p with rows := 1 }
def Prt.oneS (p : Prt) : Prt := { p with sheets := 1 }
theorem oneC_ok {p : Prt} (ok : PrOk p) : PrOk p.oneC := by
  have c1 := ok.c1; have r1 := ok.r1; have s1 := ok.s1; have m := ok.most
  have z := prod_mono (a := p.cols) (b := p.rows) (c := p.sheets) (x := 1) (y := p.rows) (z := p.sheets) (by omega) c1 (by omega) (by omega) (by omega) (by omega)
  exact ⟨ok.len, ok.f0, Int.le_refl _, (show (1 : Int) ≤ 12 by decide), ok.r1, ok.r2, ok.s1, ok.s2, (show p.first + 1 * p.rows * p.sheets ≤ 1000000000 by omega), ok.d12, ok.d13, ok.d23, ok.chr⟩
theorem oneR_ok {p : Prt} (ok : PrOk p) : PrOk p.oneR := by
  have c1 := ok.c1; have r1 := ok.r1; have s1 := ok.s1; have m := ok.most
  have z := prod_mono (a := p.cols) (b := p.rows) (c := p.sheets) (x := p.cols) (y := 1) (z := p.sheets) (by omega) (by omega) (by omega) r1 (by omega) (by omega)
  exact ⟨ok.len, ok.f0, ok.c1, ok.c2, Int.le_refl _, (show (1 : Int) ≤ 12 by decide), ok.s1, ok.s2, (show p.first + p.cols * 1 * p.sheets ≤ 1000000000 by omega), ok.d12, ok.d13, ok.d23, ok.chr⟩
theorem oneS_ok {p : Prt} (ok : PrOk p) : PrOk p.oneS := by
  have c1 := ok.c1; have r1 := ok.r1; have s1 := ok.s1; have m := ok.most
  have z := prod_mono (a := p.cols) (b := p.rows) (c := p.sheets) (x := p.cols) (y := p.rows) (z := 1) (by omega) (by omega) (by omega) (by omega) (by omega) s1
  exact ⟨ok.len, ok.f0, ok.c1, ok.c2, ok.r1, ok.r2, Int.le_refl _, (show (1 : Int) ≤ 1000000 by decide), (show p.first + p.cols * p.rows * 1 ≤ 1000000000 by omega), ok.d12, ok.d13, ok.d23, ok.chr⟩
def fourD (p p' : Prt) : PyData := .tuple [.list [prD p, prD p.oneS, prD p.oneC, prD p.oneR], prD p']
theorem fourD_ok {p q : Prt} (ok : PrOk p) (ok' : PrOk q) : (fourD p q).showable = true ∧ (fourD p q).hasDict = false ∧ (fourD p q).depth ≤ 60 ∧ (fourD p q).shown.length ≤ sizeLine := by
  have f : fineD (fourD p q) = true := by
    show ((fineD (prD p) && (fineD (prD p.oneS) && (fineD (prD p.oneC) && (fineD (prD p.oneR) && true)))) && (fineD (prD q) && true)) = true
    rw [ok.fine, (oneS_ok ok).fine, (oneC_ok ok).fine, (oneR_ok ok).fine, ok'.fine]
    rfl
  obtain ⟨h1, h2⟩ := fine_show _ f
  refine ⟨h1, h2, ?_, ?_⟩
  · simp only [fourD, prD, PyData.depth, PyData.depthAll]
    decide +revert
  · have z := shown_cost _ f
    have c1 := ok.cost; have c2 := (oneS_ok ok).cost; have c3 := (oneC_ok ok).cost; have c4 := (oneR_ok ok).cost; have c5 := ok'.cost
    have e : cost (fourD p q) = (cost (prD p) + 2 + (cost (prD p.oneS) + 2 + (cost (prD p.oneC) + 2 + (cost (prD p.oneR) + 2 + 0))) + 3) + 2 + (cost (prD q) + 2 + 0) + 3 := rfl
    rw [sizeLine_eq]
    omega
theorem fourD_dp {K : PySem.W.Frag} {H : Hp} {r l a b c d e : Addr} {p q : Prt} (h : H r = some (.tup [V.ref l, .ref e])) (hl : H l = some (.lst [V.ref a, .ref b, .ref c, .ref d])) (ha : PrAt H a p) (hb : PrAt H b p.oneS) (hc : PrAt H c p.oneC) (hd : PrAt H d p.oneR) (he : PrAt H e q) : Dp K H (.ref r) (fourD p q) :=
  .tup (SqT.of h) (.cons (.lst (SqL.of hl) (.cons ha.dp (.cons hb.dp (.cons hc.dp (.cons hd.dp .nil))))) (.cons he.dp .nil))
def top (i : Nat) : Stmt := PySem.Challenge.pw_pressnotes_k09_stacks.main.body.getD i (.Pass ⟨0, 0, 0, 0⟩)
abbrev s_how_many : Stmt := top 12
abbrev s_printed : Stmt := top 13
abbrev s_number_at : Stmt := top 14
abbrev s_seat_of : Stmt := top 15
abbrev s_pile : Stmt := top 16
abbrev s_pile_seat : Stmt := top 18
abbrev s_pile_place : Stmt := top 19
abbrev s_stack_at : Stmt := top 20
abbrev s_stack_place : Stmt := top 21
abbrev s_is_rising : Stmt := top 22
abbrev s_lfeed : Stmt := top 24
abbrev s_ldraw : Stmt := top 25
abbrev s_lalike : Stmt := top 26
abbrev s_lorder : Stmt := top 27
abbrev s_lprinting : Stmt := top 28
abbrev s_lsizes : Stmt := top 29
abbrev s_lnumber : Stmt := top 30
abbrev s_lheard_at : Stmt := top 31
abbrev s_lheard_place : Stmt := top 32
abbrev s_lpiles : Stmt := top 33
abbrev s_lnumbers : Stmt := top 34
abbrev s_lbeyond : Stmt := top 35
abbrev s_lwhole : Stmt := top 36
abbrev s_lgreat : Stmt := top 37
abbrev s_law : Stmt := top 38
theorem sc_how_many : FnScope ["printing"] ["printing"] (defScope s_how_many) := ⟨rfl, rfl, rfl, by decide +kernel, rfl, by decide +kernel, by decide +kernel⟩
theorem sc_printed : FnScope ["printing", "series", "first", "columns", "rows", "sheets", "order"] ["printing"] (defScope s_printed) := ⟨rfl, rfl, rfl, by decide +kernel, rfl, by decide +kernel, by decide +kernel⟩
theorem sc_number_at : FnScope ["printing", "sheet", "row", "column", "many", "seat", "outer", "middle", "inner", "place"] ["printing", "sheet", "row", "column"] (defScope s_number_at) := ⟨rfl, rfl, rfl, by decide +kernel, rfl, by decide +kernel, by decide +kernel⟩
theorem sc_seat_of : FnScope ["printing", "number", "series", "low", "high", "many", "outer", "middle", "inner", "seat", "rest"] ["printing", "number"] (defScope s_seat_of) := ⟨rfl, rfl, rfl, by decide +kernel, rfl, by decide +kernel, by decide +kernel⟩
theorem sc_pile : FnScope ["printing", "row", "column", "first", "step"] ["printing", "row", "column"] (defScope s_pile) := ⟨rfl, rfl, rfl, by decide +kernel, rfl, by decide +kernel, by decide +kernel⟩
theorem sc_pile_seat : FnScope ["printing", "way", "at", "columns", "rows", "column", "row"] ["printing", "way", "at"] (defScope s_pile_seat) := ⟨rfl, rfl, rfl, by decide +kernel, rfl, by decide +kernel, by decide +kernel⟩
theorem sc_pile_place : FnScope ["printing", "way", "row", "column", "columns", "rows"] ["printing", "way", "row", "column"] (defScope s_pile_place) := ⟨rfl, rfl, rfl, by decide +kernel, rfl, by decide +kernel, by decide +kernel⟩
theorem sc_stack_at : FnScope ["printing", "way", "k", "sheets", "at", "sheet", "row", "column"] ["printing", "way", "k"] (defScope s_stack_at) := ⟨rfl, rfl, rfl, by decide +kernel, rfl, by decide +kernel, by decide +kernel⟩
theorem sc_stack_place : FnScope ["printing", "way", "number", "sheet", "row", "column"] ["printing", "way", "number"] (defScope s_stack_place) := ⟨rfl, rfl, rfl, by decide +kernel, rfl, by decide +kernel, by decide +kernel⟩
theorem sc_is_rising : FnScope ["printing", "way", "last", "at", "row", "column", "first", "step", "many"] ["printing", "way"] (defScope s_is_rising) := ⟨rfl, rfl, rfl, by decide +kernel, rfl, by decide +kernel, by decide +kernel⟩
theorem sc_lfeed : FnScope ["_law_script"] ["_law_script"] (defScope s_lfeed) := ⟨rfl, rfl, rfl, by decide +kernel, rfl, by decide +kernel, by decide +kernel⟩
theorem sc_ldraw : FnScope ["_law_feed_here", "_law_many", "_law_found", "_law_at", "_law_cell", "_law_first"] ["_law_feed_here", "_law_many"] (defScope s_ldraw) := ⟨rfl, rfl, rfl, by decide +kernel, rfl, by decide +kernel, by decide +kernel⟩
theorem sc_lalike : FnScope ["_law_found", "_law_due", "_law_one", "_law_other"] ["_law_found", "_law_due"] (defScope s_lalike) := ⟨rfl, rfl, rfl, by decide +kernel, rfl, by decide +kernel, by decide +kernel⟩
theorem sc_lorder : FnScope ["_law_feed_here", "_law_words", "_law_first", "_law_second"] ["_law_feed_here"] (defScope s_lorder) := ⟨rfl, rfl, rfl, by decide +kernel, rfl, by decide +kernel, by decide +kernel⟩
theorem sc_lprinting : FnScope ["_law_feed_here", "_law_small", "_law_columns", "_law_rows", "_law_sheets", "_law_way", "_law_first", "_law_series"] ["_law_feed_here", "_law_small"] (defScope s_lprinting) := ⟨rfl, rfl, rfl, by decide +kernel, rfl, by decide +kernel, by decide +kernel⟩
theorem sc_lsizes : FnScope ["_law_printing_here"] ["_law_printing_here"] (defScope s_lsizes) := ⟨rfl, rfl, rfl, by decide +kernel, rfl, by decide +kernel, by decide +kernel⟩
theorem sc_lnumber : FnScope ["_law_printing_here", "_law_sheet", "_law_row", "_law_column", "_law_sizes_here", "_law_seat", "_law_slow", "_law_middle", "_law_fast", "_law_ahead"] ["_law_printing_here", "_law_sheet", "_law_row", "_law_column"] (defScope s_lnumber) := ⟨rfl, rfl, rfl, by decide +kernel, rfl, by decide +kernel, by decide +kernel⟩
theorem sc_lheard_at : FnScope ["_law_printing_here", "_law_way", "_law_k", "_law_found", "e", "_law_strange"] ["_law_printing_here", "_law_way", "_law_k"] (defScope s_lheard_at) := ⟨rfl, rfl, rfl, by decide +kernel, rfl, by decide +kernel, by decide +kernel⟩
theorem sc_lheard_place : FnScope ["_law_printing_here", "_law_way", "_law_number_here", "_law_found", "e", "_law_strange"] ["_law_printing_here", "_law_way", "_law_number_here"] (defScope s_lheard_place) := ⟨rfl, rfl, rfl, by decide +kernel, rfl, by decide +kernel, by decide +kernel⟩
theorem sc_lpiles : FnScope ["_law_printing_here", "_law_way", "_law_found", "_law_k"] ["_law_printing_here", "_law_way"] (defScope s_lpiles) := ⟨rfl, rfl, rfl, by decide +kernel, rfl, by decide +kernel, by decide +kernel⟩
theorem sc_lnumbers : FnScope ["_law_printing_here", "_law_way", "_law_found", "_law_row", "_law_column", "_law_sheet"] ["_law_printing_here", "_law_way"] (defScope s_lnumbers) := ⟨rfl, rfl, rfl, by decide +kernel, rfl, by decide +kernel, by decide +kernel⟩
theorem sc_lbeyond : FnScope ["_law_printing_here", "_law_way", "_law_many", "_law_k", "_law_number_here"] ["_law_printing_here", "_law_way"] (defScope s_lbeyond) := ⟨rfl, rfl, rfl, by decide +kernel, rfl, by decide +kernel, by decide +kernel⟩
theorem sc_lwhole : FnScope ["_law_printing_here", "_law_way", "_law_numbers_here", "_law_k", "_law_number_here"] ["_law_printing_here", "_law_way"] (defScope s_lwhole) := ⟨rfl, rfl, rfl, by decide +kernel, rfl, by decide +kernel, by decide +kernel⟩
theorem sc_lgreat : FnScope ["_law_feed_here", "_law_printing_here", "_law_way", "_law_piles_here", "_law_sheets", "_law_is_up", "_law_k", "_law_one", "_law_other", "_law_last", "_law_spot", "_law_sheet", "_law_row", "_law_column", "_law_number_here", "_law_place", "_law_found"] ["_law_feed_here", "_law_printing_here", "_law_way"] (defScope s_lgreat) := ⟨rfl, rfl, rfl, by decide +kernel, rfl, by decide +kernel, by decide +kernel⟩
theorem sc_law : FnScope ["_law_script", "_law_feed_here", "_law_small", "_law_great_here", "_law_one_column", "_law_one_row", "_law_some", "_law_kept", "_law_way", "_law_printing_here"] ["_law_script"] (defScope s_law) := ⟨rfl, rfl, rfl, by decide +kernel, rfl, by decide +kernel, by decide +kernel⟩
abbrev s_NoNumber : Stmt := (clsBody (top 2)).getD 0 (.Pass ⟨0, 0, 0, 0⟩)
theorem sc_NoNumber : FnScope ["self", "number"] ["self", "number"] (defScope s_NoNumber) := ⟨rfl, rfl, rfl, by decide +kernel, rfl, by decide +kernel, by decide +kernel⟩
structure Txt (K : PySem.W.Frag) (mg : Str → Option Value) (f_how_many f_printed f_number_at f_seat_of f_pile f_pile_seat f_pile_place f_stack_at f_stack_place f_is_rising f_lfeed f_ldraw f_lalike f_lorder f_lprinting f_lsizes f_lnumber f_lheard_at f_lheard_place f_lpiles f_lnumbers f_lbeyond f_lwhole f_lgreat f_law : Addr) : Prop where
  m_NoteError : mg "NoteError" = some (.ref (He.ga K "NoteError"))
  m_NoNumber : mg "NoNumber" = some (.ref (He.ga K "NoNumber"))
  m_NoStars : mg "NoStars" = some (.ref (He.ga K "NoStars"))
  m_NoRow : mg "NoRow" = some (.ref (He.ga K "NoRow"))
  m_NoPage : mg "NoPage" = some (.ref (He.ga K "NoPage"))
  m_NoPaper : mg "NoPaper" = some (.ref (He.ga K "NoPaper"))
  m_NoWorld : mg "NoWorld" = some (.ref (He.ga K "NoWorld"))
  m_NoBack : mg "NoBack" = some (.ref (He.ga K "NoBack"))
  m_NoText : mg "NoText" = some (.ref (He.ga K "NoText"))
  m_NoLine : mg "NoLine" = some (.ref (He.ga K "NoLine"))
  rf_NoNumber : Rf K "NoNumber" "number" "NoteError" ["NoStars", "NoRow", "NoPage", "NoPaper", "NoWorld", "NoBack", "NoText", "NoLine"]
  m_how_many : mg "how_many" = some (.ref f_how_many)
  m_printed : mg "printed" = some (.ref f_printed)
  m_number_at : mg "number_at" = some (.ref f_number_at)
  m_seat_of : mg "seat_of" = some (.ref f_seat_of)
  m_pile : mg "pile" = some (.ref f_pile)
  m_pile_seat : mg "pile_seat" = some (.ref f_pile_seat)
  m_pile_place : mg "pile_place" = some (.ref f_pile_place)
  m_stack_at : mg "stack_at" = some (.ref f_stack_at)
  m_stack_place : mg "stack_place" = some (.ref f_stack_place)
  m_is_rising : mg "is_rising" = some (.ref f_is_rising)
  m_lfeed : mg "_law_feed" = some (.ref f_lfeed)
  m_ldraw : mg "_law_draw" = some (.ref f_ldraw)
  m_lalike : mg "_law_alike" = some (.ref f_lalike)
  m_lorder : mg "_law_order" = some (.ref f_lorder)
  m_lprinting : mg "_law_printing" = some (.ref f_lprinting)
  m_lsizes : mg "_law_sizes" = some (.ref f_lsizes)
  m_lnumber : mg "_law_number" = some (.ref f_lnumber)
  m_lheard_at : mg "_law_heard_at" = some (.ref f_lheard_at)
  m_lheard_place : mg "_law_heard_place" = some (.ref f_lheard_place)
  m_lpiles : mg "_law_piles" = some (.ref f_lpiles)
  m_lnumbers : mg "_law_numbers" = some (.ref f_lnumbers)
  m_lbeyond : mg "_law_beyond" = some (.ref f_lbeyond)
  m_lwhole : mg "_law_whole" = some (.ref f_lwhole)
  m_lgreat : mg "_law_great" = some (.ref f_lgreat)
  m_law : mg "law" = some (.ref f_law)
  len : mg "len" = none
  range : mg "range" = none
  sorted : mg "sorted" = none
  tuple : mg "tuple" = none
  list : mg "list" = none
  isinstance : mg "isinstance" = none
  all : mg "all" = none
  zip : mg "zip" = none
  repr : mg "repr" = none
  int : mg "int" = none
  bool : mg "bool" = none
  str : mg "str" = none
  divmod : mg "divmod" = none
  enumerate : mg "enumerate" = none
  ValueError : mg "ValueError" = none
section
variable {P : Program} {w : World} {K : PySem.W.Frag} {mg : Str → Option Value} {base : Heap} {f_how_many f_printed f_number_at f_seat_of f_pile f_pile_seat f_pile_place f_stack_at f_stack_place f_is_rising f_lfeed f_ldraw f_lalike f_lorder f_lprinting f_lsizes f_lnumber f_lheard_at f_lheard_place f_lpiles f_lnumbers f_lbeyond f_lwhole f_lgreat f_law : Addr} {d_how_many d_printed d_number_at d_seat_of d_pile d_pile_seat d_pile_place d_stack_at d_stack_place d_is_rising d_lfeed d_ldraw d_lalike d_lorder d_lprinting d_lsizes d_lnumber d_lheard_at d_lheard_place d_lpiles d_lnumbers d_lbeyond d_lwhole d_lgreat d_law : FuncData}
theorem ok_ldraw (F : Fun K "_law_draw" "_law_draw" s_ldraw f_ldraw d_ldraw) (T : Txt K mg f_how_many f_printed f_number_at f_seat_of f_pile f_pile_seat f_pile_place f_stack_at f_stack_place f_is_rising f_lfeed f_ldraw f_lalike f_lorder f_lprinting f_lsizes f_lnumber f_lheard_at f_lheard_place f_lpiles f_lnumbers f_lbeyond f_lwhole f_lgreat f_law) :
    FnOk P w K mg base CX0 (1) f_ldraw d_ldraw ["_law_feed_here", "_law_many"] spDraw := by
  refine F.ok sc_ldraw (fun vs H Q E h => ?_) (fun cdv A outer s H vs Q E hr h => ?_)

  · obtain ⟨f, c, m, n, rfl, _⟩ := h
    rfl
  obtain ⟨f, c, m, n, rfl, ⟨cells, at_, g, hf, hc, h63, h0, hn⟩, hn2, hm0, hm1, q0⟩ := h
  refine ⟨_, (pss_cons (ps_if (pt_cmpR op_gt (pe_ix ix_list (pv 0) pe_int (fun _ _ => rfl)) pe_int (nomark _))
  (pss_cons (ps_set (i := 2) sc_ldraw.nd rfl (.inl rfl) (pe_op op_modN (pe_ix ix_list (pv 0) pe_int (fun _ _ => rfl)) (pv 1)))
  (pss_cons (ps_asg (pe_op op_fdivN (pe_ix ix_list (pv 0) pe_int (fun _ _ => rfl)) (pv 1)) (pg_sub (pv 0) pe_int set_list))
  (pss_one (ps_ret (pv 2)))))
  pss_nil)
  (pss_cons (ps_set (i := 3) sc_ldraw.nd rfl (.inl rfl) (pe_ix ix_list (pv 0) pe_int (fun _ _ => rfl)))
  (pss_cons (ps_asg (pe_op op_add (pv 3) pe_int) (pg_sub (pv 0) pe_int set_list))
  (pss_cons (ps_set (i := 4) sc_ldraw.nd rfl (.inl rfl) (pe_ifExp (pt_cmpR op_gt (pe_callB call_len_seq (by rfl) T.len (by decide +kernel) (pa_cons (pe_ix ix_list (pv 0) pe_int (fun _ _ => rfl)) pa_nil)) pe_int (nomark _)) (pe_ix ix_list (pe_ix ix_list (pv 0) pe_int (fun _ _ => rfl)) (pe_op op_modN (pv 3) (pe_callB call_len_seq (by rfl) T.len (by decide +kernel) (pa_cons (pe_ix ix_list (pv 0) pe_int (fun _ _ => rfl)) pa_nil))) (fun _ _ => rfl)) pe_int))
  (pss_cons (ps_if (PW.pt (pw_and (pt_cmpR op_ge (pv 4) (pe_op op_pow pe_int pe_int) (nomark _)) (pw_and1 (pt_cmpR op_lt (pv 3) (pe_callB call_len_seq (by rfl) T.len (by decide +kernel) (pa_cons (pe_ix ix_list (pv 0) pe_int (fun _ _ => rfl)) pa_nil)) (nomark _)))))
  (pss_cons (ps_asg (pe_op op_fdivN (pv 4) (pv 1)) (pg_sub (pv 0) pe_int set_list))
  (pss_one (ps_ret (pe_op op_modN (pv 4) (pv 1)))))
  pss_nil)
  (pss_cons (ps_set (i := 5) sc_ldraw.nd rfl (.inl rfl) (pe_op op_modN (pe_op op_mul (pe_op op_add (pe_op op_add (pe_op op_add (pe_op op_modN (pv 4) pe_int) (pe_op op_mul (pe_op op_mul pe_int (pv 3)) (pv 3))) (pe_op op_mul pe_int (pv 3))) pe_int) pe_int) pe_int))
  (pss_cons (ps_set (i := 5) sc_ldraw.nd rfl (.inl rfl) (pe_op op_modN (pe_op op_add (pe_op op_add (pe_op op_mul (pv 5) (pv 5)) (pe_op op_mul pe_int (pv 3))) pe_int) pe_int))
  (pss_one (ps_ret (pe_op op_modN (pe_op op_fdivN (pe_op op_modN (pe_op op_mul (pv 5) pe_int) pe_int) pe_int) (pv 1))))))))))), ?_⟩
  have hcf : c ≠ f := fd_ne hf hc
  have q : ∀ (d : Int) (o : HO), 0 ≤ d → d < m → Fd (upd H f o) f c (n + 1) → Q (.int d) (upd H f o) := fun d o h1 h2 h3 => q0 d _ h1 h2 h3 But.feed fun a ha => by
    rw [upd_ne (fun z => by rw [z, hf] at ha; cases ha)]
    exact ha
  have fdN : ∀ a' g', 0 ≤ a' → a' ≤ n + 1 → Fd (upd H f (.lst [.ref c, .int a', .int g'])) f c (n + 1) := fun a' g' h1 h2 => ⟨cells, a', g', upd_same, (upd_ne hcf).trans hc, h63, h1, h2⟩
  have hc1 : ∀ o, (upd H f o) c = some (.lst (cells.map V.int)) := fun o => (upd_ne hcf).trans hc
  refine ⟨_, rfl, f, _, _, _, rfl, rfl, SqL.of hf, rfl, _, _, rfl, rfl, _, rfl, ?_⟩
  refine ite2 (fun cg => ?_) (fun cg => ?_)
  · refine ⟨_, rfl, f, _, _, _, rfl, rfl, SqL.of hf, rfl, _, rfl, _, _, rfl, rfl, by omega, ?_⟩
    refine ⟨_, rfl, f, _, _, _, rfl, rfl, SqL.of hf, rfl, _, rfl, _, _, rfl, rfl, ⟨by omega, by omega⟩, ?_⟩
    refine ⟨_, rfl, f, _, _, 2, rfl, rfl, hf, rfl, ?_⟩
    refine ⟨_, rfl, ?_⟩
    exact q _ _ (mod_lo _ _ hm0) (mod_hi _ _ hm0) (fdN at_ _ h0 (by omega))
  refine ⟨_, rfl, f, _, _, _, rfl, rfl, SqL.of hf, rfl, ?_⟩
  refine ⟨_, rfl, _, _, rfl, rfl, ?_⟩
  refine ⟨_, rfl, f, _, _, 1, rfl, rfl, hf, rfl, ?_⟩
  refine ⟨_, rfl, f, _, _, _, rfl, rfl, SqL.of upd_same, rfl, c, _, rfl, .inl (SqL.of (hc1 _)), _, _, rfl, rfl, _, rfl, ?_⟩
  refine ite2 (fun c1 => ?_) (fun c1 => ?_)
  · have hl : 0 < cells.length := by
      have := of_decide_eq_true c1
      rw [List.length_map] at this
      omega
    obtain ⟨cell, hcell⟩ := at_mod at_ hl
    refine ⟨_, rfl, f, _, _, _, rfl, rfl, SqL.of upd_same, rfl, _, rfl, _, rfl, f, _, _, _, rfl, rfl, SqL.of upd_same, rfl, c, _, rfl, .inl (SqL.of (hc1 _)), _, _, rfl, rfl, ?_, c, _, _, _, rfl, rfl, SqL.of (hc1 _), hcell, ?_⟩
    · rw [List.length_map]
      omega
    refine ⟨_, rfl, _, _, rfl, rfl, ⟨by decide, by decide, by decide⟩, _, _, rfl, rfl, _, rfl, ?_⟩
    refine ite2 (fun c2 => ?_) (fun c2 => ?_)
    · refine ⟨_, rfl, _, rfl, f, _, _, _, rfl, rfl, SqL.of upd_same, rfl, c, _, rfl, .inl (SqL.of (hc1 _)), _, _, rfl, rfl, _, rfl, ?_⟩
      refine ite2 (fun c3 => ?_) (fun c3 => ?_)
      · refine ⟨_, rfl, _, rfl, _, _, rfl, rfl, ⟨by omega, by omega⟩, ?_⟩
        refine ⟨_, rfl, f, _, _, 2, rfl, rfl, upd_same, rfl, ?_⟩
        refine ⟨_, rfl, _, rfl, _, _, rfl, rfl, by omega, ?_⟩
        rw [upd_upd]
        exact q _ _ (mod_lo _ _ hm0) (mod_hi _ _ hm0) (fdN _ _ (by omega) (by omega))
      ·
        refine ⟨_, rfl, _, _, rfl, rfl, (by show (_ : Int) ≠ 0; decide), _, rfl, _, _, rfl, rfl, .inl ⟨by decide, by decide⟩, _, rfl, _, _, rfl, rfl, .inl ⟨by omega, by omega⟩, _, _, rfl, rfl, _, rfl, _, _, rfl, rfl, .inl ⟨by decide, by decide⟩, _, _, rfl, rfl, _, _, rfl, rfl, _, _, rfl, rfl, .inr ⟨by decide, by decide⟩, _, _, rfl, rfl, (by show (_ : Int) ≠ 0; decide), ?_⟩
        refine ⟨_, rfl, _, rfl, _, _, rfl, rfl, .inl ⟨Int.lt_of_lt_of_le (by decide) (mod_lo _ _ (by decide)), Int.lt_trans (mod_hi _ _ (by decide)) (by decide)⟩, _, rfl, _, _, rfl, rfl, .inl ⟨by decide, by decide⟩, _, _, rfl, rfl, _, _, rfl, rfl, _, _, rfl, rfl, (by show (_ : Int) ≠ 0; decide), ?_⟩
        refine ⟨_, rfl, _, _, rfl, rfl, .inr ⟨by decide, by decide⟩, _, _, rfl, rfl, (by show (_ : Int) ≠ 0; decide), _, _, rfl, rfl, ⟨by decide, by decide⟩, _, rfl, _, _, rfl, rfl, by omega, ?_⟩
        exact q _ _ (mod_lo _ _ hm0) (mod_hi _ _ hm0) (fdN _ _ (by omega) (by omega))
    ·
      refine ⟨_, rfl, _, _, rfl, rfl, (by show (_ : Int) ≠ 0; decide), _, rfl, _, _, rfl, rfl, .inl ⟨by decide, by decide⟩, _, rfl, _, _, rfl, rfl, .inl ⟨by omega, by omega⟩, _, _, rfl, rfl, _, rfl, _, _, rfl, rfl, .inl ⟨by decide, by decide⟩, _, _, rfl, rfl, _, _, rfl, rfl, _, _, rfl, rfl, .inr ⟨by decide, by decide⟩, _, _, rfl, rfl, (by show (_ : Int) ≠ 0; decide), ?_⟩
      refine ⟨_, rfl, _, rfl, _, _, rfl, rfl, .inl ⟨Int.lt_of_lt_of_le (by decide) (mod_lo _ _ (by decide)), Int.lt_trans (mod_hi _ _ (by decide)) (by decide)⟩, _, rfl, _, _, rfl, rfl, .inl ⟨by decide, by decide⟩, _, _, rfl, rfl, _, _, rfl, rfl, _, _, rfl, rfl, (by show (_ : Int) ≠ 0; decide), ?_⟩
      refine ⟨_, rfl, _, _, rfl, rfl, .inr ⟨by decide, by decide⟩, _, _, rfl, rfl, (by show (_ : Int) ≠ 0; decide), _, _, rfl, rfl, ⟨by decide, by decide⟩, _, rfl, _, _, rfl, rfl, by omega, ?_⟩
      exact q _ _ (mod_lo _ _ hm0) (mod_hi _ _ hm0) (fdN _ _ (by omega) (by omega))
  ·
    refine ⟨_, rfl, _, _, rfl, rfl, ⟨by decide, by decide, by decide⟩, _, _, rfl, rfl, _, rfl, ?_⟩
    refine ite2 (fun c2 => ?_) (fun c2 => ?_)
    · refine ⟨_, rfl, _, rfl, f, _, _, _, rfl, rfl, SqL.of upd_same, rfl, c, _, rfl, .inl (SqL.of (hc1 _)), _, _, rfl, rfl, _, rfl, ?_⟩
      refine ite2 (fun c3 => ?_) (fun c3 => ?_)
      · refine ⟨_, rfl, _, rfl, _, _, rfl, rfl, ⟨by omega, by omega⟩, ?_⟩
        refine ⟨_, rfl, f, _, _, 2, rfl, rfl, upd_same, rfl, ?_⟩
        refine ⟨_, rfl, _, rfl, _, _, rfl, rfl, by omega, ?_⟩
        rw [upd_upd]
        exact q _ _ (mod_lo _ _ hm0) (mod_hi _ _ hm0) (fdN _ _ (by omega) (by omega))
      ·
        refine ⟨_, rfl, _, _, rfl, rfl, (by show (_ : Int) ≠ 0; decide), _, rfl, _, _, rfl, rfl, .inl ⟨by decide, by decide⟩, _, rfl, _, _, rfl, rfl, .inl ⟨by omega, by omega⟩, _, _, rfl, rfl, _, rfl, _, _, rfl, rfl, .inl ⟨by decide, by decide⟩, _, _, rfl, rfl, _, _, rfl, rfl, _, _, rfl, rfl, .inr ⟨by decide, by decide⟩, _, _, rfl, rfl, (by show (_ : Int) ≠ 0; decide), ?_⟩
        refine ⟨_, rfl, _, rfl, _, _, rfl, rfl, .inl ⟨Int.lt_of_lt_of_le (by decide) (mod_lo _ _ (by decide)), Int.lt_trans (mod_hi _ _ (by decide)) (by decide)⟩, _, rfl, _, _, rfl, rfl, .inl ⟨by decide, by decide⟩, _, _, rfl, rfl, _, _, rfl, rfl, _, _, rfl, rfl, (by show (_ : Int) ≠ 0; decide), ?_⟩
        refine ⟨_, rfl, _, _, rfl, rfl, .inr ⟨by decide, by decide⟩, _, _, rfl, rfl, (by show (_ : Int) ≠ 0; decide), _, _, rfl, rfl, ⟨by decide, by decide⟩, _, rfl, _, _, rfl, rfl, by omega, ?_⟩
        exact q _ _ (mod_lo _ _ hm0) (mod_hi _ _ hm0) (fdN _ _ (by omega) (by omega))
    ·
      refine ⟨_, rfl, _, _, rfl, rfl, (by show (_ : Int) ≠ 0; decide), _, rfl, _, _, rfl, rfl, .inl ⟨by decide, by decide⟩, _, rfl, _, _, rfl, rfl, .inl ⟨by omega, by omega⟩, _, _, rfl, rfl, _, rfl, _, _, rfl, rfl, .inl ⟨by decide, by decide⟩, _, _, rfl, rfl, _, _, rfl, rfl, _, _, rfl, rfl, .inr ⟨by decide, by decide⟩, _, _, rfl, rfl, (by show (_ : Int) ≠ 0; decide), ?_⟩
      refine ⟨_, rfl, _, rfl, _, _, rfl, rfl, .inl ⟨Int.lt_of_lt_of_le (by decide) (mod_lo _ _ (by decide)), Int.lt_trans (mod_hi _ _ (by decide)) (by decide)⟩, _, rfl, _, _, rfl, rfl, .inl ⟨by decide, by decide⟩, _, _, rfl, rfl, _, _, rfl, rfl, _, _, rfl, rfl, (by show (_ : Int) ≠ 0; decide), ?_⟩
      refine ⟨_, rfl, _, _, rfl, rfl, .inr ⟨by decide, by decide⟩, _, _, rfl, rfl, (by show (_ : Int) ≠ 0; decide), _, _, rfl, rfl, ⟨by decide, by decide⟩, _, rfl, _, _, rfl, rfl, by omega, ?_⟩
      exact q _ _ (mod_lo _ _ hm0) (mod_hi _ _ hm0) (fdN _ _ (by omega) (by omega))

theorem ok_lfeed (F : Fun K "_law_feed" "_law_feed" s_lfeed f_lfeed d_lfeed) (T : Txt K mg f_how_many f_printed f_number_at f_seat_of f_pile f_pile_seat f_pile_place f_stack_at f_stack_place f_is_rising f_lfeed f_ldraw f_lalike f_lorder f_lprinting f_lsizes f_lnumber f_lheard_at f_lheard_place f_lpiles f_lnumbers f_lbeyond f_lwhole f_lgreat f_law) :
    FnOk P w K mg base CX0 (1) f_lfeed d_lfeed ["_law_script"] (spFeed K) := by
  refine F.ok sc_lfeed (fun vs H Q E h => ?_) (fun cdv A outer s H vs Q E hr h => ?_)

  · obtain ⟨a, ns, rfl, _⟩ := h
    rfl
  obtain ⟨a, ns, rfl, hs, q⟩ := h
  refine ⟨_, (pss_one (ps_ret (pe_lst (pa_cons (pe_slice sl_list (pv 0) po_none (po_some pe_int)) (pa_cons pe_int (pa_cons pe_int pa_nil)))))), ?_⟩
  refine ⟨_, rfl, _, rfl, a, _, rfl, hs, fun c hc => ?_⟩
  have e : cutV (ns.map V.int) none (some 63) = (ns.take 63).map V.int := (cut_take _ 63).trans (List.map_take).symm
  refine ⟨(show 3 ≤ sizeLine by decide), fun f hf => ?_⟩
  have hcf : c ≠ f := ne_of_none upd_same hf
  refine q f c _ (free_of hf) ((same_new hc _).trans (same_new hf _)) ⟨ns.take 63, 0, 0, upd_same, (upd_ne hcf).trans (by rw [upd_same, e]), List.length_take_le .., Int.le_refl _, Int.le_refl _⟩

theorem ok_how_many (F : Fun K "how_many" "how_many" s_how_many f_how_many d_how_many) (T : Txt K mg f_how_many f_printed f_number_at f_seat_of f_pile f_pile_seat f_pile_place f_stack_at f_stack_place f_is_rising f_lfeed f_ldraw f_lalike f_lorder f_lprinting f_lsizes f_lnumber f_lheard_at f_lheard_place f_lpiles f_lnumbers f_lbeyond f_lwhole f_lgreat f_law) :
    FnOk P w K mg base CX0 (1) f_how_many d_how_many ["printing"] (spHow dictW) := by
  refine F.ok sc_how_many (fun vs H Q E h => ?_) (fun cdv A outer s H vs Q E hr h => ?_)

  · obtain ⟨a, p, rfl, _⟩ := h
    rfl
  obtain ⟨a, p, rfl, ⟨t, h1, o, h2, ho⟩, q⟩ := h
  refine ⟨_, (pss_one (ps_ret (pe_disp (pps_cons pe_str (pe_ix ix_tup (pv 0) pe_int (fun _ _ => rfl)) (pps_cons pe_str (pe_ix ix_tup (pv 0) pe_int (fun _ _ => rfl)) (pps_cons pe_str (pe_ix ix_tup (pv 0) pe_int (fun _ _ => rfl)) pps_nil))) (by rfl) (by rfl) (fun z => by cases z) (by decide)))), ?_⟩
  intro d hd
  have s1 : Same H (upd H d (.dK [])) := same_new hd _
  have k1 := SqT.of (K := K) (s1 _ _ h1)
  refine ⟨_, rfl, a, _, _, _, rfl, rfl, k1, rfl, _, rfl, a, _, _, _, rfl, rfl, k1, rfl, _, rfl, a, _, _, _, rfl, rfl, k1, rfl, upd_same, dictW p.size, rfl, (show 3 ≤ 15 by decide), ?_⟩
  rw [upd_upd]
  refine q d _ (same_new hd _) ?_
  rw [upd_same]
  rfl

theorem ok_lsizes (F : Fun K "_law_sizes" "_law_sizes" s_lsizes f_lsizes d_lsizes) (T : Txt K mg f_how_many f_printed f_number_at f_seat_of f_pile f_pile_seat f_pile_place f_stack_at f_stack_place f_is_rising f_lfeed f_ldraw f_lalike f_lorder f_lprinting f_lsizes f_lnumber f_lheard_at f_lheard_place f_lpiles f_lnumbers f_lbeyond f_lwhole f_lgreat f_law) :
    FnOk P w K mg base CX0 (1) f_lsizes d_lsizes ["_law_printing_here"] (spHow dictC) := by
  refine F.ok sc_lsizes (fun vs H Q E h => ?_) (fun cdv A outer s H vs Q E hr h => ?_)

  · obtain ⟨a, p, rfl, _⟩ := h
    rfl
  obtain ⟨a, p, rfl, ⟨t, h1, o, h2, ho⟩, q⟩ := h
  refine ⟨_, (pss_one (ps_ret (pe_disp (pps_cons pe_str (pe_ix ix_tup (pv 0) pe_int (fun _ _ => rfl)) (pps_cons pe_str (pe_ix ix_tup (pv 0) pe_int (fun _ _ => rfl)) (pps_cons pe_str (pe_ix ix_tup (pv 0) pe_int (fun _ _ => rfl)) pps_nil))) (by rfl) (by rfl) (fun z => by cases z) (by decide)))), ?_⟩
  intro d hd
  have s1 : Same H (upd H d (.dK [])) := same_new hd _
  have k1 := SqT.of (K := K) (s1 _ _ h1)
  refine ⟨_, rfl, a, _, _, _, rfl, rfl, k1, rfl, _, rfl, a, _, _, _, rfl, rfl, k1, rfl, _, rfl, a, _, _, _, rfl, rfl, k1, rfl, upd_same, dictC p.size, rfl, (show 3 ≤ 15 by decide), ?_⟩
  rw [upd_upd]
  refine q d _ (same_new hd _) ?_
  rw [upd_same]
  rfl

theorem ok_number_at (F : Fun K "number_at" "number_at" s_number_at f_number_at d_number_at) (T : Txt K mg f_how_many f_printed f_number_at f_seat_of f_pile f_pile_seat f_pile_place f_stack_at f_stack_place f_is_rising f_lfeed f_ldraw f_lalike f_lorder f_lprinting f_lsizes f_lnumber f_lheard_at f_lheard_place f_lpiles f_lnumbers f_lbeyond f_lwhole f_lgreat f_law)
    (F_how_many : Fun K "how_many" "how_many" s_how_many f_how_many d_how_many) (b_how_many : Binds K d_how_many ["printing"] []) (G_how_many : FnOk P w K mg base CX0 (1) f_how_many d_how_many ["printing"] (spHow dictW)) :
    FnOk P w K mg base CX0 (2) f_number_at d_number_at ["printing", "sheet", "row", "column"] spNum := by
  refine F.ok sc_number_at (fun vs H Q E h => ?_) (fun cdv A outer s H vs Q E hr h => ?_)

  · obtain ⟨a, p, s, r, c, rfl, _⟩ := h
    rfl
  obtain ⟨a, p, s, r, c, rfl, hp, ok, q⟩ := h
  refine ⟨_, (pss_cons (ps_set (i := 4) sc_number_at.nd rfl (.inl rfl) (pe_call G_how_many hr (by rfl) T.m_how_many F_how_many.kp b_how_many .nil pass0 (pa_cons (pv 0) pa_nil)))
  (pss_cons (ps_set (i := 5) sc_number_at.nd rfl (.inl rfl) (pe_disp (pps_cons pe_str (pv 1) (pps_cons pe_str (pv 2) (pps_cons pe_str (pv 3) pps_nil))) (by rfl) (by rfl) (fun z => by cases z) (by decide)))
  (pss_cons (ps_asg (pe_ix ix_tup (pv 0) pe_int (fun _ _ => rfl)) (pg_tup rfl (pgs_cons (pg_name (i := 6) sc_number_at.nd rfl (.inl rfl)) (pgs_cons (pg_name (i := 7) sc_number_at.nd rfl (.inl rfl)) (pgs_cons (pg_name (i := 8) sc_number_at.nd rfl (.inl rfl)) pgs_nil)))))
  (pss_cons (ps_set (i := 9) sc_number_at.nd rfl (.inl rfl) (pe_op op_add (pe_op op_mul (pe_op op_add (pe_op op_mul (pe_dget (hu_of hr) (pv 5) (pv 6) (fun _ _ => rfl)) (pe_dget (hu_of hr) (pv 4) (pv 7) (fun _ _ => rfl))) (pe_dget (hu_of hr) (pv 5) (pv 7) (fun _ _ => rfl))) (pe_dget (hu_of hr) (pv 4) (pv 8) (fun _ _ => rfl))) (pe_dget (hu_of hr) (pv 5) (pv 8) (fun _ _ => rfl))))
  (pss_one (ps_ret (pe_op op_add (pe_ix ix_tup (pv 0) pe_int (fun _ _ => rfl)) (pv 9)))))))), ?_⟩
  refine ⟨_, rfl, a, p, rfl, hp, fun d H1 s1 hd => ?_⟩
  intro e he
  have s2 : Same H1 (upd H1 e (.dK (dictW (seatW s r c)))) := same_new he _
  obtain ⟨t, h1, o, h2, ho⟩ := (hp.same s1).same s2
  have hd2 := get_dW (s2 _ _ hd)
  have he2 := get_dW (H := upd H1 e (.dK (dictW (seatW s r c)))) upd_same
  have big : ∀ u : Wd, -(2 ^ 64) < p.size u ∧ p.size u < 2 ^ 64 := fun u => by
    have := ok.size_lo u
    have := ok.size_hi u
    constructor <;> omega
  refine ⟨_, rfl, _, rfl, _, rfl, upd_same, dictW (seatW s r c), rfl, (show 3 ≤ 15 by decide), ?_⟩
  rw [upd_upd]
  refine ⟨_, rfl, a, _, _, _, rfl, rfl, SqT.of h1, rfl, t, _, rfl, sqF h2, rfl, _, _, rfl, _, _, rfl, _, _, rfl, rfl, ?_⟩
  refine ⟨_, rfl, _, rfl, e, _, rfl, he2 p.o1, _, rfl, _, rfl, d, _, rfl, hd2 p.o2, _, _, rfl, rfl, .inr (ok.big p.o2), _, rfl, _, rfl, e, _, rfl, he2 p.o2, _, _, rfl, rfl, _, rfl, _, rfl, d, _, rfl, hd2 p.o3, _, _, rfl, rfl, .inr (ok.big p.o3), _, rfl, _, rfl, e, _, rfl, he2 p.o3, _, _, rfl, rfl, ?_⟩
  refine ⟨_, rfl, a, _, _, _, rfl, rfl, SqT.of h1, rfl, _, rfl, _, _, rfl, rfl, ?_⟩
  exact q _ (s1.trans s2)

theorem ok_lnumber (F : Fun K "_law_number" "_law_number" s_lnumber f_lnumber d_lnumber) (T : Txt K mg f_how_many f_printed f_number_at f_seat_of f_pile f_pile_seat f_pile_place f_stack_at f_stack_place f_is_rising f_lfeed f_ldraw f_lalike f_lorder f_lprinting f_lsizes f_lnumber f_lheard_at f_lheard_place f_lpiles f_lnumbers f_lbeyond f_lwhole f_lgreat f_law)
    (F_lsizes : Fun K "_law_sizes" "_law_sizes" s_lsizes f_lsizes d_lsizes) (b_lsizes : Binds K d_lsizes ["_law_printing_here"] []) (G_lsizes : FnOk P w K mg base CX0 (1) f_lsizes d_lsizes ["_law_printing_here"] (spHow dictC)) :
    FnOk P w K mg base CX0 (2) f_lnumber d_lnumber ["_law_printing_here", "_law_sheet", "_law_row", "_law_column"] spNum := by
  refine F.ok sc_lnumber (fun vs H Q E h => ?_) (fun cdv A outer s H vs Q E hr h => ?_)

  · obtain ⟨a, p, s, r, c, rfl, _⟩ := h
    rfl
  obtain ⟨a, p, s, r, c, rfl, hp, ok, q⟩ := h
  refine ⟨_, (pss_cons (ps_set (i := 4) sc_lnumber.nd rfl (.inl rfl) (pe_call G_lsizes hr (by rfl) T.m_lsizes F_lsizes.kp b_lsizes .nil pass0 (pa_cons (pv 0) pa_nil)))
  (pss_cons (ps_set (i := 5) sc_lnumber.nd rfl (.inl rfl) (pe_disp (pps_cons pe_str (pv 3) (pps_cons pe_str (pv 2) (pps_cons pe_str (pv 1) pps_nil))) (by rfl) (by rfl) (fun z => by cases z) (by decide)))
  (pss_cons (ps_asg (pe_ix ix_tup (pv 0) pe_int (fun _ _ => rfl)) (pg_tup rfl (pgs_cons (pg_name (i := 6) sc_lnumber.nd rfl (.inl rfl)) (pgs_cons (pg_name (i := 7) sc_lnumber.nd rfl (.inl rfl)) (pgs_cons (pg_name (i := 8) sc_lnumber.nd rfl (.inl rfl)) pgs_nil)))))
  (pss_cons (ps_set (i := 9) sc_lnumber.nd rfl (.inl rfl) (pe_op op_mul (pe_op op_mul (pe_dget (hu_of hr) (pv 5) (pv 6) (fun _ _ => rfl)) (pe_dget (hu_of hr) (pv 4) (pv 7) (fun _ _ => rfl))) (pe_dget (hu_of hr) (pv 4) (pv 8) (fun _ _ => rfl))))
  (pss_cons (ps_set (i := 9) sc_lnumber.nd rfl (.inl rfl) (pe_op op_add (pe_op op_add (pv 9) (pe_op op_mul (pe_dget (hu_of hr) (pv 5) (pv 7) (fun _ _ => rfl)) (pe_dget (hu_of hr) (pv 4) (pv 8) (fun _ _ => rfl)))) (pe_dget (hu_of hr) (pv 5) (pv 8) (fun _ _ => rfl))))
  (pss_one (ps_ret (pe_op op_add (pe_ix ix_tup (pv 0) pe_int (fun _ _ => rfl)) (pv 9))))))))), ?_⟩
  refine ⟨_, rfl, a, p, rfl, hp, fun d H1 s1 hd => ?_⟩
  intro e he
  have s2 : Same H1 (upd H1 e (.dK (dictC (seatW s r c)))) := same_new he _
  obtain ⟨t, h1, o, h2, ho⟩ := (hp.same s1).same s2
  have hd2 := get_dC (s2 _ _ hd)
  have he2 := get_dC (H := upd H1 e (.dK (dictC (seatW s r c)))) upd_same
  refine ⟨_, rfl, _, rfl, _, rfl, upd_same, dictC (seatW s r c), rfl, (show 3 ≤ 15 by decide), ?_⟩
  rw [upd_upd]
  refine ⟨_, rfl, a, _, _, _, rfl, rfl, SqT.of h1, rfl, t, _, rfl, sqF h2, rfl, _, _, rfl, _, _, rfl, _, _, rfl, rfl, ?_⟩
  refine ⟨_, rfl, _, rfl, e, _, rfl, he2 p.o1, _, rfl, _, rfl, d, _, rfl, hd2 p.o2, _, _, rfl, rfl, .inr (ok.big p.o2), _, rfl, _, rfl, d, _, rfl, hd2 p.o3, _, _, rfl, rfl, .inr (ok.big p.o3), ?_⟩
  refine ⟨_, rfl, _, rfl, _, rfl, e, _, rfl, he2 p.o2, _, rfl, _, rfl, d, _, rfl, hd2 p.o3, _, _, rfl, rfl, .inr (ok.big p.o3), _, _, rfl, rfl, _, rfl, _, rfl, e, _, rfl, he2 p.o3, _, _, rfl, rfl, ?_⟩
  refine ⟨_, rfl, a, _, _, _, rfl, rfl, SqT.of h1, rfl, _, rfl, _, _, rfl, rfl, ?_⟩
  have z := q _ (s1.trans s2)
  rw [← p.num_eq] at z
  exact z

theorem ok_lorder (F : Fun K "_law_order" "_law_order" s_lorder f_lorder d_lorder) (T : Txt K mg f_how_many f_printed f_number_at f_seat_of f_pile f_pile_seat f_pile_place f_stack_at f_stack_place f_is_rising f_lfeed f_ldraw f_lalike f_lorder f_lprinting f_lsizes f_lnumber f_lheard_at f_lheard_place f_lpiles f_lnumbers f_lbeyond f_lwhole f_lgreat f_law)
    (F_ldraw : Fun K "_law_draw" "_law_draw" s_ldraw f_ldraw d_ldraw) (b_ldraw : Binds K d_ldraw ["_law_feed_here", "_law_many"] []) (G_ldraw : FnOk P w K mg base CX0 (1) f_ldraw d_ldraw ["_law_feed_here", "_law_many"] spDraw) :
    FnOk P w K mg base CX0 (2) f_lorder d_lorder ["_law_feed_here"] spOrder := by
  refine F.ok sc_lorder (fun vs H Q E h => ?_) (fun cdv A outer s H vs Q E hr h => ?_)

  · obtain ⟨f, c, n, rfl, _⟩ := h
    rfl
  obtain ⟨f, c, n, rfl, hf, hn, q⟩ := h
  refine ⟨_, (pss_cons (ps_set (i := 1) sc_lorder.nd rfl (.inl rfl) (pe_lst (pa_cons pe_str (pa_cons pe_str (pa_cons pe_str pa_nil)))))
  (pss_cons (ps_set (i := 2) sc_lorder.nd rfl (.inl rfl) (pe_bm PySem.F.plainAttrs_list PySem.F.slot_list_pop PySem.F.type_list_pop mt_popAt (pv 1) (pa_cons (pe_call G_ldraw hr (by rfl) T.m_ldraw F_ldraw.kp b_ldraw .nil pass0 (pa_cons (pv 0) (pa_cons pe_int pa_nil))) pa_nil)))
  (pss_cons (ps_set (i := 3) sc_lorder.nd rfl (.inl rfl) (pe_bm PySem.F.plainAttrs_list PySem.F.slot_list_pop PySem.F.type_list_pop mt_popAt (pv 1) (pa_cons (pe_call G_ldraw hr (by rfl) T.m_ldraw F_ldraw.kp b_ldraw .nil pass0 (pa_cons (pv 0) (pa_cons pe_int pa_nil))) pa_nil)))
  (pss_one (ps_ret (pe_tupF (pa_cons (pv 2) (pa_cons (pv 3) (pa_cons (pe_ix ix_list (pv 1) pe_int (fun _ _ => rfl)) pa_nil))))))))), ?_⟩
  refine ⟨(show 3 ≤ sizeLine by decide), fun l hl => ?_⟩
  have ne := hf.ne hl
  refine ⟨_, rfl, .inl ⟨rfl, _, SqL.of upd_same⟩, _, rfl, f, c, 3, n, rfl, hf.new hl, by omega, by decide, by decide, fun d H1 d0 d1 hf1 b1 n1 => ?_⟩
  have e1 := b1 l _ ne.1 upd_same
  have k1 : But f H H1 := (But.new hl).trans b1
  have d3 : d = 0 ∨ d = 1 ∨ d = 2 := by omega
  rcases d3 with rfl | rfl | rfl
  all_goals
    refine ⟨l, _, _, _, _, rfl, rfl, e1, by decide, by decide, rfl, rfl, ?_⟩
    refine ⟨_, rfl, .inl ⟨rfl, _, SqL.of upd_same⟩, _, rfl, f, c, 2, n + 1, rfl, hf1.upd ne, by omega, by decide, by decide, fun e H2 g0 g1 hf2 b2 n2 => ?_⟩
    have e2 := b2 l _ ne.1 upd_same
    have d4 : e = 0 ∨ e = 1 := by omega
    rcases d4 with rfl | rfl
    all_goals
      refine ⟨l, _, _, _, _, rfl, rfl, e2, by decide, by decide, rfl, rfl, ?_⟩
      refine ⟨_, rfl, _, rfl, _, rfl, l, _, _, _, rfl, rfl, SqL.of upd_same, rfl, (show 3 ≤ sizeLine by decide), fun t o ht ho => ?_⟩
      have k2 : But f H H2 := (k1.mut hl).trans b2
      have ft : H t = none := k2.back hf2 (free_of ht)
      first
        | exact q t o .sh .ro .co _ ho (by decide) (by decide) (by decide) (((hf2.upd ne).new ht).mono (by omega)) ((k2.mut hl).trans (But.new ht)) ft upd_same
        | exact q t o .sh .co .ro _ ho (by decide) (by decide) (by decide) (((hf2.upd ne).new ht).mono (by omega)) ((k2.mut hl).trans (But.new ht)) ft upd_same
        | exact q t o .ro .sh .co _ ho (by decide) (by decide) (by decide) (((hf2.upd ne).new ht).mono (by omega)) ((k2.mut hl).trans (But.new ht)) ft upd_same
        | exact q t o .ro .co .sh _ ho (by decide) (by decide) (by decide) (((hf2.upd ne).new ht).mono (by omega)) ((k2.mut hl).trans (But.new ht)) ft upd_same
        | exact q t o .co .sh .ro _ ho (by decide) (by decide) (by decide) (((hf2.upd ne).new ht).mono (by omega)) ((k2.mut hl).trans (But.new ht)) ft upd_same
        | exact q t o .co .ro .sh _ ho (by decide) (by decide) (by decide) (((hf2.upd ne).new ht).mono (by omega)) ((k2.mut hl).trans (But.new ht)) ft upd_same

theorem ok_lprinting (F : Fun K "_law_printing" "_law_printing" s_lprinting f_lprinting d_lprinting) (T : Txt K mg f_how_many f_printed f_number_at f_seat_of f_pile f_pile_seat f_pile_place f_stack_at f_stack_place f_is_rising f_lfeed f_ldraw f_lalike f_lorder f_lprinting f_lsizes f_lnumber f_lheard_at f_lheard_place f_lpiles f_lnumbers f_lbeyond f_lwhole f_lgreat f_law)
    (F_ldraw : Fun K "_law_draw" "_law_draw" s_ldraw f_ldraw d_ldraw) (b_ldraw : Binds K d_ldraw ["_law_feed_here", "_law_many"] []) (G_ldraw : FnOk P w K mg base CX0 (2) f_ldraw d_ldraw ["_law_feed_here", "_law_many"] spDraw)
    (F_lorder : Fun K "_law_order" "_law_order" s_lorder f_lorder d_lorder) (b_lorder : Binds K d_lorder ["_law_feed_here"] []) (G_lorder : FnOk P w K mg base CX0 (2) f_lorder d_lorder ["_law_feed_here"] spOrder) :
    FnOk P w K mg base CX0 (3) f_lprinting d_lprinting ["_law_feed_here", "_law_small"] spPrint := by
  refine F.ok sc_lprinting (fun vs H Q E h => ?_) (fun cdv A outer s H vs Q E hr h => ?_)

  · obtain ⟨f, c, n, k, rfl, _⟩ := h
    rfl
  obtain ⟨f, c, n, k, rfl, hf, hn, hk, q⟩ := h
  refine ⟨_, (pss_cons (ps_par (by rfl) sc_lprinting.nd (i := 2) (j := 3) rfl rfl (by decide) rfl rfl (pa_cons (pe_op op_add pe_int (pe_call G_ldraw hr (by rfl) T.m_ldraw F_ldraw.kp b_ldraw .nil pass0 (pa_cons (pv 0) (pa_cons (pe_ix ix_list (pe_lst (pa_cons pe_int (pa_cons pe_int pa_nil))) (pv 1) (fun _ _ => rfl)) pa_nil)))) (pa_cons (pe_op op_add pe_int (pe_call G_ldraw hr (by rfl) T.m_ldraw F_ldraw.kp b_ldraw .nil pass0 (pa_cons (pv 0) (pa_cons (pe_ix ix_list (pe_lst (pa_cons pe_int (pa_cons pe_int pa_nil))) (pv 1) (fun _ _ => rfl)) pa_nil)))) pa_nil)) (by rfl))
  (pss_cons (ps_set (i := 4) sc_lprinting.nd rfl (.inl rfl) (pe_op op_add pe_int (pe_call G_ldraw hr (by rfl) T.m_ldraw F_ldraw.kp b_ldraw .nil pass0 (pa_cons (pv 0) (pa_cons (pe_ix ix_list (pe_lst (pa_cons (pe_op op_pow pe_int pe_int) (pa_cons pe_int pa_nil))) (pv 1) (fun _ _ => rfl)) pa_nil)))))
  (pss_cons (ps_set (i := 5) sc_lprinting.nd rfl (.inl rfl) (pe_call G_ldraw hr (by rfl) T.m_ldraw F_ldraw.kp b_ldraw .nil pass0 (pa_cons (pv 0) (pa_cons pe_int pa_nil))))
  (pss_cons (ps_set (i := 6) sc_lprinting.nd rfl (.inl rfl) (pe_ix ix_list (pe_lst (pa_cons pe_int (pa_cons (pe_call G_ldraw hr (by rfl) T.m_ldraw F_ldraw.kp b_ldraw .nil pass0 (pa_cons (pv 0) (pa_cons pe_int pa_nil))) (pa_cons (pe_call G_ldraw hr (by rfl) T.m_ldraw F_ldraw.kp b_ldraw .nil pass0 (pa_cons (pv 0) (pa_cons (pe_op op_pow pe_int pe_int) pa_nil))) (pa_cons (pe_op op_sub (pe_op op_pow pe_int pe_int) (pe_op op_mul (pe_op op_mul (pv 2) (pv 3)) (pv 4))) pa_nil))))) (pv 5) (fun _ _ => rfl)))
  (pss_cons (ps_set (i := 7) sc_lprinting.nd rfl (.inl rfl) (pe_op op_repS (pe_ix ix_str pe_str (pe_call G_ldraw hr (by rfl) T.m_ldraw F_ldraw.kp b_ldraw .nil pass0 (pa_cons (pv 0) (pa_cons pe_int pa_nil))) (fun _ _ => rfl)) (pe_op op_add pe_int (pe_call G_ldraw hr (by rfl) T.m_ldraw F_ldraw.kp b_ldraw .nil pass0 (pa_cons (pv 0) (pa_cons pe_int pa_nil))))))
  (pss_one (ps_ret (pe_tup (pa_cons (pv 7) (pa_cons (pv 6) (pa_cons (pv 2) (pa_cons (pv 3) (pa_cons (pv 4) (pa_cons (pe_call G_lorder hr (by rfl) T.m_lorder F_lorder.kp b_lorder .nil pass0 (pa_cons (pv 0) pa_nil)) pa_nil)))))))))))))), ?_⟩
  have two : 2 ≤ sizeLine := by decide
  have pick : ∃ mc ms : Int, 0 < mc ∧ mc ≤ 12 ∧ 0 < ms ∧ ms ≤ 1000000 ∧ (k = 1 → mc ≤ 4 ∧ ms ≤ 6) ∧ atI [V.int 12, .int 4] k = some (.int mc) ∧ atI [V.int (10 ^ 6), .int 6] k = some (.int ms) := by
    rcases hk with rfl | rfl
    · exact ⟨12, 1000000, by decide, by decide, by decide, by decide, by decide, rfl, rfl⟩
    · exact ⟨4, 6, by decide, by decide, by decide, by decide, by decide, rfl, rfl⟩
  obtain ⟨mc, ms, mc0, mc1, ms0, ms1, mk, ac, as⟩ := pick
  refine ⟨_, rfl, two, fun p1 hp1 => ⟨_, rfl, p1, _, _, _, rfl, rfl, SqL.of upd_same, ac, f, c, mc, n, rfl, hf.new hp1, by omega, mc0, by omega, fun d1 H1 d10 d11 hf1 b1 _ => ?_⟩⟩
  have B1 : But f H H1 := (But.new hp1).trans b1
  refine ⟨_, _, rfl, rfl, _, rfl, two, fun p2 hp2 => ⟨_, rfl, p2, _, _, _, rfl, rfl, SqL.of upd_same, ac, f, c, mc, n + 1, rfl, hf1.new hp2, by omega, mc0, by omega, fun d2 H2 d20 d21 hf2 b2 _ => ?_⟩⟩
  have B2 : But f H H2 := B1.trans ((But.new hp2).trans b2)
  refine ⟨_, _, rfl, rfl, _, _, rfl, ?_⟩
  refine ⟨_, rfl, _, _, rfl, rfl, ⟨by decide, by decide, by decide⟩, two, fun p3 hp3 => ⟨_, rfl, p3, _, _, _, rfl, rfl, SqL.of upd_same, as, f, c, ms, n + 1 + 1, rfl, hf2.new hp3, by omega, ms0, by omega, fun d3 H3 d30 d31 hf3 b3 _ => ?_⟩⟩
  have B3 : But f H H3 := B2.trans ((But.new hp3).trans b3)
  refine ⟨_, _, rfl, rfl, ?_⟩
  refine ⟨_, rfl, f, c, 4, n + 1 + 1 + 1, rfl, hf3, by omega, by decide, by decide, fun d4 H4 d40 d41 hf4 b4 _ => ?_⟩
  have B4 : But f H H4 := B3.trans b4
  refine ⟨_, rfl, f, c, 1000, n + 1 + 1 + 1 + 1, rfl, hf4, by omega, by decide, by decide, fun d5 H5 d50 d51 hf5 b5 _ => ?_⟩
  have B5 : But f H H5 := B4.trans b5
  refine ⟨_, rfl, _, _, rfl, rfl, ⟨by decide, by decide, by decide⟩, f, c, 10 ^ 8, n + 1 + 1 + 1 + 1 + 1, rfl, hf5, by omega, by decide, by decide, fun d6 H6 d60 d61 hf6 b6 _ => ?_⟩
  have B6 : But f H H6 := B5.trans b6
  obtain ⟨x0, x1⟩ := prod_bound (c := 1 + d1) (r := 1 + d2) (s := 1 + d3) (by omega) (by omega) (by omega) (by omega) (by omega) (by omega)
  refine ⟨_, _, rfl, rfl, ⟨by decide, by decide, by decide⟩, _, rfl, _, rfl, _, _, rfl, rfl, .inl ⟨by omega, by omega⟩, _, rfl, _, _, rfl, rfl, .inr ⟨by omega, by omega⟩, _, _, rfl, rfl, (show 4 ≤ sizeLine by decide), fun p4 hp4 => ?_⟩
  have way : ∃ fst : Int, 0 ≤ fst ∧ fst + (1 + d1) * (1 + d2) * (1 + d3) ≤ 1000000000 ∧ atI [V.int 0, .int d5, .int d6, .int (10 ^ 9 - (1 + d1) * (1 + d2) * (1 + d3))] d4 = some (.int fst) := by
    have w4 : d4 = 0 ∨ d4 = 1 ∨ d4 = 2 ∨ d4 = 3 := by omega
    rcases w4 with rfl | rfl | rfl | rfl
    · exact ⟨0, by omega, by omega, rfl⟩
    · exact ⟨d5, by omega, by omega, rfl⟩
    · exact ⟨d6, by omega, by omega, rfl⟩
    · exact ⟨10 ^ 9 - (1 + d1) * (1 + d2) * (1 + d3), by omega, by omega, rfl⟩
  obtain ⟨fst, f0, f1, af⟩ := way
  refine ⟨_, rfl, p4, _, _, _, rfl, rfl, SqL.of upd_same, af, ?_⟩
  refine ⟨_, rfl, f, c, 26, n + 1 + 1 + 1 + 1 + 1 + 1, rfl, hf6.new hp4, by omega, by decide, by decide, fun d7 H7 d70 d71 hf7 b7 _ => ?_⟩
  have B7 : But f H H7 := B6.trans ((But.new hp4).trans b7)
  obtain ⟨ch, hch, hch2⟩ := abc_at d7 d70 d71
  refine ⟨abc, _, ch, rfl, rfl, (by decide +kernel), hch, ?_⟩
  refine ⟨_, rfl, f, c, 8, n + 1 + 1 + 1 + 1 + 1 + 1 + 1, rfl, hf7, by omega, by decide, by decide, fun d8 H8 d80 d81 hf8 b8 _ => ?_⟩
  have B8 : But f H H8 := B7.trans b8
  refine ⟨_, _, rfl, rfl, _, _, rfl, rfl, mul1_ok ch d8 d80 (by omega), ?_⟩
  refine ⟨_, rfl, _, rfl, _, rfl, _, rfl, _, rfl, _, rfl, f, c, n + 1 + 1 + 1 + 1 + 1 + 1 + 1 + 1, rfl, hf8, by omega, fun t o u1 u2 u3 H9 ho e12 e13 e23 hf9 b9 ft ht => ?_⟩
  refine ⟨(show 6 ≤ sizeLine by decide), fun a ha => ?_⟩
  have B9 : But f H H9 := B8.trans b9
  refine q a ⟨Txt.mul ⟨#[ch]⟩ (1 + d8), fst, 1 + d1, 1 + d2, 1 + d3, u1, u2, u3⟩ _ ((hf9.new ha).mono (by omega)) (B9.trans (But.new ha)) ⟨t, upd_same, o, (upd_ne (ne_of_none ht ha)).trans ht, ho⟩ ?_ ?_
  · exact ⟨mul1_len ch d8 8 (by omega), f0, by dsimp only; omega, by dsimp only; omega, by dsimp only; omega, by dsimp only; omega, by dsimp only; omega, by dsimp only; omega, f1, e12, e13, e23, mul_chr _ hch2⟩
  · intro k1
    have := mk k1
    dsimp only
    omega

theorem ok_lalike {k n : Nat} (F : Fun K "_law_alike" "_law_alike" s_lalike f_lalike d_lalike) (T : Txt K mg f_how_many f_printed f_number_at f_seat_of f_pile f_pile_seat f_pile_place f_stack_at f_stack_place f_is_rising f_lfeed f_ldraw f_lalike f_lorder f_lprinting f_lsizes f_lnumber f_lheard_at f_lheard_place f_lpiles f_lnumbers f_lbeyond f_lwhole f_lgreat f_law)
    (F_lalike : Fun K "_law_alike" "_law_alike" s_lalike f_lalike d_lalike) (b_lalike : Binds K d_lalike ["_law_found", "_law_due"] []) (G_lalike : FnOk P w K mg base CX0 (k + 1) f_lalike d_lalike ["_law_found", "_law_due"] (spAlike K n)) :
    FnOk P w K mg base CX0 (k + 2) f_lalike d_lalike ["_law_found", "_law_due"] (spAlike K (n + 1)) := by
  refine F.ok sc_lalike (fun vs H Q E h => ?_) (fun cdv A outer s H vs Q E hr h => ?_)

  · obtain ⟨x, y, d, rfl, _⟩ := h
    rfl
  obtain ⟨x, y, d, rfl, hx, hy, hn, q⟩ := h
  refine ⟨_, (pss_cons (ps_if (pt_val (pe_callB call_isiT (by rfl) T.isinstance (by decide +kernel) (pa_cons (pv 1) (pa_cons (pe_tup (pa_cons (pe_bltn (v := .ty "tuple") (by rfl) T.tuple (by decide +kernel) rfl) (pa_cons (pe_bltn (v := .ty "list") (by rfl) T.list (by decide +kernel) rfl) pa_nil))) pa_nil))))
  (pss_cons (ps_if (PW.pt (pw_or (pt_cmpR op_ne (pe_callB call_isi (by rfl) T.isinstance (by decide +kernel) (pa_cons (pv 0) (pa_cons (pe_bltn (v := .ty "tuple") (by rfl) T.tuple (by decide +kernel) rfl) pa_nil))) (pe_callB call_isi (by rfl) T.isinstance (by decide +kernel) (pa_cons (pv 1) (pa_cons (pe_bltn (v := .ty "tuple") (by rfl) T.tuple (by decide +kernel) rfl) pa_nil))) (nomark _)) (pw_or1 (pt_cmpR op_ne (pe_callB call_isi (by rfl) T.isinstance (by decide +kernel) (pa_cons (pv 0) (pa_cons (pe_bltn (v := .ty "list") (by rfl) T.list (by decide +kernel) rfl) pa_nil))) (pe_callB call_isi (by rfl) T.isinstance (by decide +kernel) (pa_cons (pv 1) (pa_cons (pe_bltn (v := .ty "list") (by rfl) T.list (by decide +kernel) rfl) pa_nil))) (nomark _)))))
  (pss_one (ps_ret pe_bl))
  pss_nil)
  (pss_one (ps_ret (pe_and (pe_cmpR op_eq (pe_callB call_len_seq (by rfl) T.len (by decide +kernel) (pa_cons (pv 0) pa_nil)) (pe_callB call_len_seq (by rfl) T.len (by decide +kernel) (pa_cons (pv 1) pa_nil)) (nomark _)) (pe_one (pe_callB (cr_all rfl) (by rfl) T.all (by decide +kernel) (pa_cons (pe_lc (own := [("_law_one", 2), ("_law_other", 3)]) (g := (gTup K 2 (gCons (gName 2) (gCons (gName 3) gNil)))) (by rfl) sc_lalike.nd (RZ.pi_zipA (by rfl) T.zip (pa_cons (pv 0) (pa_cons (pv 1) pa_nil))) (blkOk_by (own := [("_law_one", 2), ("_law_other", 3)]) (N := ["_law_found", "_law_due", "_law_one", "_law_other"]) (sc := defScope s_lalike) (by decide +kernel)) (fun _ _ _ _ _ => (pg_tup rfl (pgs_cons (pg_name (i := 2) sc_lalike.nd rfl (.inl rfl)) (pgs_cons (pg_name (i := 3) sc_lalike.nd rfl (.inl rfl)) pgs_nil)))) (fun _ _ _ _ _ => pts_nil) (fun _ _ _ _ _ => (pe_call G_lalike hr (by rfl) T.m_lalike F_lalike.kp b_lalike .nil pass0 (pa_cons (pv 2) (pa_cons (pv 3) pa_nil))))) pa_nil)))))))
  pss_nil)
  (pss_cons (ps_if (pt_cmpR op_isN (pv 1) pe_non (nomark _))
  (pss_one (ps_ret (pe_cmpR op_isN (pv 0) pe_non (nomark _))))
  pss_nil)
  (pss_cons (ps_if (PW.pt (pw_or (pt_val (pe_callB call_isi (by rfl) T.isinstance (by decide +kernel) (pa_cons (pv 1) (pa_cons (pe_bltn (v := .ty "bool") (by rfl) T.bool (by decide +kernel) rfl) pa_nil)))) (pw_or1 (pt_val (pe_callB call_isi (by rfl) T.isinstance (by decide +kernel) (pa_cons (pv 1) (pa_cons (pe_bltn (v := .ty "str") (by rfl) T.str (by decide +kernel) rfl) pa_nil)))))))
  (pss_one (ps_ret (pe_and (pe_cmpR op_eq (pe_callB call_isi (by rfl) T.isinstance (by decide +kernel) (pa_cons (pv 0) (pa_cons (pe_bltn (v := .ty "bool") (by rfl) T.bool (by decide +kernel) rfl) pa_nil))) (pe_callB call_isi (by rfl) T.isinstance (by decide +kernel) (pa_cons (pv 1) (pa_cons (pe_bltn (v := .ty "bool") (by rfl) T.bool (by decide +kernel) rfl) pa_nil))) (nomark _)) (pe_and (pe_callB call_isiT (by rfl) T.isinstance (by decide +kernel) (pa_cons (pv 0) (pa_cons (pe_tup (pa_cons (pe_bltn (v := .ty "bool") (by rfl) T.bool (by decide +kernel) rfl) (pa_cons (pe_bltn (v := .ty "str") (by rfl) T.str (by decide +kernel) rfl) pa_nil))) pa_nil))) (pe_one (pe_cmpR op_eq (pv 0) (pv 1) (nomark _)))))))
  pss_nil)
  (pss_one (ps_ret (pe_and (pe_callB call_isi (by rfl) T.isinstance (by decide +kernel) (pa_cons (pv 0) (pa_cons (pe_bltn (v := .ty "int") (by rfl) T.int (by decide +kernel) rfl) pa_nil))) (pe_and (pe_not (pe_callB call_isi (by rfl) T.isinstance (by decide +kernel) (pa_cons (pv 0) (pa_cons (pe_bltn (v := .ty "bool") (by rfl) T.bool (by decide +kernel) rfl) pa_nil)))) (pe_one (pe_cmpR op_eq (pv 0) (pv 1) (nomark _)))))))))), ?_⟩
  cases hx with
  | @lst a xs ds s1 A1 =>
    obtain ⟨b, ys, rfl, s2, A2⟩ : ∃ b ys, y = .ref b ∧ SqL K H b ys ∧ DpAll K H ys ds := by
      cases hy with
      | lst s A => exact ⟨_, _, rfl, s, A⟩
    have nn : ∃ m, n = m + 1 ∧ ds.length ≤ 100000 ∧ ∀ e ∈ ds, Nice m e := by
      cases n with
      | zero => exact nomatch hn
      | succ m =>
        rcases hn with hn | ⟨es, he, h1, h2⟩
        · exact nomatch hn
        · rcases he with he | he <;> cases he
          exact ⟨m, rfl, h1, h2⟩
    obtain ⟨m, rfl, hl1, hall⟩ := nn
    have l1 := DpAll.len A1
    have l2 := DpAll.len A2
    have hlen : xs.length = ys.length := by omega
    refine ⟨_, rfl, (show 2 ≤ sizeLine by decide), fun tp htp => ?_⟩
    have S1 : Same H (upd H tp (.tup [.ty "tuple", .ty "list"])) := same_new htp _
    have tyx := ty_of (Dp.sm S1 (.lst s1 A1 : Dp K H (.ref a) (.list ds)))
    have tyy := ty_of (Dp.sm S1 (.lst s2 A2 : Dp K H (.ref b) (.list ds)))
    refine ⟨_, tp, _, _, _, _, rfl, upd_same, .cons (.ty _) (.cons (.ty _) .nil), tyy, kit2 k_list_tuple k_list_list, true, rfl, iteT ?_⟩
    refine ⟨_, rfl, _, _, _, _, _, rfl, .ty _, tyx, k_list_tuple, _, rfl, _, _, _, _, _, rfl, .ty _, tyy, k_list_tuple, rfl, _, rfl, iteF ?_⟩
    refine ⟨_, rfl, _, _, _, _, _, rfl, .ty _, tyx, k_list_list, _, rfl, _, _, _, _, _, rfl, .ty _, tyy, k_list_list, rfl, _, rfl, iteF ?_⟩
    have q1 := SqL.sm S1 s1
    have q2 := SqL.sm S1 s2
    refine ⟨_, rfl, a, xs, rfl, .inl q1, _, rfl, b, ys, rfl, .inl q2, rfl, true, congrArg V.bl (decide_eq_true (congrArg V.int (congrArg Int.ofNat hlen))), iteT ?_⟩
    refine ⟨_, rfl, _, rfl, a, b, xs, ys, rfl, .inl ⟨q1, q2, fun D hD => ?_⟩⟩
    refine lc_it (L2.walk_zip (n := xs.length) (by omega)) (fun i H' => Same (upd H tp (.tup [.ty "tuple", .ty "list"])) H' ∧ H' D = some (.lst ((List.replicate i true).map V.bl))) ⟨same_new hD _, upd_same⟩ (fun i H' _ h => ⟨SqL.sm h.1 q1, SqL.sm h.1 q2⟩) ?_ ?_
    · rintro i v H1 H2 hi ⟨S2, hD2⟩ ⟨T1, u1, u2, rfl, hT, rfl, e1, e2⟩
      obtain ⟨d1, hd1, D1⟩ := DpAll.get A1 e1
      obtain ⟨d2, hd2, D2⟩ := DpAll.get A2 e2
      rw [hd1] at hd2
      cases hd2
      have S3 : Same H (upd H1 T1 (.tup [u1, u2])) := S1.trans (S2.trans (same_new hT _))
      refine ⟨T1, [u1, u2], rfl, SqT.of upd_same, rfl, _, _, rfl, _, _, rfl, rfl, rfl, ?_⟩
      refine ⟨_, rfl, _, rfl, u1, u2, d1, rfl, Dp.sm S3 D1, Dp.sm S3 D2, hall d1 (List.mem_of_getElem? hd1), fun H3 S4 => ?_⟩
      have hD3 : H3 D = some (.lst ((List.replicate i true).map V.bl)) := S4 _ _ ((upd_ne (ne_of_none hD2 hT)).trans hD2)
      refine ⟨_, hD3, ?_, fun z o hz => ?_, ?_⟩
      · rw [List.length_map, List.length_replicate]
        exact Nat.lt_of_lt_of_le hi (Nat.le_trans (by omega) (show 100000 ≤ sizeLine by decide))
      · have zD : z ≠ D := ne_of_none hz hD
        rw [upd_ne zD]
        exact S4 _ _ ((upd_ne (ne_of_none (S2 _ _ hz) hT)).trans (S2 _ _ hz))
      · rw [upd_same, List.replicate_succ', List.map_append]
        rfl
    · rintro H2 ⟨S2, hD2⟩
      refine ⟨D, _, rfl, SqL.of hD2, ?_⟩
      have e : (List.replicate xs.length true).all id = true := by
        rw [List.all_eq_true]
        intro z hz
        rw [List.eq_of_mem_replicate hz]
        rfl
      rw [e]
      exact q _ (S1.trans S2)
  | @tup a xs ds s1 A1 =>
    obtain ⟨b, ys, rfl, s2, A2⟩ : ∃ b ys, y = .ref b ∧ SqT K H b ys ∧ DpAll K H ys ds := by
      cases hy with
      | tup s A => exact ⟨_, _, rfl, s, A⟩
    have nn : ∃ m, n = m + 1 ∧ ds.length ≤ 100000 ∧ ∀ e ∈ ds, Nice m e := by
      cases n with
      | zero => exact nomatch hn
      | succ m =>
        rcases hn with hn | ⟨es, he, h1, h2⟩
        · exact nomatch hn
        · rcases he with he | he <;> cases he
          exact ⟨m, rfl, h1, h2⟩
    obtain ⟨m, rfl, hl1, hall⟩ := nn
    have l1 := DpAll.len A1
    have l2 := DpAll.len A2
    have hlen : xs.length = ys.length := by omega
    refine ⟨_, rfl, (show 2 ≤ sizeLine by decide), fun tp htp => ?_⟩
    have S1 : Same H (upd H tp (.tup [.ty "tuple", .ty "list"])) := same_new htp _
    have tyx := ty_of (Dp.sm S1 (.tup s1 A1 : Dp K H (.ref a) (.tuple ds)))
    have tyy := ty_of (Dp.sm S1 (.tup s2 A2 : Dp K H (.ref b) (.tuple ds)))
    refine ⟨_, tp, _, _, _, _, rfl, upd_same, .cons (.ty _) (.cons (.ty _) .nil), tyy, kit2 k_tuple_tuple k_tuple_list, true, rfl, iteT ?_⟩
    refine ⟨_, rfl, _, _, _, _, _, rfl, .ty _, tyx, k_tuple_tuple, _, rfl, _, _, _, _, _, rfl, .ty _, tyy, k_tuple_tuple, rfl, _, rfl, iteF ?_⟩
    refine ⟨_, rfl, _, _, _, _, _, rfl, .ty _, tyx, k_tuple_list, _, rfl, _, _, _, _, _, rfl, .ty _, tyy, k_tuple_list, rfl, _, rfl, iteF ?_⟩
    have q1 := SqT.sm S1 s1
    have q2 := SqT.sm S1 s2
    refine ⟨_, rfl, a, xs, rfl, .inr q1, _, rfl, b, ys, rfl, .inr q2, rfl, true, congrArg V.bl (decide_eq_true (congrArg V.int (congrArg Int.ofNat hlen))), iteT ?_⟩
    refine ⟨_, rfl, _, rfl, a, b, xs, ys, rfl, .inr ⟨q1, q2, fun D hD => ?_⟩⟩
    refine lc_it (walk_zt hlen) (fun i H' => Same (upd H tp (.tup [.ty "tuple", .ty "list"])) H' ∧ H' D = some (.lst ((List.replicate i true).map V.bl))) ⟨same_new hD _, upd_same⟩ (fun i H' _ h => ⟨SqT.sm h.1 q1, SqT.sm h.1 q2⟩) ?_ ?_
    · rintro i v H1 H2 hi ⟨S2, hD2⟩ ⟨T1, u1, u2, rfl, hT, rfl, e1, e2⟩
      obtain ⟨d1, hd1, D1⟩ := DpAll.get A1 e1
      obtain ⟨d2, hd2, D2⟩ := DpAll.get A2 e2
      rw [hd1] at hd2
      cases hd2
      have S3 : Same H (upd H1 T1 (.tup [u1, u2])) := S1.trans (S2.trans (same_new hT _))
      refine ⟨T1, [u1, u2], rfl, SqT.of upd_same, rfl, _, _, rfl, _, _, rfl, rfl, rfl, ?_⟩
      refine ⟨_, rfl, _, rfl, u1, u2, d1, rfl, Dp.sm S3 D1, Dp.sm S3 D2, hall d1 (List.mem_of_getElem? hd1), fun H3 S4 => ?_⟩
      have hD3 : H3 D = some (.lst ((List.replicate i true).map V.bl)) := S4 _ _ ((upd_ne (ne_of_none hD2 hT)).trans hD2)
      refine ⟨_, hD3, ?_, fun z o hz => ?_, ?_⟩
      · rw [List.length_map, List.length_replicate]
        exact Nat.lt_of_lt_of_le hi (Nat.le_trans (by omega) (show 100000 ≤ sizeLine by decide))
      · have zD : z ≠ D := ne_of_none hz hD
        rw [upd_ne zD]
        exact S4 _ _ ((upd_ne (ne_of_none (S2 _ _ hz) hT)).trans (S2 _ _ hz))
      · rw [upd_same, List.replicate_succ', List.map_append]
        rfl
    · rintro H2 ⟨S2, hD2⟩
      refine ⟨D, _, rfl, SqL.of hD2, ?_⟩
      have e : (List.replicate xs.length true).all id = true := by
        rw [List.all_eq_true]
        intro z hz
        rw [List.eq_of_mem_replicate hz]
        rfl
      rw [e]
      exact q _ (S1.trans S2)
  | non =>
    cases hy
    refine ⟨_, rfl, (show 2 ≤ sizeLine by decide), fun tp htp => ?_⟩
    have S1 : Same H (upd H tp (.tup [.ty "tuple", .ty "list"])) := same_new htp _
    refine ⟨_, tp, _, _, _, _, rfl, upd_same, .cons (.ty _) (.cons (.ty _) .nil), .base .non, kit2 k_NoneType_tuple k_NoneType_list, false, rfl, iteF ?_⟩
    refine ⟨_, rfl, rfl, _, rfl, iteT ?_⟩
    refine ⟨_, rfl, rfl, ?_⟩
    exact q _ S1
  | bl b =>
    cases hy
    refine ⟨_, rfl, (show 2 ≤ sizeLine by decide), fun tp htp => ?_⟩
    have S1 : Same H (upd H tp (.tup [.ty "tuple", .ty "list"])) := same_new htp _
    refine ⟨_, tp, _, _, _, _, rfl, upd_same, .cons (.ty _) (.cons (.ty _) .nil), .base (.bl b), kit2 k_bool_tuple k_bool_list, false, rfl, iteF ?_⟩
    refine ⟨_, rfl, rfl, _, rfl, iteF ?_⟩
    refine ⟨_, rfl, _, _, _, _, _, rfl, .ty _, .base (.bl b), k_bool_bool, true, rfl, iteT ?_⟩
    refine ⟨_, rfl, _, _, _, _, _, rfl, .ty _, .base (.bl b), k_bool_bool, _, rfl, _, _, _, _, _, rfl, .ty _, .base (.bl b), k_bool_bool, rfl, true, rfl, iteT ?_⟩
    refine ⟨_, rfl, (show 2 ≤ sizeLine by decide), fun tq htq => ?_⟩
    refine ⟨_, tq, _, _, _, _, rfl, upd_same, .cons (.ty _) (.cons (.ty _) .nil), .base (.bl b), kit2 k_bool_bool k_bool_str, true, rfl, iteT ?_⟩
    refine ⟨_, rfl, _, rfl, (by cases b <;> rfl), ?_⟩
    rw [decide_eq_true rfl]
    exact q _ (S1.trans (same_new htq _))
  | str b =>
    cases hy
    refine ⟨_, rfl, (show 2 ≤ sizeLine by decide), fun tp htp => ?_⟩
    have S1 : Same H (upd H tp (.tup [.ty "tuple", .ty "list"])) := same_new htp _
    refine ⟨_, tp, _, _, _, _, rfl, upd_same, .cons (.ty _) (.cons (.ty _) .nil), .base (.str b), kit2 k_str_tuple k_str_list, false, rfl, iteF ?_⟩
    refine ⟨_, rfl, rfl, _, rfl, iteF ?_⟩
    refine ⟨_, rfl, _, _, _, _, _, rfl, .ty _, .base (.str b), k_str_bool, false, rfl, iteF ?_⟩
    refine ⟨_, rfl, _, _, _, _, _, rfl, .ty _, .base (.str b), k_str_str, true, rfl, iteT ?_⟩
    refine ⟨_, rfl, _, _, _, _, _, rfl, .ty _, .base (.str b), k_str_bool, _, rfl, _, _, _, _, _, rfl, .ty _, .base (.str b), k_str_bool, rfl, true, rfl, iteT ?_⟩
    refine ⟨_, rfl, (show 2 ≤ sizeLine by decide), fun tq htq => ?_⟩
    refine ⟨_, tq, _, _, _, _, rfl, upd_same, .cons (.ty _) (.cons (.ty _) .nil), .base (.str b), kit2 k_str_bool k_str_str, true, rfl, iteT ?_⟩
    refine ⟨_, rfl, _, rfl, rfl, ?_⟩
    rw [decide_eq_true rfl]
    exact q _ (S1.trans (same_new htq _))
  | int b =>
    cases hy
    refine ⟨_, rfl, (show 2 ≤ sizeLine by decide), fun tp htp => ?_⟩
    have S1 : Same H (upd H tp (.tup [.ty "tuple", .ty "list"])) := same_new htp _
    refine ⟨_, tp, _, _, _, _, rfl, upd_same, .cons (.ty _) (.cons (.ty _) .nil), .base (.int b), kit2 k_int_tuple k_int_list, false, rfl, iteF ?_⟩
    refine ⟨_, rfl, rfl, _, rfl, iteF ?_⟩
    refine ⟨_, rfl, _, _, _, _, _, rfl, .ty _, .base (.int b), k_int_bool, false, rfl, iteF ?_⟩
    refine ⟨_, rfl, _, _, _, _, _, rfl, .ty _, .base (.int b), k_int_str, false, rfl, iteF ?_⟩
    refine ⟨_, rfl, _, _, _, _, _, rfl, .ty _, .base (.int b), k_int_int, true, rfl, iteT ?_⟩
    refine ⟨_, rfl, _, _, _, _, _, rfl, .ty _, .base (.int b), k_int_bool, false, rfl, true, rfl, iteT ?_⟩
    refine ⟨_, rfl, _, rfl, rfl, ?_⟩
    rw [decide_eq_true rfl]
    exact q _ S1

theorem ok_printed (F : Fun K "printed" "printed" s_printed f_printed d_printed) (T : Txt K mg f_how_many f_printed f_number_at f_seat_of f_pile f_pile_seat f_pile_place f_stack_at f_stack_place f_is_rising f_lfeed f_ldraw f_lalike f_lorder f_lprinting f_lsizes f_lnumber f_lheard_at f_lheard_place f_lpiles f_lnumbers f_lbeyond f_lwhole f_lgreat f_law) :
    FnOk P w K mg base CX0 (1) f_printed d_printed ["printing"] spPrinted := by
  refine F.ok sc_printed (fun vs H Q E h => ?_) (fun cdv A outer s H vs Q E hr h => ?_)

  · obtain ⟨a, p, rfl, _⟩ := h
    rfl
  obtain ⟨a, p, rfl, ⟨t, h1, o, h2, ho⟩, ok, q⟩ := h
  refine ⟨_, (pss_cons (ps_asg (pv 0) (pg_tup rfl (pgs_cons (pg_name (i := 1) sc_printed.nd rfl (.inl rfl)) (pgs_cons (pg_name (i := 2) sc_printed.nd rfl (.inl rfl)) (pgs_cons (pg_name (i := 3) sc_printed.nd rfl (.inl rfl)) (pgs_cons (pg_name (i := 4) sc_printed.nd rfl (.inl rfl)) (pgs_cons (pg_name (i := 5) sc_printed.nd rfl (.inl rfl)) (pgs_cons (pg_name (i := 6) sc_printed.nd rfl (.inl rfl)) pgs_nil))))))))
  (pss_one (ps_ret (pe_tup (pa_cons (pv 1) (pa_cons (pv 2) (pa_cons (pe_op op_add (pv 2) (pe_op op_mul (pe_op op_mul (pv 3) (pv 4)) (pv 5))) pa_nil))))))), ?_⟩
  have o1 := ok.c1; have o2 := ok.c2; have o3 := ok.r1; have o4 := ok.r2; have o5 := ok.s1; have o6 := ok.s2
  refine ⟨_, rfl, a, _, rfl, SqT.of h1, rfl, _, _, rfl, _, _, rfl, _, _, rfl, _, _, rfl, _, _, rfl, _, _, rfl, rfl, ?_⟩
  refine ⟨_, rfl, _, rfl, _, rfl, _, rfl, _, rfl, _, _, rfl, rfl, .inr ⟨by omega, by omega⟩, _, rfl, _, _, rfl, rfl, .inr ⟨by omega, by omega⟩, _, _, rfl, rfl, (show 3 ≤ sizeLine by decide), fun t ht => q t _ (same_new ht _) ht upd_same⟩

theorem ok_seat_of (F : Fun K "seat_of" "seat_of" s_seat_of f_seat_of d_seat_of) (T : Txt K mg f_how_many f_printed f_number_at f_seat_of f_pile f_pile_seat f_pile_place f_stack_at f_stack_place f_is_rising f_lfeed f_ldraw f_lalike f_lorder f_lprinting f_lsizes f_lnumber f_lheard_at f_lheard_place f_lpiles f_lnumbers f_lbeyond f_lwhole f_lgreat f_law)
    (F_printed : Fun K "printed" "printed" s_printed f_printed d_printed) (b_printed : Binds K d_printed ["printing"] []) (G_printed : FnOk P w K mg base CX0 (2) f_printed d_printed ["printing"] spPrinted)
    (F_how_many : Fun K "how_many" "how_many" s_how_many f_how_many d_how_many) (b_how_many : Binds K d_how_many ["printing"] []) (G_how_many : FnOk P w K mg base CX0 (2) f_how_many d_how_many ["printing"] (spHow dictW)) {d_NoNumber : FuncData} (G_NoNumber : FnOk P w K mg base CX0 1 (He.ma K (He.ga K "NoNumber") "__init__") d_NoNumber ["self", "number"] (spIn (He.ga K "NoNumber") "number")) (b_NoNumber : Binds K d_NoNumber ["self", "number"] []) :
    FnOk P w K mg base (L2.CX P w) (3) f_seat_of d_seat_of ["printing", "number"] (spSeat (He.ga K "NoNumber")) := by
  refine F.okX sc_seat_of (fun vs H Q E h => ?_) (fun cdv A outer s H vs Q E hr h => ?_)

  · obtain ⟨a, p, n, rfl, _⟩ := h
    rfl
  obtain ⟨a, p, n, rfl, hp, ok, q, e⟩ := h
  refine ⟨_, (pss_cons (ps_asg (pe_call G_printed hr (by rfl) T.m_printed F_printed.kp b_printed .nil pass0 (pa_cons (pv 0) pa_nil)) (pg_tup rfl (pgs_cons (pg_name (i := 2) sc_seat_of.nd rfl (.inl rfl)) (pgs_cons (pg_name (i := 3) sc_seat_of.nd rfl (.inl rfl)) (pgs_cons (pg_name (i := 4) sc_seat_of.nd rfl (.inl rfl)) pgs_nil)))))
  (pss_cons (ps_if (PW.pt (pw_or (pt_cmpR op_lt (pv 1) (pv 3) (nomark _)) (pw_or1 (pt_cmpR op_ge (pv 1) (pv 4) (nomark _)))))
  (pss_one (ps_raise rfl (takes_of rfl rfl rfl rfl) (pmk_oex T.rf_NoNumber.o T.rf_NoNumber.iC T.rf_NoNumber.tI G_NoNumber (hr.mono (by decide)) b_NoNumber .nil pass0 (by rfl) T.m_NoNumber (pa_cons (pv 1) pa_nil))))
  pss_nil)
  (pss_cons (ps_set (i := 5) sc_seat_of.nd rfl (.inl rfl) (pe_call G_how_many hr (by rfl) T.m_how_many F_how_many.kp b_how_many .nil pass0 (pa_cons (pv 0) pa_nil)))
  (pss_cons (ps_asg (pe_ix ix_tup (pv 0) pe_int (fun _ _ => rfl)) (pg_tup rfl (pgs_cons (pg_name (i := 6) sc_seat_of.nd rfl (.inl rfl)) (pgs_cons (pg_name (i := 7) sc_seat_of.nd rfl (.inl rfl)) (pgs_cons (pg_name (i := 8) sc_seat_of.nd rfl (.inl rfl)) pgs_nil)))))
  (pss_cons (ps_set (i := 9) sc_seat_of.nd rfl (.inl rfl) pe_dnewK)
  (pss_cons (ps_asg (pe_callB call_divmod (by rfl) T.divmod (by decide +kernel) (pa_cons (pe_op op_sub (pv 1) (pv 3)) (pa_cons (pe_dget (hu_of hr) (pv 5) (pv 8) (fun _ _ => rfl)) pa_nil))) (pg_tup rfl (pgs_cons (pg_name (i := 10) sc_seat_of.nd rfl (.inl rfl)) (pgs_cons (pg_sub (pv 9) (pv 8) (set_dict (hu_of hr))) pgs_nil))))
  (pss_cons (ps_asg (pe_callB call_divmod (by rfl) T.divmod (by decide +kernel) (pa_cons (pv 10) (pa_cons (pe_dget (hu_of hr) (pv 5) (pv 7) (fun _ _ => rfl)) pa_nil))) (pg_tup rfl (pgs_cons (pg_sub (pv 9) (pv 6) (set_dict (hu_of hr))) (pgs_cons (pg_sub (pv 9) (pv 7) (set_dict (hu_of hr))) pgs_nil))))
  (pss_one (ps_ret (pe_tup (pa_cons (pe_dget (hu_of hr) (pv 9) pe_str (fun _ _ => rfl)) (pa_cons (pe_dget (hu_of hr) (pv 9) pe_str (fun _ _ => rfl)) (pa_cons (pe_dget (hu_of hr) (pv 9) pe_str (fun _ _ => rfl)) pa_nil))))))))))))), ?_⟩
  refine ⟨_, rfl, a, p, rfl, hp, ok, fun t0 H1 S1 n0 h0 => ?_⟩
  refine ⟨t0, _, rfl, SqT.of h0, rfl, _, _, rfl, _, _, rfl, _, _, rfl, rfl, ?_⟩
  have out : (n < p.first ∨ p.end ≤ n) → tMkO (He.ga K "NoNumber") (spIn (He.ga K "NoNumber") "number") [] (tCons (tVar 1) tNil) [some (.ref a), some (.int n), some (.str p.series), some (.int p.first), some (.int p.end), none, none, none, none, none, none] H1 fun cls d H' => E cls d H' := fun c =>
    ⟨_, rfl, mk_read fun d H' hd s2 e2 => e c d H' (S1.free hd) (S1.trans s2) e2⟩
  refine ⟨_, rfl, _, rfl, _, _, rfl, rfl, _, rfl, ite2 (fun c1 => iteT (out (.inl (of_decide_eq_true c1)))) fun c1 => ⟨_, rfl, _, rfl, _, _, rfl, rfl, _, rfl, ite2 (fun c2 => out (.inr (of_decide_eq_true c2))) fun c2 => ?_⟩⟩
  have lo : p.first ≤ n := by
    by_cases z : n < p.first
    · exact absurd (decide_eq_true z) c1
    · omega
  have hi : n < p.end := by
    by_cases z : p.end ≤ n
    · exact absurd (decide_eq_true z) c2
    · omega
  clear out c1 c2
  refine ⟨_, rfl, a, p, rfl, hp.same S1, fun d H2 S2 hd => ?_⟩
  obtain ⟨t, h1, o, h2, ho⟩ := (hp.same S1).same S2
  refine ⟨_, rfl, a, _, _, _, rfl, rfl, SqT.of h1, rfl, t, _, rfl, sqF h2, rfl, _, _, rfl, _, _, rfl, _, _, rfl, rfl, ?_⟩
  intro x hx
  have S3 := same_new hx (.dK [])
  have s2' := ok.size_lo p.o2; have s3' := ok.size_lo p.o3; have s2h := ok.size_hi p.o2; have s3h := ok.size_hi p.o3
  refine ⟨_, rfl, _, rfl, _, _, rfl, rfl, _, rfl, _, rfl, d, _, rfl, get_dW (S3 _ _ hd) p.o3, _, _, rfl, ⟨by omega, by omega⟩, fun q1 hq1 => ?_⟩
  have nq1 : H2 q1 = none := S3.free hq1
  have S4 := same_put (o := .tup [V.int ((n - p.first) / p.size p.o3), V.int ((n - p.first) % p.size p.o3)]) S3 nq1
  have xq1 : x ≠ q1 := ne_of_none upd_same hq1
  refine ⟨q1, _, rfl, SqT.of upd_same, rfl, _, _, rfl, _, _, rfl, _, rfl, _, rfl, x, _, rfl, DPut.k (k := Sum.inr p.o3.s) ((upd_ne xq1).trans upd_same) (by decide), rfl, ?_⟩
  have S5 := same_put (o := .dK (putK [] (Sum.inr p.o3.s) (V.int ((n - p.first) % p.size p.o3)))) S4 hx
  refine ⟨_, rfl, _, rfl, _, rfl, d, _, rfl, get_dW (S5 _ _ hd) p.o2, _, _, rfl, ⟨by omega, by omega⟩, fun q2 hq2 => ?_⟩
  have nq2 : H2 q2 = none := S5.free hq2
  have S6 := same_put (o := .tup [V.int ((n - p.first) / p.size p.o3 / p.size p.o2), V.int ((n - p.first) / p.size p.o3 % p.size p.o2)]) S5 nq2
  have xq2 : x ≠ q2 := ne_of_none upd_same hq2
  refine ⟨q2, _, rfl, SqT.of upd_same, rfl, _, _, rfl, _, rfl, _, rfl, x, _, rfl, DPut.k (k := Sum.inr p.o1.s) ((upd_ne xq2).trans upd_same) (put_small 0 (Nat.le_refl _) (by decide)), _, _, rfl, _, rfl, _, rfl, x, _, rfl, DPut.k (k := Sum.inr p.o2.s) upd_same (put_small 1 (put_len [] _ _) (by decide)), rfl, ?_⟩
  rw [put3 ok, upd_upd]
  obtain ⟨f, hf⟩ : ∃ f, f = seatAt p (n - p.first) := ⟨_, rfl⟩
  have ed : [((Sum.inr p.o3.s : Key), V.int ((n - p.first) % p.size p.o3)), (Sum.inr p.o1.s, V.int ((n - p.first) / p.size p.o3 / p.size p.o2)), (Sum.inr p.o2.s, V.int ((n - p.first) / p.size p.o3 % p.size p.o2))] = ordD p f := by
    unfold ordD
    rw [hf, seatAt1 ok, seatAt2 ok, seatAt3]
  rw [ed]
  have S7 := same_put (o := .dK (ordD p f)) S6 hx
  refine ⟨_, rfl, x, _, rfl, get_ord ok upd_same .sh, _, rfl, x, _, rfl, get_ord ok upd_same .ro, _, rfl, x, _, rfl, get_ord ok upd_same .co, (show 3 ≤ sizeLine by decide), fun t3 h3 => ?_⟩
  have hin : SeatIn p f := by
    rw [hf]
    have z : p.end = p.first + p.cols * p.rows * p.sheets := rfl
    exact seatAt_in ok (by omega) (by omega)
  have hat : p.at f = n := by
    rw [hf, seatAt_num ok]
    omega
  exact q f t3 _ hin hat ((S1.trans S2).trans (S7.trans (same_new h3 _))) upd_same

theorem ok_pile (F : Fun K "pile" "pile" s_pile f_pile d_pile) (T : Txt K mg f_how_many f_printed f_number_at f_seat_of f_pile f_pile_seat f_pile_place f_stack_at f_stack_place f_is_rising f_lfeed f_ldraw f_lalike f_lorder f_lprinting f_lsizes f_lnumber f_lheard_at f_lheard_place f_lpiles f_lnumbers f_lbeyond f_lwhole f_lgreat f_law)
    (F_number_at : Fun K "number_at" "number_at" s_number_at f_number_at d_number_at) (b_number_at : Binds K d_number_at ["printing", "sheet", "row", "column"] []) (G_number_at : FnOk P w K mg base CX0 (2) f_number_at d_number_at ["printing", "sheet", "row", "column"] spNum) :
    FnOk P w K mg base CX0 (3) f_pile d_pile ["printing", "row", "column"] (spPile fun p r c => p.num 1 r c - p.num 0 r c) := by
  refine F.ok sc_pile (fun vs H Q E h => ?_) (fun cdv A outer s H vs Q E hr h => ?_)

  · obtain ⟨a, p, r, c, rfl, _⟩ := h
    rfl
  obtain ⟨a, p, r, c, rfl, hp, ok, q⟩ := h
  refine ⟨_, (pss_cons (ps_set (i := 3) sc_pile.nd rfl (.inl rfl) (pe_call G_number_at hr (by rfl) T.m_number_at F_number_at.kp b_number_at .nil pass0 (pa_cons (pv 0) (pa_cons pe_int (pa_cons (pv 1) (pa_cons (pv 2) pa_nil))))))
  (pss_cons (ps_set (i := 4) sc_pile.nd rfl (.inl rfl) (pe_op op_sub (pe_call G_number_at hr (by rfl) T.m_number_at F_number_at.kp b_number_at .nil pass0 (pa_cons (pv 0) (pa_cons pe_int (pa_cons (pv 1) (pa_cons (pv 2) pa_nil))))) (pv 3)))
  (pss_one (ps_ret (pe_tup (pa_cons (pv 3) (pa_cons (pv 4) (pa_cons (pe_ix ix_tup (pv 0) pe_int (fun _ _ => rfl)) pa_nil)))))))), ?_⟩
  refine ⟨_, rfl, _, rfl, _, rfl, a, p, _, _, _, rfl, hp, ok, fun H1 S1 => ?_⟩
  refine ⟨_, rfl, _, rfl, _, rfl, a, p, _, _, _, rfl, hp.same S1, ok, fun H2 S2 => ?_⟩
  obtain ⟨t, h1, o, h2, ho⟩ := (hp.same S1).same S2
  refine ⟨_, rfl, _, _, rfl, rfl, ?_⟩
  refine ⟨_, rfl, _, rfl, _, rfl, a, _, _, _, rfl, rfl, SqT.of h1, rfl, (show 3 ≤ sizeLine by decide), fun u hu => ?_⟩
  exact q u _ (S1.trans (S2.trans (same_new hu _))) ((S1.trans S2).free hu) upd_same

theorem ok_pile_seat (F : Fun K "pile_seat" "pile_seat" s_pile_seat f_pile_seat d_pile_seat) (T : Txt K mg f_how_many f_printed f_number_at f_seat_of f_pile f_pile_seat f_pile_place f_stack_at f_stack_place f_is_rising f_lfeed f_ldraw f_lalike f_lorder f_lprinting f_lsizes f_lnumber f_lheard_at f_lheard_place f_lpiles f_lnumbers f_lbeyond f_lwhole f_lgreat f_law) :
    FnOk P w K mg base CX0 (1) f_pile_seat d_pile_seat ["printing", "way", "at"] spPileSeat := by
  refine F.ok sc_pile_seat (fun vs H Q E h => ?_) (fun cdv A outer s H vs Q E hr h => ?_)

  · obtain ⟨a, p, v, k, rfl, _⟩ := h
    rfl
  obtain ⟨a, p, v, k, rfl, hp, ok, q⟩ := h
  refine ⟨_, (pss_cons (ps_set (i := 3) sc_pile_seat.nd rfl (.inl rfl) (pe_ix ix_tup (pv 0) pe_int (fun _ _ => rfl)))
  (pss_cons (ps_set (i := 4) sc_pile_seat.nd rfl (.inl rfl) (pe_ix ix_tup (pv 0) pe_int (fun _ _ => rfl)))
  (pss_cons (ps_if (pt_cmpR op_eq (pv 1) pe_str (nomark _))
  (pss_one (ps_ret (pe_callB call_divmod (by rfl) T.divmod (by decide +kernel) (pa_cons (pv 2) (pa_cons (pv 3) pa_nil)))))
  pss_nil)
  (pss_cons (ps_asg (pe_callB call_divmod (by rfl) T.divmod (by decide +kernel) (pa_cons (pv 2) (pa_cons (pv 4) pa_nil))) (pg_tup rfl (pgs_cons (pg_name (i := 5) sc_pile_seat.nd rfl (.inl rfl)) (pgs_cons (pg_name (i := 6) sc_pile_seat.nd rfl (.inl rfl)) pgs_nil))))
  (pss_one (ps_ret (pe_tup (pa_cons (pv 6) (pa_cons (pv 5) pa_nil))))))))), ?_⟩
  obtain ⟨t, h1, _⟩ := id hp
  have k1 := SqT.of (K := K) h1
  have o1 := ok.c1; have o2 := ok.c2; have o3 := ok.r1; have o4 := ok.r2
  refine ⟨_, rfl, a, _, _, _, rfl, rfl, k1, rfl, _, rfl, a, _, _, _, rfl, rfl, k1, rfl, ?_⟩
  cases v
  · refine ⟨_, rfl, rfl, _, rfl, ite2 (fun _ => ?_) (fun z => absurd (decide_eq_true rfl) z)⟩
    exact ⟨_, rfl, _, rfl, _, _, rfl, ⟨by omega, by omega⟩, fun x hx => q x _ (same_new hx _) upd_same⟩
  · refine ⟨_, rfl, rfl, _, rfl, ite2 (fun z => absurd (of_decide_eq_true z) (by decide +kernel)) (fun _ => ?_)⟩
    refine ⟨_, rfl, _, rfl, _, _, rfl, ⟨by omega, by omega⟩, fun x hx => ?_⟩
    refine ⟨x, _, rfl, SqT.of upd_same, rfl, _, _, rfl, _, _, rfl, rfl, ?_⟩
    exact ⟨_, rfl, _, rfl, (show 2 ≤ sizeLine by decide), fun y hy => q y _ ((same_new hx _).trans (same_new hy _)) upd_same⟩

theorem ok_pile_place (F : Fun K "pile_place" "pile_place" s_pile_place f_pile_place d_pile_place) (T : Txt K mg f_how_many f_printed f_number_at f_seat_of f_pile f_pile_seat f_pile_place f_stack_at f_stack_place f_is_rising f_lfeed f_ldraw f_lalike f_lorder f_lprinting f_lsizes f_lnumber f_lheard_at f_lheard_place f_lpiles f_lnumbers f_lbeyond f_lwhole f_lgreat f_law) :
    FnOk P w K mg base CX0 (1) f_pile_place d_pile_place ["printing", "way", "row", "column"] spPilePlace := by
  refine F.ok sc_pile_place (fun vs H Q E h => ?_) (fun cdv A outer s H vs Q E hr h => ?_)

  · obtain ⟨a, p, v, r, c, rfl, _⟩ := h
    rfl
  obtain ⟨a, p, v, r, c, rfl, hp, ok, q⟩ := h
  refine ⟨_, (pss_cons (ps_set (i := 4) sc_pile_place.nd rfl (.inl rfl) (pe_ix ix_tup (pv 0) pe_int (fun _ _ => rfl)))
  (pss_cons (ps_set (i := 5) sc_pile_place.nd rfl (.inl rfl) (pe_ix ix_tup (pv 0) pe_int (fun _ _ => rfl)))
  (pss_cons (ps_if (pt_cmpR op_eq (pv 1) pe_str (nomark _))
  (pss_one (ps_ret (pe_op op_add (pe_op op_mul (pv 2) (pv 4)) (pv 3))))
  pss_nil)
  (pss_one (ps_ret (pe_op op_add (pe_op op_mul (pv 3) (pv 5)) (pv 2))))))), ?_⟩
  obtain ⟨t, h1, _⟩ := id hp
  have k1 := SqT.of (K := K) h1
  have o1 := ok.c1; have o2 := ok.c2; have o3 := ok.r1; have o4 := ok.r2
  refine ⟨_, rfl, a, _, _, _, rfl, rfl, k1, rfl, _, rfl, a, _, _, _, rfl, rfl, k1, rfl, ?_⟩
  cases v
  · refine ⟨_, rfl, rfl, _, rfl, ite2 (fun _ => ?_) (fun z => absurd (decide_eq_true rfl) z)⟩
    exact ⟨_, rfl, _, rfl, _, _, rfl, rfl, .inr ⟨by omega, by omega⟩, _, rfl, _, _, rfl, rfl, q _ (Same.refl _)⟩
  · refine ⟨_, rfl, rfl, _, rfl, ite2 (fun z => absurd (of_decide_eq_true z) (by decide +kernel)) (fun _ => ?_)⟩
    exact ⟨_, rfl, _, rfl, _, _, rfl, rfl, .inr ⟨by omega, by omega⟩, _, rfl, _, _, rfl, rfl, q _ (Same.refl _)⟩

theorem ok_stack_at (F : Fun K "stack_at" "stack_at" s_stack_at f_stack_at d_stack_at) (T : Txt K mg f_how_many f_printed f_number_at f_seat_of f_pile f_pile_seat f_pile_place f_stack_at f_stack_place f_is_rising f_lfeed f_ldraw f_lalike f_lorder f_lprinting f_lsizes f_lnumber f_lheard_at f_lheard_place f_lpiles f_lnumbers f_lbeyond f_lwhole f_lgreat f_law)
    (F_pile_seat : Fun K "pile_seat" "pile_seat" s_pile_seat f_pile_seat d_pile_seat) (b_pile_seat : Binds K d_pile_seat ["printing", "way", "at"] []) (G_pile_seat : FnOk P w K mg base CX0 (2) f_pile_seat d_pile_seat ["printing", "way", "at"] spPileSeat)
    (F_number_at : Fun K "number_at" "number_at" s_number_at f_number_at d_number_at) (b_number_at : Binds K d_number_at ["printing", "sheet", "row", "column"] []) (G_number_at : FnOk P w K mg base CX0 (2) f_number_at d_number_at ["printing", "sheet", "row", "column"] spNum) {d_NoNumber : FuncData} (G_NoNumber : FnOk P w K mg base CX0 1 (He.ma K (He.ga K "NoNumber") "__init__") d_NoNumber ["self", "number"] (spIn (He.ga K "NoNumber") "number")) (b_NoNumber : Binds K d_NoNumber ["self", "number"] []) :
    FnOk P w K mg base (L2.CX P w) (3) f_stack_at d_stack_at ["printing", "way", "k"] (spStackAt (He.ga K "NoNumber")) := by
  refine F.okX sc_stack_at (fun vs H Q E h => ?_) (fun cdv A outer s H vs Q E hr h => ?_)

  · obtain ⟨a, p, v, k, rfl, _⟩ := h
    rfl
  obtain ⟨a, p, v, k, rfl, hp, ok, q, e⟩ := h
  refine ⟨_, (pss_cons (ps_set (i := 3) sc_stack_at.nd rfl (.inl rfl) (pe_ix ix_tup (pv 0) pe_int (fun _ _ => rfl)))
  (pss_cons (ps_if (PW.pt (pw_or (pt_cmpR op_lt (pv 2) pe_int (nomark _)) (pw_or1 (pt_cmpR op_ge (pv 2) (pe_op op_mul (pe_op op_mul (pe_ix ix_tup (pv 0) pe_int (fun _ _ => rfl)) (pe_ix ix_tup (pv 0) pe_int (fun _ _ => rfl))) (pv 3)) (nomark _)))))
  (pss_one (ps_raise rfl (takes_of rfl rfl rfl rfl) (pmk_oex T.rf_NoNumber.o T.rf_NoNumber.iC T.rf_NoNumber.tI G_NoNumber (hr.mono (by decide)) b_NoNumber .nil pass0 (by rfl) T.m_NoNumber (pa_cons (pv 2) pa_nil))))
  pss_nil)
  (pss_cons (ps_asg (pe_callB call_divmod (by rfl) T.divmod (by decide +kernel) (pa_cons (pv 2) (pa_cons (pv 3) pa_nil))) (pg_tup rfl (pgs_cons (pg_name (i := 4) sc_stack_at.nd rfl (.inl rfl)) (pgs_cons (pg_name (i := 5) sc_stack_at.nd rfl (.inl rfl)) pgs_nil))))
  (pss_cons (ps_asg (pe_call G_pile_seat hr (by rfl) T.m_pile_seat F_pile_seat.kp b_pile_seat .nil pass0 (pa_cons (pv 0) (pa_cons (pv 1) (pa_cons (pv 4) pa_nil)))) (pg_tup rfl (pgs_cons (pg_name (i := 6) sc_stack_at.nd rfl (.inl rfl)) (pgs_cons (pg_name (i := 7) sc_stack_at.nd rfl (.inl rfl)) pgs_nil))))
  (pss_one (ps_ret (pe_call G_number_at hr (by rfl) T.m_number_at F_number_at.kp b_number_at .nil pass0 (pa_cons (pv 0) (pa_cons (pv 5) (pa_cons (pv 6) (pa_cons (pv 7) pa_nil))))))))))), ?_⟩
  obtain ⟨t, h1, _⟩ := id hp
  have k1 := SqT.of (K := K) h1
  have o1 := ok.c1; have o2 := ok.c2; have o3 := ok.r1; have o4 := ok.r2; have o5 := ok.s1; have o6 := ok.s2
  refine ⟨_, rfl, a, _, _, _, rfl, rfl, k1, rfl, ?_⟩
  have out : (k < 0 ∨ p.many ≤ k) → tMkO (He.ga K "NoNumber") (spIn (He.ga K "NoNumber") "number") [] (tCons (tVar 2) tNil) [some (.ref a), some (.str v.s), some (.int k), some (.int p.sheets), none, none, none, none] H fun cls d H' => E cls d H' := fun c =>
    ⟨_, rfl, mk_read fun d H' hd s2 e2 => e c d H' hd s2 e2⟩
  refine ⟨_, rfl, _, _, rfl, rfl, _, rfl, ite2 (fun c1 => iteT (out (.inl (of_decide_eq_true c1)))) fun c1 => ?_⟩
  refine ⟨_, rfl, _, rfl, a, _, _, _, rfl, rfl, k1, rfl, _, rfl, a, _, _, _, rfl, rfl, k1, rfl, _, _, rfl, rfl, .inr ⟨by omega, by omega⟩, _, rfl, _, _, rfl, rfl, .inr ⟨by omega, by omega⟩, _, _, rfl, rfl, _, rfl, ite2 (fun c2 => out (.inr (of_decide_eq_true c2))) fun c2 => ?_⟩
  have lo : 0 ≤ k := by
    by_cases z : k < 0
    · exact absurd (decide_eq_true z) c1
    · omega
  have hi : k < p.many := by
    by_cases z : p.cols * p.rows * p.sheets ≤ k
    · exact absurd (decide_eq_true z) c2
    · exact Int.not_le.mp z
  clear out c1 c2
  refine ⟨_, rfl, _, rfl, _, _, rfl, ⟨by omega, by omega⟩, fun x hx => ?_⟩
  have S1 := same_new hx (.tup [V.int (k / p.sheets), .int (k % p.sheets)])
  refine ⟨x, _, rfl, SqT.of upd_same, rfl, _, _, rfl, _, _, rfl, rfl, ?_⟩
  refine ⟨_, rfl, _, rfl, _, rfl, a, p, v, _, rfl, hp.same S1, ok, fun y H2 S2 hy => ?_⟩
  refine ⟨y, _, rfl, SqT.of hy, rfl, _, _, rfl, _, _, rfl, rfl, ?_⟩
  exact ⟨_, rfl, _, rfl, _, rfl, _, rfl, a, p, _, _, _, rfl, hp.same (S1.trans S2), ok, fun H3 S3 => q lo hi H3 (S1.trans (S2.trans S3))⟩

theorem ok_stack_place (F : Fun K "stack_place" "stack_place" s_stack_place f_stack_place d_stack_place) (T : Txt K mg f_how_many f_printed f_number_at f_seat_of f_pile f_pile_seat f_pile_place f_stack_at f_stack_place f_is_rising f_lfeed f_ldraw f_lalike f_lorder f_lprinting f_lsizes f_lnumber f_lheard_at f_lheard_place f_lpiles f_lnumbers f_lbeyond f_lwhole f_lgreat f_law)
    (F_seat_of : Fun K "seat_of" "seat_of" s_seat_of f_seat_of d_seat_of) (b_seat_of : Binds K d_seat_of ["printing", "number"] []) (G_seat_of : FnOk P w K mg base (L2.CX P w) (3) f_seat_of d_seat_of ["printing", "number"] (spSeat (He.ga K "NoNumber")))
    (F_pile_place : Fun K "pile_place" "pile_place" s_pile_place f_pile_place d_pile_place) (b_pile_place : Binds K d_pile_place ["printing", "way", "row", "column"] []) (G_pile_place : FnOk P w K mg base CX0 (3) f_pile_place d_pile_place ["printing", "way", "row", "column"] spPilePlace) :
    FnOk P w K mg base (L2.CX P w) (4) f_stack_place d_stack_place ["printing", "way", "number"] (spStackPlace (He.ga K "NoNumber")) := by
  refine F.okX sc_stack_place (fun vs H Q E h => ?_) (fun cdv A outer s H vs Q E hr h => ?_)

  · obtain ⟨a, p, v, n, rfl, _⟩ := h
    rfl
  obtain ⟨a, p, v, n, rfl, hp, ok, q, e⟩ := h
  refine ⟨_, (pss_cons (ps_asg (pe_callS G_seat_of hr (by rfl) T.m_seat_of F_seat_of.kp b_seat_of (fun σ => passAt (takes_of rfl rfl rfl rfl) σ) (pa_cons (pv 0) (pa_cons (pv 2) pa_nil))) (pg_tup rfl (pgs_cons (pg_name (i := 3) sc_stack_place.nd rfl (.inl rfl)) (pgs_cons (pg_name (i := 4) sc_stack_place.nd rfl (.inl rfl)) (pgs_cons (pg_name (i := 5) sc_stack_place.nd rfl (.inl rfl)) pgs_nil)))))
  (pss_one (ps_ret (pe_op op_add (pe_op op_mul (pe_call G_pile_place hr (by rfl) T.m_pile_place F_pile_place.kp b_pile_place .nil pass0 (pa_cons (pv 0) (pa_cons (pv 1) (pa_cons (pv 4) (pa_cons (pv 5) pa_nil))))) (pe_ix ix_tup (pv 0) pe_int (fun _ _ => rfl))) (pv 3))))), ?_⟩
  have o5 := ok.s1; have o6 := ok.s2
  refine ⟨_, rfl, _, rfl, a, p, n, rfl, hp, ok, fun f t H1 hf ef S1 ht => ?_, fun out d H' nd S1 hd => e out d H' nd S1 hd⟩
  obtain ⟨t1, h1, _⟩ := hp.same S1
  refine ⟨t, _, rfl, SqT.of ht, rfl, _, _, rfl, _, _, rfl, _, _, rfl, rfl, ?_⟩
  refine ⟨_, rfl, _, rfl, _, rfl, _, rfl, a, p, v, _, _, rfl, hp.same S1, ok, fun H2 S2 => ?_⟩
  exact ⟨_, rfl, a, _, _, _, rfl, rfl, SqT.of (S2 _ _ h1), rfl, _, _, rfl, rfl, .inr ⟨by omega, by omega⟩, _, rfl, _, _, rfl, rfl, q f H2 hf ef (S1.trans S2)⟩

theorem ok_lheard_at (F : Fun K "_law_heard_at" "_law_heard_at" s_lheard_at f_lheard_at d_lheard_at) (T : Txt K mg f_how_many f_printed f_number_at f_seat_of f_pile f_pile_seat f_pile_place f_stack_at f_stack_place f_is_rising f_lfeed f_ldraw f_lalike f_lorder f_lprinting f_lsizes f_lnumber f_lheard_at f_lheard_place f_lpiles f_lnumbers f_lbeyond f_lwhole f_lgreat f_law)
    (F_stack_at : Fun K "stack_at" "stack_at" s_stack_at f_stack_at d_stack_at) (b_stack_at : Binds K d_stack_at ["printing", "way", "k"] []) (G_stack_at : FnOk P w K mg base (L2.CX P w) (4) f_stack_at d_stack_at ["printing", "way", "k"] (spStackAt (He.ga K "NoNumber"))) :
    FnOk P w K mg base CX0 (5) f_lheard_at d_lheard_at ["_law_printing_here", "_law_way", "_law_k"] (spHeardAt K) := by
  refine F.ok sc_lheard_at (fun vs H Q E h => ?_) (fun cdv A outer s H vs Q E hr h => ?_)

  · obtain ⟨a, p, v, n, rfl, _⟩ := h
    rfl
  obtain ⟨a, p, v, n, rfl, hp, ok, q, e⟩ := h
  refine' ⟨_, (pss_cons (ps_set (i := 3) sc_lheard_at.nd rfl (.inl rfl) (pe_tup (pa_cons pe_str pa_nil)))
  (pss_cons (ps_try_as (i := 4) (Wout := fun _ _ _ _ => False) rfl rfl sc_lheard_at.nd rfl rfl ⟨rfl, by decide, .inl T.m_NoteError⟩ takes0
  (fun W pn xe tk _ => by apply PSs.as; exact (pss_one (ps_set (i := 3) sc_lheard_at.nd rfl (.inl rfl) (pe_tup (pa_cons pe_str (pa_cons (pe_callS G_stack_at hr (by rfl) T.m_stack_at F_stack_at.kp b_stack_at (fun σ => passAt tk σ) (pa_cons (pv 0) (pa_cons (pv 1) (pa_cons (pv 2) pa_nil)))) pa_nil))))); rfl)
  ?su)
  (pss_one (ps_ret (pv 3))))), ?rd⟩
  case su =>
    intro a oe cls d pn hz hf
    apply PSs.as
    · exact (pss_cons (ps_set (i := 5) sc_lheard_at.nd rfl (.inl rfl) (pe_callB (call_isN (by exact rfl) T.rf_NoNumber hz hf (by exact List.mem_cons_self)) (by rfl) T.isinstance (by decide +kernel) (pa_cons (pv 4) (pa_cons (pe_tup (pa_cons (pe_glob (v := .ref (He.ga K "NoStars")) (by rfl) T.m_NoStars (by exact rfl)) (pa_cons (pe_glob (v := .ref (He.ga K "NoRow")) (by rfl) T.m_NoRow (by exact rfl)) (pa_cons (pe_glob (v := .ref (He.ga K "NoPage")) (by rfl) T.m_NoPage (by exact rfl)) (pa_cons (pe_glob (v := .ref (He.ga K "NoPaper")) (by rfl) T.m_NoPaper (by exact rfl)) (pa_cons (pe_glob (v := .ref (He.ga K "NoWorld")) (by rfl) T.m_NoWorld (by exact rfl)) (pa_cons (pe_glob (v := .ref (He.ga K "NoBack")) (by rfl) T.m_NoBack (by exact rfl)) (pa_cons (pe_glob (v := .ref (He.ga K "NoText")) (by rfl) T.m_NoText (by exact rfl)) (pa_cons (pe_glob (v := .ref (He.ga K "NoLine")) (by rfl) T.m_NoLine (by exact rfl)) pa_nil))))))))) pa_nil))))
  (pss_one (ps_if (PW.pt (pw_and (pt_val (pe_callB (call_is1 (by exact rfl) T.rf_NoNumber hz hf (by exact List.mem_cons_self)) (by rfl) T.isinstance (by decide +kernel) (pa_cons (pv 4) (pa_cons (pe_glob (v := .ref (He.ga K "NoNumber")) (by rfl) T.m_NoNumber (by exact rfl)) pa_nil)))) (pw_and (pt_val (pe_callB (call_is1 (by exact rfl) T.rf_NoNumber hz hf (by exact List.mem_cons_self)) (by rfl) T.isinstance (by decide +kernel) (pa_cons (pv 4) (pa_cons (pe_bltn (v := .ty "ValueError") (by rfl) T.ValueError (by decide +kernel) rfl) pa_nil)))) (pw_and1 (pt_not (pt_val (pv 5)))))))
  (pss_one (ps_set (i := 3) sc_lheard_at.nd rfl (.inl rfl) (pe_tup (pa_cons pe_str (pa_cons (pe_fld (by exact rfl) T.rf_NoNumber hz hf (by exact List.mem_cons_self) (pv 4)) pa_nil)))))
  pss_nil)))
    · rfl
  case rd =>
  refine ⟨(show 1 ≤ sizeLine by decide), fun t0 n0 => ?_⟩
  have S0 := same_new n0 (.tup [V.str "other"])
  refine ⟨_, rfl, _, rfl, _, rfl, a, p, v, n, rfl, hp.same S0, ok, fun l0 l1 H1 S1 => ?_, fun out d H1 nd S1 hd => ?_⟩
  · refine ⟨(show 2 ≤ sizeLine by decide), fun t2 n2 => ⟨_, rfl, q l0 l1 t2 _ ((S0.trans S1).trans (same_new n2 _)) ?_⟩⟩
    exact .tup (SqT.of upd_same) (.cons (.str _) (.cons (.int _) .nil))
  · refine ⟨true, T.rf_NoNumber.ex, fun _ x nx => ?_, fun z => Bool.noConfusion z⟩
    refine ⟨_, rfl, (show 8 ≤ sizeLine by decide), fun tp ntp => ?_⟩
    have S2 := same_new ntp (.tup [V.ref (He.ga K "NoStars"), V.ref (He.ga K "NoRow"), V.ref (He.ga K "NoPage"), V.ref (He.ga K "NoPaper"), V.ref (He.ga K "NoWorld"), V.ref (He.ga K "NoBack"), V.ref (He.ga K "NoText"), V.ref (He.ga K "NoLine")])
    have hd2 := S2 _ _ hd
    refine ⟨rfl, d, _, tp, [He.ga K "NoStars", He.ga K "NoRow", He.ga K "NoPage", He.ga K "NoPaper", He.ga K "NoWorld", He.ga K "NoBack", He.ga K "NoText", He.ga K "NoLine"], false, rfl, hd2, rfl, upd_same, T.rf_NoNumber.isO, ?_⟩
    refine ⟨_, rfl, rfl, d, _, _, _, true, rfl, hd2, rfl, fun u h => h, kit_self, true, rfl, iteT ?_⟩
    refine ⟨_, rfl, rfl, d, _, _, _, true, rfl, hd2, rfl, fun u h => h, T.rf_NoNumber.isV, true, rfl, iteT ?_⟩
    refine ⟨_, rfl, false, rfl, iteT ?_⟩
    refine ⟨_, rfl, rfl, rfl, d, _, _, rfl, hd2, look1, (show 2 ≤ sizeLine by decide), fun t5 n5 => ⟨_, rfl, e out t5 _ (((S0.trans S1).trans S2).trans (same_new n5 _)) ?_⟩⟩
    exact .tup (SqT.of upd_same) (.cons (.str _) (.cons (.int _) .nil))

theorem ok_lheard_place (F : Fun K "_law_heard_place" "_law_heard_place" s_lheard_place f_lheard_place d_lheard_place) (T : Txt K mg f_how_many f_printed f_number_at f_seat_of f_pile f_pile_seat f_pile_place f_stack_at f_stack_place f_is_rising f_lfeed f_ldraw f_lalike f_lorder f_lprinting f_lsizes f_lnumber f_lheard_at f_lheard_place f_lpiles f_lnumbers f_lbeyond f_lwhole f_lgreat f_law)
    (F_stack_place : Fun K "stack_place" "stack_place" s_stack_place f_stack_place d_stack_place) (b_stack_place : Binds K d_stack_place ["printing", "way", "number"] []) (G_stack_place : FnOk P w K mg base (L2.CX P w) (4) f_stack_place d_stack_place ["printing", "way", "number"] (spStackPlace (He.ga K "NoNumber"))) :
    FnOk P w K mg base CX0 (5) f_lheard_place d_lheard_place ["_law_printing_here", "_law_way", "_law_number_here"] (spHeardPlace K) := by
  refine F.ok sc_lheard_place (fun vs H Q E h => ?_) (fun cdv A outer s H vs Q E hr h => ?_)

  · obtain ⟨a, p, v, n, rfl, _⟩ := h
    rfl
  obtain ⟨a, p, v, n, rfl, hp, ok, q, e⟩ := h
  refine' ⟨_, (pss_cons (ps_set (i := 3) sc_lheard_place.nd rfl (.inl rfl) (pe_tup (pa_cons pe_str pa_nil)))
  (pss_cons (ps_try_as (i := 4) (Wout := fun _ _ _ _ => False) rfl rfl sc_lheard_place.nd rfl rfl ⟨rfl, by decide, .inl T.m_NoteError⟩ takes0
  (fun W pn xe tk _ => by apply PSs.as; exact (pss_one (ps_set (i := 3) sc_lheard_place.nd rfl (.inl rfl) (pe_tup (pa_cons pe_str (pa_cons (pe_callS G_stack_place hr (by rfl) T.m_stack_place F_stack_place.kp b_stack_place (fun σ => passAt tk σ) (pa_cons (pv 0) (pa_cons (pv 1) (pa_cons (pv 2) pa_nil)))) pa_nil))))); rfl)
  ?su)
  (pss_one (ps_ret (pv 3))))), ?rd⟩
  case su =>
    intro a oe cls d pn hz hf
    apply PSs.as
    · exact (pss_cons (ps_set (i := 5) sc_lheard_place.nd rfl (.inl rfl) (pe_callB (call_isN (by exact rfl) T.rf_NoNumber hz hf (by exact List.mem_cons_self)) (by rfl) T.isinstance (by decide +kernel) (pa_cons (pv 4) (pa_cons (pe_tup (pa_cons (pe_glob (v := .ref (He.ga K "NoStars")) (by rfl) T.m_NoStars (by exact rfl)) (pa_cons (pe_glob (v := .ref (He.ga K "NoRow")) (by rfl) T.m_NoRow (by exact rfl)) (pa_cons (pe_glob (v := .ref (He.ga K "NoPage")) (by rfl) T.m_NoPage (by exact rfl)) (pa_cons (pe_glob (v := .ref (He.ga K "NoPaper")) (by rfl) T.m_NoPaper (by exact rfl)) (pa_cons (pe_glob (v := .ref (He.ga K "NoWorld")) (by rfl) T.m_NoWorld (by exact rfl)) (pa_cons (pe_glob (v := .ref (He.ga K "NoBack")) (by rfl) T.m_NoBack (by exact rfl)) (pa_cons (pe_glob (v := .ref (He.ga K "NoText")) (by rfl) T.m_NoText (by exact rfl)) (pa_cons (pe_glob (v := .ref (He.ga K "NoLine")) (by rfl) T.m_NoLine (by exact rfl)) pa_nil))))))))) pa_nil))))
  (pss_one (ps_if (PW.pt (pw_and (pt_val (pe_callB (call_is1 (by exact rfl) T.rf_NoNumber hz hf (by exact List.mem_cons_self)) (by rfl) T.isinstance (by decide +kernel) (pa_cons (pv 4) (pa_cons (pe_glob (v := .ref (He.ga K "NoNumber")) (by rfl) T.m_NoNumber (by exact rfl)) pa_nil)))) (pw_and (pt_val (pe_callB (call_is1 (by exact rfl) T.rf_NoNumber hz hf (by exact List.mem_cons_self)) (by rfl) T.isinstance (by decide +kernel) (pa_cons (pv 4) (pa_cons (pe_bltn (v := .ty "ValueError") (by rfl) T.ValueError (by decide +kernel) rfl) pa_nil)))) (pw_and1 (pt_not (pt_val (pv 5)))))))
  (pss_one (ps_set (i := 3) sc_lheard_place.nd rfl (.inl rfl) (pe_tup (pa_cons pe_str (pa_cons (pe_fld (by exact rfl) T.rf_NoNumber hz hf (by exact List.mem_cons_self) (pv 4)) pa_nil)))))
  pss_nil)))
    · rfl
  case rd =>
  refine ⟨(show 1 ≤ sizeLine by decide), fun t0 n0 => ?_⟩
  have S0 := same_new n0 (.tup [V.str "other"])
  refine ⟨_, rfl, _, rfl, _, rfl, a, p, v, n, rfl, hp.same S0, ok, fun f H1 hf ef S1 => ?_, fun out d H1 nd S1 hd => ?_⟩
  · refine ⟨(show 2 ≤ sizeLine by decide), fun t2 n2 => ⟨_, rfl, q f t2 _ hf ef ((S0.trans S1).trans (same_new n2 _)) ?_⟩⟩
    exact .tup (SqT.of upd_same) (.cons (.str _) (.cons (.int _) .nil))
  · refine ⟨true, T.rf_NoNumber.ex, fun _ x nx => ?_, fun z => Bool.noConfusion z⟩
    refine ⟨_, rfl, (show 8 ≤ sizeLine by decide), fun tp ntp => ?_⟩
    have S2 := same_new ntp (.tup [V.ref (He.ga K "NoStars"), V.ref (He.ga K "NoRow"), V.ref (He.ga K "NoPage"), V.ref (He.ga K "NoPaper"), V.ref (He.ga K "NoWorld"), V.ref (He.ga K "NoBack"), V.ref (He.ga K "NoText"), V.ref (He.ga K "NoLine")])
    have hd2 := S2 _ _ hd
    refine ⟨rfl, d, _, tp, [He.ga K "NoStars", He.ga K "NoRow", He.ga K "NoPage", He.ga K "NoPaper", He.ga K "NoWorld", He.ga K "NoBack", He.ga K "NoText", He.ga K "NoLine"], false, rfl, hd2, rfl, upd_same, T.rf_NoNumber.isO, ?_⟩
    refine ⟨_, rfl, rfl, d, _, _, _, true, rfl, hd2, rfl, fun u h => h, kit_self, true, rfl, iteT ?_⟩
    refine ⟨_, rfl, rfl, d, _, _, _, true, rfl, hd2, rfl, fun u h => h, T.rf_NoNumber.isV, true, rfl, iteT ?_⟩
    refine ⟨_, rfl, false, rfl, iteT ?_⟩
    refine ⟨_, rfl, rfl, rfl, d, _, _, rfl, hd2, look1, (show 2 ≤ sizeLine by decide), fun t5 n5 => ⟨_, rfl, e out t5 _ (((S0.trans S1).trans S2).trans (same_new n5 _)) ?_⟩⟩
    exact .tup (SqT.of upd_same) (.cons (.str _) (.cons (.int _) .nil))

theorem ok_is_rising (F : Fun K "is_rising" "is_rising" s_is_rising f_is_rising d_is_rising) (T : Txt K mg f_how_many f_printed f_number_at f_seat_of f_pile f_pile_seat f_pile_place f_stack_at f_stack_place f_is_rising f_lfeed f_ldraw f_lalike f_lorder f_lprinting f_lsizes f_lnumber f_lheard_at f_lheard_place f_lpiles f_lnumbers f_lbeyond f_lwhole f_lgreat f_law)
    (F_pile_seat : Fun K "pile_seat" "pile_seat" s_pile_seat f_pile_seat d_pile_seat) (b_pile_seat : Binds K d_pile_seat ["printing", "way", "at"] []) (G_pile_seat : FnOk P w K mg base CX0 (3) f_pile_seat d_pile_seat ["printing", "way", "at"] spPileSeat)
    (F_pile : Fun K "pile" "pile" s_pile f_pile d_pile) (b_pile : Binds K d_pile ["printing", "row", "column"] []) (G_pile : FnOk P w K mg base CX0 (3) f_pile d_pile ["printing", "row", "column"] (spPile fun p r c => p.num 1 r c - p.num 0 r c)) :
    FnOk P w K mg base CX0 (4) f_is_rising d_is_rising ["printing", "way"] spRising := by
  refine F.ok sc_is_rising (fun vs H Q E h => ?_) (fun cdv A outer s H vs Q E hr h => ?_)

  · obtain ⟨a, p, v, rfl, _⟩ := h
    rfl
  obtain ⟨a, p, v, rfl, hp, ok, q⟩ := h
  refine ⟨_, (pss_cons (ps_set (i := 2) sc_is_rising.nd rfl (.inl rfl) (pe_un un_neg pe_int))
  (pss_cons (ps_for PassesOwn.never rfl (pi_range1 (by rfl) T.range (pa_cons (pe_op op_mul (pe_ix ix_tup (pv 0) pe_int (fun _ _ => rfl)) (pe_ix ix_tup (pv 0) pe_int (fun _ _ => rfl))) pa_nil)) (pg_name (i := 3) sc_is_rising.nd rfl (.inl rfl))
  (pss_cons (ps_asg (pe_call G_pile_seat hr (by rfl) T.m_pile_seat F_pile_seat.kp b_pile_seat .nil pass0 (pa_cons (pv 0) (pa_cons (pv 1) (pa_cons (pv 3) pa_nil)))) (pg_tup rfl (pgs_cons (pg_name (i := 4) sc_is_rising.nd rfl (.inl rfl)) (pgs_cons (pg_name (i := 5) sc_is_rising.nd rfl (.inl rfl)) pgs_nil))))
  (pss_cons (ps_asg (pe_call G_pile hr (by rfl) T.m_pile F_pile.kp b_pile .nil pass0 (pa_cons (pv 0) (pa_cons (pv 4) (pa_cons (pv 5) pa_nil)))) (pg_tup rfl (pgs_cons (pg_name (i := 6) sc_is_rising.nd rfl (.inl rfl)) (pgs_cons (pg_name (i := 7) sc_is_rising.nd rfl (.inl rfl)) (pgs_cons (pg_name (i := 8) sc_is_rising.nd rfl (.inl rfl)) pgs_nil)))))
  (pss_cons (ps_if (pt_cmpR op_le (pv 6) (pv 2) (nomark _))
  (pss_one (ps_ret pe_bl))
  pss_nil)
  (pss_one (ps_set (i := 2) sc_is_rising.nd rfl (.inl rfl) (pe_op op_add (pv 6) (pe_op op_mul (pv 7) (pe_op op_sub (pv 8) pe_int)))))))))
  (pss_one (ps_ret pe_bl)))), ?_⟩
  obtain ⟨t, h1, _⟩ := id hp
  have k1 := SqT.of (K := K) h1
  have o1 := ok.c1; have o2 := ok.c2; have o3 := ok.r1; have o4 := ok.r2; have o5 := ok.s1; have o6 := ok.s2
  have pl := piles_le ok
  refine ⟨_, rfl, ?_⟩
  refine ⟨_, rfl, a, _, _, _, rfl, rfl, k1, rfl, _, rfl, a, _, _, _, rfl, rfl, k1, rfl, _, _, rfl, rfl, .inr ⟨by omega, by omega⟩, _, rfl, by omega, by omega, ?_⟩
  refine for_range (lo := 0) (n := p.piles) (fun i σ H' => ∃ (x : Int) (v3 v4 v5 v6 v7 v8 : Option V), σ = [some (.ref a), some (.str v.s), some (.int x), v3, v4, v5, v6, v7, v8] ∧ x = lastOf p v i ∧ Same H H' ∧ Up p v i) ?_ ?_ ?_
  · exact ⟨_, none, none, none, none, none, none, rfl, rfl, Same.refl _, fun k hk => absurd hk (by omega)⟩
  · rintro i σ H2 hi ⟨_, v3, v4, v5, v6, v7, v8, rfl, rfl, S2, up⟩
    refine ⟨_, rfl, _, rfl, _, rfl, a, p, v, _, rfl, hp.same S2, ok, fun t3 H3 S3 h3 => ?_⟩
    refine ⟨t3, _, rfl, SqT.of h3, rfl, _, _, rfl, _, _, rfl, rfl, ?_⟩
    refine ⟨_, rfl, _, rfl, _, rfl, a, p, _, _, rfl, hp.same (S2.trans S3), ok, fun t4 H4 S4 n4 h4 => ?_⟩
    refine ⟨t4, _, rfl, SqT.of h4, rfl, _, _, rfl, _, _, rfl, _, _, rfl, rfl, ?_⟩
    have e0 : (0 : Int) + (i : Int) = (i : Int) := Int.zero_add _
    refine ⟨_, rfl, _, rfl, _, _, rfl, rfl, _, rfl, ite2 (fun c => ?_) fun c => ?_⟩
    · have c := of_decide_eq_true c
      rw [e0] at c
      exact q false _ ⟨fun z => Bool.noConfusion z, fun z => absurd z (up_not ok hi c)⟩ (S2.trans (S3.trans S4))
    · have c : ¬ pileF p v i ≤ lastOf p v i := fun z => c (decide_eq_true (by rw [e0]; exact z))
      refine ⟨_, rfl, _, rfl, _, rfl, _, _, rfl, rfl, _, _, rfl, rfl, .inr ⟨by omega, by omega⟩, _, _, rfl, rfl, ?_⟩
      refine ⟨_, _, _, _, _, _, _, rfl, ?_, S2.trans (S3.trans S4), up_more up c⟩
      show p.num 0 (pileR p v (0 + (i : Int))) (pileC p v (0 + (i : Int))) + (p.num 1 (pileR p v (0 + (i : Int))) (pileC p v (0 + (i : Int))) - p.num 0 (pileR p v (0 + (i : Int))) (pileC p v (0 + (i : Int)))) * (p.sheets - 1) = pileL p v i
      rw [e0, pile_step ok]
      rfl
  · rintro σ H2 ⟨_, v3, v4, v5, v6, v7, v8, rfl, _, S2, up⟩
    exact q true _ ⟨fun _ => up, fun _ => rfl⟩ S2

theorem ok_lpiles (F : Fun K "_law_piles" "_law_piles" s_lpiles f_lpiles d_lpiles) (T : Txt K mg f_how_many f_printed f_number_at f_seat_of f_pile f_pile_seat f_pile_place f_stack_at f_stack_place f_is_rising f_lfeed f_ldraw f_lalike f_lorder f_lprinting f_lsizes f_lnumber f_lheard_at f_lheard_place f_lpiles f_lnumbers f_lbeyond f_lwhole f_lgreat f_law) :
    FnOk P w K mg base CX0 (1) f_lpiles d_lpiles ["_law_printing_here", "_law_way"] spPiles := by
  refine F.ok sc_lpiles (fun vs H Q E h => ?_) (fun cdv A outer s H vs Q E hr h => ?_)

  · obtain ⟨a, p, v, rfl, _⟩ := h
    rfl
  obtain ⟨a, p, v, rfl, hp, ok, q⟩ := h
  refine ⟨_, (pss_cons (ps_set (i := 2) sc_lpiles.nd rfl (.inl rfl) (pe_lst pa_nil))
  (pss_cons (ps_for PassesOwn.never rfl (pi_range1 (by rfl) T.range (pa_cons (pe_op op_mul (pe_ix ix_tup (pv 0) pe_int (fun _ _ => rfl)) (pe_ix ix_tup (pv 0) pe_int (fun _ _ => rfl))) pa_nil)) (pg_name (i := 3) sc_lpiles.nd rfl (.inl rfl))
  (pss_one (ps_if (pt_cmpR op_eq (pv 1) pe_str (nomark _))
  (pss_one (ps_expr (pe_bm PySem.F.plainAttrs_list PySem.F.slot_list_append PySem.F.type_list_append mt_append (pv 2) (pa_cons (pe_tup (pa_cons (pe_op op_fdivN (pv 3) (pe_ix ix_tup (pv 0) pe_int (fun _ _ => rfl))) (pa_cons (pe_op op_modN (pv 3) (pe_ix ix_tup (pv 0) pe_int (fun _ _ => rfl))) pa_nil))) pa_nil))))
  (pss_one (ps_expr (pe_bm PySem.F.plainAttrs_list PySem.F.slot_list_append PySem.F.type_list_append mt_append (pv 2) (pa_cons (pe_tup (pa_cons (pe_op op_modN (pv 3) (pe_ix ix_tup (pv 0) pe_int (fun _ _ => rfl))) (pa_cons (pe_op op_fdivN (pv 3) (pe_ix ix_tup (pv 0) pe_int (fun _ _ => rfl))) pa_nil))) pa_nil)))))))
  (pss_one (ps_ret (pv 2))))), ?_⟩
  have o1 := ok.c1; have o2 := ok.c2; have o3 := ok.r1; have o4 := ok.r2; have o5 := ok.s1; have o6 := ok.s2
  have pl := piles_le ok
  refine ⟨(show 0 ≤ sizeLine by decide), fun l hl => ?_⟩
  obtain ⟨t, h1, _⟩ := hp.same (same_new hl (.lst []))
  have k1 := SqT.of (K := K) h1
  refine ⟨_, rfl, a, _, _, _, rfl, rfl, k1, rfl, _, rfl, a, _, _, _, rfl, rfl, k1, rfl, _, _, rfl, rfl, .inr ⟨by omega, by omega⟩, _, rfl, by omega, by omega, ?_⟩
  refine for_range (lo := 0) (n := p.piles) (fun i σ H' => ∃ (ps : List Addr) (v3 : Option V), σ = [some (.ref a), some (.str v.s), some (.ref l), v3] ∧ Same H H' ∧ H' l = some (.lst (ps.map V.ref)) ∧ ps.length = i ∧ PlAt H' p v ps) ?_ ?_ ?_
  · exact ⟨[], none, rfl, same_new hl _, upd_same, rfl, fun k x hx => by simp at hx⟩
  · rintro i σ H2 hi ⟨ps, v3, rfl, S2, l2, n2, p2⟩
    have e0 : (0 : Int) + (i : Int) = (i : Int) := Int.zero_add _
    obtain ⟨t2, h2, _⟩ := hp.same S2
    have k2 := SqT.of (K := K) h2
    have pe := piles_eq ok
    have done : ∀ (u : Addr) (x y : Int), H2 u = none → x = pileR p v i → y = pileC p v i → ∃ l' xs y', V.ref l = .ref l' ∧ [V.ref u] = [y'] ∧ upd H2 u (.tup [.int x, .int y]) l' = some (.lst xs) ∧ xs.length < sizeLine ∧
        ∃ (ps : List Addr) (v3' : Option V), [some (V.ref a), some (.str v.s), some (.ref l), some (.int (0 + (i : Int)))] = [some (.ref a), some (.str v.s), some (.ref l), v3'] ∧ Same H (upd (upd H2 u (.tup [.int x, .int y])) l' (.lst (xs ++ [y']))) ∧ (upd (upd H2 u (.tup [.int x, .int y])) l' (.lst (xs ++ [y']))) l = some (.lst (ps.map V.ref)) ∧ ps.length = i + 1 ∧ PlAt (upd (upd H2 u (.tup [.int x, .int y])) l' (.lst (xs ++ [y']))) p v ps := by
      rintro u x y hu rfl rfl
      have N := same_new hu (.tup [V.int (pileR p v i), .int (pileC p v i)])
      have L := N _ _ l2
      refine ⟨l, _, _, rfl, rfl, L, ?_, ps ++ [u], _, rfl, same_put (S2.trans N) hl, ?_, ?_, pl_app p2 (fun w o no ew => ?_) ?_⟩
      · rw [List.length_map, n2]
        exact small1000 (by omega)
      · rw [upd_same, List.map_append]
        rfl
      · rw [List.length_append, List.length_singleton, n2]
      · have ew' := N _ _ ew
        rw [upd_ne (ne_of ew' L (no _))]
        exact ew'
      · rw [n2, upd_ne (ne_of upd_same L (fun z => nomatch z))]
        exact upd_same
    cases v
    · refine ⟨_, rfl, rfl, _, rfl, ite2 (fun _ => ?_) (fun z => absurd (decide_eq_true rfl) z)⟩
      refine ⟨_, rfl, .inl ⟨rfl, _, SqL.of l2⟩, _, rfl, _, rfl, a, _, _, _, rfl, rfl, k2, rfl, _, _, rfl, rfl, ⟨by omega, by omega⟩, _, rfl, _, rfl, a, _, _, _, rfl, rfl, k2, rfl, _, _, rfl, rfl, (show p.cols ≠ 0 by omega), (show 2 ≤ sizeLine by decide), fun u hu => ?_⟩
      exact done u _ _ hu (by rw [e0, Int.fdiv_eq_ediv_of_nonneg _ (by omega)]; rfl) (by rw [e0, Int.fmod_eq_emod_of_nonneg _ (by omega)]; rfl)
    · refine ⟨_, rfl, rfl, _, rfl, ite2 (fun z => absurd (of_decide_eq_true z) (by decide +kernel)) (fun _ => ?_)⟩
      refine ⟨_, rfl, .inl ⟨rfl, _, SqL.of l2⟩, _, rfl, _, rfl, a, _, _, _, rfl, rfl, k2, rfl, _, _, rfl, rfl, (show p.rows ≠ 0 by omega), _, rfl, _, rfl, a, _, _, _, rfl, rfl, k2, rfl, _, _, rfl, rfl, ⟨by omega, by omega⟩, (show 2 ≤ sizeLine by decide), fun u hu => ?_⟩
      exact done u _ _ hu (by rw [e0, Int.fmod_eq_emod_of_nonneg _ (by omega)]; rfl) (by rw [e0, Int.fdiv_eq_ediv_of_nonneg _ (by omega)]; rfl)
  · rintro σ H2 ⟨ps, v3, rfl, S2, l2, n2, p2⟩
    exact ⟨_, rfl, q l ps H2 S2 hl l2 n2 p2⟩

theorem ok_lnumbers (F : Fun K "_law_numbers" "_law_numbers" s_lnumbers f_lnumbers d_lnumbers) (T : Txt K mg f_how_many f_printed f_number_at f_seat_of f_pile f_pile_seat f_pile_place f_stack_at f_stack_place f_is_rising f_lfeed f_ldraw f_lalike f_lorder f_lprinting f_lsizes f_lnumber f_lheard_at f_lheard_place f_lpiles f_lnumbers f_lbeyond f_lwhole f_lgreat f_law)
    (F_lpiles : Fun K "_law_piles" "_law_piles" s_lpiles f_lpiles d_lpiles) (b_lpiles : Binds K d_lpiles ["_law_printing_here", "_law_way"] []) (G_lpiles : FnOk P w K mg base CX0 (2) f_lpiles d_lpiles ["_law_printing_here", "_law_way"] spPiles)
    (F_lnumber : Fun K "_law_number" "_law_number" s_lnumber f_lnumber d_lnumber) (b_lnumber : Binds K d_lnumber ["_law_printing_here", "_law_sheet", "_law_row", "_law_column"] []) (G_lnumber : FnOk P w K mg base CX0 (2) f_lnumber d_lnumber ["_law_printing_here", "_law_sheet", "_law_row", "_law_column"] spNum) :
    FnOk P w K mg base CX0 (3) f_lnumbers d_lnumbers ["_law_printing_here", "_law_way"] spNumbers := by
  refine F.ok sc_lnumbers (fun vs H Q E h => ?_) (fun cdv A outer s H vs Q E hr h => ?_)

  · obtain ⟨a, p, v, rfl, _⟩ := h
    rfl
  obtain ⟨a, p, v, rfl, hp, ok, sm, q⟩ := h
  refine ⟨_, (pss_cons (ps_set (i := 2) sc_lnumbers.nd rfl (.inl rfl) (pe_lst pa_nil))
  (pss_cons (ps_for PassesOwn.never rfl (pi_list (pe_call G_lpiles hr (by rfl) T.m_lpiles F_lpiles.kp b_lpiles .nil pass0 (pa_cons (pv 0) (pa_cons (pv 1) pa_nil)))) (pg_tup rfl (pgs_cons (pg_name (i := 3) sc_lnumbers.nd rfl (.inr rfl)) (pgs_cons (pg_name (i := 4) sc_lnumbers.nd rfl (.inr rfl)) pgs_nil)))
  (pss_one (ps_expr (pe_bm PySem.F.plainAttrs_list PySem.F.slot_list_extend PySem.F.type_list_extend mt_extend (pv 2) (pa_cons (pe_lc (own := [("_law_sheet", 5)]) (g := (gName 5)) (by rfl) sc_lnumbers.nd (pi_range1 (by rfl) T.range (pa_cons (pe_ix ix_tup (pv 0) pe_int (fun _ _ => rfl)) pa_nil)) (blkOk_by (own := [("_law_sheet", 5)]) (N := ["_law_printing_here", "_law_way", "_law_found", "_law_row", "_law_column", "_law_sheet"]) (sc := defScope s_lnumbers) (by decide +kernel)) (fun _ _ _ _ _ => (pg_name (i := 5) sc_lnumbers.nd rfl (.inl rfl))) (fun _ _ _ _ _ => pts_nil) (fun _ _ _ _ _ => (pe_call G_lnumber hr (by rfl) T.m_lnumber F_lnumber.kp b_lnumber .nil pass0 (pa_cons (pv 0) (pa_cons (pv 5) (pa_cons (pv 3) (pa_cons (pv 4) pa_nil))))))) pa_nil)))))
  (pss_one (ps_ret (pv 2))))), ?_⟩
  have o5 := ok.s1; have o6 := ok.s2
  obtain ⟨S, hS⟩ : ∃ S, S = p.sheets.toNat := ⟨_, rfl⟩
  have hS' : (S : Int) = p.sheets := by omega
  have small := small_many ok sm
  rw [← hS] at small
  have s6 := sm.2.2
  refine ⟨(show 0 ≤ sizeLine by decide), fun l hl => ?_⟩
  refine ⟨_, rfl, _, rfl, a, p, v, rfl, hp.same (same_new hl _), ok, fun lp ps H1 S1 nlp hlp np pl => ?_⟩
  have ll : lp ≠ l := fun z => by
    rw [z, upd_same] at nlp
    cases nlp
  refine ⟨lp, rfl, ⟨_, SqL.of hlp⟩, for_list (K := K) (a := lp) (xs := ps.map V.ref) (fun i σ H' => ∃ v3 v4 v5 : Option V, σ = [some (.ref a), some (.str v.s), some (.ref l), v3, v4, v5] ∧ Same H H' ∧ H' l = some (.lst ((numsW p v (i * S)).map V.int)) ∧ H' lp = some (.lst (ps.map V.ref)) ∧ PlAt H' p v ps) ?_ ?_ ?_ ?_⟩
  · refine ⟨none, none, none, rfl, (same_new hl _).trans S1, ?_, hlp, pl⟩
    rw [Nat.zero_mul]
    exact S1 _ _ upd_same
  · rintro i σ H' _ ⟨_, _, _, _, _, _, e, _⟩
    exact SqL.of e
  · rintro i x σ H2 hx ⟨v3, v4, v5, rfl, S2, l2, lp2, pl2⟩
    obtain ⟨w, hw, rfl⟩ := of_map hx
    have hi : i < ps.length := (List.getElem?_eq_some_iff.mp hw).1
    rw [np] at hi
    obtain ⟨t2, h2, _⟩ := hp.same S2
    refine ⟨w, _, rfl, SqT.of (pl2 i w hw), rfl, _, _, rfl, _, _, rfl, rfl, ?_⟩
    refine ⟨_, rfl, .inl ⟨rfl, _, SqL.of l2⟩, _, rfl, a, _, _, _, rfl, rfl, SqT.of h2, rfl, p.sheets, rfl, by omega, by omega, fun D hD => ?_⟩
    rw [← hS]
    refine lc_range (lo := 0) (n := S) (fun j H' => Same H2 H' ∧ H' D = some (.lst (((List.range j).map fun (s : Nat) => p.num s (pileR p v i) (pileC p v i)).map V.int))) ⟨same_new hD _, upd_same⟩ ?_ ?_
    · rintro j H3 hj ⟨S3, hD3⟩
      refine ⟨rfl, _, rfl, _, rfl, _, rfl, _, rfl, a, p, _, _, _, rfl, (hp.same S2).same S3, ok, fun H4 S4 => ?_⟩
      have hD4 := S4 _ _ hD3
      refine ⟨_, hD4, ?_, same_mut (S3.trans S4) hD, ?_⟩
      · rw [List.length_map, List.length_map, List.length_range]
        exact small1000 (by omega)
      · rw [upd_same, List.range_succ, List.map_append, List.map_append, Int.zero_add]
        rfl
    · rintro H3 ⟨S3, hD3⟩
      have step : (i + 1) * S ≤ p.piles * S := Nat.mul_le_mul_right _ hi
      refine ⟨l, D, _, _, rfl, rfl, S3 _ _ l2, hD3, ?_, ?_⟩
      · rw [List.length_map, List.length_map, List.length_map, List.length_range, numsW_len]
        rw [Nat.succ_mul] at step
        exact Nat.le_trans (show _ ≤ 200 by omega) (by decide)
      · refine ⟨_, _, _, rfl, same_mut (S2.trans S3) hl, ?_, ?_, fun k x hx => ?_⟩
        · rw [upd_same, ← List.map_append, numsW_row ok v hS']
        · rw [upd_ne ll]
          exact S3 _ _ lp2
        · have e := S3 _ _ (pl2 k x hx)
          rw [upd_ne (ne_of e (S3 _ _ l2) (fun z => nomatch z))]
          exact e
  · rintro σ H2 ⟨v3, v4, v5, rfl, S2, l2, lp2, pl2⟩
    rw [List.length_map, np, hS] at l2
    exact ⟨_, rfl, q l H2 S2 hl l2⟩

theorem ok_lbeyond (F : Fun K "_law_beyond" "_law_beyond" s_lbeyond f_lbeyond d_lbeyond) (T : Txt K mg f_how_many f_printed f_number_at f_seat_of f_pile f_pile_seat f_pile_place f_stack_at f_stack_place f_is_rising f_lfeed f_ldraw f_lalike f_lorder f_lprinting f_lsizes f_lnumber f_lheard_at f_lheard_place f_lpiles f_lnumbers f_lbeyond f_lwhole f_lgreat f_law)
    (F_lheard_at : Fun K "_law_heard_at" "_law_heard_at" s_lheard_at f_lheard_at d_lheard_at) (b_lheard_at : Binds K d_lheard_at ["_law_printing_here", "_law_way", "_law_k"] []) (G_lheard_at : FnOk P w K mg base CX0 (5) f_lheard_at d_lheard_at ["_law_printing_here", "_law_way", "_law_k"] (spHeardAt K))
    (F_lheard_place : Fun K "_law_heard_place" "_law_heard_place" s_lheard_place f_lheard_place d_lheard_place) (b_lheard_place : Binds K d_lheard_place ["_law_printing_here", "_law_way", "_law_number_here"] []) (G_lheard_place : FnOk P w K mg base CX0 (5) f_lheard_place d_lheard_place ["_law_printing_here", "_law_way", "_law_number_here"] (spHeardPlace K))
    (F_lalike : Fun K "_law_alike" "_law_alike" s_lalike f_lalike d_lalike) (b_lalike : Binds K d_lalike ["_law_found", "_law_due"] []) (G_lalike : FnOk P w K mg base CX0 (5) f_lalike d_lalike ["_law_found", "_law_due"] (spAlike K 3)) :
    FnOk P w K mg base CX0 (6) f_lbeyond d_lbeyond ["_law_printing_here", "_law_way"] spBey := by
  refine F.ok sc_lbeyond (fun vs H Q E h => ?_) (fun cdv A outer s H vs Q E hr h => ?_)

  · obtain ⟨a, p, v, rfl, _⟩ := h
    rfl
  obtain ⟨a, p, v, rfl, hp, ok, q⟩ := h
  refine ⟨_, (pss_cons (ps_set (i := 2) sc_lbeyond.nd rfl (.inl rfl) (pe_op op_mul (pe_op op_mul (pe_ix ix_tup (pv 0) pe_int (fun _ _ => rfl)) (pe_ix ix_tup (pv 0) pe_int (fun _ _ => rfl))) (pe_ix ix_tup (pv 0) pe_int (fun _ _ => rfl))))
  (pss_cons (ps_for PassesOwn.never rfl (pi_tup (pe_tup (pa_cons (pe_un un_neg pe_int) (pa_cons (pv 2) (pa_cons (pe_op op_add (pv 2) pe_int) (pa_cons (pe_op op_pow pe_int pe_int) (pa_cons (pe_op op_sub pe_int (pv 2)) pa_nil))))))) (pg_name (i := 3) sc_lbeyond.nd rfl (.inl rfl))
  (pss_one (ps_if (pt_not (pt_val (pe_call G_lalike hr (by rfl) T.m_lalike F_lalike.kp b_lalike .nil pass0 (pa_cons (pe_call G_lheard_at hr (by rfl) T.m_lheard_at F_lheard_at.kp b_lheard_at .nil pass0 (pa_cons (pv 0) (pa_cons (pv 1) (pa_cons (pv 3) pa_nil)))) (pa_cons (pe_tup (pa_cons pe_str (pa_cons (pv 3) pa_nil))) pa_nil)))))
  (pss_one (ps_ret pe_bl))
  pss_nil)))
  (pss_cons (ps_for PassesOwn.never rfl (pi_tup (pe_tup (pa_cons (pe_op op_sub (pe_ix ix_tup (pv 0) pe_int (fun _ _ => rfl)) pe_int) (pa_cons (pe_op op_add (pe_ix ix_tup (pv 0) pe_int (fun _ _ => rfl)) (pv 2)) (pa_cons (pe_un un_neg pe_int) (pa_cons (pe_op op_sub pe_int (pe_op op_pow pe_int pe_int)) pa_nil)))))) (pg_name (i := 4) sc_lbeyond.nd rfl (.inl rfl))
  (pss_one (ps_if (pt_not (pt_val (pe_call G_lalike hr (by rfl) T.m_lalike F_lalike.kp b_lalike .nil pass0 (pa_cons (pe_call G_lheard_place hr (by rfl) T.m_lheard_place F_lheard_place.kp b_lheard_place .nil pass0 (pa_cons (pv 0) (pa_cons (pv 1) (pa_cons (pv 4) pa_nil)))) (pa_cons (pe_tup (pa_cons pe_str (pa_cons (pv 4) pa_nil))) pa_nil)))))
  (pss_one (ps_ret pe_bl))
  pss_nil)))
  (pss_one (ps_ret pe_bl))))), ?_⟩
  obtain ⟨t, h1, _⟩ := id hp
  have k1 := SqT.of (K := K) h1
  have o1 := ok.c1; have o2 := ok.c2; have o3 := ok.r1; have o4 := ok.r2; have o5 := ok.s1; have o6 := ok.s2
  have two : 2 ≤ sizeLine := by decide
  have m1 : 1 ≤ p.many := Int.mul_pos (Int.mul_pos (by omega) (by omega)) (by omega)
  have m2 : p.many ≤ 144000000 := (prod_bound (c := p.cols) (r := p.rows) (s := p.sheets) (by omega) o2 (by omega) o4 (by omega) o6).2
  have e39 : (10 : Int) ^ (39 : Int).toNat = 1000000000000000000000000000000000000000 := by decide +kernel
  have most := ok.most
  have f0 := ok.f0
  have eE : p.end = p.first + p.many := rfl
  refine ⟨_, rfl, a, _, _, _, rfl, rfl, k1, rfl, _, rfl, a, _, _, _, rfl, rfl, k1, rfl, _, _, rfl, rfl, .inr ⟨by omega, by omega⟩, _, rfl, a, _, _, _, rfl, rfl, k1, rfl, _, _, rfl, rfl, .inr ⟨by omega, by omega⟩, ?_⟩
  refine ⟨_, rfl, _, rfl, _, rfl, _, _, rfl, rfl, _, _, rfl, rfl, ⟨by decide, by decide, by decide⟩, _, rfl, _, _, rfl, rfl, (show 5 ≤ sizeLine by decide), fun t1 n1 => ?_⟩
  have N1 := same_new n1 (.tup ([-1, p.many, p.many + 1, 10 ^ (39 : Int).toNat, 0 - p.many].map V.int))
  refine ⟨t1, rfl, ⟨_, SqT.of upd_same⟩, for_tup (K := K) (a := t1) (xs := [-1, p.many, p.many + 1, 10 ^ (39 : Int).toNat, 0 - p.many].map V.int) (fun i σ H' => ∃ v3 : Option V, σ = [some (.ref a), some (.str v.s), some (.int p.many), v3, none] ∧ Same (upd H t1 (.tup ([-1, p.many, p.many + 1, 10 ^ (39 : Int).toNat, 0 - p.many].map V.int))) H') ⟨_, rfl, Same.refl _⟩ (fun i σ H' _ ⟨_, _, s⟩ => SqT.of (s _ _ upd_same)) ?_ ?_⟩
  · rintro i x σ H2 hx ⟨v3, rfl, S2⟩
    obtain ⟨k, hk, rfl⟩ := of_map hx
    have out : k < 0 ∨ p.many ≤ k := by
      have hk := List.mem_of_getElem? hk
      rw [e39] at hk
      simp only [List.mem_cons, List.not_mem_nil, or_false] at hk
      rcases hk with rfl | rfl | rfl | rfl | rfl <;> omega
    refine ⟨_, rfl, _, rfl, _, rfl, a, p, v, k, rfl, hp.same (N1.trans S2), ok, fun l0 l1 => ?_, fun _ t3 H3 S3 h3 => ?_⟩
    · exfalso
      omega
    · refine ⟨_, rfl, two, fun u mu => ?_⟩
      have N3 := same_new mu (.tup [V.str "no", .int k])
      exact ⟨.ref t3, .ref u, noD k, rfl, Dp.sm N3 h3, .tup (SqT.of upd_same) (.cons (.str _) (.cons (.int _) .nil)), no_nice k, fun H4 S4 => ⟨true, rfl, iteF ⟨_, rfl, S2.trans (S3.trans (N3.trans S4))⟩⟩⟩
  · rintro σ H2 ⟨v3, rfl, S2⟩
    have k2 := SqT.of (K := K) ((N1.trans S2) _ _ h1)
    refine ⟨_, rfl, a, _, _, _, rfl, rfl, k2, rfl, _, _, rfl, rfl, _, rfl, a, _, _, _, rfl, rfl, k2, rfl, _, rfl, _, _, rfl, rfl, _, rfl, _, _, rfl, rfl, ⟨by decide, by decide, by decide⟩, _, _, rfl, rfl, (show 4 ≤ sizeLine by decide), fun t3 n3 => ?_⟩
    have N3 := same_new n3 (.tup ([p.first - 1, p.first + p.many, -1, 0 - 10 ^ (39 : Int).toNat].map V.int))
    refine ⟨t3, rfl, ⟨_, SqT.of upd_same⟩, for_tup (K := K) (a := t3) (xs := [p.first - 1, p.first + p.many, -1, 0 - 10 ^ (39 : Int).toNat].map V.int) (fun i σ H' => ∃ v4 : Option V, σ = [some (.ref a), some (.str v.s), some (.int p.many), v3, v4] ∧ Same (upd H2 t3 (.tup ([p.first - 1, p.first + p.many, -1, 0 - 10 ^ (39 : Int).toNat].map V.int))) H') ⟨_, rfl, Same.refl _⟩ (fun i σ H' _ ⟨_, _, s⟩ => SqT.of (s _ _ upd_same)) ?_ ?_⟩
    · rintro i x σ H4 hx ⟨v4, rfl, S4⟩
      obtain ⟨k, hk, rfl⟩ := of_map hx
      have out : k < p.first ∨ p.end ≤ k := by
        have hk := List.mem_of_getElem? hk
        rw [e39] at hk
        simp only [List.mem_cons, List.not_mem_nil, or_false] at hk
        rcases hk with rfl | rfl | rfl | rfl <;> omega
      have T4 := N1.trans (S2.trans (N3.trans S4))
      refine ⟨_, rfl, _, rfl, _, rfl, a, p, v, k, rfl, hp.same T4, ok, fun f t5 H5 hf ef => ?_, fun _ t5 H5 S5 h5 => ?_⟩
      · have r := at_range ok hf
        have e : p.many = p.cols * p.rows * p.sheets := rfl
        exfalso
        omega
      · refine ⟨_, rfl, two, fun u mu => ?_⟩
        have N5 := same_new mu (.tup [V.str "no", .int k])
        exact ⟨.ref t5, .ref u, noD k, rfl, Dp.sm N5 h5, .tup (SqT.of upd_same) (.cons (.str _) (.cons (.int _) .nil)), no_nice k, fun H6 S6 => ⟨true, rfl, iteF ⟨_, rfl, S4.trans (S5.trans (N5.trans S6))⟩⟩⟩
    · rintro σ H4 ⟨v4, rfl, S4⟩
      exact q _ (N1.trans (S2.trans (N3.trans S4)))

theorem ok_lwhole (F : Fun K "_law_whole" "_law_whole" s_lwhole f_lwhole d_lwhole) (T : Txt K mg f_how_many f_printed f_number_at f_seat_of f_pile f_pile_seat f_pile_place f_stack_at f_stack_place f_is_rising f_lfeed f_ldraw f_lalike f_lorder f_lprinting f_lsizes f_lnumber f_lheard_at f_lheard_place f_lpiles f_lnumbers f_lbeyond f_lwhole f_lgreat f_law)
    (F_lnumbers : Fun K "_law_numbers" "_law_numbers" s_lnumbers f_lnumbers d_lnumbers) (b_lnumbers : Binds K d_lnumbers ["_law_printing_here", "_law_way"] []) (G_lnumbers : FnOk P w K mg base CX0 (5) f_lnumbers d_lnumbers ["_law_printing_here", "_law_way"] spNumbers)
    (F_lheard_at : Fun K "_law_heard_at" "_law_heard_at" s_lheard_at f_lheard_at d_lheard_at) (b_lheard_at : Binds K d_lheard_at ["_law_printing_here", "_law_way", "_law_k"] []) (G_lheard_at : FnOk P w K mg base CX0 (5) f_lheard_at d_lheard_at ["_law_printing_here", "_law_way", "_law_k"] (spHeardAt K))
    (F_lheard_place : Fun K "_law_heard_place" "_law_heard_place" s_lheard_place f_lheard_place d_lheard_place) (b_lheard_place : Binds K d_lheard_place ["_law_printing_here", "_law_way", "_law_number_here"] []) (G_lheard_place : FnOk P w K mg base CX0 (5) f_lheard_place d_lheard_place ["_law_printing_here", "_law_way", "_law_number_here"] (spHeardPlace K))
    (F_lalike : Fun K "_law_alike" "_law_alike" s_lalike f_lalike d_lalike) (b_lalike : Binds K d_lalike ["_law_found", "_law_due"] []) (G_lalike : FnOk P w K mg base CX0 (5) f_lalike d_lalike ["_law_found", "_law_due"] (spAlike K 3))
    (F_is_rising : Fun K "is_rising" "is_rising" s_is_rising f_is_rising d_is_rising) (b_is_rising : Binds K d_is_rising ["printing", "way"] []) (G_is_rising : FnOk P w K mg base CX0 (5) f_is_rising d_is_rising ["printing", "way"] spRising) :
    FnOk P w K mg base CX0 (6) f_lwhole d_lwhole ["_law_printing_here", "_law_way"] spWhole := by
  refine F.ok sc_lwhole (fun vs H Q E h => ?_) (fun cdv A outer s H vs Q E hr h => ?_)

  · obtain ⟨a, p, v, rfl, _⟩ := h
    rfl
  obtain ⟨a, p, v, rfl, hp, ok, sm, q⟩ := h
  refine ⟨_, (pss_cons (ps_set (i := 2) sc_lwhole.nd rfl (.inl rfl) (pe_call G_lnumbers hr (by rfl) T.m_lnumbers F_lnumbers.kp b_lnumbers .nil pass0 (pa_cons (pv 0) (pa_cons (pv 1) pa_nil))))
  (pss_cons (ps_for PassesOwn.never rfl (pi_enum (by rfl) T.enumerate (pa_cons (pv 2) pa_nil)) (pg_tup rfl (pgs_cons (pg_name (i := 3) sc_lwhole.nd rfl (.inl rfl)) (pgs_cons (pg_name (i := 4) sc_lwhole.nd rfl (.inl rfl)) pgs_nil)))
  (pss_cons (ps_if (pt_not (pt_val (pe_call G_lalike hr (by rfl) T.m_lalike F_lalike.kp b_lalike .nil pass0 (pa_cons (pe_call G_lheard_at hr (by rfl) T.m_lheard_at F_lheard_at.kp b_lheard_at .nil pass0 (pa_cons (pv 0) (pa_cons (pv 1) (pa_cons (pv 3) pa_nil)))) (pa_cons (pe_tup (pa_cons pe_str (pa_cons (pv 4) pa_nil))) pa_nil)))))
  (pss_one (ps_ret pe_bl))
  pss_nil)
  (pss_one (ps_if (pt_not (pt_val (pe_call G_lalike hr (by rfl) T.m_lalike F_lalike.kp b_lalike .nil pass0 (pa_cons (pe_call G_lheard_place hr (by rfl) T.m_lheard_place F_lheard_place.kp b_lheard_place .nil pass0 (pa_cons (pv 0) (pa_cons (pv 1) (pa_cons (pv 4) pa_nil)))) (pa_cons (pe_tup (pa_cons pe_str (pa_cons (pv 3) pa_nil))) pa_nil)))))
  (pss_one (ps_ret pe_bl))
  pss_nil))))
  (pss_one (ps_ret (pe_call G_lalike hr (by rfl) T.m_lalike F_lalike.kp b_lalike .nil pass0 (pa_cons (pe_call G_is_rising hr (by rfl) T.m_is_rising F_is_rising.kp b_is_rising .nil pass0 (pa_cons (pv 0) (pa_cons (pv 1) pa_nil))) (pa_cons (pe_cmpR (op_eqD hr.units) (pv 2) (pe_callB cr_sortedI (by rfl) T.sorted (by decide +kernel) (pa_cons (pv 2) pa_nil)) (nomark _)) pa_nil))))))), ?_⟩
  have two : 2 ≤ sizeLine := by decide
  have o5 := ok.s1; have o6 := ok.s2
  obtain ⟨S, hS⟩ : ∃ S, S = p.sheets.toNat := ⟨_, rfl⟩
  have hS' : (S : Int) = p.sheets := by omega
  have mn := many_nat ok hS'
  refine ⟨_, rfl, _, rfl, a, p, v, rfl, hp, ok, sm, fun l H1 S1 nl hl => ?_⟩
  rw [← hS] at hl
  refine ⟨_, rfl, l, _, rfl, SqL.of hl, ?_⟩
  refine for_it (walk_enum (K := K) (a := l) (xs := (numsW p v (p.piles * S)).map V.int)) (fun j σ H' => ∃ v3 v4 : Option V, σ = [some (.ref a), some (.str v.s), some (.ref l), v3, v4] ∧ Same H1 H') ⟨_, _, rfl, Same.refl _⟩ (fun j σ H' _ ⟨_, _, _, s⟩ => s.seq (SqL.of hl)) ?_ ?_
  · rintro j x σ H2 H2' hj ⟨v3, v4, rfl, S2⟩ ⟨T', y1, y2, rfl, nT, rfl, e1, e2⟩
    cases e1
    obtain ⟨z, hz, rfl⟩ := of_map e2
    have hj' : j < p.piles * S := by
      rw [List.length_map, numsW_len] at hj
      exact hj
    have ez : z = stackN p v j := by
      unfold numsW at hz
      rw [List.getElem?_map, List.getElem?_range hj'] at hz
      exact (Option.some.inj hz).symm
    subst ez
    have N2 := S2.trans (same_new nT (.tup [V.int (j : Nat), .int (stackN p v j)]))
    have p2 := (hp.same S1).same N2
    refine ⟨T', _, rfl, SqT.of upd_same, rfl, _, _, rfl, _, _, rfl, rfl, ?_⟩
    refine ⟨_, rfl, _, rfl, _, rfl, a, p, v, (j : Nat), rfl, p2, ok, fun l0 l1 t3 H3 S3 h3 => ?_, fun out => ?_⟩
    · refine ⟨_, rfl, two, fun u mu => ?_⟩
      have N3 := same_new mu (.tup [V.str "told", .int (stackN p v j)])
      refine ⟨.ref t3, .ref u, toldI (stackN p v j), rfl, Dp.sm N3 h3, .tup (SqT.of upd_same) (.cons (.str _) (.cons (.int _) .nil)), toldI_nice _, fun H4 S4 => ⟨true, rfl, iteF ?_⟩⟩
      have T4 := S3.trans (N3.trans S4)
      refine ⟨_, rfl, _, rfl, _, rfl, a, p, v, _, rfl, p2.same T4, ok, fun f t5 H5 hf ef S5 h5 => ?_, fun out => ?_⟩
      · have e := at_inj ok hf (stackS_in ok v l0 l1) ef
        subst e
        rw [place_back] at h5
        refine ⟨_, rfl, two, fun u5 mu5 => ?_⟩
        have N5 := same_new mu5 (.tup [V.str "told", .int (j : Nat)])
        exact ⟨.ref t5, .ref u5, toldI (j : Nat), rfl, Dp.sm N5 h5, .tup (SqT.of upd_same) (.cons (.str _) (.cons (.int _) .nil)), toldI_nice _, fun H6 S6 => ⟨true, rfl, iteF ⟨_, _, rfl, N2.trans (T4.trans (S5.trans (N5.trans S6)))⟩⟩⟩
      · have r := at_range ok (stackS_in ok v l0 l1)
        rw [← stackN_at] at r
        have e : p.end = p.first + p.cols * p.rows * p.sheets := rfl
        exfalso
        omega
    · exfalso
      omega
  · rintro σ H2 ⟨v3, v4, rfl, S2⟩
    refine ⟨_, rfl, _, rfl, a, p, v, rfl, (hp.same S1).same S2, ok, fun b H3 hb S3 => ?_⟩
    have l3 := (S2.trans S3) _ _ hl
    refine ⟨_, rfl, _, rfl, l, _, rfl, SqL.of l3, fun ms m perm sorted hm => ?_⟩
    have N3 := same_new hm (.lst (ms.map V.int))
    have eb : PyData.eqv (.list ((numsW p v (p.piles * S)).map .int)) (.list (ms.map .int)) = b := by
      show PyData.eqvAll _ _ = b
      rw [eqv_ints]
      have iff1 : numsW p v (p.piles * S) = ms ↔ b = true := by
        rw [hb, ← nums_up ok v hS']
        constructor
        · intro e
          rw [e]
          exact sorted
        · intro e
          exact List.Perm.eq_of_pairwise (le := fun x y => x ≤ y) (fun x y _ _ => Int.le_antisymm) e sorted perm.symm
      cases b with
      | true => exact decide_eq_true (iff1.mpr rfl)
      | false => exact decide_eq_false (fun z => Bool.noConfusion (iff1.mp z))
    refine ⟨.list ((numsW p v (p.piles * S)).map .int), .list (ms.map .int), .lst (SqL.of (N3 _ _ l3)) (ints_all _), .lst (SqL.of upd_same) (ints_all _), shaped_ints _, shaped_ints _, ?_⟩
    rw [eb]
    exact ⟨.bl b, .bl b, .bool b, rfl, .bl b, .bl b, Nice.flat rfl, fun H4 S4 => q _ (S1.trans (S2.trans (S3.trans (N3.trans S4))))⟩

theorem ok_lgreat (F : Fun K "_law_great" "_law_great" s_lgreat f_lgreat d_lgreat) (T : Txt K mg f_how_many f_printed f_number_at f_seat_of f_pile f_pile_seat f_pile_place f_stack_at f_stack_place f_is_rising f_lfeed f_ldraw f_lalike f_lorder f_lprinting f_lsizes f_lnumber f_lheard_at f_lheard_place f_lpiles f_lnumbers f_lbeyond f_lwhole f_lgreat f_law)
    (F_lpiles : Fun K "_law_piles" "_law_piles" s_lpiles f_lpiles d_lpiles) (b_lpiles : Binds K d_lpiles ["_law_printing_here", "_law_way"] []) (G_lpiles : FnOk P w K mg base CX0 (5) f_lpiles d_lpiles ["_law_printing_here", "_law_way"] spPiles)
    (F_lnumber : Fun K "_law_number" "_law_number" s_lnumber f_lnumber d_lnumber) (b_lnumber : Binds K d_lnumber ["_law_printing_here", "_law_sheet", "_law_row", "_law_column"] []) (G_lnumber : FnOk P w K mg base CX0 (5) f_lnumber d_lnumber ["_law_printing_here", "_law_sheet", "_law_row", "_law_column"] spNum)
    (F_ldraw : Fun K "_law_draw" "_law_draw" s_ldraw f_ldraw d_ldraw) (b_ldraw : Binds K d_ldraw ["_law_feed_here", "_law_many"] []) (G_ldraw : FnOk P w K mg base CX0 (5) f_ldraw d_ldraw ["_law_feed_here", "_law_many"] spDraw)
    (F_lheard_at : Fun K "_law_heard_at" "_law_heard_at" s_lheard_at f_lheard_at d_lheard_at) (b_lheard_at : Binds K d_lheard_at ["_law_printing_here", "_law_way", "_law_k"] []) (G_lheard_at : FnOk P w K mg base CX0 (5) f_lheard_at d_lheard_at ["_law_printing_here", "_law_way", "_law_k"] (spHeardAt K))
    (F_lheard_place : Fun K "_law_heard_place" "_law_heard_place" s_lheard_place f_lheard_place d_lheard_place) (b_lheard_place : Binds K d_lheard_place ["_law_printing_here", "_law_way", "_law_number_here"] []) (G_lheard_place : FnOk P w K mg base CX0 (5) f_lheard_place d_lheard_place ["_law_printing_here", "_law_way", "_law_number_here"] (spHeardPlace K))
    (F_lalike : Fun K "_law_alike" "_law_alike" s_lalike f_lalike d_lalike) (b_lalike : Binds K d_lalike ["_law_found", "_law_due"] []) (G_lalike : FnOk P w K mg base CX0 (5) f_lalike d_lalike ["_law_found", "_law_due"] (spAlike K 3))
    (F_is_rising : Fun K "is_rising" "is_rising" s_is_rising f_is_rising d_is_rising) (b_is_rising : Binds K d_is_rising ["printing", "way"] []) (G_is_rising : FnOk P w K mg base CX0 (5) f_is_rising d_is_rising ["printing", "way"] spRising) :
    FnOk P w K mg base CX0 (6) f_lgreat d_lgreat ["_law_feed_here", "_law_printing_here", "_law_way"] spGreat := by
  refine F.ok sc_lgreat (fun vs H Q E h => ?_) (fun cdv A outer s H vs Q E hr h => ?_)

  · obtain ⟨f, c, a, p, v, n, rfl, _⟩ := h
    rfl
  obtain ⟨f, c, a, p, v, n, rfl, hf, hn, hp, ok, q⟩ := h
  refine ⟨_, (pss_cons (ps_par (by rfl) sc_lgreat.nd (i := 3) (j := 4) rfl rfl (by decide) rfl rfl (pa_cons (pe_call G_lpiles hr (by rfl) T.m_lpiles F_lpiles.kp b_lpiles .nil pass0 (pa_cons (pv 1) (pa_cons (pv 2) pa_nil))) (pa_cons (pe_ix ix_tup (pv 1) pe_int (fun _ _ => rfl)) pa_nil)) (by rfl))
  (pss_cons (ps_set (i := 5) sc_lgreat.nd rfl (.inl rfl) pe_bl)
  (pss_cons (ps_for PassesOwn.never rfl (pi_range2 (by rfl) T.range (pa_cons pe_int (pa_cons (pe_callB call_len_seq (by rfl) T.len (by decide +kernel) (pa_cons (pv 3) pa_nil)) pa_nil))) (pg_name (i := 6) sc_lgreat.nd rfl (.inl rfl))
  (pss_cons (ps_par (by rfl) sc_lgreat.nd (i := 7) (j := 8) rfl rfl (by decide) rfl rfl (pa_cons (pe_ix ix_list (pv 3) (pe_op op_sub (pv 6) pe_int) (fun _ _ => rfl)) (pa_cons (pe_ix ix_list (pv 3) (pv 6) (fun _ _ => rfl)) pa_nil)) (by rfl))
  (pss_cons (ps_set (i := 9) sc_lgreat.nd rfl (.inl rfl) (pe_call G_lnumber hr (by rfl) T.m_lnumber F_lnumber.kp b_lnumber .nil pass0 (pa_cons (pv 1) (pa_cons (pe_op op_sub (pv 4) pe_int) (pa_cons (pe_ix ix_tup (pv 7) pe_int (fun _ _ => rfl)) (pa_cons (pe_ix ix_tup (pv 7) pe_int (fun _ _ => rfl)) pa_nil))))))
  (pss_one (ps_set (i := 5) sc_lgreat.nd rfl (.inl rfl) (pe_and (pv 5) (pe_one (pe_cmpR op_lt (pv 9) (pe_call G_lnumber hr (by rfl) T.m_lnumber F_lnumber.kp b_lnumber .nil pass0 (pa_cons (pv 1) (pa_cons pe_int (pa_cons (pe_ix ix_tup (pv 8) pe_int (fun _ _ => rfl)) (pa_cons (pe_ix ix_tup (pv 8) pe_int (fun _ _ => rfl)) pa_nil))))) (nomark _)))))))))
  (pss_cons (ps_if (pt_not (pt_val (pe_call G_lalike hr (by rfl) T.m_lalike F_lalike.kp b_lalike .nil pass0 (pa_cons (pe_call G_is_rising hr (by rfl) T.m_is_rising F_is_rising.kp b_is_rising .nil pass0 (pa_cons (pv 1) (pa_cons (pv 2) pa_nil))) (pa_cons (pv 5) pa_nil)))))
  (pss_one (ps_ret pe_bl))
  pss_nil)
  (pss_cons (ps_for PassesOwn.never rfl (pi_range1 (by rfl) T.range (pa_cons pe_int pa_nil)) (pg_name (i := 6) sc_lgreat.nd rfl (.inl rfl))
  (pss_cons (ps_set (i := 10) sc_lgreat.nd rfl (.inl rfl) (pe_ix ix_list (pe_lst (pa_cons pe_int (pa_cons (pe_op op_sub (pe_callB call_len_seq (by rfl) T.len (by decide +kernel) (pa_cons (pv 3) pa_nil)) pe_int) (pa_cons (pe_call G_ldraw hr (by rfl) T.m_ldraw F_ldraw.kp b_ldraw .nil pass0 (pa_cons (pv 0) (pa_cons (pe_callB call_len_seq (by rfl) T.len (by decide +kernel) (pa_cons (pv 3) pa_nil)) pa_nil))) (pa_cons (pe_call G_ldraw hr (by rfl) T.m_ldraw F_ldraw.kp b_ldraw .nil pass0 (pa_cons (pv 0) (pa_cons (pe_callB call_len_seq (by rfl) T.len (by decide +kernel) (pa_cons (pv 3) pa_nil)) pa_nil))) pa_nil))))) (pe_op op_modN (pv 6) pe_int) (fun _ _ => rfl)))
  (pss_cons (ps_set (i := 11) sc_lgreat.nd rfl (.inl rfl) (pe_ix ix_list (pe_lst (pa_cons pe_int (pa_cons (pe_op op_sub (pv 4) pe_int) (pa_cons (pe_call G_ldraw hr (by rfl) T.m_ldraw F_ldraw.kp b_ldraw .nil pass0 (pa_cons (pv 0) (pa_cons (pv 4) pa_nil))) pa_nil)))) (pe_op op_modN (pv 6) pe_int) (fun _ _ => rfl)))
  (pss_cons (ps_asg (pe_ix ix_list (pv 3) (pv 10) (fun _ _ => rfl)) (pg_tup rfl (pgs_cons (pg_name (i := 12) sc_lgreat.nd rfl (.inl rfl)) (pgs_cons (pg_name (i := 13) sc_lgreat.nd rfl (.inl rfl)) pgs_nil))))
  (pss_cons (ps_set (i := 14) sc_lgreat.nd rfl (.inl rfl) (pe_call G_lnumber hr (by rfl) T.m_lnumber F_lnumber.kp b_lnumber .nil pass0 (pa_cons (pv 1) (pa_cons (pv 11) (pa_cons (pv 12) (pa_cons (pv 13) pa_nil))))))
  (pss_cons (ps_set (i := 15) sc_lgreat.nd rfl (.inl rfl) (pe_op op_add (pe_op op_mul (pv 10) (pv 4)) (pv 11)))
  (pss_cons (ps_set (i := 16) sc_lgreat.nd rfl (.inl rfl) (pe_lst (pa_cons (pe_call G_lheard_at hr (by rfl) T.m_lheard_at F_lheard_at.kp b_lheard_at .nil pass0 (pa_cons (pv 1) (pa_cons (pv 2) (pa_cons (pv 15) pa_nil)))) pa_nil)))
  (pss_cons (ps_expr (pe_bm PySem.F.plainAttrs_list PySem.F.slot_list_append PySem.F.type_list_append mt_append (pv 16) (pa_cons (pe_call G_lheard_place hr (by rfl) T.m_lheard_place F_lheard_place.kp b_lheard_place .nil pass0 (pa_cons (pv 1) (pa_cons (pv 2) (pa_cons (pv 14) pa_nil)))) pa_nil)))
  (pss_one (ps_if (pt_not (pt_val (pe_call G_lalike hr (by rfl) T.m_lalike F_lalike.kp b_lalike .nil pass0 (pa_cons (pv 16) (pa_cons (pe_lst (pa_cons (pe_tup (pa_cons pe_str (pa_cons (pv 14) pa_nil))) (pa_cons (pe_tup (pa_cons pe_str (pa_cons (pv 15) pa_nil))) pa_nil))) pa_nil)))))
  (pss_one (ps_ret pe_bl))
  pss_nil))))))))))
  (pss_one (ps_ret pe_bl))))))), ?_⟩
  have two : 2 ≤ sizeLine := by decide
  have o1 := ok.c1; have o2 := ok.c2; have o3 := ok.r1; have o4 := ok.r2; have o5 := ok.s1; have o6 := ok.s2
  have pe := piles_eq ok
  have pl := piles_le ok
  have p1 : 1 ≤ p.cols * p.rows := Int.mul_pos (by omega) (by omega)
  obtain ⟨t, h1, _⟩ := id hp
  refine ⟨_, rfl, _, rfl, a, p, v, rfl, hp, ok, fun l ps H1 S1 nl hl np pl1 => ?_⟩
  have nel := hf.ne nl
  refine ⟨_, rfl, a, _, _, _, rfl, rfl, SqT.of (S1 _ _ h1), rfl, _, _, rfl, ?_⟩
  have lenE : (((ps.map V.ref).length : Nat) : Int) = p.cols * p.rows := by rw [List.length_map, np, pe]
  refine ⟨_, rfl, l, _, rfl, .inl (SqL.of hl), _, _, rfl, ⟨by decide, by decide, by omega, by omega⟩, ?_⟩
  have en : ((((ps.map V.ref).length : Nat) : Int) - 1).toNat = p.piles - 1 := by omega
  rw [en]
  have at1 : ∀ (k : Nat), k < p.piles → ∃ w, ps[k]? = some w ∧ atI (ps.map V.ref) (k : Nat) = some (.ref w) := fun k hk => by
    have hk' : k < ps.length := by omega
    exact ⟨ps[k], List.getElem?_eq_getElem hk', atI_nat (by rw [List.getElem?_map, List.getElem?_eq_getElem hk']; rfl)⟩
  refine for_range (lo := 1) (n := p.piles - 1) (fun i σ H' => ∃ (b : Bool) (v6 v7 v8 v9 : Option V), σ = [some (.ref f), some (.ref a), some (.str v.s), some (.ref l), some (.int p.sheets), some (.bl b), v6, v7, v8, v9, none, none, none, none, none, none, none] ∧ (b = true ↔ Up p v (i + 1)) ∧ Same H1 H') ?_ ?_ ?_
  · exact ⟨true, none, none, none, none, rfl, ⟨fun _ k hk => absurd hk (by omega), fun _ => rfl⟩, Same.refl _⟩
  · rintro i σ H2 hi ⟨b, v6, v7, v8, v9, rfl, hb, S2⟩
    have l2 := S2 _ _ hl
    have pl2 := PlAt.same S2 pl1
    have hp2 := hp.same (S1.trans S2)
    obtain ⟨w1, g1, a1⟩ := at1 i (by omega)
    obtain ⟨w2, g2, a2⟩ := at1 (i + 1) (by omega)
    have a1' : atI (ps.map V.ref) (1 + (i : Int) - 1) = some (.ref w1) := by
      rw [show 1 + (i : Int) - 1 = ((i : Nat) : Int) by omega]
      exact a1
    have a2' : atI (ps.map V.ref) (1 + (i : Int)) = some (.ref w2) := by
      rw [show 1 + (i : Int) = ((i + 1 : Nat) : Int) by omega]
      exact a2
    have e1 := pl2 _ _ g1
    have e2 := pl2 _ _ g2
    refine ⟨_, rfl, _, rfl, _, _, rfl, rfl, l, _, _, _, rfl, rfl, SqL.of l2, a1', _, rfl, _, rfl, l, _, _, _, rfl, rfl, SqL.of l2, a2', _, _, rfl, ?_⟩
    refine ⟨_, rfl, _, rfl, _, _, rfl, rfl, _, rfl, w1, _, _, _, rfl, rfl, SqT.of e1, rfl, _, rfl, w1, _, _, _, rfl, rfl, SqT.of e1, rfl, a, p, _, _, _, rfl, hp2, ok, fun H3 S3 => ?_⟩
    rw [last_num ok]
    cases b with
    | false =>
      refine ⟨_, rfl, false, rfl, iteF ⟨false, _, _, _, _, rfl, ⟨fun z => Bool.noConfusion z, fun z => ?_⟩, S2.trans S3⟩⟩
      exact absurd (hb.mpr (up_step.mp z).1) Bool.false_ne_true
    | true =>
      refine ⟨_, rfl, true, rfl, iteT ⟨_, rfl, _, rfl, _, rfl, w2, _, _, _, rfl, rfl, SqT.of (S3 _ _ e2), rfl, _, rfl, w2, _, _, _, rfl, rfl, SqT.of (S3 _ _ e2), rfl, a, p, _, _, _, rfl, hp2.same S3, ok, fun H4 S4 => ?_⟩⟩
      refine ⟨_, _, rfl, rfl, decide (pileL p v i < pileF p v (i + 1 : Nat)), _, _, _, _, rfl, ⟨fun z => up_step.mpr ⟨hb.mp rfl, of_decide_eq_true z⟩, fun z => decide_eq_true (up_step.mp z).2⟩, S2.trans (S3.trans S4)⟩
  · rintro σ H2 ⟨b, v6, v7, v8, v9, rfl, hb, S2⟩
    have hp2 := hp.same (S1.trans S2)
    rw [show p.piles - 1 + 1 = p.piles by omega] at hb
    refine ⟨_, rfl, _, rfl, a, p, v, rfl, hp2, ok, fun b2 H3 hb2 S3 => ?_⟩
    have eb : b2 = b := by
      cases b <;> cases b2 <;> first | rfl | exact absurd (hb.mpr (hb2.mp rfl)) Bool.false_ne_true | exact absurd (hb2.mpr (hb.mp rfl)) Bool.false_ne_true
    subst eb
    refine ⟨_, rfl, .bl b2, .bl b2, .bool b2, rfl, .bl _, .bl _, Nice.flat rfl, fun H4 S4 => ⟨true, rfl, iteF ?_⟩⟩
    have T4 := S2.trans (S3.trans S4)
    refine ⟨8, rfl, by decide, by decide, ?_⟩
    refine for_range (lo := 0) (n := (8 : Int).toNat) (fun i σ H' => ∃ v6 v7 v8 v9 v10 v11 v12 v13 v14 v15 v16 : Option V, σ = [some (.ref f), some (.ref a), some (.str v.s), some (.ref l), some (.int p.sheets), some (.bl b2), v6, v7, v8, v9, v10, v11, v12, v13, v14, v15, v16] ∧ Fd H' f c (n + 3 * i) ∧ But f H H' ∧ H' l = some (.lst (ps.map V.ref)) ∧ PlAt H' p v ps) ?_ ?_ ?_
    · exact ⟨_, _, _, _, _, _, _, _, _, _, _, rfl, (hf.same (S1.trans T4)).mono (by omega), But.of_same (S1.trans T4), T4 _ _ hl, PlAt.same T4 pl1⟩
    · rintro i σ H5 hi ⟨v6, v7, v8, v9, v10, v11, v12, v13, v14, v15, v16, rfl, hf5, B5, l5, pl5⟩
      have hi' : i < 8 := hi
      refine ⟨_, rfl, l, _, rfl, .inl (SqL.of l5), _, _, rfl, rfl, _, rfl, _, rfl, l, _, rfl, .inl (SqL.of l5), f, c, _, _, rfl, hf5, by omega, by omega, by omega, fun d1 H6 d10 d11 hf6 b6 _ => ?_⟩
      have l6 := b6 _ _ nel.1 l5
      refine ⟨_, rfl, _, rfl, l, _, rfl, .inl (SqL.of l6), f, c, _, _, rfl, hf6, by omega, by omega, by omega, fun d2 H7 d20 d21 hf7 b7 _ => ⟨(show 4 ≤ sizeLine by decide), fun l4 m4 => ?_⟩⟩
      obtain ⟨x, ax, x0, x1⟩ := pick4 (m := p.cols * p.rows) (x := 0) (y := (((ps.map V.ref).length : Nat) : Int) - 1) (z := d1) (u := d2) (by omega) (by omega) (by omega) (by omega) (mod_lo (0 + (i : Int)) 4 (by decide)) (mod_hi (0 + (i : Int)) 4 (by decide))
      refine ⟨_, rfl, _, _, rfl, rfl, (by show (_ : Int) ≠ 0; decide), l4, _, _, _, rfl, rfl, SqL.of upd_same, ax, ?_⟩
      have N7 := same_new m4 (.lst [V.int 0, .int ((((ps.map V.ref).length : Nat) : Int) - 1), .int d1, .int d2])
      have hf7' := hf7.same N7
      have l7 := N7 _ _ (b7 _ _ nel.1 l6)
      have B7 : But f H _ := B5.trans (b6.trans (b7.trans (But.of_same N7)))
      have pl7 := PlAt.same N7 ((pl5.but hf5 b6).but hf6 b7)
      refine ⟨_, rfl, _, _, rfl, rfl, _, rfl, _, rfl, f, c, _, _, rfl, hf7', by omega, by omega, by omega, fun d3 H8 d30 d31 hf8 b8 _ => ⟨(show 3 ≤ sizeLine by decide), fun l9 m9 => ?_⟩⟩
      obtain ⟨s, as, s0, s1⟩ := pick3 (m := p.sheets) (x := 0) (y := p.sheets - 1) (z := d3) (by omega) (by omega) ⟨d30, d31⟩ (mod_lo (0 + (i : Int)) 3 (by decide)) (mod_hi (0 + (i : Int)) 3 (by decide))
      refine ⟨_, rfl, _, _, rfl, rfl, (by show (_ : Int) ≠ 0; decide), l9, _, _, _, rfl, rfl, SqL.of upd_same, as, ?_⟩
      have N8 := same_new m9 (.lst [V.int 0, .int (p.sheets - 1), .int d3])
      have hf9 := hf8.same N8
      have l9' := N8 _ _ (b8 _ _ nel.1 l7)
      have B9 : But f H _ := B7.trans (b8.trans (But.of_same N8))
      have pl9 := PlAt.same N8 (pl7.but hf7' b8)
      have hp9 := hp.but hf B9
      obtain ⟨kx, rfl⟩ : ∃ kx : Nat, x = (kx : Int) := ⟨x.toNat, by omega⟩
      obtain ⟨w1, g1, a1⟩ := at1 kx (by omega)
      refine ⟨_, rfl, _, rfl, l, _, _, _, rfl, rfl, SqL.of l9', a1, w1, _, rfl, SqT.of (pl9 _ _ g1), rfl, _, _, rfl, _, _, rfl, rfl, ?_⟩
      refine ⟨_, rfl, _, rfl, _, rfl, _, rfl, a, p, _, _, _, rfl, hp9, ok, fun H10 S10 => ?_⟩
      obtain ⟨q0, q1, q2⟩ := stack_of ok v x0 x1 s0 s1
      rw [← q2]
      refine ⟨_, rfl, _, rfl, _, _, rfl, rfl, .inr ⟨by omega, by omega⟩, _, rfl, _, _, rfl, rfl, ?_⟩
      have hpA := hp9.same S10
      refine ⟨_, rfl, _, rfl, _, rfl, a, p, v, _, rfl, hpA, ok, fun _ _ t8 H11 S11 h8 => ⟨(show 1 ≤ sizeLine by decide), fun lf mf => ?_⟩, fun out => by exfalso; omega⟩
      have N11 := same_new mf (.lst [V.ref t8])
      refine ⟨_, rfl, .inl ⟨rfl, _, SqL.of upd_same⟩, _, rfl, _, rfl, _, rfl, a, p, v, _, rfl, hpA.same (S11.trans N11), ok, fun f' t9 H12 hf' ef S12 h9 => ?_, fun out => ?_⟩
      · have e := at_inj ok hf' (stackS_in ok v q0 q1) ef
        subst e
        rw [place_back] at h9
        have lf12 : H12 lf = some (.lst [V.ref t8]) := S12 _ _ upd_same
        refine ⟨lf, _, _, rfl, rfl, lf12, (show 1 < sizeLine by decide), ?_⟩
        have T1 := same_put (o := .lst ([V.ref t8] ++ [.ref t9])) (N11.trans S12) mf
        have d8 := Dp.sm T1 h8
        have d9 := told_keep (o := .lst ([V.ref t8] ++ [.ref t9])) h9 lf12
        refine ⟨_, rfl, _, rfl, two, fun u1 m1 => ⟨_, rfl, two, fun u2 m2 => ⟨two, fun lb mb => ?_⟩⟩⟩
        have M1 := same_new m1 (.tup [V.str "told", .int (stackN p v ((kx : Int) * p.sheets + s))])
        have M2 := same_new m2 (.tup [V.str "told", .int ((kx : Int) * p.sheets + s)])
        have M3 := same_new mb (.lst [V.ref u1, .ref u2])
        have M := M1.trans (M2.trans M3)
        refine ⟨.ref lf, .ref lb, .list [toldI (stackN p v ((kx : Int) * p.sheets + s)), toldI ((kx : Int) * p.sheets + s)], rfl, .lst (SqL.of (M _ _ upd_same)) (.cons (Dp.sm M d8) (.cons (Dp.sm M d9) .nil)),
          .lst (SqL.of upd_same) (.cons (.tup (SqT.of ((M2.trans M3) _ _ upd_same)) (.cons (.str _) (.cons (.int _) .nil))) (.cons (.tup (SqT.of (M3 _ _ upd_same)) (.cons (.str _) (.cons (.int _) .nil))) .nil)), told_pair _ _, fun H13 S13 => ⟨true, rfl, iteF ?_⟩⟩
        have Z := (S10.trans S11).trans (T1.trans (M.trans S13))
        exact ⟨_, _, _, _, _, _, _, _, _, _, _, rfl, (hf9.same Z).mono (by omega), B9.trans (But.of_same Z), Z _ _ l9', PlAt.same Z pl9⟩
      · have r := at_range ok (stackS_in ok v q0 q1)
        rw [← stackN_at] at r
        have e : p.end = p.first + p.cols * p.rows * p.sheets := rfl
        exfalso
        omega
    · rintro σ H5 ⟨v6, v7, v8, v9, v10, v11, v12, v13, v14, v15, v16, rfl, hf5, B5, l5, pl5⟩
      exact q H5 (hf5.mono (by show n + 3 * ((8 : Int).toNat : Int) ≤ n + 24; omega)) B5

theorem ok_law (F : Fun K "law" "law" s_law f_law d_law) (T : Txt K mg f_how_many f_printed f_number_at f_seat_of f_pile f_pile_seat f_pile_place f_stack_at f_stack_place f_is_rising f_lfeed f_ldraw f_lalike f_lorder f_lprinting f_lsizes f_lnumber f_lheard_at f_lheard_place f_lpiles f_lnumbers f_lbeyond f_lwhole f_lgreat f_law)
    (F_lfeed : Fun K "_law_feed" "_law_feed" s_lfeed f_lfeed d_lfeed) (b_lfeed : Binds K d_lfeed ["_law_script"] []) (G_lfeed : FnOk P w K mg base CX0 (6) f_lfeed d_lfeed ["_law_script"] (spFeed K))
    (F_lprinting : Fun K "_law_printing" "_law_printing" s_lprinting f_lprinting d_lprinting) (b_lprinting : Binds K d_lprinting ["_law_feed_here", "_law_small"] []) (G_lprinting : FnOk P w K mg base CX0 (6) f_lprinting d_lprinting ["_law_feed_here", "_law_small"] spPrint)
    (F_lwhole : Fun K "_law_whole" "_law_whole" s_lwhole f_lwhole d_lwhole) (b_lwhole : Binds K d_lwhole ["_law_printing_here", "_law_way"] []) (G_lwhole : FnOk P w K mg base CX0 (6) f_lwhole d_lwhole ["_law_printing_here", "_law_way"] spWhole)
    (F_lbeyond : Fun K "_law_beyond" "_law_beyond" s_lbeyond f_lbeyond d_lbeyond) (b_lbeyond : Binds K d_lbeyond ["_law_printing_here", "_law_way"] []) (G_lbeyond : FnOk P w K mg base CX0 (6) f_lbeyond d_lbeyond ["_law_printing_here", "_law_way"] spBey)
    (F_lgreat : Fun K "_law_great" "_law_great" s_lgreat f_lgreat d_lgreat) (b_lgreat : Binds K d_lgreat ["_law_feed_here", "_law_printing_here", "_law_way"] []) (G_lgreat : FnOk P w K mg base CX0 (6) f_lgreat d_lgreat ["_law_feed_here", "_law_printing_here", "_law_way"] spGreat) :
    FnG P w K mg base 7 f_law d_law ["_law_script"] (spLaw K) := by
  refine okG F sc_law (fun vs H Q E h => ?_) (fun cdv A outer s H vs Q E hr hg h => ?_)
  · obtain ⟨a, ns, rfl, _⟩ := h
    rfl
  obtain ⟨a0, ns, rfl, hs, q⟩ := h
  refine ⟨_, (pss_cons (ps_set (i := 1) sc_law.nd rfl (.inl rfl) (pe_call G_lfeed hr (by rfl) T.m_lfeed F_lfeed.kp b_lfeed .nil pass0 (pa_cons (pv 0) pa_nil)))
  (pss_cons (ps_par (by rfl) sc_law.nd (i := 2) (j := 3) rfl rfl (by decide) rfl rfl (pa_cons (pe_call G_lprinting hr (by rfl) T.m_lprinting F_lprinting.kp b_lprinting .nil pass0 (pa_cons (pv 1) (pa_cons pe_int pa_nil))) (pa_cons (pe_call G_lprinting hr (by rfl) T.m_lprinting F_lprinting.kp b_lprinting .nil pass0 (pa_cons (pv 1) (pa_cons pe_int pa_nil))) pa_nil)) (by rfl))
  (pss_cons (ps_set (i := 4) sc_law.nd rfl (.inl rfl) (pe_op op_catA (pe_op op_catA (pe_slice sl_tupA (pv 2) po_none (po_some pe_int)) (pe_tup (pa_cons pe_int pa_nil))) (pe_slice sl_tupA (pv 2) (po_some pe_int) po_none)))
  (pss_cons (ps_set (i := 5) sc_law.nd rfl (.inl rfl) (pe_op op_catA (pe_op op_catA (pe_slice sl_tupA (pv 2) po_none (po_some pe_int)) (pe_tup (pa_cons pe_int pa_nil))) (pe_slice sl_tupA (pv 2) (po_some pe_int) po_none)))
  (pss_cons (ps_set (i := 6) sc_law.nd rfl (.inl rfl) (pe_lst (pa_cons (pv 2) (pa_cons (pe_op op_catA (pe_op op_catA (pe_slice sl_tupA (pv 2) po_none (po_some pe_int)) (pe_tup (pa_cons pe_int pa_nil))) (pe_slice sl_tupA (pv 2) (po_some pe_int) po_none)) (pa_cons (pv 4) (pa_cons (pv 5) pa_nil))))))
  (pss_cons (ps_set (i := 7) sc_law.nd rfl (.inl rfl) (pe_callB (cr_repr hg hr) (by rfl) T.repr (by decide +kernel) (pa_cons (pe_tup (pa_cons (pv 6) (pa_cons (pv 3) pa_nil))) pa_nil)))
  (pss_cons (ps_for PassesOwn.never rfl (pi_tup (pe_tup (pa_cons pe_str (pa_cons pe_str (pa_cons pe_str pa_nil))))) (pg_name (i := 8) sc_law.nd rfl (.inl rfl))
  (pss_cons (ps_for PassesOwn.never rfl (pi_list (pv 6)) (pg_name (i := 9) sc_law.nd rfl (.inl rfl))
  (pss_one (ps_if (PW.pt (pw_or (pt_not (pt_val (pe_call G_lwhole hr (by rfl) T.m_lwhole F_lwhole.kp b_lwhole .nil pass0 (pa_cons (pv 9) (pa_cons (pv 8) pa_nil))))) (pw_or1 (pt_not (pt_val (pe_call G_lbeyond hr (by rfl) T.m_lbeyond F_lbeyond.kp b_lbeyond .nil pass0 (pa_cons (pv 9) (pa_cons (pv 8) pa_nil))))))))
  (pss_one (ps_ret pe_bl))
  pss_nil)))
  (pss_one (ps_if (PW.pt (pw_or (pt_not (pt_val (pe_call G_lgreat hr (by rfl) T.m_lgreat F_lgreat.kp b_lgreat .nil pass0 (pa_cons (pv 1) (pa_cons (pv 3) (pa_cons (pv 8) pa_nil)))))) (pw_or1 (pt_not (pt_val (pe_call G_lbeyond hr (by rfl) T.m_lbeyond F_lbeyond.kp b_lbeyond .nil pass0 (pa_cons (pv 3) (pa_cons (pv 8) pa_nil))))))))
  (pss_one (ps_ret pe_bl))
  pss_nil))))
  (pss_one (ps_ret (pe_cmpR op_eq (pe_callB (cr_repr hg hr) (by rfl) T.repr (by decide +kernel) (pa_cons (pe_tup (pa_cons (pv 6) (pa_cons (pv 3) pa_nil))) pa_nil)) (pv 7) (nomark _))))))))))), ?_⟩
  have two : 2 ≤ sizeLine := by decide
  refine ⟨_, rfl, a0, ns, rfl, hs, fun f c H1 nf S1 hf => ?_⟩
  refine ⟨_, rfl, f, c, _, 1, rfl, hf, by omega, .inr rfl, fun a p H2 hf2 b2 hp2 ok sm => ?_⟩
  refine ⟨_, rfl, f, c, _, 0, rfl, hf2, by omega, .inl rfl, fun a' p' H3 hf3 b3 hp3 ok' _ => ?_⟩
  have hpa := hp2.but hf2 b3
  have small := sm rfl
  refine ⟨_, _, rfl, ?_⟩
  obtain ⟨t, h1, o, h2, ho⟩ := id hpa
  have k3 := SqT.of (K := K) h1
  refine cut_read (a := a) (xs := prV p t) (l := [.str p.series, .int p.first]) (r := [.int p.rows, .int p.sheets, .ref t]) rfl k3 (show ¬ (HT.sIx 6 0 none = 0 ∧ HT.sIx 6 6 (some 2) = 6) by decide) (show ¬ (HT.sIx 6 0 (some 3) = 0 ∧ HT.sIx 6 6 none = 6) by decide) rfl rfl (by simp) (by simp) (show 5 ≤ 100 by decide) fun cc H4 S4 hc4 => ?_
  refine cut_read (a := a) (xs := prV p t) (l := [.str p.series, .int p.first, .int p.cols]) (r := [.int p.sheets, .ref t]) rfl (SqT.sm S4 k3) (show ¬ (HT.sIx 6 0 none = 0 ∧ HT.sIx 6 6 (some 3) = 6) by decide) (show ¬ (HT.sIx 6 0 (some 4) = 0 ∧ HT.sIx 6 6 none = 6) by decide) rfl rfl (by simp) (by simp) (show 5 ≤ 100 by decide) fun cr H5 S5 hc5 => ?_
  refine ⟨_, rfl, ?_⟩
  refine cut_read (a := a) (xs := prV p t) (l := [.str p.series, .int p.first, .int p.cols, .int p.rows]) (r := [.ref t]) rfl (SqT.sm (S4.trans S5) k3) (show ¬ (HT.sIx 6 0 none = 0 ∧ HT.sIx 6 6 (some 4) = 6) by decide) (show ¬ (HT.sIx 6 0 (some 5) = 0 ∧ HT.sIx 6 6 none = 6) by decide) rfl rfl (by simp) (by simp) (show 5 ≤ 100 by decide) fun cs H6 S6 hc6 => ?_
  refine ⟨_, rfl, _, rfl, (show 4 ≤ sizeLine by decide), fun ls mls => ?_⟩
  have N6 := same_new mls (.lst [V.ref a, .ref cs, .ref cc, .ref cr])
  have T6 := S4.trans (S5.trans (S6.trans N6))
  have PS : PrAt (upd H6 ls (.lst [V.ref a, .ref cs, .ref cc, .ref cr])) cs p.oneS := ⟨t, N6 _ _ hc6, o, T6 _ _ h2, ho⟩
  have PC : PrAt (upd H6 ls (.lst [V.ref a, .ref cs, .ref cc, .ref cr])) cc p.oneC := ⟨t, (S5.trans (S6.trans N6)) _ _ hc4, o, T6 _ _ h2, ho⟩
  have PRr : PrAt (upd H6 ls (.lst [V.ref a, .ref cs, .ref cc, .ref cr])) cr p.oneR := ⟨t, (S6.trans N6) _ _ hc5, o, T6 _ _ h2, ho⟩
  have pa6 := hpa.same T6
  have pb6 := hp3.same T6
  have hf6 := hf3.same T6
  have lf : ls ≠ f := by
    have z : H6 f ≠ none := by
      obtain ⟨zs, hz⟩ := (hf3.same (S4.trans (S5.trans S6))).at
      rw [hz]
      exact fun z => nomatch z
    exact fun e => z (e ▸ mls)
  refine ⟨_, rfl, _, rfl, two, fun r1 m1 => ?_⟩
  have R1 := same_new m1 (.tup [V.ref ls, .ref a'])
  obtain ⟨sh1, sh2, dep, sh3⟩ := fourD_ok ok ok'
  refine ⟨r1, fourD p p', rfl, fourD_dp upd_same (R1 _ _ upd_same) (pa6.same R1) (PS.same R1) (PC.same R1) (PRr.same R1) (pb6.same R1), sh1, sh2, dep, sh3, ?_⟩
  generalize hkept : (fourD p p').shown = kept at *
  refine ⟨(show 3 ≤ sizeLine by decide), fun tt mt => ?_⟩
  have Rt := R1.trans (same_new mt (.tup ([Way.rows, .cols, .rows].map fun w => V.str w.s)))
  refine ⟨tt, rfl, ⟨_, SqT.of upd_same⟩, for_tup (K := K) (a := tt) (xs := [Way.rows, .cols, .rows].map fun w => V.str w.s) (fun i σ H' => ∃ v8 v9 : Option V, σ = [some (.ref a0), some (.ref f), some (.ref a), some (.ref a'), some (.ref cc), some (.ref cr), some (.ref ls), some (.str kept), v8, v9] ∧
    Fd H' f c (100 + 100 * i) ∧ H' tt = some (.tup ([Way.rows, .cols, .rows].map fun w => V.str w.s)) ∧ H' ls = some (.lst [V.ref a, .ref cs, .ref cc, .ref cr]) ∧ PrAt H' a p ∧ PrAt H' cs p.oneS ∧ PrAt H' cc p.oneC ∧ PrAt H' cr p.oneR ∧ PrAt H' a' p') ?_ ?_ ?_ ?_⟩
  · exact ⟨none, none, rfl, (hf6.same Rt).mono (by omega), upd_same, Rt _ _ upd_same, pa6.same Rt, PS.same Rt, PC.same Rt, PRr.same Rt, pb6.same Rt⟩
  · rintro i σ H' _ ⟨_, _, _, _, e, _⟩
    exact SqT.of e
  · rintro i x σ H7 hx ⟨v8, v9, rfl, hf7, e7, l7, pa7, ps7, pc7, pr7, pb7⟩
    have hi : i < 3 := (List.getElem?_eq_some_iff.mp hx).1
    obtain ⟨w, hw, rfl⟩ := of_map hx
    have ttf : tt ≠ f := by
      obtain ⟨zs, hz⟩ := hf7.at
      exact ne_of e7 hz (fun z => nomatch z)
    refine ⟨_, rfl, ls, rfl, ⟨_, SqL.of l7⟩, for_list (K := K) (a := ls) (xs := [V.ref a, .ref cs, .ref cc, .ref cr]) (fun j σ H' => ∃ v9 : Option V, σ = [some (.ref a0), some (.ref f), some (.ref a), some (.ref a'), some (.ref cc), some (.ref cr), some (.ref ls), some (.str kept), some (.str w.s), v9] ∧ Same H7 H') ⟨_, rfl, Same.refl _⟩ (fun j σ H' _ ⟨_, _, s⟩ => s.seq (SqL.of l7)) ?_ ?_⟩
    · rintro j x σ H8 hx ⟨v9, rfl, S8⟩
      obtain ⟨b, pb, rfl, hb, okb, smb⟩ : ∃ b pb, x = .ref b ∧ PrAt H7 b pb ∧ PrOk pb ∧ pb.small := by
        have hm := List.mem_of_getElem? hx
        simp only [List.mem_cons, List.not_mem_nil, or_false] at hm
        obtain ⟨z1, z2, z3⟩ := small
        rcases hm with rfl | rfl | rfl | rfl
        · exact ⟨a, p, rfl, pa7, ok, z1, z2, z3⟩
        · exact ⟨cs, p.oneS, rfl, ps7, oneS_ok ok, z1, z2, (show (1 : Int) ≤ 6 by decide)⟩
        · exact ⟨cc, p.oneC, rfl, pc7, oneC_ok ok, (show (1 : Int) ≤ 4 by decide), z2, z3⟩
        · exact ⟨cr, p.oneR, rfl, pr7, oneR_ok ok, z1, (show (1 : Int) ≤ 4 by decide), z3⟩
      refine ⟨_, rfl, _, rfl, b, pb, w, rfl, hb.same S8, okb, smb, fun H9 S9 => ⟨true, rfl, iteF ⟨_, rfl, _, rfl, b, pb, w, rfl, hb.same (S8.trans S9), okb, fun H10 S10 => ⟨true, rfl, iteF ?_⟩⟩⟩⟩
      exact ⟨_, rfl, S8.trans (S9.trans S10)⟩
    · rintro σ H8 ⟨v9, rfl, S8⟩
      have hf8 := hf7.same S8
      refine ⟨_, rfl, _, rfl, _, rfl, f, c, a', p', w, _, rfl, hf8, by omega, pb7.same S8, ok', fun H9 hf9 b9 => ⟨true, rfl, iteF ?_⟩⟩
      have pb9 := (pb7.same S8).but hf8 b9
      refine ⟨_, rfl, _, rfl, a', p', w, rfl, pb9, ok', fun H10 S10 => ⟨true, rfl, iteF ?_⟩⟩
      have k := fun {b : Addr} {pb : Prt} (h : PrAt H7 b pb) => (((h.same S8).but hf8 b9).same S10 : PrAt H10 b pb)
      exact ⟨_, _, rfl, (hf9.same S10).mono (by omega), S10 _ _ (b9 _ _ ttf (S8 _ _ e7)), S10 _ _ (b9 _ _ lf (S8 _ _ l7)), k pa7, k ps7, k pc7, k pr7, k pb7⟩
  · rintro σ H7 ⟨v8, v9, rfl, hf7, e7, l7, pa7, ps7, pc7, pr7, pb7⟩
    refine ⟨_, rfl, _, rfl, two, fun r2 m2 => ?_⟩
    have R2 := same_new m2 (.tup [V.ref ls, .ref a'])
    refine ⟨r2, fourD p p', rfl, fourD_dp upd_same (R2 _ _ l7) (pa7.same R2) (ps7.same R2) (pc7.same R2) (pr7.same R2) (pb7.same R2), sh1, sh2, dep, by rw [hkept]; exact sh3, _, rfl, rfl, ?_⟩
    rw [hkept, decide_eq_true rfl]
    exact q _

end
def e_how_many : He.DefD := ⟨("how_many", none), "how_many", "how_many", defArgs s_how_many, defBody s_how_many, defScope s_how_many, [], []⟩
def e_printed : He.DefD := ⟨("printed", none), "printed", "printed", defArgs s_printed, defBody s_printed, defScope s_printed, [], []⟩
def e_number_at : He.DefD := ⟨("number_at", none), "number_at", "number_at", defArgs s_number_at, defBody s_number_at, defScope s_number_at, [], []⟩
def e_seat_of : He.DefD := ⟨("seat_of", none), "seat_of", "seat_of", defArgs s_seat_of, defBody s_seat_of, defScope s_seat_of, [], []⟩
def e_pile : He.DefD := ⟨("pile", none), "pile", "pile", defArgs s_pile, defBody s_pile, defScope s_pile, [], []⟩
def e_pile_seat : He.DefD := ⟨("pile_seat", none), "pile_seat", "pile_seat", defArgs s_pile_seat, defBody s_pile_seat, defScope s_pile_seat, [], []⟩
def e_pile_place : He.DefD := ⟨("pile_place", none), "pile_place", "pile_place", defArgs s_pile_place, defBody s_pile_place, defScope s_pile_place, [], []⟩
def e_stack_at : He.DefD := ⟨("stack_at", none), "stack_at", "stack_at", defArgs s_stack_at, defBody s_stack_at, defScope s_stack_at, [], []⟩
def e_stack_place : He.DefD := ⟨("stack_place", none), "stack_place", "stack_place", defArgs s_stack_place, defBody s_stack_place, defScope s_stack_place, [], []⟩
def e_is_rising : He.DefD := ⟨("is_rising", none), "is_rising", "is_rising", defArgs s_is_rising, defBody s_is_rising, defScope s_is_rising, [], []⟩
def e_lfeed : He.DefD := ⟨("_law_feed", none), "_law_feed", "_law_feed", defArgs s_lfeed, defBody s_lfeed, defScope s_lfeed, [], []⟩
def e_ldraw : He.DefD := ⟨("_law_draw", none), "_law_draw", "_law_draw", defArgs s_ldraw, defBody s_ldraw, defScope s_ldraw, [], []⟩
def e_lalike : He.DefD := ⟨("_law_alike", none), "_law_alike", "_law_alike", defArgs s_lalike, defBody s_lalike, defScope s_lalike, [], []⟩
def e_lorder : He.DefD := ⟨("_law_order", none), "_law_order", "_law_order", defArgs s_lorder, defBody s_lorder, defScope s_lorder, [], []⟩
def e_lprinting : He.DefD := ⟨("_law_printing", none), "_law_printing", "_law_printing", defArgs s_lprinting, defBody s_lprinting, defScope s_lprinting, [], []⟩
def e_lsizes : He.DefD := ⟨("_law_sizes", none), "_law_sizes", "_law_sizes", defArgs s_lsizes, defBody s_lsizes, defScope s_lsizes, [], []⟩
def e_lnumber : He.DefD := ⟨("_law_number", none), "_law_number", "_law_number", defArgs s_lnumber, defBody s_lnumber, defScope s_lnumber, [], []⟩
def e_lheard_at : He.DefD := ⟨("_law_heard_at", none), "_law_heard_at", "_law_heard_at", defArgs s_lheard_at, defBody s_lheard_at, defScope s_lheard_at, [], []⟩
def e_lheard_place : He.DefD := ⟨("_law_heard_place", none), "_law_heard_place", "_law_heard_place", defArgs s_lheard_place, defBody s_lheard_place, defScope s_lheard_place, [], []⟩
def e_lpiles : He.DefD := ⟨("_law_piles", none), "_law_piles", "_law_piles", defArgs s_lpiles, defBody s_lpiles, defScope s_lpiles, [], []⟩
def e_lnumbers : He.DefD := ⟨("_law_numbers", none), "_law_numbers", "_law_numbers", defArgs s_lnumbers, defBody s_lnumbers, defScope s_lnumbers, [], []⟩
def e_lbeyond : He.DefD := ⟨("_law_beyond", none), "_law_beyond", "_law_beyond", defArgs s_lbeyond, defBody s_lbeyond, defScope s_lbeyond, [], []⟩
def e_lwhole : He.DefD := ⟨("_law_whole", none), "_law_whole", "_law_whole", defArgs s_lwhole, defBody s_lwhole, defScope s_lwhole, [], []⟩
def e_lgreat : He.DefD := ⟨("_law_great", none), "_law_great", "_law_great", defArgs s_lgreat, defBody s_lgreat, defScope s_lgreat, [], []⟩
def e_law : He.DefD := ⟨("law", none), "law", "law", defArgs s_law, defBody s_law, defScope s_law, [], []⟩
def e_NoNumber : He.DefD := ⟨("NoNumber", some "__init__"), "__init__", "NoNumber.__init__", defArgs s_NoNumber, defBody s_NoNumber, defScope s_NoNumber, [], []⟩
def fn : List He.DefD := [e_how_many, e_printed, e_number_at, e_seat_of, e_pile, e_pile_seat, e_pile_place, e_stack_at, e_stack_place, e_is_rising, e_lfeed, e_ldraw, e_lalike, e_lorder, e_lprinting, e_lsizes, e_lnumber, e_lheard_at, e_lheard_place, e_lpiles, e_lnumbers, e_lbeyond, e_lwhole, e_lgreat, e_law, e_NoNumber]
def fa : List He.Fa := [.glo "how_many", .glo "printed", .glo "number_at", .glo "seat_of", .glo "pile", .glo "pile_seat", .glo "pile_place", .glo "stack_at", .glo "stack_place", .glo "is_rising", .glo "_law_feed", .glo "_law_draw", .glo "_law_alike", .glo "_law_order", .glo "_law_printing", .glo "_law_sizes", .glo "_law_number", .glo "_law_heard_at", .glo "_law_heard_place", .glo "_law_piles", .glo "_law_numbers", .glo "_law_beyond", .glo "_law_whole", .glo "_law_great", .glo "law", .free "len", .free "range", .free "sorted", .free "tuple", .free "list", .free "isinstance", .free "all", .free "zip", .free "repr", .free "int", .free "bool", .free "str", .free "divmod", .free "enumerate", .free "ValueError", .glo "NoteError", .glo "NoNumber", .glo "NoStars", .glo "NoRow", .glo "NoPage", .glo "NoPaper", .glo "NoWorld", .glo "NoBack", .glo "NoText", .glo "NoLine"]
abbrev R : PySem.W.OpenRow := PySem.W.OpenLaw.row PySem.Challenge.rw_pressnotes_k09_stacks
def exB (K : PySem.W.Frag) : Bool := rfB K "NoNumber" "number" "NoteError" ["NoStars", "NoRow", "NoPage", "NoPaper", "NoWorld", "NoBack", "NoText", "NoLine"]
abbrev hk : PySem.W.Hook := He.hookX 6 fa fn [] [] exB
def ob (s : PySem.W.SharedT) : He.AlX := He.obsX 6 fa fn [] [] exB (HandSHeadRun.getT s)
theorem ob_eq (s : PySem.W.SharedT) : ob s = hk.obs s.abs := He.obsX_eq (HandSHeadRun.getT_eq s)
def loose : List Str := [("NoteError" : PySem.Str), ("NoNumber" : PySem.Str), ("NoStars" : PySem.Str), ("NoRow" : PySem.Str), ("NoPage" : PySem.Str), ("NoPaper" : PySem.Str), ("NoWorld" : PySem.Str), ("NoBack" : PySem.Str), ("NoText" : PySem.Str), ("NoLine" : PySem.Str), ("how_many" : PySem.Str), ("printed" : PySem.Str), ("number_at" : PySem.Str), ("seat_of" : PySem.Str), ("pile" : PySem.Str), ("pile_seat" : PySem.Str), ("pile_place" : PySem.Str), ("stack_at" : PySem.Str), ("stack_place" : PySem.Str), ("is_rising" : PySem.Str), ("_law_feed" : PySem.Str), ("_law_draw" : PySem.Str), ("_law_alike" : PySem.Str), ("_law_order" : PySem.Str), ("_law_printing" : PySem.Str), ("_law_sizes" : PySem.Str), ("_law_number" : PySem.Str), ("_law_heard_at" : PySem.Str), ("_law_heard_place" : PySem.Str), ("_law_piles" : PySem.Str), ("_law_numbers" : PySem.Str), ("_law_beyond" : PySem.Str), ("_law_whole" : PySem.Str), ("_law_great" : PySem.Str)]
theorem run (w : World) : HandSHeadRun.RunEq R (PySem.W.view R.prog [38]) hk ob 6000 [("NoteError" : PySem.Str), ("NoNumber" : PySem.Str), ("NoStars" : PySem.Str), ("NoRow" : PySem.Str), ("NoPage" : PySem.Str), ("NoPaper" : PySem.Str), ("NoWorld" : PySem.Str), ("NoBack" : PySem.Str), ("NoText" : PySem.Str), ("NoLine" : PySem.Str), ("how_many" : PySem.Str), ("printed" : PySem.Str), ("number_at" : PySem.Str), ("seat_of" : PySem.Str), ("pile" : PySem.Str), ("pile_seat" : PySem.Str), ("pile_place" : PySem.Str), ("stack_at" : PySem.Str), ("stack_place" : PySem.Str), ("is_rising" : PySem.Str), ("_law_feed" : PySem.Str), ("_law_draw" : PySem.Str), ("_law_alike" : PySem.Str), ("_law_order" : PySem.Str), ("_law_printing" : PySem.Str), ("_law_sizes" : PySem.Str), ("_law_number" : PySem.Str), ("_law_heard_at" : PySem.Str), ("_law_heard_place" : PySem.Str), ("_law_piles" : PySem.Str), ("_law_numbers" : PySem.Str), ("_law_beyond" : PySem.Str), ("_law_whole" : PySem.Str), ("_law_great" : PySem.Str)] w := by
  intro os
  kernel_rfl
theorem toFun {K : PySem.W.Frag} {x : Str} {st : Stmt} {f : Addr} {fd : FuncData} (F : FunD K x x (defArgs st) (defBody st) (defScope st) [] [] f fd) : Fun K x x st f fd := by
  obtain ⟨oc, od, dV, kV, doc, pm, an, cdv, ct, osl, e, lk, hcd, hd, hk⟩ := F.ex
  have z : dV = .none := by
    rcases hd with h | h
    · exact h.2
    · exact absurd rfl h.1
  subst z
  exact ⟨⟨oc, od, kV, doc, pm, an, cdv, ct, osl, e, lk, hcd⟩, F.kp⟩
theorem toFunQ {K : PySem.W.Frag} {x q : Str} {st : Stmt} {f : Addr} {fd : FuncData} (F : FunD K x q (defArgs st) (defBody st) (defScope st) [] [] f fd) : Fun K x q st f fd := by
  obtain ⟨oc, od, dV, kV, doc, pm, an, cdv, ct, osl, e, lk, hcd, hd, hk⟩ := F.ex
  have z : dV = .none := by
    rcases hd with h | h
    · exact h.2
    · exact absurd rfl h.1
  subst z
  exact ⟨⟨oc, od, kV, doc, pm, an, cdv, ct, osl, e, lk, hcd⟩, F.kp⟩
theorem facts {w : World} {K : PySem.W.Frag} {h : Heap} {mg : Str → Option Value} {f : Addr} (X : K.In h) (G : h.Ns mainGlobals mg) (hfa : mg ("law" : Str) = some (.ref f)) (c : He.SaysD fa fn K) (rf_NoNumber : Rf K "NoNumber" "number" "NoteError" ["NoStars", "NoRow", "NoPage", "NoPaper", "NoWorld", "NoBack", "NoText", "NoLine"]) :
    ∃ fd : FuncData, (∀ (s : Shared) (v : Value), BindsTo s fd ⟨[v], []⟩ [("_law_script", v)]) ∧ ∀ base : Heap, K.In base → base.Ns mainGlobals mg → FnG (PySem.Challenge.rw_pressnotes_k09_stacks).prog w K mg base 7 f fd ["_law_script"] (spLaw K) := by
  obtain ⟨d_how_many, F0_how_many⟩ := c.def_ 0 (d := e_how_many) rfl
  have F_how_many := toFun (st := s_how_many) F0_how_many
  obtain ⟨d_printed, F0_printed⟩ := c.def_ 1 (d := e_printed) rfl
  have F_printed := toFun (st := s_printed) F0_printed
  obtain ⟨d_number_at, F0_number_at⟩ := c.def_ 2 (d := e_number_at) rfl
  have F_number_at := toFun (st := s_number_at) F0_number_at
  obtain ⟨d_seat_of, F0_seat_of⟩ := c.def_ 3 (d := e_seat_of) rfl
  have F_seat_of := toFun (st := s_seat_of) F0_seat_of
  obtain ⟨d_pile, F0_pile⟩ := c.def_ 4 (d := e_pile) rfl
  have F_pile := toFun (st := s_pile) F0_pile
  obtain ⟨d_pile_seat, F0_pile_seat⟩ := c.def_ 5 (d := e_pile_seat) rfl
  have F_pile_seat := toFun (st := s_pile_seat) F0_pile_seat
  obtain ⟨d_pile_place, F0_pile_place⟩ := c.def_ 6 (d := e_pile_place) rfl
  have F_pile_place := toFun (st := s_pile_place) F0_pile_place
  obtain ⟨d_stack_at, F0_stack_at⟩ := c.def_ 7 (d := e_stack_at) rfl
  have F_stack_at := toFun (st := s_stack_at) F0_stack_at
  obtain ⟨d_stack_place, F0_stack_place⟩ := c.def_ 8 (d := e_stack_place) rfl
  have F_stack_place := toFun (st := s_stack_place) F0_stack_place
  obtain ⟨d_is_rising, F0_is_rising⟩ := c.def_ 9 (d := e_is_rising) rfl
  have F_is_rising := toFun (st := s_is_rising) F0_is_rising
  obtain ⟨d_lfeed, F0_lfeed⟩ := c.def_ 10 (d := e_lfeed) rfl
  have F_lfeed := toFun (st := s_lfeed) F0_lfeed
  obtain ⟨d_ldraw, F0_ldraw⟩ := c.def_ 11 (d := e_ldraw) rfl
  have F_ldraw := toFun (st := s_ldraw) F0_ldraw
  obtain ⟨d_lalike, F0_lalike⟩ := c.def_ 12 (d := e_lalike) rfl
  have F_lalike := toFun (st := s_lalike) F0_lalike
  obtain ⟨d_lorder, F0_lorder⟩ := c.def_ 13 (d := e_lorder) rfl
  have F_lorder := toFun (st := s_lorder) F0_lorder
  obtain ⟨d_lprinting, F0_lprinting⟩ := c.def_ 14 (d := e_lprinting) rfl
  have F_lprinting := toFun (st := s_lprinting) F0_lprinting
  obtain ⟨d_lsizes, F0_lsizes⟩ := c.def_ 15 (d := e_lsizes) rfl
  have F_lsizes := toFun (st := s_lsizes) F0_lsizes
  obtain ⟨d_lnumber, F0_lnumber⟩ := c.def_ 16 (d := e_lnumber) rfl
  have F_lnumber := toFun (st := s_lnumber) F0_lnumber
  obtain ⟨d_lheard_at, F0_lheard_at⟩ := c.def_ 17 (d := e_lheard_at) rfl
  have F_lheard_at := toFun (st := s_lheard_at) F0_lheard_at
  obtain ⟨d_lheard_place, F0_lheard_place⟩ := c.def_ 18 (d := e_lheard_place) rfl
  have F_lheard_place := toFun (st := s_lheard_place) F0_lheard_place
  obtain ⟨d_lpiles, F0_lpiles⟩ := c.def_ 19 (d := e_lpiles) rfl
  have F_lpiles := toFun (st := s_lpiles) F0_lpiles
  obtain ⟨d_lnumbers, F0_lnumbers⟩ := c.def_ 20 (d := e_lnumbers) rfl
  have F_lnumbers := toFun (st := s_lnumbers) F0_lnumbers
  obtain ⟨d_lbeyond, F0_lbeyond⟩ := c.def_ 21 (d := e_lbeyond) rfl
  have F_lbeyond := toFun (st := s_lbeyond) F0_lbeyond
  obtain ⟨d_lwhole, F0_lwhole⟩ := c.def_ 22 (d := e_lwhole) rfl
  have F_lwhole := toFun (st := s_lwhole) F0_lwhole
  obtain ⟨d_lgreat, F0_lgreat⟩ := c.def_ 23 (d := e_lgreat) rfl
  have F_lgreat := toFun (st := s_lgreat) F0_lgreat
  obtain ⟨d_law, F0_law⟩ := c.def_ 24 (d := e_law) rfl
  have F_law := toFun (st := s_law) F0_law
  obtain ⟨d_NoNumber, F0_NoNumber⟩ := c.def_ 25 (d := e_NoNumber) rfl
  have F_NoNumber := toFunQ (st := s_NoNumber) F0_NoNumber
  have b_NoNumber := F_NoNumber.binds (ps := ["self", "number"]) fun _ _ _ _ _ _ us hl => match us, hl with | [_, _], _ => rfl
  have T : Txt K mg _ _ _ _ _ _ _ _ _ _ _ _ _ _ _ _ _ _ _ _ _ _ _ _ _ := ⟨He.glo_ok X G (c.fact 40 (f := .glo "NoteError") rfl), He.glo_ok X G (c.fact 41 (f := .glo "NoNumber") rfl), He.glo_ok X G (c.fact 42 (f := .glo "NoStars") rfl), He.glo_ok X G (c.fact 43 (f := .glo "NoRow") rfl), He.glo_ok X G (c.fact 44 (f := .glo "NoPage") rfl), He.glo_ok X G (c.fact 45 (f := .glo "NoPaper") rfl), He.glo_ok X G (c.fact 46 (f := .glo "NoWorld") rfl), He.glo_ok X G (c.fact 47 (f := .glo "NoBack") rfl), He.glo_ok X G (c.fact 48 (f := .glo "NoText") rfl), He.glo_ok X G (c.fact 49 (f := .glo "NoLine") rfl), rf_NoNumber, He.glo_ok X G (c.fact 0 (f := .glo "how_many") rfl), He.glo_ok X G (c.fact 1 (f := .glo "printed") rfl), He.glo_ok X G (c.fact 2 (f := .glo "number_at") rfl), He.glo_ok X G (c.fact 3 (f := .glo "seat_of") rfl), He.glo_ok X G (c.fact 4 (f := .glo "pile") rfl), He.glo_ok X G (c.fact 5 (f := .glo "pile_seat") rfl), He.glo_ok X G (c.fact 6 (f := .glo "pile_place") rfl), He.glo_ok X G (c.fact 7 (f := .glo "stack_at") rfl), He.glo_ok X G (c.fact 8 (f := .glo "stack_place") rfl), He.glo_ok X G (c.fact 9 (f := .glo "is_rising") rfl), He.glo_ok X G (c.fact 10 (f := .glo "_law_feed") rfl), He.glo_ok X G (c.fact 11 (f := .glo "_law_draw") rfl), He.glo_ok X G (c.fact 12 (f := .glo "_law_alike") rfl), He.glo_ok X G (c.fact 13 (f := .glo "_law_order") rfl), He.glo_ok X G (c.fact 14 (f := .glo "_law_printing") rfl), He.glo_ok X G (c.fact 15 (f := .glo "_law_sizes") rfl), He.glo_ok X G (c.fact 16 (f := .glo "_law_number") rfl), He.glo_ok X G (c.fact 17 (f := .glo "_law_heard_at") rfl), He.glo_ok X G (c.fact 18 (f := .glo "_law_heard_place") rfl), He.glo_ok X G (c.fact 19 (f := .glo "_law_piles") rfl), He.glo_ok X G (c.fact 20 (f := .glo "_law_numbers") rfl), He.glo_ok X G (c.fact 21 (f := .glo "_law_beyond") rfl), He.glo_ok X G (c.fact 22 (f := .glo "_law_whole") rfl), He.glo_ok X G (c.fact 23 (f := .glo "_law_great") rfl), He.glo_ok X G (c.fact 24 (f := .glo "law") rfl), He.free_ok X G (c.fact 25 (f := .free "len") rfl), He.free_ok X G (c.fact 26 (f := .free "range") rfl), He.free_ok X G (c.fact 27 (f := .free "sorted") rfl), He.free_ok X G (c.fact 28 (f := .free "tuple") rfl), He.free_ok X G (c.fact 29 (f := .free "list") rfl), He.free_ok X G (c.fact 30 (f := .free "isinstance") rfl), He.free_ok X G (c.fact 31 (f := .free "all") rfl), He.free_ok X G (c.fact 32 (f := .free "zip") rfl), He.free_ok X G (c.fact 33 (f := .free "repr") rfl), He.free_ok X G (c.fact 34 (f := .free "int") rfl), He.free_ok X G (c.fact 35 (f := .free "bool") rfl), He.free_ok X G (c.fact 36 (f := .free "str") rfl), He.free_ok X G (c.fact 37 (f := .free "divmod") rfl), He.free_ok X G (c.fact 38 (f := .free "enumerate") rfl), He.free_ok X G (c.fact 39 (f := .free "ValueError") rfl)⟩
  have el := hfa.symm.trans T.m_law
  cases el
  have b_how_many := F_how_many.binds (ps := ["printing"]) fun _ _ _ _ _ _ us hl => match us, hl with | [_], _ => rfl
  have b_printed := F_printed.binds (ps := ["printing"]) fun _ _ _ _ _ _ us hl => match us, hl with | [_], _ => rfl
  have b_number_at := F_number_at.binds (ps := ["printing", "sheet", "row", "column"]) fun _ _ _ _ _ _ us hl => match us, hl with | [_, _, _, _], _ => rfl
  have b_seat_of := F_seat_of.binds (ps := ["printing", "number"]) fun _ _ _ _ _ _ us hl => match us, hl with | [_, _], _ => rfl
  have b_pile := F_pile.binds (ps := ["printing", "row", "column"]) fun _ _ _ _ _ _ us hl => match us, hl with | [_, _, _], _ => rfl
  have b_pile_seat := F_pile_seat.binds (ps := ["printing", "way", "at"]) fun _ _ _ _ _ _ us hl => match us, hl with | [_, _, _], _ => rfl
  have b_pile_place := F_pile_place.binds (ps := ["printing", "way", "row", "column"]) fun _ _ _ _ _ _ us hl => match us, hl with | [_, _, _, _], _ => rfl
  have b_stack_at := F_stack_at.binds (ps := ["printing", "way", "k"]) fun _ _ _ _ _ _ us hl => match us, hl with | [_, _, _], _ => rfl
  have b_stack_place := F_stack_place.binds (ps := ["printing", "way", "number"]) fun _ _ _ _ _ _ us hl => match us, hl with | [_, _, _], _ => rfl
  have b_is_rising := F_is_rising.binds (ps := ["printing", "way"]) fun _ _ _ _ _ _ us hl => match us, hl with | [_, _], _ => rfl
  have b_lfeed := F_lfeed.binds (ps := ["_law_script"]) fun _ _ _ _ _ _ us hl => match us, hl with | [_], _ => rfl
  have b_ldraw := F_ldraw.binds (ps := ["_law_feed_here", "_law_many"]) fun _ _ _ _ _ _ us hl => match us, hl with | [_, _], _ => rfl
  have b_lalike := F_lalike.binds (ps := ["_law_found", "_law_due"]) fun _ _ _ _ _ _ us hl => match us, hl with | [_, _], _ => rfl
  have b_lorder := F_lorder.binds (ps := ["_law_feed_here"]) fun _ _ _ _ _ _ us hl => match us, hl with | [_], _ => rfl
  have b_lprinting := F_lprinting.binds (ps := ["_law_feed_here", "_law_small"]) fun _ _ _ _ _ _ us hl => match us, hl with | [_, _], _ => rfl
  have b_lsizes := F_lsizes.binds (ps := ["_law_printing_here"]) fun _ _ _ _ _ _ us hl => match us, hl with | [_], _ => rfl
  have b_lnumber := F_lnumber.binds (ps := ["_law_printing_here", "_law_sheet", "_law_row", "_law_column"]) fun _ _ _ _ _ _ us hl => match us, hl with | [_, _, _, _], _ => rfl
  have b_lheard_at := F_lheard_at.binds (ps := ["_law_printing_here", "_law_way", "_law_k"]) fun _ _ _ _ _ _ us hl => match us, hl with | [_, _, _], _ => rfl
  have b_lheard_place := F_lheard_place.binds (ps := ["_law_printing_here", "_law_way", "_law_number_here"]) fun _ _ _ _ _ _ us hl => match us, hl with | [_, _, _], _ => rfl
  have b_lpiles := F_lpiles.binds (ps := ["_law_printing_here", "_law_way"]) fun _ _ _ _ _ _ us hl => match us, hl with | [_, _], _ => rfl
  have b_lnumbers := F_lnumbers.binds (ps := ["_law_printing_here", "_law_way"]) fun _ _ _ _ _ _ us hl => match us, hl with | [_, _], _ => rfl
  have b_lbeyond := F_lbeyond.binds (ps := ["_law_printing_here", "_law_way"]) fun _ _ _ _ _ _ us hl => match us, hl with | [_, _], _ => rfl
  have b_lwhole := F_lwhole.binds (ps := ["_law_printing_here", "_law_way"]) fun _ _ _ _ _ _ us hl => match us, hl with | [_, _], _ => rfl
  have b_lgreat := F_lgreat.binds (ps := ["_law_feed_here", "_law_printing_here", "_law_way"]) fun _ _ _ _ _ _ us hl => match us, hl with | [_, _, _], _ => rfl
  have b_law := F_law.binds (ps := ["_law_script"]) fun _ _ _ _ _ _ us hl => match us, hl with | [_], _ => rfl
  refine ⟨d_law, fun s v => FunD.bindsA (ps := ["_law_script"]) F0_law (fun _ _ _ _ _ _ us hl => match us, hl with | [_], _ => rfl) s [v] rfl, fun base _ _ => ?_⟩
  have G_NoNumber : FnOk (PySem.Challenge.rw_pressnotes_k09_stacks).prog w K mg base CX0 1 _ _ _ (spIn (He.ga K "NoNumber") "number") := init_ok F_NoNumber sc_NoNumber rfl rf_NoNumber.o rf_NoNumber.no (fun X h1 h2 h3 => pss_one (ps_ost (pv 0 (by rw [h1]; rfl) (by rw [h3]; exact Or.inl rfl)) (pv 1 (by rw [h1]; rfl) (by rw [h3]; exact Or.inl rfl)))) rfl
  have G_ldraw : FnOk (PySem.Challenge.rw_pressnotes_k09_stacks).prog w K mg base CX0 1 _ _ _ _ := ok_ldraw F_ldraw T
  have G_lfeed : FnOk (PySem.Challenge.rw_pressnotes_k09_stacks).prog w K mg base CX0 1 _ _ _ _ := ok_lfeed F_lfeed T
  have G_how_many : FnOk (PySem.Challenge.rw_pressnotes_k09_stacks).prog w K mg base CX0 1 _ _ _ _ := ok_how_many F_how_many T
  have G_lsizes : FnOk (PySem.Challenge.rw_pressnotes_k09_stacks).prog w K mg base CX0 1 _ _ _ _ := ok_lsizes F_lsizes T
  have G_printed : FnOk (PySem.Challenge.rw_pressnotes_k09_stacks).prog w K mg base CX0 1 _ _ _ _ := ok_printed F_printed T
  have G_pile_seat : FnOk (PySem.Challenge.rw_pressnotes_k09_stacks).prog w K mg base CX0 1 _ _ _ _ := ok_pile_seat F_pile_seat T
  have G_pile_place : FnOk (PySem.Challenge.rw_pressnotes_k09_stacks).prog w K mg base CX0 1 _ _ _ _ := ok_pile_place F_pile_place T
  have G_number_at : FnOk (PySem.Challenge.rw_pressnotes_k09_stacks).prog w K mg base CX0 2 _ _ _ _ := ok_number_at F_number_at T F_how_many b_how_many G_how_many
  have G_lnumber : FnOk (PySem.Challenge.rw_pressnotes_k09_stacks).prog w K mg base CX0 2 _ _ _ _ := ok_lnumber F_lnumber T F_lsizes b_lsizes G_lsizes
  have G_lorder : FnOk (PySem.Challenge.rw_pressnotes_k09_stacks).prog w K mg base CX0 2 _ _ _ _ := ok_lorder F_lorder T F_ldraw b_ldraw G_ldraw
  have G_lprinting : FnOk (PySem.Challenge.rw_pressnotes_k09_stacks).prog w K mg base CX0 3 _ _ _ _ := ok_lprinting F_lprinting T F_ldraw b_ldraw (G_ldraw.mono (by decide)) F_lorder b_lorder G_lorder
  have G_pile : FnOk (PySem.Challenge.rw_pressnotes_k09_stacks).prog w K mg base CX0 3 _ _ _ _ := ok_pile F_pile T F_number_at b_number_at G_number_at
  have G_seat_of : FnOk (PySem.Challenge.rw_pressnotes_k09_stacks).prog w K mg base (L2.CX (PySem.Challenge.rw_pressnotes_k09_stacks).prog w) 3 _ _ _ _ := ok_seat_of F_seat_of T F_printed b_printed (G_printed.mono (by decide)) F_how_many b_how_many (G_how_many.mono (by decide)) G_NoNumber b_NoNumber
  have G_stack_at : FnOk (PySem.Challenge.rw_pressnotes_k09_stacks).prog w K mg base (L2.CX (PySem.Challenge.rw_pressnotes_k09_stacks).prog w) 3 _ _ _ _ := ok_stack_at F_stack_at T F_pile_seat b_pile_seat (G_pile_seat.mono (by decide)) F_number_at b_number_at G_number_at G_NoNumber b_NoNumber
  have G_stack_place : FnOk (PySem.Challenge.rw_pressnotes_k09_stacks).prog w K mg base (L2.CX (PySem.Challenge.rw_pressnotes_k09_stacks).prog w) 4 _ _ _ _ := ok_stack_place F_stack_place T F_seat_of b_seat_of G_seat_of F_pile_place b_pile_place (G_pile_place.mono (by decide))
  have G_lheard_at : FnOk (PySem.Challenge.rw_pressnotes_k09_stacks).prog w K mg base CX0 5 _ _ _ _ := ok_lheard_at F_lheard_at T F_stack_at b_stack_at (G_stack_at.mono (by decide))
  have G_lheard_place : FnOk (PySem.Challenge.rw_pressnotes_k09_stacks).prog w K mg base CX0 5 _ _ _ _ := ok_lheard_place F_lheard_place T F_stack_place b_stack_place G_stack_place
  have G_is_rising : FnOk (PySem.Challenge.rw_pressnotes_k09_stacks).prog w K mg base CX0 4 _ _ _ _ := ok_is_rising F_is_rising T F_pile_seat b_pile_seat (G_pile_seat.mono (by decide)) F_pile b_pile G_pile
  have G_lpiles : FnOk (PySem.Challenge.rw_pressnotes_k09_stacks).prog w K mg base CX0 1 _ _ _ _ := ok_lpiles F_lpiles T
  have G_lnumbers : FnOk (PySem.Challenge.rw_pressnotes_k09_stacks).prog w K mg base CX0 3 _ _ _ _ := ok_lnumbers F_lnumbers T F_lpiles b_lpiles (G_lpiles.mono (by decide)) F_lnumber b_lnumber G_lnumber
  have A1 : FnOk (PySem.Challenge.rw_pressnotes_k09_stacks).prog w K mg base CX0 2 _ _ _ (spAlike K 1) := ok_lalike F_lalike T F_lalike b_lalike alike_none
  have A2 : FnOk (PySem.Challenge.rw_pressnotes_k09_stacks).prog w K mg base CX0 3 _ _ _ (spAlike K 2) := ok_lalike F_lalike T F_lalike b_lalike A1
  have G_lalike : FnOk (PySem.Challenge.rw_pressnotes_k09_stacks).prog w K mg base CX0 4 _ _ _ (spAlike K 3) := ok_lalike F_lalike T F_lalike b_lalike A2
  have G_lbeyond : FnOk (PySem.Challenge.rw_pressnotes_k09_stacks).prog w K mg base CX0 6 _ _ _ _ := ok_lbeyond F_lbeyond T F_lheard_at b_lheard_at G_lheard_at F_lheard_place b_lheard_place G_lheard_place F_lalike b_lalike (G_lalike.mono (by decide))
  have G_lwhole : FnOk (PySem.Challenge.rw_pressnotes_k09_stacks).prog w K mg base CX0 6 _ _ _ _ := ok_lwhole F_lwhole T F_lnumbers b_lnumbers (G_lnumbers.mono (by decide)) F_lheard_at b_lheard_at G_lheard_at F_lheard_place b_lheard_place G_lheard_place F_lalike b_lalike (G_lalike.mono (by decide)) F_is_rising b_is_rising (G_is_rising.mono (by decide))
  have G_lgreat : FnOk (PySem.Challenge.rw_pressnotes_k09_stacks).prog w K mg base CX0 6 _ _ _ _ := ok_lgreat F_lgreat T F_lpiles b_lpiles (G_lpiles.mono (by decide)) F_lnumber b_lnumber (G_lnumber.mono (by decide)) F_ldraw b_ldraw (G_ldraw.mono (by decide)) F_lheard_at b_lheard_at G_lheard_at F_lheard_place b_lheard_place G_lheard_place F_lalike b_lalike (G_lalike.mono (by decide)) F_is_rising b_is_rising (G_is_rising.mono (by decide))
  exact ok_law F_law T F_lfeed b_lfeed (G_lfeed.mono (by decide)) F_lprinting b_lprinting (G_lprinting.mono (by decide)) F_lwhole b_lwhole (G_lwhole.mono (by decide)) F_lbeyond b_lbeyond (G_lbeyond.mono (by decide)) F_lgreat b_lgreat (G_lgreat.mono (by decide))

end Pn
open PySem PySem.W PySem.Calls PyProof.Rows
set_option maxRecDepth 100000 in
set_option maxHeartbeats 0 in
theorem PySem.Challenge.cw_pressnotes_k09_stacks_holds : PySem.Challenge.rw_pressnotes_k09_stacks.Holds := by
  w_on; o_law
  refine HandSHeadRun.head_any (r := OpenLaw.row PySem.Challenge.rw_pressnotes_k09_stacks) (q := view (OpenLaw.row PySem.Challenge.rw_pressnotes_k09_stacks).prog [38]) (H := Pn.hk) (ob := Pn.ob) (M := 6000) (loose := [("NoteError" : PySem.Str), ("NoNumber" : PySem.Str), ("NoStars" : PySem.Str), ("NoRow" : PySem.Str), ("NoPage" : PySem.Str), ("NoPaper" : PySem.Str), ("NoWorld" : PySem.Str), ("NoBack" : PySem.Str), ("NoText" : PySem.Str), ("NoLine" : PySem.Str), ("how_many" : PySem.Str), ("printed" : PySem.Str), ("number_at" : PySem.Str), ("seat_of" : PySem.Str), ("pile" : PySem.Str), ("pile_seat" : PySem.Str), ("pile_place" : PySem.Str), ("stack_at" : PySem.Str), ("stack_place" : PySem.Str), ("is_rising" : PySem.Str), ("_law_feed" : PySem.Str), ("_law_draw" : PySem.Str), ("_law_alike" : PySem.Str), ("_law_order" : PySem.Str), ("_law_printing" : PySem.Str), ("_law_sizes" : PySem.Str), ("_law_number" : PySem.Str), ("_law_heard_at" : PySem.Str), ("_law_heard_place" : PySem.Str), ("_law_piles" : PySem.Str), ("_law_numbers" : PySem.Str), ("_law_beyond" : PySem.Str), ("_law_whole" : PySem.Str), ("_law_great" : PySem.Str)]) (d := HandSHeadRun.topDef (OpenLaw.row PySem.Challenge.rw_pressnotes_k09_stacks).prog 38) (kwd := []) Pn.ob_eq
    (by kernel_rfl) (fun s => by kernel_rfl) Pn.run (by kernel_rfl) (by kernel_rfl) (by kernel_rfl) (by rfl) (by first | assumption | decide +kernel) (by decide +kernel) ⟨rfl, rfl, rfl, rfl, rfl, by decide +kernel⟩ ?hw ?hc
  case hw => w_witness2
  case hc =>
    refine Pn.walkG (l := PySem.Challenge.rw_pressnotes_k09_stacks) (n := 63) (k := 7) (x := "_law_script") (sp := Pn.spLaw) rfl (by decide) (by kernel_rfl) ⟨rfl, by decide, by decide⟩ ?F (fun K H a ns hl sq => ⟨a, ns, rfl, sq, fun _ => rfl⟩)
    intro w mg fa h Y G hmg0
    obtain ⟨K, KX, c⟩ := Y
    have hmg : mg ("law" : PySem.Str) = some (.ref fa) := by
      have e : (HandSHeadRun.topDef (OpenLaw.row PySem.Challenge.rw_pressnotes_k09_stacks).prog 38).name = ("law" : PySem.Str) := by kernel_rfl
      rw [← e]
      exact hmg0
    obtain ⟨fd, hb, hF⟩ := Pn.facts (w := w) KX G hmg c.t.d (Pn.rfB_ok c.more)
    exact ⟨K, fd, KX, hb, hF⟩
