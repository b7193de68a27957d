import PyProof.Rows.All
import Wide.All
import OpenK.AllK
import Wide.FinOn
import HandS.ForMost
import HandS.Strs
import HandS.Sort
import HandS.SortInts
import HandS.IsInst
import HandS.Zip
import HandS.Deep
import HandS.TupLe
import HandS.TupAny
import HandS.Style
import HandS.Walk
import HandS.EndBits
import KE.SortData
import HandS.More
import HandS.Codes
import KE.KStateDown
import Lean
import HandS.Defaults
import HandS.Head0
import HandS.Head1
import HandS.Head2
import HandS.HeadEnd
import HandS.HeadHook1
import HandS.HeadHook2
import PySem.Challenge.RW_pressnotes_k11_spoilt_by
set_option Elab.async false
set_option linter.all false
set_option maxRecDepth 100000
set_option maxHeartbeats 4000000
namespace Pn
open PySem PySem.Spec PyProof.Rows L2
/-! ### Rules of our own: text times int, sorted of data, repr of data -/
theorem op_repS {X : Cx} : OpR X (binaryOp .Mult) (fun x y H Q => ∃ (z : Str) (n : Int), x = .str z ∧ y = .int n ∧ MulOk z n ∧ Q (.str (Txt.mul z n)) H) := by
  intro pins s σ H x y v u Q I rx ry h
  obtain ⟨z, n, rfl, rfl, ok, q⟩ := h
  obtain ⟨t, rfl⟩ := rx
  obtain ⟨t2, rfl⟩ := ry
  exact SB.mul ok fun t3 k => ⟨.str _, H, I.tok _, ⟨_, rfl⟩, q⟩
section
variable {X : Cx} {pins : List (Addr × Obj)} {σ : L2.St} {H : Hp} {s : Shared}
theorem each_rel : ∀ {ys : List V} {ds : List PyData} {us : List Value}, DpAll X.K H ys ds → Vals ys us → PySem.W.EachIs (fun (v : Value) (b : V × PyData) => RelV b.1 v) us (ys.zip ds)
  | _, _, _, .nil, .nil => .nil
  | _, _, _, .cons _ d, .cons r t => .cons r (each_rel d t)
theorem each_reads (I : Inv X pins σ H s) : ∀ {ys : List V} {ds : List PyData} {us : List Value}, DpAll X.K H ys ds → Vals ys us →
    PySem.W.EachIs (fun (v : Value) (b : V × PyData) => ∃ as, Reads s.heap v b.2 as) us (ys.zip ds)
  | _, _, _, .nil, .nil => .nil
  | _, _, _, .cons d1 d, .cons r t => .cons (Dp.reads I _ _ _ d1 r) (each_reads I d t)
theorem zip_snd : ∀ {ys : List V} {ds : List PyData}, DpAll X.K H ys ds → (ys.zip ds).map Prod.snd = ds
  | _, _, .nil => rfl
  | _, _, .cons _ d => by rw [List.zip_cons_cons, List.map_cons, zip_snd d]
theorem zip_len : ∀ {ys : List V} {ds : List PyData}, DpAll X.K H ys ds → (ys.zip ds).length = ys.length
  | _, _, .nil => rfl
  | _, _, .cons _ d => by rw [List.zip_cons_cons, List.length_cons, List.length_cons, zip_len d]
theorem vals_each : ∀ {bs : List (V × PyData)} {out : List Value}, PySem.W.EachIs (fun (v : Value) (b : V × PyData) => RelV b.1 v) out bs → Vals (bs.map Prod.fst) out
  | _, _, .nil => .nil
  | _, _, .cons r t => .cons r (vals_each t)
end
/-- what sorted makes of the values ys that read as the data ds -/
def sortD (ys : List V) (ds : List PyData) : List V := ((ys.zip ds).mergeSort (PySem.W.dataLe false Prod.snd)).map Prod.fst
def rSortedD (K : PySem.W.Frag) : List V → Hp → VK → Prop := fun xs H Q => ∃ (a : Addr) (ys : List V) (ds : List PyData), xs = [.ref a] ∧ SqL K H a ys ∧ DpAll K H ys ds ∧
  PySem.W.AllAlike ds ∧ PySem.W.Sortable ds ∧ (∀ d ∈ ds, d.depth ≤ 60) ∧ ∀ p, H p = none → Q (.ref p) (upd H p (.lst (sortD ys ds)))
theorem cr_sortedD {X : Cx} {k : Nat} (hr : Room k X.A) : CallR X (.builtin "sorted") (rSortedD X.K) := by
  intro pins s σ H vs us Q I r h
  obtain ⟨a, ys, ds, rfl, hs, hd, h1, h2, h3, q⟩ := h
  obtain ⟨its, rv, hl, hz⟩ := I.list hs
  rw [Vals.ref1 r]
  have un := hr.un
  refine PySem.W.sorted_data (enc := Prod.snd) (R := fun (v : Value) (b : V × PyData) => RelV b.1 v) (bs := ys.zip ds) hl.isList (each_rel hd rv) (each_reads I hd rv) (by rw [zip_snd hd]; exact h1) (by rw [zip_snd hd]; exact h2) (by rw [zip_len hd]; exact hz)
    (fun b hb => ?_) (fun out ho he => ?_)
  · have z := h3 b.2 (by rw [← zip_snd hd]; exact List.mem_map.mpr ⟨b, hb, rfl⟩)
    omega
  · obtain ⟨ep, he'⟩ := PyProof.Rows.sortedAll_at s.heap its out.toArray
    have rv2 := vals_each he
    have hlen : (sortD ys ds).length ≤ sizeLine := by
      unfold sortD
      rw [List.length_map, List.length_mergeSort, zip_len hd]
      exact hz
    exact ⟨.ref _, upd H (s.heap.objs.size + 1) (.lst (sortD ys ds)), I.laid (t' := s.toks) (fun _ _ => PyProof.Rows.sortedAll_old) (Nat.le_succ _) ⟨hlen, out, ep, rv2, he'⟩, rfl, q _ (I.hok.fresh (Nat.le_succ _))⟩
def rRepr (K : PySem.W.Frag) : List V → Hp → VK → Prop := fun xs H Q => ∃ (a : Addr) (d : PyData), xs = [.ref a] ∧ Dp K H (.ref a) d ∧ d.showable = true ∧ d.hasDict = false ∧ d.depth ≤ 60 ∧ d.shown.length ≤ sizeLine ∧ Q (.str d.shown) H
theorem cr_repr {X : Cx} {k : Nat} (hg : X.A.guards = some []) (hr : Room k X.A) : CallR X (.builtin "repr") (rRepr X.K) := by
  intro pins s σ H vs us Q I r h
  obtain ⟨a, d, rfl, hd, h1, h2, h3, h4, q⟩ := h
  rw [Vals.ref1 r]
  have un := hr.un
  obtain ⟨as, rd⟩ := Dp.reads I d _ _ hd rfl
  exact repr_of_reads' rd h1 (PyData.noDict_hsm h2) hg (by omega) (fun _ _ e => e) (fun h' u tk hk => ⟨.str _, H, I.kept hk, ⟨u, rfl⟩, q⟩) h4
/-- a walk over a range within a comprehension of two fors -/
theorem rng_w {lo : Int} {n : Nat} {H0 : Hp} {B : V → Hp → (Hp → Prop) → Prop} {Qd : Hp → Prop} (Pv : Nat → Hp → Prop) (h0 : Pv 0 H0)
    (hs : ∀ i H, i < n → Pv i H → B (.int (lo + i)) H (Pv (i + 1))) (hd : ∀ H, Pv n H → Qd H) :
    ∃ W : Nat → Nat → Hp → Prop, (∃ m, W 0 m H0) ∧ ∀ i m H, W i m H → ((Itr lo n).stop i H ∧ Qd H) ∨
      ((Itr lo n).go i H ∧ ∃ Nx : Hp → Prop, (∀ H', Nx H' → ∃ m', m' < m ∧ W (i + 1) m' H') ∧ ∀ x H', (Itr lo n).yld i H x H' → B x H' Nx) := by
  refine ⟨fun i m H => m + i = n ∧ Pv i H, ⟨n, rfl, h0⟩, ?_⟩
  rintro i m H ⟨e, p⟩
  by_cases c : i < n
  · refine Or.inr ⟨c, Pv (i + 1), fun H' p' => ⟨m - 1, by omega, by omega, p'⟩, fun x H' y => ?_⟩
    obtain ⟨rfl, rfl⟩ := y
    exact hs i _ c p
  · have z : i = n := by omega
    subst z
    exact Or.inl ⟨Nat.le_refl _, hd H p⟩
/-! a tuple that is known to have no dict (so that its methods can be called) -/
def Tpl (o : Obj) : Prop := o.cls = .type "tuple" ∧ o.dict = none
def tTupF (t : TA) : TE := fun σ H Q => t σ H fun xs H1 => xs.length ≤ sizeLine ∧ ∀ p o, H1 p = none → Tpl o → Q (.ref p) (upd H1 p (.frz o (.tup xs)))
theorem pe_tupF {X : Cx} {es : List Expr} {t : TA} {pos : Pos} {x1} (h : PA X es t) : PE X (.Tuple es x1 pos) (tTupF t) := by
  constructor
  intro pins s σ H Q I hq
  refine wpAny_Tuple_spliced (thn (h.run pos pins s σ H _ I hq) ?_)
  rintro us s1 ⟨xs, H1, I1, r, z, q⟩
  refine ⟨by rw [← r.length]; exact z, ?_⟩
  have new : (s1.heap.push { cls := .type "tuple", data := .seq us.toArray }).get? s1.heap.objs.size = some { cls := .type "tuple", data := .seq us.toArray } := Heap.get?_push_size _ rfl
  exact ⟨.ref s1.heap.objs.size, upd H1 _ (.frz { cls := .type "tuple", data := .seq us.toArray } (.tup xs)), I1.laid (t' := s1.toks) (fun _ _ e => Heap.get?_push_of_some _ e) (Nat.le_refl _) ⟨new, z, us, r, _, new, rfl, _, rfl⟩, rfl,
    q _ _ (I1.hok.fresh (Nat.le_refl _)) ⟨rfl, rfl⟩⟩
def tBMF (r : V → List V → Hp → VK → Prop) (to : TE) (t : TA) : TE := fun σ H Q => to σ H fun x H1 => (∃ p o u, x = .ref p ∧ H1 p = some (.frz o u) ∧ Tpl o) ∧ t σ H1 fun xs H2 => r x xs H2 Q
theorem pe_bmF {X : Cx} {o e : Expr} {es : List Expr} {to : TE} {t : TA} {name : Str} {apos cpos : Pos} {id : String} {r : V → List V → Hp → VK → Prop}
    (pa : PlainAttrs "tuple") (slot : Slot "tuple" name id) (hty : typeOf (.builtin id) = pure (.type "method_descriptor")) (hm : MtR X id r) (ho : PE X o to) (ha : PA X (e :: es) t)
    (hb : attributeBase o name X.env (eval o X.env) = eval o X.env := by rfl)
    (hf : ((backTo cpos (starEach (e :: es) X.env)).all (fun x => !x.1) && (backToKw cpos (keywordEach [] X.env)).all (fun x => x.1.isSome) && decide ((e :: es).length + ([] : List Keyword).length + (if ([] : List Keyword).isEmpty then 0 else 1) < 30)) = true := by rfl)
    (hl : (apos.endLine == cpos.line) = true := by rfl) (hs : starEach (e :: es) X.env = (false, eval e X.env) :: starEach es X.env := by rfl) (hp : (backTo cpos (starEach es X.env)).any (·.1) = false := by rfl) :
    PE X (.Call (.Attribute o name apos) (e :: es) [] cpos) (tBMF r to t) := by
  constructor
  intro pins s σ H Q I h
  refine wpAny_Call_method_late hb hf hl rfl (thn (ho.run pins s σ H _ I h) ?_)
  rintro v s1 ⟨x, H1, I1, r1, ⟨p, ob, u, rfl, hfz, hc, hd⟩, q1⟩
  obtain rfl : v = .ref p := r1
  obtain ⟨at1, _⟩ := I1.hok p _ hfz
  refine ⟨"tuple", id, pa, slot, hty, ⟨ob, at1, hc⟩, fun a e => by cases e; exact ⟨ob, at1, hd⟩, ?_⟩
  have run := ha.run cpos pins s1 σ H1 _ I1 q1
  rw [hs] at run ⊢
  refine Calls.callWith_builtin (by show (false || (backTo cpos (starEach es X.env)).any (·.1)) = false; rw [hp]; rfl) (Calls.evalArgs_plain ?_)
  exact thn run fun us s2 ⟨vs, H2, I2, r2, q2⟩ => hm pins s2 σ H2 (.ref p) vs (.ref p) us Q I2 rfl r2 q2
/-! ### sorted of a dict whose keys are ints, however many -/
def rSortDI : List V → Hp → VK → Prop := fun xs H Q => ∃ (a : Addr) (kvs : List (Key × V)) (ks : List Int), xs = [.ref a] ∧ Rd H a (.dK kvs) ∧ kvs.map (·.1) = ks.map Sum.inl ∧ ks.length ≤ 100000 ∧
  ∀ (ys : List Int) (p : Addr), ys.Perm ks → ys.Pairwise (· ≤ ·) → H p = none → Q (.ref p) (upd H p (.lst (ys.map V.int)))
theorem cr_sortDI {X : Cx} (calm : X.calm = true) : CallR X (.builtin "sorted") rSortDI := by
  intro pins s σ H xs us Q I r h
  obtain ⟨a, kvs, ks, rfl, hd, keys, long, q⟩ := h
  rw [Vals.ref1 r]
  obtain ⟨z, lo, vs, rel, dd⟩ := dk_rd I.hok hd
  obtain ⟨ep, at1⟩ := dd.dictAt
  have vkeys : vs.map (·.1) = ks.map Sum.inl := rel.keys.symm.trans keys
  have len1 : vs.length = ks.length := by simpa using congrArg List.length vkeys
  have line : ks.length ≤ sizeLine := Nat.le_trans long (by decide)
  refine (Calls.call_function_entry PyProof.Rows.kind_sorted PyProof.Rows.plain_sorted PyProof.Rows.entry_sorted (PyProof.Rows.args_sorted1 _) ?_); unfold Builtin.«sorted»
  refine (wpAny_bind (m := checkCount "sorted" 1 1 _) (wpAny_pure ?_))
  refine wpAny_bind (PySem.W.kdu_collect (A := X.A.in1) (PySem.W.kdl_dict (knd := mixKind X.prog X.w) (kvs := vs) (ep := ep) lo) (I.ok.hd calm) at1 (by rw [len1]; exact line) fun h1 tk acc keep got => ?_)
  have len2 : acc.toList.length = ks.length := by rw [Array.length_toList, got.1, len1]
  have ints1 : IntsAre acc.toList ks := ints_each len2 fun j v e => by
    obtain ⟨k, x, e1, e2⟩ := got.2 j v (by rw [← Array.getElem?_toList]; exact e)
    have e3 : (vs.map (·.1))[j]? = some k := by rw [List.getElem?_map, e1]; rfl
    rw [vkeys, List.getElem?_map] at e3
    obtain ⟨y, e4, e5⟩ : ∃ y, ks[j]? = some y ∧ Sum.inl y = k := by
      cases e4 : ks[j]? with
      | none => rw [e4] at e3; cases e3
      | some y => rw [e4] at e3; exact ⟨y, rfl, Option.some.inj e3⟩
    subst e5
    rcases keyIs_shape (show keyIs (Sum.inl y) v = true from e2) with ⟨i, t, ek, ev⟩ | ⟨z, t, ek, ev⟩
    · cases ek
      exact ⟨y, t, e4, ev⟩
    · cases ek
  have J : Inv X pins σ H { s with heap := h1, toks := tk } := I.kept keep
  refine wpAny_bind (wpAny_newList ?_ (by rw [len2]; exact line))
  have new : (h1.push (seqObj "list" acc.toList.toArray 0)).get? h1.objs.size = some (seqObj "list" acc.toList.toArray 0) := Heap.get?_push_size _ rfl
  show wpAny _ _ _ _ _ { s with toks := tk, heap := h1.push (seqObj "list" acc.toList.toArray 0) }
  refine wpAny_bind (wpAny_holding (wpAny_call_entry PyProof.Rows.slot_list_sort ⟨_, new, rfl⟩ PyProof.Rows.entry_list_sort (SrtO.list_sort_ord SrtO.swo_int new (by rw [len2]; exact line) (fun h2 => SrtO.ints_sortable ints1 h2) fun out o1 o2 => ⟨_, rfl, ?_⟩) (PyProof.Rows.args_list_sort _)))
  obtain ⟨g1, g2, g3⟩ := SrtO.ints_out ints1 o1 o2
  obtain ⟨en, at2⟩ := PyProof.Rows.sortedHeap_at (vs := acc.toList) (out := out.toArray) new
  have len3 : ((out.map SrtO.iv).map V.int).length ≤ sizeLine := by rw [List.length_map, g2.length_eq]; exact line
  refine wpAny_pure ⟨_, rfl, .ref h1.objs.size, upd H _ (.lst ((out.map SrtO.iv).map V.int)), J.laid (t' := tk) (fun b u e => ?_) (Nat.le_refl _) ⟨len3, out, en, vals_of_ints g1, at2⟩, rfl, q _ _ g2 g3 (J.hok.fresh (Nat.le_refl _))⟩
  have lt : b < h1.objs.size := Heap.lt_size e
  rw [PyProof.Rows.sortedHeap_old (Nat.ne_of_lt lt) (by rw [size_push']; exact Nat.lt_succ_of_lt lt)]
  exact (Heap.get?_push_of_some _ e)
/-! ### A def that is run where no repr is under way, and a law's end over it -/
structure FnG (P : Program) (w : World) (K : PySem.W.Frag) (mg : Str → Option Value) (base : Heap) (k : Nat) (f : Addr)
    (fd : FuncData) (ps : List Str) (sp : Sp) : Prop where
  len : ∀ vs H Q E, sp vs H Q E → vs.length = ps.length
  run : ∀ (A : Around) (outer : List Env) (s : Shared) (H : Hp) (args : Args) (us : List Value) (vs : List V) (Q : VK) (E : XK),
    Room k A → A.guards = some [] → Env0 P w K mg base A outer s H → BindsTo s fd args (ps.zip us) → Vals vs us → sp vs H Q E →
    codeAny (model P w) A (.call (.ref f) args) (CR CX0 outer P w H s Q E) s
section
variable {P : Program} {w : World} {K : PySem.W.Frag} {mg : Str → Option Value} {base : Heap}
/-- a body's walk, told that no repr is under way -/
theorem okG {x qual : Str} {st : Stmt} {f : Addr} {fd : FuncData} {N ps : List Str} {k : Nat} {sp : Sp}
    (F : Fun K x qual st f fd) (S : FnScope N ps (defScope st)) (hlen : ∀ vs H Q E, sp vs H Q E → vs.length = ps.length)
    (hb : ∀ (cdv : Value) (A : Around) (outer : List Env) (s : Shared) (H : Hp) (vs : List V) (Q : VK) (E : XK),
      Room k (A.deeper (envOfC qual (defScope st) s.heap.objs.size f cdv)) → (A.deeper (envOfC qual (defScope st) s.heap.objs.size f cdv)).guards = some [] →
      sp vs H Q E → ∃ t, PSs (cxOf CX0 P w K mg base N qual (defScope st) f cdv A outer s H E).nox (defBody st) t ∧
        t { nx := fun _ H' => Q .non H', rt := Q } (start N vs) H) : FnG P w K mg base (k + 1) f fd ps sp := by
  obtain ⟨oc, od, kV, doc, pm, an, cdv, ct, osl, rfl, lk, hcd⟩ := F.ex
  refine ⟨hlen, fun A outer s H args us vs Q E room gu e0 bind rel wish => ?_⟩
  have lv := hlen _ _ _ _ wish
  have old : ∀ b o, base.get? b = some o → s.heap.get? b = some o := fun b o e => (e0.bs b o e).1
  have inK : K.In s.heap := e0.mod.kin.keeps old
  refine codeAny_call_function room.depth (inK _ _ lk) rfl S.co S.gen rfl (PySem.W.codeRec_of inK hcd) (bind _ _ _ _ ?_)
  refine wpAny_newFunctionEnv_cells S.kind (fun y hy => ?_) fun env ee s1 x1 => ?_
  · obtain ⟨n, v⟩ := y
    cases S.par n (List.of_mem_zip hy).1 with
    | inl q => exact Or.inl q
    | inr q => exact Or.inr ⟨q, PySem.W.cellsFrom_some _ _ _ (Or.inl q)⟩
  subst ee
  refine ⟨(e0.mod.nolimit.keeps old).keeps x1.toInCall.keep, codeAny_func ?_⟩
  obtain ⟨t, ht, hq⟩ := hb cdv A outer s H vs Q E (room.deeper _) gu wish
  have I0 := inv_start (CX := CX0) (E := E) S room.hd e0 lv rel x1
  refine wpAny_mono (ht.nox.run [] s1 (start N vs) H _ I0 hq) (fun fl s2 hs => ?_) fun _ _ z => z
  cases fl with
  | ret u =>
    obtain ⟨v, σ2, H2, J, rv, q⟩ := hs
    exact ⟨v, H2, J.os, J.bare, J.base, J.hok, rv, q⟩
  | next =>
    obtain ⟨σ2, H2, J, q⟩ := hs
    exact ⟨.non, H2, J.os, J.bare, J.base, J.hok, rfl, q⟩
  | brk => exact hs.choose_spec.choose_spec.2.elim
  | cont => exact hs.choose_spec.choose_spec.2.elim
end
section
variable {P : Program} {w : World} {K : PySem.W.Frag} {mg mb : Str → Option Value} {k : Nat} {fa a : Addr} {fd : FuncData} {x : Str} {sp : Sp} {s1 : Shared} {vs : List Value} {ns : List Int}
/-- what the caller is told of the law's call -/
def Told (s1 : Shared) (r : Result) (s' : Shared) : Prop := r = .ok (.ret (.bool true)) ∧ OldK s1.heap s'.heap ∧ s'.os = s1.os ∧ AllBare s'.gens
theorem told_from (H : Hp) (kin : K.In s1.heap) (glob : s1.heap.Ns mainGlobals mg) (blt : s1.heap.Ns builtinsNs mb) (same : ∀ y : Str, y ≠ "__name__" → mb y = bootBuiltins y) (lim : s1.heap.NoLimit) (bare : s1.gens = #[])
    (obj : s1.heap.get? a = some { cls := .type "list", data := .seq vs.toArray }) (room : Room k callerA)
    (F : ∀ base : Heap, K.In base → base.Ns mainGlobals mg → FnG P w K mg base k fa fd [x] sp) (bind : ∀ (s : Shared) (u : Value), BindsTo s fd ⟨[u], []⟩ [(x, u)])
    (only : Only H) (wish : sp [.ref a] H (fun v _ => v = .bl true) fun _ _ _ => False) (hok : HOk P w H s1.heap) (self : ∀ b u, H b = some u → b = a ∧ K.lookup a = none) :
    codeAny (model P w) callerA (.call (.ref fa) ⟨[.ref a], []⟩) (Told s1) s1 := by
  have free : ∀ b, (b ≠ a ∨ K.lookup a ≠ none) → H b = none := fun b hb => by
    cases e : H b with
    | none => rfl
    | some u =>
      obtain ⟨e1, e2⟩ := self b u e
      cases hb with
      | inl n => exact absurd e1 n
      | inr n => exact absurd e2 n
  have nsB : ∀ {b : Addr} {m : Str → Option Value}, s1.heap.Ns b m → (hidT s1.heap H).Ns b m := by
    rintro b m ⟨o, es, ep, e, d, r⟩
    refine ⟨o, es, ep, hidT_get e (free b (Or.inl fun z => ?_)), d, r⟩
    subst z
    rw [obj] at e
    cases e
    exact nomatch d
  have kinB : K.In (hidT s1.heap H) := fun b o e => by
    refine hidT_get (kin b o e) ?_
    by_cases z : b = a
    · subst z
      exact free b (Or.inr (by rw [e]; exact fun q => nomatch q))
    · exact free b (Or.inl z)
  have limB : (hidT s1.heap H).NoLimit := by
    obtain ⟨mc, h1, h2⟩ := lim
    exact ⟨mc, nsB h1, h2⟩
  have env : Env0 P w K mg (hidT s1.heap H) callerA [] s1 H :=
    { frames := rfl, mod := ⟨kinB, nsB glob, ⟨mb, nsB blt, same⟩, limB⟩, bs := fun _ _ e => of_hidT e, bsz := Nat.le_of_eq (hidT_size _ _), funs := trivial,
      frf := fun b z => (List.not_mem_nil (show b ∈ ([] : List Addr) from z)).elim, hok := hok, bare := .of_eq bare }
  refine codeAny_mono ((F _ kinB (nsB glob)).run callerA [] s1 H ⟨[.ref a], []⟩ [.ref a] [.ref a] _ _ room rfl env (bind s1 _) (.cons rfl .nil) wish) ?_
  rintro (e | fl) s2 h
  · exact (show False from h).elim
  · cases fl with
    | ret u =>
      obtain ⟨v, H2, os2, bare2, un, hok2, rel, q⟩ := h
      have q : v = V.bl true := q
      subst q
      obtain rfl : u = Value.bool true := rel
      refine ⟨rfl, OldK.of_keep fun b o e => ?_, os2, bare2⟩
      cases z : H b with
      | none => exact un.keep b o e z (fun y => List.not_mem_nil (show b ∈ ([] : List Addr) from y)) List.not_mem_nil
      | some u =>
        obtain y | ⟨ob, xs, y⟩ := only b
        · rw [z] at y
          cases y
        · obtain ⟨g1, _⟩ := hok b _ y
          obtain ⟨g2, _⟩ := hok2 b _ (un.frzs b ob _ y)
          rw [e] at g1
          cases g1
          exact g2
    | next => exact h.elim
    | brk => exact h.elim
    | cont => exact h.elim
theorem told_law (kin : K.In s1.heap) (glob : s1.heap.Ns mainGlobals mg) (blt : s1.heap.Ns builtinsNs mb) (same : ∀ y : Str, y ≠ "__name__" → mb y = bootBuiltins y) (lim : s1.heap.NoLimit) (bare : s1.gens = #[])
    (obj : s1.heap.get? a = some { cls := .type "list", data := .seq vs.toArray }) (are : IntsAre vs ns) (long : ns.length ≤ sizeLine) (room : Room k callerA)
    (F : ∀ base : Heap, K.In base → base.Ns mainGlobals mg → FnG P w K mg base k fa fd [x] sp) (bind : ∀ (s : Shared) (u : Value), BindsTo s fd ⟨[u], []⟩ [(x, u)])
    (wish : ∀ H : Hp, SqL K H a (ns.map V.int) → sp [.ref a] H (fun v _ => v = .bl true) fun _ _ _ => False) :
    codeAny (model P w) callerA (.call (.ref fa) ⟨[.ref a], []⟩) (Told s1) s1 := by
  have rv := vals_ints are
  have nl := are.length
  cases hk : K.lookup a with
  | some o =>
    have e := kin a o hk
    rw [obj] at e
    cases e
    have sq : SqL K (fun _ => none) a (ns.map V.int) := Or.inr ⟨_, vs.toArray, _, hk, rfl, rfl, rfl, by rw [List.size_toArray, nl]; exact long, by simpa using rv⟩
    exact told_from (fun _ => none) kin glob blt same lim bare obj room F bind (fun _ => Or.inl rfl) (wish _ sq) (fun _ _ z => nomatch z) fun _ _ z => nomatch z
  | none =>
    have h1 : upd (fun _ => none) a (.frz { cls := .type "list", data := .seq vs.toArray } (.lst (ns.map V.int))) a = some (.frz { cls := .type "list", data := .seq vs.toArray } (.lst (ns.map V.int))) := upd_same
    have at_ : ∀ b u, upd (fun _ => none) a (.frz { cls := .type "list", data := .seq vs.toArray } (.lst (ns.map V.int))) b = some u → b = a ∧ u = .frz { cls := .type "list", data := .seq vs.toArray } (.lst (ns.map V.int)) := fun b u z => by
      by_cases e : b = a
      · subst e
        rw [h1] at z
        exact ⟨rfl, (Option.some.inj z).symm⟩
      · rw [upd_ne e] at z
        exact nomatch z
    refine told_from _ kin glob blt same lim bare obj room F bind (fun b => ?_) (wish _ (Or.inl (Or.inr ⟨_, h1⟩))) (fun b u z => ?_) fun b u z => ⟨(at_ b u z).1, hk⟩
    · by_cases e : b = a
      · rw [e, h1]
        exact Or.inr ⟨_, _, rfl⟩
      · exact Or.inl (upd_ne e)
    · obtain ⟨e1, e2⟩ := at_ b u z
      subst e1
      subst e2
      exact ⟨obj, by rw [List.length_map]; exact long, vs, _, rv, obj⟩
end
/-- a law's end, its def told that no repr is under way -/
theorem walkG {l : PySem.W.OpenLaw} {n k : Nat} {q : Program} {loose : List Str} {XP : (Str → Option Value) → Heap → Prop} {YP : World → Heap → Prop} {d : DefRec} {x : Str} {sp : PySem.W.Frag → Sp}
    (hn : l.most = some n) (hn2 : n ≤ sizeLine) (hdf : d.params.defaults = []) (hr : Room k callerA)
    (F : ∀ (w : World) (mg : Str → Option Value) (fa : Addr) (h : Heap), YP w h → h.Ns mainGlobals mg → mg d.name = some (.ref fa) →
      ∃ (K : PySem.W.Frag) (fd : FuncData), K.In h ∧ (∀ (s : Shared) (u : Value), BindsTo s fd ⟨[u], []⟩ [(x, u)]) ∧
        ∀ base : Heap, K.In base → base.Ns mainGlobals mg → FnG l.prog w K mg base k fa fd [x] (sp K))
    (hsp : ∀ (K : PySem.W.Frag) (H : Hp) (a : Addr) (ns : List Int), ns.length ≤ n → SqL K H a (ns.map V.int) → sp K [.ref a] H (fun v _ => v = .bl true) fun _ _ _ => False) :
    PySem.W.WalkO q loose XP YP l.row.toRowW d [] (fun f vs => PySem.call f vs) := by
  refine Att.attach_call hn hdf fun w s0 s1 mg mb fa o pm cd doc a vs ns G Y ho hd hcd hmg hobj hints hlen hg => ?_
  obtain ⟨K, fd, kin, hb, hF⟩ := F w mg fa _ Y G.T.g hmg
  exact told_law kin G.T.g G.T.b G.T.builtins G.T.nolimit hg hobj hints (Nat.le_trans hlen hn2) hr hF hb fun H sq => hsp K H a ns hlen sq

theorem mod_lo (x y : Int) (h : 0 < y) : 0 ≤ x.fmod y := Int.fmod_nonneg_of_pos _ h
theorem mod_hi (x y : Int) (h : 0 < y) : x.fmod y < y := Int.fmod_lt_of_pos _ h
/-- the feed at f: its cells, a counter of at most n, what is left of a great number -/
def Fd (H : Hp) (f c : Addr) (n : Int) : Prop := ∃ (cells : List Int) (at_ g : Int),
  H f = some (.lst [.ref c, .int at_, .int g]) ∧ H c = some (.lst (cells.map V.int)) ∧ cells.length ≤ 63 ∧ 0 ≤ at_ ∧ at_ ≤ n
theorem fd_ne {H : Hp} {f c : Addr} {cells : List Int} {a g : Int} (hf : H f = some (.lst [.ref c, .int a, .int g])) (hc : H c = some (.lst (cells.map V.int))) : c ≠ f := by
  refine ne_of hc hf fun z => ?_
  have z := HO.lst.inj z
  cases cells with
  | nil => cases z
  | cons x r => rw [List.map_cons] at z; cases z
theorem at_mod {cells : List Int} (a : Int) (h : 0 < cells.length) : ∃ v, atI (cells.map V.int) (a.fmod (((cells.map V.int).length : Nat) : Int)) = some (.int v) := by
  have hp : (0 : Int) < (((cells.map V.int).length : Nat) : Int) := by rw [List.length_map]; omega
  have h1 := mod_lo a _ hp
  have h2 := mod_hi a _ hp
  rw [List.length_map] at h1 h2 ⊢
  obtain ⟨k, hk⟩ : ∃ k : Nat, a.fmod ((cells.length : Nat) : Int) = (k : Int) := ⟨(a.fmod ((cells.length : Nat) : Int)).toNat, by omega⟩
  rw [hk] at h2 ⊢
  have hk2 : k < cells.length := by omega
  exact ⟨cells[k], atI_nat (by rw [List.getElem?_map, List.getElem?_eq_getElem hk2] <;> rfl)⟩
/-- what drawing leaves: all but the feed as it was -/
def But (f : Addr) (H H' : Hp) : Prop := ∀ a o, a ≠ f → H a = some o → H' a = some o
theorem But.refl (f : Addr) (H : Hp) : But f H H := fun _ _ _ h => h
theorem But.trans {f : Addr} {H H1 H2 : Hp} (a : But f H H1) (b : But f H1 H2) : But f H H2 := fun x o n h => b x o n (a x o n h)
theorem But.of_same {f : Addr} {H H' : Hp} (s : Same H H') : But f H H' := fun a o _ h => s a o h
theorem But.new {f : Addr} {H : Hp} {p : Addr} {o : HO} (h : H p = none) : But f H (upd H p o) := fun a u _ e => by
  rw [upd_ne (ne_of_none e h)]; exact e
theorem same_new {H : Hp} {p : Addr} (h : H p = none) (o : HO) : Same H (upd H p o) := fun b u q => by rw [upd_ne (ne_of_none q h)]; exact q
theorem But.feed {f : Addr} {H : Hp} {o : HO} : But f H (upd H f o) := fun a u n e => (upd_ne n).trans e
theorem Fd.mono {H : Hp} {f c : Addr} {n m : Int} (h : Fd H f c n) (l : n ≤ m) : Fd H f c m := by
  obtain ⟨cells, a, g, h1, h2, h3, h4, h5⟩ := h
  exact ⟨cells, a, g, h1, h2, h3, h4, by omega⟩
theorem Fd.same {H H' : Hp} {f c : Addr} {n : Int} (h : Fd H f c n) (s : Same H H') : Fd H' f c n := by
  obtain ⟨cells, a, g, h1, h2, h3⟩ := h
  exact ⟨cells, a, g, s _ _ h1, s _ _ h2, h3⟩
theorem Fd.new {H : Hp} {f c p : Addr} {n : Int} {o : HO} (h : Fd H f c n) (hp : H p = none) : Fd (upd H p o) f c n := h.same (same_new hp o)
theorem Fd.at {H : Hp} {f c : Addr} {n : Int} (h : Fd H f c n) : ∃ xs, H f = some (.lst xs) := by
  obtain ⟨cells, a, g, h1, _⟩ := h
  exact ⟨_, h1⟩
theorem Fd.cell {H : Hp} {f c : Addr} {n : Int} (h : Fd H f c n) : ∃ xs, H c = some (.lst xs) := by
  obtain ⟨cells, a, g, h1, h2, _⟩ := h
  exact ⟨_, h2⟩
theorem Fd.ne {H : Hp} {f c l : Addr} {n : Int} (h : Fd H f c n) (hl : H l = none) : l ≠ f ∧ l ≠ c := by
  obtain ⟨xs, h1⟩ := h.at
  obtain ⟨ys, h2⟩ := h.cell
  exact ⟨Ne.symm (ne_of_none h1 hl), Ne.symm (ne_of_none h2 hl)⟩
theorem Fd.upd {H : Hp} {f c l : Addr} {n : Int} {o : HO} (h : Fd H f c n) (e : l ≠ f ∧ l ≠ c) : Fd (upd H l o) f c n := by
  obtain ⟨cells, a, g, h1, h2, h3⟩ := h
  exact ⟨cells, a, g, (upd_ne (Ne.symm e.1)).trans h1, (upd_ne (Ne.symm e.2)).trans h2, h3⟩
theorem But.mut {f : Addr} {H H' : Hp} {l : Addr} {o : HO} (b : But f H H') (hl : H l = none) : But f H (upd H' l o) := fun a u n e => by
  rw [upd_ne (ne_of_none e hl)]
  exact b a u n e
theorem But.back {f c : Addr} {H H' : Hp} {t : Addr} {n : Int} (b : But f H H') (hf : Fd H' f c n) (ht : H' t = none) : H t = none := by
  cases e : H t with
  | none => rfl
  | some o =>
    have ne : t ≠ f := (hf.ne ht).1
    rw [b t o ne e] at ht
    cases ht
theorem same_mut {H H' : Hp} {l : Addr} {o : HO} (s : Same H H') (hl : H l = none) : Same H (upd H' l o) := fun b u q => by
  rw [upd_ne (ne_of_none q hl)]
  exact s _ _ q
theorem cut_take (xs : List V) (n : Nat) : cutV xs none (some (n : Int)) = xs.take n := by
  unfold cutV
  rw [HT.sIx_nat, HT.sIx_none, List.drop_zero, Nat.sub_zero]
  rw [List.take_eq_take_iff]
  omega
theorem free_of {H : Hp} {a b : Addr} {o : HO} (h : upd H a o b = none) : H b = none := by
  by_cases e : b = a
  · subst e
    rw [upd_same] at h
    cases h
  · rw [upd_ne e] at h
    exact h
def spDraw : Sp := fun vs H Q _ => ∃ (f c : Addr) (m n : Int), vs = [.ref f, .int m] ∧ Fd H f c n ∧ n ≤ 1000000 ∧ 0 < m ∧ m ≤ 1000000000 ∧
  ∀ (d : Int) (H' : Hp), 0 ≤ d → d < m → Fd H' f c (n + 1) → But f H H' → (∀ a, H a = none → H' a = none) → Q (.int d) H'
def spFeed (K : PySem.W.Frag) : Sp := fun vs H Q _ => ∃ (a : Addr) (ns : List Int), vs = [.ref a] ∧ SqL K H a (ns.map V.int) ∧
  ∀ (f c : Addr) (H' : Hp), H f = none → Same H H' → Fd H' f c 0 → Q (.ref f) H'
/-! ### Data that is alike -/
def flatD : PyData → Bool
  | .none => true
  | .bool _ => true
  | .int _ => true
  | .str _ => true
  | _ => false
/-- data of at most n lists or tuples within one another, none of more than 100,000 -/
def Nice : Nat → PyData → Prop
  | 0, d => flatD d = true
  | n + 1, d => flatD d = true ∨ ∃ ds, (d = .list ds ∨ d = .tuple ds) ∧ ds.length ≤ 100000 ∧ ∀ e ∈ ds, Nice n e
theorem Nice.flat {n : Nat} {d : PyData} (h : flatD d = true) : Nice n d := by
  cases n with
  | zero => exact h
  | succ n => exact Or.inl h
theorem kit2 {K : PySem.W.Frag} {t c1 c2 : Value} {b1 b2 : Bool} (h1 : PySem.W.kitOne K t c1 = some b1) (h2 : PySem.W.kitOne K t c2 = some b2) : PySem.W.kitAny K t [c1, c2] = some (b1 || b2) := by
  unfold PySem.W.kitAny PySem.W.kitAny PySem.W.kitAny
  rw [h1, h2]
  cases b1 <;> cases b2 <;> rfl
theorem k_NoneType_tuple {K : PySem.W.Frag} : PySem.W.kitOne K (.type "NoneType") (.type "tuple") = some false := kit_ty (by decide +kernel)
theorem k_NoneType_list {K : PySem.W.Frag} : PySem.W.kitOne K (.type "NoneType") (.type "list") = some false := kit_ty (by decide +kernel)
theorem k_NoneType_bool {K : PySem.W.Frag} : PySem.W.kitOne K (.type "NoneType") (.type "bool") = some false := kit_ty (by decide +kernel)
theorem k_NoneType_str {K : PySem.W.Frag} : PySem.W.kitOne K (.type "NoneType") (.type "str") = some false := kit_ty (by decide +kernel)
theorem k_NoneType_int {K : PySem.W.Frag} : PySem.W.kitOne K (.type "NoneType") (.type "int") = some false := kit_ty (by decide +kernel)
theorem k_bool_tuple {K : PySem.W.Frag} : PySem.W.kitOne K (.type "bool") (.type "tuple") = some false := kit_ty (by decide +kernel)
theorem k_bool_list {K : PySem.W.Frag} : PySem.W.kitOne K (.type "bool") (.type "list") = some false := kit_ty (by decide +kernel)
theorem k_bool_bool {K : PySem.W.Frag} : PySem.W.kitOne K (.type "bool") (.type "bool") = some true := kit_ty (by decide +kernel)
theorem k_bool_str {K : PySem.W.Frag} : PySem.W.kitOne K (.type "bool") (.type "str") = some false := kit_ty (by decide +kernel)
theorem k_bool_int {K : PySem.W.Frag} : PySem.W.kitOne K (.type "bool") (.type "int") = some true := kit_ty (by decide +kernel)
theorem k_int_tuple {K : PySem.W.Frag} : PySem.W.kitOne K (.type "int") (.type "tuple") = some false := kit_ty (by decide +kernel)
theorem k_int_list {K : PySem.W.Frag} : PySem.W.kitOne K (.type "int") (.type "list") = some false := kit_ty (by decide +kernel)
theorem k_int_bool {K : PySem.W.Frag} : PySem.W.kitOne K (.type "int") (.type "bool") = some false := kit_ty (by decide +kernel)
theorem k_int_str {K : PySem.W.Frag} : PySem.W.kitOne K (.type "int") (.type "str") = some false := kit_ty (by decide +kernel)
theorem k_int_int {K : PySem.W.Frag} : PySem.W.kitOne K (.type "int") (.type "int") = some true := kit_ty (by decide +kernel)
theorem k_str_tuple {K : PySem.W.Frag} : PySem.W.kitOne K (.type "str") (.type "tuple") = some false := kit_ty (by decide +kernel)
theorem k_str_list {K : PySem.W.Frag} : PySem.W.kitOne K (.type "str") (.type "list") = some false := kit_ty (by decide +kernel)
theorem k_str_bool {K : PySem.W.Frag} : PySem.W.kitOne K (.type "str") (.type "bool") = some false := kit_ty (by decide +kernel)
theorem k_str_str {K : PySem.W.Frag} : PySem.W.kitOne K (.type "str") (.type "str") = some true := kit_ty (by decide +kernel)
theorem k_str_int {K : PySem.W.Frag} : PySem.W.kitOne K (.type "str") (.type "int") = some false := kit_ty (by decide +kernel)
theorem k_list_tuple {K : PySem.W.Frag} : PySem.W.kitOne K (.type "list") (.type "tuple") = some false := kit_ty (by decide +kernel)
theorem k_list_list {K : PySem.W.Frag} : PySem.W.kitOne K (.type "list") (.type "list") = some true := kit_ty (by decide +kernel)
theorem k_list_bool {K : PySem.W.Frag} : PySem.W.kitOne K (.type "list") (.type "bool") = some false := kit_ty (by decide +kernel)
theorem k_list_str {K : PySem.W.Frag} : PySem.W.kitOne K (.type "list") (.type "str") = some false := kit_ty (by decide +kernel)
theorem k_list_int {K : PySem.W.Frag} : PySem.W.kitOne K (.type "list") (.type "int") = some false := kit_ty (by decide +kernel)
theorem k_tuple_tuple {K : PySem.W.Frag} : PySem.W.kitOne K (.type "tuple") (.type "tuple") = some true := kit_ty (by decide +kernel)
theorem k_tuple_list {K : PySem.W.Frag} : PySem.W.kitOne K (.type "tuple") (.type "list") = some false := kit_ty (by decide +kernel)
theorem k_tuple_bool {K : PySem.W.Frag} : PySem.W.kitOne K (.type "tuple") (.type "bool") = some false := kit_ty (by decide +kernel)
theorem k_tuple_str {K : PySem.W.Frag} : PySem.W.kitOne K (.type "tuple") (.type "str") = some false := kit_ty (by decide +kernel)
theorem k_tuple_int {K : PySem.W.Frag} : PySem.W.kitOne K (.type "tuple") (.type "int") = some false := kit_ty (by decide +kernel)
def tyD : PyData → String
  | .none => "NoneType"
  | .bool _ => "bool"
  | .int _ => "int"
  | .str _ => "str"
  | .list _ => "list"
  | .tuple _ => "tuple"
  | _ => "object"
theorem ty_of {K : PySem.W.Frag} {H : Hp} {v : V} {d : PyData} (h : Dp K H v d) : TyX K H v (.type (tyD d)) := by
  cases h with
  | non => exact .base .non
  | bl b => exact .base (.bl b)
  | int i => exact .base (.int i)
  | str x => exact .base (.str x)
  | lst s _ =>
    rcases s with (e | ⟨o, e⟩) | ⟨o, its, n, e, c, _⟩
    · exact .base (.lst e)
    · exact .base (.frz e)
    · exact .kList e c
  | tup s _ =>
    rcases s with (e | ⟨o, e⟩) | ⟨o, its, n, e, c, _⟩
    · exact .base (.tup e)
    · exact .fTuple e
    · exact .kTuple e c
theorem SqL.sm {K : PySem.W.Frag} {H H' : Hp} {a : Addr} {xs : List V} (e : Same H H') (h : SqL K H a xs) : SqL K H' a xs := e.seq h
theorem SqT.sm {K : PySem.W.Frag} {H H' : Hp} {a : Addr} {xs : List V} (e : Same H H') (h : SqT K H a xs) : SqT K H' a xs := by
  rcases h with (h | ⟨o, h⟩) | h
  · exact Or.inl (Or.inl (e _ _ h))
  · exact Or.inl (Or.inr ⟨o, e _ _ h⟩)
  · exact Or.inr h
mutual
theorem Dp.sm {K : PySem.W.Frag} {H H' : Hp} (e : Same H H') : ∀ {v : V} {d : PyData}, Dp K H v d → Dp K H' v d
  | _, _, .non => .non
  | _, _, .bl b => .bl b
  | _, _, .int i => .int i
  | _, _, .str x => .str x
  | _, _, .lst s a => .lst (SqL.sm e s) (DpAll.sm e a)
  | _, _, .tup s a => .tup (SqT.sm e s) (DpAll.sm e a)
theorem DpAll.sm {K : PySem.W.Frag} {H H' : Hp} (e : Same H H') : ∀ {vs : List V} {ds : List PyData}, DpAll K H vs ds → DpAll K H' vs ds
  | _, _, .nil => .nil
  | _, _, .cons a b => .cons (Dp.sm e a) (DpAll.sm e b)
end
theorem DpAll.len {K : PySem.W.Frag} {H : Hp} : ∀ {vs : List V} {ds : List PyData}, DpAll K H vs ds → vs.length = ds.length
  | _, _, .nil => rfl
  | _, _, .cons _ b => congrArg (· + 1) (DpAll.len b)
theorem DpAll.get {K : PySem.W.Frag} {H : Hp} : ∀ {vs : List V} {ds : List PyData} {i : Nat} {v : V}, DpAll K H vs ds → vs[i]? = some v → ∃ d, ds[i]? = some d ∧ Dp K H v d
  | _, _, 0, _, .cons a _, h => by
    cases h
    exact ⟨_, rfl, a⟩
  | _, _, i + 1, v, .cons _ b, h => DpAll.get (i := i) (v := v) b h
theorem walk_zt {K : PySem.W.Frag} {a b : Addr} {xs ys : List V} (hl : xs.length = ys.length) : Walk (RZ.ItzT K a b) xs.length (fun H => SqT K H a xs ∧ SqT K H b ys) (YPair (fun i => xs[i]?) (fun i => ys[i]?)) := by
  refine ⟨fun i H hi q => ?_, fun H q => ⟨xs, ys, q.1, q.2, Or.inl (Nat.le_refl _)⟩, fun i H v H' hi q y => ?_⟩
  · exact ⟨xs, ys, xs[i], ys[i]'(by omega), q.1, q.2, List.getElem?_eq_getElem hi, List.getElem?_eq_getElem (by omega)⟩
  · obtain ⟨T, x, y, h1, h2, h3, h4, h5⟩ := y
    exact ⟨T, x, y, h1, h2, h3, h4 xs q.1, h5 ys q.2⟩
/-- alike(x, y), x and y the same data -/
def spAlike (K : PySem.W.Frag) : Nat → Sp
  | 0 => fun _ _ _ _ => False
  | n + 1 => fun vs H Q _ => ∃ (x y : V) (d : PyData), vs = [x, y] ∧ Dp K H x d ∧ Dp K H y d ∧ Nice n d ∧ ∀ H', Same H H' → Q (.bl true) H'
theorem alike_none {P : Program} {w : World} {K : PySem.W.Frag} {mg : Str → Option Value} {base : Heap} {k : Nat} {f : Addr} {fd : FuncData} {ps : List Str} : FnOk P w K mg base CX0 k f fd ps (spAlike K 0) :=
  ⟨fun _ _ _ _ h => h.elim, fun _ _ _ _ _ _ _ _ _ _ _ _ _ h => h.elim⟩
/-! ### Printings -/
inductive Wd where | sh | ro | co
  deriving DecidableEq
def Wd.s : Wd → Str
  | .sh => "sheet"
  | .ro => "row"
  | .co => "column"
structure Prt where
  series : Str
  first : Int
  cols : Int
  rows : Int
  sheets : Int
  o1 : Wd
  o2 : Wd
  o3 : Wd
def Prt.size (p : Prt) : Wd → Int
  | .sh => p.sheets
  | .ro => p.rows
  | .co => p.cols
def seatW (s r c : Int) : Wd → Int
  | .sh => s
  | .ro => r
  | .co => c
def Prt.num (p : Prt) (s r c : Int) : Int := p.first + ((seatW s r c p.o1 * p.size p.o2 + seatW s r c p.o2) * p.size p.o3 + seatW s r c p.o3)
structure PrOk (p : Prt) : Prop where
  len : p.series.length ≤ 8
  f0 : 0 ≤ p.first
  c1 : 1 ≤ p.cols
  c2 : p.cols ≤ 12
  r1 : 1 ≤ p.rows
  r2 : p.rows ≤ 12
  s1 : 1 ≤ p.sheets
  s2 : p.sheets ≤ 1000000
  most : p.first + p.cols * p.rows * p.sheets ≤ 1000000000
  d12 : p.o1 ≠ p.o2
  d13 : p.o1 ≠ p.o3
  d23 : p.o2 ≠ p.o3
  chr : (p.series.cps.toList.all fun c => decide (c < 16 ^ 8)) = true
def prV (p : Prt) (t : Addr) : List V := [.str p.series, .int p.first, .int p.cols, .int p.rows, .int p.sheets, .ref t]
def ordV (p : Prt) : List V := [.str p.o1.s, .str p.o2.s, .str p.o3.s]
/-- the printing p stands at a -/
def PrAt (H : Hp) (a : Addr) (p : Prt) : Prop := ∃ t, H a = some (.tup (prV p t)) ∧ ∃ o, H t = some (.frz o (.tup (ordV p))) ∧ Tpl o
theorem PrAt.same {H H' : Hp} {a : Addr} {p : Prt} (h : PrAt H a p) (s : Same H H') : PrAt H' a p := by
  obtain ⟨t, h1, o, h2, h3⟩ := h
  exact ⟨t, s _ _ h1, o, s _ _ h2, h3⟩
theorem PrAt.but {H H' : Hp} {f c a : Addr} {p : Prt} {n : Int} (h : PrAt H a p) (hf : Fd H f c n) (s : But f H H') : PrAt H' a p := by
  obtain ⟨t, h1, o, h2, h3⟩ := h
  obtain ⟨xs, hx⟩ := hf.at
  exact ⟨t, s _ _ (ne_of h1 hx (fun z => nomatch z)) h1, o, s _ _ (ne_of h2 hx (fun z => nomatch z)) h2, h3⟩
theorem sqF {K : PySem.W.Frag} {H : Hp} {a : Addr} {o : Obj} {xs : List V} (h : H a = some (.frz o (.tup xs))) : SqT K H a xs := Or.inl (Or.inr ⟨o, h⟩)
def dictW (f : Wd → Int) : List (Key × V) := [(Sum.inr Wd.sh.s, .int (f .sh)), (Sum.inr Wd.ro.s, .int (f .ro)), (Sum.inr Wd.co.s, .int (f .co))]
def dictC (f : Wd → Int) : List (Key × V) := [(Sum.inr Wd.co.s, .int (f .co)), (Sum.inr Wd.ro.s, .int (f .ro)), (Sum.inr Wd.sh.s, .int (f .sh))]
theorem valW (f : Wd → Int) (u : Wd) : valV (dictW f) (Sum.inr u.s) = some (.int (f u)) := by cases u <;> rfl
theorem valC (f : Wd → Int) (u : Wd) : valV (dictC f) (Sum.inr u.s) = some (.int (f u)) := by cases u <;> rfl
theorem PrOk.size_lo {p : Prt} (h : PrOk p) (u : Wd) : 1 ≤ p.size u := by cases u <;> simp only [Prt.size] <;> first | exact h.s1 | exact h.r1 | exact h.c1
theorem PrOk.size_hi {p : Prt} (h : PrOk p) (u : Wd) : p.size u ≤ 1000000 := by
  have h1 := h.s2; have h2 := h.r2; have h3 := h.c2
  cases u <;> simp only [Prt.size] <;> omega
def spHow (dict : (Wd → Int) → List (Key × V)) : Sp := fun vs H Q _ => ∃ (a : Addr) (p : Prt), vs = [.ref a] ∧ PrAt H a p ∧
  ∀ (d : Addr) (H' : Hp), Same H H' → H' d = some (.dK (dict p.size)) → Q (.ref d) H'
def spNum : Sp := fun vs H Q _ => ∃ (a : Addr) (p : Prt) (s r c : Int), vs = [.ref a, .int s, .int r, .int c] ∧ PrAt H a p ∧ PrOk p ∧
  ∀ (H' : Hp), Same H H' → Q (.int (p.num s r c)) H'
theorem get_dW {H : Hp} {d : Addr} {f : Wd → Int} (h : H d = some (.dK (dictW f))) (u : Wd) : DGet H d (.str u.s) (some (.int (f u))) := by
  have q := DGet.k (k := Sum.inr u.s) h
  rw [valW] at q
  exact q
theorem get_dC {H : Hp} {d : Addr} {f : Wd → Int} (h : H d = some (.dK (dictC f))) (u : Wd) : DGet H d (.str u.s) (some (.int (f u))) := by
  have q := DGet.k (k := Sum.inr u.s) h
  rw [valC] at q
  exact q
theorem Prt.num_eq (p : Prt) (s r c : Int) : p.first + (seatW s r c p.o1 * p.size p.o2 * p.size p.o3 + seatW s r c p.o2 * p.size p.o3 + seatW s r c p.o3) = p.num s r c := by
  unfold Prt.num
  rw [Int.add_mul]
theorem PrOk.big {p : Prt} (ok : PrOk p) (u : Wd) : -(2 ^ 64) < p.size u ∧ p.size u < 2 ^ 64 := by
  have := ok.size_lo u
  have := ok.size_hi u
  constructor <;> omega
/-- what draw and its like leave for the words of an order -/
def spOrder : Sp := fun vs H Q _ => ∃ (f c : Addr) (n : Int), vs = [.ref f] ∧ Fd H f c n ∧ n ≤ 900000 ∧
  ∀ (t : Addr) (o : Obj) (u1 u2 u3 : Wd) (H' : Hp), Tpl o → u1 ≠ u2 → u1 ≠ u3 → u2 ≠ u3 → Fd H' f c (n + 2) → But f H H' → H t = none → H' t = some (.frz o (.tup [.str u1.s, .str u2.s, .str u3.s])) → Q (.ref t) H'
def spPrint : Sp := fun vs H Q _ => ∃ (f c : Addr) (n k : Int), vs = [.ref f, .int k] ∧ Fd H f c n ∧ n ≤ 800000 ∧ (k = 0 ∨ k = 1) ∧
  ∀ (a : Addr) (p : Prt) (H' : Hp), Fd H' f c (n + 20) → But f H H' → PrAt H' a p → PrOk p → (k = 1 → p.cols ≤ 4 ∧ p.rows ≤ 4 ∧ p.sheets ≤ 6) → Q (.ref a) H'
theorem mul_bound {a b : Int} {m n : Int} (a0 : 0 ≤ a) (a1 : a ≤ m) (b0 : 0 ≤ b) (b1 : b ≤ n) : 0 ≤ a * b ∧ a * b ≤ m * n :=
  ⟨Int.mul_nonneg a0 b0, Int.mul_le_mul a1 b1 b0 (Int.le_trans a0 a1)⟩
theorem prod_bound {c r s : Int} (c0 : 0 ≤ c) (c1 : c ≤ 12) (r0 : 0 ≤ r) (r1 : r ≤ 12) (s0 : 0 ≤ s) (s1 : s ≤ 1000000) : 0 ≤ c * r * s ∧ c * r * s ≤ 144000000 := by
  obtain ⟨h1, h2⟩ := mul_bound c0 c1 r0 r1
  obtain ⟨h3, h4⟩ := mul_bound h1 h2 s0 s1
  exact ⟨h3, by omega⟩
def abc : Str := "abcdefghijklmnopqrstuvwxyz"
theorem abc_at (i : Int) (h0 : 0 ≤ i) (h1 : i < 26) : ∃ ch, atI abc.cps.toList i = some ch ∧ ch < 16 ^ 8 := by
  obtain ⟨k, rfl⟩ : ∃ k : Nat, i = (k : Int) := ⟨i.toNat, by omega⟩
  have hk : k < abc.cps.toList.length := by
    have e : abc.cps.toList.length = 26 := by decide +kernel
    omega
  have all : ∀ c ∈ abc.cps.toList, c < 16 ^ 8 := by decide +kernel
  exact ⟨abc.cps.toList[k], atI_nat (List.getElem?_eq_getElem hk), all _ (List.getElem_mem hk)⟩
theorem mul_chr {ch : Nat} (n : Int) (h : ch < 16 ^ 8) : ((Txt.mul ⟨#[ch]⟩ n).cps.toList.all fun c => decide (c < 16 ^ 8)) = true := by
  rw [mul_one_list, List.all_eq_true]
  intro c hc
  rw [List.eq_of_mem_replicate hc]
  exact decide_eq_true h
theorem mul1_ok (ch : Nat) (d : Int) (h0 : 0 ≤ d) (h1 : d < 100) : MulOk ⟨#[ch]⟩ (1 + d) := by
  refine ⟨?_, fun _ _ => ?_, fun _ _ => ?_⟩
  · simp only [Bool.or_eq_false_iff, decide_eq_false_iff_not]
    constructor <;> omega
  · have e : (⟨#[ch]⟩ : Str).length = 1 := rfl
    rw [e]
    have : (1 : Int) ≤ (2 ^ 63 - 1) / (1 + d) := by
      rw [Int.le_ediv_iff_mul_le (by omega)]
      omega
    omega
  · have e : (⟨#[ch]⟩ : Str).length = 1 := rfl
    rw [e, Nat.one_mul]
    unfold Builtin.Str.tooLong
    rw [decide_eq_false_iff_not, sizeLine_eq]
    omega
theorem mul1_len (ch : Nat) (d : Int) (N : Nat) (h : 1 + d ≤ (N : Int)) : (Txt.mul ⟨#[ch]⟩ (1 + d)).length ≤ N := len_mul_one rfl h
def rowNums (p : Prt) (s r : Int) : List Int := (List.range p.cols.toNat).map fun (c : Nat) => p.num s r c
def numsOn (p : Prt) (s : Int) : List Int := (List.range p.rows.toNat).flatMap fun (r : Nat) => rowNums p s r
theorem rowNums_len (p : Prt) (s r : Int) : (rowNums p s r).length = p.cols.toNat := by
  unfold rowNums
  rw [List.length_map, List.length_range]
/-- the numbers ahead of the c-th of row r -/
def numsTo (p : Prt) (s : Int) (r c : Nat) : List Int := ((List.range r).flatMap fun (r : Nat) => rowNums p s r) ++ (List.range c).map fun (c : Nat) => p.num s r c
theorem numsTo_row (p : Prt) (s : Int) (r : Nat) : numsTo p s r p.cols.toNat = numsTo p s (r + 1) 0 := by
  unfold numsTo rowNums
  rw [List.range_succ, List.flatMap_append, List.range_zero, List.map_nil, List.append_nil, List.flatMap_singleton]
theorem numsTo_col (p : Prt) (s : Int) (r c : Nat) : numsTo p s r (c + 1) = numsTo p s r c ++ [p.num s r c] := by
  unfold numsTo
  rw [List.range_succ, List.map_append, List.append_assoc]
  rfl
theorem numsTo_all (p : Prt) (s : Int) : numsTo p s p.rows.toNat 0 = numsOn p s := by
  unfold numsTo numsOn
  rw [List.range_zero, List.map_nil, List.append_nil]
theorem numsTo_len (p : Prt) (s : Int) (r c : Nat) : (numsTo p s r c).length = r * p.cols.toNat + c := by
  unfold numsTo
  rw [List.length_append, List.length_map, List.length_range, List.length_flatMap]
  have e : (List.map (fun (a : Nat) => (rowNums p s a).length) (List.range r)) = List.replicate r p.cols.toNat := by
    apply List.ext_getElem
    · simp
    · intro i h1 h2
      simp [rowNums_len]
  rw [e, List.sum_replicate_nat]
def spNumsOn : Sp := fun vs H Q _ => ∃ (a : Addr) (p : Prt) (s : Int), vs = [.ref a, .int s] ∧ PrAt H a p ∧ PrOk p ∧
  ∀ (l : Addr) (H' : Hp), Same H H' → H l = none → H' l = some (.lst ((numsOn p s).map V.int)) → Q (.ref l) H'
/-! ### Runs -/
abbrev Rn := Str × Int × Int
def rnV (r : Rn) : List V := [.str r.1, .int r.2.1, .int r.2.2]
def rnD (r : Rn) : PyData := .tuple [.str r.1, .int r.2.1, .int r.2.2]
/-- the runs rs stand at the places ps -/
abbrev Prd (H : Hp) (ps : List Addr) (rs : List Rn) : Prop := Paired (fun (p : Addr) (r : Rn) => H p = some (.tup (rnV r))) ps rs
theorem Prd.len {H : Hp} {ps : List Addr} {rs : List Rn} (h : Prd H ps rs) : ps.length = rs.length := Paired.length h
theorem Prd.same {H H' : Hp} (s : Same H H') : ∀ {ps : List Addr} {rs : List Rn}, Prd H ps rs → Prd H' ps rs
  | _, _, .nil => .nil
  | _, _, .cons a b => .cons (s _ _ a) (Prd.same s b)
theorem Prd.get {H : Hp} : ∀ {ps : List Addr} {rs : List Rn} {i : Nat} {p : Addr}, Prd H ps rs → ps[i]? = some p → ∃ r, rs[i]? = some r ∧ H p = some (.tup (rnV r))
  | _, _, 0, _, .cons a _, h => by
    cases h
    exact ⟨_, rfl, a⟩
  | _, _, i + 1, p, .cons _ b, h => Prd.get (i := i) (p := p) b h
theorem Prd.app {H : Hp} : ∀ {ps qs : List Addr} {rs ts : List Rn}, Prd H ps rs → Prd H qs ts → Prd H (ps ++ qs) (rs ++ ts)
  | _, _, _, _, .nil, b => b
  | _, _, _, _, .cons a r, b => .cons a (Prd.app r b)
theorem Prd.mem {H : Hp} : ∀ {ps : List Addr} {rs : List Rn} {p : Addr}, Prd H ps rs → p ∈ ps → ∃ r ∈ rs, H p = some (.tup (rnV r))
  | _, _, p, .cons a b, h => by
    rcases List.mem_cons.mp h with e | e
    · subst e
      exact ⟨_, List.mem_cons_self, a⟩
    · obtain ⟨r, h1, h2⟩ := Prd.mem b e
      exact ⟨r, List.mem_cons_of_mem _ h1, h2⟩
theorem Prd.dp {K : PySem.W.Frag} {H : Hp} : ∀ {ps : List Addr} {rs : List Rn}, Prd H ps rs → DpAll K H (ps.map V.ref) (rs.map rnD)
  | _, _, .nil => .nil
  | _, _, .cons a b => .cons (.tup (SqT.of a) (.cons (.str _) (.cons (.int _) (.cons (.int _) .nil)))) (Prd.dp b)
/-- one run more, its place new or not, all else as it was -/
theorem Prd.keep {H H' : Hp} : ∀ {ps : List Addr} {rs : List Rn}, (∀ p ∈ ps, ∀ o, H p = some o → H' p = some o) → Prd H ps rs → Prd H' ps rs
  | _, _, _, .nil => .nil
  | _, _, k, .cons a b => .cons (k _ List.mem_cons_self _ a) (Prd.keep (fun p hp => k p (List.mem_cons_of_mem _ hp)) b)
def rnLe (a b : Rn) : Bool := PySem.W.dataLe false rnD a b
/-- Python's order of runs -/
def rnLt (a b : Rn) : Prop := a.1.cps.toList < b.1.cps.toList ∨ (a.1 = b.1 ∧ (a.2.1 < b.2.1 ∨ (a.2.1 = b.2.1 ∧ a.2.2 < b.2.2)))
theorem rn_lt (a b : Rn) : PySem.W.dataLt (rnD a) (rnD b) = decide (a.1.cps.toList < b.1.cps.toList ∨ (a.1 = b.1 ∧ (a.2.1 < b.2.1 ∨ (a.2.1 = b.2.1 ∧ a.2.2 < b.2.2)))) := by
  unfold rnD
  rw [PySem.W.dataLt_tuple, PySem.W.dataLt_cons (by simp [PySem.W.alike]), PySem.W.dataLt_cons (by simp [PySem.W.alike]), PySem.W.dataLt_cons (by simp [PySem.W.alike]), PySem.W.dataLt_str, PySem.W.dataLt_int, PySem.W.dataLt_int]
  rw [PyProof.Rows.lex_irrefl]
  simp only [PyData.eqv, beq_iff_eq]
  by_cases h1 : a.1 = b.1
  · have n : ¬ a.1.cps.toList < b.1.cps.toList := by
      rw [h1]
      exact List.lt_irrefl _
    by_cases h2 : a.2.1 = b.2.1
    · by_cases h3 : a.2.2 = b.2.2
      · rw [if_pos h1, if_pos h2, if_pos h3]
        symm
        rw [decide_eq_false_iff_not]
        rintro (h | ⟨_, h | ⟨_, h⟩⟩)
        · exact n h
        · omega
        · omega
      · rw [if_pos h1, if_pos h2, if_neg h3, decide_eq_decide]
        refine ⟨fun h => Or.inr ⟨h1, Or.inr ⟨h2, h⟩⟩, ?_⟩
        rintro (h | ⟨_, h | ⟨_, h⟩⟩)
        · exact absurd h n
        · omega
        · exact h
    · rw [if_pos h1, if_neg h2, decide_eq_decide]
      refine ⟨fun h => Or.inr ⟨h1, Or.inl h⟩, ?_⟩
      rintro (h | ⟨_, h | ⟨h, _⟩⟩)
      · exact absurd h n
      · exact h
      · exact absurd h h2
  · rw [if_neg h1, decide_eq_decide]
    refine ⟨Or.inl, ?_⟩
    rintro (h | ⟨h, _⟩)
    · exact h
    · exact absurd h h1
def apart (a b : Rn) : Bool := if a.1 = b.1 then decide (a.2.2 < b.2.1) else decide (a.1.cps.toList < b.1.cps.toList)
def push (acc : List Rn) (r : Rn) : List Rn := match acc.getLast? with
  | none => [r]
  | some l => if apart l r then acc ++ [r] else acc.dropLast ++ [(l.1, l.2.1, if r.2.2 > l.2.2 then r.2.2 else l.2.2)]
def merge (rs : List Rn) : List Rn := rs.foldl push []
def runsOf (rs : List Rn) : List Rn := merge (rs.mergeSort rnLe)
theorem sort_rn {H : Hp} {ps : List Addr} {rs : List Rn} (h : Prd H ps rs) : ∃ qs : List Addr, sortD (ps.map V.ref) (rs.map rnD) = qs.map V.ref ∧ Prd H qs (rs.mergeSort rnLe) := by
  have hl := h.len
  have e1 : ((ps.map V.ref).zip (rs.map rnD)) = (ps.zip rs).map (fun x => (V.ref x.1, rnD x.2)) := by
    rw [List.zip_map]
    rfl
  refine ⟨((ps.zip rs).mergeSort (fun x y => rnLe x.2 y.2)).map Prod.fst, ?_, ?_⟩
  · unfold sortD
    rw [e1, ← PySem.W.sort_maps (r := fun x y => rnLe x.2 y.2) (fun x : Addr × Rn => (V.ref x.1, rnD x.2)) (fun _ _ _ _ => rfl), List.map_map, List.map_map]
    rfl
  · have e2 : ((ps.zip rs).mergeSort (fun x y => rnLe x.2 y.2)).map Prod.snd = rs.mergeSort rnLe := by
      rw [PySem.W.sort_maps (s := rnLe) Prod.snd (fun _ _ _ _ => rfl), List.map_snd_zip (by omega)]
    rw [← e2]
    have at_ : ∀ x ∈ ps.zip rs, H x.1 = some (.tup (rnV x.2)) := by
      clear e1 e2 hl
      induction h with
      | nil => exact fun x hx => nomatch hx
      | cons a b ih =>
        intro x hx
        rcases List.mem_cons.mp hx with z | z
        · subst z
          exact a
        · exact ih x z
    have all : ∀ l : List (Addr × Rn), (∀ x ∈ l, H x.1 = some (.tup (rnV x.2))) → Prd H (l.map Prod.fst) (l.map Prod.snd) := fun l => by
      induction l with
      | nil => exact fun _ => .nil
      | cons x l ih => exact fun k => .cons (k x List.mem_cons_self) (ih fun y hy => k y (List.mem_cons_of_mem _ hy))
    exact all _ fun x hx => at_ x (List.mem_mergeSort.mp hx)
theorem rn_alike (rs : List Rn) : PySem.W.AllAlike (rs.map rnD) := by
  intro d hd e he
  obtain ⟨a, _, rfl⟩ := List.mem_map.mp hd
  obtain ⟨b, _, rfl⟩ := List.mem_map.mp he
  simp [rnD, PySem.W.alike, PySem.W.alikeAll]
theorem rn_sortable (rs : List Rn) : PySem.W.Sortable (rs.map rnD) := by
  refine Or.inl fun d hd => ?_
  obtain ⟨a, _, rfl⟩ := List.mem_map.mp hd
  exact ⟨_, _, rfl⟩
theorem rn_depth (rs : List Rn) : ∀ d ∈ rs.map rnD, d.depth ≤ 60 := by
  intro d hd
  obtain ⟨a, _, rfl⟩ := List.mem_map.mp hd
  simp [rnD, PyData.depth, PyData.depthAll]
theorem push_len (acc : List Rn) (r : Rn) : (push acc r).length ≤ acc.length + 1 := by
  unfold push
  split
  · simp
  · split
    · simp
    · simp
theorem merge_len (rs : List Rn) : (merge rs).length ≤ rs.length := by
  have all : ∀ (l acc : List Rn), (l.foldl push acc).length ≤ acc.length + l.length := fun l => by
    induction l with
    | nil => intro acc; simp
    | cons r l ih =>
      intro acc
      have h1 := ih (push acc r)
      have h2 := push_len acc r
      rw [List.foldl_cons, List.length_cons]
      omega
  have z := all rs []
  rw [List.length_nil, Nat.zero_add] at z
  exact z
theorem push_snoc (acc : List Rn) (l r : Rn) : push (acc ++ [l]) r = if apart l r then acc ++ [l] ++ [r] else acc ++ [(l.1, l.2.1, if r.2.2 > l.2.2 then r.2.2 else l.2.2)] := by
  unfold push
  rw [List.getLast?_concat]
  simp only [List.dropLast_concat]
theorem Prd.snoc {H : Hp} : ∀ {ps : List Addr} {rs : List Rn} {p : Addr}, Prd H (ps ++ [p]) rs → ∃ ts r, rs = ts ++ [r] ∧ Prd H ps ts ∧ H p = some (.tup (rnV r))
  | [], _, p, h => by
    cases h with
    | cons a b =>
      cases b
      exact ⟨[], _, rfl, .nil, a⟩
  | x :: ps, _, p, h => by
    cases h with
    | cons a b =>
      obtain ⟨ts, r, rfl, h1, h2⟩ := Prd.snoc b
      exact ⟨_ :: ts, r, rfl, .cons a h1, h2⟩
theorem Prd.one {H : Hp} {p : Addr} {r : Rn} (h : H p = some (.tup (rnV r))) : Prd H [p] [r] := .cons h .nil
theorem ix_last (n : Nat) : ixN (n + 1) (-1) = some n := by
  unfold ixN
  rw [if_neg (by omega), if_pos (by omega)]
  exact congrArg some (by omega)
theorem nil_or_snoc {α : Type} (l : List α) : l = [] ∨ ∃ i x, l = i ++ [x] := by
  rcases List.eq_nil_or_concat l with h | ⟨i, x, h⟩
  · exact .inl h
  · exact .inr ⟨i, x, by rw [h, List.concat_eq_append]⟩
theorem merge_more {l : List Rn} {i : Nat} {r : Rn} (h : l[i]? = some r) : merge (l.take (i + 1)) = push (merge (l.take i)) r := by
  unfold merge
  obtain ⟨hi, e⟩ := List.getElem?_eq_some_iff.mp h
  rw [List.take_succ_eq_append_getElem hi, List.foldl_append, e]
  rfl
def spApart : Sp := fun vs H Q _ => ∃ (p q : Addr) (a b : Rn), vs = [.ref p, .ref q] ∧ H p = some (.tup (rnV a)) ∧ H q = some (.tup (rnV b)) ∧ Q (.bl (apart a b)) H
def spRunsOf (K : PySem.W.Frag) : Sp := fun vs H Q _ => ∃ (a : Addr) (ps : List Addr) (rs : List Rn), vs = [.ref a] ∧ SqL K H a (ps.map V.ref) ∧ Prd H ps rs ∧ rs.length ≤ 100000 ∧
  ∀ (t : Addr) (qs : List Addr) (H' : Hp), Same H H' → H t = none → H' t = some (.tup (qs.map V.ref)) → Prd H' qs (runsOf rs) → Q (.ref t) H'
def single (s : Str) (n : Int) : Rn := (s, n, n + 1)
def spRunsNums : Sp := fun vs H Q _ => ∃ (a l : Addr) (p : Prt) (ns : List Int), vs = [.ref a, .ref l] ∧ PrAt H a p ∧ H l = some (.lst (ns.map V.int)) ∧ ns.length ≤ 100000 ∧
  ∀ (t : Addr) (qs : List Addr) (H' : Hp), Same H H' → H t = none → H' t = some (.tup (qs.map V.ref)) → Prd H' qs (runsOf (ns.map (single p.series))) → Q (.ref t) H'
def spSheetRuns : Sp := fun vs H Q _ => ∃ (a : Addr) (p : Prt) (s : Int), vs = [.ref a, .int s] ∧ PrAt H a p ∧ PrOk p ∧
  ∀ (t : Addr) (qs : List Addr) (H' : Hp), Same H H' → H t = none → H' t = some (.tup (qs.map V.ref)) → Prd H' qs (runsOf ((numsOn p s).map (single p.series))) → Q (.ref t) H'
def spPile (f : Prt → Int → Int → Int) : Sp := fun vs H Q _ => ∃ (a : Addr) (p : Prt) (r c : Int), vs = [.ref a, .int r, .int c] ∧ PrAt H a p ∧ PrOk p ∧
  ∀ (t : Addr) (H' : Hp), Same H H' → H t = none → H' t = some (.tup [.int (p.num 0 r c), .int (f p r c), .int p.sheets]) → Q (.ref t) H'
theorem numsOn_len {p : Prt} (ok : PrOk p) (s : Int) : (numsOn p s).length ≤ 144 := by
  rw [← numsTo_all, numsTo_len]
  have h1 := ok.r2
  have h2 := ok.c2
  have : p.rows.toNat * p.cols.toNat ≤ 12 * 12 := Nat.mul_le_mul (by omega) (by omega)
  omega
/-! ### Sheets: numbers on a sheet are unlike; joined they are the runs -/
theorem mixed {x y n c d : Int} (e : x * n + c = y * n + d) (c0 : 0 ≤ c) (c1 : c < n) (d0 : 0 ≤ d) (d1 : d < n) : x = y ∧ c = d := by
  have h1 : (x * n + c) / n = x := by
    rw [Int.add_comm, Int.add_mul_ediv_right _ _ (by omega), Int.ediv_eq_zero_of_lt c0 c1, Int.zero_add]
  have h2 : (y * n + d) / n = y := by
    rw [Int.add_comm, Int.add_mul_ediv_right _ _ (by omega), Int.ediv_eq_zero_of_lt d0 d1, Int.zero_add]
  have h3 : x = y := by rw [← h1, ← h2, e]
  subst h3
  exact ⟨rfl, by omega⟩
theorem cancel {x y n : Int} (e : x * n = y * n) (h : 1 ≤ n) : x = y := Int.eq_of_mul_eq_mul_right (by omega) e
theorem num_inj {p : Prt} (ok : PrOk p) {s r c r' c' : Int} (r0 : 0 ≤ r) (r1 : r < p.rows) (c0 : 0 ≤ c) (c1 : c < p.cols) (r0' : 0 ≤ r') (r1' : r' < p.rows) (c0' : 0 ≤ c') (c1' : c' < p.cols)
    (e : p.num s r c = p.num s r' c') : r = r' ∧ c = c' := by
  obtain ⟨series, first, cols, rows, sheets, o1, o2, o3⟩ := p
  have s1 := ok.s1
  have d12 := ok.d12
  have d13 := ok.d13
  have d23 := ok.d23
  dsimp only at *
  unfold Prt.num at e
  dsimp only at e
  have e := Int.add_left_cancel e
  cases o1 <;> cases o2 <;> cases o3 <;> first | exact absurd rfl d12 | exact absurd rfl d13 | exact absurd rfl d23 | skip
  all_goals simp only [seatW, Prt.size] at e
  · obtain ⟨h1, h2⟩ := mixed e c0 c1 c0' c1'
    exact ⟨by omega, h2⟩
  · obtain ⟨h1, h2⟩ := mixed e r0 r1 r0' r1'
    exact ⟨h2, by omega⟩
  · obtain ⟨h1, h2⟩ := mixed e c0 c1 c0' c1'
    exact ⟨cancel (n := sheets) (by omega) s1, h2⟩
  · have h1 := cancel (x := r * cols + c) (y := r' * cols + c') (n := sheets) (by omega) s1
    exact mixed h1 c0 c1 c0' c1'
  · obtain ⟨h1, h2⟩ := mixed e r0 r1 r0' r1'
    exact ⟨h2, cancel (n := sheets) (by omega) s1⟩
  · have h1 := cancel (x := c * rows + r) (y := c' * rows + r') (n := sheets) (by omega) s1
    obtain ⟨h2, h3⟩ := mixed h1 r0 r1 r0' r1'
    exact ⟨h3, h2⟩
theorem nums_nodup {p : Prt} (ok : PrOk p) (s : Int) : (numsOn p s).Pairwise (· ≠ ·) := by
  unfold numsOn
  rw [List.pairwise_flatMap]
  refine ⟨fun r hr => ?_, ?_⟩
  · unfold rowNums
    rw [List.pairwise_map]
    refine List.Pairwise.imp_of_mem ?_ List.nodup_range
    intro c c' hc hc' ne e
    have h1 := List.mem_range.mp hr
    have h2 := List.mem_range.mp hc
    have h3 := List.mem_range.mp hc'
    have z := num_inj ok (by omega) (by omega) (by omega) (by omega) (by omega) (by omega) (by omega) (by omega) e
    exact ne (by omega)
  · refine List.Pairwise.imp_of_mem ?_ List.nodup_range
    intro r r' hr hr' ne x hx y hy e
    unfold rowNums at hx hy
    obtain ⟨c, hc, rfl⟩ := List.mem_map.mp hx
    obtain ⟨c', hc', rfl⟩ := List.mem_map.mp hy
    have h1 := List.mem_range.mp hr
    have h2 := List.mem_range.mp hr'
    have h3 := List.mem_range.mp hc
    have h4 := List.mem_range.mp hc'
    have z := num_inj ok (by omega) (by omega) (by omega) (by omega) (by omega) (by omega) (by omega) (by omega) e
    exact ne (by omega)
/-- one number more, as the law joins them -/
def step (s : Str) (acc : List Rn) (n : Int) : List Rn := match acc.getLast? with
  | none => [single s n]
  | some l => if l.2.2 = n then acc.dropLast ++ [(s, l.2.1, n + 1)] else acc ++ [single s n]
theorem step_snoc (s : Str) (acc : List Rn) (l : Rn) (n : Int) : step s (acc ++ [l]) n = if l.2.2 = n then acc ++ [(s, l.2.1, n + 1)] else acc ++ [l] ++ [single s n] := by
  unfold step
  rw [List.getLast?_concat]
  simp only [List.dropLast_concat]
theorem push_step {s : Str} {acc : List Rn} {n : Int} (h : ∀ l, acc.getLast? = some l → l.1 = s ∧ l.2.2 ≤ n) : push acc (single s n) = step s acc n := by
  rcases nil_or_snoc acc with rfl | ⟨i, l, rfl⟩
  · rfl
  · obtain ⟨h1, h2⟩ := h l List.getLast?_concat
    rw [push_snoc, step_snoc]
    have e : apart l (single s n) = decide (l.2.2 < n) := if_pos h1
    rw [e]
    by_cases c : l.2.2 = n
    · rw [if_neg (by rw [decide_eq_true_eq]; omega), if_pos c]
      have m : (if (single s n).2.2 > l.2.2 then (single s n).2.2 else l.2.2) = n + 1 := if_pos (show n + 1 > l.2.2 by omega)
      rw [m, h1]
    · rw [if_pos (by rw [decide_eq_true_eq]; omega), if_neg c]
theorem step_last (s : Str) (acc : List Rn) (n : Int) : ∃ i l, step s acc n = i ++ [l] ∧ l.1 = s ∧ l.2.2 = n + 1 := by
  rcases nil_or_snoc acc with rfl | ⟨i, l, rfl⟩
  · exact ⟨[], single s n, rfl, rfl, rfl⟩
  · rw [step_snoc]
    by_cases c : l.2.2 = n
    · rw [if_pos c]
      exact ⟨_, _, rfl, rfl, rfl⟩
    · rw [if_neg c]
      exact ⟨_, _, rfl, rfl, rfl⟩
theorem fold_step (s : Str) : ∀ (ns : List Int) (acc : List Rn), ns.Pairwise (· < ·) → (∀ l, acc.getLast? = some l → l.1 = s ∧ ∀ n ∈ ns, l.2.2 ≤ n) → (ns.map (single s)).foldl push acc = ns.foldl (step s) acc
  | [], _, _, _ => rfl
  | n :: ns, acc, hp, h => by
    have hp := List.pairwise_cons.mp hp
    rw [List.map_cons, List.foldl_cons, List.foldl_cons, push_step (fun l hl => ⟨(h l hl).1, (h l hl).2 n List.mem_cons_self⟩)]
    refine fold_step s ns _ hp.2 fun l hl => ?_
    obtain ⟨i, l', e, h1, h2⟩ := step_last s acc n
    rw [e, List.getLast?_concat] at hl
    cases hl
    refine ⟨h1, fun m hm => ?_⟩
    have := hp.1 m hm
    omega
theorem single_le (s : Str) (a b : Int) : rnLe (single s a) (single s b) = decide (a ≤ b) := by
  show (!PySem.W.dataLt (rnD (single s b)) (rnD (single s a))) = _
  rw [rn_lt]
  have n : ¬ (single s b).1.cps.toList < (single s a).1.cps.toList := List.lt_irrefl _
  by_cases c : b < a
  · rw [decide_eq_true (Or.inr ⟨rfl, Or.inl c⟩), decide_eq_false (by omega)]
    rfl
  · have z : ¬ ((single s b).1.cps.toList < (single s a).1.cps.toList ∨ (single s b).1 = (single s a).1 ∧ ((single s b).2.1 < (single s a).2.1 ∨ (single s b).2.1 = (single s a).2.1 ∧ (single s b).2.2 < (single s a).2.2)) := by
      rintro (h | ⟨_, h | ⟨_, h⟩⟩)
      · exact n h
      · exact c h
      · have h : b + 1 < a + 1 := h
        omega
    rw [decide_eq_false z, decide_eq_true (by omega)]
    rfl
theorem runsOf_singles {s : Str} {ns ms : List Int} (hp : ms.Perm ns) (hs : ms.Pairwise (· ≤ ·)) (hn : ns.Pairwise (· ≠ ·)) : ms.foldl (step s) [] = runsOf (ns.map (single s)) := by
  unfold runsOf merge
  have e1 : (ns.map (single s)).mergeSort rnLe = (ns.mergeSort fun a b => decide (a ≤ b)).map (single s) := (PySem.W.sort_maps (single s) (fun a _ b _ => (single_le s a b).symm)).symm
  have e2 : ms = ns.mergeSort fun a b => decide (a ≤ b) := by
    refine List.Perm.eq_of_pairwise (le := fun a b => a ≤ b) (fun a b _ _ => Int.le_antisymm) hs ?_ (hp.trans (List.mergeSort_perm _ _).symm)
    have z := List.pairwise_mergeSort (le := fun (a b : Int) => decide (a ≤ b)) (fun a b c h1 h2 => by rw [decide_eq_true_eq] at *; omega) (fun a b => by rw [Bool.or_eq_true, decide_eq_true_eq, decide_eq_true_eq]; omega) ns
    exact z.imp fun h => of_decide_eq_true h
  have lt : ms.Pairwise (· < ·) := by
    have hm : ms.Pairwise (· ≠ ·) := (hp.pairwise_iff (fun h => Ne.symm h)).mpr hn
    exact (hs.and hm).imp fun h => by omega
  rw [e1, ← e2]
  exact (fold_step s ms [] lt fun l hl => nomatch hl).symm
theorem step_len (s : Str) (acc : List Rn) (n : Int) : (step s acc n).length ≤ acc.length + 1 := by
  rcases nil_or_snoc acc with rfl | ⟨i, l, rfl⟩
  · exact Nat.le_refl _
  · rw [step_snoc]
    split <;> simp
theorem steps_len (s : Str) (ns : List Int) : (ns.foldl (step s) []).length ≤ ns.length := by
  have all : ∀ (l : List Int) (acc : List Rn), (l.foldl (step s) acc).length ≤ acc.length + l.length := fun l => by
    induction l with
    | nil => intro acc; simp
    | cons r l ih =>
      intro acc
      have h1 := ih (step s acc r)
      have h2 := step_len s acc r
      rw [List.foldl_cons, List.length_cons]
      omega
  have z := all ns []
  rw [List.length_nil, Nat.zero_add] at z
  exact z
theorem steps_more {s : Str} {l : List Int} {i : Nat} {n : Int} (h : l[i]? = some n) : (l.take (i + 1)).foldl (step s) [] = step s ((l.take i).foldl (step s) []) n := by
  obtain ⟨hi, e⟩ := List.getElem?_eq_some_iff.mp h
  rw [List.take_succ_eq_append_getElem hi, List.foldl_append, e]
  rfl
/-- what a pile's numbers grow by, from the sizes of the words behind "sheet" -/
def stepOf (p : Prt) : Int := match p.o1, p.o2, p.o3 with
  | .sh, b, c => 1 * p.size b * p.size c
  | _, .sh, c => 1 * p.size c
  | _, _, _ => 1
theorem step_of {p : Prt} (ok : PrOk p) (r c : Int) : p.num 1 r c - p.num 0 r c = stepOf p := by
  obtain ⟨series, first, cols, rows, sheets, o1, o2, o3⟩ := p
  have d12 := ok.d12
  have d13 := ok.d13
  have d23 := ok.d23
  dsimp only at *
  unfold Prt.num stepOf
  dsimp only
  cases o1 <;> cases o2 <;> cases o3 <;> first | exact absurd rfl d12 | exact absurd rfl d13 | exact absurd rfl d23 | skip
  all_goals simp only [seatW, Prt.size, Int.zero_mul, Int.one_mul, Int.add_mul, Int.zero_add]
  all_goals omega
def strsW (ws : List Wd) : List V := ws.map fun w => V.str w.s
theorem behind {p : Prt} (ok : PrOk p) : ∃ (j : Nat) (bs : List Wd), [p.o1.s, p.o2.s, p.o3.s][j]? = some Wd.sh.s ∧ (∀ m, m < j → [p.o1.s, p.o2.s, p.o3.s][m]? ≠ some Wd.sh.s) ∧
    cutV (ordV p) (some ((j : Int) + 1)) none = strsW bs ∧ bs.foldl (fun x w => x * p.size w) 1 = stepOf p ∧ j < 3 := by
  obtain ⟨series, first, cols, rows, sheets, o1, o2, o3⟩ := p
  have d12 := ok.d12
  have d13 := ok.d13
  have d23 := ok.d23
  dsimp only at *
  cases o1 <;> cases o2 <;> cases o3 <;> first | exact absurd rfl d12 | exact absurd rfl d13 | exact absurd rfl d23 | skip
  · exact ⟨0, [.ro, .co], rfl, fun m hm => absurd hm (Nat.not_lt_zero _), rfl, rfl, by decide⟩
  · exact ⟨0, [.co, .ro], rfl, fun m hm => absurd hm (Nat.not_lt_zero _), rfl, rfl, by decide⟩
  · refine ⟨1, [.co], rfl, fun m hm => ?_, rfl, rfl, by decide⟩
    obtain rfl : m = 0 := by omega
    decide +kernel
  · refine ⟨2, [], rfl, fun m hm => ?_, rfl, rfl, by decide⟩
    rcases (show m = 0 ∨ m = 1 by omega) with rfl | rfl <;> decide +kernel
  · refine ⟨1, [.ro], rfl, fun m hm => ?_, rfl, rfl, by decide⟩
    obtain rfl : m = 0 := by omega
    decide +kernel
  · refine ⟨2, [], rfl, fun m hm => ?_, rfl, rfl, by decide⟩
    rcases (show m = 0 ∨ m = 1 by omega) with rfl | rfl <;> decide +kernel
theorem PrOk.thin1 {p : Prt} (ok : PrOk p) : PrOk { p with sheets := 1 } := by
  have h1 := ok.most
  have h2 : p.cols * p.rows * 1 ≤ p.cols * p.rows * p.sheets := Int.mul_le_mul_of_nonneg_left ok.s1 (Int.mul_nonneg (by have := ok.c1; omega) (by have := ok.r1; omega))
  exact ⟨ok.len, ok.f0, ok.c1, ok.c2, ok.r1, ok.r2, Int.le_refl 1, (show (1 : Int) ≤ 1000000 by decide), by show p.first + p.cols * p.rows * 1 ≤ _; omega, ok.d12, ok.d13, ok.d23, ok.chr⟩
theorem PrOk.thin2 {p : Prt} (ok : PrOk p) : PrOk { p with cols := 1 } := by
  have h1 := ok.most
  have h3 := ok.s1
  have h4 := ok.r1
  have h2 : 1 * p.rows * p.sheets ≤ p.cols * p.rows * p.sheets := Int.mul_le_mul_of_nonneg_right (Int.mul_le_mul_of_nonneg_right ok.c1 (by omega)) (by omega)
  exact ⟨ok.len, ok.f0, Int.le_refl 1, (show (1 : Int) ≤ 12 by decide), ok.r1, ok.r2, ok.s1, ok.s2, by show p.first + 1 * p.rows * p.sheets ≤ _; omega, ok.d12, ok.d13, ok.d23, ok.chr⟩
theorem PrOk.thin3 {p : Prt} (ok : PrOk p) : PrOk { p with rows := 1 } := by
  have h1 := ok.most
  have h3 := ok.s1
  have h4 := ok.c1
  have h2 : p.cols * 1 * p.sheets ≤ p.cols * p.rows * p.sheets := Int.mul_le_mul_of_nonneg_right (Int.mul_le_mul_of_nonneg_left ok.r1 (by omega)) (by omega)
  exact ⟨ok.len, ok.f0, ok.c1, ok.c2, Int.le_refl 1, (show (1 : Int) ≤ 12 by decide), ok.s1, ok.s2, by show p.first + p.cols * 1 * p.sheets ≤ _; omega, ok.d12, ok.d13, ok.d23, ok.chr⟩
/-- right printings at these places -/
def PrsAt (H : Hp) (as : List Addr) (ps : List Prt) : Prop := Paired (fun (a : Addr) (p : Prt) => PrAt H a p ∧ PrOk p) as ps
theorem PrsAt.same {H H' : Hp} (s : Same H H') : ∀ {as : List Addr} {ps : List Prt}, PrsAt H as ps → PrsAt H' as ps
  | _, _, .nil => .nil
  | _, _, .cons a b => .cons ⟨a.1.same s, a.2⟩ (PrsAt.same s b)
theorem PrsAt.but {H H' : Hp} {f c : Addr} {n : Int} (hf : Fd H f c n) (s : But f H H') : ∀ {as : List Addr} {ps : List Prt}, PrsAt H as ps → PrsAt H' as ps
  | _, _, .nil => .nil
  | _, _, .cons a b => .cons ⟨a.1.but hf s, a.2⟩ (PrsAt.but hf s b)
theorem PrsAt.get {H : Hp} : ∀ {as : List Addr} {ps : List Prt} {i : Nat} {a : Addr}, PrsAt H as ps → as[i]? = some a → ∃ p, ps[i]? = some p ∧ PrAt H a p ∧ PrOk p
  | _, _, 0, _, .cons a _, h => by
    cases h
    exact ⟨_, rfl, a.1, a.2⟩
  | _, _, i + 1, a, .cons _ b, h => PrsAt.get (i := i) (a := a) b h
def spPrints : Sp := fun vs H Q _ => ∃ (f c : Addr) (n : Int), vs = [.ref f] ∧ Fd H f c n ∧ n ≤ 700000 ∧
  ∀ (l : Addr) (as : List Addr) (ps : List Prt) (H' : Hp), Fd H' f c (n + 50) → But f H H' → l ≠ f → H' l = some (.lst (as.map V.ref)) → PrsAt H' as ps → as.length = 4 → Q (.ref l) H'
/-! ### How long a repr is -/
mutual
def cost : PyData → Nat
  | .none => 4
  | .bool _ => 5
  | .int _ => 2000
  | .str x => 10 * x.length + 2
  | .list xs => costAll xs + 3
  | .tuple xs => costAll xs + 3
  | .dict _ => 0
def costAll : List PyData → Nat
  | [] => 0
  | x :: xs => cost x + 2 + costAll xs
end
mutual
def fineD : PyData → Bool
  | .none => true
  | .bool _ => true
  | .int i => decide (i.natAbs.log2 < 1920)
  | .str x => x.cps.toList.all fun c => decide (c < 16 ^ 8)
  | .list xs => fineAll xs
  | .tuple xs => fineAll xs
  | .dict _ => false
def fineAll : List PyData → Bool
  | [] => true
  | x :: xs => fineD x && fineAll xs
end
theorem from_len : ∀ (ts : List Str) (k : Nat) (acc : Str), (textFrom k acc ts).length ≤ acc.length + piled ts
  | [], k, acc => by
    unfold textFrom
    exact Nat.le_add_right _ _
  | t :: ts, k, acc => by
    unfold textFrom
    rw [piled_cons]
    have z := from_len ts (k + 1) (acc ++ (if k > 0 then ", " else "" : String) ++ t)
    have e : (((if k > 0 then ", " else "" : String) : Str)).length ≤ 2 := by split <;> decide +kernel
    rw [strLen_append, strLen_append] at z
    omega
theorem tup_len (ts : List Str) : (tupleText ts).length ≤ piled ts + 3 := by
  have e1 : ((("(" : String) : Str)).length = 1 := rfl
  have e3 : (((if ts.length == 1 then ",)" else ")" : String) : Str)).length ≤ 2 := by split <;> decide +kernel
  unfold tupleText
  rw [strLen_append, strLen_append, e1]
  cases ts with
  | nil =>
    have : (Str.join ", " []).length = 0 := rfl
    omega
  | cons t ts =>
    have := join_length_add (t :: ts) (fun z => nomatch z)
    omega
mutual
theorem shown_cost : ∀ d : PyData, fineD d = true → d.shown.length ≤ cost d
  | .none, _ => by decide +kernel
  | .bool b, _ => by cases b <;> decide +kernel
  | .int i, h => by
    have := int_text_len_1921 (of_decide_eq_true h)
    unfold PyData.shown cost
    omega
  | .str x, h => StrLaws.reprText_len x fun c hc => of_decide_eq_true (List.all_eq_true.mp h c hc)
  | .list xs, h => by
    have z := shown_costAll xs h
    have y := from_len (PyData.shownAll xs) 0 "["
    have e : (("[" : String) : Str).length = 1 := rfl
    have e2 : (("]" : String) : Str).length = 1 := rfl
    unfold PyData.shown cost listText
    rw [strLen_append, e2]
    rw [e] at y
    omega
  | .tuple xs, h => by
    have z := shown_costAll xs h
    have y := tup_len (PyData.shownAll xs)
    unfold PyData.shown cost
    omega
theorem shown_costAll : ∀ xs : List PyData, fineAll xs = true → piled (PyData.shownAll xs) ≤ costAll xs
  | [], _ => Nat.zero_le _
  | x :: xs, h => by
    have h := Bool.and_eq_true_iff.mp h
    have z1 := shown_cost x h.1
    have z2 := shown_costAll xs h.2
    unfold PyData.shownAll costAll
    rw [piled_cons]
    omega
end
mutual
theorem fine_show : ∀ d : PyData, fineD d = true → d.showable = true ∧ d.hasDict = false
  | .none, _ => ⟨rfl, rfl⟩
  | .bool b, _ => ⟨rfl, rfl⟩
  | .int i, h => ⟨h, rfl⟩
  | .str x, h => ⟨rfl, rfl⟩
  | .list xs, h => fine_showAll xs h
  | .tuple xs, h => fine_showAll xs h
theorem fine_showAll : ∀ xs : List PyData, fineAll xs = true → PyData.showableAll xs = true ∧ PyData.hasDictAll xs = false
  | [], _ => ⟨rfl, rfl⟩
  | x :: xs, h => by
    have h := Bool.and_eq_true_iff.mp h
    have z1 := fine_show x h.1
    have z2 := fine_showAll xs h.2
    unfold PyData.showableAll PyData.hasDictAll
    rw [z1.1, z1.2, z2.1, z2.2]
    exact ⟨rfl, rfl⟩
end
theorem log_small {n : Nat} (h : n < 2 ^ 64) : n.log2 < 1920 := by
  by_cases z : n = 0
  · subst z
    decide +kernel
  · exact (Nat.log2_lt z).mpr (Nat.lt_of_lt_of_le h (Nat.pow_le_pow_right (by decide) (by decide)))
theorem int_fine {i : Int} (h0 : -1000000000000 ≤ i) (h1 : i ≤ 1000000000000) : fineD (.int i) = true := decide_eq_true (log_small (by omega))
def prD (p : Prt) : PyData := .tuple [.str p.series, .int p.first, .int p.cols, .int p.rows, .int p.sheets, .tuple [.str p.o1.s, .str p.o2.s, .str p.o3.s]]
theorem PrAt.dp {K : PySem.W.Frag} {H : Hp} {a : Addr} {p : Prt} (h : PrAt H a p) : Dp K H (.ref a) (prD p) := by
  obtain ⟨t, h1, o, h2, _⟩ := h
  exact .tup (SqT.of h1) (.cons (.str _) (.cons (.int _) (.cons (.int _) (.cons (.int _) (.cons (.int _) (.cons (.tup (sqF h2) (.cons (.str _) (.cons (.str _) (.cons (.str _) .nil)))) .nil))))))
theorem word_fine (u : Wd) : fineD (.str u.s) = true := by cases u <;> decide +kernel
theorem PrOk.fine {p : Prt} (ok : PrOk p) : fineD (prD p) = true := by
  have h1 := ok.f0; have h2 := ok.c1; have h3 := ok.c2; have h4 := ok.r1; have h5 := ok.r2; have h6 := ok.s1; have h7 := ok.s2; have h8 := ok.most
  have h9 := (prod_bound (c := p.cols) (r := p.rows) (s := p.sheets) (by omega) h3 (by omega) h5 (by omega) h7).1
  show (fineD (.str p.series) && (fineD (.int p.first) && (fineD (.int p.cols) && (fineD (.int p.rows) && (fineD (.int p.sheets) && ((fineD (.str p.o1.s) && (fineD (.str p.o2.s) && (fineD (.str p.o3.s) && true))) && true)))))) = true
  have e0 : fineD (.str p.series) = true := ok.chr
  rw [e0, int_fine (by omega) (by omega), int_fine (by omega) (by omega), int_fine (by omega) (by omega), int_fine (by omega) (by omega), word_fine, word_fine, word_fine]
  rfl
theorem word_cost (u : Wd) : cost (.str u.s) ≤ 62 := by cases u <;> decide +kernel
theorem PrOk.cost {p : Prt} (ok : PrOk p) : cost (prD p) ≤ 9000 := by
  have h := ok.len
  have h1 := word_cost p.o1; have h2 := word_cost p.o2; have h3 := word_cost p.o3
  simp only [prD, Pn.cost, costAll] at *
  omega
theorem PrsAt.dp {K : PySem.W.Frag} {H : Hp} : ∀ {as : List Addr} {ps : List Prt}, PrsAt H as ps → DpAll K H (as.map V.ref) (ps.map prD)
  | _, _, .nil => .nil
  | _, _, .cons a b => .cons a.1.dp (PrsAt.dp b)
theorem PrsAt.fine {H : Hp} : ∀ {as : List Addr} {ps : List Prt}, PrsAt H as ps → fineAll (ps.map prD) = true ∧ costAll (ps.map prD) ≤ 9002 * ps.length ∧ as.length = ps.length
  | _, _, .nil => ⟨rfl, Nat.le_refl _, rfl⟩
  | _, _, .cons (l₂ := l) a b => by
    obtain ⟨z1, z2, z3⟩ := PrsAt.fine b
    have y1 := a.2.fine
    have y2 := a.2.cost
    refine ⟨?_, ?_, congrArg (· + 1) z3⟩
    · rw [List.map_cons]
      unfold fineAll
      rw [y1, z1]
      rfl
    · rw [List.map_cons, List.length_cons]
      unfold costAll
      omega
theorem prs_depth (ps : List Prt) : (PyData.list (ps.map prD)).depth ≤ 60 := by
  have all : ∀ l : List Prt, PyData.depthAll (l.map prD) ≤ 4 := fun l => by
    induction l with
    | nil => simp [PyData.depthAll]
    | cons p l ih =>
      rw [List.map_cons]
      simp only [PyData.depthAll, prD, PyData.depth] at *
      omega
  have z := all ps
  simp only [PyData.depth]
  omega
def rnsD (rs : List Rn) : PyData := .tuple (rs.map rnD)
theorem rns_nice {rs : List Rn} (h : rs.length ≤ 100000) : Nice 2 (rnsD rs) := by
  refine Or.inr ⟨_, Or.inr rfl, by rw [List.length_map]; exact h, fun e he => ?_⟩
  obtain ⟨r, _, rfl⟩ := List.mem_map.mp he
  refine Or.inr ⟨_, Or.inr rfl, (show 3 ≤ 100000 by decide), fun e he => ?_⟩
  rcases List.mem_cons.mp he with rfl | he
  · exact Nice.flat rfl
  rcases List.mem_cons.mp he with rfl | he
  · exact Nice.flat rfl
  rcases List.mem_cons.mp he with rfl | he
  · exact Nice.flat rfl
  · exact nomatch he
theorem runsOf_len (rs : List Rn) : (runsOf rs).length ≤ rs.length := by
  unfold runsOf
  have z := merge_len (rs.mergeSort rnLe)
  rw [List.length_mergeSort] at z
  exact z
theorem prd_dp {K : PySem.W.Frag} {H : Hp} {t : Addr} {qs : List Addr} {rs : List Rn} (h : H t = some (.tup (qs.map V.ref))) (hq : Prd H qs rs) : Dp K H (.ref t) (rnsD rs) := .tup (SqT.of h) (Prd.dp hq)
def intsD (ns : List Int) : PyData := .tuple (ns.map .int)
theorem ints_dp {K : PySem.W.Frag} {H : Hp} {t : Addr} {ns : List Int} (h : H t = some (.tup (ns.map V.int))) : Dp K H (.ref t) (intsD ns) := by
  refine .tup (SqT.of h) ?_
  clear h
  induction ns with
  | nil => exact .nil
  | cons n ns ih => exact .cons (.int n) ih
theorem ints_nice {ns : List Int} (h : ns.length ≤ 100000) : Nice 2 (intsD ns) := by
  refine Or.inr ⟨_, Or.inr rfl, by rw [List.length_map]; exact h, fun e he => ?_⟩
  obtain ⟨r, _, rfl⟩ := List.mem_map.mp he
  exact Nice.flat rfl
def spLaw (K : PySem.W.Frag) : Sp := fun vs H Q _ => ∃ (a : Addr) (ns : List Int), vs = [.ref a] ∧ SqL K H a (ns.map V.int) ∧ ∀ H', Q (.bl true) H'
/-! ### Numbers told twice; dicts of numbers; seats -/
/-- neighbours alike told once -/
def dd : List Int → List Int
  | [] => []
  | [x] => [x]
  | x :: y :: r => if x = y then dd (y :: r) else x :: dd (y :: r)
theorem dd_mem : ∀ (l : List Int) (n : Int), n ∈ dd l ↔ n ∈ l
  | [], _ => Iff.rfl
  | [x], _ => Iff.rfl
  | x :: y :: r, n => by
    have ih := dd_mem (y :: r) n
    unfold dd
    split
    · rename_i e
      subst e
      rw [ih]
      simp
    · rw [List.mem_cons, ih, ← List.mem_cons]
theorem dd_up : ∀ (l : List Int), l.Pairwise (· ≤ ·) → (dd l).Pairwise (· < ·)
  | [], _ => .nil
  | [x], _ => List.pairwise_singleton _ _
  | x :: y :: r, h => by
    have hc := List.pairwise_cons.mp h
    have ih := dd_up (y :: r) hc.2
    unfold dd
    split
    · exact ih
    · rename_i ne
      refine List.pairwise_cons.mpr ⟨fun z hz => ?_, ih⟩
      have hz := (dd_mem _ z).mp hz
      have h1 := hc.1 y List.mem_cons_self
      rcases List.mem_cons.mp hz with rfl | hz
      · omega
      · have := (List.pairwise_cons.mp hc.2).1 z hz
        omega
theorem push_again (s : Str) (acc : List Rn) (n : Int) : push (step s acc n) (single s n) = step s acc n := by
  obtain ⟨i, l, e, h1, h2⟩ := step_last s acc n
  rw [e, push_snoc]
  have a : apart l (single s n) = false := (if_pos h1).trans (decide_eq_false (show ¬ l.2.2 < n by omega))
  rw [a, if_neg Bool.false_ne_true]
  have m : (if (single s n).2.2 > l.2.2 then (single s n).2.2 else l.2.2) = l.2.2 := if_neg (show ¬ n + 1 > l.2.2 by omega)
  rw [m]
theorem fold_dd (s : Str) : ∀ (l : List Int) (acc : List Rn), l.Pairwise (· ≤ ·) → (∀ r, acc.getLast? = some r → r.1 = s ∧ ∀ n ∈ l, r.2.2 ≤ n) → (l.map (single s)).foldl push acc = ((dd l).map (single s)).foldl push acc
  | [], _, _, _ => rfl
  | [x], _, _, _ => rfl
  | x :: y :: r, acc, h, ha => by
    have hc := List.pairwise_cons.mp h
    unfold dd
    split
    · rename_i e
      subst e
      rw [List.map_cons, List.map_cons, List.foldl_cons, List.foldl_cons, push_step (fun l hl => ⟨(ha l hl).1, (ha l hl).2 x List.mem_cons_self⟩), push_again]
      have ih := fold_dd s (x :: r) acc hc.2 fun l hl => ⟨(ha l hl).1, fun n hn => (ha l hl).2 n (List.mem_cons_of_mem _ hn)⟩
      rw [List.map_cons, List.foldl_cons, push_step (fun l hl => ⟨(ha l hl).1, (ha l hl).2 x List.mem_cons_self⟩)] at ih
      exact ih
    · rename_i ne
      show ((y :: r).map (single s)).foldl push (push acc (single s x)) = ((dd (y :: r)).map (single s)).foldl push (push acc (single s x))
      rw [push_step (fun l hl => ⟨(ha l hl).1, (ha l hl).2 x List.mem_cons_self⟩)]
      refine fold_dd s (y :: r) _ hc.2 fun l hl => ?_
      obtain ⟨i, l', e, h1, h2⟩ := step_last s acc x
      rw [e, List.getLast?_concat] at hl
      cases hl
      refine ⟨h1, fun n hn => ?_⟩
      have h3 := hc.1 y List.mem_cons_self
      rcases List.mem_cons.mp hn with rfl | hn
      · omega
      · have := (List.pairwise_cons.mp hc.2).1 n hn
        omega
def leI (a b : Int) : Bool := decide (a ≤ b)
theorem sortI_up (ns : List Int) : (ns.mergeSort leI).Pairwise (· ≤ ·) := by
  have z := List.pairwise_mergeSort (le := leI) (fun a b c h1 h2 => by unfold leI at *; rw [decide_eq_true_eq] at *; omega) (fun a b => by unfold leI; rw [Bool.or_eq_true, decide_eq_true_eq, decide_eq_true_eq]; omega) ns
  exact z.imp fun h => of_decide_eq_true h
theorem up_same {a b : List Int} (ha : a.Pairwise (· < ·)) (hb : b.Pairwise (· < ·)) (h : ∀ n, n ∈ a ↔ n ∈ b) : a = b := by
  have na : a.Nodup := ha.imp fun h => by omega
  have nb : b.Nodup := hb.imp fun h => by omega
  have hp : a.Perm b := (List.perm_ext_iff_of_nodup na nb).mpr h
  exact List.Perm.eq_of_pairwise (le := fun x y => x ≤ y) (fun x y _ _ => Int.le_antisymm) (ha.imp fun h => by omega) (hb.imp fun h => by omega) hp
/-- the numbers joined, whatever their order and however often each is told -/
theorem runsOf_mem {s : Str} {ns ys : List Int} (up : ys.Pairwise (· < ·)) (h : ∀ n, n ∈ ys ↔ n ∈ ns) : ys.foldl (step s) [] = runsOf (ns.map (single s)) := by
  unfold runsOf merge
  have e1 : (ns.map (single s)).mergeSort rnLe = (ns.mergeSort leI).map (single s) := (PySem.W.sort_maps (single s) (fun a _ b _ => (single_le s a b).symm)).symm
  have e2 : ys = dd (ns.mergeSort leI) := up_same up (dd_up _ (sortI_up ns)) fun n => by rw [h, dd_mem, List.mem_mergeSort]
  rw [e1, fold_dd s _ [] (sortI_up ns) (fun l hl => nomatch hl), ← e2]
  exact (fold_step s ys [] up fun l hl => nomatch hl).symm
theorem runsOf_like {s : Str} {ns ms : List Int} (h : ∀ n, n ∈ ns ↔ n ∈ ms) : runsOf (ns.map (single s)) = runsOf (ms.map (single s)) := by
  exact (runsOf_mem (ns := ns) (dd_up _ (sortI_up ms)) (fun n => by rw [dd_mem, List.mem_mergeSort, h])).symm.trans (runsOf_mem (dd_up _ (sortI_up ms)) (fun n => by rw [dd_mem, List.mem_mergeSort]))
/-- a dict whose keys are just these numbers -/
def DN (H : Hp) (d : Addr) (ns : List Int) : Prop := ∃ (kvs : List (Key × V)) (ks : List Int), H d = some (.dK kvs) ∧ kvs.map (·.1) = ks.map Sum.inl ∧ ks.Nodup ∧ (∀ n, n ∈ ks ↔ n ∈ ns) ∧ ks.length ≤ ns.length
theorem DN.same {H H' : Hp} {d : Addr} {ns : List Int} (h : DN H d ns) (s : Same H H') : DN H' d ns := by
  obtain ⟨kvs, ks, h1, r⟩ := h
  exact ⟨kvs, ks, s _ _ h1, r⟩
theorem put_keys {kvs : List (Key × V)} {ks : List Int} {n : Int} {v : V} (e : kvs.map (·.1) = ks.map Sum.inl) : ∃ ks' : List Int, (putK kvs (Sum.inl n) v).map (·.1) = ks'.map Sum.inl ∧ (ks.Nodup → ks'.Nodup) ∧ (∀ m, m ∈ ks' ↔ m ∈ ks ∨ m = n) ∧ ks'.length ≤ ks.length + 1 := by
  unfold putK
  by_cases c : (kvs.any fun kv => decide (kv.1 = Sum.inl n)) = true
  · rw [if_pos c]
    refine ⟨ks, ?_, _root_.id, fun m => ⟨Or.inl, ?_⟩, Nat.le_succ _⟩
    · rw [← e, List.map_map]
      refine List.map_congr_left fun kv _ => ?_
      show (if kv.1 = Sum.inl n then (kv.1, v) else kv).1 = kv.1
      split <;> rfl
    · rintro (h | rfl)
      · exact h
      · obtain ⟨kv, h1, h2⟩ := List.any_eq_true.mp c
        have h3 : kv.1 ∈ kvs.map (·.1) := List.mem_map.mpr ⟨kv, h1, rfl⟩
        rw [e, of_decide_eq_true h2] at h3
        obtain ⟨k, h4, h5⟩ := List.mem_map.mp h3
        cases h5
        exact h4
  · rw [if_neg c]
    refine ⟨ks ++ [n], by rw [List.map_append, List.map_append, e]; rfl, fun nd => ?_, fun m => by simp, by simp⟩
    refine List.nodup_append.mpr ⟨nd, List.pairwise_singleton _ _, fun a ha b hb => ?_⟩
    rw [List.mem_singleton] at hb
    subst hb
    rintro rfl
    apply c
    have h3 : (Sum.inl a : Key) ∈ kvs.map (·.1) := by rw [e]; exact List.mem_map.mpr ⟨a, ha, rfl⟩
    obtain ⟨kv, h4, h5⟩ := List.mem_map.mp h3
    exact List.any_eq_true.mpr ⟨kv, h4, decide_eq_true h5⟩
theorem DN.put {H : Hp} {d : Addr} {ns : List Int} {n : Int} {v : V} (h : DN H d ns) (hl : ns.length < 100000) : ∃ H', DPut H d (.int n) v H' ∧ DN H' d (ns ++ [n]) ∧ ∃ o, H' = upd H d o := by
  obtain ⟨kvs, ks, h1, h2, h3, h4, h5⟩ := h
  obtain ⟨ks', g1, g2, g3, g4⟩ := put_keys (n := n) (v := v) h2
  have len : kvs.length = ks.length := by simpa using congrArg List.length h2
  refine ⟨_, DPut.k (k := Sum.inl n) h1 (Nat.lt_trans (show _ < 100000 by omega) (by decide)), ⟨_, ks', upd_same, g1, g2 h3, fun m => ?_, ?_⟩, _, rfl⟩
  · rw [g3, h4, List.mem_append, List.mem_singleton]
  · rw [List.length_append, List.length_singleton]
    omega
abbrev Se := Int × Int × Int
def seV (e : Se) : List V := [.int e.1, .int e.2.1, .int e.2.2]
/-- the seats es stand at the places ps -/
abbrev Ses (H : Hp) (ps : List Addr) (es : List Se) : Prop := Paired (fun (p : Addr) (e : Se) => H p = some (.tup (seV e))) ps es
theorem Ses.len {H : Hp} {ps : List Addr} {es : List Se} (h : Ses H ps es) : ps.length = es.length := Paired.length h
theorem Ses.keep {H H' : Hp} : ∀ {ps : List Addr} {es : List Se}, (∀ p o, (∀ z, o ≠ HO.lst z) → H p = some o → H' p = some o) → Ses H ps es → Ses H' ps es
  | _, _, _, .nil => .nil
  | _, _, k, .cons a b => .cons (k _ _ (fun z => nofun) a) (Ses.keep k b)
theorem Ses.same {H H' : Hp} {ps : List Addr} {es : List Se} (s : Same H H') (h : Ses H ps es) : Ses H' ps es := Ses.keep (fun p o _ e => s p o e) h
theorem Ses.get {H : Hp} : ∀ {ps : List Addr} {es : List Se} {i : Nat} {p : Addr}, Ses H ps es → ps[i]? = some p → ∃ e, es[i]? = some e ∧ H p = some (.tup (seV e))
  | _, _, 0, _, .cons a _, h => by
    cases h
    exact ⟨_, rfl, a⟩
  | _, _, i + 1, p, .cons _ b, h => Ses.get (i := i) (p := p) b h
theorem Ses.app {H : Hp} : ∀ {ps qs : List Addr} {es ts : List Se}, Ses H ps es → Ses H qs ts → Ses H (ps ++ qs) (es ++ ts)
  | _, _, _, _, .nil, b => b
  | _, _, _, _, .cons a r, b => .cons a (Ses.app r b)
theorem Ses.rev {H : Hp} : ∀ {ps : List Addr} {es : List Se}, Ses H ps es → Ses H ps.reverse es.reverse
  | _, _, .nil => .nil
  | _, _, .cons a b => by
    rw [List.reverse_cons, List.reverse_cons]
    exact Ses.app (Ses.rev b) (.cons a .nil)
theorem Ses.snoc {H : Hp} : ∀ {ps : List Addr} {rs : List Se} {p : Addr}, Ses H (ps ++ [p]) rs → ∃ ts r, rs = ts ++ [r] ∧ Ses H ps ts ∧ H p = some (.tup (seV r))
  | [], _, p, h => by
    cases h with
    | cons a b =>
      cases b
      exact ⟨[], _, rfl, .nil, a⟩
  | x :: ps, _, p, h => by
    cases h with
    | cons a b =>
      obtain ⟨ts, r, rfl, h1, h2⟩ := Ses.snoc b
      exact ⟨_ :: ts, r, rfl, .cons a h1, h2⟩
def Prt.at_ (p : Prt) (e : Se) : Int := p.num e.1 e.2.1 e.2.2
def allNums (p : Prt) (shs : List Int) (es : List Se) : List Int := es.map p.at_ ++ shs.flatMap (numsOn p)
theorem allNums_mem (p : Prt) (shs : List Int) (es : List Se) (n : Int) : n ∈ allNums p shs es ↔ n ∈ shs.flatMap (numsOn p) ++ es.map p.at_ := by
  unfold allNums
  rw [List.mem_append, List.mem_append, Or.comm]
theorem flat_len {p : Prt} (ok : PrOk p) : ∀ shs : List Int, (shs.flatMap (numsOn p)).length ≤ 144 * shs.length
  | [] => Nat.le_refl _
  | s :: shs => by
    have z := flat_len ok shs
    have y := numsOn_len ok s
    rw [List.flatMap_cons, List.length_append, List.length_cons]
    omega
def spSpoilt (K : PySem.W.Frag) : Sp := fun vs H Q _ => ∃ (a ls le : Addr) (p : Prt) (shs : List Int) (ps : List Addr) (es : List Se), vs = [.ref a, .ref ls, .ref le] ∧ PrAt H a p ∧ PrOk p ∧
  SqL K H ls (shs.map V.int) ∧ SqL K H le (ps.map V.ref) ∧ Ses H ps es ∧ shs.length ≤ 20 ∧ es.length ≤ 1000 ∧
  ∀ (t : Addr) (qs : List Addr) (H' : Hp), Same H H' → H t = none → H' t = some (.tup (qs.map V.ref)) → Prd H' qs (runsOf ((allNums p shs es).map (single p.series))) → Q (.ref t) H'
/-- seats within bounds -/
def SeOk (e : Se) : Prop := (0 ≤ e.1 ∧ e.1 ≤ 1000000) ∧ (0 ≤ e.2.1 ∧ e.2.1 ≤ 1000000) ∧ (0 ≤ e.2.2 ∧ e.2.2 ≤ 1000000)
def spSeats : Sp := fun vs H Q _ => ∃ (f c a ls : Addr) (n : Int) (p : Prt) (shs : List Int), vs = [.ref f, .ref a, .ref ls] ∧ Fd H f c n ∧ n ≤ 600000 ∧ PrAt H a p ∧ PrOk p ∧
  H ls = some (.lst (shs.map V.int)) ∧ ls ≠ f ∧ (∀ s ∈ shs, 0 ≤ s ∧ s ≤ 1000000) ∧ shs.length ≤ 20 ∧
  ∀ (l : Addr) (ps : List Addr) (es : List Se) (H' : Hp), Fd H' f c (n + 500) → But f H H' → l ≠ f → l ≠ c → H l = none → H' l = some (.lst (ps.map V.ref)) → Ses H' ps es → es.length ≤ 100 → (∀ e ∈ es, SeOk e) → Q (.ref l) H'
theorem Ses.but {H H' : Hp} {f c : Addr} {n : Int} {ps : List Addr} {es : List Se} (hf : Fd H f c n) (b : But f H H') (h : Ses H ps es) : Ses H' ps es := by
  obtain ⟨zs, hz⟩ := hf.at
  exact Ses.keep (fun p o no e => b p o (ne_of e hz (no zs)) e) h
theorem pick_int {shs : List Int} {d : Int} (d0 : 0 ≤ d) (d1 : d < (((shs.map V.int).length : Nat) : Int)) : ∃ s ∈ shs, atI (shs.map V.int) d = some (.int s) := by
  rw [List.length_map] at d1
  obtain ⟨k, rfl⟩ : ∃ k : Nat, d = (k : Int) := ⟨d.toNat, by omega⟩
  have hk : k < shs.length := by omega
  exact ⟨shs[k], List.getElem_mem hk, atI_nat (by rw [List.getElem?_map, List.getElem?_eq_getElem hk]; rfl)⟩
def seD (e : Se) : PyData := .tuple [.int e.1, .int e.2.1, .int e.2.2]
theorem ints_all {K : PySem.W.Frag} {H : Hp} : ∀ ns : List Int, DpAll K H (ns.map V.int) (ns.map .int)
  | [] => .nil
  | n :: ns => .cons (.int n) (ints_all ns)
theorem Ses.dp {K : PySem.W.Frag} {H : Hp} : ∀ {ps : List Addr} {es : List Se}, Ses H ps es → DpAll K H (ps.map V.ref) (es.map seD)
  | _, _, .nil => .nil
  | _, _, .cons a b => .cons (.tup (SqT.of a) (.cons (.int _) (.cons (.int _) (.cons (.int _) .nil)))) (Ses.dp b)
theorem ints_fine : ∀ ns : List Int, (∀ s ∈ ns, 0 ≤ s ∧ s ≤ 1000000) → fineAll (ns.map .int) = true ∧ costAll (ns.map .int) ≤ 2002 * ns.length
  | [], _ => ⟨rfl, Nat.le_refl _⟩
  | n :: ns, h => by
    obtain ⟨z1, z2⟩ := ints_fine ns fun s hs => h s (List.mem_cons_of_mem _ hs)
    have hn := h n List.mem_cons_self
    refine ⟨?_, ?_⟩
    · rw [List.map_cons]
      unfold fineAll
      rw [int_fine (by omega) (by omega), z1]
      rfl
    · rw [List.map_cons, List.length_cons]
      unfold costAll
      have e : cost (.int n) = 2000 := rfl
      omega
theorem seats_fine : ∀ es : List Se, (∀ e ∈ es, SeOk e) → fineAll (es.map seD) = true ∧ costAll (es.map seD) ≤ 7000 * es.length
  | [], _ => ⟨rfl, Nat.le_refl _⟩
  | e :: es, h => by
    obtain ⟨z1, z2⟩ := seats_fine es fun s hs => h s (List.mem_cons_of_mem _ hs)
    obtain ⟨⟨a1, a2⟩, ⟨a3, a4⟩, ⟨a5, a6⟩⟩ := h e List.mem_cons_self
    refine ⟨?_, ?_⟩
    · rw [List.map_cons]
      unfold fineAll
      rw [z1]
      show (((fineD (.int e.1)) && (fineD (.int e.2.1) && (fineD (.int e.2.2) && true))) && true) = true
      rw [int_fine (by omega) (by omega), int_fine (by omega) (by omega), int_fine (by omega) (by omega)]
      rfl
    · rw [List.map_cons, List.length_cons]
      unfold costAll
      have e1 : cost (seD e) = 6009 := rfl
      omega
def trD (p : Prt) (shs : List Int) (es : List Se) : PyData := .tuple [prD p, .list (shs.map .int), .list (es.map seD)]
theorem tr_fine {p : Prt} (ok : PrOk p) {shs : List Int} {es : List Se} (h1 : ∀ s ∈ shs, 0 ≤ s ∧ s ≤ 1000000) (h2 : ∀ e ∈ es, SeOk e) (l1 : shs.length ≤ 20) (l2 : es.length ≤ 100) :
    (trD p shs es).showable = true ∧ (trD p shs es).hasDict = false ∧ (trD p shs es).shown.length ≤ sizeLine := by
  obtain ⟨a1, a2⟩ := ints_fine shs h1
  obtain ⟨b1, b2⟩ := seats_fine es h2
  have f : fineD (trD p shs es) = true := by
    show (fineD (prD p) && (fineAll (shs.map .int) && (fineAll (es.map seD) && true))) = true
    rw [ok.fine, a1, b1]
    rfl
  have c := shown_cost _ f
  have e : cost (trD p shs es) = (cost (prD p) + 2 + ((costAll (shs.map .int) + 3) + 2 + ((costAll (es.map seD) + 3) + 2 + 0))) + 3 := rfl
  have k := ok.cost
  obtain ⟨s1, s2⟩ := fine_show _ f
  exact ⟨s1, s2, Nat.le_trans c (Nat.le_trans (show _ ≤ 1000000 by omega) (by decide))⟩
theorem tr_depth (p : Prt) (shs : List Int) (es : List Se) : (trD p shs es).depth ≤ 60 := by
  have d1 : PyData.depthAll (shs.map .int) ≤ 1 := by
    induction shs with
    | nil => simp [PyData.depthAll]
    | cons s l ih => rw [List.map_cons]; simp only [PyData.depthAll, PyData.depth] at *; omega
  have d2 : PyData.depthAll (es.map seD) ≤ 3 := by
    induction es with
    | nil => simp [PyData.depthAll]
    | cons s l ih => rw [List.map_cons]; simp only [PyData.depthAll, seD, PyData.depth] at *; omega
  simp only [trD, prD, PyData.depth, PyData.depthAll]
  omega
theorem tr_dp {K : PySem.W.Frag} {H : Hp} {t a ls l : Addr} {p : Prt} {shs : List Int} {ps : List Addr} {es : List Se} (ht : H t = some (.tup [.ref a, .ref ls, .ref l])) (hp : PrAt H a p) (h1 : H ls = some (.lst (shs.map V.int))) (h2 : H l = some (.lst (ps.map V.ref))) (h3 : Ses H ps es) :
    Dp K H (.ref t) (trD p shs es) := .tup (SqT.of ht) (.cons hp.dp (.cons (.lst (SqL.of h1) (ints_all shs)) (.cons (.lst (SqL.of h2) h3.dp) .nil)))
theorem all_len {p : Prt} (ok : PrOk p) {shs : List Int} {es : List Se} (l1 : shs.length ≤ 20) (l2 : es.length ≤ 1000) (s : Str) : (runsOf ((allNums p shs es).map (single s))).length ≤ 100000 := by
  have z := runsOf_len ((allNums p shs es).map (single s))
  have y := flat_len ok shs
  unfold allNums at *
  rw [List.length_map, List.length_append, List.length_map] at z
  omega
theorem pair_nice {a b : PyData} (ha : Nice 2 a) (hb : Nice 2 b) : Nice 3 (.list [a, b]) := by
  refine Or.inr ⟨_, Or.inl rfl, (show 2 ≤ 100000 by decide), fun e he => ?_⟩
  rcases List.mem_cons.mp he with rfl | he
  · exact ha
  rcases List.mem_cons.mp he with rfl | he
  · exact hb
  · exact nomatch he
theorem Nice.more : ∀ {n : Nat} {d : PyData}, Nice n d → Nice (n + 1) d
  | 0, d, h => Or.inl h
  | n + 1, d, h => by
    rcases h with h | ⟨ds, h1, h2, h3⟩
    · exact Or.inl h
    · exact Or.inr ⟨ds, h1, h2, fun e he => Nice.more (h3 e he)⟩
theorem all_rev (p : Prt) (shs : List Int) (es : List Se) (n : Int) : n ∈ allNums p shs.reverse es.reverse ↔ n ∈ allNums p shs es := by
  unfold allNums
  simp only [List.mem_append, List.mem_map, List.mem_flatMap, List.mem_reverse]
theorem two_dp {K : PySem.W.Frag} {H : Hp} {t x y : Addr} {d e : PyData} (h : H t = some (.lst [.ref x, .ref y])) (hx : Dp K H (.ref x) d) (hy : Dp K H (.ref y) e) : Dp K H (.ref t) (.list [d, e]) := .lst (SqL.of h) (.cons hx (.cons hy .nil))
def top (i : Nat) : Stmt := PySem.Challenge.pw_pressnotes_k11_spoilt_by.main.body.getD i (.Pass ⟨0, 0, 0, 0⟩)
abbrev s_is_apart : Stmt := top 1
abbrev s_runs_of : Stmt := top 2
abbrev s_how_many : Stmt := top 4
abbrev s_number_at : Stmt := top 5
abbrev s_numbers_on : Stmt := top 6
abbrev s_runs_of_numbers : Stmt := top 7
abbrev s_spoilt_by : Stmt := top 9
abbrev s_lfeed : Stmt := top 11
abbrev s_ldraw : Stmt := top 12
abbrev s_lalike : Stmt := top 13
abbrev s_lorder : Stmt := top 14
abbrev s_lprinting : Stmt := top 15
abbrev s_lsizes : Stmt := top 16
abbrev s_lnumber : Stmt := top 17
abbrev s_ldue : Stmt := top 18
abbrev s_lseats : Stmt := top 19
abbrev s_law : Stmt := top 20
theorem sc_is_apart : FnScope ["run", "later"] ["run", "later"] (defScope s_is_apart) := ⟨rfl, rfl, rfl, by decide +kernel, rfl, by decide +kernel, by decide +kernel⟩
theorem sc_runs_of : FnScope ["some", "found", "run", "series", "low", "high"] ["some"] (defScope s_runs_of) := ⟨rfl, rfl, rfl, by decide +kernel, rfl, by decide +kernel, by decide +kernel⟩
theorem sc_how_many : FnScope ["printing"] ["printing"] (defScope s_how_many) := ⟨rfl, rfl, rfl, by decide +kernel, rfl, by decide +kernel, by decide +kernel⟩
theorem sc_number_at : FnScope ["printing", "sheet", "row", "column", "many", "seat", "outer", "middle", "inner", "place"] ["printing", "sheet", "row", "column"] (defScope s_number_at) := ⟨rfl, rfl, rfl, by decide +kernel, rfl, by decide +kernel, by decide +kernel⟩
theorem sc_numbers_on : FnScope ["printing", "sheet", "columns", "rows", "row", "column"] ["printing", "sheet"] (defScope s_numbers_on) := ⟨rfl, rfl, rfl, by decide +kernel, rfl, by decide +kernel, by decide +kernel⟩
theorem sc_runs_of_numbers : FnScope ["printing", "numbers", "series", "number"] ["printing", "numbers"] (defScope s_runs_of_numbers) := ⟨rfl, rfl, rfl, by decide +kernel, rfl, by decide +kernel, by decide +kernel⟩
theorem sc_spoilt_by : FnScope ["printing", "sheets", "seats", "numbers", "sheet", "row", "column"] ["printing", "sheets", "seats"] (defScope s_spoilt_by) := ⟨rfl, rfl, rfl, by decide +kernel, rfl, by decide +kernel, by decide +kernel⟩
theorem sc_lfeed : FnScope ["_law_script"] ["_law_script"] (defScope s_lfeed) := ⟨rfl, rfl, rfl, by decide +kernel, rfl, by decide +kernel, by decide +kernel⟩
theorem sc_ldraw : FnScope ["_law_feed_here", "_law_many", "_law_found", "_law_at", "_law_cell", "_law_first"] ["_law_feed_here", "_law_many"] (defScope s_ldraw) := ⟨rfl, rfl, rfl, by decide +kernel, rfl, by decide +kernel, by decide +kernel⟩
theorem sc_lalike : FnScope ["_law_found", "_law_due_here", "_law_one", "_law_other"] ["_law_found", "_law_due_here"] (defScope s_lalike) := ⟨rfl, rfl, rfl, by decide +kernel, rfl, by decide +kernel, by decide +kernel⟩
theorem sc_lorder : FnScope ["_law_feed_here", "_law_words", "_law_first", "_law_second"] ["_law_feed_here"] (defScope s_lorder) := ⟨rfl, rfl, rfl, by decide +kernel, rfl, by decide +kernel, by decide +kernel⟩
theorem sc_lprinting : FnScope ["_law_feed_here", "_law_small", "_law_columns", "_law_rows", "_law_sheets", "_law_way", "_law_first", "_law_series"] ["_law_feed_here", "_law_small"] (defScope s_lprinting) := ⟨rfl, rfl, rfl, by decide +kernel, rfl, by decide +kernel, by decide +kernel⟩
theorem sc_lsizes : FnScope ["_law_printing_here"] ["_law_printing_here"] (defScope s_lsizes) := ⟨rfl, rfl, rfl, by decide +kernel, rfl, by decide +kernel, by decide +kernel⟩
theorem sc_lnumber : FnScope ["_law_printing_here", "_law_sheet", "_law_row", "_law_column", "_law_sizes_here", "_law_seat", "_law_slow", "_law_middle", "_law_fast", "_law_ahead"] ["_law_printing_here", "_law_sheet", "_law_row", "_law_column"] (defScope s_lnumber) := ⟨rfl, rfl, rfl, by decide +kernel, rfl, by decide +kernel, by decide +kernel⟩
theorem sc_ldue : FnScope ["_law_printing_here", "_law_sheets", "_law_seats_here", "_law_numbers", "_law_sheet", "_law_row", "_law_column", "_law_found", "_law_number_here"] ["_law_printing_here", "_law_sheets", "_law_seats_here"] (defScope s_ldue) := ⟨rfl, rfl, rfl, by decide +kernel, rfl, by decide +kernel, by decide +kernel⟩
theorem sc_lseats : FnScope ["_law_feed_here", "_law_printing_here", "_law_sheets", "_law_found", "_law_k", "_law_sheet"] ["_law_feed_here", "_law_printing_here", "_law_sheets"] (defScope s_lseats) := ⟨rfl, rfl, rfl, by decide +kernel, rfl, by decide +kernel, by decide +kernel⟩
theorem sc_law : FnScope ["_law_script", "_law_feed_here", "_law_small", "_law_printing_here", "_law_sheets", "_law_k", "_law_seats_here", "_law_kept", "_law_due_here", "_law_dues", "_law_told"] ["_law_script"] (defScope s_law) := ⟨rfl, rfl, rfl, by decide +kernel, rfl, by decide +kernel, by decide +kernel⟩
structure Txt (mg : Str → Option Value) (f_is_apart f_runs_of f_how_many f_number_at f_numbers_on f_runs_of_numbers f_spoilt_by f_lfeed f_ldraw f_lalike f_lorder f_lprinting f_lsizes f_lnumber f_ldue f_lseats f_law : Addr) : Prop where
  m_is_apart : mg "is_apart" = some (.ref f_is_apart)
  m_runs_of : mg "runs_of" = some (.ref f_runs_of)
  m_how_many : mg "how_many" = some (.ref f_how_many)
  m_number_at : mg "number_at" = some (.ref f_number_at)
  m_numbers_on : mg "numbers_on" = some (.ref f_numbers_on)
  m_runs_of_numbers : mg "runs_of_numbers" = some (.ref f_runs_of_numbers)
  m_spoilt_by : mg "spoilt_by" = some (.ref f_spoilt_by)
  m_lfeed : mg "_law_feed" = some (.ref f_lfeed)
  m_ldraw : mg "_law_draw" = some (.ref f_ldraw)
  m_lalike : mg "_law_alike" = some (.ref f_lalike)
  m_lorder : mg "_law_order" = some (.ref f_lorder)
  m_lprinting : mg "_law_printing" = some (.ref f_lprinting)
  m_lsizes : mg "_law_sizes" = some (.ref f_lsizes)
  m_lnumber : mg "_law_number" = some (.ref f_lnumber)
  m_ldue : mg "_law_due" = some (.ref f_ldue)
  m_lseats : mg "_law_seats" = some (.ref f_lseats)
  m_law : mg "law" = some (.ref f_law)
  len : mg "len" = none
  range : mg "range" = none
  sorted : mg "sorted" = none
  tuple : mg "tuple" = none
  list : mg "list" = none
  isinstance : mg "isinstance" = none
  all : mg "all" = none
  zip : mg "zip" = none
  max : mg "max" = none
  repr : mg "repr" = none
  int : mg "int" = none
  bool : mg "bool" = none
  str : mg "str" = none
section
variable {P : Program} {w : World} {K : PySem.W.Frag} {mg : Str → Option Value} {base : Heap} {f_is_apart f_runs_of f_how_many f_number_at f_numbers_on f_runs_of_numbers f_spoilt_by f_lfeed f_ldraw f_lalike f_lorder f_lprinting f_lsizes f_lnumber f_ldue f_lseats f_law : Addr} {d_is_apart d_runs_of d_how_many d_number_at d_numbers_on d_runs_of_numbers d_spoilt_by d_lfeed d_ldraw d_lalike d_lorder d_lprinting d_lsizes d_lnumber d_ldue d_lseats d_law : FuncData}
theorem ok_ldraw (F : Fun K "_law_draw" "_law_draw" s_ldraw f_ldraw d_ldraw) (T : Txt mg f_is_apart f_runs_of f_how_many f_number_at f_numbers_on f_runs_of_numbers f_spoilt_by f_lfeed f_ldraw f_lalike f_lorder f_lprinting f_lsizes f_lnumber f_ldue f_lseats f_law) :
    FnOk P w K mg base CX0 (1) f_ldraw d_ldraw ["_law_feed_here", "_law_many"] spDraw := by
  refine F.ok sc_ldraw (fun vs H Q E h => ?_) (fun cdv A outer s H vs Q E hr h => ?_)

  · obtain ⟨f, c, m, n, rfl, _⟩ := h
    rfl
  obtain ⟨f, c, m, n, rfl, ⟨cells, at_, g, hf, hc, h63, h0, hn⟩, hn2, hm0, hm1, q0⟩ := h
  refine ⟨_, (pss_cons (ps_if (pt_cmpR op_gt (pe_ix ix_list (pv 0) pe_int (fun _ _ => rfl)) pe_int (nomark _))
  (pss_cons (ps_set (i := 2) sc_ldraw.nd rfl (.inl rfl) (pe_op op_modN (pe_ix ix_list (pv 0) pe_int (fun _ _ => rfl)) (pv 1)))
  (pss_cons (ps_asg (pe_op op_fdivN (pe_ix ix_list (pv 0) pe_int (fun _ _ => rfl)) (pv 1)) (pg_sub (pv 0) pe_int set_list))
  (pss_one (ps_ret (pv 2)))))
  pss_nil)
  (pss_cons (ps_set (i := 3) sc_ldraw.nd rfl (.inl rfl) (pe_ix ix_list (pv 0) pe_int (fun _ _ => rfl)))
  (pss_cons (ps_asg (pe_op op_add (pv 3) pe_int) (pg_sub (pv 0) pe_int set_list))
  (pss_cons (ps_set (i := 4) sc_ldraw.nd rfl (.inl rfl) (pe_ifExp (pt_cmpR op_gt (pe_callB call_len_seq (by rfl) T.len (by decide +kernel) (pa_cons (pe_ix ix_list (pv 0) pe_int (fun _ _ => rfl)) pa_nil)) pe_int (nomark _)) (pe_ix ix_list (pe_ix ix_list (pv 0) pe_int (fun _ _ => rfl)) (pe_op op_modN (pv 3) (pe_callB call_len_seq (by rfl) T.len (by decide +kernel) (pa_cons (pe_ix ix_list (pv 0) pe_int (fun _ _ => rfl)) pa_nil))) (fun _ _ => rfl)) pe_int))
  (pss_cons (ps_if (PW.pt (pw_and (pt_cmpR op_ge (pv 4) (pe_op op_pow pe_int pe_int) (nomark _)) (pw_and1 (pt_cmpR op_lt (pv 3) (pe_callB call_len_seq (by rfl) T.len (by decide +kernel) (pa_cons (pe_ix ix_list (pv 0) pe_int (fun _ _ => rfl)) pa_nil)) (nomark _)))))
  (pss_cons (ps_asg (pe_op op_fdivN (pv 4) (pv 1)) (pg_sub (pv 0) pe_int set_list))
  (pss_one (ps_ret (pe_op op_modN (pv 4) (pv 1)))))
  pss_nil)
  (pss_cons (ps_set (i := 5) sc_ldraw.nd rfl (.inl rfl) (pe_op op_modN (pe_op op_mul (pe_op op_add (pe_op op_add (pe_op op_add (pe_op op_modN (pv 4) pe_int) (pe_op op_mul (pe_op op_mul pe_int (pv 3)) (pv 3))) (pe_op op_mul pe_int (pv 3))) pe_int) pe_int) pe_int))
  (pss_cons (ps_set (i := 5) sc_ldraw.nd rfl (.inl rfl) (pe_op op_modN (pe_op op_add (pe_op op_add (pe_op op_mul (pv 5) (pv 5)) (pe_op op_mul pe_int (pv 3))) pe_int) pe_int))
  (pss_one (ps_ret (pe_op op_modN (pe_op op_fdivN (pe_op op_modN (pe_op op_mul (pv 5) pe_int) pe_int) pe_int) (pv 1))))))))))), ?_⟩
  have hcf : c ≠ f := fd_ne hf hc
  have q : ∀ (d : Int) (o : HO), 0 ≤ d → d < m → Fd (upd H f o) f c (n + 1) → Q (.int d) (upd H f o) := fun d o h1 h2 h3 => q0 d _ h1 h2 h3 But.feed fun a ha => by
    rw [upd_ne (fun z => by rw [z, hf] at ha; cases ha)]
    exact ha
  have fdN : ∀ a' g', 0 ≤ a' → a' ≤ n + 1 → Fd (upd H f (.lst [.ref c, .int a', .int g'])) f c (n + 1) := fun a' g' h1 h2 => ⟨cells, a', g', upd_same, (upd_ne hcf).trans hc, h63, h1, h2⟩
  have hc1 : ∀ o, (upd H f o) c = some (.lst (cells.map V.int)) := fun o => (upd_ne hcf).trans hc
  refine ⟨_, rfl, f, _, _, _, rfl, rfl, SqL.of hf, rfl, _, _, rfl, rfl, _, rfl, ?_⟩
  refine ite2 (fun cg => ?_) (fun cg => ?_)
  · refine ⟨_, rfl, f, _, _, _, rfl, rfl, SqL.of hf, rfl, _, rfl, _, _, rfl, rfl, by omega, ?_⟩
    refine ⟨_, rfl, f, _, _, _, rfl, rfl, SqL.of hf, rfl, _, rfl, _, _, rfl, rfl, ⟨by omega, by omega⟩, ?_⟩
    refine ⟨_, rfl, f, _, _, 2, rfl, rfl, hf, rfl, ?_⟩
    refine ⟨_, rfl, ?_⟩
    exact q _ _ (mod_lo _ _ hm0) (mod_hi _ _ hm0) (fdN at_ _ h0 (by omega))
  refine ⟨_, rfl, f, _, _, _, rfl, rfl, SqL.of hf, rfl, ?_⟩
  refine ⟨_, rfl, _, _, rfl, rfl, ?_⟩
  refine ⟨_, rfl, f, _, _, 1, rfl, rfl, hf, rfl, ?_⟩
  refine ⟨_, rfl, f, _, _, _, rfl, rfl, SqL.of upd_same, rfl, c, _, rfl, .inl (SqL.of (hc1 _)), _, _, rfl, rfl, _, rfl, ?_⟩
  refine ite2 (fun c1 => ?_) (fun c1 => ?_)
  · have hl : 0 < cells.length := by
      have := of_decide_eq_true c1
      rw [List.length_map] at this
      omega
    obtain ⟨cell, hcell⟩ := at_mod at_ hl
    refine ⟨_, rfl, f, _, _, _, rfl, rfl, SqL.of upd_same, rfl, _, rfl, _, rfl, f, _, _, _, rfl, rfl, SqL.of upd_same, rfl, c, _, rfl, .inl (SqL.of (hc1 _)), _, _, rfl, rfl, ?_, c, _, _, _, rfl, rfl, SqL.of (hc1 _), hcell, ?_⟩
    · rw [List.length_map]
      omega
    refine ⟨_, rfl, _, _, rfl, rfl, ⟨by decide, by decide, by decide⟩, _, _, rfl, rfl, _, rfl, ?_⟩
    refine ite2 (fun c2 => ?_) (fun c2 => ?_)
    · refine ⟨_, rfl, _, rfl, f, _, _, _, rfl, rfl, SqL.of upd_same, rfl, c, _, rfl, .inl (SqL.of (hc1 _)), _, _, rfl, rfl, _, rfl, ?_⟩
      refine ite2 (fun c3 => ?_) (fun c3 => ?_)
      · refine ⟨_, rfl, _, rfl, _, _, rfl, rfl, ⟨by omega, by omega⟩, ?_⟩
        refine ⟨_, rfl, f, _, _, 2, rfl, rfl, upd_same, rfl, ?_⟩
        refine ⟨_, rfl, _, rfl, _, _, rfl, rfl, by omega, ?_⟩
        rw [upd_upd]
        exact q _ _ (mod_lo _ _ hm0) (mod_hi _ _ hm0) (fdN _ _ (by omega) (by omega))
      ·
        refine ⟨_, rfl, _, _, rfl, rfl, (by show (_ : Int) ≠ 0; decide), _, rfl, _, _, rfl, rfl, .inl ⟨by decide, by decide⟩, _, rfl, _, _, rfl, rfl, .inl ⟨by omega, by omega⟩, _, _, rfl, rfl, _, rfl, _, _, rfl, rfl, .inl ⟨by decide, by decide⟩, _, _, rfl, rfl, _, _, rfl, rfl, _, _, rfl, rfl, .inr ⟨by decide, by decide⟩, _, _, rfl, rfl, (by show (_ : Int) ≠ 0; decide), ?_⟩
        refine ⟨_, rfl, _, rfl, _, _, rfl, rfl, .inl ⟨Int.lt_of_lt_of_le (by decide) (mod_lo _ _ (by decide)), Int.lt_trans (mod_hi _ _ (by decide)) (by decide)⟩, _, rfl, _, _, rfl, rfl, .inl ⟨by decide, by decide⟩, _, _, rfl, rfl, _, _, rfl, rfl, _, _, rfl, rfl, (by show (_ : Int) ≠ 0; decide), ?_⟩
        refine ⟨_, rfl, _, _, rfl, rfl, .inr ⟨by decide, by decide⟩, _, _, rfl, rfl, (by show (_ : Int) ≠ 0; decide), _, _, rfl, rfl, ⟨by decide, by decide⟩, _, rfl, _, _, rfl, rfl, by omega, ?_⟩
        exact q _ _ (mod_lo _ _ hm0) (mod_hi _ _ hm0) (fdN _ _ (by omega) (by omega))
    ·
      refine ⟨_, rfl, _, _, rfl, rfl, (by show (_ : Int) ≠ 0; decide), _, rfl, _, _, rfl, rfl, .inl ⟨by decide, by decide⟩, _, rfl, _, _, rfl, rfl, .inl ⟨by omega, by omega⟩, _, _, rfl, rfl, _, rfl, _, _, rfl, rfl, .inl ⟨by decide, by decide⟩, _, _, rfl, rfl, _, _, rfl, rfl, _, _, rfl, rfl, .inr ⟨by decide, by decide⟩, _, _, rfl, rfl, (by show (_ : Int) ≠ 0; decide), ?_⟩
      refine ⟨_, rfl, _, rfl, _, _, rfl, rfl, .inl ⟨Int.lt_of_lt_of_le (by decide) (mod_lo _ _ (by decide)), Int.lt_trans (mod_hi _ _ (by decide)) (by decide)⟩, _, rfl, _, _, rfl, rfl, .inl ⟨by decide, by decide⟩, _, _, rfl, rfl, _, _, rfl, rfl, _, _, rfl, rfl, (by show (_ : Int) ≠ 0; decide), ?_⟩
      refine ⟨_, rfl, _, _, rfl, rfl, .inr ⟨by decide, by decide⟩, _, _, rfl, rfl, (by show (_ : Int) ≠ 0; decide), _, _, rfl, rfl, ⟨by decide, by decide⟩, _, rfl, _, _, rfl, rfl, by omega, ?_⟩
      exact q _ _ (mod_lo _ _ hm0) (mod_hi _ _ hm0) (fdN _ _ (by omega) (by omega))
  ·
    refine ⟨_, rfl, _, _, rfl, rfl, ⟨by decide, by decide, by decide⟩, _, _, rfl, rfl, _, rfl, ?_⟩
    refine ite2 (fun c2 => ?_) (fun c2 => ?_)
    · refine ⟨_, rfl, _, rfl, f, _, _, _, rfl, rfl, SqL.of upd_same, rfl, c, _, rfl, .inl (SqL.of (hc1 _)), _, _, rfl, rfl, _, rfl, ?_⟩
      refine ite2 (fun c3 => ?_) (fun c3 => ?_)
      · refine ⟨_, rfl, _, rfl, _, _, rfl, rfl, ⟨by omega, by omega⟩, ?_⟩
        refine ⟨_, rfl, f, _, _, 2, rfl, rfl, upd_same, rfl, ?_⟩
        refine ⟨_, rfl, _, rfl, _, _, rfl, rfl, by omega, ?_⟩
        rw [upd_upd]
        exact q _ _ (mod_lo _ _ hm0) (mod_hi _ _ hm0) (fdN _ _ (by omega) (by omega))
      ·
        refine ⟨_, rfl, _, _, rfl, rfl, (by show (_ : Int) ≠ 0; decide), _, rfl, _, _, rfl, rfl, .inl ⟨by decide, by decide⟩, _, rfl, _, _, rfl, rfl, .inl ⟨by omega, by omega⟩, _, _, rfl, rfl, _, rfl, _, _, rfl, rfl, .inl ⟨by decide, by decide⟩, _, _, rfl, rfl, _, _, rfl, rfl, _, _, rfl, rfl, .inr ⟨by decide, by decide⟩, _, _, rfl, rfl, (by show (_ : Int) ≠ 0; decide), ?_⟩
        refine ⟨_, rfl, _, rfl, _, _, rfl, rfl, .inl ⟨Int.lt_of_lt_of_le (by decide) (mod_lo _ _ (by decide)), Int.lt_trans (mod_hi _ _ (by decide)) (by decide)⟩, _, rfl, _, _, rfl, rfl, .inl ⟨by decide, by decide⟩, _, _, rfl, rfl, _, _, rfl, rfl, _, _, rfl, rfl, (by show (_ : Int) ≠ 0; decide), ?_⟩
        refine ⟨_, rfl, _, _, rfl, rfl, .inr ⟨by decide, by decide⟩, _, _, rfl, rfl, (by show (_ : Int) ≠ 0; decide), _, _, rfl, rfl, ⟨by decide, by decide⟩, _, rfl, _, _, rfl, rfl, by omega, ?_⟩
        exact q _ _ (mod_lo _ _ hm0) (mod_hi _ _ hm0) (fdN _ _ (by omega) (by omega))
    ·
      refine ⟨_, rfl, _, _, rfl, rfl, (by show (_ : Int) ≠ 0; decide), _, rfl, _, _, rfl, rfl, .inl ⟨by decide, by decide⟩, _, rfl, _, _, rfl, rfl, .inl ⟨by omega, by omega⟩, _, _, rfl, rfl, _, rfl, _, _, rfl, rfl, .inl ⟨by decide, by decide⟩, _, _, rfl, rfl, _, _, rfl, rfl, _, _, rfl, rfl, .inr ⟨by decide, by decide⟩, _, _, rfl, rfl, (by show (_ : Int) ≠ 0; decide), ?_⟩
      refine ⟨_, rfl, _, rfl, _, _, rfl, rfl, .inl ⟨Int.lt_of_lt_of_le (by decide) (mod_lo _ _ (by decide)), Int.lt_trans (mod_hi _ _ (by decide)) (by decide)⟩, _, rfl, _, _, rfl, rfl, .inl ⟨by decide, by decide⟩, _, _, rfl, rfl, _, _, rfl, rfl, _, _, rfl, rfl, (by show (_ : Int) ≠ 0; decide), ?_⟩
      refine ⟨_, rfl, _, _, rfl, rfl, .inr ⟨by decide, by decide⟩, _, _, rfl, rfl, (by show (_ : Int) ≠ 0; decide), _, _, rfl, rfl, ⟨by decide, by decide⟩, _, rfl, _, _, rfl, rfl, by omega, ?_⟩
      exact q _ _ (mod_lo _ _ hm0) (mod_hi _ _ hm0) (fdN _ _ (by omega) (by omega))

theorem ok_lfeed (F : Fun K "_law_feed" "_law_feed" s_lfeed f_lfeed d_lfeed) (T : Txt mg f_is_apart f_runs_of f_how_many f_number_at f_numbers_on f_runs_of_numbers f_spoilt_by f_lfeed f_ldraw f_lalike f_lorder f_lprinting f_lsizes f_lnumber f_ldue f_lseats f_law) :
    FnOk P w K mg base CX0 (1) f_lfeed d_lfeed ["_law_script"] (spFeed K) := by
  refine F.ok sc_lfeed (fun vs H Q E h => ?_) (fun cdv A outer s H vs Q E hr h => ?_)

  · obtain ⟨a, ns, rfl, _⟩ := h
    rfl
  obtain ⟨a, ns, rfl, hs, q⟩ := h
  refine ⟨_, (pss_one (ps_ret (pe_lst (pa_cons (pe_slice sl_list (pv 0) po_none (po_some pe_int)) (pa_cons pe_int (pa_cons pe_int pa_nil)))))), ?_⟩
  refine ⟨_, rfl, _, rfl, a, _, rfl, hs, fun c hc => ?_⟩
  have e : cutV (ns.map V.int) none (some 63) = (ns.take 63).map V.int := (cut_take _ 63).trans (List.map_take).symm
  refine ⟨(show 3 ≤ sizeLine by decide), fun f hf => ?_⟩
  have hcf : c ≠ f := ne_of_none upd_same hf
  refine q f c _ (free_of hf) ((same_new hc _).trans (same_new hf _)) ⟨ns.take 63, 0, 0, upd_same, (upd_ne hcf).trans (by rw [upd_same, e]), List.length_take_le .., Int.le_refl _, Int.le_refl _⟩

theorem ok_how_many (F : Fun K "how_many" "how_many" s_how_many f_how_many d_how_many) (T : Txt mg f_is_apart f_runs_of f_how_many f_number_at f_numbers_on f_runs_of_numbers f_spoilt_by f_lfeed f_ldraw f_lalike f_lorder f_lprinting f_lsizes f_lnumber f_ldue f_lseats f_law) :
    FnOk P w K mg base CX0 (1) f_how_many d_how_many ["printing"] (spHow dictW) := by
  refine F.ok sc_how_many (fun vs H Q E h => ?_) (fun cdv A outer s H vs Q E hr h => ?_)

  · obtain ⟨a, p, rfl, _⟩ := h
    rfl
  obtain ⟨a, p, rfl, ⟨t, h1, o, h2, ho⟩, q⟩ := h
  refine ⟨_, (pss_one (ps_ret (pe_disp (pps_cons pe_str (pe_ix ix_tup (pv 0) pe_int (fun _ _ => rfl)) (pps_cons pe_str (pe_ix ix_tup (pv 0) pe_int (fun _ _ => rfl)) (pps_cons pe_str (pe_ix ix_tup (pv 0) pe_int (fun _ _ => rfl)) pps_nil))) (by rfl) (by rfl) (fun z => by cases z) (by decide)))), ?_⟩
  intro d hd
  have s1 : Same H (upd H d (.dK [])) := same_new hd _
  have k1 := SqT.of (K := K) (s1 _ _ h1)
  refine ⟨_, rfl, a, _, _, _, rfl, rfl, k1, rfl, _, rfl, a, _, _, _, rfl, rfl, k1, rfl, _, rfl, a, _, _, _, rfl, rfl, k1, rfl, upd_same, dictW p.size, rfl, (show 3 ≤ 15 by decide), ?_⟩
  rw [upd_upd]
  refine q d _ (same_new hd _) ?_
  rw [upd_same]
  rfl

theorem ok_lsizes (F : Fun K "_law_sizes" "_law_sizes" s_lsizes f_lsizes d_lsizes) (T : Txt mg f_is_apart f_runs_of f_how_many f_number_at f_numbers_on f_runs_of_numbers f_spoilt_by f_lfeed f_ldraw f_lalike f_lorder f_lprinting f_lsizes f_lnumber f_ldue f_lseats f_law) :
    FnOk P w K mg base CX0 (1) f_lsizes d_lsizes ["_law_printing_here"] (spHow dictC) := by
  refine F.ok sc_lsizes (fun vs H Q E h => ?_) (fun cdv A outer s H vs Q E hr h => ?_)

  · obtain ⟨a, p, rfl, _⟩ := h
    rfl
  obtain ⟨a, p, rfl, ⟨t, h1, o, h2, ho⟩, q⟩ := h
  refine ⟨_, (pss_one (ps_ret (pe_disp (pps_cons pe_str (pe_ix ix_tup (pv 0) pe_int (fun _ _ => rfl)) (pps_cons pe_str (pe_ix ix_tup (pv 0) pe_int (fun _ _ => rfl)) (pps_cons pe_str (pe_ix ix_tup (pv 0) pe_int (fun _ _ => rfl)) pps_nil))) (by rfl) (by rfl) (fun z => by cases z) (by decide)))), ?_⟩
  intro d hd
  have s1 : Same H (upd H d (.dK [])) := same_new hd _
  have k1 := SqT.of (K := K) (s1 _ _ h1)
  refine ⟨_, rfl, a, _, _, _, rfl, rfl, k1, rfl, _, rfl, a, _, _, _, rfl, rfl, k1, rfl, _, rfl, a, _, _, _, rfl, rfl, k1, rfl, upd_same, dictC p.size, rfl, (show 3 ≤ 15 by decide), ?_⟩
  rw [upd_upd]
  refine q d _ (same_new hd _) ?_
  rw [upd_same]
  rfl

theorem ok_number_at (F : Fun K "number_at" "number_at" s_number_at f_number_at d_number_at) (T : Txt mg f_is_apart f_runs_of f_how_many f_number_at f_numbers_on f_runs_of_numbers f_spoilt_by f_lfeed f_ldraw f_lalike f_lorder f_lprinting f_lsizes f_lnumber f_ldue f_lseats f_law)
    (F_how_many : Fun K "how_many" "how_many" s_how_many f_how_many d_how_many) (b_how_many : Binds K d_how_many ["printing"] []) (G_how_many : FnOk P w K mg base CX0 (1) f_how_many d_how_many ["printing"] (spHow dictW)) :
    FnOk P w K mg base CX0 (2) f_number_at d_number_at ["printing", "sheet", "row", "column"] spNum := by
  refine F.ok sc_number_at (fun vs H Q E h => ?_) (fun cdv A outer s H vs Q E hr h => ?_)

  · obtain ⟨a, p, s, r, c, rfl, _⟩ := h
    rfl
  obtain ⟨a, p, s, r, c, rfl, hp, ok, q⟩ := h
  refine ⟨_, (pss_cons (ps_set (i := 4) sc_number_at.nd rfl (.inl rfl) (pe_call G_how_many hr (by rfl) T.m_how_many F_how_many.kp b_how_many .nil pass0 (pa_cons (pv 0) pa_nil)))
  (pss_cons (ps_set (i := 5) sc_number_at.nd rfl (.inl rfl) (pe_disp (pps_cons pe_str (pv 1) (pps_cons pe_str (pv 2) (pps_cons pe_str (pv 3) pps_nil))) (by rfl) (by rfl) (fun z => by cases z) (by decide)))
  (pss_cons (ps_asg (pe_ix ix_tup (pv 0) pe_int (fun _ _ => rfl)) (pg_tup rfl (pgs_cons (pg_name (i := 6) sc_number_at.nd rfl (.inl rfl)) (pgs_cons (pg_name (i := 7) sc_number_at.nd rfl (.inl rfl)) (pgs_cons (pg_name (i := 8) sc_number_at.nd rfl (.inl rfl)) pgs_nil)))))
  (pss_cons (ps_set (i := 9) sc_number_at.nd rfl (.inl rfl) (pe_op op_add (pe_op op_mul (pe_op op_add (pe_op op_mul (pe_dget (hu_of hr) (pv 5) (pv 6) (fun _ _ => rfl)) (pe_dget (hu_of hr) (pv 4) (pv 7) (fun _ _ => rfl))) (pe_dget (hu_of hr) (pv 5) (pv 7) (fun _ _ => rfl))) (pe_dget (hu_of hr) (pv 4) (pv 8) (fun _ _ => rfl))) (pe_dget (hu_of hr) (pv 5) (pv 8) (fun _ _ => rfl))))
  (pss_one (ps_ret (pe_op op_add (pe_ix ix_tup (pv 0) pe_int (fun _ _ => rfl)) (pv 9)))))))), ?_⟩
  refine ⟨_, rfl, a, p, rfl, hp, fun d H1 s1 hd => ?_⟩
  intro e he
  have s2 : Same H1 (upd H1 e (.dK (dictW (seatW s r c)))) := same_new he _
  obtain ⟨t, h1, o, h2, ho⟩ := (hp.same s1).same s2
  have hd2 := get_dW (s2 _ _ hd)
  have he2 := get_dW (H := upd H1 e (.dK (dictW (seatW s r c)))) upd_same
  have big : ∀ u : Wd, -(2 ^ 64) < p.size u ∧ p.size u < 2 ^ 64 := fun u => by
    have := ok.size_lo u
    have := ok.size_hi u
    constructor <;> omega
  refine ⟨_, rfl, _, rfl, _, rfl, upd_same, dictW (seatW s r c), rfl, (show 3 ≤ 15 by decide), ?_⟩
  rw [upd_upd]
  refine ⟨_, rfl, a, _, _, _, rfl, rfl, SqT.of h1, rfl, t, _, rfl, sqF h2, rfl, _, _, rfl, _, _, rfl, _, _, rfl, rfl, ?_⟩
  refine ⟨_, rfl, _, rfl, e, _, rfl, he2 p.o1, _, rfl, _, rfl, d, _, rfl, hd2 p.o2, _, _, rfl, rfl, .inr (ok.big p.o2), _, rfl, _, rfl, e, _, rfl, he2 p.o2, _, _, rfl, rfl, _, rfl, _, rfl, d, _, rfl, hd2 p.o3, _, _, rfl, rfl, .inr (ok.big p.o3), _, rfl, _, rfl, e, _, rfl, he2 p.o3, _, _, rfl, rfl, ?_⟩
  refine ⟨_, rfl, a, _, _, _, rfl, rfl, SqT.of h1, rfl, _, rfl, _, _, rfl, rfl, ?_⟩
  exact q _ (s1.trans s2)

theorem ok_lnumber (F : Fun K "_law_number" "_law_number" s_lnumber f_lnumber d_lnumber) (T : Txt mg f_is_apart f_runs_of f_how_many f_number_at f_numbers_on f_runs_of_numbers f_spoilt_by f_lfeed f_ldraw f_lalike f_lorder f_lprinting f_lsizes f_lnumber f_ldue f_lseats f_law)
    (F_lsizes : Fun K "_law_sizes" "_law_sizes" s_lsizes f_lsizes d_lsizes) (b_lsizes : Binds K d_lsizes ["_law_printing_here"] []) (G_lsizes : FnOk P w K mg base CX0 (1) f_lsizes d_lsizes ["_law_printing_here"] (spHow dictC)) :
    FnOk P w K mg base CX0 (2) f_lnumber d_lnumber ["_law_printing_here", "_law_sheet", "_law_row", "_law_column"] spNum := by
  refine F.ok sc_lnumber (fun vs H Q E h => ?_) (fun cdv A outer s H vs Q E hr h => ?_)

  · obtain ⟨a, p, s, r, c, rfl, _⟩ := h
    rfl
  obtain ⟨a, p, s, r, c, rfl, hp, ok, q⟩ := h
  refine ⟨_, (pss_cons (ps_set (i := 4) sc_lnumber.nd rfl (.inl rfl) (pe_call G_lsizes hr (by rfl) T.m_lsizes F_lsizes.kp b_lsizes .nil pass0 (pa_cons (pv 0) pa_nil)))
  (pss_cons (ps_set (i := 5) sc_lnumber.nd rfl (.inl rfl) (pe_disp (pps_cons pe_str (pv 3) (pps_cons pe_str (pv 2) (pps_cons pe_str (pv 1) pps_nil))) (by rfl) (by rfl) (fun z => by cases z) (by decide)))
  (pss_cons (ps_asg (pe_ix ix_tup (pv 0) pe_int (fun _ _ => rfl)) (pg_tup rfl (pgs_cons (pg_name (i := 6) sc_lnumber.nd rfl (.inl rfl)) (pgs_cons (pg_name (i := 7) sc_lnumber.nd rfl (.inl rfl)) (pgs_cons (pg_name (i := 8) sc_lnumber.nd rfl (.inl rfl)) pgs_nil)))))
  (pss_cons (ps_set (i := 9) sc_lnumber.nd rfl (.inl rfl) (pe_op op_mul (pe_op op_mul (pe_dget (hu_of hr) (pv 5) (pv 6) (fun _ _ => rfl)) (pe_dget (hu_of hr) (pv 4) (pv 7) (fun _ _ => rfl))) (pe_dget (hu_of hr) (pv 4) (pv 8) (fun _ _ => rfl))))
  (pss_cons (ps_set (i := 9) sc_lnumber.nd rfl (.inl rfl) (pe_op op_add (pe_op op_add (pv 9) (pe_op op_mul (pe_dget (hu_of hr) (pv 5) (pv 7) (fun _ _ => rfl)) (pe_dget (hu_of hr) (pv 4) (pv 8) (fun _ _ => rfl)))) (pe_dget (hu_of hr) (pv 5) (pv 8) (fun _ _ => rfl))))
  (pss_one (ps_ret (pe_op op_add (pe_ix ix_tup (pv 0) pe_int (fun _ _ => rfl)) (pv 9))))))))), ?_⟩
  refine ⟨_, rfl, a, p, rfl, hp, fun d H1 s1 hd => ?_⟩
  intro e he
  have s2 : Same H1 (upd H1 e (.dK (dictC (seatW s r c)))) := same_new he _
  obtain ⟨t, h1, o, h2, ho⟩ := (hp.same s1).same s2
  have hd2 := get_dC (s2 _ _ hd)
  have he2 := get_dC (H := upd H1 e (.dK (dictC (seatW s r c)))) upd_same
  refine ⟨_, rfl, _, rfl, _, rfl, upd_same, dictC (seatW s r c), rfl, (show 3 ≤ 15 by decide), ?_⟩
  rw [upd_upd]
  refine ⟨_, rfl, a, _, _, _, rfl, rfl, SqT.of h1, rfl, t, _, rfl, sqF h2, rfl, _, _, rfl, _, _, rfl, _, _, rfl, rfl, ?_⟩
  refine ⟨_, rfl, _, rfl, e, _, rfl, he2 p.o1, _, rfl, _, rfl, d, _, rfl, hd2 p.o2, _, _, rfl, rfl, .inr (ok.big p.o2), _, rfl, _, rfl, d, _, rfl, hd2 p.o3, _, _, rfl, rfl, .inr (ok.big p.o3), ?_⟩
  refine ⟨_, rfl, _, rfl, _, rfl, e, _, rfl, he2 p.o2, _, rfl, _, rfl, d, _, rfl, hd2 p.o3, _, _, rfl, rfl, .inr (ok.big p.o3), _, _, rfl, rfl, _, rfl, _, rfl, e, _, rfl, he2 p.o3, _, _, rfl, rfl, ?_⟩
  refine ⟨_, rfl, a, _, _, _, rfl, rfl, SqT.of h1, rfl, _, rfl, _, _, rfl, rfl, ?_⟩
  have z := q _ (s1.trans s2)
  rw [← p.num_eq] at z
  exact z

theorem ok_lorder (F : Fun K "_law_order" "_law_order" s_lorder f_lorder d_lorder) (T : Txt mg f_is_apart f_runs_of f_how_many f_number_at f_numbers_on f_runs_of_numbers f_spoilt_by f_lfeed f_ldraw f_lalike f_lorder f_lprinting f_lsizes f_lnumber f_ldue f_lseats f_law)
    (F_ldraw : Fun K "_law_draw" "_law_draw" s_ldraw f_ldraw d_ldraw) (b_ldraw : Binds K d_ldraw ["_law_feed_here", "_law_many"] []) (G_ldraw : FnOk P w K mg base CX0 (1) f_ldraw d_ldraw ["_law_feed_here", "_law_many"] spDraw) :
    FnOk P w K mg base CX0 (2) f_lorder d_lorder ["_law_feed_here"] spOrder := by
  refine F.ok sc_lorder (fun vs H Q E h => ?_) (fun cdv A outer s H vs Q E hr h => ?_)

  · obtain ⟨f, c, n, rfl, _⟩ := h
    rfl
  obtain ⟨f, c, n, rfl, hf, hn, q⟩ := h
  refine ⟨_, (pss_cons (ps_set (i := 1) sc_lorder.nd rfl (.inl rfl) (pe_lst (pa_cons pe_str (pa_cons pe_str (pa_cons pe_str pa_nil)))))
  (pss_cons (ps_set (i := 2) sc_lorder.nd rfl (.inl rfl) (pe_bm PySem.F.plainAttrs_list PySem.F.slot_list_pop PySem.F.type_list_pop mt_popAt (pv 1) (pa_cons (pe_call G_ldraw hr (by rfl) T.m_ldraw F_ldraw.kp b_ldraw .nil pass0 (pa_cons (pv 0) (pa_cons pe_int pa_nil))) pa_nil)))
  (pss_cons (ps_set (i := 3) sc_lorder.nd rfl (.inl rfl) (pe_bm PySem.F.plainAttrs_list PySem.F.slot_list_pop PySem.F.type_list_pop mt_popAt (pv 1) (pa_cons (pe_call G_ldraw hr (by rfl) T.m_ldraw F_ldraw.kp b_ldraw .nil pass0 (pa_cons (pv 0) (pa_cons pe_int pa_nil))) pa_nil)))
  (pss_one (ps_ret (pe_tupF (pa_cons (pv 2) (pa_cons (pv 3) (pa_cons (pe_ix ix_list (pv 1) pe_int (fun _ _ => rfl)) pa_nil))))))))), ?_⟩
  refine ⟨(show 3 ≤ sizeLine by decide), fun l hl => ?_⟩
  have ne := hf.ne hl
  refine ⟨_, rfl, .inl ⟨rfl, _, SqL.of upd_same⟩, _, rfl, f, c, 3, n, rfl, hf.new hl, by omega, by decide, by decide, fun d H1 d0 d1 hf1 b1 n1 => ?_⟩
  have e1 := b1 l _ ne.1 upd_same
  have k1 : But f H H1 := (But.new hl).trans b1
  have d3 : d = 0 ∨ d = 1 ∨ d = 2 := by omega
  rcases d3 with rfl | rfl | rfl
  all_goals
    refine ⟨l, _, _, _, _, rfl, rfl, e1, by decide, by decide, rfl, rfl, ?_⟩
    refine ⟨_, rfl, .inl ⟨rfl, _, SqL.of upd_same⟩, _, rfl, f, c, 2, n + 1, rfl, hf1.upd ne, by omega, by decide, by decide, fun e H2 g0 g1 hf2 b2 n2 => ?_⟩
    have e2 := b2 l _ ne.1 upd_same
    have d4 : e = 0 ∨ e = 1 := by omega
    rcases d4 with rfl | rfl
    all_goals
      refine ⟨l, _, _, _, _, rfl, rfl, e2, by decide, by decide, rfl, rfl, ?_⟩
      refine ⟨_, rfl, _, rfl, _, rfl, l, _, _, _, rfl, rfl, SqL.of upd_same, rfl, (show 3 ≤ sizeLine by decide), fun t o ht ho => ?_⟩
      have k2 : But f H H2 := (k1.mut hl).trans b2
      have ft : H t = none := k2.back hf2 (free_of ht)
      first
        | exact q t o .sh .ro .co _ ho (by decide) (by decide) (by decide) (((hf2.upd ne).new ht).mono (by omega)) ((k2.mut hl).trans (But.new ht)) ft upd_same
        | exact q t o .sh .co .ro _ ho (by decide) (by decide) (by decide) (((hf2.upd ne).new ht).mono (by omega)) ((k2.mut hl).trans (But.new ht)) ft upd_same
        | exact q t o .ro .sh .co _ ho (by decide) (by decide) (by decide) (((hf2.upd ne).new ht).mono (by omega)) ((k2.mut hl).trans (But.new ht)) ft upd_same
        | exact q t o .ro .co .sh _ ho (by decide) (by decide) (by decide) (((hf2.upd ne).new ht).mono (by omega)) ((k2.mut hl).trans (But.new ht)) ft upd_same
        | exact q t o .co .sh .ro _ ho (by decide) (by decide) (by decide) (((hf2.upd ne).new ht).mono (by omega)) ((k2.mut hl).trans (But.new ht)) ft upd_same
        | exact q t o .co .ro .sh _ ho (by decide) (by decide) (by decide) (((hf2.upd ne).new ht).mono (by omega)) ((k2.mut hl).trans (But.new ht)) ft upd_same

theorem ok_lprinting (F : Fun K "_law_printing" "_law_printing" s_lprinting f_lprinting d_lprinting) (T : Txt mg f_is_apart f_runs_of f_how_many f_number_at f_numbers_on f_runs_of_numbers f_spoilt_by f_lfeed f_ldraw f_lalike f_lorder f_lprinting f_lsizes f_lnumber f_ldue f_lseats f_law)
    (F_ldraw : Fun K "_law_draw" "_law_draw" s_ldraw f_ldraw d_ldraw) (b_ldraw : Binds K d_ldraw ["_law_feed_here", "_law_many"] []) (G_ldraw : FnOk P w K mg base CX0 (2) f_ldraw d_ldraw ["_law_feed_here", "_law_many"] spDraw)
    (F_lorder : Fun K "_law_order" "_law_order" s_lorder f_lorder d_lorder) (b_lorder : Binds K d_lorder ["_law_feed_here"] []) (G_lorder : FnOk P w K mg base CX0 (2) f_lorder d_lorder ["_law_feed_here"] spOrder) :
    FnOk P w K mg base CX0 (3) f_lprinting d_lprinting ["_law_feed_here", "_law_small"] spPrint := by
  refine F.ok sc_lprinting (fun vs H Q E h => ?_) (fun cdv A outer s H vs Q E hr h => ?_)

  · obtain ⟨f, c, n, k, rfl, _⟩ := h
    rfl
  obtain ⟨f, c, n, k, rfl, hf, hn, hk, q⟩ := h
  refine ⟨_, (pss_cons (ps_par (by rfl) sc_lprinting.nd (i := 2) (j := 3) rfl rfl (by decide) rfl rfl (pa_cons (pe_op op_add pe_int (pe_call G_ldraw hr (by rfl) T.m_ldraw F_ldraw.kp b_ldraw .nil pass0 (pa_cons (pv 0) (pa_cons (pe_ix ix_list (pe_lst (pa_cons pe_int (pa_cons pe_int pa_nil))) (pv 1) (fun _ _ => rfl)) pa_nil)))) (pa_cons (pe_op op_add pe_int (pe_call G_ldraw hr (by rfl) T.m_ldraw F_ldraw.kp b_ldraw .nil pass0 (pa_cons (pv 0) (pa_cons (pe_ix ix_list (pe_lst (pa_cons pe_int (pa_cons pe_int pa_nil))) (pv 1) (fun _ _ => rfl)) pa_nil)))) pa_nil)) (by rfl))
  (pss_cons (ps_set (i := 4) sc_lprinting.nd rfl (.inl rfl) (pe_op op_add pe_int (pe_call G_ldraw hr (by rfl) T.m_ldraw F_ldraw.kp b_ldraw .nil pass0 (pa_cons (pv 0) (pa_cons (pe_ix ix_list (pe_lst (pa_cons (pe_op op_pow pe_int pe_int) (pa_cons pe_int pa_nil))) (pv 1) (fun _ _ => rfl)) pa_nil)))))
  (pss_cons (ps_set (i := 5) sc_lprinting.nd rfl (.inl rfl) (pe_call G_ldraw hr (by rfl) T.m_ldraw F_ldraw.kp b_ldraw .nil pass0 (pa_cons (pv 0) (pa_cons pe_int pa_nil))))
  (pss_cons (ps_set (i := 6) sc_lprinting.nd rfl (.inl rfl) (pe_ix ix_list (pe_lst (pa_cons pe_int (pa_cons (pe_call G_ldraw hr (by rfl) T.m_ldraw F_ldraw.kp b_ldraw .nil pass0 (pa_cons (pv 0) (pa_cons pe_int pa_nil))) (pa_cons (pe_call G_ldraw hr (by rfl) T.m_ldraw F_ldraw.kp b_ldraw .nil pass0 (pa_cons (pv 0) (pa_cons (pe_op op_pow pe_int pe_int) pa_nil))) (pa_cons (pe_op op_sub (pe_op op_pow pe_int pe_int) (pe_op op_mul (pe_op op_mul (pv 2) (pv 3)) (pv 4))) pa_nil))))) (pv 5) (fun _ _ => rfl)))
  (pss_cons (ps_set (i := 7) sc_lprinting.nd rfl (.inl rfl) (pe_op op_repS (pe_ix ix_str pe_str (pe_call G_ldraw hr (by rfl) T.m_ldraw F_ldraw.kp b_ldraw .nil pass0 (pa_cons (pv 0) (pa_cons pe_int pa_nil))) (fun _ _ => rfl)) (pe_op op_add pe_int (pe_call G_ldraw hr (by rfl) T.m_ldraw F_ldraw.kp b_ldraw .nil pass0 (pa_cons (pv 0) (pa_cons pe_int pa_nil))))))
  (pss_one (ps_ret (pe_tup (pa_cons (pv 7) (pa_cons (pv 6) (pa_cons (pv 2) (pa_cons (pv 3) (pa_cons (pv 4) (pa_cons (pe_call G_lorder hr (by rfl) T.m_lorder F_lorder.kp b_lorder .nil pass0 (pa_cons (pv 0) pa_nil)) pa_nil)))))))))))))), ?_⟩
  have two : 2 ≤ sizeLine := by decide
  have pick : ∃ mc ms : Int, 0 < mc ∧ mc ≤ 12 ∧ 0 < ms ∧ ms ≤ 1000000 ∧ (k = 1 → mc ≤ 4 ∧ ms ≤ 6) ∧ atI [V.int 12, .int 4] k = some (.int mc) ∧ atI [V.int (10 ^ 6), .int 6] k = some (.int ms) := by
    rcases hk with rfl | rfl
    · exact ⟨12, 1000000, by decide, by decide, by decide, by decide, by decide, rfl, rfl⟩
    · exact ⟨4, 6, by decide, by decide, by decide, by decide, by decide, rfl, rfl⟩
  obtain ⟨mc, ms, mc0, mc1, ms0, ms1, mk, ac, as⟩ := pick
  refine ⟨_, rfl, two, fun p1 hp1 => ⟨_, rfl, p1, _, _, _, rfl, rfl, SqL.of upd_same, ac, f, c, mc, n, rfl, hf.new hp1, by omega, mc0, by omega, fun d1 H1 d10 d11 hf1 b1 _ => ?_⟩⟩
  have B1 : But f H H1 := (But.new hp1).trans b1
  refine ⟨_, _, rfl, rfl, _, rfl, two, fun p2 hp2 => ⟨_, rfl, p2, _, _, _, rfl, rfl, SqL.of upd_same, ac, f, c, mc, n + 1, rfl, hf1.new hp2, by omega, mc0, by omega, fun d2 H2 d20 d21 hf2 b2 _ => ?_⟩⟩
  have B2 : But f H H2 := B1.trans ((But.new hp2).trans b2)
  refine ⟨_, _, rfl, rfl, _, _, rfl, ?_⟩
  refine ⟨_, rfl, _, _, rfl, rfl, ⟨by decide, by decide, by decide⟩, two, fun p3 hp3 => ⟨_, rfl, p3, _, _, _, rfl, rfl, SqL.of upd_same, as, f, c, ms, n + 1 + 1, rfl, hf2.new hp3, by omega, ms0, by omega, fun d3 H3 d30 d31 hf3 b3 _ => ?_⟩⟩
  have B3 : But f H H3 := B2.trans ((But.new hp3).trans b3)
  refine ⟨_, _, rfl, rfl, ?_⟩
  refine ⟨_, rfl, f, c, 4, n + 1 + 1 + 1, rfl, hf3, by omega, by decide, by decide, fun d4 H4 d40 d41 hf4 b4 _ => ?_⟩
  have B4 : But f H H4 := B3.trans b4
  refine ⟨_, rfl, f, c, 1000, n + 1 + 1 + 1 + 1, rfl, hf4, by omega, by decide, by decide, fun d5 H5 d50 d51 hf5 b5 _ => ?_⟩
  have B5 : But f H H5 := B4.trans b5
  refine ⟨_, rfl, _, _, rfl, rfl, ⟨by decide, by decide, by decide⟩, f, c, 10 ^ 8, n + 1 + 1 + 1 + 1 + 1, rfl, hf5, by omega, by decide, by decide, fun d6 H6 d60 d61 hf6 b6 _ => ?_⟩
  have B6 : But f H H6 := B5.trans b6
  obtain ⟨x0, x1⟩ := prod_bound (c := 1 + d1) (r := 1 + d2) (s := 1 + d3) (by omega) (by omega) (by omega) (by omega) (by omega) (by omega)
  refine ⟨_, _, rfl, rfl, ⟨by decide, by decide, by decide⟩, _, rfl, _, rfl, _, _, rfl, rfl, .inl ⟨by omega, by omega⟩, _, rfl, _, _, rfl, rfl, .inr ⟨by omega, by omega⟩, _, _, rfl, rfl, (show 4 ≤ sizeLine by decide), fun p4 hp4 => ?_⟩
  have way : ∃ fst : Int, 0 ≤ fst ∧ fst + (1 + d1) * (1 + d2) * (1 + d3) ≤ 1000000000 ∧ atI [V.int 0, .int d5, .int d6, .int (10 ^ 9 - (1 + d1) * (1 + d2) * (1 + d3))] d4 = some (.int fst) := by
    have w4 : d4 = 0 ∨ d4 = 1 ∨ d4 = 2 ∨ d4 = 3 := by omega
    rcases w4 with rfl | rfl | rfl | rfl
    · exact ⟨0, by omega, by omega, rfl⟩
    · exact ⟨d5, by omega, by omega, rfl⟩
    · exact ⟨d6, by omega, by omega, rfl⟩
    · exact ⟨10 ^ 9 - (1 + d1) * (1 + d2) * (1 + d3), by omega, by omega, rfl⟩
  obtain ⟨fst, f0, f1, af⟩ := way
  refine ⟨_, rfl, p4, _, _, _, rfl, rfl, SqL.of upd_same, af, ?_⟩
  refine ⟨_, rfl, f, c, 26, n + 1 + 1 + 1 + 1 + 1 + 1, rfl, hf6.new hp4, by omega, by decide, by decide, fun d7 H7 d70 d71 hf7 b7 _ => ?_⟩
  have B7 : But f H H7 := B6.trans ((But.new hp4).trans b7)
  obtain ⟨ch, hch, hch2⟩ := abc_at d7 d70 d71
  refine ⟨abc, _, ch, rfl, rfl, (by decide +kernel), hch, ?_⟩
  refine ⟨_, rfl, f, c, 8, n + 1 + 1 + 1 + 1 + 1 + 1 + 1, rfl, hf7, by omega, by decide, by decide, fun d8 H8 d80 d81 hf8 b8 _ => ?_⟩
  have B8 : But f H H8 := B7.trans b8
  refine ⟨_, _, rfl, rfl, _, _, rfl, rfl, mul1_ok ch d8 d80 (by omega), ?_⟩
  refine ⟨_, rfl, _, rfl, _, rfl, _, rfl, _, rfl, _, rfl, f, c, n + 1 + 1 + 1 + 1 + 1 + 1 + 1 + 1, rfl, hf8, by omega, fun t o u1 u2 u3 H9 ho e12 e13 e23 hf9 b9 ft ht => ?_⟩
  refine ⟨(show 6 ≤ sizeLine by decide), fun a ha => ?_⟩
  have B9 : But f H H9 := B8.trans b9
  refine q a ⟨Txt.mul ⟨#[ch]⟩ (1 + d8), fst, 1 + d1, 1 + d2, 1 + d3, u1, u2, u3⟩ _ ((hf9.new ha).mono (by omega)) (B9.trans (But.new ha)) ⟨t, upd_same, o, (upd_ne (ne_of_none ht ha)).trans ht, ho⟩ ?_ ?_
  · exact ⟨mul1_len ch d8 8 (by omega), f0, by dsimp only; omega, by dsimp only; omega, by dsimp only; omega, by dsimp only; omega, by dsimp only; omega, by dsimp only; omega, f1, e12, e13, e23, mul_chr _ hch2⟩
  · intro k1
    have := mk k1
    dsimp only
    omega

theorem ok_is_apart (F : Fun K "is_apart" "is_apart" s_is_apart f_is_apart d_is_apart) (T : Txt mg f_is_apart f_runs_of f_how_many f_number_at f_numbers_on f_runs_of_numbers f_spoilt_by f_lfeed f_ldraw f_lalike f_lorder f_lprinting f_lsizes f_lnumber f_ldue f_lseats f_law) :
    FnOk P w K mg base CX0 (1) f_is_apart d_is_apart ["run", "later"] spApart := by
  refine F.ok sc_is_apart (fun vs H Q E h => ?_) (fun cdv A outer s H vs Q E hr h => ?_)

  · obtain ⟨p, q, a, b, rfl, _⟩ := h
    rfl
  obtain ⟨p, q, a, b, rfl, h1, h2, z⟩ := h
  refine ⟨_, (pss_cons (ps_if (pt_cmpR op_eq (pe_ix ix_tup (pv 0) pe_int (fun _ _ => rfl)) (pe_ix ix_tup (pv 1) pe_int (fun _ _ => rfl)) (nomark _))
  (pss_one (ps_ret (pe_cmpR op_lt (pe_ix ix_tup (pv 0) pe_int (fun _ _ => rfl)) (pe_ix ix_tup (pv 1) pe_int (fun _ _ => rfl)) (nomark _))))
  pss_nil)
  (pss_one (ps_ret (pe_cmpR op_lt_str (pe_ix ix_tup (pv 0) pe_int (fun _ _ => rfl)) (pe_ix ix_tup (pv 1) pe_int (fun _ _ => rfl)) (nomark _))))), ?_⟩
  refine ⟨_, rfl, p, _, _, _, rfl, rfl, SqT.of h1, rfl, _, rfl, q, _, _, _, rfl, rfl, SqT.of h2, rfl, rfl, _, rfl, ?_⟩
  refine ite2 (fun c => ?_) (fun c => ?_)
  · have e : a.1 = b.1 := V.str.inj (of_decide_eq_true c)
    have z2 : Q (.bl (decide (a.2.2 < b.2.1))) H := by
      unfold apart at z
      rw [if_pos e] at z
      exact z
    exact ⟨_, rfl, p, _, _, _, rfl, rfl, SqT.of h1, rfl, _, rfl, q, _, _, _, rfl, rfl, SqT.of h2, rfl, _, _, rfl, rfl, z2⟩
  · have e : ¬ a.1 = b.1 := fun k => c (decide_eq_true (congrArg V.str k))
    have z2 : Q (.bl (decide (a.1.cps.toList < b.1.cps.toList))) H := by
      unfold apart at z
      rw [if_neg e] at z
      exact z
    exact ⟨_, rfl, p, _, _, _, rfl, rfl, SqT.of h1, rfl, _, rfl, q, _, _, _, rfl, rfl, SqT.of h2, rfl, _, _, rfl, rfl, z2⟩

theorem ok_runs_of (F : Fun K "runs_of" "runs_of" s_runs_of f_runs_of d_runs_of) (T : Txt mg f_is_apart f_runs_of f_how_many f_number_at f_numbers_on f_runs_of_numbers f_spoilt_by f_lfeed f_ldraw f_lalike f_lorder f_lprinting f_lsizes f_lnumber f_ldue f_lseats f_law)
    (F_is_apart : Fun K "is_apart" "is_apart" s_is_apart f_is_apart d_is_apart) (b_is_apart : Binds K d_is_apart ["run", "later"] []) (G_is_apart : FnOk P w K mg base CX0 (1) f_is_apart d_is_apart ["run", "later"] spApart) :
    FnOk P w K mg base CX0 (2) f_runs_of d_runs_of ["some"] (spRunsOf K) := by
  refine F.ok sc_runs_of (fun vs H Q E h => ?_) (fun cdv A outer s H vs Q E hr h => ?_)

  · obtain ⟨a, ps, rs, rfl, _⟩ := h
    rfl
  obtain ⟨a, ps, rs, rfl, hs, hp, hz, q⟩ := h
  refine ⟨_, (pss_cons (ps_set (i := 1) sc_runs_of.nd rfl (.inl rfl) (pe_lst pa_nil))
  (pss_cons (ps_for PassesOwn.never rfl (pi_list (pe_callB (cr_sortedD hr) (by rfl) T.sorted (by decide +kernel) (pa_cons (pv 0) pa_nil))) (pg_name (i := 2) sc_runs_of.nd rfl (.inl rfl))
  (pss_one (ps_if (PW.pt (pw_and (pt_truth (pv 1) (by intro _; rfl)) (pw_and1 (pt_not (pt_val (pe_call G_is_apart hr (by rfl) T.m_is_apart F_is_apart.kp b_is_apart .nil pass0 (pa_cons (pe_ix ix_list (pv 1) (pe_un un_neg pe_int) (fun _ _ => rfl)) (pa_cons (pv 2) pa_nil))))))))
  (pss_cons (ps_asg (pe_ix ix_list (pv 1) (pe_un un_neg pe_int) (fun _ _ => rfl)) (pg_tup rfl (pgs_cons (pg_name (i := 3) sc_runs_of.nd rfl (.inl rfl)) (pgs_cons (pg_name (i := 4) sc_runs_of.nd rfl (.inl rfl)) (pgs_cons (pg_name (i := 5) sc_runs_of.nd rfl (.inl rfl)) pgs_nil)))))
  (pss_one (ps_asg (pe_tup (pa_cons (pv 3) (pa_cons (pv 4) (pa_cons (pe_callB (call_max2 rfl) (by rfl) T.max (by decide +kernel) (pa_cons (pv 5) (pa_cons (pe_ix ix_tup (pv 2) pe_int (fun _ _ => rfl)) pa_nil))) pa_nil)))) (pg_sub (pv 1) (pe_un un_neg pe_int) set_list))))
  (pss_one (ps_expr (pe_bm PySem.F.plainAttrs_list PySem.F.slot_list_append PySem.F.type_list_append mt_append (pv 1) (pa_cons (pv 2) pa_nil)))))))
  (pss_one (ps_ret (pe_callTy call_tuple_of (by rfl) T.tuple (by decide +kernel) (pa_cons (pv 1) pa_nil)))))), ?_⟩
  refine ⟨(show 0 ≤ sizeLine by decide), fun l hl => ?_⟩
  have S1 : Same H (upd H l (.lst [])) := same_new hl _
  have hp1 := Prd.same S1 hp
  obtain ⟨qs, e1, hq⟩ := sort_rn hp1
  refine ⟨_, rfl, a, _, _, rfl, SqL.sm S1 hs, Prd.dp hp1, rn_alike rs, rn_sortable rs, rn_depth rs, fun b hb => ?_⟩
  rw [e1]
  have lb : l ≠ b := ne_of_none upd_same hb
  have S2 := same_new hb (.lst (qs.map V.ref))
  have hql : qs.length = rs.length := by
    rw [hq.len, List.length_mergeSort]
  refine ⟨b, rfl, ⟨_, SqL.of upd_same⟩, for_list (K := K) (a := b) (xs := qs.map V.ref) (fun i σ H' => ∃ (fs : List Addr) (v6 v3 v4 v5 : Option V), σ = [some (.ref a), some (.ref l), v6, v3, v4, v5] ∧
    H' l = some (.lst (fs.map V.ref)) ∧ Prd H' fs (merge ((rs.mergeSort rnLe).take i)) ∧ H' b = some (.lst (qs.map V.ref)) ∧ Same H H' ∧ Prd H' qs (rs.mergeSort rnLe)) ?_ ?_ ?_ ?_⟩
  · exact ⟨[], none, none, none, none, rfl, (upd_ne lb).trans upd_same, .nil, upd_same, S1.trans S2, Prd.same S2 hq⟩
  · rintro i σ H' _ ⟨_, _, _, _, _, _, _, _, h4, _⟩
    exact SqL.of h4
  · rintro i x σ H' hx ⟨fs, v6, v3, v4, v5, rfl, h1, h2, h3, S3, h5⟩
    obtain ⟨p, hp, rfl⟩ : ∃ p, qs[i]? = some p ∧ x = V.ref p := by
      rw [List.getElem?_map] at hx
      cases e : qs[i]? with
      | none => rw [e] at hx; cases hx
      | some p => rw [e] at hx; exact ⟨p, rfl, (Option.some.inj hx).symm⟩
    obtain ⟨r, hr1, hr2⟩ := Prd.get h5 hp
    have mm := merge_more hr1
    have flen : fs.length ≤ 100000 := by
      have z := h2.len
      have z2 := merge_len ((rs.mergeSort rnLe).take i)
      rw [List.length_take, List.length_mergeSort] at z2
      omega
    have fin : ∀ (Hx : Hp) (v3' v4' v5' : Option V) (fs' : List Addr), Same H' Hx → Prd Hx fs' (push (merge ((rs.mergeSort rnLe).take i)) r) → ∃ (fs : List Addr) (v6 v3 v4 v5 : Option V), [some (V.ref a), some (.ref l), some (.ref p), v3', v4', v5'] = [some (.ref a), some (.ref l), v6, v3, v4, v5] ∧
        (upd Hx l (.lst (fs'.map V.ref))) l = some (.lst (fs.map V.ref)) ∧ Prd (upd Hx l (.lst (fs'.map V.ref))) fs (merge ((rs.mergeSort rnLe).take (i + 1))) ∧ (upd Hx l (.lst (fs'.map V.ref))) b = some (.lst (qs.map V.ref)) ∧ Same H (upd Hx l (.lst (fs'.map V.ref))) ∧ Prd (upd Hx l (.lst (fs'.map V.ref))) qs (rs.mergeSort rnLe) := fun Hx v3' v4' v5' fs' sx hh => by
      have keepP : ∀ (o : HO) {qs' : List Addr} {rs' : List Rn}, Prd Hx qs' rs' → Prd (upd Hx l o) qs' rs' := fun o qs' rs' hh => Prd.keep (fun p0 hp0 o0 ho0 => by
        obtain ⟨r0, _, e0⟩ := Prd.mem hh hp0
        rw [upd_ne (ne_of e0 (sx _ _ h1) (fun z => nomatch z))]
        exact ho0) hh
      refine ⟨fs', _, _, _, _, rfl, upd_same, by rw [mm]; exact keepP _ hh, (upd_ne (Ne.symm lb)).trans (sx _ _ h3), fun z u hz => ?_, keepP _ (Prd.same sx h5)⟩
      rw [upd_ne (ne_of_none hz hl)]
      exact sx _ _ (S3 _ _ hz)
    refine ⟨_, rfl, !(fs.map V.ref).isEmpty, .inl ⟨_, SqL.of h1, rfl⟩, ?_⟩
    rcases nil_or_snoc fs with rfl | ⟨fi, la, rfl⟩
    · refine iteF ?_
      refine ⟨_, rfl, .inl ⟨rfl, _, SqL.of h1⟩, _, rfl, l, _, _, rfl, rfl, h1, (show 0 < sizeLine by decide), ?_⟩
      have e0 : merge ((rs.mergeSort rnLe).take i) = [] := List.eq_nil_of_length_eq_zero (by rw [← h2.len]; rfl)
      exact fin H' _ _ _ [p] (Same.refl _) (by rw [e0]; exact Prd.one hr2)
    · obtain ⟨ts, lr, e2, hi2, hla⟩ := Prd.snoc h2
      rw [List.map_append, List.map_singleton] at h1
      have ne : (!((fi ++ [la]).map V.ref).isEmpty) = true := by simp
      rw [ne]
      refine iteT ?_
      refine ⟨_, rfl, 1, rfl, l, _, _, _, rfl, rfl, SqL.of h1, atI_last _ _, _, rfl, la, p, lr, r, rfl, hla, hr2, _, rfl, ?_⟩
      cases ap : apart lr r with
      | true =>
        refine iteF ?_
        refine ⟨_, rfl, .inl ⟨rfl, _, SqL.of h1⟩, _, rfl, l, _, _, rfl, rfl, h1, ?_, ?_⟩
        · rw [List.length_append, List.length_map, List.length_singleton]
          rw [List.length_append, List.length_singleton] at flen
          exact Nat.lt_of_le_of_lt flen (show 100000 < sizeLine by decide)
        · have z := fin H' v3 v4 v5 (fi ++ [la] ++ [p]) (Same.refl _) (by rw [e2, push_snoc, ap]; exact Prd.app (Prd.app hi2 (Prd.one hla)) (Prd.one hr2))
          rw [List.map_append, List.map_append] at z
          exact z
      | false =>
        refine iteT ?_
        refine ⟨_, rfl, 1, rfl, l, _, _, _, rfl, rfl, SqL.of h1, atI_last _ _, la, _, rfl, SqT.of hla, rfl, _, _, rfl, _, _, rfl, _, _, rfl, rfl, ?_⟩
        refine ⟨_, rfl, _, rfl, _, rfl, _, rfl, p, _, _, _, rfl, rfl, SqT.of hr2, rfl, _, _, rfl, (show 3 ≤ sizeLine by decide), fun t ht => ?_⟩
        have sx := same_new ht (.tup (rnV (lr.1, lr.2.1, if r.2.2 > lr.2.2 then r.2.2 else lr.2.2)))
        refine ⟨_, rfl, 1, rfl, l, _, _, fi.length, rfl, rfl, sx _ _ h1, ?_, ?_⟩
        · rw [List.length_append, List.length_map, List.length_singleton]
          exact ix_last _
        · have z := fin _ (some (.str lr.1)) (some (.int lr.2.1)) (some (.int lr.2.2)) (fi ++ [t]) sx (by rw [e2, push_snoc, ap]; exact Prd.app (Prd.same sx hi2) (Prd.one upd_same))
          have e3 : (fi.map V.ref ++ [V.ref la]).set fi.length (.ref t) = (fi ++ [t]).map V.ref := by
            rw [List.set_append_right _ _ (by rw [List.length_map]; exact Nat.le_refl _), List.length_map, Nat.sub_self, List.map_append]
            rfl
          rw [e3]
          exact z
  · rintro σ H' ⟨fs, v6, v3, v4, v5, rfl, h1, h2, h3, S3, h5⟩
    refine ⟨_, rfl, l, _, rfl, .inl ⟨SqL.of h1, fun t ht => ?_⟩⟩
    rw [List.length_map, List.take_of_length_le (by rw [List.length_mergeSort]; omega)] at h2
    exact q t fs _ (S3.trans (same_new ht _)) (S3.free ht) upd_same (Prd.same (same_new ht _) h2)

theorem ok_numbers_on (F : Fun K "numbers_on" "numbers_on" s_numbers_on f_numbers_on d_numbers_on) (T : Txt mg f_is_apart f_runs_of f_how_many f_number_at f_numbers_on f_runs_of_numbers f_spoilt_by f_lfeed f_ldraw f_lalike f_lorder f_lprinting f_lsizes f_lnumber f_ldue f_lseats f_law)
    (F_number_at : Fun K "number_at" "number_at" s_number_at f_number_at d_number_at) (b_number_at : Binds K d_number_at ["printing", "sheet", "row", "column"] []) (G_number_at : FnOk P w K mg base CX0 (2) f_number_at d_number_at ["printing", "sheet", "row", "column"] spNum) :
    FnOk P w K mg base CX0 (3) f_numbers_on d_numbers_on ["printing", "sheet"] spNumsOn := by
  refine F.ok sc_numbers_on (fun vs H Q E h => ?_) (fun cdv A outer s H vs Q E hr h => ?_)

  · obtain ⟨a, p, s, rfl, _⟩ := h
    rfl
  obtain ⟨a, p, s, rfl, hp, ok, q⟩ := h
  refine ⟨_, (pss_cons (ps_set (i := 2) sc_numbers_on.nd rfl (.inr rfl) (pe_ix ix_tup (pv 0) pe_int (fun _ _ => rfl)))
  (pss_cons (ps_set (i := 3) sc_numbers_on.nd rfl (.inl rfl) (pe_ix ix_tup (pv 0) pe_int (fun _ _ => rfl)))
  (pss_one (ps_ret (pe_lc2 (own := [("row", 4), ("column", 5)]) (g := (gName 4)) (g1 := (gName 5)) (vs1 := [5]) (by rfl) sc_numbers_on.nd (pi_range1 (by rfl) T.range (pa_cons (pv 3) pa_nil)) (blkOk_by (own := [("row", 4), ("column", 5)]) (N := ["printing", "sheet", "columns", "rows", "row", "column"]) (sc := defScope s_numbers_on) (by decide +kernel)) (by decide) (fun _ _ _ _ _ => (pg_name (i := 4) sc_numbers_on.nd rfl (.inl rfl))) (fun _ _ _ _ _ => pts_nil) (fun _ _ _ _ _ => (pi_range1 (by rfl) T.range (pa_cons (pv 2) pa_nil))) (fun _ _ _ _ _ => (pg_name (i := 5) sc_numbers_on.nd rfl (.inl rfl))) (fun _ _ _ _ _ => pts_nil) (fun _ _ _ _ _ => (pe_call G_number_at hr (by rfl) T.m_number_at F_number_at.kp b_number_at .nil pass0 (pa_cons (pv 0) (pa_cons (pv 1) (pa_cons (pv 4) (pa_cons (pv 5) pa_nil))))))))))), ?_⟩
  have b1 := ok.c1; have b2 := ok.c2; have b3 := ok.r1; have b4 := ok.r2
  obtain ⟨t, h1, o, h2, ho⟩ := hp
  have lim : ∀ r c : Nat, r < p.rows.toNat → c < p.cols.toNat → (numsTo p s r c).length < sizeLine := fun r c hr hc => by
    rw [numsTo_len]
    have : r * p.cols.toNat ≤ 12 * 12 := Nat.mul_le_mul (by omega) (by omega)
    exact Nat.lt_trans (show _ < 200 by omega) (by decide)
  refine ⟨_, rfl, a, _, _, _, rfl, rfl, SqT.of h1, rfl, ?_⟩
  refine ⟨_, rfl, a, _, _, _, rfl, rfl, SqT.of h1, rfl, ?_⟩
  refine ⟨_, rfl, p.rows, rfl, by omega, by omega, fun D hD => ?_⟩
  refine rng_w (lo := 0) (n := p.rows.toNat) (fun i H' => Same H H' ∧ H' D = some (.lst ((numsTo p s i 0).map V.int))) ⟨same_new hD _, upd_same⟩ ?_ ?_
  · rintro i H1 hi ⟨S1, hD1⟩
    refine ⟨rfl, _, rfl, p.cols, rfl, by omega, by omega, ?_⟩
    refine rng_w (lo := 0) (n := p.cols.toNat) (fun j H' => Same H H' ∧ H' D = some (.lst ((numsTo p s i j).map V.int))) ⟨S1, hD1⟩ ?_ ?_
    · rintro j H2 hj ⟨S2, hD2⟩
      refine ⟨rfl, _, rfl, _, rfl, _, rfl, _, rfl, a, p, s, _, _, rfl, ⟨t, S2 _ _ h1, o, S2 _ _ h2, ho⟩, ok, fun H3 S3 => ?_⟩
      have hD3 := S3 _ _ hD2
      refine ⟨_, hD3, by rw [List.length_map]; exact lim i j hi hj, same_mut (S2.trans S3) hD, ?_⟩
      rw [upd_same, numsTo_col, List.map_append, Int.zero_add, Int.zero_add]
      rfl
    · rintro H2 ⟨S2, hD2⟩
      rw [numsTo_row] at hD2
      exact ⟨S2, hD2⟩
  · rintro H1 ⟨S1, hD1⟩
    rw [numsTo_all] at hD1
    exact q D H1 S1 hD hD1

theorem ok_runs_of_numbers (F : Fun K "runs_of_numbers" "runs_of_numbers" s_runs_of_numbers f_runs_of_numbers d_runs_of_numbers) (T : Txt mg f_is_apart f_runs_of f_how_many f_number_at f_numbers_on f_runs_of_numbers f_spoilt_by f_lfeed f_ldraw f_lalike f_lorder f_lprinting f_lsizes f_lnumber f_ldue f_lseats f_law)
    (F_runs_of : Fun K "runs_of" "runs_of" s_runs_of f_runs_of d_runs_of) (b_runs_of : Binds K d_runs_of ["some"] []) (G_runs_of : FnOk P w K mg base CX0 (2) f_runs_of d_runs_of ["some"] (spRunsOf K)) :
    FnOk P w K mg base CX0 (3) f_runs_of_numbers d_runs_of_numbers ["printing", "numbers"] spRunsNums := by
  refine F.ok sc_runs_of_numbers (fun vs H Q E h => ?_) (fun cdv A outer s H vs Q E hr h => ?_)

  · obtain ⟨a, l, p, ns, rfl, _⟩ := h
    rfl
  obtain ⟨a, l, p, ns, rfl, ⟨t, h1, _, h2, _⟩, hl, hz, q⟩ := h
  refine ⟨_, (pss_cons (ps_set (i := 2) sc_runs_of_numbers.nd rfl (.inr rfl) (pe_ix ix_tup (pv 0) pe_int (fun _ _ => rfl)))
  (pss_one (ps_ret (pe_call G_runs_of hr (by rfl) T.m_runs_of F_runs_of.kp b_runs_of .nil pass0 (pa_cons (pe_lc (own := [("number", 3)]) (g := (gName 3)) (by rfl) sc_runs_of_numbers.nd (pi_list (pv 1)) (blkOk_by (own := [("number", 3)]) (N := ["printing", "numbers", "series", "number"]) (sc := defScope s_runs_of_numbers) (by decide +kernel)) (fun _ _ _ _ _ => (pg_name (i := 3) sc_runs_of_numbers.nd rfl (.inl rfl))) (fun _ _ _ _ _ => pts_nil) (fun _ _ _ _ _ => (pe_tup (pa_cons (pv 2) (pa_cons (pv 3) (pa_cons (pe_op op_add (pv 3) pe_int) pa_nil)))))) pa_nil))))), ?_⟩
  refine ⟨_, rfl, a, _, _, _, rfl, rfl, SqT.of h1, rfl, ?_⟩
  refine ⟨_, rfl, l, rfl, ⟨_, SqL.of hl⟩, fun D hD => ?_⟩
  refine lc_list (K := K) (a := l) (xs := ns.map V.int) (fun i H' => ∃ ps : List Addr, Same H H' ∧ H' D = some (.lst (ps.map V.ref)) ∧ Prd H' ps ((ns.take i).map (single p.series))) ⟨[], same_new hD _, upd_same, .nil⟩ (fun i H' _ h => ?_) ?_ ?_
  · obtain ⟨ps, S1, _⟩ := h
    exact SqL.of (S1 _ _ hl)
  · rintro i x H1 hx ⟨ps, S1, hD1, hp⟩
    obtain ⟨n, hn, rfl⟩ : ∃ n, ns[i]? = some n ∧ x = V.int n := by
      rw [List.getElem?_map] at hx
      cases e : ns[i]? with
      | none => rw [e] at hx; cases hx
      | some p => rw [e] at hx; exact ⟨p, rfl, (Option.some.inj hx).symm⟩
    obtain ⟨hi, en⟩ := List.getElem?_eq_some_iff.mp hn
    refine ⟨rfl, _, rfl, _, rfl, _, rfl, _, _, rfl, rfl, (show 3 ≤ sizeLine by decide), fun u hu => ?_⟩
    have S2 := same_new hu (.tup (rnV (single p.series n)))
    have uD : D ≠ u := ne_of_none hD1 hu
    refine ⟨_, S2 _ _ hD1, ?_, ps ++ [u], same_mut (S1.trans S2) hD, ?_, ?_⟩
    · have e := hp.len
      rw [List.length_map, List.length_take] at e
      rw [List.length_map]
      exact Nat.lt_of_le_of_lt (show _ ≤ 100000 by omega) (by decide)
    · rw [upd_same, List.map_append]
      rfl
    · rw [List.take_succ_eq_append_getElem hi, List.map_append, en]
      refine Prd.app ?_ (Prd.one ?_)
      · refine Prd.keep (fun p0 hp0 o0 ho0 => ?_) (Prd.same S2 hp)
        obtain ⟨r0, _, e0⟩ := Prd.mem (Prd.same S2 hp) hp0
        rw [upd_ne (ne_of e0 (S2 _ _ hD1) (fun z => nomatch z))]
        exact ho0
      · rw [upd_ne (Ne.symm uD)]
        exact upd_same
  · rintro H1 ⟨ps, S1, hD1, hp⟩
    rw [List.length_map, List.take_length] at hp
    refine ⟨D, ps, _, rfl, SqL.of hD1, hp, by rw [List.length_map]; omega, fun t2 qs H2 S2 n2 ht2 hq => ?_⟩
    exact q t2 qs H2 (S1.trans S2) (S1.free n2) ht2 hq

theorem ok_lalike {k n : Nat} (F : Fun K "_law_alike" "_law_alike" s_lalike f_lalike d_lalike) (T : Txt mg f_is_apart f_runs_of f_how_many f_number_at f_numbers_on f_runs_of_numbers f_spoilt_by f_lfeed f_ldraw f_lalike f_lorder f_lprinting f_lsizes f_lnumber f_ldue f_lseats f_law)
    (F_lalike : Fun K "_law_alike" "_law_alike" s_lalike f_lalike d_lalike) (b_lalike : Binds K d_lalike ["_law_found", "_law_due_here"] []) (G_lalike : FnOk P w K mg base CX0 (k + 1) f_lalike d_lalike ["_law_found", "_law_due_here"] (spAlike K n)) :
    FnOk P w K mg base CX0 (k + 2) f_lalike d_lalike ["_law_found", "_law_due_here"] (spAlike K (n + 1)) := by
  refine F.ok sc_lalike (fun vs H Q E h => ?_) (fun cdv A outer s H vs Q E hr h => ?_)

  · obtain ⟨x, y, d, rfl, _⟩ := h
    rfl
  obtain ⟨x, y, d, rfl, hx, hy, hn, q⟩ := h
  refine ⟨_, (pss_cons (ps_if (pt_val (pe_callB call_isiT (by rfl) T.isinstance (by decide +kernel) (pa_cons (pv 1) (pa_cons (pe_tup (pa_cons (pe_bltn (v := .ty "tuple") (by rfl) T.tuple (by decide +kernel) rfl) (pa_cons (pe_bltn (v := .ty "list") (by rfl) T.list (by decide +kernel) rfl) pa_nil))) pa_nil))))
  (pss_cons (ps_if (PW.pt (pw_or (pt_cmpR op_ne (pe_callB call_isi (by rfl) T.isinstance (by decide +kernel) (pa_cons (pv 0) (pa_cons (pe_bltn (v := .ty "tuple") (by rfl) T.tuple (by decide +kernel) rfl) pa_nil))) (pe_callB call_isi (by rfl) T.isinstance (by decide +kernel) (pa_cons (pv 1) (pa_cons (pe_bltn (v := .ty "tuple") (by rfl) T.tuple (by decide +kernel) rfl) pa_nil))) (nomark _)) (pw_or1 (pt_cmpR op_ne (pe_callB call_isi (by rfl) T.isinstance (by decide +kernel) (pa_cons (pv 0) (pa_cons (pe_bltn (v := .ty "list") (by rfl) T.list (by decide +kernel) rfl) pa_nil))) (pe_callB call_isi (by rfl) T.isinstance (by decide +kernel) (pa_cons (pv 1) (pa_cons (pe_bltn (v := .ty "list") (by rfl) T.list (by decide +kernel) rfl) pa_nil))) (nomark _)))))
  (pss_one (ps_ret pe_bl))
  pss_nil)
  (pss_one (ps_ret (pe_and (pe_cmpR op_eq (pe_callB call_len_seq (by rfl) T.len (by decide +kernel) (pa_cons (pv 0) pa_nil)) (pe_callB call_len_seq (by rfl) T.len (by decide +kernel) (pa_cons (pv 1) pa_nil)) (nomark _)) (pe_one (pe_callB (cr_all rfl) (by rfl) T.all (by decide +kernel) (pa_cons (pe_lc (own := [("_law_one", 2), ("_law_other", 3)]) (g := (gTup K 2 (gCons (gName 2) (gCons (gName 3) gNil)))) (by rfl) sc_lalike.nd (RZ.pi_zipA (by rfl) T.zip (pa_cons (pv 0) (pa_cons (pv 1) pa_nil))) (blkOk_by (own := [("_law_one", 2), ("_law_other", 3)]) (N := ["_law_found", "_law_due_here", "_law_one", "_law_other"]) (sc := defScope s_lalike) (by decide +kernel)) (fun _ _ _ _ _ => (pg_tup rfl (pgs_cons (pg_name (i := 2) sc_lalike.nd rfl (.inl rfl)) (pgs_cons (pg_name (i := 3) sc_lalike.nd rfl (.inl rfl)) pgs_nil)))) (fun _ _ _ _ _ => pts_nil) (fun _ _ _ _ _ => (pe_call G_lalike hr (by rfl) T.m_lalike F_lalike.kp b_lalike .nil pass0 (pa_cons (pv 2) (pa_cons (pv 3) pa_nil))))) pa_nil)))))))
  pss_nil)
  (pss_cons (ps_if (pt_cmpR op_isN (pv 1) pe_non (nomark _))
  (pss_one (ps_ret (pe_cmpR op_isN (pv 0) pe_non (nomark _))))
  pss_nil)
  (pss_cons (ps_if (PW.pt (pw_or (pt_val (pe_callB call_isi (by rfl) T.isinstance (by decide +kernel) (pa_cons (pv 1) (pa_cons (pe_bltn (v := .ty "bool") (by rfl) T.bool (by decide +kernel) rfl) pa_nil)))) (pw_or1 (pt_val (pe_callB call_isi (by rfl) T.isinstance (by decide +kernel) (pa_cons (pv 1) (pa_cons (pe_bltn (v := .ty "str") (by rfl) T.str (by decide +kernel) rfl) pa_nil)))))))
  (pss_one (ps_ret (pe_and (pe_cmpR op_eq (pe_callB call_isi (by rfl) T.isinstance (by decide +kernel) (pa_cons (pv 0) (pa_cons (pe_bltn (v := .ty "bool") (by rfl) T.bool (by decide +kernel) rfl) pa_nil))) (pe_callB call_isi (by rfl) T.isinstance (by decide +kernel) (pa_cons (pv 1) (pa_cons (pe_bltn (v := .ty "bool") (by rfl) T.bool (by decide +kernel) rfl) pa_nil))) (nomark _)) (pe_and (pe_callB call_isiT (by rfl) T.isinstance (by decide +kernel) (pa_cons (pv 0) (pa_cons (pe_tup (pa_cons (pe_bltn (v := .ty "bool") (by rfl) T.bool (by decide +kernel) rfl) (pa_cons (pe_bltn (v := .ty "str") (by rfl) T.str (by decide +kernel) rfl) pa_nil))) pa_nil))) (pe_one (pe_cmpR op_eq (pv 0) (pv 1) (nomark _)))))))
  pss_nil)
  (pss_one (ps_ret (pe_and (pe_callB call_isi (by rfl) T.isinstance (by decide +kernel) (pa_cons (pv 0) (pa_cons (pe_bltn (v := .ty "int") (by rfl) T.int (by decide +kernel) rfl) pa_nil))) (pe_and (pe_not (pe_callB call_isi (by rfl) T.isinstance (by decide +kernel) (pa_cons (pv 0) (pa_cons (pe_bltn (v := .ty "bool") (by rfl) T.bool (by decide +kernel) rfl) pa_nil)))) (pe_one (pe_cmpR op_eq (pv 0) (pv 1) (nomark _)))))))))), ?_⟩
  cases hx with
  | @lst a xs ds s1 A1 =>
    obtain ⟨b, ys, rfl, s2, A2⟩ : ∃ b ys, y = .ref b ∧ SqL K H b ys ∧ DpAll K H ys ds := by
      cases hy with
      | lst s A => exact ⟨_, _, rfl, s, A⟩
    have nn : ∃ m, n = m + 1 ∧ ds.length ≤ 100000 ∧ ∀ e ∈ ds, Nice m e := by
      cases n with
      | zero => exact nomatch hn
      | succ m =>
        rcases hn with hn | ⟨es, he, h1, h2⟩
        · exact nomatch hn
        · rcases he with he | he <;> cases he
          exact ⟨m, rfl, h1, h2⟩
    obtain ⟨m, rfl, hl1, hall⟩ := nn
    have l1 := DpAll.len A1
    have l2 := DpAll.len A2
    have hlen : xs.length = ys.length := by omega
    refine ⟨_, rfl, (show 2 ≤ sizeLine by decide), fun tp htp => ?_⟩
    have S1 : Same H (upd H tp (.tup [.ty "tuple", .ty "list"])) := same_new htp _
    have tyx := ty_of (Dp.sm S1 (.lst s1 A1 : Dp K H (.ref a) (.list ds)))
    have tyy := ty_of (Dp.sm S1 (.lst s2 A2 : Dp K H (.ref b) (.list ds)))
    refine ⟨_, tp, _, _, _, _, rfl, upd_same, .cons (.ty _) (.cons (.ty _) .nil), tyy, kit2 k_list_tuple k_list_list, true, rfl, iteT ?_⟩
    refine ⟨_, rfl, _, _, _, _, _, rfl, .ty _, tyx, k_list_tuple, _, rfl, _, _, _, _, _, rfl, .ty _, tyy, k_list_tuple, rfl, _, rfl, iteF ?_⟩
    refine ⟨_, rfl, _, _, _, _, _, rfl, .ty _, tyx, k_list_list, _, rfl, _, _, _, _, _, rfl, .ty _, tyy, k_list_list, rfl, _, rfl, iteF ?_⟩
    have q1 := SqL.sm S1 s1
    have q2 := SqL.sm S1 s2
    refine ⟨_, rfl, a, xs, rfl, .inl q1, _, rfl, b, ys, rfl, .inl q2, rfl, true, congrArg V.bl (decide_eq_true (congrArg V.int (congrArg Int.ofNat hlen))), iteT ?_⟩
    refine ⟨_, rfl, _, rfl, a, b, xs, ys, rfl, .inl ⟨q1, q2, fun D hD => ?_⟩⟩
    refine lc_it (L2.walk_zip (n := xs.length) (by omega)) (fun i H' => Same (upd H tp (.tup [.ty "tuple", .ty "list"])) H' ∧ H' D = some (.lst ((List.replicate i true).map V.bl))) ⟨same_new hD _, upd_same⟩ (fun i H' _ h => ⟨SqL.sm h.1 q1, SqL.sm h.1 q2⟩) ?_ ?_
    · rintro i v H1 H2 hi ⟨S2, hD2⟩ ⟨T1, u1, u2, rfl, hT, rfl, e1, e2⟩
      obtain ⟨d1, hd1, D1⟩ := DpAll.get A1 e1
      obtain ⟨d2, hd2, D2⟩ := DpAll.get A2 e2
      rw [hd1] at hd2
      cases hd2
      have S3 : Same H (upd H1 T1 (.tup [u1, u2])) := S1.trans (S2.trans (same_new hT _))
      refine ⟨T1, [u1, u2], rfl, SqT.of upd_same, rfl, _, _, rfl, _, _, rfl, rfl, rfl, ?_⟩
      refine ⟨_, rfl, _, rfl, u1, u2, d1, rfl, Dp.sm S3 D1, Dp.sm S3 D2, hall d1 (List.mem_of_getElem? hd1), fun H3 S4 => ?_⟩
      have hD3 : H3 D = some (.lst ((List.replicate i true).map V.bl)) := S4 _ _ ((upd_ne (ne_of_none hD2 hT)).trans hD2)
      refine ⟨_, hD3, ?_, fun z o hz => ?_, ?_⟩
      · rw [List.length_map, List.length_replicate]
        exact Nat.lt_of_lt_of_le hi (Nat.le_trans (by omega) (show 100000 ≤ sizeLine by decide))
      · have zD : z ≠ D := ne_of_none hz hD
        rw [upd_ne zD]
        exact S4 _ _ ((upd_ne (ne_of_none (S2 _ _ hz) hT)).trans (S2 _ _ hz))
      · rw [upd_same, List.replicate_succ', List.map_append]
        rfl
    · rintro H2 ⟨S2, hD2⟩
      refine ⟨D, _, rfl, SqL.of hD2, ?_⟩
      have e : (List.replicate xs.length true).all id = true := by
        rw [List.all_eq_true]
        intro z hz
        rw [List.eq_of_mem_replicate hz]
        rfl
      rw [e]
      exact q _ (S1.trans S2)
  | @tup a xs ds s1 A1 =>
    obtain ⟨b, ys, rfl, s2, A2⟩ : ∃ b ys, y = .ref b ∧ SqT K H b ys ∧ DpAll K H ys ds := by
      cases hy with
      | tup s A => exact ⟨_, _, rfl, s, A⟩
    have nn : ∃ m, n = m + 1 ∧ ds.length ≤ 100000 ∧ ∀ e ∈ ds, Nice m e := by
      cases n with
      | zero => exact nomatch hn
      | succ m =>
        rcases hn with hn | ⟨es, he, h1, h2⟩
        · exact nomatch hn
        · rcases he with he | he <;> cases he
          exact ⟨m, rfl, h1, h2⟩
    obtain ⟨m, rfl, hl1, hall⟩ := nn
    have l1 := DpAll.len A1
    have l2 := DpAll.len A2
    have hlen : xs.length = ys.length := by omega
    refine ⟨_, rfl, (show 2 ≤ sizeLine by decide), fun tp htp => ?_⟩
    have S1 : Same H (upd H tp (.tup [.ty "tuple", .ty "list"])) := same_new htp _
    have tyx := ty_of (Dp.sm S1 (.tup s1 A1 : Dp K H (.ref a) (.tuple ds)))
    have tyy := ty_of (Dp.sm S1 (.tup s2 A2 : Dp K H (.ref b) (.tuple ds)))
    refine ⟨_, tp, _, _, _, _, rfl, upd_same, .cons (.ty _) (.cons (.ty _) .nil), tyy, kit2 k_tuple_tuple k_tuple_list, true, rfl, iteT ?_⟩
    refine ⟨_, rfl, _, _, _, _, _, rfl, .ty _, tyx, k_tuple_tuple, _, rfl, _, _, _, _, _, rfl, .ty _, tyy, k_tuple_tuple, rfl, _, rfl, iteF ?_⟩
    refine ⟨_, rfl, _, _, _, _, _, rfl, .ty _, tyx, k_tuple_list, _, rfl, _, _, _, _, _, rfl, .ty _, tyy, k_tuple_list, rfl, _, rfl, iteF ?_⟩
    have q1 := SqT.sm S1 s1
    have q2 := SqT.sm S1 s2
    refine ⟨_, rfl, a, xs, rfl, .inr q1, _, rfl, b, ys, rfl, .inr q2, rfl, true, congrArg V.bl (decide_eq_true (congrArg V.int (congrArg Int.ofNat hlen))), iteT ?_⟩
    refine ⟨_, rfl, _, rfl, a, b, xs, ys, rfl, .inr ⟨q1, q2, fun D hD => ?_⟩⟩
    refine lc_it (walk_zt hlen) (fun i H' => Same (upd H tp (.tup [.ty "tuple", .ty "list"])) H' ∧ H' D = some (.lst ((List.replicate i true).map V.bl))) ⟨same_new hD _, upd_same⟩ (fun i H' _ h => ⟨SqT.sm h.1 q1, SqT.sm h.1 q2⟩) ?_ ?_
    · rintro i v H1 H2 hi ⟨S2, hD2⟩ ⟨T1, u1, u2, rfl, hT, rfl, e1, e2⟩
      obtain ⟨d1, hd1, D1⟩ := DpAll.get A1 e1
      obtain ⟨d2, hd2, D2⟩ := DpAll.get A2 e2
      rw [hd1] at hd2
      cases hd2
      have S3 : Same H (upd H1 T1 (.tup [u1, u2])) := S1.trans (S2.trans (same_new hT _))
      refine ⟨T1, [u1, u2], rfl, SqT.of upd_same, rfl, _, _, rfl, _, _, rfl, rfl, rfl, ?_⟩
      refine ⟨_, rfl, _, rfl, u1, u2, d1, rfl, Dp.sm S3 D1, Dp.sm S3 D2, hall d1 (List.mem_of_getElem? hd1), fun H3 S4 => ?_⟩
      have hD3 : H3 D = some (.lst ((List.replicate i true).map V.bl)) := S4 _ _ ((upd_ne (ne_of_none hD2 hT)).trans hD2)
      refine ⟨_, hD3, ?_, fun z o hz => ?_, ?_⟩
      · rw [List.length_map, List.length_replicate]
        exact Nat.lt_of_lt_of_le hi (Nat.le_trans (by omega) (show 100000 ≤ sizeLine by decide))
      · have zD : z ≠ D := ne_of_none hz hD
        rw [upd_ne zD]
        exact S4 _ _ ((upd_ne (ne_of_none (S2 _ _ hz) hT)).trans (S2 _ _ hz))
      · rw [upd_same, List.replicate_succ', List.map_append]
        rfl
    · rintro H2 ⟨S2, hD2⟩
      refine ⟨D, _, rfl, SqL.of hD2, ?_⟩
      have e : (List.replicate xs.length true).all id = true := by
        rw [List.all_eq_true]
        intro z hz
        rw [List.eq_of_mem_replicate hz]
        rfl
      rw [e]
      exact q _ (S1.trans S2)
  | non =>
    cases hy
    refine ⟨_, rfl, (show 2 ≤ sizeLine by decide), fun tp htp => ?_⟩
    have S1 : Same H (upd H tp (.tup [.ty "tuple", .ty "list"])) := same_new htp _
    refine ⟨_, tp, _, _, _, _, rfl, upd_same, .cons (.ty _) (.cons (.ty _) .nil), .base .non, kit2 k_NoneType_tuple k_NoneType_list, false, rfl, iteF ?_⟩
    refine ⟨_, rfl, rfl, _, rfl, iteT ?_⟩
    refine ⟨_, rfl, rfl, ?_⟩
    exact q _ S1
  | bl b =>
    cases hy
    refine ⟨_, rfl, (show 2 ≤ sizeLine by decide), fun tp htp => ?_⟩
    have S1 : Same H (upd H tp (.tup [.ty "tuple", .ty "list"])) := same_new htp _
    refine ⟨_, tp, _, _, _, _, rfl, upd_same, .cons (.ty _) (.cons (.ty _) .nil), .base (.bl b), kit2 k_bool_tuple k_bool_list, false, rfl, iteF ?_⟩
    refine ⟨_, rfl, rfl, _, rfl, iteF ?_⟩
    refine ⟨_, rfl, _, _, _, _, _, rfl, .ty _, .base (.bl b), k_bool_bool, true, rfl, iteT ?_⟩
    refine ⟨_, rfl, _, _, _, _, _, rfl, .ty _, .base (.bl b), k_bool_bool, _, rfl, _, _, _, _, _, rfl, .ty _, .base (.bl b), k_bool_bool, rfl, true, rfl, iteT ?_⟩
    refine ⟨_, rfl, (show 2 ≤ sizeLine by decide), fun tq htq => ?_⟩
    refine ⟨_, tq, _, _, _, _, rfl, upd_same, .cons (.ty _) (.cons (.ty _) .nil), .base (.bl b), kit2 k_bool_bool k_bool_str, true, rfl, iteT ?_⟩
    refine ⟨_, rfl, _, rfl, (by cases b <;> rfl), ?_⟩
    rw [decide_eq_true rfl]
    exact q _ (S1.trans (same_new htq _))
  | str b =>
    cases hy
    refine ⟨_, rfl, (show 2 ≤ sizeLine by decide), fun tp htp => ?_⟩
    have S1 : Same H (upd H tp (.tup [.ty "tuple", .ty "list"])) := same_new htp _
    refine ⟨_, tp, _, _, _, _, rfl, upd_same, .cons (.ty _) (.cons (.ty _) .nil), .base (.str b), kit2 k_str_tuple k_str_list, false, rfl, iteF ?_⟩
    refine ⟨_, rfl, rfl, _, rfl, iteF ?_⟩
    refine ⟨_, rfl, _, _, _, _, _, rfl, .ty _, .base (.str b), k_str_bool, false, rfl, iteF ?_⟩
    refine ⟨_, rfl, _, _, _, _, _, rfl, .ty _, .base (.str b), k_str_str, true, rfl, iteT ?_⟩
    refine ⟨_, rfl, _, _, _, _, _, rfl, .ty _, .base (.str b), k_str_bool, _, rfl, _, _, _, _, _, rfl, .ty _, .base (.str b), k_str_bool, rfl, true, rfl, iteT ?_⟩
    refine ⟨_, rfl, (show 2 ≤ sizeLine by decide), fun tq htq => ?_⟩
    refine ⟨_, tq, _, _, _, _, rfl, upd_same, .cons (.ty _) (.cons (.ty _) .nil), .base (.str b), kit2 k_str_bool k_str_str, true, rfl, iteT ?_⟩
    refine ⟨_, rfl, _, rfl, rfl, ?_⟩
    rw [decide_eq_true rfl]
    exact q _ (S1.trans (same_new htq _))
  | int b =>
    cases hy
    refine ⟨_, rfl, (show 2 ≤ sizeLine by decide), fun tp htp => ?_⟩
    have S1 : Same H (upd H tp (.tup [.ty "tuple", .ty "list"])) := same_new htp _
    refine ⟨_, tp, _, _, _, _, rfl, upd_same, .cons (.ty _) (.cons (.ty _) .nil), .base (.int b), kit2 k_int_tuple k_int_list, false, rfl, iteF ?_⟩
    refine ⟨_, rfl, rfl, _, rfl, iteF ?_⟩
    refine ⟨_, rfl, _, _, _, _, _, rfl, .ty _, .base (.int b), k_int_bool, false, rfl, iteF ?_⟩
    refine ⟨_, rfl, _, _, _, _, _, rfl, .ty _, .base (.int b), k_int_str, false, rfl, iteF ?_⟩
    refine ⟨_, rfl, _, _, _, _, _, rfl, .ty _, .base (.int b), k_int_int, true, rfl, iteT ?_⟩
    refine ⟨_, rfl, _, _, _, _, _, rfl, .ty _, .base (.int b), k_int_bool, false, rfl, true, rfl, iteT ?_⟩
    refine ⟨_, rfl, _, rfl, rfl, ?_⟩
    rw [decide_eq_true rfl]
    exact q _ S1

theorem ok_spoilt_by (F : Fun K "spoilt_by" "spoilt_by" s_spoilt_by f_spoilt_by d_spoilt_by) (T : Txt mg f_is_apart f_runs_of f_how_many f_number_at f_numbers_on f_runs_of_numbers f_spoilt_by f_lfeed f_ldraw f_lalike f_lorder f_lprinting f_lsizes f_lnumber f_ldue f_lseats f_law)
    (F_number_at : Fun K "number_at" "number_at" s_number_at f_number_at d_number_at) (b_number_at : Binds K d_number_at ["printing", "sheet", "row", "column"] []) (G_number_at : FnOk P w K mg base CX0 (3) f_number_at d_number_at ["printing", "sheet", "row", "column"] spNum)
    (F_numbers_on : Fun K "numbers_on" "numbers_on" s_numbers_on f_numbers_on d_numbers_on) (b_numbers_on : Binds K d_numbers_on ["printing", "sheet"] []) (G_numbers_on : FnOk P w K mg base CX0 (3) f_numbers_on d_numbers_on ["printing", "sheet"] spNumsOn)
    (F_runs_of_numbers : Fun K "runs_of_numbers" "runs_of_numbers" s_runs_of_numbers f_runs_of_numbers d_runs_of_numbers) (b_runs_of_numbers : Binds K d_runs_of_numbers ["printing", "numbers"] []) (G_runs_of_numbers : FnOk P w K mg base CX0 (3) f_runs_of_numbers d_runs_of_numbers ["printing", "numbers"] spRunsNums) :
    FnOk P w K mg base CX0 (4) f_spoilt_by d_spoilt_by ["printing", "sheets", "seats"] (spSpoilt K) := by
  refine F.ok sc_spoilt_by (fun vs H Q E h => ?_) (fun cdv A outer s H vs Q E hr h => ?_)

  · obtain ⟨a, ls, le, p, shs, ps, es, rfl, _⟩ := h
    rfl
  obtain ⟨a, ls, le, p, shs, ps, es, rfl, hp, ok, hs, he, hes, z1, z2, q⟩ := h
  refine ⟨_, (pss_cons (ps_setLc (i := 3) (own := [("sheet", 4), ("row", 5), ("column", 6)]) (g := (gTup K 3 (gCons (gName 4) (gCons (gName 5) (gCons (gName 6) gNil))))) (by rfl) sc_spoilt_by.nd rfl rfl (sw_true rfl rfl rfl (by decide +kernel)) (pi_list (pv 2)) (blkOk_by (own := [("sheet", 4), ("row", 5), ("column", 6)]) (N := ["printing", "sheets", "seats", "numbers", "sheet", "row", "column"]) (sc := defScope s_spoilt_by) (by decide +kernel)) (fun _ _ _ _ _ => (pg_tup rfl (pgs_cons (pg_name (i := 4) sc_spoilt_by.nd rfl (.inl rfl)) (pgs_cons (pg_name (i := 5) sc_spoilt_by.nd rfl (.inl rfl)) (pgs_cons (pg_name (i := 6) sc_spoilt_by.nd rfl (.inl rfl)) pgs_nil))))) (fun _ _ _ _ _ => pts_nil) (fun _ _ _ _ _ => (pe_call G_number_at hr (by rfl) T.m_number_at F_number_at.kp b_number_at .nil pass0 (pa_cons (pv 0) (pa_cons (pv 4) (pa_cons (pv 5) (pa_cons (pv 6) pa_nil)))))))
  (pss_cons (ps_for PassesOwn.never rfl (pi_list (pv 1)) (pg_name (i := 4) sc_spoilt_by.nd rfl (.inl rfl))
  (pss_one (ps_expr (pe_bm PySem.F.plainAttrs_list PySem.F.slot_list_extend PySem.F.type_list_extend mt_extend (pv 3) (pa_cons (pe_call G_numbers_on hr (by rfl) T.m_numbers_on F_numbers_on.kp b_numbers_on .nil pass0 (pa_cons (pv 0) (pa_cons (pv 4) pa_nil))) pa_nil)))))
  (pss_one (ps_ret (pe_call G_runs_of_numbers hr (by rfl) T.m_runs_of_numbers F_runs_of_numbers.kp b_runs_of_numbers .nil pass0 (pa_cons (pv 0) (pa_cons (pv 3) pa_nil))))))), ?_⟩
  have len0 := hes.len
  refine ⟨_, rfl, le, rfl, ⟨_, he⟩, fun D hD => ?_⟩
  refine lc_list (K := K) (a := le) (xs := ps.map V.ref) (fun i H' => Same H H' ∧ H' D = some (.lst (((es.take i).map p.at_).map V.int))) ⟨same_new hD _, upd_same⟩ (fun i H' _ h => SqL.sm h.1 he) ?_ ?_
  · rintro i x H1 hx ⟨S1, hD1⟩
    obtain ⟨u, hu, rfl⟩ : ∃ u, ps[i]? = some u ∧ x = V.ref u := by
      rw [List.getElem?_map] at hx
      cases e : ps[i]? with
      | none => rw [e] at hx; cases hx
      | some p => rw [e] at hx; exact ⟨p, rfl, (Option.some.inj hx).symm⟩
    obtain ⟨e, he1, he2⟩ := Ses.get hes hu
    obtain ⟨hi, ee⟩ := List.getElem?_eq_some_iff.mp he1
    refine ⟨u, _, rfl, SqT.of (S1 _ _ he2), rfl, _, _, rfl, _, _, rfl, _, _, rfl, rfl, rfl, ?_⟩
    refine ⟨_, rfl, _, rfl, _, rfl, _, rfl, a, p, _, _, _, rfl, hp.same S1, ok, fun H2 S2 => ?_⟩
    refine ⟨_, S2 _ _ hD1, ?_, same_mut (S1.trans S2) hD, ?_⟩
    · rw [List.length_map, List.length_map, List.length_take]
      exact Nat.lt_of_le_of_lt (show _ ≤ 1000 by omega) (by decide)
    · rw [upd_same, List.take_succ_eq_append_getElem hi, List.map_append, List.map_append, ee]
      rfl
  · rintro H1 ⟨S1, hD1⟩
    rw [List.length_map, len0, List.take_length] at hD1
    refine ⟨_, rfl, ls, rfl, ⟨_, SqL.sm S1 hs⟩, for_list (K := K) (a := ls) (xs := shs.map V.int) (fun i σ H' => ∃ v4 v5 v6 : Option V, σ = [some (.ref a), some (.ref ls), some (.ref le), some (.ref D), v4, v5, v6] ∧ Same H H' ∧ H' D = some (.lst ((es.map p.at_ ++ (shs.take i).flatMap (numsOn p)).map V.int))) ?_ ?_ ?_ ?_⟩
    · refine ⟨none, none, none, rfl, S1, ?_⟩
      rw [hD1, List.take_zero, List.flatMap_nil, List.append_nil]
    · rintro i σ H' _ ⟨_, _, _, _, S, _⟩
      exact SqL.sm S hs
    · rintro i x σ H2 hx ⟨v4, v5, v6, rfl, S2, hD2⟩
      obtain ⟨n, hn, rfl⟩ : ∃ n, shs[i]? = some n ∧ x = V.int n := by
        rw [List.getElem?_map] at hx
        cases e : shs[i]? with
        | none => rw [e] at hx; cases hx
        | some p => rw [e] at hx; exact ⟨p, rfl, (Option.some.inj hx).symm⟩
      obtain ⟨hi, ee⟩ := List.getElem?_eq_some_iff.mp hn
      refine ⟨_, rfl, .inl ⟨rfl, _, SqL.of hD2⟩, _, rfl, _, rfl, a, p, n, rfl, hp.same S2, ok, fun l H3 S3 n3 hl => ?_⟩
      refine ⟨D, l, _, _, rfl, rfl, S3 _ _ hD2, hl, ?_, ?_⟩
      · have y1 := flat_len ok (shs.take i)
        have y2 := numsOn_len ok n
        rw [List.length_map, List.length_map, List.length_append, List.length_map]
        rw [List.length_take] at y1
        exact Nat.le_trans (show _ ≤ 10000 by omega) (by decide)
      · refine ⟨_, _, _, rfl, same_mut (S2.trans S3) hD, ?_⟩
        rw [upd_same, List.take_succ_eq_append_getElem hi, List.flatMap_append, ee, List.flatMap_singleton, ← List.append_assoc, List.map_append (l₁ := es.map p.at_ ++ (shs.take i).flatMap (numsOn p))]
    · rintro σ H2 ⟨v4, v5, v6, rfl, S2, hD2⟩
      rw [List.length_map, List.take_length] at hD2
      refine ⟨_, rfl, _, rfl, a, D, p, allNums p shs es, rfl, hp.same S2, hD2, ?_, fun t qs H3 S3 n3 ht hq => ?_⟩
      · have y1 := flat_len ok shs
        unfold allNums
        rw [List.length_append, List.length_map]
        omega
      · exact q t qs H3 (S2.trans S3) (S2.free n3) ht hq

theorem ok_ldue (F : Fun K "_law_due" "_law_due" s_ldue f_ldue d_ldue) (T : Txt mg f_is_apart f_runs_of f_how_many f_number_at f_numbers_on f_runs_of_numbers f_spoilt_by f_lfeed f_ldraw f_lalike f_lorder f_lprinting f_lsizes f_lnumber f_ldue f_lseats f_law)
    (F_lnumber : Fun K "_law_number" "_law_number" s_lnumber f_lnumber d_lnumber) (b_lnumber : Binds K d_lnumber ["_law_printing_here", "_law_sheet", "_law_row", "_law_column"] []) (G_lnumber : FnOk P w K mg base CX0 (2) f_lnumber d_lnumber ["_law_printing_here", "_law_sheet", "_law_row", "_law_column"] spNum) :
    FnOk P w K mg base CX0 (3) f_ldue d_ldue ["_law_printing_here", "_law_sheets", "_law_seats_here"] (spSpoilt K) := by
  refine F.ok sc_ldue (fun vs H Q E h => ?_) (fun cdv A outer s H vs Q E hr h => ?_)

  · obtain ⟨a, ls, le, p, shs, ps, es, rfl, _⟩ := h
    rfl
  obtain ⟨a, ls, le, p, shs, ps, es, rfl, hp, ok, hs, he, hes, z1, z2, q⟩ := h
  refine ⟨_, (pss_cons (ps_set (i := 3) sc_ldue.nd rfl (.inl rfl) pe_dnewK)
  (pss_cons (ps_for PassesOwn.never rfl (pi_list (pv 1)) (pg_name (i := 4) sc_ldue.nd rfl (.inl rfl))
  (pss_one (ps_for PassesOwn.never rfl (pi_range1 (by rfl) T.range (pa_cons (pe_ix ix_tup (pv 0) pe_int (fun _ _ => rfl)) pa_nil)) (pg_name (i := 5) sc_ldue.nd rfl (.inl rfl))
  (pss_one (ps_for PassesOwn.never rfl (pi_range1 (by rfl) T.range (pa_cons (pe_ix ix_tup (pv 0) pe_int (fun _ _ => rfl)) pa_nil)) (pg_name (i := 6) sc_ldue.nd rfl (.inl rfl))
  (pss_one (ps_dput (hu_of hr) (pv 3) (pe_call G_lnumber hr (by rfl) T.m_lnumber F_lnumber.kp b_lnumber .nil pass0 (pa_cons (pv 0) (pa_cons (pv 4) (pa_cons (pv 5) (pa_cons (pv 6) pa_nil))))) pe_bl rfl)))))))
  (pss_cons (ps_for PassesOwn.never rfl (pi_list (pv 2)) (pg_tup rfl (pgs_cons (pg_name (i := 4) sc_ldue.nd rfl (.inl rfl)) (pgs_cons (pg_name (i := 5) sc_ldue.nd rfl (.inl rfl)) (pgs_cons (pg_name (i := 6) sc_ldue.nd rfl (.inl rfl)) pgs_nil))))
  (pss_one (ps_dput (hu_of hr) (pv 3) (pe_call G_lnumber hr (by rfl) T.m_lnumber F_lnumber.kp b_lnumber .nil pass0 (pa_cons (pv 0) (pa_cons (pv 4) (pa_cons (pv 5) (pa_cons (pv 6) pa_nil))))) pe_bl rfl)))
  (pss_cons (ps_set (i := 7) sc_ldue.nd rfl (.inl rfl) (pe_lst pa_nil))
  (pss_cons (ps_for PassesOwn.never rfl (pi_list (pe_callB (cr_sortDI rfl) (by rfl) T.sorted (by decide +kernel) (pa_cons (pv 3) pa_nil))) (pg_name (i := 8) sc_ldue.nd rfl (.inl rfl))
  (pss_one (ps_if (PW.pt (pw_and (pt_cmpR op_gt (pe_callB call_len_seq (by rfl) T.len (by decide +kernel) (pa_cons (pv 7) pa_nil)) pe_int (nomark _)) (pw_and1 (pt_cmpR op_eq (pe_ix ix_tup (pe_ix ix_list (pv 7) (pe_un un_neg pe_int) (fun _ _ => rfl)) pe_int (fun _ _ => rfl)) (pv 8) (nomark _)))))
  (pss_one (ps_asg (pe_tup (pa_cons (pe_ix ix_tup (pv 0) pe_int (fun _ _ => rfl)) (pa_cons (pe_ix ix_tup (pe_ix ix_list (pv 7) (pe_un un_neg pe_int) (fun _ _ => rfl)) pe_int (fun _ _ => rfl)) (pa_cons (pe_op op_add (pv 8) pe_int) pa_nil)))) (pg_sub (pv 7) (pe_un un_neg pe_int) set_list)))
  (pss_one (ps_expr (pe_bm PySem.F.plainAttrs_list PySem.F.slot_list_append PySem.F.type_list_append mt_append (pv 7) (pa_cons (pe_tup (pa_cons (pe_ix ix_tup (pv 0) pe_int (fun _ _ => rfl)) (pa_cons (pv 8) (pa_cons (pe_op op_add (pv 8) pe_int) pa_nil)))) pa_nil)))))))
  (pss_one (ps_ret (pe_callTy call_tuple_of (by rfl) T.tuple (by decide +kernel) (pa_cons (pv 7) pa_nil))))))))), ?_⟩
  have b1 := ok.c1; have b2 := ok.c2; have b3 := ok.r1; have b4 := ok.r2
  have hp' := hp
  obtain ⟨t, h1, o, h2, ho⟩ := hp'
  have len0 := hes.len
  intro d hd
  have lenTo : ∀ (i : Nat) (s : Int) (r c : Nat), i ≤ shs.length → r ≤ p.rows.toNat → c ≤ p.cols.toNat → ((shs.take i).flatMap (numsOn p) ++ numsTo p s r c).length < 5000 := fun i s r c hi hr hc => by
    have y1 := flat_len ok (shs.take i)
    rw [List.length_append, numsTo_len]
    rw [List.length_take] at y1
    have : r * p.cols.toNat ≤ 12 * 12 := Nat.mul_le_mul (by omega) (by omega)
    omega
  have sz : ∀ n, n < 5000 → n < 100000 := fun n h => by omega
  refine ⟨_, rfl, ls, rfl, ⟨_, SqL.sm (same_new hd _) hs⟩, for_list (K := K) (a := ls) (xs := shs.map V.int) (fun i σ H' => ∃ v4 v5 v6 v7 v8 : Option V, σ = [some (.ref a), some (.ref ls), some (.ref le), some (.ref d), v4, v5, v6, v7, v8] ∧ Same H H' ∧ DN H' d ((shs.take i).flatMap (numsOn p))) ?_ ?_ ?_ ?_⟩
  · exact ⟨none, none, none, none, none, rfl, same_new hd _, [], [], upd_same, rfl, List.Pairwise.nil, fun n => Iff.rfl, Nat.le_refl _⟩
  · rintro i σ H' _ ⟨_, _, _, _, _, _, S, _⟩
    exact SqL.sm S hs
  · rintro i x σ H1 hx ⟨v4, v5, v6, v7, v8, rfl, S1, D1⟩
    obtain ⟨s, hn, rfl⟩ : ∃ s, shs[i]? = some s ∧ x = V.int s := by
      rw [List.getElem?_map] at hx
      cases e : shs[i]? with
      | none => rw [e] at hx; cases hx
      | some p => rw [e] at hx; exact ⟨p, rfl, (Option.some.inj hx).symm⟩
    obtain ⟨hi, ee⟩ := List.getElem?_eq_some_iff.mp hn
    refine ⟨_, rfl, a, _, _, _, rfl, rfl, SqT.of (S1 _ _ h1), rfl, p.rows, rfl, by omega, by omega, ?_⟩
    refine for_range (lo := 0) (n := p.rows.toNat) (fun r σ H' => ∃ w5 w6 : Option V, σ = [some (.ref a), some (.ref ls), some (.ref le), some (.ref d), some (.int s), w5, w6, v7, v8] ∧ Same H H' ∧ DN H' d ((shs.take i).flatMap (numsOn p) ++ numsTo p s r 0)) ?_ ?_ ?_
    · refine ⟨v5, v6, rfl, S1, ?_⟩
      have e0 : numsTo p s 0 0 = [] := rfl
      rw [e0, List.append_nil]
      exact D1
    · rintro r σ H2 hr2 ⟨w5, w6, rfl, S2, D2⟩
      refine ⟨_, rfl, a, _, _, _, rfl, rfl, SqT.of (S2 _ _ h1), rfl, p.cols, rfl, by omega, by omega, ?_⟩
      refine for_range (lo := 0) (n := p.cols.toNat) (fun c σ H' => ∃ w6 : Option V, σ = [some (.ref a), some (.ref ls), some (.ref le), some (.ref d), some (.int s), some (.int (0 + (r : Int))), w6, v7, v8] ∧ Same H H' ∧ DN H' d ((shs.take i).flatMap (numsOn p) ++ numsTo p s r c)) ?_ ?_ ?_
      · exact ⟨w6, rfl, S2, D2⟩
      · rintro c σ H3 hc ⟨w7, rfl, S3, D3⟩
        refine ⟨_, rfl, _, rfl, _, rfl, _, rfl, _, rfl, a, p, _, _, _, rfl, hp.same S3, ok, fun H4 S4 => ?_⟩
        obtain ⟨H5, dp, D5, od, e5⟩ := (D3.same S4).put (n := p.num s (0 + (r : Int)) (0 + (c : Int))) (v := .bl true) (sz _ (lenTo i s r c (by omega) (by omega) (by omega)))
        refine ⟨d, H5, rfl, dp, _, rfl, ?_, ?_⟩
        · rw [e5]
          exact same_mut (S3.trans S4) hd
        · rw [numsTo_col, ← List.append_assoc]
          rw [Int.zero_add, Int.zero_add] at D5
          exact D5
      · rintro σ H3 ⟨w7, rfl, S3, D3⟩
        rw [numsTo_row] at D3
        exact ⟨_, _, rfl, S3, D3⟩
    · rintro σ H2 ⟨w5, w6, rfl, S2, D2⟩
      rw [numsTo_all] at D2
      refine ⟨_, _, _, _, _, rfl, S2, ?_⟩
      rw [List.take_succ_eq_append_getElem hi, List.flatMap_append, ee, List.flatMap_singleton]
      exact D2
  · rintro σ H1 ⟨v4, v5, v6, v7, v8, rfl, S1, D1⟩
    rw [List.length_map, List.take_length] at D1
    refine ⟨_, rfl, le, rfl, ⟨_, SqL.sm S1 he⟩, for_list (K := K) (a := le) (xs := ps.map V.ref) (fun i σ H' => ∃ v4 v5 v6 : Option V, σ = [some (.ref a), some (.ref ls), some (.ref le), some (.ref d), v4, v5, v6, v7, v8] ∧ Same H H' ∧ DN H' d (shs.flatMap (numsOn p) ++ (es.take i).map p.at_)) ?_ ?_ ?_ ?_⟩
    · refine ⟨v4, v5, v6, rfl, S1, ?_⟩
      rw [List.take_zero, List.map_nil, List.append_nil]
      exact D1
    · rintro i σ H' _ ⟨_, _, _, _, S, _⟩
      exact SqL.sm S he
    · rintro i x σ H2 hx ⟨v4, v5, v6, rfl, S2, D2⟩
      obtain ⟨u, hu, rfl⟩ : ∃ u, ps[i]? = some u ∧ x = V.ref u := by
        rw [List.getElem?_map] at hx
        cases e : ps[i]? with
        | none => rw [e] at hx; cases hx
        | some p => rw [e] at hx; exact ⟨p, rfl, (Option.some.inj hx).symm⟩
      obtain ⟨e, he1, he2⟩ := Ses.get hes hu
      obtain ⟨hi, ee⟩ := List.getElem?_eq_some_iff.mp he1
      refine ⟨u, _, rfl, SqT.of (S2 _ _ he2), rfl, _, _, rfl, _, _, rfl, _, _, rfl, rfl, ?_⟩
      refine ⟨_, rfl, _, rfl, _, rfl, _, rfl, _, rfl, a, p, _, _, _, rfl, hp.same S2, ok, fun H4 S4 => ?_⟩
      have ln : (shs.flatMap (numsOn p) ++ (es.take i).map p.at_).length < 100000 := by
        have y1 := flat_len ok shs
        rw [List.length_append, List.length_map, List.length_take]
        omega
      obtain ⟨H5, dp, D5, od, e5⟩ := (D2.same S4).put (n := p.at_ e) (v := .bl true) ln
      refine ⟨d, H5, rfl, dp, _, _, _, rfl, ?_, ?_⟩
      · rw [e5]
        exact same_mut (S2.trans S4) hd
      · rw [List.take_succ_eq_append_getElem hi, List.map_append, ee, ← List.append_assoc]
        exact D5
    · rintro σ H1 ⟨v4, v5, v6, rfl, S1, D1⟩
      rw [List.length_map, len0, List.take_length] at D1
      obtain ⟨kvs, ks, g1, g2, g3, g4, g5⟩ := D1
      have kl : ks.length ≤ 5000 := by
        have y1 := flat_len ok shs
        rw [List.length_append, List.length_map] at g5
        omega
      refine ⟨(show 0 ≤ sizeLine by decide), fun m hm => ?_⟩
      have S2 := same_new hm (.lst [])
      refine ⟨_, rfl, d, kvs, ks, rfl, .inl (S2 _ _ g1), g2, by omega, fun ms b perm sorted hb => ?_⟩
      have up : ms.Pairwise (· < ·) := (sorted.and ((perm.pairwise_iff (R := (· ≠ ·)) (fun h => Ne.symm h)).mpr g3)).imp fun h => by omega
      have memb : ∀ n, n ∈ ms ↔ n ∈ allNums p shs es := fun n => by rw [perm.mem_iff, g4, allNums_mem]
      have mb : m ≠ b := ne_of_none upd_same hb
      have S3 := same_new hb (.lst (ms.map V.int))
      have mlen : ms.length ≤ 5000 := by
        rw [perm.length_eq]
        omega
      have free0 : H m = none := S1.free hm
      refine ⟨b, rfl, ⟨_, SqL.of upd_same⟩, for_list (K := K) (a := b) (xs := ms.map V.int) (fun i σ H' => ∃ (fs : List Addr) (w8 : Option V), σ = [some (V.ref a), some (.ref ls), some (.ref le), some (.ref d), v4, v5, v6, some (.ref m), w8] ∧
        H' m = some (.lst (fs.map V.ref)) ∧ Prd H' fs ((ms.take i).foldl (step p.series) []) ∧ H' b = some (.lst (ms.map V.int)) ∧ Same H H') ?_ ?_ ?_ ?_⟩
      · exact ⟨[], v8, rfl, (upd_ne mb).trans upd_same, .nil, upd_same, S1.trans (S2.trans S3)⟩
      · rintro i σ H' _ ⟨_, _, _, _, _, h4, _⟩
        exact SqL.of h4
      · rintro i x σ H' hx ⟨fs, w6, rfl, k1, k2, k3, S4⟩
        obtain ⟨n, hn, rfl⟩ : ∃ n, ms[i]? = some n ∧ x = V.int n := by
          rw [List.getElem?_map] at hx
          cases e : ms[i]? with
          | none => rw [e] at hx; cases hx
          | some p => rw [e] at hx; exact ⟨p, rfl, (Option.some.inj hx).symm⟩
        have mm := steps_more (s := p.series) hn
        have flen : fs.length ≤ 5000 := by
          have z := k2.len
          have z2 := steps_len p.series (ms.take i)
          rw [List.length_take] at z2
          omega
        have fin : ∀ (Hx : Hp) (fs' : List Addr), Same H' Hx → Prd Hx fs' (step p.series ((ms.take i).foldl (step p.series) []) n) → ∃ (fs : List Addr) (w6 : Option V), [some (V.ref a), some (.ref ls), some (.ref le), some (.ref d), v4, v5, v6, some (.ref m), some (.int n)] = [some (V.ref a), some (.ref ls), some (.ref le), some (.ref d), v4, v5, v6, some (.ref m), w6] ∧
            (upd Hx m (.lst (fs'.map V.ref))) m = some (.lst (fs.map V.ref)) ∧ Prd (upd Hx m (.lst (fs'.map V.ref))) fs ((ms.take (i + 1)).foldl (step p.series) []) ∧ (upd Hx m (.lst (fs'.map V.ref))) b = some (.lst (ms.map V.int)) ∧ Same H (upd Hx m (.lst (fs'.map V.ref))) := fun Hx fs' sx hh => by
          refine ⟨fs', _, rfl, upd_same, ?_, (upd_ne (Ne.symm mb)).trans (sx _ _ k3), same_mut (S4.trans sx) free0⟩
          rw [mm]
          refine Prd.keep (fun p0 hp0 o0 ho0 => ?_) hh
          obtain ⟨r0, _, e0⟩ := Prd.mem hh hp0
          rw [upd_ne (ne_of e0 (sx _ _ k1) (fun z => nomatch z))]
          exact ho0
        have p1 := S4 _ _ h1
        refine ⟨_, rfl, m, _, rfl, .inl (SqL.of k1), _, _, rfl, rfl, _, rfl, ?_⟩
        rcases nil_or_snoc fs with rfl | ⟨fi, la, rfl⟩
        · refine iteF ?_
          refine ⟨_, rfl, .inl ⟨rfl, _, SqL.of k1⟩, _, rfl, a, _, _, _, rfl, rfl, SqT.of p1, rfl, _, rfl, _, rfl, _, _, rfl, rfl, (show 3 ≤ sizeLine by decide), fun u hu => ?_⟩
          have sx := same_new hu (.tup (rnV (single p.series n)))
          refine ⟨m, _, _, rfl, rfl, sx _ _ k1, (show 0 < sizeLine by decide), ?_⟩
          have e0 : (ms.take i).foldl (step p.series) [] = [] := List.eq_nil_of_length_eq_zero (by rw [← k2.len]; rfl)
          exact fin _ [u] sx (by rw [e0]; exact Prd.one upd_same)
        · obtain ⟨ts, lr, e2, hi2, hla⟩ := Prd.snoc k2
          rw [List.map_append, List.map_singleton] at k1
          have ne : decide ((0 : Int) < ((((fi ++ [la]).map V.ref).length : Nat) : Int)) = true := by
            rw [decide_eq_true_eq, List.length_map, List.length_append, List.length_singleton]
            omega
          rw [ne]
          refine iteT ?_
          refine ⟨_, rfl, 1, rfl, m, _, _, _, rfl, rfl, SqL.of k1, atI_last _ _, la, _, _, _, rfl, rfl, SqT.of hla, rfl, _, rfl, rfl, _, rfl, ?_⟩
          by_cases c : lr.2.2 = n
          · rw [decide_eq_true (congrArg V.int c)]
            refine iteT ?_
            refine ⟨_, rfl, a, _, _, _, rfl, rfl, SqT.of p1, rfl, _, rfl, 1, rfl, m, _, _, _, rfl, rfl, SqL.of k1, atI_last _ _, la, _, _, _, rfl, rfl, SqT.of hla, rfl, _, rfl, _, _, rfl, rfl, (show 3 ≤ sizeLine by decide), fun u hu => ?_⟩
            have sx := same_new hu (.tup (rnV (p.series, lr.2.1, n + 1)))
            refine ⟨_, rfl, 1, rfl, m, _, _, fi.length, rfl, rfl, sx _ _ k1, ?_, ?_⟩
            · rw [List.length_append, List.length_map, List.length_singleton]
              exact ix_last _
            · have z := fin _ (fi ++ [u]) sx (by rw [e2, step_snoc, if_pos c]; exact Prd.app (Prd.same sx hi2) (Prd.one upd_same))
              have e3 : (fi.map V.ref ++ [V.ref la]).set fi.length (.ref u) = (fi ++ [u]).map V.ref := by
                rw [List.set_append_right _ _ (by rw [List.length_map]; exact Nat.le_refl _), List.length_map, Nat.sub_self, List.map_append]
                rfl
              rw [e3]
              exact z
          · rw [decide_eq_false (fun z => c (V.int.inj z))]
            refine iteF ?_
            refine ⟨_, rfl, .inl ⟨rfl, _, SqL.of k1⟩, _, rfl, a, _, _, _, rfl, rfl, SqT.of p1, rfl, _, rfl, _, rfl, _, _, rfl, rfl, (show 3 ≤ sizeLine by decide), fun u hu => ?_⟩
            have sx := same_new hu (.tup (rnV (single p.series n)))
            refine ⟨m, _, _, rfl, rfl, sx _ _ k1, ?_, ?_⟩
            · rw [List.length_append, List.length_map, List.length_singleton]
              rw [List.length_append, List.length_singleton] at flen
              exact Nat.lt_of_le_of_lt flen (show 5000 < sizeLine by decide)
            · have z := fin _ (fi ++ [la] ++ [u]) sx (by rw [e2, step_snoc, if_neg c]; exact Prd.app (Prd.app (Prd.same sx hi2) (Prd.one (sx _ _ hla))) (Prd.one upd_same))
              rw [List.map_append, List.map_append] at z
              exact z
      · rintro σ H' ⟨fs, w6, rfl, k1, k2, k3, S4⟩
        refine ⟨_, rfl, m, _, rfl, .inl ⟨SqL.of k1, fun t2 ht2 => ?_⟩⟩
        rw [List.length_map, List.take_length, runsOf_mem up memb] at k2
        exact q t2 fs _ (S4.trans (same_new ht2 _)) (S4.free ht2) upd_same (Prd.same (same_new ht2 _) k2)

theorem ok_lseats (F : Fun K "_law_seats" "_law_seats" s_lseats f_lseats d_lseats) (T : Txt mg f_is_apart f_runs_of f_how_many f_number_at f_numbers_on f_runs_of_numbers f_spoilt_by f_lfeed f_ldraw f_lalike f_lorder f_lprinting f_lsizes f_lnumber f_ldue f_lseats f_law)
    (F_ldraw : Fun K "_law_draw" "_law_draw" s_ldraw f_ldraw d_ldraw) (b_ldraw : Binds K d_ldraw ["_law_feed_here", "_law_many"] []) (G_ldraw : FnOk P w K mg base CX0 (1) f_ldraw d_ldraw ["_law_feed_here", "_law_many"] spDraw) :
    FnOk P w K mg base CX0 (2) f_lseats d_lseats ["_law_feed_here", "_law_printing_here", "_law_sheets"] spSeats := by
  refine F.ok sc_lseats (fun vs H Q E h => ?_) (fun cdv A outer s H vs Q E hr h => ?_)

  · obtain ⟨f, c, a, ls, n, p, shs, rfl, _⟩ := h
    rfl
  obtain ⟨f, c, a, ls, n, p, shs, rfl, hf, hn, hp, ok, hls, lsf, hsh, z1, q⟩ := h
  refine ⟨_, (pss_cons (ps_set (i := 3) sc_lseats.nd rfl (.inl rfl) (pe_lst pa_nil))
  (pss_cons (ps_for PassesOwn.never rfl (pi_range1 (by rfl) T.range (pa_cons (pe_call G_ldraw hr (by rfl) T.m_ldraw F_ldraw.kp b_ldraw .nil pass0 (pa_cons (pv 0) (pa_cons (pe_ix ix_list (pe_lst (pa_cons pe_int (pa_cons pe_int pa_nil))) (pe_call G_ldraw hr (by rfl) T.m_ldraw F_ldraw.kp b_ldraw .nil pass0 (pa_cons (pv 0) (pa_cons pe_int pa_nil))) (fun _ _ => rfl)) pa_nil))) pa_nil)) (pg_name (i := 4) sc_lseats.nd rfl (.inl rfl))
  (pss_cons (ps_set (i := 5) sc_lseats.nd rfl (.inl rfl) (pe_call G_ldraw hr (by rfl) T.m_ldraw F_ldraw.kp b_ldraw .nil pass0 (pa_cons (pv 0) (pa_cons (pe_ix ix_tup (pv 1) pe_int (fun _ _ => rfl)) pa_nil))))
  (C8.pss_cut (ps_if (PW.pt (pw_and (pt_cmpR op_gt (pe_callB call_len_seq (by rfl) T.len (by decide +kernel) (pa_cons (pv 2) pa_nil)) pe_int (nomark _)) (pw_and1 (pt_cmpR op_eq (pe_call G_ldraw hr (by rfl) T.m_ldraw F_ldraw.kp b_ldraw .nil pass0 (pa_cons (pv 0) (pa_cons pe_int pa_nil))) pe_int (nomark _)))))
  (pss_one (ps_set (i := 5) sc_lseats.nd rfl (.inl rfl) (pe_ix ix_list (pv 2) (pe_call G_ldraw hr (by rfl) T.m_ldraw F_ldraw.kp b_ldraw .nil pass0 (pa_cons (pv 0) (pa_cons (pe_callB call_len_seq (by rfl) T.len (by decide +kernel) (pa_cons (pv 2) pa_nil)) pa_nil))) (fun _ _ => rfl))))
  pss_nil)
  (pss_cons (ps_expr (pe_bm PySem.F.plainAttrs_list PySem.F.slot_list_append PySem.F.type_list_append mt_append (pv 3) (pa_cons (pe_tup (pa_cons (pv 5) (pa_cons (pe_call G_ldraw hr (by rfl) T.m_ldraw F_ldraw.kp b_ldraw .nil pass0 (pa_cons (pv 0) (pa_cons (pe_ix ix_tup (pv 1) pe_int (fun _ _ => rfl)) pa_nil))) (pa_cons (pe_call G_ldraw hr (by rfl) T.m_ldraw F_ldraw.kp b_ldraw .nil pass0 (pa_cons (pv 0) (pa_cons (pe_ix ix_tup (pv 1) pe_int (fun _ _ => rfl)) pa_nil))) pa_nil)))) pa_nil)))
  (pss_one (ps_if (pt_cmpR op_eq (pe_op op_modN (pv 4) pe_int) pe_int (nomark _))
  (pss_one (ps_expr (pe_bm PySem.F.plainAttrs_list PySem.F.slot_list_append PySem.F.type_list_append mt_append (pv 3) (pa_cons (pe_ix ix_list (pe_lst (pa_cons (pe_ix ix_list (pv 3) pe_int (fun _ _ => rfl)) (pa_cons (pe_tup (pa_cons (pv 5) (pa_cons (pe_ix ix_tup (pe_ix ix_list (pv 3) (pe_un un_neg pe_int) (fun _ _ => rfl)) pe_int (fun _ _ => rfl)) (pa_cons (pe_op op_modN (pe_op op_add (pe_ix ix_tup (pe_ix ix_list (pv 3) (pe_un un_neg pe_int) (fun _ _ => rfl)) pe_int (fun _ _ => rfl)) pe_int) (pe_ix ix_tup (pv 1) pe_int (fun _ _ => rfl))) pa_nil)))) pa_nil))) (pe_call G_ldraw hr (by rfl) T.m_ldraw F_ldraw.kp b_ldraw .nil pass0 (pa_cons (pv 0) (pa_cons pe_int pa_nil))) (fun _ _ => rfl)) pa_nil))))
  pss_nil))))))
  (pss_one (ps_ret (pv 3))))), ?_⟩
  have o1 := ok.s1; have o2 := ok.s2; have o3 := ok.c1; have o4 := ok.c2; have o5 := ok.r1; have o6 := ok.r2
  refine ⟨(show 0 ≤ sizeLine by decide), fun l hl => ?_⟩
  have nel := hf.ne hl
  have hl0 := same_new hl (.lst [])
  refine ⟨_, rfl, (show 2 ≤ sizeLine by decide), fun l2 hl2 => ⟨_, rfl, f, c, 2, n, rfl, (hf.new hl).new hl2, by omega, by decide, by decide, fun w Hw w0 w1 hfw bw _ => ?_⟩⟩
  have l2f : l2 ≠ f := ((hf.new hl).ne hl2).1
  have many : ∃ m : Int, 0 < m ∧ m ≤ 40 ∧ atI [V.int 4, .int 40] w = some (.int m) := by
    rcases (show w = 0 ∨ w = 1 by omega) with rfl | rfl
    · exact ⟨4, by decide, by decide, rfl⟩
    · exact ⟨40, by decide, by decide, rfl⟩
  obtain ⟨m, m0, m1, am⟩ := many
  refine ⟨l2, _, _, _, rfl, rfl, SqL.of (bw _ _ l2f upd_same), am, f, c, m, n + 1, rfl, hfw, by omega, m0, by omega, fun k H1 k0 k1 hf1 b1 _ => ?_⟩
  have B1 : But f H H1 := ((But.new hl).trans (But.new hl2)).trans (bw.trans b1)
  have hl1 : H1 l = some (.lst []) := b1 _ _ nel.1 (bw _ _ nel.1 ((same_new hl2 _) _ _ upd_same))
  refine ⟨k, rfl, by omega, by omega, ?_⟩
  refine for_range (lo := 0) (n := k.toNat) (fun i σ H' => ∃ (ps : List Addr) (es : List Se) (v4 v5 : Option V), σ = [some (.ref f), some (.ref a), some (.ref ls), some (.ref l), v4, v5] ∧ Fd H' f c (n + 2 + 8 * i) ∧ But f H H' ∧ H' l = some (.lst (ps.map V.ref)) ∧ Ses H' ps es ∧ es.length ≤ 2 * i ∧ ∀ e ∈ es, SeOk e) ?_ ?_ ?_
  · exact ⟨[], [], none, none, rfl, hf1.mono (by omega), B1, hl1, .nil, Nat.le_refl _, fun e he => nomatch he⟩
  · rintro i σ H2 hi ⟨ps, es, v4, v5, rfl, hf2, B2, hl2', hs2, e2, s2⟩
    obtain ⟨t2, p2, _⟩ := hp.but hf B2
    refine ⟨_, rfl, _, rfl, a, _, _, _, rfl, rfl, SqT.of p2, rfl, f, c, _, _, rfl, hf2, by omega, by omega, by omega, fun d1 H3 d10 d11 hf3 b3 _ => ?_⟩
    have B3 := B2.trans b3
    have ls3 := B3 _ _ lsf hls
    refine ⟨fun σ H' => ∃ sh : Int, 0 ≤ sh ∧ sh ≤ 1000000 ∧ σ = [some (.ref f), some (.ref a), some (.ref ls), some (.ref l), some (.int (0 + (i : Int))), some (.int sh)] ∧ Fd H' f c (n + 2 + 8 * i + 3) ∧ But f H2 H', ?_, ?_⟩
    · refine ⟨_, rfl, ls, _, rfl, .inl (SqL.of ls3), _, _, rfl, rfl, _, rfl, ?_⟩
      refine ite2 (fun c1 => ?_) (fun c1 => ?_)
      · have c1' := of_decide_eq_true c1
        refine ⟨_, rfl, f, c, 3, _, rfl, hf3, by omega, by decide, by decide, fun d2 H4 d20 d21 hf4 b4 _ => ?_⟩
        refine ⟨rfl, _, rfl, ?_⟩
        refine ite2 (fun c2 => ?_) (fun c2 => ?_)
        · have ls4 := b4 _ _ lsf ls3
          refine ⟨_, rfl, _, rfl, _, rfl, ls, _, rfl, .inl (SqL.of ls4), f, c, _, _, rfl, hf4, by omega, c1', ?_, fun d3 H5 d30 d31 hf5 b5 _ => ?_⟩
          · rw [List.length_map]
            omega
          · obtain ⟨sh, hs5, as5⟩ := pick_int d30 d31
            refine ⟨ls, _, _, _, rfl, rfl, SqL.of (b5 _ _ lsf ls4), as5, sh, (hsh sh hs5).1, (hsh sh hs5).2, rfl, hf5.mono (by omega), b3.trans (b4.trans b5)⟩
        · exact ⟨d1, d10, by omega, rfl, hf4.mono (by omega), b3.trans b4⟩
      · exact ⟨d1, d10, by omega, rfl, hf3.mono (by omega), b3⟩
    · rintro σ H4 ⟨sh, sh0, sh1, rfl, hf4, b4⟩
      have B4 := B2.trans b4
      obtain ⟨t4, p4, _⟩ := hp.but hf B4
      have l4 := b4 _ _ nel.1 hl2'
      have hs4 := hs2.but hf2 b4
      refine ⟨_, rfl, .inl ⟨rfl, _, SqL.of l4⟩, _, rfl, _, rfl, _, rfl, a, _, _, _, rfl, rfl, SqT.of p4, rfl, f, c, _, _, rfl, hf4, by omega, by omega, by omega, fun d4 H5 d40 d41 hf5 b5 _ => ?_⟩
      obtain ⟨t5, p5, _⟩ := hp.but hf (B4.trans b5)
      refine ⟨_, rfl, _, rfl, a, _, _, _, rfl, rfl, SqT.of p5, rfl, f, c, _, _, rfl, hf5, by omega, by omega, by omega, fun d5 H6 d50 d51 hf6 b6 _ => ?_⟩
      refine ⟨(show 3 ≤ sizeLine by decide), fun u hu => ?_⟩
      have l6 : H6 l = some (.lst (ps.map V.ref)) := b6 _ _ nel.1 (b5 _ _ nel.1 l4)
      have hs6 := (hs4.but hf4 b5).but hf5 b6
      have N7 := same_new hu (.tup (seV (sh, d4, d5)))
      have plen : ps.length ≤ 100 := by
        have := hs2.len
        omega
      refine ⟨l, _, _, rfl, rfl, N7 _ _ l6, ?_, ?_⟩
      · rw [List.length_map]
        exact Nat.lt_of_le_of_lt plen (by decide)
      generalize hH7 : upd (upd H6 u (.tup (seV (sh, d4, d5)))) l (.lst (ps.map V.ref ++ [.ref u])) = H7
      have hH7' : upd (upd H6 u (.tup [V.int sh, .int d4, .int d5])) l (.lst (ps.map V.ref ++ [.ref u])) = H7 := hH7
      rw [hH7']
      have l7 : H7 l = some (.lst (ps.map V.ref ++ [.ref u])) := by rw [← hH7]; exact upd_same
      have keep7 : ∀ w o, (∀ z, o ≠ HO.lst z) → H6 w = some o → H7 w = some o := fun w o no e => by
        rw [← hH7, upd_ne (ne_of (N7 _ _ e) (N7 _ _ l6) (no _))]
        exact N7 _ _ e
      have u7 : H7 u = some (.tup (seV (sh, d4, d5))) := by
        rw [← hH7, upd_ne (Ne.symm (ne_of_none l6 hu))]
        exact upd_same
      have ses7 : Ses H7 (ps ++ [u]) (es ++ [(sh, d4, d5)]) := Ses.app (Ses.keep keep7 hs6) (.cons u7 .nil)
      have B7 : But f H H7 := by rw [← hH7]; exact ((B4.trans (b5.trans b6)).trans (But.new hu)).mut hl
      have fd7 : Fd H7 f c (n + 2 + 8 * i + 5) := by rw [← hH7]; exact (((hf6.new hu).upd nel).mono (by omega))
      have ok7 : ∀ e ∈ es ++ [(sh, d4, d5)], SeOk e := fun e he => by
        rcases List.mem_append.mp he with he | he
        · exact s2 e he
        · rw [List.mem_singleton] at he
          subst he
          exact ⟨⟨sh0, sh1⟩, ⟨d40, show d4 ≤ 1000000 by omega⟩, ⟨d50, show d5 ≤ 1000000 by omega⟩⟩
      refine ⟨_, rfl, _, _, rfl, rfl, (by show (_ : Int) ≠ 0; decide), rfl, _, rfl, ?_⟩
      refine ite2 (fun ck => ?_) (fun ck => ?_)
      · obtain ⟨w0, wr, ew⟩ : ∃ w0 wr, ps ++ [u] = w0 :: wr := by
          cases ps with
          | nil => exact ⟨u, [], rfl⟩
          | cons x r => exact ⟨x, r ++ [u], rfl⟩
        obtain ⟨e0, g0, hw0⟩ := Ses.get (i := 0) (p := w0) ses7 (by rw [ew]; rfl)
        have at0 : atI (ps.map V.ref ++ [V.ref u]) ((0 : Nat) : Int) = some (.ref w0) := by
          refine atI_nat ?_
          have e9 : ps.map V.ref ++ [V.ref u] = (ps ++ [u]).map V.ref := by rw [List.map_append]; rfl
          rw [e9, ew]
          rfl
        obtain ⟨t7, p7, _⟩ := hp.but hf B7
        have cne : p.cols ≠ 0 := by omega
        refine ⟨_, rfl, .inl ⟨rfl, _, SqL.of l7⟩, _, rfl, l, _, _, _, rfl, rfl, SqL.of l7, at0, _, rfl, _, rfl, 1, rfl, l, _, _, _, rfl, rfl, SqL.of l7, atI_last _ _, u, _, _, _, rfl, rfl, SqT.of u7, rfl, _, rfl, 1, rfl, l, _, _, _, rfl, rfl, SqL.of l7, atI_last _ _, u, _, _, _, rfl, rfl, SqT.of u7, rfl, _, _, rfl, rfl, _, rfl, a, _, _, _, rfl, rfl, SqT.of p7, rfl, _, _, rfl, rfl, cne, (show 3 ≤ sizeLine by decide), fun u2 hu2 => ?_⟩
        have N8 := same_new hu2 (.tup (seV (sh, d4, (d5 + 1).fmod p.cols)))
        refine ⟨(show 2 ≤ sizeLine by decide), fun l3 hl3 => ?_⟩
        have N9 := N8.trans (same_new hl3 (.lst [V.ref w0, .ref u2]))
        have fd9 := fd7.same N9
        have l3f : l3 ≠ f := ((fd7.same N8).ne hl3).1
        refine ⟨_, rfl, f, c, 2, _, rfl, fd9, by omega, by decide, by decide, fun d6 H8 d60 d61 hf8 b8 _ => ?_⟩
        have l8 := b8 _ _ nel.1 (N9 _ _ l7)
        have ses8 := (Ses.same N9 ses7).but fd9 b8
        have w08 : H8 w0 = some (.tup (seV e0)) := by
          obtain ⟨e, g, h⟩ := Ses.get (i := 0) (p := w0) ses8 (by rw [ew]; rfl)
          rw [g0] at g
          cases g
          exact h
        have u28 : H8 u2 = some (.tup (seV (sh, d4, (d5 + 1).fmod p.cols))) := by
          obtain ⟨zs, hz⟩ := fd9.at
          have e9 := (same_new hl3 (.lst [V.ref w0, .ref u2])) _ _ (upd_same (H := H7) (a := u2) (o := .tup (seV (sh, d4, (d5 + 1).fmod p.cols))))
          exact b8 _ _ (ne_of e9 hz (fun z => nomatch z)) e9
        have m0 := mod_lo (d5 + 1) p.cols (by omega)
        have m1' := mod_hi (d5 + 1) p.cols (by omega)
        have which : ∃ (x : Addr) (e : Se), atI [V.ref w0, .ref u2] d6 = some (.ref x) ∧ H8 x = some (.tup (seV e)) ∧ SeOk e := by
          rcases (show d6 = 0 ∨ d6 = 1 by omega) with rfl | rfl
          · exact ⟨w0, e0, rfl, w08, ok7 e0 (List.mem_of_getElem? g0)⟩
          · exact ⟨u2, _, rfl, u28, ⟨⟨sh0, sh1⟩, ⟨d40, show d4 ≤ 1000000 by omega⟩, ⟨m0, show (d5 + 1).fmod p.cols ≤ 1000000 by omega⟩⟩⟩
        obtain ⟨x, e, ax, hx8, okx⟩ := which
        refine ⟨l3, _, _, _, rfl, rfl, SqL.of (b8 _ _ l3f upd_same), ax, l, _, _, rfl, rfl, l8, ?_, ?_⟩
        · rw [List.length_append, List.length_map, List.length_singleton]
          exact Nat.lt_of_le_of_lt (show _ ≤ 101 by omega) (by decide)
        · have len9 : (es ++ [(sh, d4, d5)] ++ [e]).length ≤ 2 * (i + 1) := by
            rw [List.length_append, List.length_append, List.length_singleton, List.length_singleton]
            omega
          refine ⟨ps ++ [u] ++ [x], es ++ [(sh, d4, d5)] ++ [e], _, _, rfl, (hf8.upd nel).mono (by omega), ((B7.trans (But.of_same N9)).trans b8).mut hl, ?_, ?_, len9, fun e' he' => ?_⟩
          · rw [upd_same, List.map_append, List.map_append]
            rfl
          · refine Ses.keep (fun w o no ew => ?_) (Ses.app ses8 (.cons hx8 .nil))
            rw [upd_ne (ne_of ew l8 (no _))]
            exact ew
          · rcases List.mem_append.mp he' with he' | he'
            · exact ok7 e' he'
            · rw [List.mem_singleton] at he'
              subst he'
              exact okx
      · refine ⟨ps ++ [u], es ++ [(sh, d4, d5)], _, _, rfl, fd7.mono (by omega), B7, ?_, ses7, ?_, ok7⟩
        · rw [l7, List.map_append]
          rfl
        · rw [List.length_append, List.length_singleton]
          omega
  · rintro σ H2 ⟨ps, es, v4, v5, rfl, hf2, B2, hl2', hs2, e2, s2⟩
    exact ⟨_, rfl, q l ps es H2 (hf2.mono (by omega)) B2 nel.1 nel.2 hl hl2' hs2 (by omega) s2⟩

theorem ok_law (F : Fun K "law" "law" s_law f_law d_law) (T : Txt mg f_is_apart f_runs_of f_how_many f_number_at f_numbers_on f_runs_of_numbers f_spoilt_by f_lfeed f_ldraw f_lalike f_lorder f_lprinting f_lsizes f_lnumber f_ldue f_lseats f_law)
    (F_lfeed : Fun K "_law_feed" "_law_feed" s_lfeed f_lfeed d_lfeed) (b_lfeed : Binds K d_lfeed ["_law_script"] []) (G_lfeed : FnOk P w K mg base CX0 (5) f_lfeed d_lfeed ["_law_script"] (spFeed K))
    (F_lprinting : Fun K "_law_printing" "_law_printing" s_lprinting f_lprinting d_lprinting) (b_lprinting : Binds K d_lprinting ["_law_feed_here", "_law_small"] []) (G_lprinting : FnOk P w K mg base CX0 (5) f_lprinting d_lprinting ["_law_feed_here", "_law_small"] spPrint)
    (F_ldraw : Fun K "_law_draw" "_law_draw" s_ldraw f_ldraw d_ldraw) (b_ldraw : Binds K d_ldraw ["_law_feed_here", "_law_many"] []) (G_ldraw : FnOk P w K mg base CX0 (5) f_ldraw d_ldraw ["_law_feed_here", "_law_many"] spDraw)
    (F_lseats : Fun K "_law_seats" "_law_seats" s_lseats f_lseats d_lseats) (b_lseats : Binds K d_lseats ["_law_feed_here", "_law_printing_here", "_law_sheets"] []) (G_lseats : FnOk P w K mg base CX0 (5) f_lseats d_lseats ["_law_feed_here", "_law_printing_here", "_law_sheets"] spSeats)
    (F_ldue : Fun K "_law_due" "_law_due" s_ldue f_ldue d_ldue) (b_ldue : Binds K d_ldue ["_law_printing_here", "_law_sheets", "_law_seats_here"] []) (G_ldue : FnOk P w K mg base CX0 (5) f_ldue d_ldue ["_law_printing_here", "_law_sheets", "_law_seats_here"] (spSpoilt K))
    (F_spoilt_by : Fun K "spoilt_by" "spoilt_by" s_spoilt_by f_spoilt_by d_spoilt_by) (b_spoilt_by : Binds K d_spoilt_by ["printing", "sheets", "seats"] []) (G_spoilt_by : FnOk P w K mg base CX0 (5) f_spoilt_by d_spoilt_by ["printing", "sheets", "seats"] (spSpoilt K))
    (F_lalike : Fun K "_law_alike" "_law_alike" s_lalike f_lalike d_lalike) (b_lalike : Binds K d_lalike ["_law_found", "_law_due_here"] []) (G_lalike : FnOk P w K mg base CX0 (5) f_lalike d_lalike ["_law_found", "_law_due_here"] (spAlike K 4)) :
    FnG P w K mg base 6 f_law d_law ["_law_script"] (spLaw K) := by
  refine okG F sc_law (fun vs H Q E h => ?_) (fun cdv A outer s H vs Q E hr hg h => ?_)
  · obtain ⟨a, ns, rfl, _⟩ := h
    rfl
  obtain ⟨a0, ns, rfl, hs, q⟩ := h
  refine ⟨_, (pss_cons (ps_set (i := 1) sc_law.nd rfl (.inr rfl) (pe_call G_lfeed hr (by rfl) T.m_lfeed F_lfeed.kp b_lfeed .nil pass0 (pa_cons (pv 0) pa_nil)))
  (pss_cons (ps_for PassesOwn.never rfl (pi_tup (pe_tup (pa_cons pe_int (pa_cons pe_int (pa_cons pe_int pa_nil))))) (pg_name (i := 2) sc_law.nd rfl (.inl rfl))
  (pss_cons (ps_set (i := 3) sc_law.nd rfl (.inr rfl) (pe_call G_lprinting hr (by rfl) T.m_lprinting F_lprinting.kp b_lprinting .nil pass0 (pa_cons (pv 1) (pa_cons (pv 2) pa_nil))))
  (pss_cons (ps_setLc (i := 4) (own := [("_law_k", 5)]) (g := (gName 5)) (by rfl) sc_law.nd rfl rfl (sw_true rfl rfl rfl (by decide +kernel)) (pi_range1 (by rfl) T.range (pa_cons (pe_call G_ldraw hr (by rfl) T.m_ldraw F_ldraw.kp b_ldraw .nil pass0 (pa_cons (pv 1) (pa_cons (pe_ix ix_list (pe_lst (pa_cons pe_int (pa_cons pe_int pa_nil))) (pe_call G_ldraw hr (by rfl) T.m_ldraw F_ldraw.kp b_ldraw .nil pass0 (pa_cons (pv 1) (pa_cons pe_int pa_nil))) (fun _ _ => rfl)) pa_nil))) pa_nil)) (blkOk_by (own := [("_law_k", 5)]) (N := ["_law_script", "_law_feed_here", "_law_small", "_law_printing_here", "_law_sheets", "_law_k", "_law_seats_here", "_law_kept", "_law_due_here", "_law_dues", "_law_told"]) (sc := defScope s_law) (by decide +kernel)) (fun _ _ _ _ _ => (pg_name (i := 5) sc_law.nd rfl (.inl rfl))) (fun _ _ _ _ _ => pts_nil) (fun _ _ _ _ _ => (pe_call G_ldraw hr (by rfl) T.m_ldraw F_ldraw.kp b_ldraw .nil pass0 (pa_cons (pv 1) (pa_cons (pe_ix (show IxR _ (rIxT K) from ix_tup) (pv 3) pe_int (fun _ _ => rfl)) pa_nil)))))
  (pss_cons (ps_set (i := 4) sc_law.nd rfl (.inl rfl) (pe_op op_cat (pv 4) (pe_slice sl_list (pv 4) po_none (po_some pe_int))))
  (pss_cons (ps_set (i := 6) sc_law.nd rfl (.inl rfl) (pe_call G_lseats hr (by rfl) T.m_lseats F_lseats.kp b_lseats .nil pass0 (pa_cons (pv 1) (pa_cons (pv 3) (pa_cons (pv 4) pa_nil)))))
  (pss_cons (ps_set (i := 7) sc_law.nd rfl (.inl rfl) (pe_callB (cr_repr hg hr) (by rfl) T.repr (by decide +kernel) (pa_cons (pe_tup (pa_cons (pv 3) (pa_cons (pv 4) (pa_cons (pv 6) pa_nil)))) pa_nil)))
  (pss_cons (ps_set (i := 8) sc_law.nd rfl (.inl rfl) (pe_call G_ldue hr (by rfl) T.m_ldue F_ldue.kp b_ldue .nil pass0 (pa_cons (pv 3) (pa_cons (pv 4) (pa_cons (pv 6) pa_nil)))))
  (pss_cons (ps_set (i := 9) sc_law.nd rfl (.inl rfl) (pe_lst (pa_cons (pe_call G_ldue hr (by rfl) T.m_ldue F_ldue.kp b_ldue .nil pass0 (pa_cons (pv 3) (pa_cons (pe_lst pa_nil) (pa_cons (pv 6) pa_nil)))) (pa_cons (pe_call G_ldue hr (by rfl) T.m_ldue F_ldue.kp b_ldue .nil pass0 (pa_cons (pv 3) (pa_cons (pv 4) (pa_cons (pe_lst pa_nil) pa_nil)))) pa_nil))))
  (pss_cons (ps_if (PW.pt (pw_or (pt_not (pt_val (pe_call G_lalike hr (by rfl) T.m_lalike F_lalike.kp b_lalike .nil pass0 (pa_cons (pe_call G_spoilt_by hr (by rfl) T.m_spoilt_by F_spoilt_by.kp b_spoilt_by .nil pass0 (pa_cons (pv 3) (pa_cons (pv 4) (pa_cons (pv 6) pa_nil)))) (pa_cons (pv 8) pa_nil))))) (pw_or1 (pt_cmpR op_ne (pe_callB (cr_repr hg hr) (by rfl) T.repr (by decide +kernel) (pa_cons (pe_tup (pa_cons (pv 3) (pa_cons (pv 4) (pa_cons (pv 6) pa_nil)))) pa_nil)) (pv 7) (nomark _)))))
  (pss_one (ps_ret pe_bl))
  pss_nil)
  (pss_cons (ps_if (pt_not (pt_val (pe_call G_lalike hr (by rfl) T.m_lalike F_lalike.kp b_lalike .nil pass0 (pa_cons (pe_call G_spoilt_by hr (by rfl) T.m_spoilt_by F_spoilt_by.kp b_spoilt_by .nil pass0 (pa_cons (pv 3) (pa_cons (pe_revL (pv 4)) (pa_cons (pe_revL (pv 6)) pa_nil)))) (pa_cons (pv 8) pa_nil)))))
  (pss_one (ps_ret pe_bl))
  pss_nil)
  (pss_cons (ps_set (i := 10) sc_law.nd rfl (.inl rfl) (pe_lst (pa_cons (pe_call G_spoilt_by hr (by rfl) T.m_spoilt_by F_spoilt_by.kp b_spoilt_by .nil pass0 (pa_cons (pv 3) (pa_cons (pe_lst pa_nil) (pa_cons (pv 6) pa_nil)))) (pa_cons (pe_call G_spoilt_by hr (by rfl) T.m_spoilt_by F_spoilt_by.kp b_spoilt_by .nil pass0 (pa_cons (pv 3) (pa_cons (pv 4) (pa_cons (pe_lst pa_nil) pa_nil)))) pa_nil))))
  (pss_one (ps_if (PW.pt (pw_or (pt_not (pt_val (pe_call G_lalike hr (by rfl) T.m_lalike F_lalike.kp b_lalike .nil pass0 (pa_cons (pv 10) (pa_cons (pv 9) pa_nil))))) (pw_or1 (pt_cmpR op_ne (pe_callB (cr_repr hg hr) (by rfl) T.repr (by decide +kernel) (pa_cons (pe_tup (pa_cons (pv 3) (pa_cons (pv 4) (pa_cons (pv 6) pa_nil)))) pa_nil)) (pv 7) (nomark _)))))
  (pss_one (ps_ret pe_bl))
  pss_nil)))))))))))))
  (pss_one (ps_ret (pe_call G_lalike hr (by rfl) T.m_lalike F_lalike.kp b_lalike .nil pass0 (pa_cons (pe_call G_spoilt_by hr (by rfl) T.m_spoilt_by F_spoilt_by.kp b_spoilt_by .nil pass0 (pa_cons (pv 3) (pa_cons (pe_lst pa_nil) (pa_cons (pe_lst pa_nil) pa_nil)))) (pa_cons (pe_tup pa_nil) pa_nil))))))), ?_⟩
  refine ⟨_, rfl, a0, ns, rfl, hs, fun f c H1 nf S1 hf => ?_⟩
  refine ⟨(show 3 ≤ sizeLine by decide), fun tt htt => ?_⟩
  have S2 := same_new htt (.tup [V.int 1, .int 0, .int 1])
  refine ⟨tt, rfl, ⟨_, SqT.of upd_same⟩, for_tup (K := K) (a := tt) (xs := [V.int 1, .int 0, .int 1]) (fun i σ H' => ∃ v2 v3 v4 v5 v6 v7 v8 v9 v10 : Option V, σ = [some (.ref a0), some (.ref f), v2, v3, v4, v5, v6, v7, v8, v9, v10] ∧
    Fd H' f c (600 * i) ∧ H' tt = some (.tup [V.int 1, .int 0, .int 1]) ∧ (i ≠ 0 → ∃ a p, v3 = some (.ref a) ∧ PrAt H' a p ∧ PrOk p)) ?_ ?_ ?_ ?_⟩
  · exact ⟨none, none, none, none, none, none, none, none, none, rfl, hf.new htt, upd_same, fun z => absurd rfl z⟩
  · rintro i σ H' _ ⟨_, _, _, _, _, _, _, _, _, _, _, e, _⟩
    exact SqT.of e
  · rintro i x σ H3 hx ⟨v2, v3, v4, v5, v6, v7, v8, v9, v10, rfl, hf3, e3, _⟩
    have hi : i < 3 := (List.getElem?_eq_some_iff.mp hx).1
    obtain ⟨k, rfl, hk⟩ : ∃ k : Int, x = .int k ∧ (k = 0 ∨ k = 1) := by
      have hm := List.mem_of_getElem? hx
      simp only [List.mem_cons, List.not_mem_nil, or_false] at hm
      rcases hm with rfl | rfl | rfl
      · exact ⟨1, rfl, .inr rfl⟩
      · exact ⟨0, rfl, .inl rfl⟩
      · exact ⟨1, rfl, .inr rfl⟩
    have ttf : tt ≠ f := by
      obtain ⟨zs, hz⟩ := hf3.at
      exact ne_of e3 hz (fun z => nomatch z)
    refine ⟨_, rfl, _, rfl, f, c, _, k, rfl, hf3, by omega, hk, fun a p H4 hf4 b4 hp4 ok _ => ?_⟩
    have o1 := ok.s1; have o2 := ok.s2
    have two : 2 ≤ sizeLine := by decide
    refine ⟨_, rfl, two, fun l1 n1 => ⟨_, rfl, f, c, 2, _, rfl, hf4.new n1, by omega, by decide, by decide, fun w Hw w0 w1 hfw bw _ => ?_⟩⟩
    have l1f : l1 ≠ f := (hf4.ne n1).1
    obtain ⟨m, m0, m1, am⟩ : ∃ m : Int, 0 < m ∧ m ≤ 12 ∧ atI [V.int 3, .int 12] w = some (.int m) := by
      rcases (show w = 0 ∨ w = 1 by omega) with rfl | rfl
      · exact ⟨3, by decide, by decide, rfl⟩
      · exact ⟨12, by decide, by decide, rfl⟩
    refine ⟨l1, _, _, _, rfl, rfl, SqL.of (bw _ _ l1f upd_same), am, f, c, m, _, rfl, hfw, by omega, m0, by omega, fun kk H5 kk0 kk1 hf5 b5 _ => ?_⟩
    have B5 : But f H4 H5 := (But.new n1).trans (bw.trans b5)
    have hp5 := hp4.but hf4 B5
    refine ⟨kk, rfl, by omega, by omega, fun D nD => ?_⟩
    have neD := hf5.ne nD
    refine lc_range (lo := 0) (n := kk.toNat) (fun j H' => ∃ shs : List Int, Fd H' f c (600 * i + 20 + 2 + j) ∧ But f H5 H' ∧ H' D = some (.lst (shs.map V.int)) ∧ shs.length = j ∧ ∀ s ∈ shs, 0 ≤ s ∧ s ≤ 1000000) ?_ ?_ ?_
    · exact ⟨[], (hf5.new nD).mono (by omega), But.new nD, upd_same, rfl, fun s hs => nomatch hs⟩
    · rintro j H6 hj ⟨shs, hf6, b6, hD6, len6, in6⟩
      obtain ⟨t6, p6, _⟩ := hp5.but hf5 b6
      refine ⟨rfl, _, rfl, _, rfl, a, _, _, _, rfl, rfl, SqT.of p6, rfl, f, c, _, _, rfl, hf6, by omega, by omega, by omega, fun d H7 d0 d1 hf7 b7 _ => ?_⟩
      refine ⟨_, b7 _ _ neD.1 hD6, ?_, shs ++ [d], (hf7.upd neD).mono (by omega), (b6.trans b7).mut nD, ?_, ?_, fun s hs => ?_⟩
      · rw [List.length_map, len6]
        exact Nat.lt_trans (show _ < 200 by omega) (by decide)
      · rw [upd_same, List.map_append]
        rfl
      · rw [List.length_append, List.length_singleton, len6]
      · rcases List.mem_append.mp hs with hs | hs
        · exact in6 s hs
        · rw [List.mem_singleton] at hs
          subst hs
          omega
    · rintro H6 ⟨sh0, hf6, b6, hD6, len6, in6⟩
      have hp6 := hp5.but hf5 b6
      refine ⟨_, rfl, _, rfl, 1, rfl, D, _, rfl, SqL.of hD6, fun l2 n2 => ?_⟩
      have e2 : cutV (sh0.map V.int) none (some 1) = (sh0.take 1).map V.int := (cut_take _ 1).trans (List.map_take).symm
      rw [e2]
      have N2 := same_new n2 (.lst ((sh0.take 1).map V.int))
      have tk1 : (sh0.take 1).length ≤ 1 := List.length_take_le ..
      refine ⟨D, l2, _, _, rfl, rfl, N2 _ _ hD6, upd_same, ?_, fun ls n3 => ?_⟩
      · rw [List.length_map, List.length_map]
        exact Nat.le_trans (show _ ≤ 200 by omega) (by decide)
      rw [← List.map_append]
      obtain ⟨shs, hshs⟩ : ∃ shs, shs = sh0 ++ sh0.take 1 := ⟨_, rfl⟩
      rw [← hshs]
      have slen : shs.length ≤ 20 := by
        rw [hshs, List.length_append]
        omega
      have sin : ∀ s ∈ shs, 0 ≤ s ∧ s ≤ 1000000 := fun s hs => by
        rw [hshs] at hs
        rcases List.mem_append.mp hs with hs | hs
        · exact in6 s hs
        · exact in6 s (List.mem_of_mem_take hs)
      have N3 := N2.trans (same_new n3 (.lst (shs.map V.int)))
      have fd8 := hf6.same N3
      have lsf : ls ≠ f := ((hf6.same N2).ne n3).1
      have hp8 := hp6.same N3
      refine ⟨_, rfl, _, rfl, _, rfl, f, c, a, ls, _, p, shs, rfl, fd8, by omega, hp8, ok, upd_same, lsf, sin, slen, fun l ps es H9 hf9 b9 lf lc nl hl9 hs9 elen ein => ?_⟩
      have hp9 := hp8.but fd8 b9
      have ls9 := b9 _ _ lsf upd_same
      have tt9 : H9 tt = some (.tup [V.int 1, .int 0, .int 1]) := b9 _ _ ttf (N3 _ _ (b6 _ _ ttf (B5 _ _ ttf (b4 _ _ ttf e3))))
      obtain ⟨sh1, sh2, sh3⟩ := tr_fine ok sin ein slen elen
      have dep := tr_depth p shs es
      have three : 3 ≤ sizeLine := by decide
      refine ⟨_, rfl, _, rfl, _, rfl, three, fun r1 m1 => ?_⟩
      have R1 := same_new m1 (.tup [V.ref a, .ref ls, .ref l])
      refine ⟨r1, trD p shs es, rfl, tr_dp upd_same (hp9.same R1) (R1 _ _ ls9) (R1 _ _ hl9) (Ses.same R1 hs9), sh1, sh2, dep, sh3, ?_⟩
      generalize hkept : (trD p shs es).shown = kept at *
      have big : es.length ≤ 1000 := by omega
      have zero : 0 ≤ sizeLine := by decide
      refine ⟨_, rfl, _, rfl, _, rfl, a, ls, l, p, shs, ps, es, rfl, hp9.same R1, ok, SqL.of (R1 _ _ ls9), SqL.of (R1 _ _ hl9), Ses.same R1 hs9, slen, big, fun t1 q1 Ha Sa na ha ga => ?_⟩
      have Ta := R1.trans Sa
      refine ⟨_, rfl, zero, fun x1 nx1 => ?_⟩
      have Nx1 := same_new nx1 (.lst [])
      have Tb := Ta.trans Nx1
      refine ⟨_, rfl, a, x1, l, p, [], ps, es, rfl, hp9.same Tb, ok, SqL.of upd_same, SqL.of (Tb _ _ hl9), Ses.same Tb hs9, (show 0 ≤ 20 by decide), big, fun t2 q2 Hb Sb nb hb gb => ?_⟩
      have Tc := Tb.trans Sb
      refine ⟨_, rfl, _, rfl, zero, fun x2 nx2 => ?_⟩
      have Nx2 := same_new nx2 (.lst [])
      have Td := Tc.trans Nx2
      refine ⟨a, ls, x2, p, shs, [], [], rfl, hp9.same Td, ok, SqL.of (Td _ _ ls9), SqL.of upd_same, .nil, slen, (show 0 ≤ 1000 by decide), fun t3 q3 Hc Sc nc hc gc => ?_⟩
      have Te := Td.trans Sc
      refine ⟨two, fun dl ndl => ?_⟩
      have Ndl := same_new ndl (.lst [V.ref t2, .ref t3])
      have Tf := Te.trans Ndl
      have K1 : Same Ha _ := Nx1.trans (Sb.trans (Nx2.trans (Sc.trans Ndl)))
      have K2 : Same Hb _ := Nx2.trans (Sc.trans Ndl)
      refine ⟨_, rfl, _, rfl, _, rfl, a, ls, l, p, shs, ps, es, rfl, hp9.same Tf, ok, SqL.of (Tf _ _ ls9), SqL.of (Tf _ _ hl9), Ses.same Tf hs9, slen, big, fun t4 q4 Hd Sd nd hd gd => ?_⟩
      have Tg := Tf.trans Sd
      refine ⟨_, rfl, .ref t4, .ref t1, rnsD _, rfl, prd_dp hd gd, prd_dp ((K1.trans Sd) _ _ ha) (Prd.same (K1.trans Sd) ga), Nice.more (rns_nice (all_len ok slen big _)), fun He Se => ?_⟩
      have Th := Tg.trans Se
      refine ⟨true, rfl, iteF ?_⟩
      refine ⟨_, rfl, _, rfl, _, rfl, three, fun r2 m2 => ?_⟩
      have R2 := same_new m2 (.tup [V.ref a, .ref ls, .ref l])
      have Ti := Th.trans R2
      refine ⟨r2, trD p shs es, rfl, tr_dp upd_same (hp9.same Ti) (Ti _ _ ls9) (Ti _ _ hl9) (Ses.same Ti hs9), sh1, sh2, dep, by rw [hkept]; exact sh3, _, rfl, rfl, _, rfl, iteNS (congrArg V.str hkept) ?_⟩
      refine ⟨_, rfl, _, rfl, ls, _, rfl, SqL.of (Ti _ _ ls9), fun y1 ny1 => ?_⟩
      have Ny1 := same_new ny1 (.lst (shs.map V.int).reverse)
      have Tj := Ti.trans Ny1
      refine ⟨_, rfl, l, _, rfl, SqL.of (Tj _ _ hl9), fun y2 ny2 => ?_⟩
      have Ny2 := same_new ny2 (.lst (ps.map V.ref).reverse)
      have Tk := Tj.trans Ny2
      refine ⟨a, y1, y2, p, shs.reverse, ps.reverse, es.reverse, rfl, hp9.same Tk, ok, by rw [List.map_reverse]; exact SqL.of (Ny2 _ _ upd_same), by rw [List.map_reverse]; exact SqL.of upd_same, Ses.rev (Ses.same Tk hs9), by rw [List.length_reverse]; exact slen, by rw [List.length_reverse]; exact big, fun t5 q5 Hf Sf nf5 hf5' gf => ?_⟩
      rw [runsOf_like (all_rev p shs es)] at gf
      have Tl := Tk.trans Sf
      have K3 : Same Ha Hf := K1.trans (Sd.trans (Se.trans (R2.trans (Ny1.trans (Ny2.trans Sf)))))
      refine ⟨_, rfl, .ref t5, .ref t1, rnsD _, rfl, prd_dp hf5' gf, prd_dp (K3 _ _ ha) (Prd.same K3 ga), Nice.more (rns_nice (all_len ok slen big _)), fun Hg Sg => ?_⟩
      have Tm := Tl.trans Sg
      refine ⟨true, rfl, iteF ?_⟩
      refine ⟨_, rfl, zero, fun x3 nx3 => ?_⟩
      have Nx3 := same_new nx3 (.lst [])
      have Tn := Tm.trans Nx3
      refine ⟨_, rfl, a, x3, l, p, [], ps, es, rfl, hp9.same Tn, ok, SqL.of upd_same, SqL.of (Tn _ _ hl9), Ses.same Tn hs9, (show 0 ≤ 20 by decide), big, fun t6 q6 Hh Sh nh hh gh => ?_⟩
      have To := Tn.trans Sh
      refine ⟨_, rfl, _, rfl, zero, fun x4 nx4 => ?_⟩
      have Nx4 := same_new nx4 (.lst [])
      have Tp := To.trans Nx4
      refine ⟨a, ls, x4, p, shs, [], [], rfl, hp9.same Tp, ok, SqL.of (Tp _ _ ls9), SqL.of upd_same, .nil, slen, (show 0 ≤ 1000 by decide), fun t7 q7 Hi Si ni hi7 gi => ?_⟩
      have Tq := Tp.trans Si
      refine ⟨two, fun tl ntl => ?_⟩
      have Ntl := same_new ntl (.lst [V.ref t6, .ref t7])
      have Tr := Tq.trans Ntl
      have K4 : Same Hf _ := Sg.trans (Nx3.trans (Sh.trans (Nx4.trans (Si.trans Ntl))))
      have K5 := (Sd.trans (Se.trans (R2.trans (Ny1.trans (Ny2.trans Sf))))).trans K4
      have K6 := (Nx4.trans (Si.trans Ntl))
      refine ⟨_, rfl, _, rfl, .ref tl, .ref dl, .list [rnsD _, rnsD _], rfl, two_dp upd_same (prd_dp (K6 _ _ hh) (Prd.same K6 gh)) (prd_dp (Ntl _ _ hi7) (Prd.same Ntl gi)),
        two_dp (K5 _ _ upd_same) (prd_dp (K5 _ _ (K2 _ _ hb)) (Prd.same K5 (Prd.same K2 gb))) (prd_dp (K5 _ _ (Ndl _ _ hc)) (Prd.same K5 (Prd.same Ndl gc))), pair_nice (rns_nice (all_len ok (by decide) big _)) (rns_nice (all_len ok slen (by decide) _)), fun Hj Sj => ?_⟩
      have Ts := Tr.trans Sj
      refine ⟨true, rfl, iteF ?_⟩
      refine ⟨_, rfl, _, rfl, _, rfl, three, fun r3 m3 => ?_⟩
      have R3 := same_new m3 (.tup [V.ref a, .ref ls, .ref l])
      have Tt := Ts.trans R3
      refine ⟨r3, trD p shs es, rfl, tr_dp upd_same (hp9.same Tt) (Tt _ _ ls9) (Tt _ _ hl9) (Ses.same Tt hs9), sh1, sh2, dep, by rw [hkept]; exact sh3, _, rfl, rfl, _, rfl, iteNS (congrArg V.str hkept) ?_⟩
      exact ⟨_, _, _, _, _, _, _, _, _, rfl, (hf9.same Tt).mono (by omega), Tt _ _ tt9, fun _ => ⟨a, p, rfl, hp9.same Tt, ok⟩⟩
  · rintro σ H3 ⟨v2, v3, v4, v5, v6, v7, v8, v9, v10, rfl, hf3, e3, pr3⟩
    obtain ⟨a, p, rfl, hp3, ok⟩ := pr3 (by decide)
    have zero : 0 ≤ sizeLine := by decide
    refine ⟨_, rfl, zero, fun x1 nx1 => ⟨zero, fun x2 nx2 => ?_⟩⟩
    have N1 := same_new nx1 (.lst [])
    have N2 := N1.trans (same_new nx2 (.lst []))
    refine ⟨a, x1, x2, p, [], [], [], rfl, hp3.same N2, ok, SqL.of ((same_new nx2 _) _ _ upd_same), SqL.of upd_same, .nil, (by decide), (by decide), fun t1 q1 H4 S4 n4 h4 g4 => ?_⟩
    refine ⟨zero, fun e ne => ?_⟩
    have N5 := same_new ne (.tup [])
    have emp : runsOf ((allNums p [] []).map (single p.series)) = [] := List.eq_nil_of_length_eq_zero (Nat.le_zero.mp (runsOf_len _))
    rw [emp] at g4
    exact ⟨.ref t1, .ref e, rnsD [], rfl, prd_dp (N5 _ _ h4) (Prd.same N5 g4), .tup (SqT.of upd_same) .nil, Nice.more (rns_nice (by decide)), fun H5 _ => q _⟩

end
def e_is_apart : He.DefD := ⟨("is_apart", none), "is_apart", "is_apart", defArgs s_is_apart, defBody s_is_apart, defScope s_is_apart, [], []⟩
def e_runs_of : He.DefD := ⟨("runs_of", none), "runs_of", "runs_of", defArgs s_runs_of, defBody s_runs_of, defScope s_runs_of, [], []⟩
def e_how_many : He.DefD := ⟨("how_many", none), "how_many", "how_many", defArgs s_how_many, defBody s_how_many, defScope s_how_many, [], []⟩
def e_number_at : He.DefD := ⟨("number_at", none), "number_at", "number_at", defArgs s_number_at, defBody s_number_at, defScope s_number_at, [], []⟩
def e_numbers_on : He.DefD := ⟨("numbers_on", none), "numbers_on", "numbers_on", defArgs s_numbers_on, defBody s_numbers_on, defScope s_numbers_on, [], []⟩
def e_runs_of_numbers : He.DefD := ⟨("runs_of_numbers", none), "runs_of_numbers", "runs_of_numbers", defArgs s_runs_of_numbers, defBody s_runs_of_numbers, defScope s_runs_of_numbers, [], []⟩
def e_spoilt_by : He.DefD := ⟨("spoilt_by", none), "spoilt_by", "spoilt_by", defArgs s_spoilt_by, defBody s_spoilt_by, defScope s_spoilt_by, [], []⟩
def e_lfeed : He.DefD := ⟨("_law_feed", none), "_law_feed", "_law_feed", defArgs s_lfeed, defBody s_lfeed, defScope s_lfeed, [], []⟩
def e_ldraw : He.DefD := ⟨("_law_draw", none), "_law_draw", "_law_draw", defArgs s_ldraw, defBody s_ldraw, defScope s_ldraw, [], []⟩
def e_lalike : He.DefD := ⟨("_law_alike", none), "_law_alike", "_law_alike", defArgs s_lalike, defBody s_lalike, defScope s_lalike, [], []⟩
def e_lorder : He.DefD := ⟨("_law_order", none), "_law_order", "_law_order", defArgs s_lorder, defBody s_lorder, defScope s_lorder, [], []⟩
def e_lprinting : He.DefD := ⟨("_law_printing", none), "_law_printing", "_law_printing", defArgs s_lprinting, defBody s_lprinting, defScope s_lprinting, [], []⟩
def e_lsizes : He.DefD := ⟨("_law_sizes", none), "_law_sizes", "_law_sizes", defArgs s_lsizes, defBody s_lsizes, defScope s_lsizes, [], []⟩
def e_lnumber : He.DefD := ⟨("_law_number", none), "_law_number", "_law_number", defArgs s_lnumber, defBody s_lnumber, defScope s_lnumber, [], []⟩
def e_ldue : He.DefD := ⟨("_law_due", none), "_law_due", "_law_due", defArgs s_ldue, defBody s_ldue, defScope s_ldue, [], []⟩
def e_lseats : He.DefD := ⟨("_law_seats", none), "_law_seats", "_law_seats", defArgs s_lseats, defBody s_lseats, defScope s_lseats, [], []⟩
def e_law : He.DefD := ⟨("law", none), "law", "law", defArgs s_law, defBody s_law, defScope s_law, [], []⟩
def fn : List He.DefD := [e_is_apart, e_runs_of, e_how_many, e_number_at, e_numbers_on, e_runs_of_numbers, e_spoilt_by, e_lfeed, e_ldraw, e_lalike, e_lorder, e_lprinting, e_lsizes, e_lnumber, e_ldue, e_lseats, e_law]
def fa : List He.Fa := [.glo "is_apart", .glo "runs_of", .glo "how_many", .glo "number_at", .glo "numbers_on", .glo "runs_of_numbers", .glo "spoilt_by", .glo "_law_feed", .glo "_law_draw", .glo "_law_alike", .glo "_law_order", .glo "_law_printing", .glo "_law_sizes", .glo "_law_number", .glo "_law_due", .glo "_law_seats", .glo "law", .free "len", .free "range", .free "sorted", .free "tuple", .free "list", .free "isinstance", .free "all", .free "zip", .free "max", .free "repr", .free "int", .free "bool", .free "str"]
abbrev R : PySem.W.OpenRow := PySem.W.OpenLaw.row PySem.Challenge.rw_pressnotes_k11_spoilt_by
abbrev hk : PySem.W.Hook := He.hookD 4 fa fn
def ob (s : PySem.W.SharedT) : He.AlD := He.obsDG 4 fa fn (HandSHeadRun.getT s)
theorem ob_eq (s : PySem.W.SharedT) : ob s = hk.obs s.abs := He.obsDG_eq (HandSHeadRun.getT_eq s)
def loose : List Str := ["is_apart", "runs_of", "how_many", "number_at", "numbers_on", "runs_of_numbers", "spoilt_by", "_law_feed", "_law_draw", "_law_alike", "_law_order", "_law_printing", "_law_sizes", "_law_number", "_law_due", "_law_seats"]
theorem run (w : World) : HandSHeadRun.RunEq R (PySem.W.view R.prog [20]) hk ob 6000 ["is_apart", "runs_of", "how_many", "number_at", "numbers_on", "runs_of_numbers", "spoilt_by", "_law_feed", "_law_draw", "_law_alike", "_law_order", "_law_printing", "_law_sizes", "_law_number", "_law_due", "_law_seats"] w := by
  intro os
  kernel_rfl
theorem toFun {K : PySem.W.Frag} {x : Str} {st : Stmt} {f : Addr} {fd : FuncData} (F : FunD K x x (defArgs st) (defBody st) (defScope st) [] [] f fd) : Fun K x x st f fd := by
  obtain ⟨oc, od, dV, kV, doc, pm, an, cdv, ct, osl, e, lk, hcd, hd, hk⟩ := F.ex
  have z : dV = .none := by
    rcases hd with h | h
    · exact h.2
    · exact absurd rfl h.1
  subst z
  exact ⟨⟨oc, od, kV, doc, pm, an, cdv, ct, osl, e, lk, hcd⟩, F.kp⟩
theorem facts {w : World} {K : PySem.W.Frag} {h : Heap} {mg : Str → Option Value} {f : Addr} (X : K.In h) (G : h.Ns mainGlobals mg) (hfa : mg ("law" : Str) = some (.ref f)) (c : He.SaysD fa fn K) :
    ∃ fd : FuncData, (∀ (s : Shared) (v : Value), BindsTo s fd ⟨[v], []⟩ [("_law_script", v)]) ∧ ∀ base : Heap, K.In base → base.Ns mainGlobals mg → FnG (PySem.Challenge.rw_pressnotes_k11_spoilt_by).prog w K mg base 6 f fd ["_law_script"] (spLaw K) := by
  obtain ⟨d_is_apart, F0_is_apart⟩ := c.def_ 0 (d := e_is_apart) rfl
  have F_is_apart := toFun (st := s_is_apart) F0_is_apart
  obtain ⟨d_runs_of, F0_runs_of⟩ := c.def_ 1 (d := e_runs_of) rfl
  have F_runs_of := toFun (st := s_runs_of) F0_runs_of
  obtain ⟨d_how_many, F0_how_many⟩ := c.def_ 2 (d := e_how_many) rfl
  have F_how_many := toFun (st := s_how_many) F0_how_many
  obtain ⟨d_number_at, F0_number_at⟩ := c.def_ 3 (d := e_number_at) rfl
  have F_number_at := toFun (st := s_number_at) F0_number_at
  obtain ⟨d_numbers_on, F0_numbers_on⟩ := c.def_ 4 (d := e_numbers_on) rfl
  have F_numbers_on := toFun (st := s_numbers_on) F0_numbers_on
  obtain ⟨d_runs_of_numbers, F0_runs_of_numbers⟩ := c.def_ 5 (d := e_runs_of_numbers) rfl
  have F_runs_of_numbers := toFun (st := s_runs_of_numbers) F0_runs_of_numbers
  obtain ⟨d_spoilt_by, F0_spoilt_by⟩ := c.def_ 6 (d := e_spoilt_by) rfl
  have F_spoilt_by := toFun (st := s_spoilt_by) F0_spoilt_by
  obtain ⟨d_lfeed, F0_lfeed⟩ := c.def_ 7 (d := e_lfeed) rfl
  have F_lfeed := toFun (st := s_lfeed) F0_lfeed
  obtain ⟨d_ldraw, F0_ldraw⟩ := c.def_ 8 (d := e_ldraw) rfl
  have F_ldraw := toFun (st := s_ldraw) F0_ldraw
  obtain ⟨d_lalike, F0_lalike⟩ := c.def_ 9 (d := e_lalike) rfl
  have F_lalike := toFun (st := s_lalike) F0_lalike
  obtain ⟨d_lorder, F0_lorder⟩ := c.def_ 10 (d := e_lorder) rfl
  have F_lorder := toFun (st := s_lorder) F0_lorder
  obtain ⟨d_lprinting, F0_lprinting⟩ := c.def_ 11 (d := e_lprinting) rfl
  have F_lprinting := toFun (st := s_lprinting) F0_lprinting
  obtain ⟨d_lsizes, F0_lsizes⟩ := c.def_ 12 (d := e_lsizes) rfl
  have F_lsizes := toFun (st := s_lsizes) F0_lsizes
  obtain ⟨d_lnumber, F0_lnumber⟩ := c.def_ 13 (d := e_lnumber) rfl
  have F_lnumber := toFun (st := s_lnumber) F0_lnumber
  obtain ⟨d_ldue, F0_ldue⟩ := c.def_ 14 (d := e_ldue) rfl
  have F_ldue := toFun (st := s_ldue) F0_ldue
  obtain ⟨d_lseats, F0_lseats⟩ := c.def_ 15 (d := e_lseats) rfl
  have F_lseats := toFun (st := s_lseats) F0_lseats
  obtain ⟨d_law, F0_law⟩ := c.def_ 16 (d := e_law) rfl
  have F_law := toFun (st := s_law) F0_law
  have T : Txt mg _ _ _ _ _ _ _ _ _ _ _ _ _ _ _ _ _ := ⟨He.glo_ok X G (c.fact 0 (f := .glo "is_apart") rfl), He.glo_ok X G (c.fact 1 (f := .glo "runs_of") rfl), He.glo_ok X G (c.fact 2 (f := .glo "how_many") rfl), He.glo_ok X G (c.fact 3 (f := .glo "number_at") rfl), He.glo_ok X G (c.fact 4 (f := .glo "numbers_on") rfl), He.glo_ok X G (c.fact 5 (f := .glo "runs_of_numbers") rfl), He.glo_ok X G (c.fact 6 (f := .glo "spoilt_by") rfl), He.glo_ok X G (c.fact 7 (f := .glo "_law_feed") rfl), He.glo_ok X G (c.fact 8 (f := .glo "_law_draw") rfl), He.glo_ok X G (c.fact 9 (f := .glo "_law_alike") rfl), He.glo_ok X G (c.fact 10 (f := .glo "_law_order") rfl), He.glo_ok X G (c.fact 11 (f := .glo "_law_printing") rfl), He.glo_ok X G (c.fact 12 (f := .glo "_law_sizes") rfl), He.glo_ok X G (c.fact 13 (f := .glo "_law_number") rfl), He.glo_ok X G (c.fact 14 (f := .glo "_law_due") rfl), He.glo_ok X G (c.fact 15 (f := .glo "_law_seats") rfl), He.glo_ok X G (c.fact 16 (f := .glo "law") rfl), He.free_ok X G (c.fact 17 (f := .free "len") rfl), He.free_ok X G (c.fact 18 (f := .free "range") rfl), He.free_ok X G (c.fact 19 (f := .free "sorted") rfl), He.free_ok X G (c.fact 20 (f := .free "tuple") rfl), He.free_ok X G (c.fact 21 (f := .free "list") rfl), He.free_ok X G (c.fact 22 (f := .free "isinstance") rfl), He.free_ok X G (c.fact 23 (f := .free "all") rfl), He.free_ok X G (c.fact 24 (f := .free "zip") rfl), He.free_ok X G (c.fact 25 (f := .free "max") rfl), He.free_ok X G (c.fact 26 (f := .free "repr") rfl), He.free_ok X G (c.fact 27 (f := .free "int") rfl), He.free_ok X G (c.fact 28 (f := .free "bool") rfl), He.free_ok X G (c.fact 29 (f := .free "str") rfl)⟩
  have el := hfa.symm.trans T.m_law
  cases el
  have b_is_apart := F_is_apart.binds (ps := ["run", "later"]) fun _ _ _ _ _ _ us hl => match us, hl with | [_, _], _ => rfl
  have b_runs_of := F_runs_of.binds (ps := ["some"]) fun _ _ _ _ _ _ us hl => match us, hl with | [_], _ => rfl
  have b_how_many := F_how_many.binds (ps := ["printing"]) fun _ _ _ _ _ _ us hl => match us, hl with | [_], _ => rfl
  have b_number_at := F_number_at.binds (ps := ["printing", "sheet", "row", "column"]) fun _ _ _ _ _ _ us hl => match us, hl with | [_, _, _, _], _ => rfl
  have b_numbers_on := F_numbers_on.binds (ps := ["printing", "sheet"]) fun _ _ _ _ _ _ us hl => match us, hl with | [_, _], _ => rfl
  have b_runs_of_numbers := F_runs_of_numbers.binds (ps := ["printing", "numbers"]) fun _ _ _ _ _ _ us hl => match us, hl with | [_, _], _ => rfl
  have b_spoilt_by := F_spoilt_by.binds (ps := ["printing", "sheets", "seats"]) fun _ _ _ _ _ _ us hl => match us, hl with | [_, _, _], _ => rfl
  have b_lfeed := F_lfeed.binds (ps := ["_law_script"]) fun _ _ _ _ _ _ us hl => match us, hl with | [_], _ => rfl
  have b_ldraw := F_ldraw.binds (ps := ["_law_feed_here", "_law_many"]) fun _ _ _ _ _ _ us hl => match us, hl with | [_, _], _ => rfl
  have b_lalike := F_lalike.binds (ps := ["_law_found", "_law_due_here"]) fun _ _ _ _ _ _ us hl => match us, hl with | [_, _], _ => rfl
  have b_lorder := F_lorder.binds (ps := ["_law_feed_here"]) fun _ _ _ _ _ _ us hl => match us, hl with | [_], _ => rfl
  have b_lprinting := F_lprinting.binds (ps := ["_law_feed_here", "_law_small"]) fun _ _ _ _ _ _ us hl => match us, hl with | [_, _], _ => rfl
  have b_lsizes := F_lsizes.binds (ps := ["_law_printing_here"]) fun _ _ _ _ _ _ us hl => match us, hl with | [_], _ => rfl
  have b_lnumber := F_lnumber.binds (ps := ["_law_printing_here", "_law_sheet", "_law_row", "_law_column"]) fun _ _ _ _ _ _ us hl => match us, hl with | [_, _, _, _], _ => rfl
  have b_ldue := F_ldue.binds (ps := ["_law_printing_here", "_law_sheets", "_law_seats_here"]) fun _ _ _ _ _ _ us hl => match us, hl with | [_, _, _], _ => rfl
  have b_lseats := F_lseats.binds (ps := ["_law_feed_here", "_law_printing_here", "_law_sheets"]) fun _ _ _ _ _ _ us hl => match us, hl with | [_, _, _], _ => rfl
  have b_law := F_law.binds (ps := ["_law_script"]) fun _ _ _ _ _ _ us hl => match us, hl with | [_], _ => rfl
  refine ⟨d_law, fun s v => FunD.bindsA (ps := ["_law_script"]) F0_law (fun _ _ _ _ _ _ us hl => match us, hl with | [_], _ => rfl) s [v] rfl, fun base _ _ => ?_⟩
  have G_ldraw : FnOk (PySem.Challenge.rw_pressnotes_k11_spoilt_by).prog w K mg base CX0 1 _ _ _ _ := ok_ldraw F_ldraw T
  have G_lfeed : FnOk (PySem.Challenge.rw_pressnotes_k11_spoilt_by).prog w K mg base CX0 1 _ _ _ _ := ok_lfeed F_lfeed T
  have G_how_many : FnOk (PySem.Challenge.rw_pressnotes_k11_spoilt_by).prog w K mg base CX0 1 _ _ _ _ := ok_how_many F_how_many T
  have G_lsizes : FnOk (PySem.Challenge.rw_pressnotes_k11_spoilt_by).prog w K mg base CX0 1 _ _ _ _ := ok_lsizes F_lsizes T
  have G_number_at : FnOk (PySem.Challenge.rw_pressnotes_k11_spoilt_by).prog w K mg base CX0 2 _ _ _ _ := ok_number_at F_number_at T F_how_many b_how_many G_how_many
  have G_lnumber : FnOk (PySem.Challenge.rw_pressnotes_k11_spoilt_by).prog w K mg base CX0 2 _ _ _ _ := ok_lnumber F_lnumber T F_lsizes b_lsizes G_lsizes
  have G_lorder : FnOk (PySem.Challenge.rw_pressnotes_k11_spoilt_by).prog w K mg base CX0 2 _ _ _ _ := ok_lorder F_lorder T F_ldraw b_ldraw G_ldraw
  have G_lprinting : FnOk (PySem.Challenge.rw_pressnotes_k11_spoilt_by).prog w K mg base CX0 3 _ _ _ _ := ok_lprinting F_lprinting T F_ldraw b_ldraw (G_ldraw.mono (by decide)) F_lorder b_lorder G_lorder
  have G_lseats : FnOk (PySem.Challenge.rw_pressnotes_k11_spoilt_by).prog w K mg base CX0 2 _ _ _ _ := ok_lseats F_lseats T F_ldraw b_ldraw G_ldraw
  have G_is_apart : FnOk (PySem.Challenge.rw_pressnotes_k11_spoilt_by).prog w K mg base CX0 1 _ _ _ _ := ok_is_apart F_is_apart T
  have G_runs_of : FnOk (PySem.Challenge.rw_pressnotes_k11_spoilt_by).prog w K mg base CX0 2 _ _ _ _ := ok_runs_of F_runs_of T F_is_apart b_is_apart G_is_apart
  have G_numbers_on : FnOk (PySem.Challenge.rw_pressnotes_k11_spoilt_by).prog w K mg base CX0 3 _ _ _ _ := ok_numbers_on F_numbers_on T F_number_at b_number_at G_number_at
  have G_runs_of_numbers : FnOk (PySem.Challenge.rw_pressnotes_k11_spoilt_by).prog w K mg base CX0 3 _ _ _ _ := ok_runs_of_numbers F_runs_of_numbers T F_runs_of b_runs_of G_runs_of
  have G_spoilt_by : FnOk (PySem.Challenge.rw_pressnotes_k11_spoilt_by).prog w K mg base CX0 4 _ _ _ _ := ok_spoilt_by F_spoilt_by T F_number_at b_number_at (G_number_at.mono (by decide)) F_numbers_on b_numbers_on G_numbers_on F_runs_of_numbers b_runs_of_numbers G_runs_of_numbers
  have G_ldue : FnOk (PySem.Challenge.rw_pressnotes_k11_spoilt_by).prog w K mg base CX0 3 _ _ _ _ := ok_ldue F_ldue T F_lnumber b_lnumber G_lnumber
  have A1 : FnOk (PySem.Challenge.rw_pressnotes_k11_spoilt_by).prog w K mg base CX0 2 _ _ _ (spAlike K 1) := ok_lalike F_lalike T F_lalike b_lalike alike_none
  have A2 : FnOk (PySem.Challenge.rw_pressnotes_k11_spoilt_by).prog w K mg base CX0 3 _ _ _ (spAlike K 2) := ok_lalike F_lalike T F_lalike b_lalike A1
  have A3 : FnOk (PySem.Challenge.rw_pressnotes_k11_spoilt_by).prog w K mg base CX0 4 _ _ _ (spAlike K 3) := ok_lalike F_lalike T F_lalike b_lalike A2
  have A4 : FnOk (PySem.Challenge.rw_pressnotes_k11_spoilt_by).prog w K mg base CX0 5 _ _ _ (spAlike K 4) := ok_lalike F_lalike T F_lalike b_lalike A3
  exact ok_law F_law T F_lfeed b_lfeed (G_lfeed.mono (by decide)) F_lprinting b_lprinting (G_lprinting.mono (by decide)) F_ldraw b_ldraw (G_ldraw.mono (by decide)) F_lseats b_lseats (G_lseats.mono (by decide)) F_ldue b_ldue (G_ldue.mono (by decide)) F_spoilt_by b_spoilt_by (G_spoilt_by.mono (by decide)) F_lalike b_lalike A4

end Pn
open PySem PySem.W PySem.Calls PyProof.Rows
set_option maxRecDepth 100000 in
set_option maxHeartbeats 0 in
theorem PySem.Challenge.cw_pressnotes_k11_spoilt_by_holds : PySem.Challenge.rw_pressnotes_k11_spoilt_by.Holds := by
  w_on; o_law
  refine HandSHeadRun.head_any (r := OpenLaw.row PySem.Challenge.rw_pressnotes_k11_spoilt_by) (q := view (OpenLaw.row PySem.Challenge.rw_pressnotes_k11_spoilt_by).prog [20]) (H := Pn.hk) (ob := Pn.ob) (M := 6000) (loose := ["is_apart", "runs_of", "how_many", "number_at", "numbers_on", "runs_of_numbers", "spoilt_by", "_law_feed", "_law_draw", "_law_alike", "_law_order", "_law_printing", "_law_sizes", "_law_number", "_law_due", "_law_seats"]) (d := HandSHeadRun.topDef (OpenLaw.row PySem.Challenge.rw_pressnotes_k11_spoilt_by).prog 20) (kwd := []) Pn.ob_eq
    (by kernel_rfl) (fun s => by kernel_rfl) Pn.run (by kernel_rfl) (by kernel_rfl) (by kernel_rfl) (by rfl) (by first | assumption | decide +kernel) (by decide +kernel) ⟨rfl, rfl, rfl, rfl, rfl, by decide +kernel⟩ ?hw ?hc
  case hw => w_witness2
  case hc =>
    refine Pn.walkG (l := PySem.Challenge.rw_pressnotes_k11_spoilt_by) (n := 63) (k := 6) (x := "_law_script") (sp := Pn.spLaw) rfl (by decide) (by kernel_rfl) ⟨rfl, by decide, by decide⟩ ?F (fun K H a ns hl sq => ⟨a, ns, rfl, sq, fun _ => rfl⟩)
    intro w mg fa h Y G hmg0
    obtain ⟨K, KX, c⟩ := Y
    have hmg : mg ("law" : PySem.Str) = some (.ref fa) := by
      have e : (HandSHeadRun.topDef (OpenLaw.row PySem.Challenge.rw_pressnotes_k11_spoilt_by).prog 20).name = ("law" : PySem.Str) := by kernel_rfl
      rw [← e]
      exact hmg0
    obtain ⟨fd, hb, hF⟩ := Pn.facts (w := w) KX G hmg c
    exact ⟨K, fd, KX, hb, hF⟩
