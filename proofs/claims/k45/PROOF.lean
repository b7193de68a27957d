import PyProof.Rows.All
import Wide.All
import OpenK.AllK
import Wide.FinOn
import HandS.ForMost
import HandS.Strs
import HandS.Sort
import HandS.SortInts
import HandS.IsInst
import HandS.Zip
import HandS.Deep
import HandS.TupLe
import HandS.TupAny
import HandS.Style
import HandS.Walk
import HandS.EndBits
import KE.SortData
import HandS.More
import HandS.Codes
import HandS.Set
import HandS.SetFor
import KE.DataCmp
import KE.DataEq
import HandS.ExcInit
import HandS.ExcField
import HandS.ExcOwn
import HandS.WordsExc
import KE.KExcIs
import HandS.HeadHook1
import HandS.Small
import PyProof.GenQ
import PyProof.CodeObjX
import PyProof.ConsumeS
import HandS.GenOver
import HandS.AnyAll
import KE.KNest
import HandS.Defaults
import HandS.HeadHook2
import HandS.HeadHook3
import HandS.HeadHook4
import KE.KNestM
import HandS.Wide
import HandS.DictComp
import HandS.Lambda
import HandS.SortKw
import KE.SortKeyHeap
import KE.KLam
import KE.KDictDisplayH
import HandS.DictTup
import KE.KDictWalk
import KE.KDictSum
import KE.KDictList
import PyProof.DictTable
import KE.KDictPairs
import KE.KRevSl
import PyProof.ReprReads
import HandS.NoneIn
import KE.GoesZip
import KE.GoesMore
import HandS.SetIn
import HandS.SetKeys
import KE.GoesSet
import KE.GoesEnum
import KE.KStateDown
import Lean
import HandS.Head0
import HandS.Head1
import HandS.Head2
import HandS.HeadEnd
import PySem.Challenge.RW_pressnotes_k45_gaps_told
set_option Elab.async false
set_option linter.all false
set_option maxRecDepth 100000
set_option maxHeartbeats 4000000
namespace Pn
open PySem PySem.Spec PyProof.Rows L2
/-! ### Rules of our own: text times int, sorted of data, repr of data -/
theorem op_repS {X : Cx} : OpR X (binaryOp .Mult) (fun x y H Q => ∃ (z : Str) (n : Int), x = .str z ∧ y = .int n ∧ MulOk z n ∧ Q (.str (Txt.mul z n)) H) := by
  intro pins s σ H x y v u Q I rx ry h
  obtain ⟨z, n, rfl, rfl, ok, q⟩ := h
  obtain ⟨t, rfl⟩ := rx
  obtain ⟨t2, rfl⟩ := ry
  exact SB.mul ok fun t3 k => ⟨.str _, H, I.tok _, ⟨_, rfl⟩, q⟩
section
variable {X : Cx} {pins : List (Addr × Obj)} {σ : L2.St} {H : Hp} {s : Shared}
theorem each_rel : ∀ {ys : List V} {ds : List PyData} {us : List Value}, DpAll X.K H ys ds → Vals ys us → PySem.W.EachIs (fun (v : Value) (b : V × PyData) => RelV b.1 v) us (ys.zip ds)
  | _, _, _, .nil, .nil => .nil
  | _, _, _, .cons _ d, .cons r t => .cons r (each_rel d t)
theorem each_reads (I : Inv X pins σ H s) : ∀ {ys : List V} {ds : List PyData} {us : List Value}, DpAll X.K H ys ds → Vals ys us →
    PySem.W.EachIs (fun (v : Value) (b : V × PyData) => ∃ as, Reads s.heap v b.2 as) us (ys.zip ds)
  | _, _, _, .nil, .nil => .nil
  | _, _, _, .cons d1 d, .cons r t => .cons (Dp.reads I _ _ _ d1 r) (each_reads I d t)
theorem zip_snd : ∀ {ys : List V} {ds : List PyData}, DpAll X.K H ys ds → (ys.zip ds).map Prod.snd = ds
  | _, _, .nil => rfl
  | _, _, .cons _ d => by rw [List.zip_cons_cons, List.map_cons, zip_snd d]
theorem zip_len : ∀ {ys : List V} {ds : List PyData}, DpAll X.K H ys ds → (ys.zip ds).length = ys.length
  | _, _, .nil => rfl
  | _, _, .cons _ d => by rw [List.zip_cons_cons, List.length_cons, List.length_cons, zip_len d]
theorem vals_each : ∀ {bs : List (V × PyData)} {out : List Value}, PySem.W.EachIs (fun (v : Value) (b : V × PyData) => RelV b.1 v) out bs → Vals (bs.map Prod.fst) out
  | _, _, .nil => .nil
  | _, _, .cons r t => .cons r (vals_each t)
end
/-- what sorted makes of the values ys that read as the data ds -/
def sortD (ys : List V) (ds : List PyData) : List V := ((ys.zip ds).mergeSort (PySem.W.dataLe false Prod.snd)).map Prod.fst
def rSortedD (K : PySem.W.Frag) : List V → Hp → VK → Prop := fun xs H Q => ∃ (a : Addr) (ys : List V) (ds : List PyData), xs = [.ref a] ∧ SqL K H a ys ∧ DpAll K H ys ds ∧
  PySem.W.AllAlike ds ∧ PySem.W.Sortable ds ∧ (∀ d ∈ ds, d.depth ≤ 60) ∧ ∀ p, H p = none → Q (.ref p) (upd H p (.lst (sortD ys ds)))
theorem cr_sortedD {X : Cx} {k : Nat} (hr : Room k X.A) : CallR X (.builtin "sorted") (rSortedD X.K) := by
  intro pins s σ H vs us Q I r h
  obtain ⟨a, ys, ds, rfl, hs, hd, h1, h2, h3, q⟩ := h
  obtain ⟨its, rv, hl, hz⟩ := I.list hs
  rw [Vals.ref1 r]
  have un := hr.un
  refine PySem.W.sorted_data (enc := Prod.snd) (R := fun (v : Value) (b : V × PyData) => RelV b.1 v) (bs := ys.zip ds) hl.isList (each_rel hd rv) (each_reads I hd rv) (by rw [zip_snd hd]; exact h1) (by rw [zip_snd hd]; exact h2) (by rw [zip_len hd]; exact hz)
    (fun b hb => ?_) (fun out ho he => ?_)
  · have z := h3 b.2 (by rw [← zip_snd hd]; exact List.mem_map.mpr ⟨b, hb, rfl⟩)
    omega
  · obtain ⟨ep, he'⟩ := PyProof.Rows.sortedAll_at s.heap its out.toArray
    have rv2 := vals_each he
    have hlen : (sortD ys ds).length ≤ sizeLine := by
      unfold sortD
      rw [List.length_map, List.length_mergeSort, zip_len hd]
      exact hz
    exact ⟨.ref _, upd H (s.heap.objs.size + 1) (.lst (sortD ys ds)), I.laid (t' := s.toks) (fun _ _ => PyProof.Rows.sortedAll_old) (Nat.le_succ _) ⟨hlen, out, ep, rv2, he'⟩, rfl, q _ (I.hok.fresh (Nat.le_succ _))⟩
def rRepr (K : PySem.W.Frag) : List V → Hp → VK → Prop := fun xs H Q => ∃ (a : Addr) (d : PyData), xs = [.ref a] ∧ Dp K H (.ref a) d ∧ d.showable = true ∧ d.hasDict = false ∧ d.depth ≤ 60 ∧ d.shown.length ≤ sizeLine ∧ Q (.str d.shown) H
theorem cr_repr {X : Cx} {k : Nat} (hg : X.A.guards = some []) (hr : Room k X.A) : CallR X (.builtin "repr") (rRepr X.K) := by
  intro pins s σ H vs us Q I r h
  obtain ⟨a, d, rfl, hd, h1, h2, h3, h4, q⟩ := h
  rw [Vals.ref1 r]
  have un := hr.un
  obtain ⟨as, rd⟩ := Dp.reads I d _ _ hd rfl
  exact repr_of_reads' rd h1 (PyData.noDict_hsm h2) hg (by omega) (fun _ _ e => e) (fun h' u tk hk => ⟨.str _, H, I.kept hk, ⟨u, rfl⟩, q⟩) h4
/-- a walk over a range within a comprehension of two fors -/
theorem rng_w {lo : Int} {n : Nat} {H0 : Hp} {B : V → Hp → (Hp → Prop) → Prop} {Qd : Hp → Prop} (Pv : Nat → Hp → Prop) (h0 : Pv 0 H0)
    (hs : ∀ i H, i < n → Pv i H → B (.int (lo + i)) H (Pv (i + 1))) (hd : ∀ H, Pv n H → Qd H) :
    ∃ W : Nat → Nat → Hp → Prop, (∃ m, W 0 m H0) ∧ ∀ i m H, W i m H → ((Itr lo n).stop i H ∧ Qd H) ∨
      ((Itr lo n).go i H ∧ ∃ Nx : Hp → Prop, (∀ H', Nx H' → ∃ m', m' < m ∧ W (i + 1) m' H') ∧ ∀ x H', (Itr lo n).yld i H x H' → B x H' Nx) := by
  refine ⟨fun i m H => m + i = n ∧ Pv i H, ⟨n, rfl, h0⟩, ?_⟩
  rintro i m H ⟨e, p⟩
  by_cases c : i < n
  · refine Or.inr ⟨c, Pv (i + 1), fun H' p' => ⟨m - 1, by omega, by omega, p'⟩, fun x H' y => ?_⟩
    obtain ⟨rfl, rfl⟩ := y
    exact hs i _ c p
  · have z : i = n := by omega
    subst z
    exact Or.inl ⟨Nat.le_refl _, hd H p⟩
/-! a tuple that is known to have no dict (so that its methods can be called) -/
def Tpl (o : Obj) : Prop := o.cls = .type "tuple" ∧ o.dict = none
def tTupF (t : TA) : TE := fun σ H Q => t σ H fun xs H1 => xs.length ≤ sizeLine ∧ ∀ p o, H1 p = none → Tpl o → Q (.ref p) (upd H1 p (.frz o (.tup xs)))
theorem pe_tupF {X : Cx} {es : List Expr} {t : TA} {pos : Pos} {x1} (h : PA X es t) : PE X (.Tuple es x1 pos) (tTupF t) := by
  constructor
  intro pins s σ H Q I hq
  refine wpAny_Tuple_spliced (thn (h.run pos pins s σ H _ I hq) ?_)
  rintro us s1 ⟨xs, H1, I1, r, z, q⟩
  refine ⟨by rw [← r.length]; exact z, ?_⟩
  have new : (s1.heap.push { cls := .type "tuple", data := .seq us.toArray }).get? s1.heap.objs.size = some { cls := .type "tuple", data := .seq us.toArray } := Heap.get?_push_size _ rfl
  exact ⟨.ref s1.heap.objs.size, upd H1 _ (.frz { cls := .type "tuple", data := .seq us.toArray } (.tup xs)), I1.laid (t' := s1.toks) (fun _ _ e => Heap.get?_push_of_some _ e) (Nat.le_refl _) ⟨new, z, us, r, _, new, rfl, _, rfl⟩, rfl,
    q _ _ (I1.hok.fresh (Nat.le_refl _)) ⟨rfl, rfl⟩⟩
def tBMF (r : V → List V → Hp → VK → Prop) (to : TE) (t : TA) : TE := fun σ H Q => to σ H fun x H1 => (∃ p o u, x = .ref p ∧ H1 p = some (.frz o u) ∧ Tpl o) ∧ t σ H1 fun xs H2 => r x xs H2 Q
theorem pe_bmF {X : Cx} {o e : Expr} {es : List Expr} {to : TE} {t : TA} {name : Str} {apos cpos : Pos} {id : String} {r : V → List V → Hp → VK → Prop}
    (pa : PlainAttrs "tuple") (slot : Slot "tuple" name id) (hty : typeOf (.builtin id) = pure (.type "method_descriptor")) (hm : MtR X id r) (ho : PE X o to) (ha : PA X (e :: es) t)
    (hb : attributeBase o name X.env (eval o X.env) = eval o X.env := by rfl)
    (hf : ((backTo cpos (starEach (e :: es) X.env)).all (fun x => !x.1) && (backToKw cpos (keywordEach [] X.env)).all (fun x => x.1.isSome) && decide ((e :: es).length + ([] : List Keyword).length + (if ([] : List Keyword).isEmpty then 0 else 1) < 30)) = true := by rfl)
    (hl : (apos.endLine == cpos.line) = true := by rfl) (hs : starEach (e :: es) X.env = (false, eval e X.env) :: starEach es X.env := by rfl) (hp : (backTo cpos (starEach es X.env)).any (·.1) = false := by rfl) :
    PE X (.Call (.Attribute o name apos) (e :: es) [] cpos) (tBMF r to t) := by
  constructor
  intro pins s σ H Q I h
  refine wpAny_Call_method_late hb hf hl rfl (thn (ho.run pins s σ H _ I h) ?_)
  rintro v s1 ⟨x, H1, I1, r1, ⟨p, ob, u, rfl, hfz, hc, hd⟩, q1⟩
  obtain rfl : v = .ref p := r1
  obtain ⟨at1, _⟩ := I1.hok p _ hfz
  refine ⟨"tuple", id, pa, slot, hty, ⟨ob, at1, hc⟩, fun a e => by cases e; exact ⟨ob, at1, hd⟩, ?_⟩
  have run := ha.run cpos pins s1 σ H1 _ I1 q1
  rw [hs] at run ⊢
  refine Calls.callWith_builtin (by show (false || (backTo cpos (starEach es X.env)).any (·.1)) = false; rw [hp]; rfl) (Calls.evalArgs_plain ?_)
  exact thn run fun us s2 ⟨vs, H2, I2, r2, q2⟩ => hm pins s2 σ H2 (.ref p) vs (.ref p) us Q I2 rfl r2 q2
/-! ### A def that is run where no repr is under way, and a law's end over it -/
structure FnG (P : Program) (w : World) (K : PySem.W.Frag) (mg : Str → Option Value) (base : Heap) (k : Nat) (f : Addr)
    (fd : FuncData) (ps : List Str) (sp : Sp) : Prop where
  len : ∀ vs H Q E, sp vs H Q E → vs.length = ps.length
  run : ∀ (A : Around) (outer : List Env) (s : Shared) (H : Hp) (args : Args) (us : List Value) (vs : List V) (Q : VK) (E : XK),
    Room k A → A.guards = some [] → Env0 P w K mg base A outer s H → BindsTo s fd args (ps.zip us) → Vals vs us → sp vs H Q E →
    codeAny (model P w) A (.call (.ref f) args) (CR CX0 outer P w H s Q E) s
section
variable {P : Program} {w : World} {K : PySem.W.Frag} {mg : Str → Option Value} {base : Heap}
/-- a body's walk, told that no repr is under way -/
theorem okG {x qual : Str} {st : Stmt} {f : Addr} {fd : FuncData} {N ps : List Str} {k : Nat} {sp : Sp}
    (F : Fun K x qual st f fd) (S : FnScope N ps (defScope st)) (hlen : ∀ vs H Q E, sp vs H Q E → vs.length = ps.length)
    (hb : ∀ (cdv : Value) (A : Around) (outer : List Env) (s : Shared) (H : Hp) (vs : List V) (Q : VK) (E : XK),
      Room k (A.deeper (envOfC qual (defScope st) s.heap.objs.size f cdv)) → (A.deeper (envOfC qual (defScope st) s.heap.objs.size f cdv)).guards = some [] →
      sp vs H Q E → ∃ t, PSs (cxOf CX0 P w K mg base N qual (defScope st) f cdv A outer s H E).nox (defBody st) t ∧
        t { nx := fun _ H' => Q .non H', rt := Q } (start N vs) H) : FnG P w K mg base (k + 1) f fd ps sp := by
  obtain ⟨oc, od, kV, doc, pm, an, cdv, ct, osl, rfl, lk, hcd⟩ := F.ex
  refine ⟨hlen, fun A outer s H args us vs Q E room gu e0 bind rel wish => ?_⟩
  have lv := hlen _ _ _ _ wish
  have old : ∀ b o, base.get? b = some o → s.heap.get? b = some o := fun b o e => (e0.bs b o e).1
  have inK : K.In s.heap := e0.mod.kin.keeps old
  refine codeAny_call_function room.depth (inK _ _ lk) rfl S.co S.gen rfl (PySem.W.codeRec_of inK hcd) (bind _ _ _ _ ?_)
  refine wpAny_newFunctionEnv_cells S.kind (fun y hy => ?_) fun env ee s1 x1 => ?_
  · obtain ⟨n, v⟩ := y
    cases S.par n (List.of_mem_zip hy).1 with
    | inl q => exact Or.inl q
    | inr q => exact Or.inr ⟨q, PySem.W.cellsFrom_some _ _ _ (Or.inl q)⟩
  subst ee
  refine ⟨(e0.mod.nolimit.keeps old).keeps x1.toInCall.keep, codeAny_func ?_⟩
  obtain ⟨t, ht, hq⟩ := hb cdv A outer s H vs Q E (room.deeper _) gu wish
  have I0 := inv_start (CX := CX0) (E := E) S room.hd e0 lv rel x1
  refine wpAny_mono (ht.nox.run [] s1 (start N vs) H _ I0 hq) (fun fl s2 hs => ?_) fun _ _ z => z
  cases fl with
  | ret u =>
    obtain ⟨v, σ2, H2, J, rv, q⟩ := hs
    exact ⟨v, H2, J.os, J.bare, J.base, J.hok, rv, q⟩
  | next =>
    obtain ⟨σ2, H2, J, q⟩ := hs
    exact ⟨.non, H2, J.os, J.bare, J.base, J.hok, rfl, q⟩
  | brk => exact hs.choose_spec.choose_spec.2.elim
  | cont => exact hs.choose_spec.choose_spec.2.elim
end
section
variable {P : Program} {w : World} {K : PySem.W.Frag} {mg mb : Str → Option Value} {k : Nat} {fa a : Addr} {fd : FuncData} {x : Str} {sp : Sp} {s1 : Shared} {vs : List Value} {ns : List Int}
/-- what the caller is told of the law's call -/
def Told (s1 : Shared) (r : Result) (s' : Shared) : Prop := r = .ok (.ret (.bool true)) ∧ OldK s1.heap s'.heap ∧ s'.os = s1.os ∧ AllBare s'.gens
theorem told_from (H : Hp) (kin : K.In s1.heap) (glob : s1.heap.Ns mainGlobals mg) (blt : s1.heap.Ns builtinsNs mb) (same : ∀ y : Str, y ≠ "__name__" → mb y = bootBuiltins y) (lim : s1.heap.NoLimit) (bare : s1.gens = #[])
    (obj : s1.heap.get? a = some { cls := .type "list", data := .seq vs.toArray }) (room : Room k callerA)
    (F : ∀ base : Heap, K.In base → base.Ns mainGlobals mg → FnG P w K mg base k fa fd [x] sp) (bind : ∀ (s : Shared) (u : Value), BindsTo s fd ⟨[u], []⟩ [(x, u)])
    (only : Only H) (wish : sp [.ref a] H (fun v _ => v = .bl true) fun _ _ _ => False) (hok : HOk P w H s1.heap) (self : ∀ b u, H b = some u → b = a ∧ K.lookup a = none) :
    codeAny (model P w) callerA (.call (.ref fa) ⟨[.ref a], []⟩) (Told s1) s1 := by
  have free : ∀ b, (b ≠ a ∨ K.lookup a ≠ none) → H b = none := fun b hb => by
    cases e : H b with
    | none => rfl
    | some u =>
      obtain ⟨e1, e2⟩ := self b u e
      cases hb with
      | inl n => exact absurd e1 n
      | inr n => exact absurd e2 n
  have nsB : ∀ {b : Addr} {m : Str → Option Value}, s1.heap.Ns b m → (hidT s1.heap H).Ns b m := by
    rintro b m ⟨o, es, ep, e, d, r⟩
    refine ⟨o, es, ep, hidT_get e (free b (Or.inl fun z => ?_)), d, r⟩
    subst z
    rw [obj] at e
    cases e
    exact nomatch d
  have kinB : K.In (hidT s1.heap H) := fun b o e => by
    refine hidT_get (kin b o e) ?_
    by_cases z : b = a
    · subst z
      exact free b (Or.inr (by rw [e]; exact fun q => nomatch q))
    · exact free b (Or.inl z)
  have limB : (hidT s1.heap H).NoLimit := by
    obtain ⟨mc, h1, h2⟩ := lim
    exact ⟨mc, nsB h1, h2⟩
  have env : Env0 P w K mg (hidT s1.heap H) callerA [] s1 H :=
    { frames := rfl, mod := ⟨kinB, nsB glob, ⟨mb, nsB blt, same⟩, limB⟩, bs := fun _ _ e => of_hidT e, bsz := Nat.le_of_eq (hidT_size _ _), funs := trivial,
      frf := fun b z => (List.not_mem_nil (show b ∈ ([] : List Addr) from z)).elim, hok := hok, bare := .of_eq bare }
  refine codeAny_mono ((F _ kinB (nsB glob)).run callerA [] s1 H ⟨[.ref a], []⟩ [.ref a] [.ref a] _ _ room rfl env (bind s1 _) (.cons rfl .nil) wish) ?_
  rintro (e | fl) s2 h
  · exact (show False from h).elim
  · cases fl with
    | ret u =>
      obtain ⟨v, H2, os2, bare2, un, hok2, rel, q⟩ := h
      have q : v = V.bl true := q
      subst q
      obtain rfl : u = Value.bool true := rel
      refine ⟨rfl, OldK.of_keep fun b o e => ?_, os2, bare2⟩
      cases z : H b with
      | none => exact un.keep b o e z (fun y => List.not_mem_nil (show b ∈ ([] : List Addr) from y)) List.not_mem_nil
      | some u =>
        obtain y | ⟨ob, xs, y⟩ := only b
        · rw [z] at y
          cases y
        · obtain ⟨g1, _⟩ := hok b _ y
          obtain ⟨g2, _⟩ := hok2 b _ (un.frzs b ob _ y)
          rw [e] at g1
          cases g1
          exact g2
    | next => exact h.elim
    | brk => exact h.elim
    | cont => exact h.elim
theorem told_law (kin : K.In s1.heap) (glob : s1.heap.Ns mainGlobals mg) (blt : s1.heap.Ns builtinsNs mb) (same : ∀ y : Str, y ≠ "__name__" → mb y = bootBuiltins y) (lim : s1.heap.NoLimit) (bare : s1.gens = #[])
    (obj : s1.heap.get? a = some { cls := .type "list", data := .seq vs.toArray }) (are : IntsAre vs ns) (long : ns.length ≤ sizeLine) (room : Room k callerA)
    (F : ∀ base : Heap, K.In base → base.Ns mainGlobals mg → FnG P w K mg base k fa fd [x] sp) (bind : ∀ (s : Shared) (u : Value), BindsTo s fd ⟨[u], []⟩ [(x, u)])
    (wish : ∀ H : Hp, SqL K H a (ns.map V.int) → sp [.ref a] H (fun v _ => v = .bl true) fun _ _ _ => False) :
    codeAny (model P w) callerA (.call (.ref fa) ⟨[.ref a], []⟩) (Told s1) s1 := by
  have rv := vals_ints are
  have nl := are.length
  cases hk : K.lookup a with
  | some o =>
    have e := kin a o hk
    rw [obj] at e
    cases e
    have sq : SqL K (fun _ => none) a (ns.map V.int) := Or.inr ⟨_, vs.toArray, _, hk, rfl, rfl, rfl, by rw [List.size_toArray, nl]; exact long, by simpa using rv⟩
    exact told_from (fun _ => none) kin glob blt same lim bare obj room F bind (fun _ => Or.inl rfl) (wish _ sq) (fun _ _ z => nomatch z) fun _ _ z => nomatch z
  | none =>
    have h1 : upd (fun _ => none) a (.frz { cls := .type "list", data := .seq vs.toArray } (.lst (ns.map V.int))) a = some (.frz { cls := .type "list", data := .seq vs.toArray } (.lst (ns.map V.int))) := upd_same
    have at_ : ∀ b u, upd (fun _ => none) a (.frz { cls := .type "list", data := .seq vs.toArray } (.lst (ns.map V.int))) b = some u → b = a ∧ u = .frz { cls := .type "list", data := .seq vs.toArray } (.lst (ns.map V.int)) := fun b u z => by
      by_cases e : b = a
      · subst e
        rw [h1] at z
        exact ⟨rfl, (Option.some.inj z).symm⟩
      · rw [upd_ne e] at z
        exact nomatch z
    refine told_from _ kin glob blt same lim bare obj room F bind (fun b => ?_) (wish _ (Or.inl (Or.inr ⟨_, h1⟩))) (fun b u z => ?_) fun b u z => ⟨(at_ b u z).1, hk⟩
    · by_cases e : b = a
      · rw [e, h1]
        exact Or.inr ⟨_, _, rfl⟩
      · exact Or.inl (upd_ne e)
    · obtain ⟨e1, e2⟩ := at_ b u z
      subst e1
      subst e2
      exact ⟨obj, by rw [List.length_map]; exact long, vs, _, rv, obj⟩
end
/-- a law's end, its def told that no repr is under way -/
theorem walkG {l : PySem.W.OpenLaw} {n k : Nat} {q : Program} {loose : List Str} {XP : (Str → Option Value) → Heap → Prop} {YP : World → Heap → Prop} {d : DefRec} {x : Str} {sp : PySem.W.Frag → Sp}
    (hn : l.most = some n) (hn2 : n ≤ sizeLine) (hdf : d.params.defaults = []) (hr : Room k callerA)
    (F : ∀ (w : World) (mg : Str → Option Value) (fa : Addr) (h : Heap), YP w h → h.Ns mainGlobals mg → mg d.name = some (.ref fa) →
      ∃ (K : PySem.W.Frag) (fd : FuncData), K.In h ∧ (∀ (s : Shared) (u : Value), BindsTo s fd ⟨[u], []⟩ [(x, u)]) ∧
        ∀ base : Heap, K.In base → base.Ns mainGlobals mg → FnG l.prog w K mg base k fa fd [x] (sp K))
    (hsp : ∀ (K : PySem.W.Frag) (H : Hp) (a : Addr) (ns : List Int), ns.length ≤ n → SqL K H a (ns.map V.int) → sp K [.ref a] H (fun v _ => v = .bl true) fun _ _ _ => False) :
    PySem.W.WalkO q loose XP YP l.row.toRowW d [] (fun f vs => PySem.call f vs) := by
  refine Att.attach_call hn hdf fun w s0 s1 mg mb fa o pm cd doc a vs ns G Y ho hd hcd hmg hobj hints hlen hg => ?_
  obtain ⟨K, fd, kin, hb, hF⟩ := F w mg fa _ Y G.T.g hmg
  exact told_law kin G.T.g G.T.b G.T.builtins G.T.nolimit hg hobj hints (Nat.le_trans hlen hn2) hr hF hb fun H sq => hsp K H a ns hlen sq

theorem mod_lo (x y : Int) (h : 0 < y) : 0 ≤ x.fmod y := Int.fmod_nonneg_of_pos _ h
theorem mod_hi (x y : Int) (h : 0 < y) : x.fmod y < y := Int.fmod_lt_of_pos _ h
/-- the feed at f: its cells, a counter of at most n, what is left of a great number -/
def Fd (H : Hp) (f c : Addr) (n : Int) : Prop := ∃ (cells : List Int) (at_ g : Int),
  H f = some (.lst [.ref c, .int at_, .int g]) ∧ H c = some (.lst (cells.map V.int)) ∧ cells.length ≤ 63 ∧ 0 ≤ at_ ∧ at_ ≤ n
theorem fd_ne {H : Hp} {f c : Addr} {cells : List Int} {a g : Int} (hf : H f = some (.lst [.ref c, .int a, .int g])) (hc : H c = some (.lst (cells.map V.int))) : c ≠ f := by
  refine ne_of hc hf fun z => ?_
  have z := HO.lst.inj z
  cases cells with
  | nil => cases z
  | cons x r => rw [List.map_cons] at z; cases z
theorem at_mod {cells : List Int} (a : Int) (h : 0 < cells.length) : ∃ v, atI (cells.map V.int) (a.fmod (((cells.map V.int).length : Nat) : Int)) = some (.int v) := by
  have hp : (0 : Int) < (((cells.map V.int).length : Nat) : Int) := by rw [List.length_map]; omega
  have h1 := mod_lo a _ hp
  have h2 := mod_hi a _ hp
  rw [List.length_map] at h1 h2 ⊢
  obtain ⟨k, hk⟩ : ∃ k : Nat, a.fmod ((cells.length : Nat) : Int) = (k : Int) := ⟨(a.fmod ((cells.length : Nat) : Int)).toNat, by omega⟩
  rw [hk] at h2 ⊢
  have hk2 : k < cells.length := by omega
  exact ⟨cells[k], atI_nat (by rw [List.getElem?_map, List.getElem?_eq_getElem hk2] <;> rfl)⟩
/-- what drawing leaves: all but the feed as it was -/
def But (f : Addr) (H H' : Hp) : Prop := ∀ a o, a ≠ f → H a = some o → H' a = some o
theorem But.refl (f : Addr) (H : Hp) : But f H H := fun _ _ _ h => h
theorem But.trans {f : Addr} {H H1 H2 : Hp} (a : But f H H1) (b : But f H1 H2) : But f H H2 := fun x o n h => b x o n (a x o n h)
theorem But.of_same {f : Addr} {H H' : Hp} (s : Same H H') : But f H H' := fun a o _ h => s a o h
theorem But.new {f : Addr} {H : Hp} {p : Addr} {o : HO} (h : H p = none) : But f H (upd H p o) := fun a u _ e => by
  rw [upd_ne (ne_of_none e h)]; exact e
theorem same_new {H : Hp} {p : Addr} (h : H p = none) (o : HO) : Same H (upd H p o) := fun b u q => by rw [upd_ne (ne_of_none q h)]; exact q
theorem But.feed {f : Addr} {H : Hp} {o : HO} : But f H (upd H f o) := fun a u n e => (upd_ne n).trans e
theorem Fd.mono {H : Hp} {f c : Addr} {n m : Int} (h : Fd H f c n) (l : n ≤ m) : Fd H f c m := by
  obtain ⟨cells, a, g, h1, h2, h3, h4, h5⟩ := h
  exact ⟨cells, a, g, h1, h2, h3, h4, by omega⟩
theorem Fd.same {H H' : Hp} {f c : Addr} {n : Int} (h : Fd H f c n) (s : Same H H') : Fd H' f c n := by
  obtain ⟨cells, a, g, h1, h2, h3⟩ := h
  exact ⟨cells, a, g, s _ _ h1, s _ _ h2, h3⟩
theorem Fd.new {H : Hp} {f c p : Addr} {n : Int} {o : HO} (h : Fd H f c n) (hp : H p = none) : Fd (upd H p o) f c n := h.same (same_new hp o)
theorem Fd.at {H : Hp} {f c : Addr} {n : Int} (h : Fd H f c n) : ∃ xs, H f = some (.lst xs) := by
  obtain ⟨cells, a, g, h1, _⟩ := h
  exact ⟨_, h1⟩
theorem Fd.cell {H : Hp} {f c : Addr} {n : Int} (h : Fd H f c n) : ∃ xs, H c = some (.lst xs) := by
  obtain ⟨cells, a, g, h1, h2, _⟩ := h
  exact ⟨_, h2⟩
theorem Fd.ne {H : Hp} {f c l : Addr} {n : Int} (h : Fd H f c n) (hl : H l = none) : l ≠ f ∧ l ≠ c := by
  obtain ⟨xs, h1⟩ := h.at
  obtain ⟨ys, h2⟩ := h.cell
  exact ⟨Ne.symm (ne_of_none h1 hl), Ne.symm (ne_of_none h2 hl)⟩
theorem Fd.upd {H : Hp} {f c l : Addr} {n : Int} {o : HO} (h : Fd H f c n) (e : l ≠ f ∧ l ≠ c) : Fd (upd H l o) f c n := by
  obtain ⟨cells, a, g, h1, h2, h3⟩ := h
  exact ⟨cells, a, g, (upd_ne (Ne.symm e.1)).trans h1, (upd_ne (Ne.symm e.2)).trans h2, h3⟩
theorem But.mut {f : Addr} {H H' : Hp} {l : Addr} {o : HO} (b : But f H H') (hl : H l = none) : But f H (upd H' l o) := fun a u n e => by
  rw [upd_ne (ne_of_none e hl)]
  exact b a u n e
theorem But.back {f c : Addr} {H H' : Hp} {t : Addr} {n : Int} (b : But f H H') (hf : Fd H' f c n) (ht : H' t = none) : H t = none := by
  cases e : H t with
  | none => rfl
  | some o =>
    have ne : t ≠ f := (hf.ne ht).1
    rw [b t o ne e] at ht
    cases ht
theorem same_mut {H H' : Hp} {l : Addr} {o : HO} (s : Same H H') (hl : H l = none) : Same H (upd H' l o) := fun b u q => by
  rw [upd_ne (ne_of_none q hl)]
  exact s _ _ q
theorem cut_take (xs : List V) (n : Nat) : cutV xs none (some (n : Int)) = xs.take n := by
  unfold cutV
  rw [HT.sIx_nat, HT.sIx_none, List.drop_zero, Nat.sub_zero]
  rw [List.take_eq_take_iff]
  omega
theorem free_of {H : Hp} {a b : Addr} {o : HO} (h : upd H a o b = none) : H b = none := by
  by_cases e : b = a
  · subst e
    rw [upd_same] at h
    cases h
  · rw [upd_ne e] at h
    exact h
def spDraw : Sp := fun vs H Q _ => ∃ (f c : Addr) (m n : Int), vs = [.ref f, .int m] ∧ Fd H f c n ∧ n ≤ 1000000 ∧ 0 < m ∧ m ≤ 1000000000 ∧
  ∀ (d : Int) (H' : Hp), 0 ≤ d → d < m → Fd H' f c (n + 1) → But f H H' → (∀ a, H a = none → H' a = none) → Q (.int d) H'
def spFeed (K : PySem.W.Frag) : Sp := fun vs H Q _ => ∃ (a : Addr) (ns : List Int), vs = [.ref a] ∧ SqL K H a (ns.map V.int) ∧
  ∀ (f c : Addr) (H' : Hp), H f = none → Same H H' → Fd H' f c 0 → Q (.ref f) H'
/-! ### Data that is alike -/
def flatD : PyData → Bool
  | .none => true
  | .bool _ => true
  | .int _ => true
  | .str _ => true
  | _ => false
/-- data of at most n lists or tuples within one another, none of more than 100,000 -/
def Nice : Nat → PyData → Prop
  | 0, d => flatD d = true
  | n + 1, d => flatD d = true ∨ ∃ ds, (d = .list ds ∨ d = .tuple ds) ∧ ds.length ≤ 100000 ∧ ∀ e ∈ ds, Nice n e
theorem Nice.flat {n : Nat} {d : PyData} (h : flatD d = true) : Nice n d := by
  cases n with
  | zero => exact h
  | succ n => exact Or.inl h
theorem kit2 {K : PySem.W.Frag} {t c1 c2 : Value} {b1 b2 : Bool} (h1 : PySem.W.kitOne K t c1 = some b1) (h2 : PySem.W.kitOne K t c2 = some b2) : PySem.W.kitAny K t [c1, c2] = some (b1 || b2) := by
  unfold PySem.W.kitAny PySem.W.kitAny PySem.W.kitAny
  rw [h1, h2]
  cases b1 <;> cases b2 <;> rfl
theorem k_NoneType_tuple {K : PySem.W.Frag} : PySem.W.kitOne K (.type "NoneType") (.type "tuple") = some false := kit_ty (by decide +kernel)
theorem k_NoneType_list {K : PySem.W.Frag} : PySem.W.kitOne K (.type "NoneType") (.type "list") = some false := kit_ty (by decide +kernel)
theorem k_NoneType_bool {K : PySem.W.Frag} : PySem.W.kitOne K (.type "NoneType") (.type "bool") = some false := kit_ty (by decide +kernel)
theorem k_NoneType_str {K : PySem.W.Frag} : PySem.W.kitOne K (.type "NoneType") (.type "str") = some false := kit_ty (by decide +kernel)
theorem k_NoneType_int {K : PySem.W.Frag} : PySem.W.kitOne K (.type "NoneType") (.type "int") = some false := kit_ty (by decide +kernel)
theorem k_bool_tuple {K : PySem.W.Frag} : PySem.W.kitOne K (.type "bool") (.type "tuple") = some false := kit_ty (by decide +kernel)
theorem k_bool_list {K : PySem.W.Frag} : PySem.W.kitOne K (.type "bool") (.type "list") = some false := kit_ty (by decide +kernel)
theorem k_bool_bool {K : PySem.W.Frag} : PySem.W.kitOne K (.type "bool") (.type "bool") = some true := kit_ty (by decide +kernel)
theorem k_bool_str {K : PySem.W.Frag} : PySem.W.kitOne K (.type "bool") (.type "str") = some false := kit_ty (by decide +kernel)
theorem k_bool_int {K : PySem.W.Frag} : PySem.W.kitOne K (.type "bool") (.type "int") = some true := kit_ty (by decide +kernel)
theorem k_int_tuple {K : PySem.W.Frag} : PySem.W.kitOne K (.type "int") (.type "tuple") = some false := kit_ty (by decide +kernel)
theorem k_int_list {K : PySem.W.Frag} : PySem.W.kitOne K (.type "int") (.type "list") = some false := kit_ty (by decide +kernel)
theorem k_int_bool {K : PySem.W.Frag} : PySem.W.kitOne K (.type "int") (.type "bool") = some false := kit_ty (by decide +kernel)
theorem k_int_str {K : PySem.W.Frag} : PySem.W.kitOne K (.type "int") (.type "str") = some false := kit_ty (by decide +kernel)
theorem k_int_int {K : PySem.W.Frag} : PySem.W.kitOne K (.type "int") (.type "int") = some true := kit_ty (by decide +kernel)
theorem k_str_tuple {K : PySem.W.Frag} : PySem.W.kitOne K (.type "str") (.type "tuple") = some false := kit_ty (by decide +kernel)
theorem k_str_list {K : PySem.W.Frag} : PySem.W.kitOne K (.type "str") (.type "list") = some false := kit_ty (by decide +kernel)
theorem k_str_bool {K : PySem.W.Frag} : PySem.W.kitOne K (.type "str") (.type "bool") = some false := kit_ty (by decide +kernel)
theorem k_str_str {K : PySem.W.Frag} : PySem.W.kitOne K (.type "str") (.type "str") = some true := kit_ty (by decide +kernel)
theorem k_str_int {K : PySem.W.Frag} : PySem.W.kitOne K (.type "str") (.type "int") = some false := kit_ty (by decide +kernel)
theorem k_list_tuple {K : PySem.W.Frag} : PySem.W.kitOne K (.type "list") (.type "tuple") = some false := kit_ty (by decide +kernel)
theorem k_list_list {K : PySem.W.Frag} : PySem.W.kitOne K (.type "list") (.type "list") = some true := kit_ty (by decide +kernel)
theorem k_list_bool {K : PySem.W.Frag} : PySem.W.kitOne K (.type "list") (.type "bool") = some false := kit_ty (by decide +kernel)
theorem k_list_str {K : PySem.W.Frag} : PySem.W.kitOne K (.type "list") (.type "str") = some false := kit_ty (by decide +kernel)
theorem k_list_int {K : PySem.W.Frag} : PySem.W.kitOne K (.type "list") (.type "int") = some false := kit_ty (by decide +kernel)
theorem k_tuple_tuple {K : PySem.W.Frag} : PySem.W.kitOne K (.type "tuple") (.type "tuple") = some true := kit_ty (by decide +kernel)
theorem k_tuple_list {K : PySem.W.Frag} : PySem.W.kitOne K (.type "tuple") (.type "list") = some false := kit_ty (by decide +kernel)
theorem k_tuple_bool {K : PySem.W.Frag} : PySem.W.kitOne K (.type "tuple") (.type "bool") = some false := kit_ty (by decide +kernel)
theorem k_tuple_str {K : PySem.W.Frag} : PySem.W.kitOne K (.type "tuple") (.type "str") = some false := kit_ty (by decide +kernel)
theorem k_tuple_int {K : PySem.W.Frag} : PySem.W.kitOne K (.type "tuple") (.type "int") = some false := kit_ty (by decide +kernel)
def tyD : PyData → String
  | .none => "NoneType"
  | .bool _ => "bool"
  | .int _ => "int"
  | .str _ => "str"
  | .list _ => "list"
  | .tuple _ => "tuple"
  | _ => "object"
theorem ty_of {K : PySem.W.Frag} {H : Hp} {v : V} {d : PyData} (h : Dp K H v d) : TyX K H v (.type (tyD d)) := by
  cases h with
  | non => exact .base .non
  | bl b => exact .base (.bl b)
  | int i => exact .base (.int i)
  | str x => exact .base (.str x)
  | lst s _ =>
    rcases s with (e | ⟨o, e⟩) | ⟨o, its, n, e, c, _⟩
    · exact .base (.lst e)
    · exact .base (.frz e)
    · exact .kList e c
  | tup s _ =>
    rcases s with (e | ⟨o, e⟩) | ⟨o, its, n, e, c, _⟩
    · exact .base (.tup e)
    · exact .fTuple e
    · exact .kTuple e c
theorem SqL.sm {K : PySem.W.Frag} {H H' : Hp} {a : Addr} {xs : List V} (e : Same H H') (h : SqL K H a xs) : SqL K H' a xs := e.seq h
theorem SqT.sm {K : PySem.W.Frag} {H H' : Hp} {a : Addr} {xs : List V} (e : Same H H') (h : SqT K H a xs) : SqT K H' a xs := by
  rcases h with (h | ⟨o, h⟩) | h
  · exact Or.inl (Or.inl (e _ _ h))
  · exact Or.inl (Or.inr ⟨o, e _ _ h⟩)
  · exact Or.inr h
mutual
theorem Dp.sm {K : PySem.W.Frag} {H H' : Hp} (e : Same H H') : ∀ {v : V} {d : PyData}, Dp K H v d → Dp K H' v d
  | _, _, .non => .non
  | _, _, .bl b => .bl b
  | _, _, .int i => .int i
  | _, _, .str x => .str x
  | _, _, .lst s a => .lst (SqL.sm e s) (DpAll.sm e a)
  | _, _, .tup s a => .tup (SqT.sm e s) (DpAll.sm e a)
theorem DpAll.sm {K : PySem.W.Frag} {H H' : Hp} (e : Same H H') : ∀ {vs : List V} {ds : List PyData}, DpAll K H vs ds → DpAll K H' vs ds
  | _, _, .nil => .nil
  | _, _, .cons a b => .cons (Dp.sm e a) (DpAll.sm e b)
end
theorem DpAll.len {K : PySem.W.Frag} {H : Hp} : ∀ {vs : List V} {ds : List PyData}, DpAll K H vs ds → vs.length = ds.length
  | _, _, .nil => rfl
  | _, _, .cons _ b => congrArg (· + 1) (DpAll.len b)
theorem DpAll.get {K : PySem.W.Frag} {H : Hp} : ∀ {vs : List V} {ds : List PyData} {i : Nat} {v : V}, DpAll K H vs ds → vs[i]? = some v → ∃ d, ds[i]? = some d ∧ Dp K H v d
  | _, _, 0, _, .cons a _, h => by
    cases h
    exact ⟨_, rfl, a⟩
  | _, _, i + 1, v, .cons _ b, h => DpAll.get (i := i) (v := v) b h
theorem walk_zt {K : PySem.W.Frag} {a b : Addr} {xs ys : List V} (hl : xs.length = ys.length) : Walk (RZ.ItzT K a b) xs.length (fun H => SqT K H a xs ∧ SqT K H b ys) (YPair (fun i => xs[i]?) (fun i => ys[i]?)) := by
  refine ⟨fun i H hi q => ?_, fun H q => ⟨xs, ys, q.1, q.2, Or.inl (Nat.le_refl _)⟩, fun i H v H' hi q y => ?_⟩
  · exact ⟨xs, ys, xs[i], ys[i]'(by omega), q.1, q.2, List.getElem?_eq_getElem hi, List.getElem?_eq_getElem (by omega)⟩
  · obtain ⟨T, x, y, h1, h2, h3, h4, h5⟩ := y
    exact ⟨T, x, y, h1, h2, h3, h4 xs q.1, h5 ys q.2⟩
/-- alike(x, y), x and y the same data -/
def spAlike (K : PySem.W.Frag) : Nat → Sp
  | 0 => fun _ _ _ _ => False
  | n + 1 => fun vs H Q _ => ∃ (x y : V) (d : PyData), vs = [x, y] ∧ Dp K H x d ∧ Dp K H y d ∧ Nice n d ∧ ∀ H', Same H H' → Q (.bl true) H'
theorem alike_none {P : Program} {w : World} {K : PySem.W.Frag} {mg : Str → Option Value} {base : Heap} {k : Nat} {f : Addr} {fd : FuncData} {ps : List Str} : FnOk P w K mg base CX0 k f fd ps (spAlike K 0) :=
  ⟨fun _ _ _ _ h => h.elim, fun _ _ _ _ _ _ _ _ _ _ _ _ _ h => h.elim⟩
/-! ### Printings -/
inductive Wd where | sh | ro | co
  deriving DecidableEq
def Wd.s : Wd → Str
  | .sh => "sheet"
  | .ro => "row"
  | .co => "column"
structure Prt where
  series : Str
  first : Int
  cols : Int
  rows : Int
  sheets : Int
  o1 : Wd
  o2 : Wd
  o3 : Wd
def Prt.size (p : Prt) : Wd → Int
  | .sh => p.sheets
  | .ro => p.rows
  | .co => p.cols
def seatW (s r c : Int) : Wd → Int
  | .sh => s
  | .ro => r
  | .co => c
def Prt.num (p : Prt) (s r c : Int) : Int := p.first + ((seatW s r c p.o1 * p.size p.o2 + seatW s r c p.o2) * p.size p.o3 + seatW s r c p.o3)
structure PrOk (p : Prt) : Prop where
  len : p.series.length ≤ 8
  f0 : 0 ≤ p.first
  c1 : 1 ≤ p.cols
  c2 : p.cols ≤ 12
  r1 : 1 ≤ p.rows
  r2 : p.rows ≤ 12
  s1 : 1 ≤ p.sheets
  s2 : p.sheets ≤ 1000000
  most : p.first + p.cols * p.rows * p.sheets ≤ 1000000000
  d12 : p.o1 ≠ p.o2
  d13 : p.o1 ≠ p.o3
  d23 : p.o2 ≠ p.o3
  chr : (p.series.cps.toList.all fun c => decide (c < 16 ^ 8)) = true
def prV (p : Prt) (t : Addr) : List V := [.str p.series, .int p.first, .int p.cols, .int p.rows, .int p.sheets, .ref t]
def ordV (p : Prt) : List V := [.str p.o1.s, .str p.o2.s, .str p.o3.s]
/-- the printing p stands at a -/
def PrAt (H : Hp) (a : Addr) (p : Prt) : Prop := ∃ t, H a = some (.tup (prV p t)) ∧ ∃ o, H t = some (.frz o (.tup (ordV p))) ∧ Tpl o
theorem PrAt.same {H H' : Hp} {a : Addr} {p : Prt} (h : PrAt H a p) (s : Same H H') : PrAt H' a p := by
  obtain ⟨t, h1, o, h2, h3⟩ := h
  exact ⟨t, s _ _ h1, o, s _ _ h2, h3⟩
theorem PrAt.but {H H' : Hp} {f c a : Addr} {p : Prt} {n : Int} (h : PrAt H a p) (hf : Fd H f c n) (s : But f H H') : PrAt H' a p := by
  obtain ⟨t, h1, o, h2, h3⟩ := h
  obtain ⟨xs, hx⟩ := hf.at
  exact ⟨t, s _ _ (ne_of h1 hx (fun z => nomatch z)) h1, o, s _ _ (ne_of h2 hx (fun z => nomatch z)) h2, h3⟩
theorem sqF {K : PySem.W.Frag} {H : Hp} {a : Addr} {o : Obj} {xs : List V} (h : H a = some (.frz o (.tup xs))) : SqT K H a xs := Or.inl (Or.inr ⟨o, h⟩)
def dictW (f : Wd → Int) : List (Key × V) := [(Sum.inr Wd.sh.s, .int (f .sh)), (Sum.inr Wd.ro.s, .int (f .ro)), (Sum.inr Wd.co.s, .int (f .co))]
def dictC (f : Wd → Int) : List (Key × V) := [(Sum.inr Wd.co.s, .int (f .co)), (Sum.inr Wd.ro.s, .int (f .ro)), (Sum.inr Wd.sh.s, .int (f .sh))]
theorem valW (f : Wd → Int) (u : Wd) : valV (dictW f) (Sum.inr u.s) = some (.int (f u)) := by cases u <;> rfl
theorem valC (f : Wd → Int) (u : Wd) : valV (dictC f) (Sum.inr u.s) = some (.int (f u)) := by cases u <;> rfl
theorem PrOk.size_lo {p : Prt} (h : PrOk p) (u : Wd) : 1 ≤ p.size u := by cases u <;> simp only [Prt.size] <;> first | exact h.s1 | exact h.r1 | exact h.c1
theorem PrOk.size_hi {p : Prt} (h : PrOk p) (u : Wd) : p.size u ≤ 1000000 := by
  have h1 := h.s2; have h2 := h.r2; have h3 := h.c2
  cases u <;> simp only [Prt.size] <;> omega
def spHow (dict : (Wd → Int) → List (Key × V)) : Sp := fun vs H Q _ => ∃ (a : Addr) (p : Prt), vs = [.ref a] ∧ PrAt H a p ∧
  ∀ (d : Addr) (H' : Hp), Same H H' → H' d = some (.dK (dict p.size)) → Q (.ref d) H'
def spNum : Sp := fun vs H Q _ => ∃ (a : Addr) (p : Prt) (s r c : Int), vs = [.ref a, .int s, .int r, .int c] ∧ PrAt H a p ∧ PrOk p ∧
  ∀ (H' : Hp), Same H H' → Q (.int (p.num s r c)) H'
theorem get_dW {H : Hp} {d : Addr} {f : Wd → Int} (h : H d = some (.dK (dictW f))) (u : Wd) : DGet H d (.str u.s) (some (.int (f u))) := by
  have q := DGet.k (k := Sum.inr u.s) h
  rw [valW] at q
  exact q
theorem get_dC {H : Hp} {d : Addr} {f : Wd → Int} (h : H d = some (.dK (dictC f))) (u : Wd) : DGet H d (.str u.s) (some (.int (f u))) := by
  have q := DGet.k (k := Sum.inr u.s) h
  rw [valC] at q
  exact q
theorem Prt.num_eq (p : Prt) (s r c : Int) : p.first + (seatW s r c p.o1 * p.size p.o2 * p.size p.o3 + seatW s r c p.o2 * p.size p.o3 + seatW s r c p.o3) = p.num s r c := by
  unfold Prt.num
  rw [Int.add_mul]
theorem PrOk.big {p : Prt} (ok : PrOk p) (u : Wd) : -(2 ^ 64) < p.size u ∧ p.size u < 2 ^ 64 := by
  have := ok.size_lo u
  have := ok.size_hi u
  constructor <;> omega
/-- what draw and its like leave for the words of an order -/
def spOrder : Sp := fun vs H Q _ => ∃ (f c : Addr) (n : Int), vs = [.ref f] ∧ Fd H f c n ∧ n ≤ 900000 ∧
  ∀ (t : Addr) (o : Obj) (u1 u2 u3 : Wd) (H' : Hp), Tpl o → u1 ≠ u2 → u1 ≠ u3 → u2 ≠ u3 → Fd H' f c (n + 2) → But f H H' → H t = none → H' t = some (.frz o (.tup [.str u1.s, .str u2.s, .str u3.s])) → Q (.ref t) H'
def spPrint : Sp := fun vs H Q _ => ∃ (f c : Addr) (n k : Int), vs = [.ref f, .int k] ∧ Fd H f c n ∧ n ≤ 800000 ∧ (k = 0 ∨ k = 1) ∧
  ∀ (a : Addr) (p : Prt) (H' : Hp), Fd H' f c (n + 20) → But f H H' → PrAt H' a p → PrOk p → (k = 1 → p.cols ≤ 4 ∧ p.rows ≤ 4 ∧ p.sheets ≤ 6) → Q (.ref a) H'
theorem mul_bound {a b : Int} {m n : Int} (a0 : 0 ≤ a) (a1 : a ≤ m) (b0 : 0 ≤ b) (b1 : b ≤ n) : 0 ≤ a * b ∧ a * b ≤ m * n :=
  ⟨Int.mul_nonneg a0 b0, Int.mul_le_mul a1 b1 b0 (Int.le_trans a0 a1)⟩
theorem prod_bound {c r s : Int} (c0 : 0 ≤ c) (c1 : c ≤ 12) (r0 : 0 ≤ r) (r1 : r ≤ 12) (s0 : 0 ≤ s) (s1 : s ≤ 1000000) : 0 ≤ c * r * s ∧ c * r * s ≤ 144000000 := by
  obtain ⟨h1, h2⟩ := mul_bound c0 c1 r0 r1
  obtain ⟨h3, h4⟩ := mul_bound h1 h2 s0 s1
  exact ⟨h3, by omega⟩
def abc : Str := "abcdefghijklmnopqrstuvwxyz"
theorem abc_at (i : Int) (h0 : 0 ≤ i) (h1 : i < 26) : ∃ ch, atI abc.cps.toList i = some ch ∧ ch < 16 ^ 8 := by
  obtain ⟨k, rfl⟩ : ∃ k : Nat, i = (k : Int) := ⟨i.toNat, by omega⟩
  have hk : k < abc.cps.toList.length := by
    have e : abc.cps.toList.length = 26 := by decide +kernel
    omega
  have all : ∀ c ∈ abc.cps.toList, c < 16 ^ 8 := by decide +kernel
  exact ⟨abc.cps.toList[k], atI_nat (List.getElem?_eq_getElem hk), all _ (List.getElem_mem hk)⟩
theorem mul_chr {ch : Nat} (n : Int) (h : ch < 16 ^ 8) : ((Txt.mul ⟨#[ch]⟩ n).cps.toList.all fun c => decide (c < 16 ^ 8)) = true := by
  rw [mul_one_list, List.all_eq_true]
  intro c hc
  rw [List.eq_of_mem_replicate hc]
  exact decide_eq_true h
theorem mul1_ok (ch : Nat) (d : Int) (h0 : 0 ≤ d) (h1 : d < 100) : MulOk ⟨#[ch]⟩ (1 + d) := by
  refine ⟨?_, fun _ _ => ?_, fun _ _ => ?_⟩
  · simp only [Bool.or_eq_false_iff, decide_eq_false_iff_not]
    constructor <;> omega
  · have e : (⟨#[ch]⟩ : Str).length = 1 := rfl
    rw [e]
    have : (1 : Int) ≤ (2 ^ 63 - 1) / (1 + d) := by
      rw [Int.le_ediv_iff_mul_le (by omega)]
      omega
    omega
  · have e : (⟨#[ch]⟩ : Str).length = 1 := rfl
    rw [e, Nat.one_mul]
    unfold Builtin.Str.tooLong
    rw [decide_eq_false_iff_not, sizeLine_eq]
    omega
theorem mul1_len (ch : Nat) (d : Int) (N : Nat) (h : 1 + d ≤ (N : Int)) : (Txt.mul ⟨#[ch]⟩ (1 + d)).length ≤ N := len_mul_one rfl h
def rowNums (p : Prt) (s r : Int) : List Int := (List.range p.cols.toNat).map fun (c : Nat) => p.num s r c
def numsOn (p : Prt) (s : Int) : List Int := (List.range p.rows.toNat).flatMap fun (r : Nat) => rowNums p s r
theorem rowNums_len (p : Prt) (s r : Int) : (rowNums p s r).length = p.cols.toNat := by
  unfold rowNums
  rw [List.length_map, List.length_range]
/-- the numbers ahead of the c-th of row r -/
def numsTo (p : Prt) (s : Int) (r c : Nat) : List Int := ((List.range r).flatMap fun (r : Nat) => rowNums p s r) ++ (List.range c).map fun (c : Nat) => p.num s r c
theorem numsTo_row (p : Prt) (s : Int) (r : Nat) : numsTo p s r p.cols.toNat = numsTo p s (r + 1) 0 := by
  unfold numsTo rowNums
  rw [List.range_succ, List.flatMap_append, List.range_zero, List.map_nil, List.append_nil, List.flatMap_singleton]
theorem numsTo_col (p : Prt) (s : Int) (r c : Nat) : numsTo p s r (c + 1) = numsTo p s r c ++ [p.num s r c] := by
  unfold numsTo
  rw [List.range_succ, List.map_append, List.append_assoc]
  rfl
theorem numsTo_all (p : Prt) (s : Int) : numsTo p s p.rows.toNat 0 = numsOn p s := by
  unfold numsTo numsOn
  rw [List.range_zero, List.map_nil, List.append_nil]
theorem numsTo_len (p : Prt) (s : Int) (r c : Nat) : (numsTo p s r c).length = r * p.cols.toNat + c := by
  unfold numsTo
  rw [List.length_append, List.length_map, List.length_range, List.length_flatMap]
  have e : (List.map (fun (a : Nat) => (rowNums p s a).length) (List.range r)) = List.replicate r p.cols.toNat := by
    apply List.ext_getElem
    · simp
    · intro i h1 h2
      simp [rowNums_len]
  rw [e, List.sum_replicate_nat]
def spNumsOn : Sp := fun vs H Q _ => ∃ (a : Addr) (p : Prt) (s : Int), vs = [.ref a, .int s] ∧ PrAt H a p ∧ PrOk p ∧
  ∀ (l : Addr) (H' : Hp), Same H H' → H l = none → H' l = some (.lst ((numsOn p s).map V.int)) → Q (.ref l) H'
/-! ### Runs -/
abbrev Rn := Str × Int × Int
def rnV (r : Rn) : List V := [.str r.1, .int r.2.1, .int r.2.2]
def rnD (r : Rn) : PyData := .tuple [.str r.1, .int r.2.1, .int r.2.2]
/-- the runs rs stand at the places ps -/
abbrev Prd (H : Hp) (ps : List Addr) (rs : List Rn) : Prop := Paired (fun (p : Addr) (r : Rn) => H p = some (.tup (rnV r))) ps rs
theorem Prd.len {H : Hp} {ps : List Addr} {rs : List Rn} (h : Prd H ps rs) : ps.length = rs.length := Paired.length h
theorem Prd.same {H H' : Hp} (s : Same H H') : ∀ {ps : List Addr} {rs : List Rn}, Prd H ps rs → Prd H' ps rs
  | _, _, .nil => .nil
  | _, _, .cons a b => .cons (s _ _ a) (Prd.same s b)
theorem Prd.get {H : Hp} : ∀ {ps : List Addr} {rs : List Rn} {i : Nat} {p : Addr}, Prd H ps rs → ps[i]? = some p → ∃ r, rs[i]? = some r ∧ H p = some (.tup (rnV r))
  | _, _, 0, _, .cons a _, h => by
    cases h
    exact ⟨_, rfl, a⟩
  | _, _, i + 1, p, .cons _ b, h => Prd.get (i := i) (p := p) b h
theorem Prd.app {H : Hp} : ∀ {ps qs : List Addr} {rs ts : List Rn}, Prd H ps rs → Prd H qs ts → Prd H (ps ++ qs) (rs ++ ts)
  | _, _, _, _, .nil, b => b
  | _, _, _, _, .cons a r, b => .cons a (Prd.app r b)
theorem Prd.mem {H : Hp} : ∀ {ps : List Addr} {rs : List Rn} {p : Addr}, Prd H ps rs → p ∈ ps → ∃ r ∈ rs, H p = some (.tup (rnV r))
  | _, _, p, .cons a b, h => by
    rcases List.mem_cons.mp h with e | e
    · subst e
      exact ⟨_, List.mem_cons_self, a⟩
    · obtain ⟨r, h1, h2⟩ := Prd.mem b e
      exact ⟨r, List.mem_cons_of_mem _ h1, h2⟩
theorem Prd.dp {K : PySem.W.Frag} {H : Hp} : ∀ {ps : List Addr} {rs : List Rn}, Prd H ps rs → DpAll K H (ps.map V.ref) (rs.map rnD)
  | _, _, .nil => .nil
  | _, _, .cons a b => .cons (.tup (SqT.of a) (.cons (.str _) (.cons (.int _) (.cons (.int _) .nil)))) (Prd.dp b)
/-- one run more, its place new or not, all else as it was -/
theorem Prd.keep {H H' : Hp} : ∀ {ps : List Addr} {rs : List Rn}, (∀ p ∈ ps, ∀ o, H p = some o → H' p = some o) → Prd H ps rs → Prd H' ps rs
  | _, _, _, .nil => .nil
  | _, _, k, .cons a b => .cons (k _ List.mem_cons_self _ a) (Prd.keep (fun p hp => k p (List.mem_cons_of_mem _ hp)) b)
def rnLe (a b : Rn) : Bool := PySem.W.dataLe false rnD a b
/-- Python's order of runs -/
def rnLt (a b : Rn) : Prop := a.1.cps.toList < b.1.cps.toList ∨ (a.1 = b.1 ∧ (a.2.1 < b.2.1 ∨ (a.2.1 = b.2.1 ∧ a.2.2 < b.2.2)))
theorem rn_lt (a b : Rn) : PySem.W.dataLt (rnD a) (rnD b) = decide (a.1.cps.toList < b.1.cps.toList ∨ (a.1 = b.1 ∧ (a.2.1 < b.2.1 ∨ (a.2.1 = b.2.1 ∧ a.2.2 < b.2.2)))) := by
  unfold rnD
  rw [PySem.W.dataLt_tuple, PySem.W.dataLt_cons (by simp [PySem.W.alike]), PySem.W.dataLt_cons (by simp [PySem.W.alike]), PySem.W.dataLt_cons (by simp [PySem.W.alike]), PySem.W.dataLt_str, PySem.W.dataLt_int, PySem.W.dataLt_int]
  rw [PyProof.Rows.lex_irrefl]
  simp only [PyData.eqv, beq_iff_eq]
  by_cases h1 : a.1 = b.1
  · have n : ¬ a.1.cps.toList < b.1.cps.toList := by
      rw [h1]
      exact List.lt_irrefl _
    by_cases h2 : a.2.1 = b.2.1
    · by_cases h3 : a.2.2 = b.2.2
      · rw [if_pos h1, if_pos h2, if_pos h3]
        symm
        rw [decide_eq_false_iff_not]
        rintro (h | ⟨_, h | ⟨_, h⟩⟩)
        · exact n h
        · omega
        · omega
      · rw [if_pos h1, if_pos h2, if_neg h3, decide_eq_decide]
        refine ⟨fun h => Or.inr ⟨h1, Or.inr ⟨h2, h⟩⟩, ?_⟩
        rintro (h | ⟨_, h | ⟨_, h⟩⟩)
        · exact absurd h n
        · omega
        · exact h
    · rw [if_pos h1, if_neg h2, decide_eq_decide]
      refine ⟨fun h => Or.inr ⟨h1, Or.inl h⟩, ?_⟩
      rintro (h | ⟨_, h | ⟨h, _⟩⟩)
      · exact absurd h n
      · exact h
      · exact absurd h h2
  · rw [if_neg h1, decide_eq_decide]
    refine ⟨Or.inl, ?_⟩
    rintro (h | ⟨h, _⟩)
    · exact h
    · exact absurd h h1
def apart (a b : Rn) : Bool := if a.1 = b.1 then decide (a.2.2 < b.2.1) else decide (a.1.cps.toList < b.1.cps.toList)
def push (acc : List Rn) (r : Rn) : List Rn := match acc.getLast? with
  | none => [r]
  | some l => if apart l r then acc ++ [r] else acc.dropLast ++ [(l.1, l.2.1, if r.2.2 > l.2.2 then r.2.2 else l.2.2)]
def merge (rs : List Rn) : List Rn := rs.foldl push []
def runsOf (rs : List Rn) : List Rn := merge (rs.mergeSort rnLe)
theorem sort_rn {H : Hp} {ps : List Addr} {rs : List Rn} (h : Prd H ps rs) : ∃ qs : List Addr, sortD (ps.map V.ref) (rs.map rnD) = qs.map V.ref ∧ Prd H qs (rs.mergeSort rnLe) := by
  have hl := h.len
  have e1 : ((ps.map V.ref).zip (rs.map rnD)) = (ps.zip rs).map (fun x => (V.ref x.1, rnD x.2)) := by
    rw [List.zip_map]
    rfl
  refine ⟨((ps.zip rs).mergeSort (fun x y => rnLe x.2 y.2)).map Prod.fst, ?_, ?_⟩
  · unfold sortD
    rw [e1, ← PySem.W.sort_maps (r := fun x y => rnLe x.2 y.2) (fun x : Addr × Rn => (V.ref x.1, rnD x.2)) (fun _ _ _ _ => rfl), List.map_map, List.map_map]
    rfl
  · have e2 : ((ps.zip rs).mergeSort (fun x y => rnLe x.2 y.2)).map Prod.snd = rs.mergeSort rnLe := by
      rw [PySem.W.sort_maps (s := rnLe) Prod.snd (fun _ _ _ _ => rfl), List.map_snd_zip (by omega)]
    rw [← e2]
    have at_ : ∀ x ∈ ps.zip rs, H x.1 = some (.tup (rnV x.2)) := by
      clear e1 e2 hl
      induction h with
      | nil => exact fun x hx => nomatch hx
      | cons a b ih =>
        intro x hx
        rcases List.mem_cons.mp hx with z | z
        · subst z
          exact a
        · exact ih x z
    have all : ∀ l : List (Addr × Rn), (∀ x ∈ l, H x.1 = some (.tup (rnV x.2))) → Prd H (l.map Prod.fst) (l.map Prod.snd) := fun l => by
      induction l with
      | nil => exact fun _ => .nil
      | cons x l ih => exact fun k => .cons (k x List.mem_cons_self) (ih fun y hy => k y (List.mem_cons_of_mem _ hy))
    exact all _ fun x hx => at_ x (List.mem_mergeSort.mp hx)
theorem rn_alike (rs : List Rn) : PySem.W.AllAlike (rs.map rnD) := by
  intro d hd e he
  obtain ⟨a, _, rfl⟩ := List.mem_map.mp hd
  obtain ⟨b, _, rfl⟩ := List.mem_map.mp he
  simp [rnD, PySem.W.alike, PySem.W.alikeAll]
theorem rn_sortable (rs : List Rn) : PySem.W.Sortable (rs.map rnD) := by
  refine Or.inl fun d hd => ?_
  obtain ⟨a, _, rfl⟩ := List.mem_map.mp hd
  exact ⟨_, _, rfl⟩
theorem rn_depth (rs : List Rn) : ∀ d ∈ rs.map rnD, d.depth ≤ 60 := by
  intro d hd
  obtain ⟨a, _, rfl⟩ := List.mem_map.mp hd
  simp [rnD, PyData.depth, PyData.depthAll]
theorem push_len (acc : List Rn) (r : Rn) : (push acc r).length ≤ acc.length + 1 := by
  unfold push
  split
  · simp
  · split
    · simp
    · simp
theorem merge_len (rs : List Rn) : (merge rs).length ≤ rs.length := by
  have all : ∀ (l acc : List Rn), (l.foldl push acc).length ≤ acc.length + l.length := fun l => by
    induction l with
    | nil => intro acc; simp
    | cons r l ih =>
      intro acc
      have h1 := ih (push acc r)
      have h2 := push_len acc r
      rw [List.foldl_cons, List.length_cons]
      omega
  have z := all rs []
  rw [List.length_nil, Nat.zero_add] at z
  exact z
theorem push_snoc (acc : List Rn) (l r : Rn) : push (acc ++ [l]) r = if apart l r then acc ++ [l] ++ [r] else acc ++ [(l.1, l.2.1, if r.2.2 > l.2.2 then r.2.2 else l.2.2)] := by
  unfold push
  rw [List.getLast?_concat]
  simp only [List.dropLast_concat]
theorem Prd.snoc {H : Hp} : ∀ {ps : List Addr} {rs : List Rn} {p : Addr}, Prd H (ps ++ [p]) rs → ∃ ts r, rs = ts ++ [r] ∧ Prd H ps ts ∧ H p = some (.tup (rnV r))
  | [], _, p, h => by
    cases h with
    | cons a b =>
      cases b
      exact ⟨[], _, rfl, .nil, a⟩
  | x :: ps, _, p, h => by
    cases h with
    | cons a b =>
      obtain ⟨ts, r, rfl, h1, h2⟩ := Prd.snoc b
      exact ⟨_ :: ts, r, rfl, .cons a h1, h2⟩
theorem Prd.one {H : Hp} {p : Addr} {r : Rn} (h : H p = some (.tup (rnV r))) : Prd H [p] [r] := .cons h .nil
theorem ix_last (n : Nat) : ixN (n + 1) (-1) = some n := by
  unfold ixN
  rw [if_neg (by omega), if_pos (by omega)]
  exact congrArg some (by omega)
theorem nil_or_snoc {α : Type} (l : List α) : l = [] ∨ ∃ i x, l = i ++ [x] := by
  rcases List.eq_nil_or_concat l with h | ⟨i, x, h⟩
  · exact .inl h
  · exact .inr ⟨i, x, by rw [h, List.concat_eq_append]⟩
theorem merge_more {l : List Rn} {i : Nat} {r : Rn} (h : l[i]? = some r) : merge (l.take (i + 1)) = push (merge (l.take i)) r := by
  unfold merge
  obtain ⟨hi, e⟩ := List.getElem?_eq_some_iff.mp h
  rw [List.take_succ_eq_append_getElem hi, List.foldl_append, e]
  rfl
def spApart : Sp := fun vs H Q _ => ∃ (p q : Addr) (a b : Rn), vs = [.ref p, .ref q] ∧ H p = some (.tup (rnV a)) ∧ H q = some (.tup (rnV b)) ∧ Q (.bl (apart a b)) H
def spRunsOf (K : PySem.W.Frag) : Sp := fun vs H Q _ => ∃ (a : Addr) (ps : List Addr) (rs : List Rn), vs = [.ref a] ∧ SqL K H a (ps.map V.ref) ∧ Prd H ps rs ∧ rs.length ≤ 100000 ∧
  ∀ (t : Addr) (qs : List Addr) (H' : Hp), Same H H' → H t = none → H' t = some (.tup (qs.map V.ref)) → Prd H' qs (runsOf rs) → Q (.ref t) H'
def single (s : Str) (n : Int) : Rn := (s, n, n + 1)
def spRunsNums : Sp := fun vs H Q _ => ∃ (a l : Addr) (p : Prt) (ns : List Int), vs = [.ref a, .ref l] ∧ PrAt H a p ∧ H l = some (.lst (ns.map V.int)) ∧ ns.length ≤ 100000 ∧
  ∀ (t : Addr) (qs : List Addr) (H' : Hp), Same H H' → H t = none → H' t = some (.tup (qs.map V.ref)) → Prd H' qs (runsOf (ns.map (single p.series))) → Q (.ref t) H'
def spSheetRuns : Sp := fun vs H Q _ => ∃ (a : Addr) (p : Prt) (s : Int), vs = [.ref a, .int s] ∧ PrAt H a p ∧ PrOk p ∧
  ∀ (t : Addr) (qs : List Addr) (H' : Hp), Same H H' → H t = none → H' t = some (.tup (qs.map V.ref)) → Prd H' qs (runsOf ((numsOn p s).map (single p.series))) → Q (.ref t) H'
def spPile (f : Prt → Int → Int → Int) : Sp := fun vs H Q _ => ∃ (a : Addr) (p : Prt) (r c : Int), vs = [.ref a, .int r, .int c] ∧ PrAt H a p ∧ PrOk p ∧
  ∀ (t : Addr) (H' : Hp), Same H H' → H t = none → H' t = some (.tup [.int (p.num 0 r c), .int (f p r c), .int p.sheets]) → Q (.ref t) H'
theorem numsOn_len {p : Prt} (ok : PrOk p) (s : Int) : (numsOn p s).length ≤ 144 := by
  rw [← numsTo_all, numsTo_len]
  have h1 := ok.r2
  have h2 := ok.c2
  have : p.rows.toNat * p.cols.toNat ≤ 12 * 12 := Nat.mul_le_mul (by omega) (by omega)
  omega
/-! ### Sheets: numbers on a sheet are unlike; joined they are the runs -/
theorem mixed {x y n c d : Int} (e : x * n + c = y * n + d) (c0 : 0 ≤ c) (c1 : c < n) (d0 : 0 ≤ d) (d1 : d < n) : x = y ∧ c = d := by
  have h1 : (x * n + c) / n = x := by
    rw [Int.add_comm, Int.add_mul_ediv_right _ _ (by omega), Int.ediv_eq_zero_of_lt c0 c1, Int.zero_add]
  have h2 : (y * n + d) / n = y := by
    rw [Int.add_comm, Int.add_mul_ediv_right _ _ (by omega), Int.ediv_eq_zero_of_lt d0 d1, Int.zero_add]
  have h3 : x = y := by rw [← h1, ← h2, e]
  subst h3
  exact ⟨rfl, by omega⟩
theorem cancel {x y n : Int} (e : x * n = y * n) (h : 1 ≤ n) : x = y := Int.eq_of_mul_eq_mul_right (by omega) e
theorem num_inj {p : Prt} (ok : PrOk p) {s r c r' c' : Int} (r0 : 0 ≤ r) (r1 : r < p.rows) (c0 : 0 ≤ c) (c1 : c < p.cols) (r0' : 0 ≤ r') (r1' : r' < p.rows) (c0' : 0 ≤ c') (c1' : c' < p.cols)
    (e : p.num s r c = p.num s r' c') : r = r' ∧ c = c' := by
  obtain ⟨series, first, cols, rows, sheets, o1, o2, o3⟩ := p
  have s1 := ok.s1
  have d12 := ok.d12
  have d13 := ok.d13
  have d23 := ok.d23
  dsimp only at *
  unfold Prt.num at e
  dsimp only at e
  have e := Int.add_left_cancel e
  cases o1 <;> cases o2 <;> cases o3 <;> first | exact absurd rfl d12 | exact absurd rfl d13 | exact absurd rfl d23 | skip
  all_goals simp only [seatW, Prt.size] at e
  · obtain ⟨h1, h2⟩ := mixed e c0 c1 c0' c1'
    exact ⟨by omega, h2⟩
  · obtain ⟨h1, h2⟩ := mixed e r0 r1 r0' r1'
    exact ⟨h2, by omega⟩
  · obtain ⟨h1, h2⟩ := mixed e c0 c1 c0' c1'
    exact ⟨cancel (n := sheets) (by omega) s1, h2⟩
  · have h1 := cancel (x := r * cols + c) (y := r' * cols + c') (n := sheets) (by omega) s1
    exact mixed h1 c0 c1 c0' c1'
  · obtain ⟨h1, h2⟩ := mixed e r0 r1 r0' r1'
    exact ⟨h2, cancel (n := sheets) (by omega) s1⟩
  · have h1 := cancel (x := c * rows + r) (y := c' * rows + r') (n := sheets) (by omega) s1
    obtain ⟨h2, h3⟩ := mixed h1 r0 r1 r0' r1'
    exact ⟨h3, h2⟩
theorem nums_nodup {p : Prt} (ok : PrOk p) (s : Int) : (numsOn p s).Pairwise (· ≠ ·) := by
  unfold numsOn
  rw [List.pairwise_flatMap]
  refine ⟨fun r hr => ?_, ?_⟩
  · unfold rowNums
    rw [List.pairwise_map]
    refine List.Pairwise.imp_of_mem ?_ List.nodup_range
    intro c c' hc hc' ne e
    have h1 := List.mem_range.mp hr
    have h2 := List.mem_range.mp hc
    have h3 := List.mem_range.mp hc'
    have z := num_inj ok (by omega) (by omega) (by omega) (by omega) (by omega) (by omega) (by omega) (by omega) e
    exact ne (by omega)
  · refine List.Pairwise.imp_of_mem ?_ List.nodup_range
    intro r r' hr hr' ne x hx y hy e
    unfold rowNums at hx hy
    obtain ⟨c, hc, rfl⟩ := List.mem_map.mp hx
    obtain ⟨c', hc', rfl⟩ := List.mem_map.mp hy
    have h1 := List.mem_range.mp hr
    have h2 := List.mem_range.mp hr'
    have h3 := List.mem_range.mp hc
    have h4 := List.mem_range.mp hc'
    have z := num_inj ok (by omega) (by omega) (by omega) (by omega) (by omega) (by omega) (by omega) (by omega) e
    exact ne (by omega)
/-- one number more, as the law joins them -/
def step (s : Str) (acc : List Rn) (n : Int) : List Rn := match acc.getLast? with
  | none => [single s n]
  | some l => if l.2.2 = n then acc.dropLast ++ [(s, l.2.1, n + 1)] else acc ++ [single s n]
theorem step_snoc (s : Str) (acc : List Rn) (l : Rn) (n : Int) : step s (acc ++ [l]) n = if l.2.2 = n then acc ++ [(s, l.2.1, n + 1)] else acc ++ [l] ++ [single s n] := by
  unfold step
  rw [List.getLast?_concat]
  simp only [List.dropLast_concat]
theorem push_step {s : Str} {acc : List Rn} {n : Int} (h : ∀ l, acc.getLast? = some l → l.1 = s ∧ l.2.2 ≤ n) : push acc (single s n) = step s acc n := by
  rcases nil_or_snoc acc with rfl | ⟨i, l, rfl⟩
  · rfl
  · obtain ⟨h1, h2⟩ := h l List.getLast?_concat
    rw [push_snoc, step_snoc]
    have e : apart l (single s n) = decide (l.2.2 < n) := if_pos h1
    rw [e]
    by_cases c : l.2.2 = n
    · rw [if_neg (by rw [decide_eq_true_eq]; omega), if_pos c]
      have m : (if (single s n).2.2 > l.2.2 then (single s n).2.2 else l.2.2) = n + 1 := if_pos (show n + 1 > l.2.2 by omega)
      rw [m, h1]
    · rw [if_pos (by rw [decide_eq_true_eq]; omega), if_neg c]
theorem step_last (s : Str) (acc : List Rn) (n : Int) : ∃ i l, step s acc n = i ++ [l] ∧ l.1 = s ∧ l.2.2 = n + 1 := by
  rcases nil_or_snoc acc with rfl | ⟨i, l, rfl⟩
  · exact ⟨[], single s n, rfl, rfl, rfl⟩
  · rw [step_snoc]
    by_cases c : l.2.2 = n
    · rw [if_pos c]
      exact ⟨_, _, rfl, rfl, rfl⟩
    · rw [if_neg c]
      exact ⟨_, _, rfl, rfl, rfl⟩
theorem fold_step (s : Str) : ∀ (ns : List Int) (acc : List Rn), ns.Pairwise (· < ·) → (∀ l, acc.getLast? = some l → l.1 = s ∧ ∀ n ∈ ns, l.2.2 ≤ n) → (ns.map (single s)).foldl push acc = ns.foldl (step s) acc
  | [], _, _, _ => rfl
  | n :: ns, acc, hp, h => by
    have hp := List.pairwise_cons.mp hp
    rw [List.map_cons, List.foldl_cons, List.foldl_cons, push_step (fun l hl => ⟨(h l hl).1, (h l hl).2 n List.mem_cons_self⟩)]
    refine fold_step s ns _ hp.2 fun l hl => ?_
    obtain ⟨i, l', e, h1, h2⟩ := step_last s acc n
    rw [e, List.getLast?_concat] at hl
    cases hl
    refine ⟨h1, fun m hm => ?_⟩
    have := hp.1 m hm
    omega
theorem single_le (s : Str) (a b : Int) : rnLe (single s a) (single s b) = decide (a ≤ b) := by
  show (!PySem.W.dataLt (rnD (single s b)) (rnD (single s a))) = _
  rw [rn_lt]
  have n : ¬ (single s b).1.cps.toList < (single s a).1.cps.toList := List.lt_irrefl _
  by_cases c : b < a
  · rw [decide_eq_true (Or.inr ⟨rfl, Or.inl c⟩), decide_eq_false (by omega)]
    rfl
  · have z : ¬ ((single s b).1.cps.toList < (single s a).1.cps.toList ∨ (single s b).1 = (single s a).1 ∧ ((single s b).2.1 < (single s a).2.1 ∨ (single s b).2.1 = (single s a).2.1 ∧ (single s b).2.2 < (single s a).2.2)) := by
      rintro (h | ⟨_, h | ⟨_, h⟩⟩)
      · exact n h
      · exact c h
      · have h : b + 1 < a + 1 := h
        omega
    rw [decide_eq_false z, decide_eq_true (by omega)]
    rfl
theorem runsOf_singles {s : Str} {ns ms : List Int} (hp : ms.Perm ns) (hs : ms.Pairwise (· ≤ ·)) (hn : ns.Pairwise (· ≠ ·)) : ms.foldl (step s) [] = runsOf (ns.map (single s)) := by
  unfold runsOf merge
  have e1 : (ns.map (single s)).mergeSort rnLe = (ns.mergeSort fun a b => decide (a ≤ b)).map (single s) := (PySem.W.sort_maps (single s) (fun a _ b _ => (single_le s a b).symm)).symm
  have e2 : ms = ns.mergeSort fun a b => decide (a ≤ b) := by
    refine List.Perm.eq_of_pairwise (le := fun a b => a ≤ b) (fun a b _ _ => Int.le_antisymm) hs ?_ (hp.trans (List.mergeSort_perm _ _).symm)
    have z := List.pairwise_mergeSort (le := fun (a b : Int) => decide (a ≤ b)) (fun a b c h1 h2 => by rw [decide_eq_true_eq] at *; omega) (fun a b => by rw [Bool.or_eq_true, decide_eq_true_eq, decide_eq_true_eq]; omega) ns
    exact z.imp fun h => of_decide_eq_true h
  have lt : ms.Pairwise (· < ·) := by
    have hm : ms.Pairwise (· ≠ ·) := (hp.pairwise_iff (fun h => Ne.symm h)).mpr hn
    exact (hs.and hm).imp fun h => by omega
  rw [e1, ← e2]
  exact (fold_step s ms [] lt fun l hl => nomatch hl).symm
theorem step_len (s : Str) (acc : List Rn) (n : Int) : (step s acc n).length ≤ acc.length + 1 := by
  rcases nil_or_snoc acc with rfl | ⟨i, l, rfl⟩
  · exact Nat.le_refl _
  · rw [step_snoc]
    split <;> simp
theorem steps_len (s : Str) (ns : List Int) : (ns.foldl (step s) []).length ≤ ns.length := by
  have all : ∀ (l : List Int) (acc : List Rn), (l.foldl (step s) acc).length ≤ acc.length + l.length := fun l => by
    induction l with
    | nil => intro acc; simp
    | cons r l ih =>
      intro acc
      have h1 := ih (step s acc r)
      have h2 := step_len s acc r
      rw [List.foldl_cons, List.length_cons]
      omega
  have z := all ns []
  rw [List.length_nil, Nat.zero_add] at z
  exact z
theorem steps_more {s : Str} {l : List Int} {i : Nat} {n : Int} (h : l[i]? = some n) : (l.take (i + 1)).foldl (step s) [] = step s ((l.take i).foldl (step s) []) n := by
  obtain ⟨hi, e⟩ := List.getElem?_eq_some_iff.mp h
  rw [List.take_succ_eq_append_getElem hi, List.foldl_append, e]
  rfl
/-- what a pile's numbers grow by, from the sizes of the words behind "sheet" -/
def stepOf (p : Prt) : Int := match p.o1, p.o2, p.o3 with
  | .sh, b, c => 1 * p.size b * p.size c
  | _, .sh, c => 1 * p.size c
  | _, _, _ => 1
theorem step_of {p : Prt} (ok : PrOk p) (r c : Int) : p.num 1 r c - p.num 0 r c = stepOf p := by
  obtain ⟨series, first, cols, rows, sheets, o1, o2, o3⟩ := p
  have d12 := ok.d12
  have d13 := ok.d13
  have d23 := ok.d23
  dsimp only at *
  unfold Prt.num stepOf
  dsimp only
  cases o1 <;> cases o2 <;> cases o3 <;> first | exact absurd rfl d12 | exact absurd rfl d13 | exact absurd rfl d23 | skip
  all_goals simp only [seatW, Prt.size, Int.zero_mul, Int.one_mul, Int.add_mul, Int.zero_add]
  all_goals omega
def strsW (ws : List Wd) : List V := ws.map fun w => V.str w.s
theorem behind {p : Prt} (ok : PrOk p) : ∃ (j : Nat) (bs : List Wd), [p.o1.s, p.o2.s, p.o3.s][j]? = some Wd.sh.s ∧ (∀ m, m < j → [p.o1.s, p.o2.s, p.o3.s][m]? ≠ some Wd.sh.s) ∧
    cutV (ordV p) (some ((j : Int) + 1)) none = strsW bs ∧ bs.foldl (fun x w => x * p.size w) 1 = stepOf p ∧ j < 3 := by
  obtain ⟨series, first, cols, rows, sheets, o1, o2, o3⟩ := p
  have d12 := ok.d12
  have d13 := ok.d13
  have d23 := ok.d23
  dsimp only at *
  cases o1 <;> cases o2 <;> cases o3 <;> first | exact absurd rfl d12 | exact absurd rfl d13 | exact absurd rfl d23 | skip
  · exact ⟨0, [.ro, .co], rfl, fun m hm => absurd hm (Nat.not_lt_zero _), rfl, rfl, by decide⟩
  · exact ⟨0, [.co, .ro], rfl, fun m hm => absurd hm (Nat.not_lt_zero _), rfl, rfl, by decide⟩
  · refine ⟨1, [.co], rfl, fun m hm => ?_, rfl, rfl, by decide⟩
    obtain rfl : m = 0 := by omega
    decide +kernel
  · refine ⟨2, [], rfl, fun m hm => ?_, rfl, rfl, by decide⟩
    rcases (show m = 0 ∨ m = 1 by omega) with rfl | rfl <;> decide +kernel
  · refine ⟨1, [.ro], rfl, fun m hm => ?_, rfl, rfl, by decide⟩
    obtain rfl : m = 0 := by omega
    decide +kernel
  · refine ⟨2, [], rfl, fun m hm => ?_, rfl, rfl, by decide⟩
    rcases (show m = 0 ∨ m = 1 by omega) with rfl | rfl <;> decide +kernel
theorem PrOk.thin1 {p : Prt} (ok : PrOk p) : PrOk { p with sheets := 1 } := by
  have h1 := ok.most
  have h2 : p.cols * p.rows * 1 ≤ p.cols * p.rows * p.sheets := Int.mul_le_mul_of_nonneg_left ok.s1 (Int.mul_nonneg (by have := ok.c1; omega) (by have := ok.r1; omega))
  exact ⟨ok.len, ok.f0, ok.c1, ok.c2, ok.r1, ok.r2, Int.le_refl 1, (show (1 : Int) ≤ 1000000 by decide), by show p.first + p.cols * p.rows * 1 ≤ _; omega, ok.d12, ok.d13, ok.d23, ok.chr⟩
theorem PrOk.thin2 {p : Prt} (ok : PrOk p) : PrOk { p with cols := 1 } := by
  have h1 := ok.most
  have h3 := ok.s1
  have h4 := ok.r1
  have h2 : 1 * p.rows * p.sheets ≤ p.cols * p.rows * p.sheets := Int.mul_le_mul_of_nonneg_right (Int.mul_le_mul_of_nonneg_right ok.c1 (by omega)) (by omega)
  exact ⟨ok.len, ok.f0, Int.le_refl 1, (show (1 : Int) ≤ 12 by decide), ok.r1, ok.r2, ok.s1, ok.s2, by show p.first + 1 * p.rows * p.sheets ≤ _; omega, ok.d12, ok.d13, ok.d23, ok.chr⟩
theorem PrOk.thin3 {p : Prt} (ok : PrOk p) : PrOk { p with rows := 1 } := by
  have h1 := ok.most
  have h3 := ok.s1
  have h4 := ok.c1
  have h2 : p.cols * 1 * p.sheets ≤ p.cols * p.rows * p.sheets := Int.mul_le_mul_of_nonneg_right (Int.mul_le_mul_of_nonneg_left ok.r1 (by omega)) (by omega)
  exact ⟨ok.len, ok.f0, ok.c1, ok.c2, Int.le_refl 1, (show (1 : Int) ≤ 12 by decide), ok.s1, ok.s2, by show p.first + p.cols * 1 * p.sheets ≤ _; omega, ok.d12, ok.d13, ok.d23, ok.chr⟩
/-- right printings at these places -/
def PrsAt (H : Hp) (as : List Addr) (ps : List Prt) : Prop := Paired (fun (a : Addr) (p : Prt) => PrAt H a p ∧ PrOk p) as ps
theorem PrsAt.same {H H' : Hp} (s : Same H H') : ∀ {as : List Addr} {ps : List Prt}, PrsAt H as ps → PrsAt H' as ps
  | _, _, .nil => .nil
  | _, _, .cons a b => .cons ⟨a.1.same s, a.2⟩ (PrsAt.same s b)
theorem PrsAt.but {H H' : Hp} {f c : Addr} {n : Int} (hf : Fd H f c n) (s : But f H H') : ∀ {as : List Addr} {ps : List Prt}, PrsAt H as ps → PrsAt H' as ps
  | _, _, .nil => .nil
  | _, _, .cons a b => .cons ⟨a.1.but hf s, a.2⟩ (PrsAt.but hf s b)
theorem PrsAt.get {H : Hp} : ∀ {as : List Addr} {ps : List Prt} {i : Nat} {a : Addr}, PrsAt H as ps → as[i]? = some a → ∃ p, ps[i]? = some p ∧ PrAt H a p ∧ PrOk p
  | _, _, 0, _, .cons a _, h => by
    cases h
    exact ⟨_, rfl, a.1, a.2⟩
  | _, _, i + 1, a, .cons _ b, h => PrsAt.get (i := i) (a := a) b h
def spPrints : Sp := fun vs H Q _ => ∃ (f c : Addr) (n : Int), vs = [.ref f] ∧ Fd H f c n ∧ n ≤ 700000 ∧
  ∀ (l : Addr) (as : List Addr) (ps : List Prt) (H' : Hp), Fd H' f c (n + 50) → But f H H' → l ≠ f → H' l = some (.lst (as.map V.ref)) → PrsAt H' as ps → as.length = 4 → Q (.ref l) H'
/-! ### How long a repr is -/
mutual
def cost : PyData → Nat
  | .none => 4
  | .bool _ => 5
  | .int _ => 2000
  | .str x => 10 * x.length + 2
  | .list xs => costAll xs + 3
  | .tuple xs => costAll xs + 3
  | .dict _ => 0
def costAll : List PyData → Nat
  | [] => 0
  | x :: xs => cost x + 2 + costAll xs
end
mutual
def fineD : PyData → Bool
  | .none => true
  | .bool _ => true
  | .int i => decide (i.natAbs.log2 < 1920)
  | .str x => x.cps.toList.all fun c => decide (c < 16 ^ 8)
  | .list xs => fineAll xs
  | .tuple xs => fineAll xs
  | .dict _ => false
def fineAll : List PyData → Bool
  | [] => true
  | x :: xs => fineD x && fineAll xs
end
theorem from_len : ∀ (ts : List Str) (k : Nat) (acc : Str), (textFrom k acc ts).length ≤ acc.length + piled ts
  | [], k, acc => by
    unfold textFrom
    exact Nat.le_add_right _ _
  | t :: ts, k, acc => by
    unfold textFrom
    rw [piled_cons]
    have z := from_len ts (k + 1) (acc ++ (if k > 0 then ", " else "" : String) ++ t)
    have e : (((if k > 0 then ", " else "" : String) : Str)).length ≤ 2 := by split <;> decide +kernel
    rw [strLen_append, strLen_append] at z
    omega
theorem tup_len (ts : List Str) : (tupleText ts).length ≤ piled ts + 3 := by
  have e1 : ((("(" : String) : Str)).length = 1 := rfl
  have e3 : (((if ts.length == 1 then ",)" else ")" : String) : Str)).length ≤ 2 := by split <;> decide +kernel
  unfold tupleText
  rw [strLen_append, strLen_append, e1]
  cases ts with
  | nil =>
    have : (Str.join ", " []).length = 0 := rfl
    omega
  | cons t ts =>
    have := join_length_add (t :: ts) (fun z => nomatch z)
    omega
mutual
theorem shown_cost : ∀ d : PyData, fineD d = true → d.shown.length ≤ cost d
  | .none, _ => by decide +kernel
  | .bool b, _ => by cases b <;> decide +kernel
  | .int i, h => by
    have := int_text_len_1921 (of_decide_eq_true h)
    unfold PyData.shown cost
    omega
  | .str x, h => StrLaws.reprText_len x fun c hc => of_decide_eq_true (List.all_eq_true.mp h c hc)
  | .list xs, h => by
    have z := shown_costAll xs h
    have y := from_len (PyData.shownAll xs) 0 "["
    have e : (("[" : String) : Str).length = 1 := rfl
    have e2 : (("]" : String) : Str).length = 1 := rfl
    unfold PyData.shown cost listText
    rw [strLen_append, e2]
    rw [e] at y
    omega
  | .tuple xs, h => by
    have z := shown_costAll xs h
    have y := tup_len (PyData.shownAll xs)
    unfold PyData.shown cost
    omega
theorem shown_costAll : ∀ xs : List PyData, fineAll xs = true → piled (PyData.shownAll xs) ≤ costAll xs
  | [], _ => Nat.zero_le _
  | x :: xs, h => by
    have h := Bool.and_eq_true_iff.mp h
    have z1 := shown_cost x h.1
    have z2 := shown_costAll xs h.2
    unfold PyData.shownAll costAll
    rw [piled_cons]
    omega
end
mutual
theorem fine_show : ∀ d : PyData, fineD d = true → d.showable = true ∧ d.hasDict = false
  | .none, _ => ⟨rfl, rfl⟩
  | .bool b, _ => ⟨rfl, rfl⟩
  | .int i, h => ⟨h, rfl⟩
  | .str x, h => ⟨rfl, rfl⟩
  | .list xs, h => fine_showAll xs h
  | .tuple xs, h => fine_showAll xs h
theorem fine_showAll : ∀ xs : List PyData, fineAll xs = true → PyData.showableAll xs = true ∧ PyData.hasDictAll xs = false
  | [], _ => ⟨rfl, rfl⟩
  | x :: xs, h => by
    have h := Bool.and_eq_true_iff.mp h
    have z1 := fine_show x h.1
    have z2 := fine_showAll xs h.2
    unfold PyData.showableAll PyData.hasDictAll
    rw [z1.1, z1.2, z2.1, z2.2]
    exact ⟨rfl, rfl⟩
end
theorem log_small {n : Nat} (h : n < 2 ^ 64) : n.log2 < 1920 := by
  by_cases z : n = 0
  · subst z
    decide +kernel
  · exact (Nat.log2_lt z).mpr (Nat.lt_of_lt_of_le h (Nat.pow_le_pow_right (by decide) (by decide)))
theorem int_fine {i : Int} (h0 : -1000000000000 ≤ i) (h1 : i ≤ 1000000000000) : fineD (.int i) = true := decide_eq_true (log_small (by omega))
def prD (p : Prt) : PyData := .tuple [.str p.series, .int p.first, .int p.cols, .int p.rows, .int p.sheets, .tuple [.str p.o1.s, .str p.o2.s, .str p.o3.s]]
theorem PrAt.dp {K : PySem.W.Frag} {H : Hp} {a : Addr} {p : Prt} (h : PrAt H a p) : Dp K H (.ref a) (prD p) := by
  obtain ⟨t, h1, o, h2, _⟩ := h
  exact .tup (SqT.of h1) (.cons (.str _) (.cons (.int _) (.cons (.int _) (.cons (.int _) (.cons (.int _) (.cons (.tup (sqF h2) (.cons (.str _) (.cons (.str _) (.cons (.str _) .nil)))) .nil))))))
theorem word_fine (u : Wd) : fineD (.str u.s) = true := by cases u <;> decide +kernel
theorem PrOk.fine {p : Prt} (ok : PrOk p) : fineD (prD p) = true := by
  have h1 := ok.f0; have h2 := ok.c1; have h3 := ok.c2; have h4 := ok.r1; have h5 := ok.r2; have h6 := ok.s1; have h7 := ok.s2; have h8 := ok.most
  have h9 := (prod_bound (c := p.cols) (r := p.rows) (s := p.sheets) (by omega) h3 (by omega) h5 (by omega) h7).1
  show (fineD (.str p.series) && (fineD (.int p.first) && (fineD (.int p.cols) && (fineD (.int p.rows) && (fineD (.int p.sheets) && ((fineD (.str p.o1.s) && (fineD (.str p.o2.s) && (fineD (.str p.o3.s) && true))) && true)))))) = true
  have e0 : fineD (.str p.series) = true := ok.chr
  rw [e0, int_fine (by omega) (by omega), int_fine (by omega) (by omega), int_fine (by omega) (by omega), int_fine (by omega) (by omega), word_fine, word_fine, word_fine]
  rfl
theorem word_cost (u : Wd) : cost (.str u.s) ≤ 62 := by cases u <;> decide +kernel
theorem PrOk.cost {p : Prt} (ok : PrOk p) : cost (prD p) ≤ 9000 := by
  have h := ok.len
  have h1 := word_cost p.o1; have h2 := word_cost p.o2; have h3 := word_cost p.o3
  simp only [prD, Pn.cost, costAll] at *
  omega
theorem PrsAt.dp {K : PySem.W.Frag} {H : Hp} : ∀ {as : List Addr} {ps : List Prt}, PrsAt H as ps → DpAll K H (as.map V.ref) (ps.map prD)
  | _, _, .nil => .nil
  | _, _, .cons a b => .cons a.1.dp (PrsAt.dp b)
theorem PrsAt.fine {H : Hp} : ∀ {as : List Addr} {ps : List Prt}, PrsAt H as ps → fineAll (ps.map prD) = true ∧ costAll (ps.map prD) ≤ 9002 * ps.length ∧ as.length = ps.length
  | _, _, .nil => ⟨rfl, Nat.le_refl _, rfl⟩
  | _, _, .cons (l₂ := l) a b => by
    obtain ⟨z1, z2, z3⟩ := PrsAt.fine b
    have y1 := a.2.fine
    have y2 := a.2.cost
    refine ⟨?_, ?_, congrArg (· + 1) z3⟩
    · rw [List.map_cons]
      unfold fineAll
      rw [y1, z1]
      rfl
    · rw [List.map_cons, List.length_cons]
      unfold costAll
      omega
theorem prs_depth (ps : List Prt) : (PyData.list (ps.map prD)).depth ≤ 60 := by
  have all : ∀ l : List Prt, PyData.depthAll (l.map prD) ≤ 4 := fun l => by
    induction l with
    | nil => simp [PyData.depthAll]
    | cons p l ih =>
      rw [List.map_cons]
      simp only [PyData.depthAll, prD, PyData.depth] at *
      omega
  have z := all ps
  simp only [PyData.depth]
  omega
def rnsD (rs : List Rn) : PyData := .tuple (rs.map rnD)
theorem rns_nice {rs : List Rn} (h : rs.length ≤ 100000) : Nice 2 (rnsD rs) := by
  refine Or.inr ⟨_, Or.inr rfl, by rw [List.length_map]; exact h, fun e he => ?_⟩
  obtain ⟨r, _, rfl⟩ := List.mem_map.mp he
  refine Or.inr ⟨_, Or.inr rfl, (show 3 ≤ 100000 by decide), fun e he => ?_⟩
  rcases List.mem_cons.mp he with rfl | he
  · exact Nice.flat rfl
  rcases List.mem_cons.mp he with rfl | he
  · exact Nice.flat rfl
  rcases List.mem_cons.mp he with rfl | he
  · exact Nice.flat rfl
  · exact nomatch he
theorem runsOf_len (rs : List Rn) : (runsOf rs).length ≤ rs.length := by
  unfold runsOf
  have z := merge_len (rs.mergeSort rnLe)
  rw [List.length_mergeSort] at z
  exact z
theorem prd_dp {K : PySem.W.Frag} {H : Hp} {t : Addr} {qs : List Addr} {rs : List Rn} (h : H t = some (.tup (qs.map V.ref))) (hq : Prd H qs rs) : Dp K H (.ref t) (rnsD rs) := .tup (SqT.of h) (Prd.dp hq)
def intsD (ns : List Int) : PyData := .tuple (ns.map .int)
theorem ints_dp {K : PySem.W.Frag} {H : Hp} {t : Addr} {ns : List Int} (h : H t = some (.tup (ns.map V.int))) : Dp K H (.ref t) (intsD ns) := by
  refine .tup (SqT.of h) ?_
  clear h
  induction ns with
  | nil => exact .nil
  | cons n ns ih => exact .cons (.int n) ih
theorem ints_nice {ns : List Int} (h : ns.length ≤ 100000) : Nice 2 (intsD ns) := by
  refine Or.inr ⟨_, Or.inr rfl, by rw [List.length_map]; exact h, fun e he => ?_⟩
  obtain ⟨r, _, rfl⟩ := List.mem_map.mp he
  exact Nice.flat rfl
def spLaw (K : PySem.W.Frag) : Sp := fun vs H Q _ => ∃ (a : Addr) (ns : List Int), vs = [.ref a] ∧ SqL K H a (ns.map V.int) ∧ ∀ H', Q (.bl true) H'
/-! ### The one writing of a set of notes -/
def sl (a b : Str) : Prop := a.cps.toList < b.cps.toList
theorem sl_irr (a : Str) : ¬ sl a a := List.lt_irrefl _
theorem sl_tr {a b c : Str} (h : sl a b) (k : sl b c) : sl a c := List.lt_trans h k
theorem sl_as {a b : Str} (h : sl a b) (k : sl b a) : False := sl_irr a (sl_tr h k)
theorem sl_tot (a b : Str) : sl a b ∨ a = b ∨ sl b a := by
  by_cases h1 : sl a b
  · exact .inl h1
  by_cases h2 : sl b a
  · exact .inr (.inr h2)
  refine .inr (.inl ?_)
  have e : a.cps.toList = b.cps.toList := List.le_antisymm (List.not_lt.mp h2) (List.not_lt.mp h1)
  cases a
  cases b
  exact congrArg Str.mk (Array.toList_inj.mp e)
def has (rs : List Rn) (s : Str) (n : Int) : Prop := ∃ r ∈ rs, r.1 = s ∧ r.2.1 ≤ n ∧ n < r.2.2
def Full (rs : List Rn) : Prop := ∀ r ∈ rs, r.2.1 < r.2.2
def Canon (rs : List Rn) : Prop := rs.Pairwise (fun a b => apart a b = true) ∧ Full rs
theorem apart_iff (a b : Rn) : apart a b = true ↔ (a.1 = b.1 ∧ a.2.2 < b.2.1) ∨ sl a.1 b.1 := by
  unfold apart
  by_cases e : a.1 = b.1
  · rw [if_pos e, decide_eq_true_eq]
    refine ⟨fun h => .inl ⟨e, h⟩, ?_⟩
    rintro (h | h)
    · exact h.2
    · rw [e] at h
      exact (sl_irr _ h).elim
  · rw [if_neg e, decide_eq_true_eq]
    refine ⟨.inr, ?_⟩
    rintro (h | h)
    · exact absurd h.1 e
    · exact h
theorem apart_tr {a b c : Rn} (h : apart a b = true) (f : b.2.1 < b.2.2) (k : apart b c = true) : apart a c = true := by
  rw [apart_iff] at *
  rcases h with ⟨h1, h2⟩ | h <;> rcases k with ⟨k1, k2⟩ | k
  · exact .inl ⟨h1.trans k1, by omega⟩
  · exact .inr (h1 ▸ k)
  · exact .inr (k1 ▸ h)
  · exact .inr (sl_tr h k)
theorem has_cons (x : Rn) (rs : List Rn) (s : Str) (n : Int) : has (x :: rs) s n ↔ (x.1 = s ∧ x.2.1 ≤ n ∧ n < x.2.2) ∨ has rs s n := by
  unfold has
  constructor
  · rintro ⟨r, h, k⟩
    rcases List.mem_cons.mp h with rfl | h
    · exact .inl k
    · exact .inr ⟨r, h, k⟩
  · rintro (k | ⟨r, h, k⟩)
    · exact ⟨x, List.mem_cons_self, k⟩
    · exact ⟨r, List.mem_cons_of_mem _ h, k⟩
theorem has_nil (s : Str) (n : Int) : ¬ has [] s n := fun ⟨_, h, _⟩ => nomatch h
theorem has_app (a b : List Rn) (s : Str) (n : Int) : has (a ++ b) s n ↔ has a s n ∨ has b s n := by
  unfold has
  constructor
  · rintro ⟨r, h, k⟩
    rcases List.mem_append.mp h with h | h
    · exact .inl ⟨r, h, k⟩
    · exact .inr ⟨r, h, k⟩
  · rintro (⟨r, h, k⟩ | ⟨r, h, k⟩)
    · exact ⟨r, List.mem_append_left _ h, k⟩
    · exact ⟨r, List.mem_append_right _ h, k⟩
/-- all notes behind the first run -/
theorem canon_first {x : Rn} {rs : List Rn} (h : Canon (x :: rs)) {s : Str} {n : Int} (k : has rs s n) : (x.1 = s ∧ x.2.2 < n) ∨ sl x.1 s := by
  obtain ⟨r, hr, rfl, k1, k2⟩ := k
  rcases (apart_iff x r).mp ((List.pairwise_cons.mp h.1).1 r hr) with ⟨e, l⟩ | l
  · exact .inl ⟨e, by omega⟩
  · exact .inr l
theorem Canon.tail {x : Rn} {rs : List Rn} (h : Canon (x :: rs)) : Canon rs := ⟨(List.pairwise_cons.mp h.1).2, fun r hr => h.2 r (List.mem_cons_of_mem _ hr)⟩
theorem canon_uniq : ∀ {a b : List Rn}, Canon a → Canon b → (∀ s n, has a s n ↔ has b s n) → a = b
  | [], [], _, _, _ => rfl
  | [], y :: b, _, hb, h => by
    have z := (h y.1 y.2.1).mpr ⟨y, List.mem_cons_self, rfl, Int.le_refl _, hb.2 y List.mem_cons_self⟩
    exact (has_nil _ _ z).elim
  | x :: a, [], ha, _, h => by
    have z := (h x.1 x.2.1).mp ⟨x, List.mem_cons_self, rfl, Int.le_refl _, ha.2 x List.mem_cons_self⟩
    exact (has_nil _ _ z).elim
  | x :: a, y :: b, ha, hb, h => by
    have fx := ha.2 x List.mem_cons_self
    have fy := hb.2 y List.mem_cons_self
    have lo : ∀ {x y : Rn} {a b : List Rn}, Canon (x :: a) → Canon (y :: b) → (∀ s n, has (x :: a) s n → has (y :: b) s n) → (y.1 = x.1 ∧ y.2.1 ≤ x.2.1) ∨ sl y.1 x.1 := fun {x y a b} ha hb h => by
      have fy := hb.2 y List.mem_cons_self
      rcases (has_cons _ _ _ _).mp (h x.1 x.2.1 ⟨x, List.mem_cons_self, rfl, Int.le_refl _, ha.2 x List.mem_cons_self⟩) with ⟨e, k, _⟩ | k
      · exact .inl ⟨e, k⟩
      · rcases canon_first hb k with ⟨e, k⟩ | k
        · exact .inl ⟨e, by omega⟩
        · exact .inr k
    have l1 := lo ha hb fun s n => (h s n).mp
    have l2 := lo hb ha fun s n => (h s n).mpr
    have e1 : x.1 = y.1 ∧ x.2.1 = y.2.1 := by
      rcases l1 with ⟨e, k⟩ | k <;> rcases l2 with ⟨e', k'⟩ | k'
      · exact ⟨e', by omega⟩
      · exact (sl_irr _ (e ▸ k')).elim
      · exact (sl_irr _ (e' ▸ k)).elim
      · exact (sl_as k k').elim
    have hi : ∀ {x y : Rn} {a b : List Rn}, Canon (x :: a) → Canon (y :: b) → x.1 = y.1 → x.2.1 = y.2.1 → (∀ s n, has (y :: b) s n → has (x :: a) s n) → ¬ x.2.2 < y.2.2 := fun {x y a b} ha hb e1 e2 h lt => by
      have fx := ha.2 x List.mem_cons_self
      rcases (has_cons _ _ _ _).mp (h x.1 x.2.2 ⟨y, List.mem_cons_self, e1.symm, by omega, lt⟩) with ⟨_, _, k⟩ | k
      · omega
      · rcases canon_first ha k with ⟨_, k⟩ | k
        · omega
        · exact sl_irr _ k
    have h1 := hi ha hb e1.1 e1.2 fun s n => (h s n).mpr
    have h2 := hi hb ha e1.1.symm e1.2.symm fun s n => (h s n).mp
    have e : x = y := Prod.ext e1.1 (Prod.ext e1.2 (by omega))
    subst e
    have off : ∀ {l : List Rn}, Canon (x :: l) → ∀ s n, has l s n → ¬ (x.1 = s ∧ x.2.1 ≤ n ∧ n < x.2.2) := fun {l} hl s n k z => by
      rcases canon_first hl k with ⟨_, k⟩ | k
      · omega
      · exact sl_irr _ (z.1 ▸ k)
    refine congrArg (x :: ·) (canon_uniq ha.tail hb.tail fun s n => ⟨fun k => ?_, fun k => ?_⟩)
    · rcases (has_cons _ _ _ _).mp ((h s n).mp ((has_cons _ _ _ _).mpr (.inr k))) with z | z
      · exact (off ha s n k z).elim
      · exact z
    · rcases (has_cons _ _ _ _).mp ((h s n).mpr ((has_cons _ _ _ _).mpr (.inr k))) with z | z
      · exact (off hb s n k z).elim
      · exact z
/-- not ahead of -/
def Wk (a b : Rn) : Prop := (a.1 = b.1 ∧ a.2.1 ≤ b.2.1) ∨ sl a.1 b.1
theorem push_ok {acc : List Rn} {r : Rn} (ha : Canon acc) (hw : ∀ x, acc.getLast? = some x → Wk x r) (f : r.2.1 < r.2.2) :
    Canon (push acc r) ∧ (∀ s n, has (push acc r) s n ↔ has acc s n ∨ (r.1 = s ∧ r.2.1 ≤ n ∧ n < r.2.2)) ∧ ∀ x, (push acc r).getLast? = some x → x.1 = r.1 ∧ x.2.1 ≤ r.2.1 := by
  rcases nil_or_snoc acc with rfl | ⟨i, l, rfl⟩
  · refine ⟨⟨List.pairwise_singleton _ _, fun x hx => ?_⟩, fun s n => ?_, fun x hx => ?_⟩
    · rw [List.mem_singleton.mp hx]
      exact f
    · show has [r] s n ↔ _
      rw [has_cons]
      exact Or.comm
    · cases (Option.some.inj hx)
      exact ⟨rfl, Int.le_refl _⟩
  have w := hw l List.getLast?_concat
  obtain ⟨p1, p2, p3⟩ := List.pairwise_append.mp ha.1
  have fl := ha.2 l (List.mem_append_right _ List.mem_cons_self)
  rw [push_snoc]
  by_cases ap : apart l r = true
  · rw [if_pos ap]
    refine ⟨⟨List.pairwise_append.mpr ⟨ha.1, List.pairwise_singleton _ _, fun x hx y hy => ?_⟩, fun x hx => ?_⟩, fun s n => ?_, fun x hx => ?_⟩
    · rw [List.mem_singleton.mp hy]
      rcases List.mem_append.mp hx with hx | hx
      · exact apart_tr (p3 x hx l List.mem_cons_self) fl ap
      · rw [List.mem_singleton.mp hx]
        exact ap
    · rcases List.mem_append.mp hx with hx | hx
      · exact ha.2 x hx
      · rw [List.mem_singleton.mp hx]
        exact f
    · rw [has_app, has_cons]
      simp only [has_nil, or_false]
    · rw [List.getLast?_concat] at hx
      cases (Option.some.inj hx)
      exact ⟨rfl, Int.le_refl _⟩
  · rw [if_neg ap]
    have na : ¬ ((l.1 = r.1 ∧ l.2.2 < r.2.1) ∨ sl l.1 r.1) := fun z => ap ((apart_iff l r).mpr z)
    have w1 : l.1 = r.1 ∧ l.2.1 ≤ r.2.1 := w.resolve_right fun z => na (.inr z)
    have w2 : r.2.1 ≤ l.2.2 := Int.not_lt.mp fun z => na (.inl ⟨w1.1, z⟩)
    generalize hm : (if r.2.2 > l.2.2 then r.2.2 else l.2.2) = m
    have m1 : m = r.2.2 ∧ l.2.2 < r.2.2 ∨ m = l.2.2 ∧ r.2.2 ≤ l.2.2 := by
      split at hm <;> omega
    refine ⟨⟨List.pairwise_append.mpr ⟨p1, List.pairwise_singleton _ _, fun x hx y hy => ?_⟩, fun x hx => ?_⟩, fun s n => ?_, fun x hx => ?_⟩
    · rw [List.mem_singleton.mp hy]
      have z := p3 x hx l List.mem_cons_self
      rw [apart_iff] at z ⊢
      exact z
    · rcases List.mem_append.mp hx with hx | hx
      · exact ha.2 x (List.mem_append_left _ hx)
      · rw [List.mem_singleton.mp hx]
        show l.2.1 < m
        omega
    · rw [has_app, has_app, has_cons, has_cons]
      simp only [has_nil, or_false]
      rw [or_assoc]
      refine or_congr Iff.rfl ⟨fun ⟨h1, h2, h3⟩ => ?_, ?_⟩
      · by_cases c : n < l.2.2
        · exact .inl ⟨h1, h2, c⟩
        · exact .inr ⟨w1.1 ▸ h1, by omega, by omega⟩
      · rintro (⟨h1, h2, h3⟩ | ⟨h1, h2, h3⟩)
        · exact ⟨h1, h2, show n < m by omega⟩
        · exact ⟨w1.1.trans h1, show l.2.1 ≤ n by omega, show n < m by omega⟩
    · rw [List.getLast?_concat] at hx
      cases (Option.some.inj hx)
      exact w1
theorem fold_ok : ∀ (l acc : List Rn), Canon acc → (∀ x, acc.getLast? = some x → ∀ r ∈ l, Wk x r) → l.Pairwise Wk → Full l →
    Canon (l.foldl push acc) ∧ ∀ s n, has (l.foldl push acc) s n ↔ has acc s n ∨ has l s n
  | [], acc, ha, _, _, _ => ⟨ha, fun s n => by simp only [List.foldl_nil, has_nil, or_false]⟩
  | r :: l, acc, ha, hw, hp, hf => by
    obtain ⟨q1, q2⟩ := List.pairwise_cons.mp hp
    obtain ⟨z1, z2, z3⟩ := push_ok ha (fun x hx => hw x hx r List.mem_cons_self) (hf r List.mem_cons_self)
    obtain ⟨y1, y2⟩ := fold_ok l (push acc r) z1 (fun x hx u hu => by
      obtain ⟨e, k⟩ := z3 x hx
      rcases q1 u hu with ⟨e', k'⟩ | k'
      · exact .inl ⟨e.trans e', by omega⟩
      · exact .inr (e ▸ k')) q2 fun x hx => hf x (List.mem_cons_of_mem _ hx)
    refine ⟨y1, fun s n => ?_⟩
    rw [List.foldl_cons, y2, z2, has_cons, or_assoc]
theorem canon_nil : Canon [] := ⟨List.Pairwise.nil, fun _ h => nomatch h⟩
theorem merge_ok {l : List Rn} (hp : l.Pairwise Wk) (hf : Full l) : Canon (merge l) ∧ ∀ s n, has (merge l) s n ↔ has l s n := by
  obtain ⟨y1, y2⟩ := fold_ok l [] canon_nil (fun x hx => nomatch hx) hp hf
  refine ⟨y1, fun s n => (y2 s n).trans ?_⟩
  simp only [has_nil, false_or]
theorem rnLe_iff (a b : Rn) : rnLe a b = true ↔ sl a.1 b.1 ∨ (a.1 = b.1 ∧ (a.2.1 < b.2.1 ∨ (a.2.1 = b.2.1 ∧ a.2.2 ≤ b.2.2))) := by
  have e : rnLe a b = !PySem.W.dataLt (rnD b) (rnD a) := rfl
  rw [e, rn_lt, Bool.not_eq_true', decide_eq_false_iff_not]
  constructor
  · intro h
    rcases sl_tot a.1 b.1 with k | k | k
    · exact .inl k
    · refine .inr ⟨k, ?_⟩
      by_cases c : a.2.1 < b.2.1
      · exact .inl c
      · refine .inr ⟨?_, ?_⟩
        · by_cases d : b.2.1 < a.2.1
          · exact (h (.inr ⟨k.symm, .inl d⟩)).elim
          · omega
        · by_cases d : b.2.2 < a.2.2
          · by_cases d2 : b.2.1 < a.2.1
            · exact (h (.inr ⟨k.symm, .inl d2⟩)).elim
            · exact (h (.inr ⟨k.symm, .inr ⟨by omega, d⟩⟩)).elim
          · omega
    · exact (h (.inl k)).elim
  · rintro (k | ⟨e, k⟩) (h | ⟨e', h⟩)
    · exact sl_as k h
    · rw [e'] at k
      exact sl_irr _ k
    · have h : sl b.1 a.1 := h
      rw [e] at h
      exact sl_irr _ h
    · omega
theorem sort_Wk (rs : List Rn) : (rs.mergeSort rnLe).Pairwise Wk := by
  have z := List.pairwise_mergeSort (le := rnLe) (fun a b c h1 h2 => ?_) (fun a b => ?_) rs
  · refine z.imp fun {a b} h => ?_
    rcases (rnLe_iff a b).mp h with k | ⟨e, k⟩
    · exact .inr k
    · exact .inl ⟨e, by omega⟩
  · rw [rnLe_iff] at *
    rcases h1 with k | ⟨e, k⟩ <;> rcases h2 with k' | ⟨e', k'⟩
    · exact .inl (sl_tr k k')
    · exact .inl (e' ▸ k)
    · exact .inl (e ▸ k')
    · exact .inr ⟨e.trans e', by omega⟩
  · rw [Bool.or_eq_true, rnLe_iff, rnLe_iff]
    rcases sl_tot a.1 b.1 with k | k | k
    · exact .inl (.inl k)
    · by_cases c : a.2.1 < b.2.1 ∨ a.2.1 = b.2.1 ∧ a.2.2 ≤ b.2.2
      · exact .inl (.inr ⟨k, c⟩)
      · exact .inr (.inr ⟨k.symm, by omega⟩)
    · exact .inr (.inl k)
theorem has_perm {a b : List Rn} (h : ∀ r, r ∈ a ↔ r ∈ b) (s : Str) (n : Int) : has a s n ↔ has b s n :=
  ⟨fun ⟨r, h1, h2⟩ => ⟨r, (h r).mp h1, h2⟩, fun ⟨r, h1, h2⟩ => ⟨r, (h r).mpr h1, h2⟩⟩
theorem runsOf_ok {rs : List Rn} (hf : Full rs) : Canon (runsOf rs) ∧ ∀ s n, has (runsOf rs) s n ↔ has rs s n := by
  obtain ⟨y1, y2⟩ := merge_ok (sort_Wk rs) fun r hr => hf r (List.mem_mergeSort.mp hr)
  exact ⟨y1, fun s n => (y2 s n).trans (has_perm (fun r => List.mem_mergeSort) s n)⟩
theorem runsOf_eq {rs c : List Rn} (hf : Full rs) (hc : Canon c) (h : ∀ s n, has c s n ↔ has rs s n) : runsOf rs = c := by
  obtain ⟨y1, y2⟩ := runsOf_ok hf
  exact canon_uniq y1 hc fun s n => (y2 s n).trans (h s n).symm
/-! pieces joined, as the laws do it -/
def join (acc : List Rn) (r : Rn) : List Rn := match acc.getLast? with
  | none => [r]
  | some l => if l.1 = r.1 ∧ l.2.2 = r.2.1 then acc.dropLast ++ [(r.1, l.2.1, r.2.2)] else acc ++ [r]
theorem join_snoc (acc : List Rn) (l r : Rn) : join (acc ++ [l]) r = if l.1 = r.1 ∧ l.2.2 = r.2.1 then acc ++ [(r.1, l.2.1, r.2.2)] else acc ++ [l] ++ [r] := by
  unfold join
  rw [List.getLast?_concat]
  simp only [List.dropLast_concat]
/-- one behind the other, touching perhaps -/
def Vk (a b : Rn) : Prop := (a.1 = b.1 ∧ a.2.2 ≤ b.2.1) ∨ sl a.1 b.1
theorem join_push {acc : List Rn} {r : Rn} (hw : ∀ x, acc.getLast? = some x → Vk x r) (f : r.2.1 < r.2.2) : join acc r = push acc r ∧ ∀ x, (push acc r).getLast? = some x → x.1 = r.1 ∧ x.2.2 = r.2.2 := by
  rcases nil_or_snoc acc with rfl | ⟨i, l, rfl⟩
  · refine ⟨rfl, fun x hx => ?_⟩
    cases (Option.some.inj hx)
    exact ⟨rfl, rfl⟩
  have w := hw l List.getLast?_concat
  rw [join_snoc, push_snoc]
  by_cases c : l.1 = r.1 ∧ l.2.2 = r.2.1
  · have ap : ¬ apart l r = true := fun z => by
      rcases (apart_iff l r).mp z with ⟨_, z⟩ | z
      · omega
      · exact sl_irr _ (c.1 ▸ z)
    rw [if_pos c, if_neg ap, if_pos (by omega), c.1]
    refine ⟨rfl, fun x hx => ?_⟩
    rw [List.getLast?_concat] at hx
    cases (Option.some.inj hx)
    exact ⟨rfl, rfl⟩
  · have ap : apart l r = true := by
      rw [apart_iff]
      rcases w with ⟨e, k⟩ | k
      · exact .inl ⟨e, by have : l.2.2 ≠ r.2.1 := fun z => c ⟨e, z⟩; omega⟩
      · exact .inr k
    rw [if_neg c, if_pos ap]
    refine ⟨rfl, fun x hx => ?_⟩
    rw [List.getLast?_concat] at hx
    cases (Option.some.inj hx)
    exact ⟨rfl, rfl⟩
theorem fold_join : ∀ (l acc : List Rn), (∀ x, acc.getLast? = some x → ∀ r ∈ l, Vk x r) → l.Pairwise Vk → Full l → l.foldl join acc = l.foldl push acc
  | [], _, _, _, _ => rfl
  | r :: l, acc, hw, hp, hf => by
    obtain ⟨q1, q2⟩ := List.pairwise_cons.mp hp
    obtain ⟨z1, z2⟩ := join_push (fun x hx => hw x hx r List.mem_cons_self) (hf r List.mem_cons_self)
    rw [List.foldl_cons, List.foldl_cons, z1]
    refine fold_join l _ (fun x hx u hu => ?_) q2 fun x hx => hf x (List.mem_cons_of_mem _ hx)
    obtain ⟨e, k⟩ := z2 x hx
    rcases q1 u hu with ⟨e', k'⟩ | k'
    · exact .inl ⟨e.trans e', by omega⟩
    · exact .inr (e ▸ k')
def pcs (cs : List Int) : List (Int × Int) := cs.zip cs.tail
theorem pcs_cons (x y : Int) (l : List Int) : pcs (x :: y :: l) = (x, y) :: pcs (y :: l) := rfl
theorem pcs_len (cs : List Int) : (pcs cs).length ≤ cs.length := by
  unfold pcs
  rw [List.length_zip]
  omega
theorem pcs_in : ∀ {cs : List Int} {p : Int × Int}, p ∈ pcs cs → p.1 ∈ cs ∧ p.2 ∈ cs
  | [], p, h => nomatch h
  | [x], p, h => nomatch h
  | x :: y :: l, p, h => by
    rw [pcs_cons] at h
    rcases List.mem_cons.mp h with rfl | h
    · exact ⟨List.mem_cons_self, List.mem_cons_of_mem _ List.mem_cons_self⟩
    · have z := pcs_in h
      exact ⟨List.mem_cons_of_mem _ z.1, List.mem_cons_of_mem _ z.2⟩
theorem pcs_up : ∀ {cs : List Int}, cs.Pairwise (· < ·) → (pcs cs).Pairwise (fun a b => a.2 ≤ b.1) ∧ ∀ p ∈ pcs cs, p.1 < p.2 ∧ ∀ c ∈ cs, c ≤ p.1 ∨ p.2 ≤ c
  | [], _ => ⟨.nil, fun _ h => nomatch h⟩
  | [x], _ => ⟨.nil, fun _ h => nomatch h⟩
  | x :: y :: l, h => by
    obtain ⟨h1, h2⟩ := List.pairwise_cons.mp h
    obtain ⟨h3, h4⟩ := List.pairwise_cons.mp h2
    obtain ⟨i1, i2⟩ := pcs_up h2
    rw [pcs_cons]
    have le : ∀ c ∈ y :: l, y ≤ c := fun c hc => by
      rcases List.mem_cons.mp hc with rfl | hc
      · exact Int.le_refl _
      · have := h3 c hc
        omega
    refine ⟨List.pairwise_cons.mpr ⟨fun p hp => le _ (pcs_in hp).1, i1⟩, fun p hp => ?_⟩
    rcases List.mem_cons.mp hp with rfl | hp2
    · refine ⟨h1 y List.mem_cons_self, fun c hc => ?_⟩
      rcases List.mem_cons.mp hc with rfl | hc
      · exact .inl (Int.le_refl _)
      · exact .inr (le c hc)
    · obtain ⟨j1, j2⟩ := i2 p hp2
      refine ⟨j1, fun c hc => ?_⟩
      rcases List.mem_cons.mp hc with rfl | hc
      · have := h1 _ (pcs_in hp2).1
        exact .inl (by omega)
      · exact j2 c hc
theorem pcs_at : ∀ {cs : List Int} {a b n : Int}, cs.Pairwise (· < ·) → a ∈ cs → b ∈ cs → a ≤ n → n < b → ∃ p ∈ pcs cs, p.1 ≤ n ∧ n < p.2
  | [], _, _, _, _, h, _, _, _ => nomatch h
  | [x], a, b, n, _, h1, h2, h3, h4 => by
    rw [List.mem_singleton] at h1 h2
    omega
  | x :: y :: l, a, b, n, h, h1, h2, h3, h4 => by
    obtain ⟨g1, g2⟩ := List.pairwise_cons.mp h
    rw [pcs_cons]
    by_cases c : n < y
    · refine ⟨(x, y), List.mem_cons_self, ?_, c⟩
      rcases List.mem_cons.mp h1 with rfl | h1
      · exact h3
      · have := g1 a h1
        show x ≤ n
        omega
    · have hb : b ∈ y :: l := by
        rcases List.mem_cons.mp h2 with rfl | h2
        · have := g1 y List.mem_cons_self
          omega
        · exact h2
      obtain ⟨p, p1, p2⟩ := pcs_at (a := y) g2 List.mem_cons_self hb (by omega) h4
      exact ⟨p, List.mem_cons_of_mem _ p1, p2⟩
/-- the pieces of a series that are good -/
def goods (P : Str → Int → Bool) (s : Str) (ps : List (Int × Int)) : List Rn := (ps.filter fun p => P s p.1).map fun p => (s, p.1, p.2)
def mades (P : Str → Int → Bool) (ns : List Str) (cs : List Int) : List Rn := (ns.flatMap fun s => goods P s (pcs cs)).foldl join []
theorem goods_in {P : Str → Int → Bool} {s : Str} {ps : List (Int × Int)} {r : Rn} : r ∈ goods P s ps ↔ r.1 = s ∧ (r.2.1, r.2.2) ∈ ps ∧ P s r.2.1 = true := by
  unfold goods
  rw [List.mem_map]
  constructor
  · rintro ⟨p, h, rfl⟩
    obtain ⟨h1, h2⟩ := List.mem_filter.mp h
    exact ⟨rfl, h1, h2⟩
  · rintro ⟨h1, h2, h3⟩
    exact ⟨(r.2.1, r.2.2), List.mem_filter.mpr ⟨h2, h3⟩, Prod.ext h1.symm rfl⟩
/-- what is made is the one writing of the notes that P tells -/
theorem mades_ok {P : Str → Int → Bool} {ns : List Str} {cs : List Int} (hn : ns.Pairwise sl) (hc : cs.Pairwise (· < ·))
    (flat : ∀ s p n, p ∈ pcs cs → p.1 ≤ n → n < p.2 → P s n = P s p.1) (only : ∀ s n, P s n = true → s ∈ ns ∧ ∃ p ∈ pcs cs, p.1 ≤ n ∧ n < p.2) :
    Canon (mades P ns cs) ∧ ∀ s n, has (mades P ns cs) s n ↔ P s n = true := by
  obtain ⟨u1, u2⟩ := pcs_up hc
  have full : Full (ns.flatMap fun s => goods P s (pcs cs)) := fun r hr => by
    obtain ⟨s, _, h2⟩ := List.mem_flatMap.mp hr
    exact (u2 _ (goods_in.mp h2).2.1).1
  have pv : (ns.flatMap fun s => goods P s (pcs cs)).Pairwise Vk := by
    rw [List.pairwise_flatMap]
    refine ⟨fun s _ => ?_, hn.imp fun {s s'} h x hx y hy => ?_⟩
    · unfold goods
      rw [List.pairwise_map]
      exact (u1.filter _).imp fun h => .inl ⟨rfl, h⟩
    · refine .inr ?_
      rw [(goods_in.mp hx).1, (goods_in.mp hy).1]
      exact h
  have pw : (ns.flatMap fun s => goods P s (pcs cs)).Pairwise Wk := List.Pairwise.imp_of_mem (fun {a b} ha hb h => by
    rcases h with ⟨e, k⟩ | k
    · have := full a ha
      exact .inl ⟨e, by omega⟩
    · exact .inr k) pv
  obtain ⟨y1, y2⟩ := merge_ok pw full
  have e : mades P ns cs = merge (ns.flatMap fun s => goods P s (pcs cs)) := fold_join _ [] (fun x hx => nomatch hx) pv full
  rw [e]
  refine ⟨y1, fun s n => (y2 s n).trans ⟨?_, fun h => ?_⟩⟩
  · rintro ⟨r, hr, rfl, h1, h2⟩
    obtain ⟨s', _, g⟩ := List.mem_flatMap.mp hr
    obtain ⟨g1, g2, g3⟩ := goods_in.mp g
    subst g1
    rw [flat r.1 (r.2.1, r.2.2) n g2 h1 h2]
    exact g3
  · obtain ⟨h1, p, h2, h3, h4⟩ := only s n h
    refine ⟨(s, p.1, p.2), List.mem_flatMap.mpr ⟨s, h1, goods_in.mpr ⟨rfl, h2, ?_⟩⟩, rfl, h3, h4⟩
    rw [← flat s p n h2 h3 h4]
    exact h
def hasB (rs : List Rn) (s : Str) (n : Int) : Bool := rs.any fun r => decide (r.1 = s) && (decide (r.2.1 ≤ n) && decide (n < r.2.2))
theorem hasB_iff (rs : List Rn) (s : Str) (n : Int) : hasB rs s n = true ↔ has rs s n := by
  unfold hasB has
  rw [List.any_eq_true]
  simp only [Bool.and_eq_true, decide_eq_true_eq]
/-- ends and names of the runs are among those told -/
def Ends (rs : List Rn) (ns : List Str) (cs : List Int) : Prop := ∀ r ∈ rs, r.1 ∈ ns ∧ r.2.1 ∈ cs ∧ r.2.2 ∈ cs
theorem hasB_flat {rs : List Rn} {ns : List Str} {cs : List Int} (he : Ends rs ns cs) (hc : cs.Pairwise (· < ·)) {s : Str} {p : Int × Int} {n : Int} (hp : p ∈ pcs cs) (h1 : p.1 ≤ n) (h2 : n < p.2) : hasB rs s n = hasB rs s p.1 := by
  obtain ⟨u1, u2⟩ := pcs_up hc
  obtain ⟨v1, v2⟩ := u2 p hp
  rw [Bool.eq_iff_iff, hasB_iff, hasB_iff]
  constructor
  · rintro ⟨r, hr, e, k1, k2⟩
    have z1 := v2 _ (he r hr).2.1
    have z2 := v2 _ (he r hr).2.2
    exact ⟨r, hr, e, by omega, by omega⟩
  · rintro ⟨r, hr, e, k1, k2⟩
    have z1 := v2 _ (he r hr).2.1
    have z2 := v2 _ (he r hr).2.2
    exact ⟨r, hr, e, by omega, by omega⟩
theorem hasB_only {rs : List Rn} {ns : List Str} {cs : List Int} (he : Ends rs ns cs) (hc : cs.Pairwise (· < ·)) {s : Str} {n : Int} (h : hasB rs s n = true) : s ∈ ns ∧ ∃ p ∈ pcs cs, p.1 ≤ n ∧ n < p.2 := by
  obtain ⟨r, hr, rfl, k1, k2⟩ := (hasB_iff _ _ _).mp h
  obtain ⟨e1, e2, e3⟩ := he r hr
  exact ⟨e1, pcs_at hc e2 e3 k1 k2⟩
theorem mades_runs {rs : List Rn} {ns : List Str} {cs : List Int} (hf : Full rs) (he : Ends rs ns cs) (hn : ns.Pairwise sl) (hc : cs.Pairwise (· < ·)) : mades (hasB rs) ns cs = runsOf rs := by
  obtain ⟨y1, y2⟩ := mades_ok (P := hasB rs) hn hc (fun s p n h1 h2 h3 => hasB_flat he hc h1 h2 h3) (fun s n h => hasB_only he hc h)
  exact (runsOf_eq hf y1 fun s n => (y2 s n).trans (hasB_iff _ _ _)).symm
theorem runsOf_mems {a b : List Rn} (hf : Full a) (h : ∀ r, r ∈ a ↔ r ∈ b) : runsOf a = runsOf b := by
  have hb : Full b := fun r hr => hf r ((h r).mpr hr)
  obtain ⟨y1, y2⟩ := runsOf_ok hb
  exact runsOf_eq hf y1 fun s n => (y2 s n).trans (has_perm h s n).symm
theorem runsOf_again {a : List Rn} (hf : Full a) : runsOf (runsOf a) = runsOf a := by
  obtain ⟨y1, y2⟩ := runsOf_ok hf
  exact runsOf_eq y1.2 y1 fun s n => Iff.rfl
/-! ### sets of keys (ints, texts), however many: set(list), sorted of a set -/
def kx (e : Int × Value) : Key := match e.2 with
  | .int k _ => .inl k
  | .str x _ => .inr x
  | _ => .inl 0
def Gk (w : World) (e : Int × Value) : Prop := ∃ k, keyIs k e.2 = true ∧ e.1 = keyH w k
theorem kx_of {k : Key} {e : Int × Value} (h : keyIs k e.2 = true) : kx e = k := by
  rcases keyIs_shape h with ⟨i, t, rfl, q⟩ | ⟨x, t, rfl, q⟩ <;> (unfold kx; rw [q])
theorem kx_is {w : World} {e : Int × Value} (g : Gk w e) (k : Key) : keyIs k e.2 = true ↔ kx e = k := by
  refine ⟨kx_of, fun q => ?_⟩
  obtain ⟨k0, h1, _⟩ := g
  rw [kx_of h1] at q
  rw [← q]
  exact h1
/-- at a stands a set of n keys, just those that S tells -/
def SX (w : World) (h : Heap) (a : Addr) (S : Key → Prop) (n : Nat) : Prop := ∃ (o : Obj) (es : Array (Int × Value)) (ep : Nat) (t : SetTable),
  (h.get? a = some o ∧ o.ExactSet ∧ o.data = .set es ep t) ∧ ((∀ e ∈ es.toList, Gk w e) ∧ (es.toList.map kx).Nodup ∧ ∀ k, S k ↔ k ∈ es.toList.map kx) ∧
  (es.size < scanBound ∧ t.fits es.size = true ∧ es.size = n) ∧ Ris t.place.toList ∧ (w.params.followText "set-order" = true ∨ t.led = true)
section
variable {P : Program} {w : World} {A : Around} {E : Value → Shared → Prop} {s : Shared} {a : Addr} {S : Key → Prop} {n : Nat}
theorem SX.keep {h h' : Heap} (R : SX w h a S n) (k : ∀ o, h.get? a = some o → h'.get? a = some o) : SX w h' a S n := by
  obtain ⟨o, es, ep, t, ⟨h1, h2⟩, r⟩ := R
  exact ⟨o, es, ep, t, ⟨k o h1, h2⟩, r⟩
theorem SX.like {h : Heap} {S' : Key → Prop} (R : SX w h a S n) (k : ∀ j, S' j ↔ S j) : SX w h a S' n := by
  have e : S' = S := funext fun j => propext (k j)
  rw [e]
  exact R
theorem gk_all {l : List (Int × Value)} (g : ∀ e ∈ l, Gk w e) : ElemsOf (mixKind P w) l := fun e he => by
  obtain ⟨k, q1, q2⟩ := g e he
  refine ⟨⟨k, q1, q2⟩, ?_⟩
  rcases keyIs_shape q1 with ⟨i, t, _, q⟩ | ⟨x, t, _, q⟩ <;> (rw [q]; rfl)
theorem put_at {h : Heap} {o : Obj} {es es' : Array (Int × Value)} {ep : Nat} {t t' : SetTable} (q1 : h.get? a = some o) (q2 : o.data = .set es ep t) :
    (h.update a (Obj.putSet es' t')).get? a = some { o with data := .set es' (ep + 1) t' } := by
  have z := Heap.get?_update_self (Obj.putSet es' t') q1 (by rw [putSet_of es' t' q2]; rfl)
  exact z.trans (congrArg some (putSet_of es' t' q2))
theorem sx_lay {g : Bool → Sem Unit} (calm : ∀ (b : Bool) (s1 : Shared) (Z : Unit → Shared → Prop), Z () s1 → wpAny (model P w) A (g b) Z E s1)
    {o : Obj} {es fs : Array (Int × Value)} {ep : Nat} {t u : SetTable} {S' : Key → Prop} (q : s.heap.get? a = some o ∧ o.ExactSet ∧ o.data = .set es ep t)
    (keys : (∀ e ∈ fs.toList, Gk w e) ∧ (fs.toList.map kx).Nodup ∧ ∀ k, S' k ↔ k ∈ fs.toList.map kx) (few : fs.size < scanBound) (fit : u.fits fs.size = true) (up : Ris u.place.toList)
    (led : w.params.followText "set-order" = true ∨ u.led = true) {dm : Bool} {Z : Option Bool → Shared → Prop}
    (fin : ∀ h', Heap.SameBut a s.heap h' → SX w h' a S' fs.size → Z (some true) { s with heap := h' }) :
    wpAny (model P w) A (do
      storeSet a fs u
      if (!dm && u.tooFull) = true then do
          g (relayAll u fs (SetTable.grown fs.size)).2.2
          storeSet a (relayAll u fs (SetTable.grown fs.size)).1 (relayAll u fs (SetTable.grown fs.size)).2.1
          pure (some true)
        else pure (some true)) Z E s := by
  obtain ⟨q1, q2, q3⟩ := q
  obtain ⟨k1, k2, k3⟩ := keys
  refine wpAny_bind (wpAny_storeSet_of q1 q3 ?_ (fits_of_scanBound few))
  have at1 := put_at (es' := fs) (t' := u) q1 q3
  have b1 := Heap.SameBut.update s.heap a (Obj.putSet fs u)
  split
  · have p1 := relayAll_perm u fs (SetTable.grown fs.size)
    have p2 := relayAll_fits u fs (SetTable.grown fs.size)
    have p3 := relayAll_ris u fs (SetTable.grown fs.size)
    have p4 := relayAll_led u fs (SetTable.grown fs.size)
    generalize relayAll u fs (SetTable.grown fs.size) = L at p1 p2 p3 p4 ⊢
    obtain ⟨gs, v, gave⟩ := L
    dsimp only at p1 p2 p3 p4 ⊢
    have size : gs.size = fs.size := by rw [← Array.length_toList, p1.length_eq, Array.length_toList]
    have few2 : gs.size < scanBound := by omega
    refine wpAny_bind (calm _ _ _ ?_)
    refine wpAny_bind (wpAny_storeSet_of at1 rfl ?_ (fits_of_scanBound few2))
    have at2 := put_at (es' := gs) (t' := v) at1 rfl
    refine wpAny_pure (fin _ (b1.trans (Heap.SameBut.update _ a _)) ⟨_, gs, _, v, ⟨at2, q2, rfl⟩, ⟨fun e he => k1 e (p1.mem_iff.mp he), (p1.map kx).nodup_iff.mpr k2, fun k => (k3 k).trans (p1.map kx).mem_iff.symm⟩, ⟨few2, p2, size⟩, p3, ?_⟩)
    exact led.imp _root_.id fun z => p4.trans z
  · exact wpAny_pure (fin _ b1 ⟨_, fs, _, u, ⟨at1, q2, rfl⟩, ⟨k1, k2, k3⟩, ⟨few, fit, rfl⟩, up, led⟩)
theorem sx_add {k : Key} {v : Value} {Z : Bool → Shared → Prop} (R : SX w s.heap a S n) (room : n + 1 < scanBound) (hk : keyIs k v = true)
    (fin : ∀ h' m, Heap.SameBut a s.heap h' → m ≤ n + 1 → SX w h' a (fun j => S j ∨ j = k) m → ∀ b, Z b { s with heap := h' }) :
    wpAny (model P w) A (setAddHashed a v (keyH w k)) Z E s := by
  obtain ⟨o, es, ep, t, ⟨q1, q2, q3⟩, ⟨k1, k2, k3⟩, ⟨few, fit, size⟩, up, led⟩ := R
  have scan : v.scannable = true := by
    rcases keyIs_shape hk with ⟨i, t, _, rfl⟩ | ⟨x, t, _, rfl⟩ <;> rfl
  have all : ElemsOf (mixKind P w) es.toList := gk_all k1
  have is' : (mixKind P w).is k v = true := hk
  unfold setAddHashed setAddHashedIn
  refine wpAny_holding (wpAny_bind (wpAny_setState_of q1 q3 fit ?_))
  dsimp only
  rw [byScan_of scan few all]
  simp only [↓reduceIte]
  unfold setAddByScan
  refine wpAny_bind ?_
  refine wpAny_bind (wpAny_rule ?_)
  refine wpAny_bind (wpAny_setScan_of is' q1 q3 fit all ?_)
  have memb : ∀ j, j ∈ es.toList.map kx ↔ ∃ e ∈ es.toList, keyIs j e.2 = true := fun j => by
    rw [List.mem_map]
    exact ⟨fun ⟨e, h1, h2⟩ => ⟨e, h1, (kx_is (k1 e h1) j).mpr h2⟩, fun ⟨e, h1, h2⟩ => ⟨e, h1, (kx_is (k1 e h1) j).mp h2⟩⟩
  cases found : List.findIdx? (fun e => (mixKind P w).is k e.2) es.toList with
  | some j =>
    dsimp only
    obtain ⟨hj, pj, _⟩ := List.findIdx?_eq_some_iff_getElem.mp found
    have inS : S k := (k3 k).mpr ((memb k).mpr ⟨es.toList[j], List.getElem_mem hj, pj⟩)
    refine wpAny_pure (wpAny_pure ?_)
    exact fin s.heap n (Heap.SameBut.refl a s.heap) (Nat.le_succ _) ⟨o, es, ep, t, ⟨q1, q2, q3⟩, ⟨k1, k2, fun i => by rw [← k3 i]; exact ⟨fun z => z.elim _root_.id fun e => e ▸ inS, .inl⟩⟩, ⟨few, fit, size⟩, up, led⟩ _
  | none =>
    dsimp only
    have new : k ∉ es.toList.map kx := fun z => by
      obtain ⟨e, h1, h2⟩ := (memb k).mp z
      have c := List.findIdx?_eq_none_iff.mp found e h1
      have c : keyIs k e.2 = false := c
      rw [h2] at c
      cases c
    have way : ∀ (b : Bool) {s1 : Shared} {Y : Unit → Shared → Prop}, Y () s1 → wpAny (model P w) A (match b with | true => rule "set.scan.the-table-gave-way" | false => pure ()) Y E s1 := fun b s1 Y y => by
      cases b
      · exact wpAny_pure y
      · exact wpAny_rule y
    have p1 := layNew_perm t es (keyH w k) v
    have p2 := layNew_fits t es (keyH w k) v
    have p3 := layNew_ris t es (keyH w k) v up
    have p4 := layNew_led t es (keyH w k) v
    generalize layNew t es (keyH w k) v = L at p1 p2 p3 p4 ⊢
    obtain ⟨fs, u, dm, gave⟩ := L
    dsimp only at p1 p2 p3 p4 ⊢
    rw [Array.toList_push] at p1
    have pc : fs.toList.Perm ((keyH w k, v) :: es.toList) := p1.trans (List.perm_append_singleton _ _)
    have pk : (fs.toList.map kx).Perm (k :: es.toList.map kx) := by
      have z := pc.map kx
      rw [List.map_cons, kx_of (e := (keyH w k, v)) hk] at z
      exact z
    have keys : (∀ e ∈ fs.toList, Gk w e) ∧ (fs.toList.map kx).Nodup ∧ ∀ j, (S j ∨ j = k) ↔ j ∈ fs.toList.map kx := by
      refine ⟨fun e he => ?_, pk.nodup_iff.mpr (List.nodup_cons.mpr ⟨new, k2⟩), fun j => ?_⟩
      · rcases List.mem_cons.mp (pc.mem_iff.mp he) with z | z
        · rw [z]
          exact ⟨k, hk, rfl⟩
        · exact k1 e z
      · rw [k3 j, pk.mem_iff, List.mem_cons]
        exact Or.comm
    have size2 : fs.size = n + 1 := by rw [← Array.length_toList, pc.length_eq, List.length_cons, Array.length_toList, size]
    have few2 : fs.size < scanBound := by omega
    have led2 : w.params.followText "set-order" = true ∨ u.led = true := led.imp _root_.id fun z => p4.trans z
    have fin2 : ∀ h', Heap.SameBut a s.heap h' → SX w h' a (fun j => S j ∨ j = k) fs.size → ∀ b, Z b { s with heap := h' } := fun h' sb r => fin h' _ sb (Nat.le_of_eq size2) r
    refine wpAny_bind (way _ ?_)
    split
    · refine wpAny_bind ?_
      rw [hashByValue_scannable 8 scan]
      refine wpAny_pure ?_
      refine sx_lay ?_ ⟨q1, q2, q3⟩ keys few2 ?_ ?_ ?_ ?_
      · intro b s1 Y y
        cases b
        · exact wpAny_pure y
        · exact wpAny_rule y
      · first | (split <;> first | exact p2 | exact SetTable.fits_plain_off p2) | exact p2
      · first | (split <;> exact p3) | exact p3
      · first | (split <;> exact led2) | exact led2
      · intro h' sb r
        dsimp only
        exact wpAny_pure (fin2 h' sb r _)
    · refine wpAny_bind (wpAny_pure ?_)
      simp only [↓reduceIte]
      refine sx_lay ?_ ⟨q1, q2, q3⟩ keys few2 p2 p3 led2 ?_
      · intro b s1 Y y
        cases b
        · exact wpAny_pure y
        · exact wpAny_rule y
      · intro h' sb r
        dsimp only
        exact wpAny_pure (fin2 h' sb r _)
theorem sx_loop {I : Addr} {fp wr : List Addr} {G : Array GenState → Array GenState → Prop} {n : Nat} {Pv : Nat → Value → Prop} {St : Nat → Shared → Prop} {R : Result → Shared → Prop}
    (W : WalksS P w A.in1 I fp wr G n Pv St) (D : Addr) (hD : D ∉ fp) (ks : List Key) (hn : n = ks.length) (few : ks.length + 1 < scanBound) (are : ∀ i v, Pv i v → ∃ k, ks[i]? = some k ∧ keyIs k v = true) :
    ∀ (m i : Nat) (s : Shared), n - i = m → i ≤ n → St i s → (∃ c, c ≤ i ∧ SX w s.heap D (fun j => j ∈ ks.take i) c) →
      (∀ s' c, Moved (D :: wr) G s s' → c ≤ n → SX w s'.heap D (fun j => j ∈ ks) c → R (.ok (.ret .none)) s') →
      codeAny (model P w) A (.builtin "set.update.loop" ⟨[.ref D, .ref I], []⟩) R s := by
  have notw : D ∉ wr := fun z => hD (W.sub _ z)
  have more : ∀ b ∈ wr, b ∈ D :: wr := fun b hb => List.mem_cons_of_mem _ hb
  intro m
  induction m with
  | zero =>
    intro i s e1 e2 st ⟨c, hc, hS⟩ fin
    obtain rfl : i = n := by omega
    refine codeAny_builtin F.entry_set_update_loop ?_
    rw [Around.under_plainId F.plain_set_update_loop _]
    show wpAny _ A.in1 (pyNext (.ref I) >>= _) _ _ s
    refine wpAny_bind (W.done s _ _ st fun s2 mv => ?_)
    show wpAny _ A.in1 (ret Value.none) _ _ s2
    rw [List.take_of_length_le (l := ks) (i := i) (by omega)] at hS
    exact wpAny_pure (fin s2 c (mv.mono more) hc (hS.keep fun o e => mv.heap D o notw e))
  | succ m ih =>
    intro i s e1 e2 st ⟨c, hc, hS⟩ fin
    have lt : i < n := by omega
    refine codeAny_builtin F.entry_set_update_loop ?_
    rw [Around.under_plainId F.plain_set_update_loop _]
    show wpAny _ A.in1 (pyNext (.ref I) >>= _) _ _ s
    refine wpAny_bind (W.item i s _ _ lt st fun v s2 pv st2 mv => ?_)
    obtain ⟨k, hk, isk⟩ := are i v pv
    have hS2 := hS.keep fun o e => mv.heap D o notw e
    show wpAny _ A.in1 (holding [v] (setAdd D v) >>= _) _ _ s2
    refine wpAny_bind (wpAny_holding ?_)
    unfold setAdd
    refine wpAny_holding ?_
    refine wpAny_bind ((mixKind P w).pyHash (k := k) isk ?_)
    refine sx_add (s := { s2 with toks := s2.toks + 1 }) hS2 (by omega) isk fun h' m2 sb hm hS3 b => ?_
    have hS4 : SX w h' D (fun j => j ∈ ks.take (i + 1)) m2 := hS3.like fun j => by
      rw [List.take_add_one, hk, List.mem_append]
      simp
    refine wpAny_pure ⟨plainId_quiet F.plain_set_update_loop _, ih (i + 1) _ (by omega) lt (W.frame _ s2 _ _ st2 (Nat.le_succ _) fun b hb o e => ?_) ⟨_, (show m2 ≤ i + 1 by omega), hS4⟩ fun s3 c3 mv3 hc3 hS5 => ?_⟩
    · rw [sb.2 b (fun z : b = D => hD (z ▸ hb))]
      exact e
    · refine fin s3 c3 (Moved.trans W.gtrans ((mv.mono more).then_heap (Nat.le_succ _) fun b o hb e => ?_) mv3) hc3 hS5
      rw [sb.2 b (fun z : b = D => hb (by rw [z]; exact List.mem_cons_self))]
      exact e
theorem sx_new {h : Heap} {ks : List Key} (q : h.get? a = some { cls := .type "set", dict := none, data := .set #[] 0 (.fresh 0 0 (!w.params.followText "set-order")) }) : SX w h a (fun j => j ∈ ks.take 0) 0 := by
  refine ⟨_, #[], 0, _, ⟨q, ⟨rfl, rfl, rfl⟩, rfl⟩, ⟨fun e he => by simp at he, by simp, fun k => by simp⟩, ⟨by decide, by rfl, rfl⟩, List.Pairwise.nil, ?_⟩
  show _ ∨ (!w.params.followText "set-order") = true
  cases w.params.followText "set-order"
  · exact .inr rfl
  · exact .inl rfl
set_option maxHeartbeats 3200000 in
theorem sx_call {l : Addr} {items : Array Value} (ks : List Key) {Q : Value → Shared → Prop} (hh : A.handled = none) (hl : s.heap.IsList l items) (len : items.size = ks.length) (are : ∀ (i : Nat) (v : Value), items[i]? = some v → ∃ k, ks[i]? = some k ∧ keyIs k v = true) (few : ks.length + 1 < scanBound)
    (fin : ∀ (h' : Heap) (tk c : Nat), SX w h' s.heap.objs.size (fun j => j ∈ ks) c → c ≤ ks.length → (∀ b o, s.heap.get? b = some o → h'.get? b = some o) → Q (.ref s.heap.objs.size) { s with heap := h', toks := tk }) :
    wpAny (model P w) A (call (.type "set") [.ref l]) Q E s := by
  obtain ⟨c, tl, m1⟩ := F.called_set.mro
  have m2 := F.called_set.made
  have m3 := F.called_set.sub
  refine wpAny_call (codeAny_of_tree ?_)
  show wpAny _ _ (callAny (.type "set") _) _ _ _
  refine wpAny_pure ⟨Code.quiet_builtin _ (by decide +kernel), codeAny_builtin F.entry_type_call ?_⟩
  rw [Around.under_plain (weight_type_call_type "set" [.ref l] []) rfl]
  have m4 := F.called_set.notType
  have m5 := F.called_set.canCreate
  have m6 := F.typeCall_set_1 (.ref l)
  repeat (any_goals (first | assumption | wp_step))
  refine codeAny_mono (code_set_led1 (.ref l) (E := E) (Q₁ := fun obj s1 => obj = .ref s.heap.objs.size ∧ s1 = { s with heap := s.heap.push { cls := .type "set", dict := none, data := .set #[] 0 (.fresh 0 0 (!w.params.followText "set-order")) } }) ⟨rfl, rfl⟩) fun r s1 hr => ?_
  cases r with
  | error e => exact hr
  | ok fl =>
    cases fl with
    | ret obj =>
      obtain ⟨rfl, rfl⟩ := hr
      have atS : (s.heap.push { cls := .type "set", dict := none, data := .set #[] 0 (.fresh 0 0 (!w.params.followText "set-order")) }).get? s.heap.objs.size = some { cls := .type "set", dict := none, data := .set #[] 0 (.fresh 0 0 (!w.params.followText "set-order")) } := Heap.get?_push_size _ rfl
      have tyS : Shared.TypeIs { s with heap := s.heap.push { cls := .type "set", dict := none, data := .set #[] 0 (.fresh 0 0 (!w.params.followText "set-order")) } } (.ref s.heap.objs.size) "set" := ⟨_, atS, rfl⟩
      have m7 := F.called_set.init.lookup
      have m8 := F.called_set.init.bind (.ref s.heap.objs.size)
      repeat (any_goals (first | assumption | wp_step))
      refine codeAny_mono (codeAny_call_builtin (R := wants (fun r s2 => r = .none ∧ ∃ h' tk c, s2 = { s with heap := h', toks := tk } ∧ SX w h' s.heap.objs.size (fun j => j ∈ ks) c ∧ c ≤ ks.length ∧
          (∀ b o, s.heap.get? b = some o → h'.get? b = some o)) E) F.called_set.init.plain F.entry_set_init (check_set_init_1 tyS ?_)) fun r2 s2 hr2 => ?_
      · obtain ⟨ol, o1, o2, nl, o3⟩ := hl
        obtain ⟨ocls, odict, odata, oslots⟩ := ol
        simp only at o2 o3
        subst o2
        subst o3
        have at2 : (s.heap.push { cls := .type "set", dict := none, data := .set #[] 0 (.fresh 0 0 (!w.params.followText "set-order")) }).get? l = some { cls := .type "list", dict := odict, data := .seq items nl, slots := oslots } := Heap.get?_push_of_some _ o1
        have n1 := F.sub_list_set
        have n2 := F.sub_list_frozenset
        have n3 : (Value.type "list" == Value.type "dict") = false := by decide
        have isl : (s.heap.push { cls := .type "set", dict := none, data := .set #[] 0 (.fresh 0 0 (!w.params.followText "set-order")) }).IsList l items := ⟨_, at2, rfl, nl, rfl⟩
        unfold Builtin.«set.__init__» noKeywords Builtin.Frozenset.updateFrom
        generalize hPI : pyIter = PI
        wp_walk
        subst hPI
        refine wpAny_pyIter_list isl ?_
        refine wpAny_bind (wpAny_runValue ?_)
        have lS : l < s.heap.objs.size := Heap.lt_size o1
        have hh3 : A.in1.in1.in1.handled = none := by simp [hh]
        have sz1 : (s.heap.push { cls := .type "set", dict := none, data := .set #[] 0 (.fresh 0 0 (!w.params.followText "set-order")) }).objs.size = s.heap.objs.size + 1 := Heap.size_push ..
        have ne1 : l ≠ (s.heap.push { cls := .type "set", dict := none, data := .set #[] 0 (.fresh 0 0 (!w.params.followText "set-order")) }).objs.size := Nat.ne_of_lt (sz1.symm ▸ Nat.lt_succ_of_lt lS)
        have ne2 : s.heap.objs.size ∉ [(s.heap.push { cls := .type "set", dict := none, data := .set #[] 0 (.fresh 0 0 (!w.params.followText "set-order")) }).objs.size, l] := by
          rw [sz1]
          simp only [List.mem_cons, List.not_mem_nil, or_false, not_or]
          exact ⟨Nat.ne_of_lt (Nat.lt_succ_self _), Nat.ne_of_gt lS⟩
        refine sx_loop ((Walks.list hh3 _ l ne1 items).toS) s.heap.objs.size ne2 ks len few are (items.size - 0) 0 _ (by omega) (Nat.zero_le _) ⟨⟨_, Heap.get?_push_size _ rfl, rfl, rfl⟩, (isl.push _)⟩ ?one ?all
        case one => exact ⟨0, Nat.le_refl 0, sx_new (Heap.get?_push_of_some _ atS)⟩
        case all =>
          intro s3 c3 mv hc hS
          obtain ⟨h', g2, d', tk', os'⟩ := s3
          have eg : g2 = s.gens := mv.gens
          have ed : d' = s.drawn := mv.drawn
          have eo : os' = s.os := mv.os
          subst eg
          subst ed
          subst eo
          show wpAny _ _ _ _ _ _
          refine wpAny_pure ?_
          show wpAny _ _ (ret Value.none) _ _ _
          refine wpAny_pure ⟨rfl, h', tk', c3, rfl, hS, by omega, fun b o e => ?_⟩
          have lt : b < s.heap.objs.size := Heap.lt_size e
          refine mv.heap b o ?_ (Heap.get?_push_of_some _ (Heap.get?_push_of_some _ e))
          rw [sz1]
          simp only [List.mem_cons, List.not_mem_nil, or_false, not_or]
          exact ⟨Nat.ne_of_lt lt, Nat.ne_of_lt (Nat.lt_succ_of_lt lt)⟩
      · cases r2 with
        | error e => exact hr2
        | ok fl2 =>
          cases fl2 with
          | ret r =>
            obtain ⟨rfl, h', tk, c', rfl, z1, z2, z3⟩ := hr2
            repeat (any_goals (first | assumption | wp_step))
            exact fin _ _ _ z1 z2 z3
          | _ => exact hr2.elim
    | _ => exact hr.elim
/-- sorted of a set whose keys are all read as data by enc -/
theorem sx_sorted {enc : Key → PyData} {Q : Value → Shared → Prop} (R : SX w s.heap a S n) (hh : A.handled = none) (all : ∀ k v, S k → keyIs k v = true → ∃ as, ∀ h : Heap, Reads h v (enc k) as ∧ ∀ b, b ∉ as)
    (alk : ∀ k j, S k → S j → PySem.W.alike (enc k) (enc j) = true) (plain : ∀ k, S k → enc k ≠ .none ∧ ∀ xs, enc k ≠ .tuple xs) (un : A.units + 70 < cLine) (dep : ∀ k, (enc k).depth ≤ 60) (line : n ≤ sizeLine)
    (fin : ∀ s' p (out : List Value) (c : Nat) (ks : List Key), (∀ b o, s.heap.get? b = some o → s'.heap.get? b = some o) → s'.gens = s.gens → s'.os = s.os → s.heap.objs.size ≤ p →
      s'.heap.get? p = some (seqObj "list" out.toArray c) → ks.Nodup → (∀ k, k ∈ ks ↔ S k) → ks.length = n → PySem.W.EachIs (fun v k => keyIs k v = true) out (ks.mergeSort (PySem.W.dataLe false enc)) → Q (.ref p) s') :
    wpAny (model P w) A (call (.builtin "sorted") [.ref a]) Q E s := by
  obtain ⟨o, es, ep, t, ⟨q1, q2, q3⟩, ⟨k1, k2, k3⟩, ⟨few, fit, size⟩, up, led⟩ := R
  refine Calls.call_function_entry PyProof.Rows.kind_sorted PyProof.Rows.plain_sorted PyProof.Rows.entry_sorted (PyProof.Rows.args_sorted1 _) ?_
  unfold Builtin.«sorted»
  refine wpAny_bind (m := checkCount "sorted" 1 1 _) (wpAny_pure ?_)
  refine wpAny_bind (collect_set (A := A.in1) hh ⟨o, q1, q2.1, q3⟩ fit few up led fun s1 vs keep big gens os perm => ?_)
  obtain ⟨ks, p1, p2⟩ : ∃ ks : List Key, ks.Perm (es.toList.map kx) ∧ PySem.W.EachIs (fun v k => keyIs k v = true) vs ks := by
    have key : ∀ l : List Value, (∀ v ∈ l, ∃ k, keyIs k v = true) → PySem.W.EachIs (fun v k => keyIs k v = true) l (l.map fun v => kx (0, v)) := fun l => by
      induction l with
      | nil => exact fun _ => .nil
      | cons v l ih =>
        intro h
        obtain ⟨k, hk⟩ := h v List.mem_cons_self
        exact .cons (by show keyIs (kx (0, v)) v = true; rw [kx_of (e := (0, v)) hk]; exact hk) (ih fun u hu => h u (List.mem_cons_of_mem _ hu))
    refine ⟨vs.map fun v => kx (0, v), ?_, key vs fun v hv => ?_⟩
    · have z := perm.map fun v => kx (0, v)
      rw [List.map_map] at z
      exact z
    · obtain ⟨e, he, rfl⟩ := List.mem_map.mp (perm.mem_iff.mp hv)
      obtain ⟨k, g1, _⟩ := k1 e he
      exact ⟨k, g1⟩
  have inS : ∀ k, k ∈ ks ↔ S k := fun k => by rw [p1.mem_iff, ← k3 k]
  have len1 : ks.length = n := by rw [p1.length_eq, List.length_map, Array.length_toList, size]
  have len2 : vs.length = n := by rw [p2.length, len1]
  refine wpAny_bind (wpAny_newList ?_ (by rw [len2]; exact line))
  have at1 : (s1.heap.push (seqObj "list" vs.toArray 0)).get? s1.heap.objs.size = some (seqObj "list" vs.toArray 0) := Heap.get?_push_size _ rfl
  have reads : ∀ h : Heap, PySem.W.EachIs (fun v k => ∃ as, Reads h v (enc k) as ∧ s1.heap.objs.size ∉ as) vs ks := fun h => by
    have go : ∀ {l : List Value} {m : List Key}, PySem.W.EachIs (fun v k => keyIs k v = true) l m → (∀ k ∈ m, S k) → PySem.W.EachIs (fun v k => ∃ as, Reads h v (enc k) as ∧ s1.heap.objs.size ∉ as) l m := fun {l m} e => by
      induction e with
      | nil => exact fun _ => .nil
      | cons r e ih =>
        intro hS
        obtain ⟨as, ha⟩ := all _ _ (hS _ List.mem_cons_self) r
        exact .cons ⟨as, (ha h).1, (ha h).2 _⟩ (ih fun k hk => hS k (List.mem_cons_of_mem _ hk))
    exact go p2 fun k hk => (inS k).mp hk
  refine wpAny_bind (wpAny_holding (PySem.W.list_sort_data (enc := enc) (R := fun v k => keyIs k v = true) at1 p2 (reads _) (fun d hd e he => ?_) (.inr fun d hd => ?_) (by rw [len1]; exact line) (fun k hk => ?_) fun out ho each => ?_))
  · obtain ⟨k, hk, rfl⟩ := List.mem_map.mp hd
    obtain ⟨j, hj, rfl⟩ := List.mem_map.mp he
    exact alk k j ((inS k).mp hk) ((inS j).mp hj)
  · obtain ⟨k, hk, rfl⟩ := List.mem_map.mp hd
    exact plain k ((inS k).mp hk)
  · have := dep k
    show A.units + 1 + 1 + _ < cLine
    omega
  obtain ⟨c, atp⟩ := PyProof.Rows.sortedHeap_at (vs := vs) (out := out.toArray) at1
  refine wpAny_pure ⟨_, rfl, fin _ s1.heap.objs.size out c ks (fun b u e => ?_) gens os big atp (p1.nodup_iff.mpr k2) inS len1 each⟩
  have z := keep b u e
  have lt := Heap.lt_size z
  show (PyProof.Rows.sortedHeap (s1.heap.push (seqObj "list" vs.toArray 0)) s1.heap.objs.size vs out.toArray).get? b = some u
  rw [PyProof.Rows.sortedHeap_old (Nat.ne_of_lt lt) (by rw [size_push']; exact Nat.lt_succ_of_lt lt)]
  exact Heap.get?_push_of_some _ z
end
/-! rules of the hand layer for them -/
def SXO (w : World) (a : Addr) (S : Key → Prop) (n : Nat) : HO := .ext fun h => SX w h a S n
theorem sxo_new {w : World} {P : Program} {H : Hp} {h : Heap} {a : Addr} {S : Key → Prop} {n : Nat} (R : SX w h a S n) : ObjOk P w H h a (SXO w a S n) := by
  have R0 := R
  obtain ⟨o, es, ep, t, ⟨q, _⟩, _⟩ := R0
  exact ⟨R, ⟨o, q⟩, fun _ _ p k => SX.keep p k⟩
theorem vals_at : ∀ {xs : List V} {us : List Value} {i : Nat} {u : Value}, Vals xs us → us[i]? = some u → ∃ x, xs[i]? = some x ∧ RelV x u
  | _, _, 0, _, .cons r _, h => by
    cases h
    exact ⟨_, rfl, r⟩
  | _, _, i + 1, u, .cons _ t, h => vals_at (i := i) (u := u) t h
theorem vals_keys : ∀ {us : List Value} {ks : List Key}, PySem.W.EachIs (fun v k => keyIs k v = true) us ks → Vals (ks.map kV) us
  | _, _, .nil => .nil
  | _, _, .cons r t => by
    refine .cons ?_ (vals_keys t)
    rcases keyIs_shape r with ⟨i, t, rfl, rfl⟩ | ⟨x, t, rfl, rfl⟩
    · exact ⟨t, rfl⟩
    · exact ⟨t, rfl⟩
def encK : Key → PyData
  | .inl i => .int i
  | .inr x => .str x
def leK : Key → Key → Bool := PySem.W.dataLe false encK
section
variable {X : Cx}
def rSetOf (K : PySem.W.Frag) (w : World) : List V → Hp → VK → Prop := fun xs H Q => ∃ (a : Addr) (ks : List Key), xs = [.ref a] ∧ SqL K H a (ks.map kV) ∧ ks.length ≤ 4000 ∧ ∀ p c o, H p = none → c ≤ ks.length → o = SXO w p (fun j => j ∈ ks) c → Q (.ref p) (upd H p o)
theorem cr_setOf (calm : X.calm = true) : CallR X (.type "set") (rSetOf X.K X.w) := by
  intro pins s σ H vs us Q I r h
  obtain ⟨a, ks, rfl, hs, few, q⟩ := h
  obtain ⟨its, rv, hl, _⟩ := I.list hs
  rw [Vals.ref1 r]
  have len : its.toArray.size = ks.length := by
    have z := rv.length
    rw [List.length_map] at z
    rw [List.size_toArray]
    omega
  refine sx_call (A := X.A) ks (I.ok.hd calm) hl.isList len (fun i v hv => ?_) (show ks.length + 1 < 4096 by omega) fun h' tk c hS cc keep => ?_
  · rw [List.getElem?_toArray] at hv
    obtain ⟨x, h1, h2⟩ := vals_at rv hv
    rw [List.getElem?_map] at h1
    cases e : ks[i]? with
    | none => rw [e] at h1; cases h1
    | some k =>
      rw [e] at h1
      cases Option.some.inj h1
      exact ⟨k, rfl, kV_is (P := X.prog) (w := X.w) h2⟩
  · exact ⟨.ref _, upd H s.heap.objs.size (SXO X.w s.heap.objs.size (fun j => j ∈ ks) c), I.laid (t' := tk) keep (Nat.le_refl _) (sxo_new hS), rfl, q _ _ _ (I.hok.fresh (Nat.le_refl _)) cc rfl⟩
theorem sx_rule {k : Nat} (hr : Room k X.A) (calm : X.calm = true) {pins : List (Addr × Obj)} {s : Shared} {σ : L2.St} {H : Hp} {a : Addr} {S : Key → Prop} {n : Nat} {Q : VK} {E : Value → Shared → Prop} (I : Inv X pins σ H s) (ha : H a = some (SXO X.w a S n))
    (kind : (∀ k, S k → ∃ i, k = .inl i) ∨ ∀ k, S k → ∃ x, k = .inr x) (few : n ≤ 4000) (q : ∀ (ks : List Key) (p : Addr), ks.Nodup → (∀ k, k ∈ ks ↔ S k) → ks.length = n → H p = none → Q (.ref p) (upd H p (.lst ((ks.mergeSort leK).map kV)))) :
    wpAny (model X.prog X.w) X.A (call (.builtin "sorted") [.ref a]) (fun v s' => ∃ x H', Inv X pins σ H' s' ∧ RelV x v ∧ Q x H') E s := by
  have R : SX X.w s.heap a S n := (I.hok a _ ha).1
  have un := hr.un
  refine sx_sorted (enc := encK) R (I.ok.hd calm) (fun k v hk hv => ⟨[], fun h => ⟨?_, fun _ z => nomatch z⟩⟩) (fun k j hk hj => ?_) (fun k hk => ?_) (by omega) (fun k => ?_) (Nat.le_trans few (by decide)) fun s' p out c ks keep gens os hp atp nd mem len each => ?_
  · rcases keyIs_shape hv with ⟨i, t, rfl, rfl⟩ | ⟨x, t, rfl, rfl⟩
    · exact .int i t
    · exact .str x t
  · rcases kind with c | c
    · obtain ⟨i, rfl⟩ := c k hk
      obtain ⟨j, rfl⟩ := c j hj
      rfl
    · obtain ⟨i, rfl⟩ := c k hk
      obtain ⟨j, rfl⟩ := c j hj
      rfl
  · cases k <;> exact ⟨nofun, nofun⟩
  · cases k <;> exact Nat.zero_le _
  have rv := vals_keys each
  have hlen : ((ks.mergeSort leK).map kV).length ≤ sizeLine := by
    rw [List.length_map, List.length_mergeSort, len]
    exact Nat.le_trans few (by decide)
  have hn : H p = none := I.hok.fresh hp
  have J : Inv X pins σ (upd H p (.lst ((ks.mergeSort leK).map kV))) { s with heap := s'.heap, gens := s'.gens, drawn := s'.drawn, toks := s'.toks } :=
    I.call (ch := []) (Un.laid keep hp hn) (I.hok.laid keep hp ⟨hlen, out, c, rv, atp⟩) (by rw [gens]; exact I.bare) (fun _ z => nomatch z)
  have e : s' = { s with heap := s'.heap, gens := s'.gens, drawn := s'.drawn, toks := s'.toks } := by
    cases s'
    cases s
    cases os
    rfl
  rw [e]
  exact ⟨.ref p, _, J, rfl, q ks p nd mem len hn⟩
theorem keys_ints : ∀ ks : List Key, (∀ k ∈ ks, ∃ i, k = .inl i) → ∃ ns : List Int, ks = ns.map Sum.inl
  | [], _ => ⟨[], rfl⟩
  | k :: ks, h => by
    obtain ⟨i, rfl⟩ := h k List.mem_cons_self
    obtain ⟨ns, rfl⟩ := keys_ints ks fun j hj => h j (List.mem_cons_of_mem _ hj)
    exact ⟨i :: ns, rfl⟩
theorem keys_strs : ∀ ks : List Key, (∀ k ∈ ks, ∃ i, k = .inr i) → ∃ ns : List Str, ks = ns.map Sum.inr
  | [], _ => ⟨[], rfl⟩
  | k :: ks, h => by
    obtain ⟨i, rfl⟩ := h k List.mem_cons_self
    obtain ⟨ns, rfl⟩ := keys_strs ks fun j hj => h j (List.mem_cons_of_mem _ hj)
    exact ⟨i :: ns, rfl⟩
theorem nodup_of_map {α β : Type} (f : α → β) : ∀ l : List α, (l.map f).Nodup → l.Nodup
  | [], _ => List.nodup_nil
  | x :: l, h => by
    rw [List.map_cons] at h
    obtain ⟨h1, h2⟩ := List.nodup_cons.mp h
    exact List.nodup_cons.mpr ⟨fun z => h1 (List.mem_map.mpr ⟨x, z, rfl⟩), nodup_of_map f l h2⟩
/-- sorted of a set of ints -/
def rSortSI (w : World) : List V → Hp → VK → Prop := fun xs H Q => ∃ (a : Addr) (S : Key → Prop) (n : Nat) (o : HO), xs = [.ref a] ∧ H a = some o ∧ o = SXO w a S n ∧ (∀ k, S k → ∃ i, k = .inl i) ∧ n ≤ 4000 ∧
  ∀ (ns : List Int) (p : Addr), ns.Pairwise (· < ·) → (∀ i, i ∈ ns ↔ S (.inl i)) → ns.length = n → H p = none → Q (.ref p) (upd H p (.lst (ns.map V.int)))
theorem cr_sortSI {k : Nat} (hr : Room k X.A) (calm : X.calm = true) : CallR X (.builtin "sorted") (rSortSI X.w) := by
  intro pins s σ H vs us Q I r h
  obtain ⟨a, S, n, o, rfl, ha, rfl, kind, few, q⟩ := h
  rw [Vals.ref1 r]
  refine sx_rule hr calm I ha (.inl kind) few fun ks p nd mem len hp => ?_
  obtain ⟨ns, rfl⟩ := keys_ints ks fun k hk => kind k ((mem k).mp hk)
  have le : ∀ a b : Int, leK (.inl a) (.inl b) = decide (a ≤ b) := fun a b => congrFun (congrFun (PySem.W.dataLe_int (β := Int) fun x => x) a) b
  have e : (ns.map Sum.inl).mergeSort leK = (ns.mergeSort fun a b => decide (a ≤ b)).map Sum.inl := (PySem.W.sort_maps (s := leK) Sum.inl (fun a _ b _ => (le a b).symm)).symm
  rw [e, List.map_map]
  have nd2 := nodup_of_map Sum.inl ns nd
  have up := List.pairwise_mergeSort (le := fun (a b : Int) => decide (a ≤ b)) (fun a b c h1 h2 => by rw [decide_eq_true_eq] at *; omega) (fun a b => by rw [Bool.or_eq_true, decide_eq_true_eq, decide_eq_true_eq]; omega) ns
  have nd3 : (ns.mergeSort fun a b => decide (a ≤ b)).Nodup := (List.mergeSort_perm ns _).nodup_iff.mpr nd2
  refine q _ p ((up.and nd3).imp fun {a b} h => ?_) (fun i => ?_) ?_ hp
  · have h1 := of_decide_eq_true h.1
    have h2 := h.2
    omega
  · rw [List.mem_mergeSort, ← mem]
    exact ⟨fun z => List.mem_map.mpr ⟨i, z, rfl⟩, fun z => by
      obtain ⟨j, z1, z2⟩ := List.mem_map.mp z
      cases z2
      exact z1⟩
  · rw [List.length_mergeSort, ← len, List.length_map]
/-- sorted of a set of texts -/
def rSortSS (w : World) : List V → Hp → VK → Prop := fun xs H Q => ∃ (a : Addr) (S : Key → Prop) (n : Nat) (o : HO), xs = [.ref a] ∧ H a = some o ∧ o = SXO w a S n ∧ (∀ k, S k → ∃ i, k = .inr i) ∧ n ≤ 4000 ∧
  ∀ (ns : List Str) (p : Addr), ns.Pairwise sl → (∀ i, i ∈ ns ↔ S (.inr i)) → ns.length = n → H p = none → Q (.ref p) (upd H p (.lst (ns.map V.str)))
theorem cr_sortSS {k : Nat} (hr : Room k X.A) (calm : X.calm = true) : CallR X (.builtin "sorted") (rSortSS X.w) := by
  intro pins s σ H vs us Q I r h
  obtain ⟨a, S, n, o, rfl, ha, rfl, kind, few, q⟩ := h
  rw [Vals.ref1 r]
  refine sx_rule hr calm I ha (.inr kind) few fun ks p nd mem len hp => ?_
  obtain ⟨ns, rfl⟩ := keys_strs ks fun k hk => kind k ((mem k).mp hk)
  have le : ∀ a b : Str, leK (.inr a) (.inr b) = decide (a.cps.toList ≤ b.cps.toList) := fun a b => congrFun (congrFun (PySem.W.dataLe_str (β := Str) fun x => x) a) b
  have e : (ns.map Sum.inr).mergeSort leK = (ns.mergeSort fun a b => decide (a.cps.toList ≤ b.cps.toList)).map Sum.inr := (PySem.W.sort_maps (s := leK) Sum.inr (fun a _ b _ => (le a b).symm)).symm
  rw [e, List.map_map]
  have nd2 := nodup_of_map Sum.inr ns nd
  have up := List.pairwise_mergeSort (le := fun (a b : Str) => decide (a.cps.toList ≤ b.cps.toList)) (fun a b c h1 h2 => by rw [decide_eq_true_eq] at *; exact List.le_trans h1 h2) (fun a b => by rw [Bool.or_eq_true, decide_eq_true_eq, decide_eq_true_eq]; exact List.le_total _ _) ns
  have nd3 : (ns.mergeSort fun a b => decide (a.cps.toList ≤ b.cps.toList)).Nodup := (List.mergeSort_perm ns _).nodup_iff.mpr nd2
  refine q _ p ((up.and nd3).imp fun {a b} h => ?_) (fun i => ?_) ?_ hp
  · have h1 := of_decide_eq_true h.1
    rcases sl_tot a b with z | z | z
    · exact z
    · exact absurd z h.2
    · exact absurd z (List.not_lt.mpr h1)
  · rw [List.mem_mergeSort, ← mem]
    exact ⟨fun z => List.mem_map.mpr ⟨i, z, rfl⟩, fun z => by
      obtain ⟨j, z1, z2⟩ := List.mem_map.mp z
      cases z2
      exact z1⟩
  · rw [List.length_mergeSort, ← len, List.length_map]
end
/-! ### lots of runs, in lists or tuples -/
def SqB (b : Bool) (K : PySem.W.Frag) (H : Hp) (a : Addr) (xs : List V) : Prop := if b = true then SqL K H a xs else SqT K H a xs
def Ita (b : Bool) (K : PySem.W.Frag) (a : Addr) : It := if b = true then Itl K a else Itt K a
theorem SqB.sm {b : Bool} {K : PySem.W.Frag} {H H' : Hp} {a : Addr} {xs : List V} (e : Same H H') (h : SqB b K H a xs) : SqB b K H' a xs := by
  cases b
  · exact SqT.sm e h
  · exact SqL.sm e h
/-- a walk over a list or a tuple, whichever is told ahead -/
def iSeq (K : PySem.W.Frag) (tl : TE) : TI := fun σ H R => ∃ b : Bool, tl σ H fun x H1 => ∃ a, x = .ref a ∧ (∃ xs, SqB b K H1 a xs) ∧ R (Ita b K a) H1
theorem pi_seq {X : Cx} {tg l : Expr} {tl : TE} (hl : PE X l tl) : PI X tg l (iSeq X.K tl) := by
  refine ⟨fun pins s σ H R I h => ?_⟩
  obtain ⟨b, h⟩ := h
  cases b
  · exact (pi_tup hl).run pins s σ H R I h
  · exact (pi_list hl).run pins s σ H R I h
theorem walk_seq {b : Bool} {K : PySem.W.Frag} {a : Addr} {xs : List V} : Walk (Ita b K a) xs.length (fun H => SqB b K H a xs) (YAt xs) := by
  cases b
  · exact walk_tup
  · exact walk_list
def NmOk (x : Str) : Prop := x.length ≤ 8 ∧ (x.cps.toList.all fun c => decide (c < 16 ^ 8)) = true
def RnOk (r : Rn) : Prop := 0 ≤ r.2.1 ∧ r.2.1 < r.2.2 ∧ r.2.2 ≤ 1000000000
def spNames : Sp := fun vs H Q _ => ∃ (f c : Addr) (n : Int), vs = [.ref f] ∧ Fd H f c n ∧ n ≤ 900000 ∧
  ∀ (l : Addr) (xs : List Str) (H' : Hp), Fd H' f c (n + 8) → But f H H' → l ≠ f → l ≠ c → H l = none → H' l = some (.lst (xs.map V.str)) → xs.length = 4 → (∀ x ∈ xs, NmOk x) → Q (.ref l) H'
def spAt : Sp := fun vs H Q _ => ∃ (f c : Addr) (m n : Int), vs = [.ref f, .int m] ∧ Fd H f c n ∧ n ≤ 900000 ∧ 0 < m ∧ m ≤ 1000000 ∧
  ∀ (d : Int) (H' : Hp), 0 ≤ d → d ≤ 999999999 → Fd H' f c (n + 4) → But f H H' → (∀ a, H a = none → H' a = none) → Q (.int d) H'
def spRun : Sp := fun vs H Q _ => ∃ (f c l : Addr) (m n : Int) (xs : List Str), vs = [.ref f, .ref l, .int m] ∧ Fd H f c n ∧ n ≤ 800000 ∧ 0 < m ∧ m ≤ 1000000 ∧ H l = some (.lst (xs.map V.str)) ∧ l ≠ f ∧ 0 < xs.length ∧ xs.length ≤ 10 ∧
  ∀ (t : Addr) (r : Rn) (H' : Hp), Fd H' f c (n + 8) → But f H H' → H t = none → H' t = some (.tup (rnV r)) → RnOk r → r.1 ∈ xs → Q (.ref t) H'
def spLot : Sp := fun vs H Q _ => ∃ (f c l : Addr) (m k n : Int) (xs : List Str), vs = [.ref f, .ref l, .int m, .int k] ∧ Fd H f c n ∧ n ≤ 700000 ∧ 0 < m ∧ m ≤ 1000000 ∧ 2 ≤ k ∧ k ≤ 60 ∧ H l = some (.lst (xs.map V.str)) ∧ l ≠ f ∧ 0 < xs.length ∧ xs.length ≤ 10 ∧
  ∀ (t : Addr) (ps : List Addr) (rs : List Rn) (H' : Hp), Fd H' f c (n + 600) → But f H H' → t ≠ f → t ≠ c → H t = none → H' t = some (.lst (ps.map V.ref)) → Prd H' ps rs → rs.length ≤ 60 → (rs.length : Int) ≤ k → (∀ r ∈ rs, RnOk r ∧ r.1 ∈ xs) → Q (.ref t) H'
def spHas (K : PySem.W.Frag) : Sp := fun vs H Q _ => ∃ (b : Bool) (a : Addr) (s : Str) (n : Int) (ps : List Addr) (rs : List Rn), vs = [.ref a, .str s, .int n] ∧ SqB b K H a (ps.map V.ref) ∧ Prd H ps rs ∧ rs.length ≤ 1000 ∧
  ∀ H', Same H H' → Q (.bl (hasB rs s n)) H'
theorem Prd.but {H H' : Hp} {f c : Addr} {n : Int} {ps : List Addr} {rs : List Rn} (hf : Fd H f c n) (b : But f H H') (h : Prd H ps rs) : Prd H' ps rs := by
  obtain ⟨zs, hz⟩ := hf.at
  refine Prd.keep (fun p hp o e => ?_) h
  obtain ⟨r, _, e2⟩ := Prd.mem h hp
  rw [e2] at e
  cases Option.some.inj e
  exact b p _ (ne_of e2 hz (fun z => nomatch z)) e2
theorem Prd.put {H : Hp} {l : Addr} {xs : List V} {o : HO} {ps : List Addr} {rs : List Rn} (hl : H l = some (.lst xs)) (h : Prd H ps rs) : Prd (upd H l o) ps rs := by
  refine Prd.keep (fun p hp u e => ?_) h
  obtain ⟨r, _, e2⟩ := Prd.mem h hp
  rw [upd_ne (ne_of e2 hl (fun z => nomatch z))]
  exact e
theorem pick_str {xs : List Str} {d : Int} (d0 : 0 ≤ d) (d1 : d < (((xs.map V.str).length : Nat) : Int)) : ∃ s ∈ xs, atI (xs.map V.str) d = some (.str s) := by
  rw [List.length_map] at d1
  obtain ⟨k, rfl⟩ : ∃ k : Nat, d = (k : Int) := ⟨d.toNat, by omega⟩
  have hk : k < xs.length := by omega
  exact ⟨xs[k], List.getElem_mem hk, atI_nat (by rw [List.getElem?_map, List.getElem?_eq_getElem hk]; rfl)⟩
theorem pick_ref {ps : List Addr} {rs : List Rn} {H : Hp} {d : Int} (h : Prd H ps rs) (d0 : 0 ≤ d) (d1 : d < (((ps.map V.ref).length : Nat) : Int)) : ∃ p, ∃ r ∈ rs, atI (ps.map V.ref) d = some (.ref p) ∧ H p = some (.tup (rnV r)) := by
  rw [List.length_map] at d1
  obtain ⟨k, rfl⟩ : ∃ k : Nat, d = (k : Int) := ⟨d.toNat, by omega⟩
  have hk : k < ps.length := by omega
  obtain ⟨r, h1, h2⟩ := Prd.get h (List.getElem?_eq_getElem hk)
  exact ⟨ps[k], r, List.mem_of_getElem? h1, atI_nat (by rw [List.getElem?_map, List.getElem?_eq_getElem hk]; rfl), h2⟩
theorem mulk_ok (ch : Nat) (d : Int) (h0 : 0 ≤ d) (h1 : d < 100) : MulOk ⟨#[ch]⟩ d := by
  refine ⟨?_, fun _ hd => ?_, fun _ _ => ?_⟩
  · simp only [Bool.or_eq_false_iff, decide_eq_false_iff_not]
    constructor <;> omega
  · have e : (⟨#[ch]⟩ : Str).length = 1 := rfl
    rw [e]
    by_cases z : d = 0
    · subst z
      first | omega | simp_all
    · have : (1 : Int) ≤ (2 ^ 63 - 1) / d := by
        rw [Int.le_ediv_iff_mul_le (by omega)]
        omega
      omega
  · have e : (⟨#[ch]⟩ : Str).length = 1 := rfl
    rw [e, Nat.one_mul]
    unfold Builtin.Str.tooLong
    rw [decide_eq_false_iff_not, sizeLine_eq]
    omega
theorem mulk_nm {ch : Nat} (d : Int) (h : ch < 16 ^ 8) (h1 : d ≤ 8) : NmOk (Txt.mul ⟨#[ch]⟩ d) := ⟨len_mul_one rfl h1, mul_chr d h⟩
theorem nm_app {a b : Str} {n m : Nat} (ha : a.length ≤ n ∧ (a.cps.toList.all fun c => decide (c < 16 ^ 8)) = true) (hb : b.length ≤ m ∧ (b.cps.toList.all fun c => decide (c < 16 ^ 8)) = true) (h : n + m ≤ 8) : NmOk (a ++ b) := by
  refine ⟨?_, ?_⟩
  · rw [strLen_append]
    omega
  · have e : (a ++ b).cps.toList = a.cps.toList ++ b.cps.toList := Array.toList_append
    rw [e, List.all_append, ha.2, hb.2]
    rfl
theorem nm_sign {ch : Nat} (h : ch < 16 ^ 8) : (⟨#[ch]⟩ : Str).length ≤ 1 ∧ ((⟨#[ch]⟩ : Str).cps.toList.all fun c => decide (c < 16 ^ 8)) = true := ⟨Nat.le_refl 1, by simp [h]⟩
theorem cut_tail (xs : List V) : cutV xs (some 1) none = xs.tail := by
  have e : HT.sIx xs.length 0 (some ((1 : Nat) : Int)) = min 1 xs.length := HT.sIx_nat _ _ _
  have e : HT.sIx xs.length 0 (some 1) = min 1 xs.length := e
  unfold cutV
  rw [e, HT.sIx_none]
  cases xs with
  | nil => rfl
  | cons x r =>
    have z : min 1 (x :: r).length = 1 := by rw [List.length_cons]; omega
    rw [z, List.length_cons]
    show r.take (r.length + 1 - 1) = r
    rw [Nat.add_sub_cancel, List.take_length]
/-- a lot of runs, in a list (b) or a tuple -/
structure Lt where
  b : Bool
  a : Addr
  ps : List Addr
  rs : List Rn
def LtAt (K : PySem.W.Frag) (H : Hp) (x : Lt) : Prop := SqB x.b K H x.a (x.ps.map V.ref) ∧ Prd H x.ps x.rs ∧ x.rs.length ≤ 200
theorem LtAt.same {K : PySem.W.Frag} {H H' : Hp} {x : Lt} (s : Same H H') (h : LtAt K H x) : LtAt K H' x := ⟨SqB.sm s h.1, Prd.same s h.2.1, h.2.2⟩
def allR (ls : List Lt) : List Rn := ls.flatMap fun x => x.rs
theorem allR_more {ls : List Lt} {i : Nat} {x : Lt} (h : ls[i]? = some x) : allR (ls.take (i + 1)) = allR (ls.take i) ++ x.rs := by
  obtain ⟨hi, e⟩ := List.getElem?_eq_some_iff.mp h
  unfold allR
  rw [List.take_succ_eq_append_getElem hi, List.flatMap_append, e, List.flatMap_singleton]
theorem allR_len {K : PySem.W.Frag} {H : Hp} : ∀ {ls : List Lt}, (∀ x ∈ ls, LtAt K H x) → (allR ls).length ≤ 200 * ls.length
  | [], _ => Nat.le_refl _
  | x :: ls, h => by
    have z := allR_len (ls := ls) fun y hy => h y (List.mem_cons_of_mem _ hy)
    have y := (h x List.mem_cons_self).2.2
    unfold allR at *
    rw [List.flatMap_cons, List.length_append, List.length_cons]
    omega
def endsOf (rs : List Rn) : List Int := rs.flatMap fun r => [r.2.1, r.2.2]
theorem endsOf_app (a b : List Rn) : endsOf (a ++ b) = endsOf a ++ endsOf b := List.flatMap_append
theorem endsOf_len : ∀ rs : List Rn, (endsOf rs).length = 2 * rs.length
  | [] => rfl
  | r :: rs => by
    have z := endsOf_len rs
    unfold endsOf at *
    rw [List.flatMap_cons, List.length_append, z, List.length_cons (as := rs)]
    show 2 + 2 * rs.length = 2 * (rs.length + 1)
    omega
theorem ends_of {rs : List Rn} {ns : List Str} {cs : List Int} (h1 : ∀ s, s ∈ ns ↔ s ∈ rs.map (·.1)) (h2 : ∀ i, i ∈ cs ↔ i ∈ endsOf rs) : Ends rs ns cs := fun r hr => by
  refine ⟨(h1 _).mpr (List.mem_map.mpr ⟨r, hr, rfl⟩), (h2 _).mpr ?_, (h2 _).mpr ?_⟩
  · exact List.mem_flatMap.mpr ⟨r, hr, List.mem_cons_self⟩
  · exact List.mem_flatMap.mpr ⟨r, hr, List.mem_cons_of_mem _ List.mem_cons_self⟩
theorem hasB_all (ls : List Lt) (s : Str) (n : Int) : ((ls.map fun x => hasB x.rs s n).any _root_.id) = hasB (allR ls) s n := by
  unfold hasB allR
  rw [List.any_flatMap, List.any_map]
  rfl
theorem goods_more {P : Str → Int → Bool} {s : Str} {ps : List (Int × Int)} {j : Nat} {p : Int × Int} (h : ps[j]? = some p) : goods P s (ps.take (j + 1)) = goods P s (ps.take j) ++ if P s p.1 = true then [(s, p.1, p.2)] else [] := by
  obtain ⟨hj, e⟩ := List.getElem?_eq_some_iff.mp h
  unfold goods
  rw [List.take_succ_eq_append_getElem hj, List.filter_append, List.map_append, e]
  congr 1
  cases hP : P s p.1 <;> simp [hP]
theorem goods_len {P : Str → Int → Bool} {s : Str} (ps : List (Int × Int)) : (goods P s ps).length ≤ ps.length := by
  unfold goods
  rw [List.length_map]
  exact List.length_filter_le _ _
theorem join_len (acc : List Rn) (r : Rn) : (join acc r).length ≤ acc.length + 1 := by
  rcases nil_or_snoc acc with rfl | ⟨i, l, rfl⟩
  · exact Nat.le_refl _
  · rw [join_snoc]
    split
    · rw [List.length_append, List.length_append, List.length_singleton, List.length_singleton]
      omega
    · rw [List.length_append, List.length_append, List.length_singleton, List.length_singleton]
      omega
theorem fold_join_len : ∀ (l acc : List Rn), (l.foldl join acc).length ≤ acc.length + l.length
  | [], acc => Nat.le_refl _
  | r :: l, acc => by
    have z := fold_join_len l (join acc r)
    have y := join_len acc r
    rw [List.foldl_cons, List.length_cons]
    omega
theorem flat_goods_len {P : Str → Int → Bool} (ps : List (Int × Int)) : ∀ ss : List Str, (ss.flatMap fun s => goods P s ps).length ≤ ss.length * ps.length
  | [] => Nat.zero_le _
  | s :: ss => by
    have z := flat_goods_len (P := P) ps ss
    have y := goods_len (P := P) (s := s) ps
    rw [List.flatMap_cons, List.length_append, List.length_cons, Nat.succ_mul]
    omega
theorem pcs_get {cs : List Int} {j : Nat} {x y : Int} (hx : cs[j]? = some x) (hy : cs.tail[j]? = some y) : (pcs cs)[j]? = some (x, y) := by
  unfold pcs
  rw [List.getElem?_zip_eq_some]
  exact ⟨hx, hy⟩
def spMade (K : PySem.W.Frag) : Sp := fun vs H Q _ => ∃ (l : Addr) (ls : List Lt), vs = [.ref l, .str (("some" : String) : Str)] ∧ SqL K H l (ls.map fun x => V.ref x.a) ∧ (∀ x ∈ ls, LtAt K H x) ∧ 0 < ls.length ∧ ls.length ≤ 3 ∧ Full (allR ls) ∧
  ∀ (t : Addr) (qs : List Addr) (H' : Hp), Same H H' → H t = none → H' t = some (.tup (qs.map V.ref)) → Prd H' qs (runsOf (allR ls)) → Q (.ref t) H'
def dictM (a b c : Bool) : List (Key × V) := [(Sum.inr (("some" : String) : Str), .bl a), (Sum.inr (("all" : String) : Str), .bl b), (Sum.inr (("first" : String) : Str), .bl c)]
theorem rn_fine {r : Rn} (h1 : RnOk r) (h2 : NmOk r.1) : fineD (rnD r) = true ∧ cost (rnD r) ≤ 5000 := by
  obtain ⟨a, b, c⟩ := h1
  refine ⟨?_, ?_⟩
  · show (fineD (.str r.1) && (fineD (.int r.2.1) && (fineD (.int r.2.2) && true))) = true
    have e : fineD (.str r.1) = true := h2.2
    rw [e, int_fine (by omega) (by omega), int_fine (by omega) (by omega)]
    rfl
  · have := h2.1
    simp only [rnD, Pn.cost, costAll]
    omega
theorem rns_fine : ∀ rs : List Rn, (∀ r ∈ rs, RnOk r ∧ NmOk r.1) → fineAll (rs.map rnD) = true ∧ costAll (rs.map rnD) ≤ 5002 * rs.length
  | [], _ => ⟨rfl, Nat.le_refl _⟩
  | r :: rs, h => by
    obtain ⟨z1, z2⟩ := rns_fine rs fun x hx => h x (List.mem_cons_of_mem _ hx)
    obtain ⟨y1, y2⟩ := rn_fine (h r List.mem_cons_self).1 (h r List.mem_cons_self).2
    refine ⟨?_, ?_⟩
    · rw [List.map_cons]
      unfold fineAll
      rw [y1, z1]
      rfl
    · rw [List.map_cons, List.length_cons]
      unfold costAll
      omega
theorem rns_depth (rs : List Rn) : PyData.depthAll (rs.map rnD) ≤ 2 := by
  induction rs with
  | nil => simp [PyData.depthAll]
  | cons r l ih =>
    rw [List.map_cons]
    simp only [PyData.depthAll, rnD, PyData.depth] at *
    omega
def lotD (rs : List Rn) : PyData := .list (rs.map rnD)
theorem lot_show {rs : List Rn} (h : ∀ r ∈ rs, RnOk r ∧ NmOk r.1) (hl : rs.length ≤ 60) : (lotD rs).showable = true ∧ (lotD rs).hasDict = false ∧ (lotD rs).depth ≤ 60 ∧ (lotD rs).shown.length ≤ sizeLine := by
  obtain ⟨z1, z2⟩ := rns_fine rs h
  have f : fineD (lotD rs) = true := z1
  have c := shown_cost _ f
  have e : cost (lotD rs) = costAll (rs.map rnD) + 3 := rfl
  have d := rns_depth rs
  obtain ⟨s1, s2⟩ := fine_show _ f
  refine ⟨s1, s2, ?_, Nat.le_trans c (Nat.le_trans (show _ ≤ 1000000 by omega) (by decide))⟩
  simp only [lotD, PyData.depth]
  omega
theorem lot_dp {K : PySem.W.Frag} {H : Hp} {t : Addr} {ps : List Addr} {rs : List Rn} (h : H t = some (.lst (ps.map V.ref))) (hp : Prd H ps rs) : Dp K H (.ref t) (lotD rs) := .lst (SqL.of h) (Prd.dp hp)
theorem Prd.rev {H : Hp} : ∀ {ps : List Addr} {rs : List Rn}, Prd H ps rs → Prd H ps.reverse rs.reverse
  | _, _, .nil => .nil
  | _, _, .cons a b => by
    rw [List.reverse_cons, List.reverse_cons]
    exact Prd.app (Prd.rev b) (Prd.one a)
theorem Prd.take {H : Hp} : ∀ {ps : List Addr} {rs : List Rn} (n : Nat), Prd H ps rs → Prd H (ps.take n) (rs.take n)
  | _, _, 0, _ => .nil
  | _, _, _ + 1, .nil => .nil
  | _, _, n + 1, .cons a b => .cons a (Prd.take n b)
theorem one_lot {K : PySem.W.Frag} {H : Hp} {x : Lt} (h : LtAt K H x) : ∀ y ∈ [x], LtAt K H y := fun y hy => by
  rw [List.mem_singleton.mp hy]
  exact h
theorem all_one (x : Lt) : allR [x] = x.rs := List.flatMap_singleton ..
theorem Nice.up : ∀ {n : Nat} {d : PyData}, Nice n d → Nice (n + 1) d
  | 0, _, h => Or.inl h
  | n + 1, _, h => by
    rcases h with h | ⟨ds, h1, h2, h3⟩
    · exact Or.inl h
    · exact Or.inr ⟨ds, h1, h2, fun e he => Nice.up (h3 e he)⟩
/-! ### both, less: pure, and what they have -/
/-- (a, i) ≤ (b, j) as Python has it -/
def lexLe (a : Str) (i : Int) (b : Str) (j : Int) : Bool := !PySem.W.dataLt (.tuple [.str b, .int j]) (.tuple [.str a, .int i])
theorem lexLe_iff (a : Str) (i : Int) (b : Str) (j : Int) : lexLe a i b j = true ↔ sl a b ∨ (a = b ∧ i ≤ j) := by
  unfold lexLe
  rw [PySem.W.dataLt_pair (by simp [PySem.W.alike]) (by simp [PySem.W.alike]), PySem.W.dataLt_str, PySem.W.dataLt_int]
  simp only [PyData.eqv, beq_iff_eq]
  by_cases e : b = a
  · subst e
    rw [if_pos rfl]
    by_cases e2 : j = i
    · subst e2
      rw [if_pos rfl]
      exact ⟨fun _ => .inr ⟨rfl, Int.le_refl _⟩, fun _ => rfl⟩
    · rw [if_neg e2, Bool.not_eq_true', decide_eq_false_iff_not]
      constructor
      · intro h
        exact .inr ⟨rfl, by omega⟩
      · rintro (h | ⟨_, h⟩)
        · exact (sl_irr _ h).elim
        · omega
  · rw [if_neg e, Bool.not_eq_true', decide_eq_false_iff_not]
    constructor
    · intro h
      rcases sl_tot a b with z | z | z
      · exact .inl z
      · exact absurd z.symm e
      · exact absurd z h
    · rintro (h | ⟨h, _⟩) z
      · exact sl_as h z
      · exact e h.symm
theorem lexLe_not {a : Str} {i : Int} {b : Str} {j : Int} (h : ¬ lexLe a i b j = true) : sl b a ∨ (a = b ∧ j < i) := by
  rw [lexLe_iff] at h
  rcases sl_tot a b with z | z | z
  · exact absurd (.inl z) h
  · exact .inr ⟨z, Int.not_le.mp fun k => h (.inr ⟨z, k⟩)⟩
  · exact .inl z
def mx (a b : Int) : Int := if b > a then b else a
def mn (a b : Int) : Int := if b < a then b else a
theorem mx_is (a b : Int) : (mx a b = a ∧ b ≤ a) ∨ (mx a b = b ∧ a ≤ b) := by
  unfold mx
  split <;> omega
theorem mn_is (a b : Int) : (mn a b = a ∧ a ≤ b) ∨ (mn a b = b ∧ b ≤ a) := by
  unfold mn
  split <;> omega
def meet (x y : Rn) : List Rn := if x.1 = y.1 ∧ mx x.2.1 y.2.1 < mn x.2.2 y.2.2 then [(x.1, mx x.2.1 y.2.1, mn x.2.2 y.2.2)] else []
def bothL : List Rn → List Rn → List Rn
  | x :: a, y :: b => meet x y ++ if lexLe x.1 x.2.2 y.1 y.2.2 = true then bothL a (y :: b) else bothL (x :: a) b
  | [], _ => []
  | _ :: _, [] => []
termination_by a b => a.length + b.length
theorem both_cons (x : Rn) (a : List Rn) (y : Rn) (b : List Rn) : bothL (x :: a) (y :: b) = meet x y ++ if lexLe x.1 x.2.2 y.1 y.2.2 = true then bothL a (y :: b) else bothL (x :: a) b := by
  rw [bothL]
theorem both_nil (b : List Rn) : bothL [] b = [] := by rw [bothL]
theorem both_nil2 (a : List Rn) : bothL a [] = [] := by cases a <;> rw [bothL]
theorem meet_in {x y r : Rn} : r ∈ meet x y ↔ x.1 = y.1 ∧ r.1 = x.1 ∧ r.2.1 = mx x.2.1 y.2.1 ∧ r.2.2 = mn x.2.2 y.2.2 ∧ r.2.1 < r.2.2 := by
  unfold meet
  split
  · rename_i h
    rw [List.mem_singleton]
    constructor
    · rintro rfl
      exact ⟨h.1, rfl, rfl, rfl, h.2⟩
    · rintro ⟨_, h1, h2, h3, _⟩
      exact Prod.ext h1 (Prod.ext h2 h3)
  · rename_i h
    refine ⟨fun z => (nomatch z), ?_⟩
    rintro ⟨h0, h1, h2, h3, h4⟩
    exact (h ⟨h0, by omega⟩).elim
theorem both_in : ∀ (a b : List Rn) (r : Rn), r ∈ bothL a b → ∃ u ∈ a, ∃ v ∈ b, r ∈ meet u v
  | [], b, r, h => by rw [both_nil] at h; exact nomatch h
  | x :: a, [], r, h => by rw [both_nil2] at h; exact nomatch h
  | x :: a, y :: b, r, h => by
    rw [both_cons] at h
    rcases List.mem_append.mp h with h | h
    · exact ⟨x, List.mem_cons_self, y, List.mem_cons_self, h⟩
    · split at h
      · obtain ⟨u, hu, v, hv, z⟩ := both_in a (y :: b) r h
        exact ⟨u, List.mem_cons_of_mem _ hu, v, hv, z⟩
      · obtain ⟨u, hu, v, hv, z⟩ := both_in (x :: a) b r h
        exact ⟨u, hu, v, List.mem_cons_of_mem _ hv, z⟩
termination_by a b => a.length + b.length
theorem meet_apart {x y u v r s : Rn} (hr : r ∈ meet x y) (hs : s ∈ meet u v) (h : apart x u = true ∨ apart y v = true) : apart r s = true := by
  obtain ⟨r0, r1, r2, r3, r4⟩ := meet_in.mp hr
  obtain ⟨s0, s1, s2, s3, s4⟩ := meet_in.mp hs
  have m1 := mx_is u.2.1 v.2.1
  have m2 := mn_is x.2.2 y.2.2
  rw [apart_iff]
  rcases h with h | h
  · rcases (apart_iff _ _).mp h with ⟨e, k⟩ | k
    · exact .inl ⟨r1.trans (e.trans s1.symm), by omega⟩
    · exact .inr (by rw [r1, s1]; exact k)
  · rcases (apart_iff _ _).mp h with ⟨e, k⟩ | k
    · exact .inl ⟨r1.trans (r0.trans (e.trans (s0.symm.trans s1.symm))), by omega⟩
    · exact .inr (by rw [r1, s1, r0, s0]; exact k)
theorem has_one {r : Rn} {l : List Rn} {s : Str} {n : Int} (h : r ∈ l) (k : r.1 = s ∧ r.2.1 ≤ n ∧ n < r.2.2) : has l s n := ⟨r, h, k⟩
theorem meet_has (x y : Rn) (s : Str) (n : Int) : has (meet x y) s n ↔ (x.1 = s ∧ x.2.1 ≤ n ∧ n < x.2.2) ∧ (y.1 = s ∧ y.2.1 ≤ n ∧ n < y.2.2) := by
  have m1 := mx_is x.2.1 y.2.1
  have m2 := mn_is x.2.2 y.2.2
  constructor
  · rintro ⟨r, h, k1, k2, k3⟩
    obtain ⟨r0, r1, r2, r3, r4⟩ := meet_in.mp h
    exact ⟨⟨r1.symm.trans k1, by omega, by omega⟩, ⟨r0.symm.trans (r1.symm.trans k1), by omega, by omega⟩⟩
  · rintro ⟨⟨k1, k2, k3⟩, ⟨j1, j2, j3⟩⟩
    exact ⟨(x.1, mx x.2.1 y.2.1, mn x.2.2 y.2.2), meet_in.mpr ⟨k1.trans j1.symm, rfl, rfl, rfl, by show mx _ _ < mn _ _; omega⟩, k1, by show mx _ _ ≤ n; omega, by show n < mn _ _; omega⟩
theorem both_ok : ∀ (a b : List Rn), Canon a → Canon b → Canon (bothL a b) ∧ ∀ s n, has (bothL a b) s n ↔ has a s n ∧ has b s n
  | [], b, _, _ => by
    rw [both_nil]
    exact ⟨canon_nil, fun s n => ⟨fun h => (has_nil _ _ h).elim, fun h => (has_nil _ _ h.1).elim⟩⟩
  | x :: a, [], _, _ => by
    rw [both_nil2]
    exact ⟨canon_nil, fun s n => ⟨fun h => (has_nil _ _ h).elim, fun h => (has_nil _ _ h.2).elim⟩⟩
  | x :: a, y :: b, ha, hb => by
    rw [both_cons]
    by_cases c : lexLe x.1 x.2.2 y.1 y.2.2 = true
    · rw [if_pos c]
      obtain ⟨i1, i2⟩ := both_ok a (y :: b) ha.tail hb
      rw [lexLe_iff] at c
      refine ⟨⟨List.pairwise_append.mpr ⟨?_, i1.1, fun r hr t ht => ?_⟩, fun r hr => ?_⟩, fun s n => ?_⟩
      · unfold meet
        split
        · exact List.pairwise_singleton _ _
        · exact .nil
      · obtain ⟨u, hu, v, hv, z⟩ := both_in _ _ _ ht
        exact meet_apart hr z (.inl ((List.pairwise_cons.mp ha.1).1 u hu))
      · rcases List.mem_append.mp hr with hr | hr
        · exact (meet_in.mp hr).2.2.2.2
        · exact i1.2 r hr
      · rw [has_app, i2, meet_has, has_cons x a, has_cons y b]
        constructor
        · rintro (⟨h1, h2⟩ | ⟨h1, h2⟩)
          · exact ⟨.inl h1, .inl h2⟩
          · exact ⟨.inr h1, h2⟩
        · rintro ⟨h1 | h1, h2⟩
          · rcases h2 with h2 | h2
            · exact .inl ⟨h1, h2⟩
            · exfalso
              rcases canon_first hb h2 with ⟨e, k⟩ | k
              · rcases c with c | ⟨c1, c2⟩
                · rw [h1.1, e] at c
                  exact sl_irr _ c
                · omega
              · rcases c with c | ⟨c1, c2⟩
                · exact sl_as c (h1.1 ▸ k)
                · rw [← c1, h1.1] at k
                  exact sl_irr _ k
          · exact .inr ⟨h1, h2⟩
    · rw [if_neg c]
      obtain ⟨i1, i2⟩ := both_ok (x :: a) b ha hb.tail
      have c := lexLe_not c
      refine ⟨⟨List.pairwise_append.mpr ⟨?_, i1.1, fun r hr t ht => ?_⟩, fun r hr => ?_⟩, fun s n => ?_⟩
      · unfold meet
        split
        · exact List.pairwise_singleton _ _
        · exact .nil
      · obtain ⟨u, hu, v, hv, z⟩ := both_in _ _ _ ht
        exact meet_apart hr z (.inr ((List.pairwise_cons.mp hb.1).1 v hv))
      · rcases List.mem_append.mp hr with hr | hr
        · exact (meet_in.mp hr).2.2.2.2
        · exact i1.2 r hr
      · rw [has_app, i2, meet_has, has_cons x a, has_cons y b]
        constructor
        · rintro (⟨h1, h2⟩ | ⟨h1, h2⟩)
          · exact ⟨.inl h1, .inl h2⟩
          · exact ⟨h1, .inr h2⟩
        · rintro ⟨h1, h2 | h2⟩
          · rcases h1 with h1 | h1
            · exact .inl ⟨h1, h2⟩
            · exfalso
              rcases canon_first ha h1 with ⟨e, k⟩ | k
              · rcases c with c | ⟨c1, c2⟩
                · rw [h2.1, e] at c
                  exact sl_irr _ c
                · omega
              · rcases c with c | ⟨c1, c2⟩
                · exact sl_as c (h2.1 ▸ k)
                · rw [c1, h2.1] at k
                  exact sl_irr _ k
          · exact .inr ⟨h1, h2⟩
termination_by a b => a.length + b.length
/-! less -/
def tailL (s : Str) (lo hi : Int) : List Rn := if lo < hi then [(s, lo, hi)] else []
def leftL (s : Str) (hi : Int) : Int → List Rn → List Rn
  | lo, [] => tailL s lo hi
  | lo, o :: os => if o.1 = s ∧ o.2.1 < hi then tailL s lo o.2.1 ++ leftL s hi o.2.2 os else tailL s lo hi
def skipL (s : Str) (lo : Int) (b : List Rn) : List Rn := b.dropWhile fun o => lexLe o.1 o.2.2 s lo
def lessL : List Rn → List Rn → List Rn
  | [], _ => []
  | x :: a, b => leftL x.1 x.2.2 x.2.1 (skipL x.1 x.2.1 b) ++ lessL a (skipL x.1 x.2.1 b)
theorem tail_in {s : Str} {lo hi : Int} {r : Rn} : r ∈ tailL s lo hi ↔ r = (s, lo, hi) ∧ lo < hi := by
  unfold tailL
  split
  · rename_i h
    rw [List.mem_singleton]
    exact ⟨fun z => ⟨z, h⟩, fun z => z.1⟩
  · rename_i h
    exact ⟨fun z => (nomatch z), fun z => (h z.2).elim⟩
theorem tail_has (s : Str) (lo hi : Int) (t : Str) (n : Int) : has (tailL s lo hi) t n ↔ t = s ∧ lo ≤ n ∧ n < hi := by
  constructor
  · rintro ⟨r, h, k1, k2, k3⟩
    obtain ⟨rfl, h2⟩ := tail_in.mp h
    exact ⟨k1.symm, k2, k3⟩
  · rintro ⟨rfl, k2, k3⟩
    exact ⟨(t, lo, hi), tail_in.mpr ⟨rfl, by omega⟩, rfl, k2, k3⟩
/-- what stands first isn't all ahead of it -/
def Ahd (s : Str) (lo : Int) (b : List Rn) : Prop := ∀ o os, b = o :: os → sl s o.1 ∨ (o.1 = s ∧ lo < o.2.2)
theorem left_ok : ∀ (b : List Rn) (s : Str) (lo hi : Int), Canon b → Ahd s lo b →
    ((leftL s hi lo b).Pairwise (fun a b => apart a b = true) ∧ ∀ r ∈ leftL s hi lo b, r.1 = s ∧ lo ≤ r.2.1 ∧ r.2.1 < r.2.2 ∧ r.2.2 ≤ hi) ∧ ∀ t n, has (leftL s hi lo b) t n ↔ t = s ∧ lo ≤ n ∧ n < hi ∧ ¬ has b t n
  | [], s, lo, hi, _, _ => by
    refine ⟨⟨?_, fun r hr => ?_⟩, fun t n => ?_⟩
    · show (tailL s lo hi).Pairwise _
      unfold tailL
      split
      · exact List.pairwise_singleton _ _
      · exact .nil
    · obtain ⟨rfl, h⟩ := tail_in.mp hr
      exact ⟨rfl, Int.le_refl _, h, Int.le_refl _⟩
    · show has (tailL s lo hi) t n ↔ _
      rw [tail_has]
      exact ⟨fun ⟨h1, h2, h3⟩ => ⟨h1, h2, h3, has_nil _ _⟩, fun ⟨h1, h2, h3, _⟩ => ⟨h1, h2, h3⟩⟩
  | o :: os, s, lo, hi, hb, hh => by
    have fo := hb.2 o List.mem_cons_self
    unfold leftL
    by_cases c : o.1 = s ∧ o.2.1 < hi
    · rw [if_pos c]
      have lo2 : lo < o.2.2 := by
        rcases hh o os rfl with z | z
        · exact (sl_irr _ (c.1 ▸ z)).elim
        · exact z.2
      obtain ⟨⟨i1, i2⟩, i3⟩ := left_ok os s o.2.2 hi hb.tail (fun p ps e => by
        subst e
        rcases (apart_iff _ _).mp ((List.pairwise_cons.mp hb.1).1 p List.mem_cons_self) with ⟨e, k⟩ | k
        · have := hb.2 p (List.mem_cons_of_mem _ List.mem_cons_self)
          exact .inr ⟨e.symm.trans c.1, by omega⟩
        · exact .inl (c.1 ▸ k))
      refine ⟨⟨List.pairwise_append.mpr ⟨?_, i1, fun x hx y hy => ?_⟩, fun r hr => ?_⟩, fun t n => ?_⟩
      · unfold tailL
        split
        · exact List.pairwise_singleton _ _
        · exact .nil
      · obtain ⟨rfl, h⟩ := tail_in.mp hx
        obtain ⟨j1, j2, j3, j4⟩ := i2 y hy
        rw [apart_iff]
        exact .inl ⟨j1.symm, show o.2.1 < y.2.1 by omega⟩
      · rcases List.mem_append.mp hr with hr | hr
        · obtain ⟨rfl, h⟩ := tail_in.mp hr
          exact ⟨rfl, Int.le_refl _, h, show o.2.1 ≤ hi by omega⟩
        · obtain ⟨j1, j2, j3, j4⟩ := i2 r hr
          exact ⟨j1, by omega, j3, j4⟩
      · rw [has_app, tail_has, i3, has_cons]
        constructor
        · rintro (⟨h1, h2, h3⟩ | ⟨h1, h2, h3, h4⟩)
          · refine ⟨h1, h2, by omega, ?_⟩
            rintro (z | z)
            · omega
            · rcases canon_first hb z with ⟨_, z⟩ | z
              · omega
              · rw [c.1, h1] at z
                exact sl_irr _ z
          · refine ⟨h1, by omega, h3, ?_⟩
            rintro (z | z)
            · omega
            · exact h4 z
        · rintro ⟨h1, h2, h3, h4⟩
          by_cases d : n < o.2.1
          · exact .inl ⟨h1, h2, d⟩
          · refine .inr ⟨h1, ?_, h3, fun z => h4 (.inr z)⟩
            by_cases d2 : n < o.2.2
            · exact (h4 (.inl ⟨c.1.trans h1.symm, by omega, d2⟩)).elim
            · omega
    · rw [if_neg c]
      refine ⟨⟨?_, fun r hr => ?_⟩, fun t n => ?_⟩
      · unfold tailL
        split
        · exact List.pairwise_singleton _ _
        · exact .nil
      · obtain ⟨rfl, h⟩ := tail_in.mp hr
        exact ⟨rfl, Int.le_refl _, h, Int.le_refl _⟩
      · rw [tail_has]
        refine ⟨fun ⟨h1, h2, h3⟩ => ⟨h1, h2, h3, fun z => ?_⟩, fun ⟨h1, h2, h3, _⟩ => ⟨h1, h2, h3⟩⟩
        subst h1
        rcases hh o os rfl with k | ⟨k1, k2⟩
        · rcases (has_cons _ _ _ _).mp z with z | z
          · rw [z.1] at k
            exact sl_irr _ k
          · rcases canon_first hb z with ⟨e, _⟩ | z
            · rw [e] at k
              exact sl_irr _ k
            · exact sl_as k z
        · have k3 : hi ≤ o.2.1 := Int.not_lt.mp fun z => c ⟨k1, z⟩
          rcases (has_cons _ _ _ _).mp z with z | z
          · omega
          · rcases canon_first hb z with ⟨_, z⟩ | z
            · omega
            · rw [k1] at z
              exact sl_irr _ z
theorem canon_drop {b : List Rn} (h : Canon b) (f : Rn → Bool) : Canon (b.dropWhile f) := by
  have z := List.dropWhile_suffix f (l := b)
  exact ⟨h.1.sublist z.sublist, fun r hr => h.2 r (z.subset hr)⟩
theorem skip_ahd (s : Str) (lo : Int) (b : List Rn) : Ahd s lo (skipL s lo b) := fun o os e => by
  have z := List.head?_dropWhile_not (fun o : Rn => lexLe o.1 o.2.2 s lo) b
  unfold skipL at e
  rw [e] at z
  have z : lexLe o.1 o.2.2 s lo = false := z
  exact lexLe_not (by rw [z]; decide)
theorem skip_has : ∀ (b : List Rn) (s : Str) (lo : Int) (t : Str) (n : Int), ((t = s ∧ lo ≤ n) ∨ sl s t) → (has (skipL s lo b) t n ↔ has b t n)
  | [], _, _, _, _, _ => Iff.rfl
  | o :: b, s, lo, t, n, h => by
    unfold skipL
    rw [List.dropWhile_cons]
    split
    · rename_i c
      rw [lexLe_iff] at c
      refine (skip_has b s lo t n h).trans ?_
      rw [has_cons]
      refine ⟨.inr, ?_⟩
      rintro (⟨k1, k2, k3⟩ | k)
      · exfalso
        rcases c with c | ⟨c1, c2⟩ <;> rcases h with ⟨h1, h2⟩ | h
        · rw [k1, h1] at c
          exact sl_irr _ c
        · exact sl_as (k1 ▸ c) h
        · omega
        · rw [← c1, k1] at h
          exact sl_irr _ h
      · exact k
    · exact Iff.rfl
theorem less_ok : ∀ (a b : List Rn), Canon a → Canon b → Canon (lessL a b) ∧ (∀ r ∈ lessL a b, ∃ u ∈ a, r.1 = u.1 ∧ u.2.1 ≤ r.2.1 ∧ r.2.2 ≤ u.2.2) ∧ ∀ s n, has (lessL a b) s n ↔ has a s n ∧ ¬ has b s n
  | [], b, _, _ => ⟨canon_nil, fun _ h => (nomatch h), fun s n => ⟨fun h => (has_nil _ _ h).elim, fun h => (has_nil _ _ h.1).elim⟩⟩
  | x :: a, b, ha, hb => by
    unfold lessL
    have hb2 : Canon (skipL x.1 x.2.1 b) := canon_drop hb _
    obtain ⟨⟨l1, l2⟩, l3⟩ := left_ok (skipL x.1 x.2.1 b) x.1 x.2.1 x.2.2 hb2 (skip_ahd _ _ _)
    obtain ⟨i1, i2, i3⟩ := less_ok a (skipL x.1 x.2.1 b) ha.tail hb2
    have fx := ha.2 x List.mem_cons_self
    refine ⟨⟨List.pairwise_append.mpr ⟨l1, i1.1, fun r hr t ht => ?_⟩, fun r hr => ?_⟩, fun r hr => ?_, fun s n => ?_⟩
    · obtain ⟨j1, j2, j3, j4⟩ := l2 r hr
      obtain ⟨u, hu, k1, k2, k3⟩ := i2 t ht
      rw [apart_iff]
      rcases (apart_iff _ _).mp ((List.pairwise_cons.mp ha.1).1 u hu) with ⟨e, k⟩ | k
      · exact .inl ⟨j1.trans (e.trans k1.symm), by omega⟩
      · exact .inr (by rw [j1, k1]; exact k)
    · rcases List.mem_append.mp hr with hr | hr
      · exact (l2 r hr).2.2.1
      · exact i1.2 r hr
    · rcases List.mem_append.mp hr with hr | hr
      · obtain ⟨j1, j2, j3, j4⟩ := l2 r hr
        exact ⟨x, List.mem_cons_self, j1, j2, j4⟩
      · obtain ⟨u, hu, k⟩ := i2 r hr
        exact ⟨u, List.mem_cons_of_mem _ hu, k⟩
    · rw [has_app, l3, i3, has_cons]
      constructor
      · rintro (⟨h1, h2, h3, h4⟩ | ⟨h1, h2⟩)
        · subst h1
          exact ⟨.inl ⟨rfl, h2, h3⟩, fun z => h4 ((skip_has b _ _ _ _ (.inl ⟨rfl, h2⟩)).mpr z)⟩
        · refine ⟨.inr h1, fun z => h2 ((skip_has b _ _ _ _ ?_).mpr z)⟩
          rcases canon_first ha h1 with ⟨e, k⟩ | k
          · exact .inl ⟨e.symm, by omega⟩
          · exact .inr k
      · rintro ⟨⟨k1, k2, k3⟩ | h1, h2⟩
        · refine .inl ⟨k1.symm, k2, k3, fun z => h2 ((skip_has b _ _ _ _ (.inl ⟨k1.symm, k2⟩)).mp z)⟩
        · refine .inr ⟨h1, fun z => h2 ((skip_has b _ _ _ _ ?_).mp z)⟩
          rcases canon_first ha h1 with ⟨e, k⟩ | k
          · exact .inl ⟨e.symm, by omega⟩
          · exact .inr k
/-! ### rules and promises of together, both, less -/
def rLeP (K : PySem.W.Frag) : R2 := fun x y H Q => ∃ (a b : Addr) (s t : Str) (i j : Int), x = .ref a ∧ y = .ref b ∧ SqT K H a [.str s, .int i] ∧ SqT K H b [.str t, .int j] ∧ Q (.bl (lexLe s i t j)) H
theorem op_leP {X : Cx} {k : Nat} (hr : Room k X.A) : OpR X (compareOp .LtE) (rLeP X.K) := by
  intro pins s σ H x y v u Q I rx ry h
  obtain ⟨a, b, p, q, i, j, rfl, rfl, ha, hb, q'⟩ := h
  have un := hr.un
  obtain ⟨as, r1⟩ := Dp.reads I (.tuple [.str p, .int i]) (.ref a) _ (.tup ha (.cons (.str _) (.cons (.int _) .nil))) rx
  obtain ⟨bs, r2⟩ := Dp.reads I (.tuple [.str q, .int j]) (.ref b) _ (.tup hb (.cons (.str _) (.cons (.int _) .nil))) ry
  refine PySem.W.le_data r1 r2 (by simp [PySem.W.alike, PySem.W.alikeAll]) nofun ?_ ⟨.bl _, H, I, rfl, q'⟩
  simp only [PyData.depth, PyData.depthAll]
  omega
/-- runs in a tuple -/
def TpAt (K : PySem.W.Frag) (H : Hp) (t : Addr) (rs : List Rn) : Prop := ∃ qs : List Addr, SqT K H t (qs.map V.ref) ∧ Prd H qs rs
theorem TpAt.same {K : PySem.W.Frag} {H H' : Hp} {t : Addr} {rs : List Rn} (s : Same H H') (h : TpAt K H t rs) : TpAt K H' t rs := by
  obtain ⟨qs, h1, h2⟩ := h
  exact ⟨qs, SqT.sm s h1, Prd.same s h2⟩
theorem TpAt.of {K : PySem.W.Frag} {H : Hp} {t : Addr} {qs : List Addr} {rs : List Rn} (h : H t = some (.tup (qs.map V.ref))) (k : Prd H qs rs) : TpAt K H t rs := ⟨qs, SqT.of h, k⟩
theorem TpAt.dp {K : PySem.W.Frag} {H : Hp} {t : Addr} {rs : List Rn} (h : TpAt K H t rs) : Dp K H (.ref t) (rnsD rs) := by
  obtain ⟨qs, h1, h2⟩ := h
  exact .tup h1 (Prd.dp h2)
/-- a def of two RUNS that tells RUNS -/
def spTwo (K : PySem.W.Frag) (F : List Rn → List Rn → List Rn) : Sp := fun vs H Q _ => ∃ (a b : Addr) (rs ts : List Rn), vs = [.ref a, .ref b] ∧ TpAt K H a rs ∧ TpAt K H b ts ∧ rs.length ≤ 3000 ∧ ts.length ≤ 3000 ∧
  ∀ (t : Addr) (qs : List Addr) (H' : Hp), Same H H' → H t = none → H' t = some (.tup (qs.map V.ref)) → Prd H' qs (F rs ts) → Q (.ref t) H'
def togL (a b : List Rn) : List Rn := runsOf (a ++ b)
def spLeft (K : PySem.W.Frag) : Sp := fun vs H Q _ => ∃ (x b : Addr) (k : Nat) (r : Rn) (ts : List Rn), vs = [.ref x, .ref b, .int k] ∧ H x = some (.tup (rnV r)) ∧ TpAt K H b ts ∧ ts.length ≤ 3000 ∧ k ≤ ts.length ∧
  ∀ (t : Addr) (qs : List Addr) (H' : Hp), Same H H' → H t = none → H' t = some (.lst (qs.map V.ref)) → Prd H' qs (leftL r.1 r.2.2 r.2.1 (ts.drop k)) → Q (.ref t) H'
theorem left_len (s : Str) (hi : Int) : ∀ (b : List Rn) (lo : Int), (leftL s hi lo b).length ≤ b.length + 1
  | [], lo => by
    show (tailL s lo hi).length ≤ 1
    unfold tailL
    split
    · exact Nat.le_refl 1
    · exact Nat.zero_le 1
  | o :: b, lo => by
    unfold leftL
    have t1 : ∀ x y : Int, (tailL s x y).length ≤ 1 := fun x y => by
      unfold tailL
      split
      · exact Nat.le_refl 1
      · exact Nat.zero_le 1
    split
    · have z := left_len s hi b o.2.2
      have y := t1 lo o.2.1
      rw [List.length_append, List.length_cons]
      omega
    · have y := t1 lo hi
      rw [List.length_cons]
      omega
theorem drop_at {α : Type} {l : List α} {k : Nat} {x : α} (h : l[k]? = some x) : l.drop k = x :: l.drop (k + 1) := by
  obtain ⟨hk, e⟩ := List.getElem?_eq_some_iff.mp h
  rw [List.drop_eq_getElem_cons hk, e]
theorem drop_end {α : Type} {l : List α} {k : Nat} (h : l.length ≤ k) : l.drop k = [] := List.drop_eq_nil_of_le h
/-- the run at place k of RUNS -/
theorem tp_at {H : Hp} {qs : List Addr} {rs : List Rn} (h : Prd H qs rs) {k : Nat} (hk : k < rs.length) : ∃ p r, atI (qs.map V.ref) (k : Int) = some (.ref p) ∧ rs[k]? = some r ∧ H p = some (.tup (rnV r)) := by
  have hk2 : k < qs.length := by rw [h.len]; exact hk
  obtain ⟨r, h1, h2⟩ := Prd.get h (List.getElem?_eq_getElem hk2)
  exact ⟨qs[k], r, atI_nat (by rw [List.getElem?_map, List.getElem?_eq_getElem hk2]; rfl), h1, h2⟩
def rEqP (K : PySem.W.Frag) (neg : Bool) : R2 := fun x y H Q => ∃ d e, Dp K H x d ∧ Dp K H y e ∧ d.plain = true ∧ e.plain = true ∧ d.depth ≤ 60 ∧ Q (.bl (xor neg (PyData.eqv d e))) H
theorem op_eqP {X : Cx} {k : Nat} (hr : Room k X.A) : OpR X (compareOp .Eq) (rEqP X.K false) := by
  intro pins s σ H x y v u Q I rx ry h
  obtain ⟨d, e, hd, he, p1, p2, dep, q⟩ := h
  have un := hr.un
  obtain ⟨as, r1⟩ := Dp.reads I d x v hd rx
  obtain ⟨bs, r2⟩ := Dp.reads I e y u he ry
  rw [Bool.false_xor] at q
  exact PySem.SeqAt.eq_plain r1 r2 p1 p2 (by omega) ⟨.bl _, H, I, rfl, q⟩
theorem op_neP {X : Cx} {k : Nat} (hr : Room k X.A) : OpR X (compareOp .NotEq) (rEqP X.K true) := by
  intro pins s σ H x y v u Q I rx ry h
  obtain ⟨d, e, hd, he, p1, p2, dep, q⟩ := h
  have un := hr.un
  obtain ⟨as, r1⟩ := Dp.reads I d x v hd rx
  obtain ⟨bs, r2⟩ := Dp.reads I e y u he ry
  rw [Bool.true_xor] at q
  exact PySem.SeqAt.ne_plain r1 r2 p1 p2 (by omega) ⟨.bl _, H, I, rfl, q⟩
theorem rns_plain (rs : List Rn) : (rnsD rs).plain = true := by
  have all : ∀ l : List Rn, PyData.plainAll (l.map rnD) = true := fun l => by
    induction l with
    | nil => rfl
    | cons r l ih =>
      rw [List.map_cons]
      simp only [PyData.plainAll, ih, rnD, PyData.plain, Bool.and_self]
  exact all rs
theorem rns_eqv : ∀ a b : List Rn, PyData.eqv (rnsD a) (rnsD b) = decide (a = b)
  | [], [] => rfl
  | [], y :: b => by simp [rnsD, PyData.eqv, PyData.eqvAll]
  | x :: a, [] => by simp [rnsD, PyData.eqv, PyData.eqvAll]
  | x :: a, y :: b => by
    have ih := rns_eqv a b
    have e : PyData.eqv (rnsD (x :: a)) (rnsD (y :: b)) = (PyData.eqv (rnD x) (rnD y) && PyData.eqv (rnsD a) (rnsD b)) := by
      unfold rnsD
      rw [List.map_cons, List.map_cons]
      simp only [PyData.eqv, PyData.eqvAll]
    have e2 : PyData.eqv (rnD x) (rnD y) = decide (x = y) := by
      obtain ⟨x1, x2, x3⟩ := x
      obtain ⟨y1, y2, y3⟩ := y
      rw [Bool.eq_iff_iff]
      simp [rnD, PyData.eqv, PyData.eqvAll]
    rw [e, ih, e2, Bool.eq_iff_iff]
    simp
theorem rnsD_depth (rs : List Rn) : (rnsD rs).depth ≤ 60 := by
  have z := rns_depth rs
  simp only [rnsD, PyData.depth]
  omega
theorem both_len : ∀ a b : List Rn, (bothL a b).length ≤ a.length + b.length
  | [], b => by rw [both_nil]; exact Nat.zero_le _
  | x :: a, [] => by rw [both_nil2]; exact Nat.zero_le _
  | x :: a, y :: b => by
    rw [both_cons, List.length_append]
    have m : (meet x y).length ≤ 1 := by
      unfold meet
      split
      · exact Nat.le_refl 1
      · exact Nat.zero_le 1
    split
    · have z := both_len a (y :: b)
      rw [List.length_cons (as := b)] at z
      rw [List.length_cons, List.length_cons]
      omega
    · have z := both_len (x :: a) b
      rw [List.length_cons (as := a)] at z
      rw [List.length_cons, List.length_cons]
      omega
termination_by a b => a.length + b.length
theorem skip_len (s : Str) (lo : Int) (b : List Rn) : (skipL s lo b).length ≤ b.length := (List.dropWhile_suffix _).sublist.length_le
/-- pieces left of all: no more than runs of both -/
theorem less_len : ∀ a b : List Rn, (lessL a b).length ≤ (a.length) * (b.length + 1)
  | [], b => Nat.zero_le _
  | x :: a, b => by
    unfold lessL
    have z1 := left_len x.1 x.2.2 (skipL x.1 x.2.1 b) x.2.1
    have z2 := less_len a (skipL x.1 x.2.1 b)
    have z3 := skip_len x.1 x.2.1 b
    have z4 : a.length * ((skipL x.1 x.2.1 b).length + 1) ≤ a.length * (b.length + 1) := Nat.mul_le_mul (Nat.le_refl _) (by omega)
    rw [List.length_append, List.length_cons, Nat.succ_mul]
    omega
def spWithin (K : PySem.W.Frag) : Sp := fun vs H Q _ => ∃ (a b : Addr) (rs ts : List Rn), vs = [.ref a, .ref b] ∧ TpAt K H a rs ∧ TpAt K H b ts ∧ rs.length ≤ 3000 ∧ ts.length ≤ 3000 ∧
  ∀ H', Same H H' → Q (.bl (decide (lessL rs ts = []))) H'
def ofL (s : Str) (rs : List Rn) : List Rn := rs.filter fun r => decide (r.1 = s)
def spOfs (K : PySem.W.Frag) : Sp := fun vs H Q _ => ∃ (a : Addr) (s : Str) (rs : List Rn), vs = [.ref a, .str s] ∧ TpAt K H a rs ∧ rs.length ≤ 3000 ∧
  ∀ (t : Addr) (qs : List Addr) (H' : Hp), Same H H' → H t = none → H' t = some (.tup (qs.map V.ref)) → Prd H' qs (ofL s rs) → Q (.ref t) H'
/-! ### the three of k04 -/
def rTupOf (K : PySem.W.Frag) : List V → Hp → VK → Prop := fun xs H Q => ∃ p ys, xs = [V.ref p] ∧ ((SqL K H p ys ∧ ∀ l, H l = none → Q (V.ref l) (upd H l (.tup ys))) ∨ SqT K H p ys ∧ Q (V.ref p) H)
def Pq (rs ts : List Rn) (q : Nat) (s : Str) (n : Int) : Bool := if q = 0 then hasB rs s n || hasB ts s n else if q = 1 then hasB rs s n && hasB ts s n else hasB rs s n && !hasB ts s n
def dueL (rs ts : List Rn) (q : Nat) : List Rn := if q = 0 then togL rs ts else if q = 1 then bothL rs ts else lessL rs ts
/-- t + u, whichever tuple that is -/
def rCatU (K : PySem.W.Frag) : R2 := fun x y H Q => ∃ a b xs ys, x = .ref a ∧ y = .ref b ∧ SqT K H a xs ∧ SqT K H b ys ∧ xs.length + ys.length ≤ sizeLine ∧ ∀ W H', Same H H' → SqT K H' W (xs ++ ys) → Q (.ref W) H'
theorem op_catU {X : Cx} : OpR X (binaryOp .Add) (rCatU X.K) := by
  intro pins s σ H x y v u Q I rx ry h
  obtain ⟨a, b, xs, ys, rfl, rfl, ha, hb, hl, q⟩ := h
  refine op_catA pins s σ H _ _ v u Q I rx ry ⟨a, b, xs, ys, rfl, rfl, ha, hb, hl, fun e => ?_, fun _ e => ?_, fun _ _ p hp => ?_⟩
  · subst e
    exact q b H (Same.refl _) hb
  · subst e
    exact q a H (Same.refl _) (by rw [List.append_nil]; exact ha)
  · exact q p _ (same_new hp _) (SqT.of upd_same)
theorem three_made {rs ts : List Rn} {ns : List Str} {cs : List Int} (hr : Canon rs) (ht : Canon ts) (h1 : Ends rs ns cs) (h2 : Ends ts ns cs) (hn : ns.Pairwise sl) (hc : cs.Pairwise (· < ·)) (q : Nat) : mades (Pq rs ts q) ns cs = dueL rs ts q := by
  obtain ⟨y1, y2⟩ := mades_ok (P := Pq rs ts q) hn hc (fun s p n k1 k2 k3 => by
    unfold Pq
    rw [hasB_flat h1 hc k1 k2 k3, hasB_flat h2 hc k1 k2 k3]) (fun s n h => by
    unfold Pq at h
    split at h
    · rcases Bool.or_eq_true_iff.mp h with h | h
      · exact hasB_only h1 hc h
      · exact hasB_only h2 hc h
    · split at h
      · exact hasB_only h1 hc (Bool.and_eq_true_iff.mp h).1
      · exact hasB_only h1 hc (Bool.and_eq_true_iff.mp h).1)
  unfold dueL
  unfold Pq at y1 y2 ⊢
  split
  · rename_i e
    simp only [if_pos e] at y1 y2 ⊢
    have full : Full (rs ++ ts) := fun r hr' => by
      rcases List.mem_append.mp hr' with z | z
      · exact hr.2 r z
      · exact ht.2 r z
    exact (runsOf_eq full y1 fun s n => by rw [y2, has_app, Bool.or_eq_true, hasB_iff, hasB_iff]).symm
  · rename_i e
    simp only [if_neg e] at y1 y2 ⊢
    split
    · rename_i e2
      simp only [if_pos e2] at y1 y2 ⊢
      obtain ⟨b1, b2⟩ := both_ok rs ts hr ht
      exact canon_uniq y1 b1 fun s n => by rw [y2, b2, Bool.and_eq_true, hasB_iff, hasB_iff]
    · rename_i e2
      simp only [if_neg e2] at y1 y2 ⊢
      obtain ⟨b1, _, b2⟩ := less_ok rs ts hr ht
      refine canon_uniq y1 b1 fun s n => ?_
      rw [y2, b2, Bool.and_eq_true, hasB_iff, Bool.not_eq_true', ← Bool.not_eq_true, hasB_iff]
theorem ends_of2 {rs : List Rn} {ns : List Str} {cs : List Int} (h1 : ∀ s, s ∈ ns ↔ s ∈ rs.map (·.1)) (h2 : ∀ i, i ∈ cs ↔ i ∈ rs.map (·.2.1) ++ rs.map (·.2.2)) : Ends rs ns cs := fun r hr => by
  refine ⟨(h1 _).mpr (List.mem_map.mpr ⟨r, hr, rfl⟩), (h2 _).mpr ?_, (h2 _).mpr ?_⟩
  · exact List.mem_append_left _ (List.mem_map.mpr ⟨r, hr, rfl⟩)
  · exact List.mem_append_right _ (List.mem_map.mpr ⟨r, hr, rfl⟩)
theorem Ends.left {a b : List Rn} {ns : List Str} {cs : List Int} (h : Ends (a ++ b) ns cs) : Ends a ns cs := fun r hr => h r (List.mem_append_left _ hr)
theorem Ends.right {a b : List Rn} {ns : List Str} {cs : List Int} (h : Ends (a ++ b) ns cs) : Ends b ns cs := fun r hr => h r (List.mem_append_right _ hr)
/-- what stands in part q when j pieces of the i-th series are looked at -/
def stL (rs ts : List Rn) (ss : List Str) (cs : List Int) (q i j : Nat) (s : Str) : List Rn := (((ss.take i).flatMap fun s => goods (Pq rs ts q) s (pcs cs)) ++ goods (Pq rs ts q) s ((pcs cs).take j)).foldl join []
def spThree (K : PySem.W.Frag) : Sp := fun vs H Q _ => ∃ (a b : Addr) (rs ts : List Rn), vs = [.ref a, .ref b] ∧ TpAt K H a rs ∧ TpAt K H b ts ∧ Canon rs ∧ Canon ts ∧ rs.length ≤ 1000 ∧ ts.length ≤ 1000 ∧
  ∀ (D t0 t1 t2 : Addr) (H' : Hp), Same H H' → H D = none → H' D = some (.lst [.ref t0, .ref t1, .ref t2]) → TpAt K H' t0 (togL rs ts) → TpAt K H' t1 (bothL rs ts) → TpAt K H' t2 (lessL rs ts) → Q (.ref D) H'
/-- good RUNS in a tuple -/
structure Rg (K : PySem.W.Frag) (H : Hp) (t : Addr) (rs : List Rn) (n : Nat) : Prop where
  tp : TpAt K H t rs
  ca : Canon rs
  len : rs.length ≤ n
  ok : ∀ r ∈ rs, RnOk r ∧ NmOk r.1
theorem Rg.same {K : PySem.W.Frag} {H H' : Hp} {t : Addr} {rs : List Rn} {n : Nat} (s : Same H H') (h : Rg K H t rs n) : Rg K H' t rs n := ⟨h.tp.same s, h.ca, h.len, h.ok⟩
theorem Rg.mono {K : PySem.W.Frag} {H : Hp} {t : Addr} {rs : List Rn} {n m : Nat} (h : Rg K H t rs n) (l : n ≤ m) : Rg K H t rs m := ⟨h.tp, h.ca, Nat.le_trans h.len l, h.ok⟩
theorem push_all {acc : List Rn} {r : Rn} (h : ∀ x ∈ acc, RnOk x ∧ NmOk x.1) (hr : RnOk r ∧ NmOk r.1) : ∀ x ∈ push acc r, RnOk x ∧ NmOk x.1 := by
  rcases nil_or_snoc acc with rfl | ⟨i, l, rfl⟩
  · intro x hx
    rw [List.mem_singleton.mp (show x ∈ [r] from hx)]
    exact hr
  · rw [push_snoc]
    split
    · intro x hx
      rcases List.mem_append.mp hx with hx | hx
      · exact h x hx
      · rw [List.mem_singleton.mp hx]
        exact hr
    · intro x hx
      rcases List.mem_append.mp hx with hx | hx
      · exact h x (List.mem_append_left _ hx)
      · rw [List.mem_singleton.mp hx]
        obtain ⟨⟨a1, a2, a3⟩, a4⟩ := h l (List.mem_append_right _ List.mem_cons_self)
        obtain ⟨⟨b1, b2, b3⟩, b4⟩ := hr
        refine ⟨⟨a1, ?_, ?_⟩, a4⟩
        · show l.2.1 < if r.2.2 > l.2.2 then r.2.2 else l.2.2
          split <;> omega
        · show (if r.2.2 > l.2.2 then r.2.2 else l.2.2) ≤ _
          split <;> omega
theorem runsOf_all {rs : List Rn} (h : ∀ x ∈ rs, RnOk x ∧ NmOk x.1) : ∀ x ∈ runsOf rs, RnOk x ∧ NmOk x.1 := by
  have all : ∀ (l acc : List Rn), (∀ x ∈ l, RnOk x ∧ NmOk x.1) → (∀ x ∈ acc, RnOk x ∧ NmOk x.1) → ∀ x ∈ l.foldl push acc, RnOk x ∧ NmOk x.1 := fun l => by
    induction l with
    | nil => exact fun _ _ h => h
    | cons r l ih => exact fun acc h1 h2 => ih _ (fun x hx => h1 x (List.mem_cons_of_mem _ hx)) (push_all h2 (h1 r List.mem_cons_self))
  exact all _ [] (fun x hx => h x (List.mem_mergeSort.mp hx)) fun _ h => nomatch h
theorem both_all {a b : List Rn} (ha : ∀ x ∈ a, RnOk x ∧ NmOk x.1) (hb : ∀ x ∈ b, RnOk x ∧ NmOk x.1) : ∀ x ∈ bothL a b, RnOk x ∧ NmOk x.1 := fun x hx => by
  obtain ⟨u, hu, v, hv, z⟩ := both_in a b x hx
  obtain ⟨r0, r1, r2, r3, r4⟩ := meet_in.mp z
  obtain ⟨⟨a1, a2, a3⟩, a4⟩ := ha u hu
  obtain ⟨⟨b1, b2, b3⟩, _⟩ := hb v hv
  have m1 := mx_is u.2.1 v.2.1
  have m2 := mn_is u.2.2 v.2.2
  exact ⟨⟨by omega, r4, by omega⟩, r1 ▸ a4⟩
theorem less_all {a b : List Rn} (ca : Canon a) (cb : Canon b) (ha : ∀ x ∈ a, RnOk x ∧ NmOk x.1) : ∀ x ∈ lessL a b, RnOk x ∧ NmOk x.1 := fun x hx => by
  obtain ⟨z1, z2, _⟩ := less_ok a b ca cb
  obtain ⟨u, hu, k1, k2, k3⟩ := z2 x hx
  obtain ⟨⟨a1, a2, a3⟩, a4⟩ := ha u hu
  exact ⟨⟨by omega, z1.2 x hx, by omega⟩, k1 ▸ a4⟩
/-- less has no more runs than both together -/
theorem left_len2 (s : Str) (hi : Int) : ∀ (b : List Rn) (lo : Int), ∃ k, k ≤ b.length ∧ (leftL s hi lo b).length ≤ k + 1 := fun b lo => ⟨b.length, Nat.le_refl _, left_len s hi b lo⟩
def spRight3 (K : PySem.W.Frag) : Sp := fun vs H Q _ => ∃ (a b : Addr) (rs ts : List Rn), vs = [.ref a, .ref b] ∧ Rg K H a rs 1000 ∧ Rg K H b ts 1000 ∧ (lessL rs ts).length ≤ 100000 ∧ ∀ H', Same H H' → Q (.bl true) H'
theorem pair_show {a b : List Rn} (ha : ∀ r ∈ a, RnOk r ∧ NmOk r.1) (hb : ∀ r ∈ b, RnOk r ∧ NmOk r.1) (la : a.length ≤ 1000) (lb : b.length ≤ 1000) :
    (PyData.tuple [rnsD a, rnsD b]).showable = true ∧ (PyData.tuple [rnsD a, rnsD b]).hasDict = false ∧ (PyData.tuple [rnsD a, rnsD b]).depth ≤ 60 ∧ (PyData.tuple [rnsD a, rnsD b]).shown.length ≤ sizeLine := by
  obtain ⟨x1, x2⟩ := rns_fine a ha
  obtain ⟨y1, y2⟩ := rns_fine b hb
  have f : fineD (.tuple [rnsD a, rnsD b]) = true := by
    show (fineAll (a.map rnD) && (fineAll (b.map rnD) && true)) = true
    rw [x1, y1]
    rfl
  have c := shown_cost _ f
  have e : cost (.tuple [rnsD a, rnsD b]) = ((costAll (a.map rnD) + 3) + 2 + ((costAll (b.map rnD) + 3) + 2 + 0)) + 3 := rfl
  have d1 := rns_depth a
  have d2 := rns_depth b
  obtain ⟨s1, s2⟩ := fine_show _ f
  refine ⟨s1, s2, ?_, Nat.le_trans c (Nat.le_trans (show _ ≤ 11000000 by omega) (by decide))⟩
  simp only [rnsD, PyData.depth, PyData.depthAll]
  omega
theorem stL_more {rs ts : List Rn} {ss : List Str} {cs : List Int} {q i j : Nat} {s : Str} {p : Int × Int} (h : (pcs cs)[j]? = some p) : stL rs ts ss cs q i (j + 1) s = if Pq rs ts q s p.1 = true then join (stL rs ts ss cs q i j s) (s, p.1, p.2) else stL rs ts ss cs q i j s := by
  unfold stL
  rw [goods_more h]
  split
  · rw [← List.append_assoc, List.foldl_append]
    rfl
  · rw [List.append_nil]
theorem stL_next {rs ts : List Rn} {ss : List Str} {cs : List Int} {q i : Nat} {s s' : Str} (h : ss[i]? = some s) : stL rs ts ss cs q i (pcs cs).length s = stL rs ts ss cs q (i + 1) 0 s' := by
  obtain ⟨hi, e⟩ := List.getElem?_eq_some_iff.mp h
  unfold stL
  rw [List.take_length, List.take_succ_eq_append_getElem hi, List.flatMap_append, e, List.flatMap_singleton]
  have z : goods (Pq rs ts q) s' ((pcs cs).take 0) = [] := rfl
  rw [z, List.append_nil]
theorem stL_end {rs ts : List Rn} {ss : List Str} {cs : List Int} {q : Nat} {s : Str} : stL rs ts ss cs q ss.length 0 s = mades (Pq rs ts q) ss cs := by
  unfold stL mades
  have z : goods (Pq rs ts q) s ((pcs cs).take 0) = [] := rfl
  rw [List.take_length, z, List.append_nil]
theorem stL_len {rs ts : List Rn} {ss : List Str} {cs : List Int} {q i j : Nat} {s : Str} (h1 : ss.length ≤ 2000) (h2 : cs.length ≤ 4000) : (stL rs ts ss cs q i j s).length < sizeLine := by
  have z0 := fold_join_len (((ss.take i).flatMap fun s => goods (Pq rs ts q) s (pcs cs)) ++ goods (Pq rs ts q) s ((pcs cs).take j)) []
  have z1 := flat_goods_len (P := Pq rs ts q) (pcs cs) (ss.take i)
  have z2 := goods_len (P := Pq rs ts q) (s := s) ((pcs cs).take j)
  have z3 := pcs_len cs
  rw [List.length_take] at z1 z2
  have z4 : min i ss.length * (pcs cs).length ≤ 2000 * 4000 := Nat.mul_le_mul (by omega) (by omega)
  rw [List.length_append, List.length_nil] at z0
  unfold stL
  exact Nat.lt_of_le_of_lt (show _ ≤ 9000000 by omega) (by decide)
def A3 (p0 p1 p2 : Addr) (q : Nat) : Addr := if q = 0 then p0 else if q = 1 then p1 else p2
theorem all3 {T : Nat → Prop} (h0 : T 0) (h1 : T 1) (h2 : T 2) : ∀ q, q < 3 → T q := fun q hq => by
  rcases (show q = 0 ∨ q = 1 ∨ q = 2 by omega) with rfl | rfl | rfl
  · exact h0
  · exact h1
  · exact h2
/-! ### a call of a def that is told that no repr is under way -/
theorem FnG.mono {P : Program} {w : World} {K : PySem.W.Frag} {mg : Str → Option Value} {base : Heap} {j k : Nat} {f : Addr} {fd : FuncData} {ps : List Str} {sp : Sp} (F : FnG P w K mg base j f fd ps sp) (h : j ≤ k) : FnG P w K mg base k f fd ps sp :=
  ⟨F.len, fun A outer s H args us vs Q E room => F.run A outer s H args us vs Q E (room.mono h)⟩
theorem pe_callG {X : Cx} {k : Nat} {f : Addr} {fd : FuncData} {ps : List Str} {sp : Sp} {x : Str} {ds : List Value} {dvs : List V} {E : XK} {e : Expr} {es : List Expr} {t : TA} {p pos : Pos}
    (F : FnG X.prog X.w X.K X.mg X.base k f fd ps sp) (gu : X.A.guards = some []) (room : Room k X.A) (gl : Gl X x) (hm : X.mg x = some (.ref f)) (kp : PySem.W.keepIn X.K (.ref f) = true) (bi : Binds X.K fd ps ds) (hd : Vals dvs ds) (pass : Passes CX0 X E)
    (ha : PA X (e :: es) t) (ndb : (x == ("__debug__" : Str)) = false := by decide) (st : starEach (e :: es) X.env = (false, eval e X.env) :: starEach es X.env := by rfl) (np : (backTo pos (starEach es X.env)).any (·.1) = false := by rfl) :
    PE X (.Call (.Name x p) (e :: es) [] pos) (tCall sp dvs E t) := by
  constructor
  intro pins s σ H Q I wish
  refine wpAny_Call_Name_kw (ld_glob I gl hm ?_ ndb)
  refine PySem.W.callWith_K (h₀ := X.base) I.ok.mod.kin kp (thn (ha.run pos pins s σ H _ I wish) fun us s1 ⟨vs, H1, I1, rel, q⟩ => ⟨I1.kIn, ?_⟩) st np
  have rel2 : Vals (vs ++ dvs) (us ++ ds) := rel.append hd
  have len : (us ++ ds).length = ps.length := rel2.length.symm.trans (F.len _ _ _ _ q)
  refine wpAny_call (codeAny_mono (F.run X.A X.stack s1 H1 ⟨us, []⟩ (us ++ ds) (vs ++ dvs) Q E room gu I1.env0 (bi s1 us I1.kIn len) rel2 q) fun res s2 told => ?_)
  match res, told with
  | .error er, told => exact pass pins σ H1 s1 er s2 I1 told
  | .ok (.ret u), told => exact I1.after told
  | .ok .next, told => exact told.elim
  | .ok .brk, told => exact told.elim
  | .ok .cont, told => exact told.elim
/-! ### what leads where: walks, the going by way of each place, the search by widths -/
abbrev Ed := Str × Str
def Wlk (E : List Ed) : Nat → Str → Str → Prop
  | 0, x, y => x = y
  | n + 1, x, y => ∃ z, Wlk E n x z ∧ (z, y) ∈ E
theorem wlk_app {E : List Ed} {n : Nat} {x z : Str} (h : Wlk E n x z) : ∀ {m : Nat} {y : Str}, Wlk E m z y → Wlk E (n + m) x y
  | 0, _, k => by
    cases (show z = _ from k)
    exact h
  | m + 1, _, ⟨u, k1, k2⟩ => ⟨u, wlk_app h k1, k2⟩
def Least (E : List Ed) (x y : Str) (n : Nat) : Prop := Wlk E n x y ∧ ∀ m, Wlk E m x y → n ≤ m
theorem least_one {E : List Ed} {x y : Str} {n m : Nat} (h : Least E x y n) (k : Least E x y m) : n = m := Nat.le_antisymm (h.2 m k.1) (k.2 n h.1)
abbrev Ap := Str → Str → Option Nat
structure FwOk (E : List Ed) (V : Str → Prop) (S : Str → Prop) (d : Ap) : Prop where
  sound : ∀ x y n, d x y = some n → Wlk E n x y
  refl : ∀ x, V x → d x x = some 0
  edge : ∀ x y, (x, y) ∈ E → ∃ n, d x y = some n ∧ n ≤ 1
  tri : ∀ z, S z → ∀ x y a b, d x z = some a → d z y = some b → ∃ n, d x y = some n ∧ n ≤ a + b
  dom : ∀ x y n, d x y = some n → V x ∧ V y
def fwMin (o : Option Nat) (n : Nat) : Nat := match o with
  | some c => if n < c then n else c
  | none => n
def fwStep (d : Ap) (v : Str) : Ap := fun x y => match d x v, d v y with
  | some a, some b => some (fwMin (d x y) (a + b))
  | _, _ => d x y
theorem fw_val {d : Ap} {v x y : Str} {a b : Nat} (h1 : d x v = some a) (h2 : d v y = some b) : fwStep d v x y = some (fwMin (d x y) (a + b)) := by
  unfold fwStep
  rw [h1, h2]
theorem fw_none {d : Ap} {v x y : Str} (h : d x v = none ∨ d v y = none) : fwStep d v x y = d x y := by
  unfold fwStep
  rcases h with h | h
  · rw [h]
  · rw [h]
    cases d x v <;> rfl
theorem fwMin_le (o : Option Nat) (n : Nat) : fwMin o n ≤ n ∧ (∀ c, o = some c → fwMin o n ≤ c) ∧ (fwMin o n = n ∨ o = some (fwMin o n)) := by
  unfold fwMin
  cases o with
  | none => exact ⟨Nat.le_refl _, fun _ h => (nomatch h), .inl rfl⟩
  | some c =>
    dsimp only
    split
    · exact ⟨Nat.le_refl _, fun c' h => by cases h; omega, .inl rfl⟩
    · exact ⟨by omega, fun c' h => by cases h; omega, .inr rfl⟩
theorem fw_le {d : Ap} {v x y : Str} {c : Nat} (h : d x y = some c) : ∃ n, fwStep d v x y = some n ∧ n ≤ c := by
  cases h1 : d x v with
  | none => exact ⟨c, (fw_none (.inl h1)).trans h, Nat.le_refl _⟩
  | some a =>
    cases h2 : d v y with
    | none => exact ⟨c, (fw_none (.inr h2)).trans h, Nat.le_refl _⟩
    | some b => exact ⟨_, fw_val h1 h2, (fwMin_le _ _).2.1 c h⟩
theorem fw_via {d : Ap} {v x y : Str} {a b : Nat} (h1 : d x v = some a) (h2 : d v y = some b) : ∃ n, fwStep d v x y = some n ∧ n ≤ a + b := ⟨_, fw_val h1 h2, (fwMin_le _ _).1⟩
theorem fw_cases {d : Ap} {v x y : Str} {n : Nat} (h : fwStep d v x y = some n) : d x y = some n ∨ ∃ a b, d x v = some a ∧ d v y = some b ∧ n = a + b := by
  cases h1 : d x v with
  | none => exact .inl ((fw_none (.inl h1)).symm.trans h)
  | some a =>
    cases h2 : d v y with
    | none => exact .inl ((fw_none (.inr h2)).symm.trans h)
    | some b =>
      have e := (fw_val h1 h2).symm.trans h
      have e := Option.some.inj e
      rcases (fwMin_le (d x y) (a + b)).2.2 with z | z
      · exact .inr ⟨a, b, rfl, rfl, e.symm.trans z⟩
      · rw [e] at z
        exact .inl z
theorem fw_ok {E : List Ed} {V S : Str → Prop} {d : Ap} {v : Str} (h : FwOk E V S d) (hv : V v) : FwOk E V (fun z => S z ∨ z = v) (fwStep d v) where
  sound := fun x y n e => by
    rcases fw_cases e with z | ⟨a, b, z1, z2, rfl⟩
    · exact h.sound x y n z
    · exact wlk_app (h.sound _ _ _ z1) (h.sound _ _ _ z2)
  refl := fun x hx => by
    obtain ⟨n, e, l⟩ := fw_le (v := v) (h.refl x hx)
    rw [e, Nat.le_zero.mp l]
  edge := fun x y e => by
    obtain ⟨n, e1, l1⟩ := h.edge x y e
    obtain ⟨m, e2, l2⟩ := fw_le (v := v) e1
    exact ⟨m, e2, by omega⟩
  tri := fun z hz x y a b e1 e2 => by
    have c1 := fw_cases e1
    have c2 := fw_cases e2
    rcases hz with hz | rfl
    · rcases c1 with c1 | ⟨p, q, p1, p2, rfl⟩ <;> rcases c2 with c2 | ⟨r, s, r1, r2, rfl⟩
      · obtain ⟨n, n1, n2⟩ := h.tri z hz x y a b c1 c2
        obtain ⟨m, m1, m2⟩ := fw_le (v := v) n1
        exact ⟨m, m1, by omega⟩
      · obtain ⟨n, n1, n2⟩ := h.tri z hz x v a r c1 r1
        obtain ⟨m, m1, m2⟩ := fw_via n1 r2
        exact ⟨m, m1, by omega⟩
      · obtain ⟨n, n1, n2⟩ := h.tri z hz v y q b p2 c2
        obtain ⟨m, m1, m2⟩ := fw_via p1 n1
        exact ⟨m, m1, by omega⟩
      · obtain ⟨m, m1, m2⟩ := fw_via p1 r2
        exact ⟨m, m1, by omega⟩
    · have d1 : ∃ a', d x z = some a' ∧ a' ≤ a := by
        rcases c1 with c1 | ⟨p, q, p1, p2, rfl⟩
        · exact ⟨a, c1, Nat.le_refl _⟩
        · exact ⟨p, p1, by omega⟩
      have d2 : ∃ b', d z y = some b' ∧ b' ≤ b := by
        rcases c2 with c2 | ⟨p, q, p1, p2, rfl⟩
        · exact ⟨b, c2, Nat.le_refl _⟩
        · exact ⟨q, p2, by omega⟩
      obtain ⟨a', a1, a2⟩ := d1
      obtain ⟨b', b1, b2⟩ := d2
      obtain ⟨m, m1, m2⟩ := fw_via a1 b1
      exact ⟨m, m1, by omega⟩
  dom := fun x y n e => by
    rcases fw_cases e with z | ⟨a, b, z1, z2, rfl⟩
    · exact h.dom x y n z
    · exact ⟨(h.dom _ _ _ z1).1, (h.dom _ _ _ z2).2⟩
theorem fw_end {E : List Ed} {V S : Str → Prop} {d : Ap} (h : FwOk E V S d) (all : ∀ x, V x → S x) {x : Str} (hx : V x) : ∀ {n : Nat} {y : Str}, Wlk E n x y → ∃ m, d x y = some m ∧ m ≤ n
  | 0, _, k => by
    cases (show x = _ from k)
    exact ⟨0, h.refl x hx, Nat.le_refl _⟩
  | n + 1, y, ⟨z, k1, k2⟩ => by
    obtain ⟨m, m1, m2⟩ := fw_end h all hx k1
    obtain ⟨c, c1, c2⟩ := h.edge z y k2
    obtain ⟨r, r1, r2⟩ := h.tri z (all z (h.dom _ _ _ m1).2) x y m c m1 c1
    exact ⟨r, r1, by omega⟩
theorem fw_least {E : List Ed} {V S : Str → Prop} {d : Ap} (h : FwOk E V S d) (all : ∀ x, V x → S x) {x y : Str} {n : Nat} (hx : V x) (e : d x y = some n) : Least E x y n := by
  refine ⟨h.sound x y n e, fun m k => ?_⟩
  obtain ⟨c, c1, c2⟩ := fw_end h all hx k
  rw [e] at c1
  cases c1
  exact c2
/-- a way from x, its places one behind the other, to the last one -/
inductive Pth (E : List Ed) (x : Str) : List Str → Str → Prop
  | one : Pth E x [x] x
  | snoc {p : List Str} {u v : Str} : Pth E x p u → (u, v) ∈ E → Pth E x (p ++ [v]) v
theorem pth_len {E : List Ed} {x : Str} {p : List Str} {v : Str} (h : Pth E x p v) : ∃ n, p.length = n + 1 ∧ Wlk E n x v := by
  induction h with
  | one => exact ⟨0, rfl, rfl⟩
  | snoc k e ih =>
    obtain ⟨n, n1, n2⟩ := ih
    exact ⟨n + 1, by rw [List.length_append, List.length_singleton, n1], _, n2, e⟩
theorem pth_first {E : List Ed} {x : Str} {p : List Str} {v : Str} (h : Pth E x p v) : ∃ q, p = x :: q := by
  induction h with
  | one => exact ⟨[], rfl⟩
  | snoc k e ih =>
    obtain ⟨q, rfl⟩ := ih
    exact ⟨q ++ [_], rfl⟩
theorem pth_last {E : List Ed} {x : Str} {p : List Str} {v : Str} (h : Pth E x p v) : ∃ q, p = q ++ [v] := by
  cases h with
  | one => exact ⟨[], rfl⟩
  | snoc k e => exact ⟨_, rfl⟩
theorem pth_edges {E : List Ed} {x : Str} {p : List Str} {v : Str} (h : Pth E x p v) : ∀ k a b, p[k]? = some a → p[k + 1]? = some b → (a, b) ∈ E := by
  induction h with
  | one => intro k a b _ h2; exact nomatch h2
  | snoc k e ih =>
    rename_i p u v
    intro i a b h1 h2
    by_cases c : i + 1 < p.length
    · rw [List.getElem?_append_left (by omega)] at h1
      rw [List.getElem?_append_left c] at h2
      exact ih i a b h1 h2
    · obtain ⟨q, rfl⟩ := pth_last k
      rw [List.length_append, List.length_singleton] at c
      have z := (List.getElem?_eq_some_iff.mp h2).1
      rw [List.length_append, List.length_append, List.length_singleton, List.length_singleton] at z
      have ei : i = q.length := by omega
      subst ei
      rw [List.getElem?_append_left (by rw [List.length_append, List.length_singleton]; omega), List.getElem?_concat_length] at h1
      have e2 : q.length + 1 = (q ++ [u]).length := by rw [List.length_append, List.length_singleton]
      rw [e2, List.getElem?_concat_length] at h2
      cases h1
      cases h2
      exact e
abbrev En := Str × List Str
structure Bfs (E : List Ed) (x : Str) (es : List En) (at_ : Nat) : Prop where
  ok : ∀ e ∈ es, Pth E x e.2 e.1
  nodup : (es.map (·.1)).Nodup
  mono : es.Pairwise fun a b => a.2.length ≤ b.2.length
  near : ∀ c, es[at_]? = some c → ∀ e ∈ es, e.2.length ≤ c.2.length + 1
  done : ∀ i c, i < at_ → es[i]? = some c → ∀ y, (c.1, y) ∈ E → ∃ e ∈ es, e.1 = y ∧ e.2.length ≤ c.2.length + 1
  root : ∃ e ∈ es, e.1 = x ∧ e.2.length = 1
theorem bfs_new (E : List Ed) (x : Str) : Bfs E x [(x, [x])] 0 := by
  refine ⟨fun e he => ?_, by simp, List.pairwise_singleton _ _, fun c hc e he => ?_, fun i c hi => absurd hi (Nat.not_lt_zero _), ⟨_, List.mem_cons_self, rfl, rfl⟩⟩
  · rw [List.mem_singleton.mp he]
    exact .one
  · rw [List.mem_singleton.mp he]
    cases Option.some.inj hc
    exact Nat.le_succ _
theorem bfs_add {E : List Ed} {x : Str} {es : List En} {k : Nat} {c : En} {t : Str} (h : Bfs E x es k) (hc : es[k]? = some c) (ht : (c.1, t) ∈ E) (new : ∀ e ∈ es, e.1 ≠ t) : Bfs E x (es ++ [(t, c.2 ++ [t])]) k := by
  have hk := (List.getElem?_eq_some_iff.mp hc).1
  have len : (c.2 ++ [t]).length = c.2.length + 1 := by rw [List.length_append, List.length_singleton]
  refine ⟨fun e he => ?_, ?_, List.pairwise_append.mpr ⟨h.mono, List.pairwise_singleton _ _, fun a ha b hb => ?_⟩, fun c' hc' e he => ?_, fun i c' hi hc' y hy => ?_, ?_⟩
  · rcases List.mem_append.mp he with he | he
    · exact h.ok e he
    · rw [List.mem_singleton.mp he]
      exact .snoc (h.ok c (List.mem_of_getElem? hc)) ht
  · rw [List.map_append, List.nodup_append]
    refine ⟨h.nodup, by simp, fun a ha b hb => ?_⟩
    obtain ⟨e, he, rfl⟩ := List.mem_map.mp ha
    have : b = t := by simpa using hb
    subst this
    exact new e he
  · rw [List.mem_singleton.mp hb]
    show a.2.length ≤ (c.2 ++ [t]).length
    rw [len]
    exact h.near c hc a ha
  · rw [List.getElem?_append_left hk, hc] at hc'
    cases hc'
    rcases List.mem_append.mp he with he | he
    · exact h.near c hc e he
    · rw [List.mem_singleton.mp he]
      show (c.2 ++ [t]).length ≤ _
      rw [len]
      exact Nat.le_refl _
  · rw [List.getElem?_append_left (by omega)] at hc'
    obtain ⟨e, e1, e2⟩ := h.done i c' hi hc' y hy
    exact ⟨e, List.mem_append_left _ e1, e2⟩
  · obtain ⟨e, e1, e2⟩ := h.root
    exact ⟨e, List.mem_append_left _ e1, e2⟩
theorem bfs_next {E : List Ed} {x : Str} {es : List En} {k : Nat} {c : En} (h : Bfs E x es k) (hc : es[k]? = some c) (all : ∀ y, (c.1, y) ∈ E → ∃ e ∈ es, e.1 = y ∧ e.2.length ≤ c.2.length + 1) : Bfs E x es (k + 1) := by
  have hk := (List.getElem?_eq_some_iff.mp hc)
  refine ⟨h.ok, h.nodup, h.mono, fun c' hc' e he => ?_, fun i c' hi hc' y hy => ?_, h.root⟩
  · have hk' := (List.getElem?_eq_some_iff.mp hc')
    have z1 := h.near c hc e he
    have z2 := (List.pairwise_iff_getElem.mp h.mono) k (k + 1) hk.1 hk'.1 (by omega)
    rw [hk.2, hk'.2] at z2
    omega
  · by_cases d : i < k
    · exact h.done i c' d hc' y hy
    · have ei : i = k := by omega
      subst ei
      rw [hc] at hc'
      cases hc'
      exact all y hy
theorem bfs_end {E : List Ed} {x : Str} {es : List En} {k : Nat} (h : Bfs E x es k) (hk : es.length ≤ k) : ∀ {n : Nat} {y : Str}, Wlk E n x y → ∃ e ∈ es, e.1 = y ∧ e.2.length ≤ n + 1
  | 0, _, w => by
    cases (show x = _ from w)
    obtain ⟨e, e1, e2, e3⟩ := h.root
    exact ⟨e, e1, e2, by omega⟩
  | n + 1, y, ⟨z, w1, w2⟩ => by
    obtain ⟨e, e1, e2, e3⟩ := bfs_end h hk w1
    obtain ⟨i, hi, ei⟩ := List.getElem_of_mem e1
    obtain ⟨f, f1, f2, f3⟩ := h.done i e (by omega) (by rw [List.getElem?_eq_getElem hi, ei]) y (by rw [e2]; exact w2)
    exact ⟨f, f1, f2, by omega⟩
theorem fst_inj {es : List En} (h : (es.map (·.1)).Nodup) {a b : En} (ha : a ∈ es) (hb : b ∈ es) (e : a.1 = b.1) : a = b := by
  induction es with
  | nil => exact nomatch ha
  | cons x l ih =>
    rw [List.map_cons, List.nodup_cons] at h
    rcases List.mem_cons.mp ha with ha2 | ha2 <;> rcases List.mem_cons.mp hb with hb2 | hb2
    · rw [ha2, hb2]
    · exact (h.1 (List.mem_map.mpr ⟨b, hb2, by rw [← e, ha2]⟩)).elim
    · exact (h.1 (List.mem_map.mpr ⟨a, ha2, by rw [e, hb2]⟩)).elim
    · exact ih h.2 ha2 hb2
theorem bfs_least {E : List Ed} {x : Str} {es : List En} {k : Nat} (h : Bfs E x es k) (hk : es.length ≤ k) {e : En} (he : e ∈ es) : ∃ n, e.2.length = n + 1 ∧ Least E x e.1 n := by
  obtain ⟨n, n1, n2⟩ := pth_len (h.ok e he)
  refine ⟨n, n1, n2, fun m w => ?_⟩
  obtain ⟨f, f1, f2, f3⟩ := bfs_end h hk w
  cases fst_inj h.nodup f1 he f2
  omega
theorem sub_len {α : Type} [DecidableEq α] : ∀ {l m : List α}, l.Nodup → (∀ x ∈ l, x ∈ m) → l.length ≤ m.length
  | [], _, _, _ => Nat.zero_le _
  | x :: l, m, h, s => by
    obtain ⟨h1, h2⟩ := List.nodup_cons.mp h
    have hx := s x List.mem_cons_self
    have z := sub_len (l := l) (m := m.erase x) h2 fun y hy => (List.mem_erase_of_ne (fun e => h1 (by rw [← e]; exact hy))).mpr (s y (List.mem_cons_of_mem _ hy))
    rw [List.length_erase_of_mem hx] at z
    have : 0 < m.length := List.length_pos_of_mem hx
    rw [List.length_cons]
    omega
theorem pth_in {E : List Ed} {V : Str → Prop} {x : Str} (hx : V x) (hE : ∀ a b, (a, b) ∈ E → V b) {p : List Str} {v : Str} (h : Pth E x p v) : V v := by
  cases h with
  | one => exact hx
  | snoc k e => exact hE _ _ e
/-! ### offices, roads, rows: rules and promises -/
theorem sort_strs (xs : List Str) : sortD (xs.map V.str) (xs.map .str) = (xs.mergeSort fun a b => decide (a.cps.toList ≤ b.cps.toList)).map V.str := by
  have e1 : ((xs.map V.str).zip (xs.map PyData.str)) = xs.map fun x => (V.str x, PyData.str x) := by
    rw [List.zip_map]
    induction xs with
    | nil => rfl
    | cons x l ih =>
      rw [List.zip_cons_cons, List.map_cons, List.map_cons, ih]
      rfl
  unfold sortD
  rw [e1, ← PySem.W.sort_maps (r := fun a b => decide (a.cps.toList ≤ b.cps.toList)) (fun x : Str => (V.str x, PyData.str x)) (fun a _ b _ => (congrFun (congrFun (PySem.W.dataLe_str (β := Str) fun x => x) a) b).symm), List.map_map]
  rfl
theorem sorted_up {xs : List Str} (nd : xs.Nodup) : (xs.mergeSort fun a b => decide (a.cps.toList ≤ b.cps.toList)).Pairwise sl := by
  have up := List.pairwise_mergeSort (le := fun (a b : Str) => decide (a.cps.toList ≤ b.cps.toList)) (fun a b c h1 h2 => by rw [decide_eq_true_eq] at *; exact List.le_trans h1 h2) (fun a b => by rw [Bool.or_eq_true, decide_eq_true_eq, decide_eq_true_eq]; exact List.le_total _ _) xs
  have nd3 : (xs.mergeSort fun a b => decide (a.cps.toList ≤ b.cps.toList)).Nodup := (List.mergeSort_perm xs _).nodup_iff.mpr nd
  refine (up.and nd3).imp fun {a b} h => ?_
  have h1 := of_decide_eq_true h.1
  rcases sl_tot a b with z | z | z
  · exact z
  · exact absurd z h.2
  · exact absurd z (List.not_lt.mpr h1)
/-- sorted of a dict whose keys are texts -/
def rSortDS : List V → Hp → VK → Prop := fun xs H Q => ∃ (a : Addr) (kvs : List (Key × V)) (ks : List Str), xs = [.ref a] ∧ Rd H a (.dK kvs) ∧ kvs.map (·.1) = ks.map Sum.inr ∧ ks.Nodup ∧ ks.length ≤ 100000 ∧
  ∀ (ys : List Str) (p : Addr), ys.Pairwise sl → (∀ y, y ∈ ys ↔ y ∈ ks) → ys.length = ks.length → H p = none → Q (.ref p) (upd H p (.lst (ys.map V.str)))
theorem cr_sortDS {X : Cx} {k : Nat} (hr : Room k X.A) (calm : X.calm = true) : CallR X (.builtin "sorted") rSortDS := by
  intro pins s σ H xs us Q I r h
  obtain ⟨a, kvs, ks, rfl, hd, keys, nd, long, q⟩ := h
  rw [Vals.ref1 r]
  have un := hr.un
  obtain ⟨z, lo, vs, rel, dd⟩ := dk_rd I.hok hd
  obtain ⟨ep, at1⟩ := dd.dictAt
  have vkeys : vs.map (·.1) = ks.map Sum.inr := rel.keys.symm.trans keys
  have len1 : vs.length = ks.length := by simpa using congrArg List.length vkeys
  have line : ks.length ≤ sizeLine := Nat.le_trans long (by decide)
  refine (Calls.call_function_entry PyProof.Rows.kind_sorted PyProof.Rows.plain_sorted PyProof.Rows.entry_sorted (PyProof.Rows.args_sorted1 _) ?_); unfold Builtin.«sorted»
  refine (wpAny_bind (m := checkCount "sorted" 1 1 _) (wpAny_pure ?_))
  refine wpAny_bind (PySem.W.kdu_collect (A := X.A.in1) (PySem.W.kdl_dict (knd := mixKind X.prog X.w) (kvs := vs) (ep := ep) lo) (I.ok.hd calm) at1 (by rw [len1]; exact line) fun h1 tk acc keep got => ?_)
  have len2 : acc.toList.length = ks.length := by rw [Array.length_toList, got.1, len1]
  have each : PySem.W.EachIs (fun v (x : Str) => ∃ t, v = Value.str x t) acc.toList ks := by
    have go : ∀ (l : List Value) (m : List Str), l.length = m.length → (∀ j v, l[j]? = some v → ∃ x t, m[j]? = some x ∧ v = Value.str x t) → PySem.W.EachIs (fun v (x : Str) => ∃ t, v = Value.str x t) l m := fun l => by
      induction l with
      | nil =>
        intro m e _
        cases m with
        | nil => exact .nil
        | cons x m => cases e
      | cons v l ih =>
        intro m e f
        cases m with
        | nil => cases e
        | cons x m =>
          obtain ⟨x', t, h1, h2⟩ := f 0 v rfl
          cases Option.some.inj h1
          exact .cons ⟨t, h2⟩ (ih m (Nat.succ.inj e) fun j u hu => f (j + 1) u hu)
    refine go _ _ len2 fun j v e => ?_
    obtain ⟨kk, x, e1, e2⟩ := got.2 j v (by rw [← Array.getElem?_toList]; exact e)
    have e3 : (vs.map (·.1))[j]? = some kk := by rw [List.getElem?_map, e1]; rfl
    rw [vkeys, List.getElem?_map] at e3
    obtain ⟨y, e4, e5⟩ : ∃ y, ks[j]? = some y ∧ Sum.inr y = kk := by
      cases e4 : ks[j]? with
      | none => rw [e4] at e3; cases e3
      | some y => rw [e4] at e3; exact ⟨y, rfl, Option.some.inj e3⟩
    subst e5
    rcases keyIs_shape (show keyIs (Sum.inr y) v = true from e2) with ⟨i, t, ek, ev⟩ | ⟨z, t, ek, ev⟩
    · cases ek
    · cases ek
      exact ⟨y, t, e4, ev⟩
  have J : Inv X pins σ H { s with heap := h1, toks := tk } := I.kept keep
  refine wpAny_bind (wpAny_newList ?_ (by rw [len2]; exact line))
  have new : (h1.push (seqObj "list" acc.toList.toArray 0)).get? h1.objs.size = some (seqObj "list" acc.toList.toArray 0) := Heap.get?_push_size _ rfl
  show wpAny _ _ _ _ _ { s with toks := tk, heap := h1.push (seqObj "list" acc.toList.toArray 0) }
  refine wpAny_bind (wpAny_holding (PySem.W.list_sort_data (enc := fun x : Str => .str x) (R := fun v (x : Str) => ∃ t, v = Value.str x t) new each (each.mono fun v x ⟨t, e⟩ => ⟨[], by rw [e]; exact .str x t, fun z => nomatch z⟩) (fun d hd e he => ?_) (.inr fun d hd => ?_) (Nat.le_trans long (by decide)) (fun x _ => ?_) fun out ho eo => ?_))
  · obtain ⟨x, _, rfl⟩ := List.mem_map.mp hd
    obtain ⟨y, _, rfl⟩ := List.mem_map.mp he
    rfl
  · obtain ⟨x, _, rfl⟩ := List.mem_map.mp hd
    exact ⟨nofun, nofun⟩
  · show X.A.units + 1 + 1 + 0 < cLine
    omega
  have rv : Vals ((ks.mergeSort (PySem.W.dataLe false fun x : Str => .str x)).map V.str) out := by
    clear ho
    generalize ks.mergeSort (PySem.W.dataLe false fun x : Str => .str x) = ms at eo
    induction eo with
    | nil => exact .nil
    | cons r e ih => exact .cons r ih
  rw [PySem.W.dataLe_str (β := Str) fun x => x] at rv
  obtain ⟨en, at2⟩ := PyProof.Rows.sortedHeap_at (vs := acc.toList) (out := out.toArray) new
  have len3 : ((ks.mergeSort fun a b => decide (a.cps.toList ≤ b.cps.toList)).map V.str).length ≤ sizeLine := by rw [List.length_map, List.length_mergeSort]; exact line
  refine wpAny_pure ⟨_, rfl, .ref h1.objs.size, upd H _ (.lst ((ks.mergeSort fun a b => decide (a.cps.toList ≤ b.cps.toList)).map V.str)), J.laid (t' := tk) (fun b u e => ?_) (Nat.le_refl _) ⟨len3, out, en, rv, at2⟩, rfl, q _ _ (sorted_up nd) (fun y => List.mem_mergeSort) (List.length_mergeSort _) (J.hok.fresh (Nat.le_refl _))⟩
  have lt : b < h1.objs.size := Heap.lt_size e
  rw [PyProof.Rows.sortedHeap_old (Nat.ne_of_lt lt) (by rw [size_push']; exact Nat.lt_succ_of_lt lt)]
  exact (Heap.get?_push_of_some _ e)
/-- repr of data, of a number, of None -/
def rReprV (K : PySem.W.Frag) : List V → Hp → VK → Prop := fun xs H Q => (∃ (a : Addr) (d : PyData), xs = [.ref a] ∧ Dp K H (.ref a) d ∧ d.showable = true ∧ d.hasDict = false ∧ d.depth ≤ 60 ∧ d.shown.length ≤ sizeLine ∧ Q (.str d.shown) H) ∨
  (∃ i : Int, xs = [.int i] ∧ i.natAbs.log2 < 1920 ∧ Q (.str (toString i)) H) ∨ (xs = [.non] ∧ Q (.str (("None" : String) : Str)) H)
theorem cr_reprV {X : Cx} {k : Nat} (gu : X.A.guards = some []) (hr : Room k X.A) : CallR X (.builtin "repr") (rReprV X.K) := by
  intro pins s σ H vs us Q I r h
  rcases h with h | ⟨i, rfl, hz, q⟩ | ⟨rfl, q⟩
  · exact cr_repr gu hr pins s σ H vs us Q I r h
  · obtain ⟨u, rfl, t, rfl⟩ := vals1 r
    exact PySem.P.repr_of_int hz ⟨.str _, H, I.tok _, ⟨_, rfl⟩, q⟩
  · obtain ⟨u, rfl, ru⟩ := vals1 r
    cases ru
    exact call_repr_gives (s := s) rfl F.slot_NoneType_repr F.entry_NoneType_repr (F.args_NoneType_repr_1 _) gives_none_repr ⟨.str _, H, I.tok _, ⟨_, rfl⟩, q⟩
/-- x in a list (b) or tuple of data -/
def rInP (K : PySem.W.Frag) (neg b : Bool) : R2 := fun x y H Q => ∃ d ds, Dp K H x d ∧ Dp K H y (if b = true then .list ds else .tuple ds) ∧ d.plain = true ∧ PyData.plainAll ds = true ∧ d.depth ≤ 50 ∧ Q (.bl (xor neg (ds.any fun z => PyData.eqv z d))) H
section
variable {X : Cx} {k : Nat}
theorem op_inLP (hr : Room k X.A) : OpR X (compareOp .In) (rInP X.K false true) := by
  intro pins s σ H x y v u Q I rx ry h
  obtain ⟨d, ds, hd, he, p1, p2, dep, q⟩ := h
  have un := hr.un
  obtain ⟨as, r1⟩ := Dp.reads I d x v hd rx
  obtain ⟨bs, r2⟩ := Dp.reads I _ y u he ry
  rw [Bool.false_xor] at q
  exact PySem.SeqAt.in_list_data r2 r1 p2 p1 (by omega) ⟨.bl _, H, I, rfl, q⟩
theorem op_notinLP (hr : Room k X.A) : OpR X (compareOp .NotIn) (rInP X.K true true) := by
  intro pins s σ H x y v u Q I rx ry h
  obtain ⟨d, ds, hd, he, p1, p2, dep, q⟩ := h
  have un := hr.un
  obtain ⟨as, r1⟩ := Dp.reads I d x v hd rx
  obtain ⟨bs, r2⟩ := Dp.reads I _ y u he ry
  rw [Bool.true_xor] at q
  exact PySem.SeqAt.notIn_list_data r2 r1 p2 p1 (by omega) ⟨.bl _, H, I, rfl, q⟩
theorem op_inTP (hr : Room k X.A) : OpR X (compareOp .In) (rInP X.K false false) := by
  intro pins s σ H x y v u Q I rx ry h
  obtain ⟨d, ds, hd, he, p1, p2, dep, q⟩ := h
  have un := hr.un
  obtain ⟨as, r1⟩ := Dp.reads I d x v hd rx
  obtain ⟨bs, r2⟩ := Dp.reads I _ y u he ry
  rw [Bool.false_xor] at q
  exact PySem.SeqAt.in_tuple_data r2 r1 p2 p1 (by omega) ⟨.bl _, H, I, rfl, q⟩
end
/-! roads in the heap -/
def edV (e : Ed) : List V := [.str e.1, .str e.2]
def edD (e : Ed) : PyData := .tuple [.str e.1, .str e.2]
abbrev Rds (H : Hp) (ps : List Addr) (es : List Ed) : Prop := Paired (fun (p : Addr) (e : Ed) => H p = some (.tup (edV e))) ps es
theorem Rds.len {H : Hp} {ps : List Addr} {es : List Ed} (h : Rds H ps es) : ps.length = es.length := Paired.length h
theorem Rds.keep {H H' : Hp} : ∀ {ps : List Addr} {es : List Ed}, (∀ p o, (∀ z, o ≠ HO.lst z) → (∀ z, o ≠ HO.dK z) → (∀ z, o ≠ HO.dT z) → H p = some o → H' p = some o) → Rds H ps es → Rds H' ps es
  | _, _, _, .nil => .nil
  | _, _, k, .cons a b => .cons (k _ _ (fun z => nofun) (fun z => nofun) (fun z => nofun) a) (Rds.keep k b)
theorem Rds.same {H H' : Hp} {ps : List Addr} {es : List Ed} (s : Same H H') (h : Rds H ps es) : Rds H' ps es := Rds.keep (fun p o _ _ _ e => s p o e) h
theorem Rds.put {H : Hp} {l : Addr} {xs : List V} {o : HO} {ps : List Addr} {es : List Ed} (hl : H l = some (.lst xs)) (h : Rds H ps es) : Rds (upd H l o) ps es :=
  Rds.keep (fun p u n1 _ _ e => by rw [upd_ne (ne_of e hl (n1 _))]; exact e) h
theorem Rds.but {H H' : Hp} {f c : Addr} {n : Int} {ps : List Addr} {es : List Ed} (hf : Fd H f c n) (b : But f H H') (h : Rds H ps es) : Rds H' ps es := by
  obtain ⟨zs, hz⟩ := hf.at
  exact Rds.keep (fun p o n1 _ _ e => b p o (ne_of e hz (n1 zs)) e) h
theorem Rds.app {H : Hp} : ∀ {ps qs : List Addr} {es ts : List Ed}, Rds H ps es → Rds H qs ts → Rds H (ps ++ qs) (es ++ ts)
  | _, _, _, _, .nil, b => b
  | _, _, _, _, .cons a r, b => .cons a (Rds.app r b)
theorem Rds.get {H : Hp} : ∀ {ps : List Addr} {es : List Ed} {i : Nat} {p : Addr}, Rds H ps es → ps[i]? = some p → ∃ e, es[i]? = some e ∧ H p = some (.tup (edV e))
  | _, _, 0, _, .cons a _, h => by
    cases h
    exact ⟨_, rfl, a⟩
  | _, _, i + 1, p, .cons _ b, h => Rds.get (i := i) (p := p) b h
theorem Rds.dp {K : PySem.W.Frag} {H : Hp} : ∀ {ps : List Addr} {es : List Ed}, Rds H ps es → DpAll K H (ps.map V.ref) (es.map edD)
  | _, _, .nil => .nil
  | _, _, .cons a b => .cons (.tup (SqT.of a) (.cons (.str _) (.cons (.str _) .nil))) (Rds.dp b)
theorem Rds.take {H : Hp} : ∀ {ps : List Addr} {rs : List Ed} (n : Nat), Rds H ps rs → Rds H (ps.take n) (rs.take n)
  | _, _, 0, _ => .nil
  | _, _, _ + 1, .nil => .nil
  | _, _, n + 1, .cons a b => .cons a (Rds.take n b)
abbrev Wt := Str × Int
def wtV (e : Wt) : List V := [.str e.1, .int e.2]
def wtD (e : Wt) : PyData := .tuple [.str e.1, .int e.2]
abbrev Wts (H : Hp) (ps : List Addr) (es : List Wt) : Prop := Paired (fun (p : Addr) (e : Wt) => H p = some (.tup (wtV e))) ps es
theorem Wts.keep {H H' : Hp} : ∀ {ps : List Addr} {es : List Wt}, (∀ p o, (∀ z, o ≠ HO.lst z) → H p = some o → H' p = some o) → Wts H ps es → Wts H' ps es
  | _, _, _, .nil => .nil
  | _, _, k, .cons a b => .cons (k _ _ (fun z => nofun) a) (Wts.keep k b)
theorem Wts.same {H H' : Hp} {ps : List Addr} {es : List Wt} (s : Same H H') (h : Wts H ps es) : Wts H' ps es := Wts.keep (fun p o _ e => s p o e) h
theorem Wts.put {H : Hp} {l : Addr} {xs : List V} {o : HO} {ps : List Addr} {es : List Wt} (hl : H l = some (.lst xs)) (h : Wts H ps es) : Wts (upd H l o) ps es :=
  Wts.keep (fun p u n1 e => by rw [upd_ne (ne_of e hl (n1 _))]; exact e) h
theorem Wts.but {H H' : Hp} {f c : Addr} {n : Int} {ps : List Addr} {es : List Wt} (hf : Fd H f c n) (b : But f H H') (h : Wts H ps es) : Wts H' ps es := by
  obtain ⟨zs, hz⟩ := hf.at
  exact Wts.keep (fun p o n1 e => b p o (ne_of e hz (n1 zs)) e) h
theorem Wts.app {H : Hp} : ∀ {ps qs : List Addr} {es ts : List Wt}, Wts H ps es → Wts H qs ts → Wts H (ps ++ qs) (es ++ ts)
  | _, _, _, _, .nil, b => b
  | _, _, _, _, .cons a r, b => .cons a (Wts.app r b)
theorem Wts.len {H : Hp} {ps : List Addr} {es : List Wt} (h : Wts H ps es) : ps.length = es.length := Paired.length h
theorem Wts.dp {K : PySem.W.Frag} {H : Hp} : ∀ {ps : List Addr} {es : List Wt}, Wts H ps es → DpAll K H (ps.map V.ref) (es.map wtD)
  | _, _, .nil => .nil
  | _, _, .cons a b => .cons (.tup (SqT.of a) (.cons (.str _) (.cons (.int _) .nil))) (Wts.dp b)
/-- the office at o: worths ws, roads E -/
def OfAt (H : Hp) (o : Addr) (ws : List Wt) (E : List Ed) : Prop := ∃ (w r : Addr) (wp rp : List Addr), H o = some (.tup [.ref w, .ref r]) ∧ H w = some (.tup (wp.map V.ref)) ∧ H r = some (.tup (rp.map V.ref)) ∧ Wts H wp ws ∧ Rds H rp E
theorem OfAt.same {H H' : Hp} {o : Addr} {ws : List Wt} {E : List Ed} (s : Same H H') (h : OfAt H o ws E) : OfAt H' o ws E := by
  obtain ⟨w, r, wp, rp, h1, h2, h3, h4, h5⟩ := h
  exact ⟨w, r, wp, rp, s _ _ h1, s _ _ h2, s _ _ h3, h4.same s, h5.same s⟩
theorem OfAt.but {H H' : Hp} {f c : Addr} {n : Int} {o : Addr} {ws : List Wt} {E : List Ed} (hf : Fd H f c n) (b : But f H H') (h : OfAt H o ws E) : OfAt H' o ws E := by
  obtain ⟨w, r, wp, rp, h1, h2, h3, h4, h5⟩ := h
  obtain ⟨zs, hz⟩ := hf.at
  have t : ∀ {a : Addr} {xs : List V}, H a = some (.tup xs) → H' a = some (.tup xs) := fun e => b _ _ (ne_of e hz (fun z => nomatch z)) e
  exact ⟨w, r, wp, rp, t h1, t h2, t h3, h4.but hf b, h5.but hf b⟩
def ofD (ws : List Wt) (E : List Ed) : PyData := .tuple [.tuple (ws.map wtD), .tuple (E.map edD)]
theorem OfAt.dp {K : PySem.W.Frag} {H : Hp} {o : Addr} {ws : List Wt} {E : List Ed} (h : OfAt H o ws E) : Dp K H (.ref o) (ofD ws E) := by
  obtain ⟨w, r, wp, rp, h1, h2, h3, h4, h5⟩ := h
  exact .tup (SqT.of h1) (.cons (.tup (SqT.of h2) h4.dp) (.cons (.tup (SqT.of h3) h5.dp) .nil))
/-- the rows of a search, in a dict -/
abbrev RwAt (H : Hp) (kvs : List (Key × V)) (es : List En) : Prop := Paired (fun (kv : Key × V) (e : En) => kv.1 = Sum.inr e.1 ∧ ∃ a, kv.2 = .ref a ∧ H a = some (.tup (e.2.map V.str))) kvs es
theorem RwAt.keep {H H' : Hp} : ∀ {kvs : List (Key × V)} {es : List En}, (∀ p o, (∀ z, o ≠ HO.lst z) → (∀ z, o ≠ HO.dK z) → H p = some o → H' p = some o) → RwAt H kvs es → RwAt H' kvs es
  | _, _, _, .nil => .nil
  | _, _, k, .cons ⟨a1, a, a2, a3⟩ b => .cons ⟨a1, a, a2, k _ _ (fun z => nofun) (fun z => nofun) a3⟩ (RwAt.keep k b)
theorem RwAt.same {H H' : Hp} {kvs : List (Key × V)} {es : List En} (s : Same H H') (h : RwAt H kvs es) : RwAt H' kvs es := RwAt.keep (fun p o _ _ e => s p o e) h
theorem RwAt.app {H : Hp} : ∀ {kvs lvs : List (Key × V)} {es fs : List En}, RwAt H kvs es → RwAt H lvs fs → RwAt H (kvs ++ lvs) (es ++ fs)
  | _, _, _, _, .nil, b => b
  | _, _, _, _, .cons a r, b => .cons a (RwAt.app r b)
theorem RwAt.keys {H : Hp} : ∀ {kvs : List (Key × V)} {es : List En}, RwAt H kvs es → kvs.map (·.1) = (es.map (·.1)).map Sum.inr
  | _, _, .nil => rfl
  | _, _, .cons a b => by
    rw [List.map_cons, List.map_cons, List.map_cons, a.1, RwAt.keys b]
theorem RwAt.val {H : Hp} : ∀ {kvs : List (Key × V)} {es : List En} (y : Str), RwAt H kvs es → (∃ e ∈ es, e.1 = y ∧ ∃ a, valV kvs (Sum.inr y) = some (.ref a) ∧ H a = some (.tup (e.2.map V.str))) ∨ ((∀ e ∈ es, e.1 ≠ y) ∧ valV kvs (Sum.inr y) = none)
  | _, _, y, .nil => .inr ⟨fun _ h => (nomatch h), rfl⟩
  | _, _, y, .cons (a := kv) (b := e) ⟨a1, a, a2, a3⟩ b => by
    by_cases c : e.1 = y
    · refine .inl ⟨e, List.mem_cons_self, c, a, ?_, a3⟩
      rw [valV_pos (by rw [a1, c]), a2]
    · have n : ¬ kv.1 = Sum.inr y := fun z => c (Sum.inr.inj (a1.symm.trans z))
      rcases RwAt.val y b with ⟨f, f1, f2, a', f3, f4⟩ | ⟨f1, f2⟩
      · exact .inl ⟨f, List.mem_cons_of_mem _ f1, f2, a', by rw [valV_neg n]; exact f3, f4⟩
      · refine .inr ⟨fun f hf => ?_, by rw [valV_neg n]; exact f2⟩
        rcases List.mem_cons.mp hf with rfl | hf
        · exact c
        · exact f1 f hf
def spRows : Sp := fun vs H Q _ => ∃ (o : Addr) (x : Str) (ws : List Wt) (E : List Ed), vs = [.ref o, .str x] ∧ OfAt H o ws E ∧ E.length ≤ 16 ∧
  ∀ (r : Addr) (kvs : List (Key × V)) (es : List En) (k : Nat) (H' : Hp), Same H H' → H r = none → H' r = some (.dK kvs) → RwAt H' kvs es → Bfs E x es k → es.length ≤ k → es.length ≤ 17 → (∀ e ∈ es, e.2.length ≤ 17) → Q (.ref r) H'
def spReach : Sp := fun vs H Q _ => ∃ (o : Addr) (x : Str) (ws : List Wt) (E : List Ed), vs = [.ref o, .str x] ∧ OfAt H o ws E ∧ E.length ≤ 16 ∧
  ∀ (t : Addr) (ys : List Str) (H' : Hp), Same H H' → H t = none → H' t = some (.tup (ys.map V.str)) → ys.Pairwise sl → (∀ y, y ∈ ys ↔ ∃ n, Wlk E n x y) → ys.length ≤ 17 → Q (.ref t) H'
/-- what road_row tells -/
def RowV (H : Hp) (E : List Ed) (x y : Str) (v : V) : Prop := (v = .non ∧ ∀ n, ¬ Wlk E n x y) ∨ ∃ (t : Addr) (p : List Str) (n : Nat), v = .ref t ∧ H t = some (.tup (p.map V.str)) ∧ Pth E x p y ∧ p.length = n + 1 ∧ Least E x y n ∧ n ≤ 17
def spRow : Sp := fun vs H Q _ => ∃ (o : Addr) (x y : Str) (ws : List Wt) (E : List Ed), vs = [.ref o, .str x, .str y] ∧ OfAt H o ws E ∧ E.length ≤ 16 ∧ ∀ (v : V) (H' : Hp), Same H H' → RowV H' E x y v → Q v H'
def spFar : Sp := fun vs H Q _ => ∃ (o : Addr) (x y : Str) (ws : List Wt) (E : List Ed), vs = [.ref o, .str x, .str y] ∧ OfAt H o ws E ∧ E.length ≤ 16 ∧ ∀ (v : V) (H' : Hp), Same H H' → ((v = .non ∧ ∀ n, ¬ Wlk E n x y) ∨ ∃ n : Nat, v = .int n ∧ Least E x y n) → Q v H'
/-! ### the law's own side: tapes, offices, places, what is apart -/
def spDrawT : Sp := fun vs H Q _ => ∃ (f c : Addr) (m n : Int), vs = [.ref f, .int m] ∧ Fd H f c n ∧ n ≤ 1000000 ∧ 0 < m ∧ m ≤ 1000000000 ∧
  ∀ (d : Int) (H' : Hp), 0 ≤ d → d < m → Fd H' f c (n + 1) → But f H H' → Q (.int d) H'
def gWords : List Str := [("a" : String), ("ab" : String), ("abc" : String), ("bank" : String), ("n" : String), ("nonea" : String), ("press" : String), ("zzzzzzzz" : String), ("nom" : String), ("b" : String)]
def gNone : Str := (("none" : String) : Str)
theorem gw_ok : ∀ x ∈ gWords, NmOk x ∧ x ≠ gNone := by
  intro x hx
  simp only [gWords, List.mem_cons, List.not_mem_nil, or_false] at hx
  rcases hx with rfl | rfl | rfl | rfl | rfl | rfl | rfl | rfl | rfl | rfl <;> exact ⟨⟨by decide +kernel, by decide +kernel⟩, by decide +kernel⟩
theorem gn_ok : NmOk gNone := ⟨by decide +kernel, by decide +kernel⟩
def EdOk (e : Ed) : Prop := NmOk e.1 ∧ NmOk e.2 ∧ e.1 ≠ e.2
def WtOk (w : Wt) : Prop := NmOk w.1 ∧ 0 ≤ w.2 ∧ w.2 ≤ 1000000
structure OfOk (ws : List Wt) (E : List Ed) : Prop where
  le : E.length ≤ 16
  ed : ∀ e ∈ E, EdOk e
  lw : ws.length ≤ 4
  wt : ∀ w ∈ ws, WtOk w
def spOffice : Sp := fun vs H Q _ => ∃ (f c : Addr) (n : Int), vs = [.ref f] ∧ Fd H f c n ∧ n ≤ 900000 ∧
  ∀ (o : Addr) (ws : List Wt) (E : List Ed) (H' : Hp), Fd H' f c (n + 200) → But f H H' → H o = none → OfAt H' o ws E → OfOk ws E → Q (.ref o) H'
theorem inV_strs (x : Str) (xs : List Str) : inV (.str x) (xs.map V.str) = decide (x ∈ xs) := by
  unfold inV
  rw [List.any_map, Bool.eq_iff_iff, List.any_eq_true, decide_eq_true_eq]
  constructor
  · rintro ⟨y, hy, e⟩
    have e : (y == x) = true := e
    rw [← beq_iff_eq.mp e]
    exact hy
  · intro h
    exact ⟨x, h, beq_iff_eq.mpr rfl⟩
theorem flat_strs' (xs : List Str) : (xs.map V.str).all flatV = true := by
  rw [List.all_map, List.all_eq_true]
  exact fun _ _ => rfl
/-- the places of roads, none first -/
def plc (E : List Ed) (y : Str) : Prop := y = gNone ∨ ∃ e ∈ E, y = e.1 ∨ y = e.2
def spPlaces : Sp := fun vs H Q _ => ∃ (o : Addr) (ws : List Wt) (E : List Ed), vs = [.ref o] ∧ OfAt H o ws E ∧ OfOk ws E ∧
  ∀ (l : Addr) (pl : List Str) (H' : Hp), Same H H' → H l = none → H' l = some (.lst (pl.map V.str)) → pl.Pairwise sl → (∀ y, y ∈ pl ↔ plc E y) → pl.length ≤ 33 → Q (.ref l) H'
def apOf (d : Ap) (kvs : List (List Key × V)) : Prop := ∀ x y, valV kvs [Sum.inr x, Sum.inr y] = (d x y).map fun (n : Nat) => V.int n
theorem apOf_put {d d' : Ap} {kvs : List (List Key × V)} {x y : Str} {n : Nat} (h : apOf d kvs) (h1 : d' x y = some n) (h2 : ∀ u v, ¬ (u = x ∧ v = y) → d' u v = d u v) : apOf d' (putK kvs [Sum.inr x, Sum.inr y] (.int n)) := fun u v => by
  rw [valV_put]
  by_cases c : u = x ∧ v = y
  · rw [c.1, c.2, if_pos rfl, h1]
    rfl
  · have ne : ¬ ([Sum.inr u, Sum.inr v] : List Key) = [Sum.inr x, Sum.inr y] := fun z => by
      injection z with z1 z2
      injection z2 with z2 _
      exact c ⟨Sum.inr.inj z1, Sum.inr.inj z2⟩
    rw [if_neg ne, h, h2 u v c]
def spApt : Sp := fun vs H Q _ => ∃ (o : Addr) (ws : List Wt) (E : List Ed), vs = [.ref o] ∧ OfAt H o ws E ∧ OfOk ws E ∧
  ∀ (a : Addr) (kvs : List (List Key × V)) (d : Ap) (H' : Hp), Same H H' → H a = none → H' a = some (.dT kvs) → apOf d kvs → FwOk E (plc E) (plc E) d → Q (.ref a) H'
theorem fw_col {d : Ap} {v x : Str} (h : d v v = some 0) : fwStep d v x v = d x v := by
  cases e : d x v with
  | none => exact (fw_none (.inl e)).trans e
  | some a =>
    rw [fw_val e h, e, Nat.add_zero]
    unfold fwMin
    dsimp only
    rw [if_neg (Nat.lt_irrefl _)]
theorem fw_row {d : Ap} {v y : Str} (h : d v v = some 0) : fwStep d v v y = d v y := by
  cases e : d v y with
  | none => exact (fw_none (.inr e)).trans e
  | some a =>
    rw [fw_val h e, e, Nat.zero_add]
    unfold fwMin
    dsimp only
    rw [if_neg (Nat.lt_irrefl _)]
theorem fwMin_again (o : Option Nat) (n : Nat) : fwMin (some (fwMin o n)) n = fwMin o n := by
  have z := fwMin_le o n
  show (if n < fwMin o n then n else fwMin o n) = _
  rw [if_neg (by omega)]
def spIsRow : Sp := fun vs H Q _ => ∃ (o t : Addr) (x y : Str) (n : Nat) (ws : List Wt) (E : List Ed) (p : List Str), vs = [.ref o, .str x, .str y, .int n, .ref t] ∧ OfAt H o ws E ∧ OfOk ws E ∧ H t = some (.tup (p.map V.str)) ∧ Pth E x p y ∧ p.length = n + 1 ∧ n ≤ 1000 ∧
  ∀ H', Same H H' → Q (.bl true) H'
def spRightO : Sp := fun vs H Q _ => ∃ (o : Addr) (ws : List Wt) (E : List Ed), vs = [.ref o] ∧ OfAt H o ws E ∧ OfOk ws E ∧ ∀ H', Same H H' → Q (.bl true) H'
theorem ed_plain (E : List Ed) : PyData.plainAll (E.map edD) = true := by
  induction E with
  | nil => rfl
  | cons e l ih =>
    rw [List.map_cons]
    simp only [PyData.plainAll, ih, edD, PyData.plain, Bool.and_self]
theorem ed_eqv (a b : Ed) : PyData.eqv (edD a) (edD b) = decide (a = b) := by
  obtain ⟨a1, a2⟩ := a
  obtain ⟨b1, b2⟩ := b
  rw [Bool.eq_iff_iff]
  simp [edD, PyData.eqv, PyData.eqvAll]
theorem ed_any (E : List Ed) (e : Ed) : ((E.map edD).any fun z => PyData.eqv z (edD e)) = decide (e ∈ E) := by
  rw [List.any_map, Bool.eq_iff_iff, List.any_eq_true, decide_eq_true_eq]
  constructor
  · rintro ⟨y, hy, k⟩
    have k : PyData.eqv (edD y) (edD e) = true := k
    rw [ed_eqv, decide_eq_true_eq] at k
    rw [← k]
    exact hy
  · intro h
    refine ⟨e, h, ?_⟩
    show PyData.eqv (edD e) (edD e) = true
    rw [ed_eqv, decide_eq_true rfl]
theorem ed_dep (e : Ed) : (edD e).depth ≤ 50 := by
  simp [edD, PyData.depth, PyData.depthAll]
theorem nm_fine {x : Str} (h : NmOk x) : fineD (.str x) = true ∧ cost (.str x) ≤ 82 := by
  refine ⟨h.2, ?_⟩
  have := h.1
  show 10 * x.length + 2 ≤ 82
  omega
theorem eds_fine : ∀ E : List Ed, (∀ e ∈ E, EdOk e) → fineAll (E.map edD) = true ∧ costAll (E.map edD) ≤ 200 * E.length
  | [], _ => ⟨rfl, Nat.le_refl _⟩
  | e :: E, h => by
    obtain ⟨z1, z2⟩ := eds_fine E fun s hs => h s (List.mem_cons_of_mem _ hs)
    obtain ⟨a1, a2, _⟩ := h e List.mem_cons_self
    obtain ⟨b1, b2⟩ := nm_fine a1
    obtain ⟨c1, c2⟩ := nm_fine a2
    refine ⟨?_, ?_⟩
    · rw [List.map_cons]
      unfold fineAll
      rw [z1]
      show ((fineD (.str e.1) && (fineD (.str e.2) && true)) && true) = true
      rw [b1, c1]
      rfl
    · rw [List.map_cons, List.length_cons]
      unfold costAll
      have e1 : cost (edD e) = (cost (.str e.1) + 2 + (cost (.str e.2) + 2 + 0)) + 3 := rfl
      omega
theorem wts_fine : ∀ ws : List Wt, (∀ w ∈ ws, WtOk w) → fineAll (ws.map wtD) = true ∧ costAll (ws.map wtD) ≤ 3000 * ws.length
  | [], _ => ⟨rfl, Nat.le_refl _⟩
  | e :: E, h => by
    obtain ⟨z1, z2⟩ := wts_fine E fun s hs => h s (List.mem_cons_of_mem _ hs)
    obtain ⟨a1, a2, a3⟩ := h e List.mem_cons_self
    obtain ⟨b1, b2⟩ := nm_fine a1
    refine ⟨?_, ?_⟩
    · rw [List.map_cons]
      unfold fineAll
      rw [z1]
      show ((fineD (.str e.1) && (fineD (.int e.2) && true)) && true) = true
      rw [b1, int_fine (by omega) (by omega)]
      rfl
    · rw [List.map_cons, List.length_cons]
      unfold costAll
      have e1 : cost (wtD e) = (cost (.str e.1) + 2 + (2000 + 2 + 0)) + 3 := rfl
      omega
theorem of_fine {ws : List Wt} {E : List Ed} (h : OfOk ws E) : fineD (ofD ws E) = true ∧ cost (ofD ws E) ≤ 20000 := by
  obtain ⟨a1, a2⟩ := wts_fine ws h.wt
  obtain ⟨b1, b2⟩ := eds_fine E h.ed
  have l1 := h.le
  have l2 := h.lw
  refine ⟨?_, ?_⟩
  · show (fineAll (ws.map wtD) && (fineAll (E.map edD) && true)) = true
    rw [a1, b1]
    rfl
  · have e1 : cost (ofD ws E) = ((costAll (ws.map wtD) + 3) + 2 + ((costAll (E.map edD) + 3) + 2 + 0)) + 3 := rfl
    omega
theorem of_depth (ws : List Wt) (E : List Ed) : (ofD ws E).depth ≤ 10 := by
  have d1 : PyData.depthAll (ws.map wtD) ≤ 3 := by
    induction ws with
    | nil => simp [PyData.depthAll]
    | cons s l ih => rw [List.map_cons]; simp only [PyData.depthAll, wtD, PyData.depth] at *; omega
  have d2 : PyData.depthAll (E.map edD) ≤ 3 := by
    induction E with
    | nil => simp [PyData.depthAll]
    | cons s l ih => rw [List.map_cons]; simp only [PyData.depthAll, edD, PyData.depth] at *; omega
  simp only [ofD, PyData.depth, PyData.depthAll]
  omega
def strsD (xs : List Str) : PyData := .tuple (xs.map .str)
theorem strs_dp {K : PySem.W.Frag} {H : Hp} {t : Addr} {xs : List Str} (h : SqT K H t (xs.map V.str)) : Dp K H (.ref t) (strsD xs) := by
  refine .tup h ?_
  clear h
  induction xs with
  | nil => exact .nil
  | cons x l ih => exact .cons (.str x) ih
theorem strs_show {xs : List Str} (h : ∀ x ∈ xs, NmOk x) (hl : xs.length ≤ 100) : (strsD xs).showable = true ∧ (strsD xs).hasDict = false ∧ (strsD xs).depth ≤ 60 ∧ (strsD xs).shown.length ≤ sizeLine := by
  have all : ∀ l : List Str, (∀ x ∈ l, NmOk x) → fineAll (l.map .str) = true ∧ costAll (l.map .str) ≤ 84 * l.length := fun l => by
    induction l with
    | nil => exact fun _ => ⟨rfl, Nat.le_refl _⟩
    | cons x l ih =>
      intro h
      obtain ⟨z1, z2⟩ := ih fun y hy => h y (List.mem_cons_of_mem _ hy)
      obtain ⟨b1, b2⟩ := nm_fine (h x List.mem_cons_self)
      refine ⟨?_, ?_⟩
      · rw [List.map_cons]
        unfold fineAll
        rw [b1, z1]
        rfl
      · rw [List.map_cons, List.length_cons]
        unfold costAll
        omega
  obtain ⟨z1, z2⟩ := all xs h
  have f : fineD (strsD xs) = true := z1
  have c := shown_cost _ f
  have e : cost (strsD xs) = costAll (xs.map .str) + 3 := rfl
  have d : PyData.depthAll (xs.map .str) ≤ 1 := by
    clear z1 z2 f c e h hl
    induction xs with
    | nil => simp [PyData.depthAll]
    | cons s l ih => rw [List.map_cons]; simp only [PyData.depthAll, PyData.depth] at *; omega
  obtain ⟨s1, s2⟩ := fine_show _ f
  refine ⟨s1, s2, ?_, Nat.le_trans c (Nat.le_trans (show _ ≤ 100000 by omega) (by decide))⟩
  simp only [strsD, PyData.depth]
  omega
theorem ups_same {a b : List Str} (ha : a.Pairwise sl) (hb : b.Pairwise sl) (h : ∀ y, y ∈ a ↔ y ∈ b) : a = b := by
  have na : a.Nodup := ha.imp fun {x y} (h : sl x y) (e : x = y) => sl_irr y (by rw [e] at h; exact h)
  have nb : b.Nodup := hb.imp fun {x y} (h : sl x y) (e : x = y) => sl_irr y (by rw [e] at h; exact h)
  have hp : a.Perm b := (List.perm_ext_iff_of_nodup na nb).mpr h
  exact List.Perm.eq_of_pairwise (le := fun x y => sl x y) (fun x y _ _ h1 h2 => (sl_as h1 h2).elim) ha hb hp
theorem ints_all' {K : PySem.W.Frag} {H : Hp} : ∀ ns : List Int, DpAll K H (ns.map V.int) (ns.map .int)
  | [] => .nil
  | n :: ns => .cons (.int n) (ints_all' ns)
theorem ints_plain (ns : List Int) : (PyData.list (ns.map .int)).plain = true := by
  have all : PyData.plainAll (ns.map .int) = true := by
    induction ns with
    | nil => rfl
    | cons n l ih => rw [List.map_cons]; simp only [PyData.plainAll, PyData.plain, ih, Bool.and_self]
  exact all
theorem ints_depth (ns : List Int) : (PyData.list (ns.map .int)).depth ≤ 60 := by
  have d : PyData.depthAll (ns.map .int) ≤ 1 := by
    induction ns with
    | nil => simp [PyData.depthAll]
    | cons s l ih => rw [List.map_cons]; simp only [PyData.depthAll, PyData.depth] at *; omega
  simp only [PyData.depth]
  omega
theorem strs_all {K : PySem.W.Frag} {H : Hp} : ∀ xs : List Str, DpAll K H (xs.map V.str) (xs.map .str)
  | [] => .nil
  | x :: xs => .cons (.str x) (strs_all xs)
theorem strs_alike (xs : List Str) : PySem.W.AllAlike (xs.map .str) := by
  intro d hd e he
  obtain ⟨a, _, rfl⟩ := List.mem_map.mp hd
  obtain ⟨b, _, rfl⟩ := List.mem_map.mp he
  rfl
theorem strs_sortable (xs : List Str) : PySem.W.Sortable (xs.map .str) := by
  refine Or.inr fun d hd => ?_
  obtain ⟨a, _, rfl⟩ := List.mem_map.mp hd
  exact ⟨nofun, nofun⟩
theorem strs_flat (xs : List Str) : ∀ d ∈ xs.map PyData.str, d.depth ≤ 60 := by
  intro d hd
  obtain ⟨a, _, rfl⟩ := List.mem_map.mp hd
  exact Nat.zero_le _
/-! ### how an office is drawn -/
theorem sort_ed {H : Hp} {ps : List Addr} {rs : List Ed} (h : Rds H ps rs) : ∃ (qs : List Addr) (es : List Ed), sortD (ps.map V.ref) (rs.map edD) = qs.map V.ref ∧ Rds H qs es ∧ es.length = rs.length ∧ ∀ e ∈ es, e ∈ rs := by
  have hl := h.len
  have e1 : ((ps.map V.ref).zip (rs.map edD)) = (ps.zip rs).map (fun x => (V.ref x.1, edD x.2)) := by
    rw [List.zip_map]
    rfl
  refine ⟨((ps.zip rs).mergeSort (fun x y => PySem.W.dataLe false Prod.snd (V.ref x.1, edD x.2) (V.ref y.1, edD y.2))).map Prod.fst, ((ps.zip rs).mergeSort (fun x y => PySem.W.dataLe false Prod.snd (V.ref x.1, edD x.2) (V.ref y.1, edD y.2))).map Prod.snd, ?_, ?_, ?_, fun e he => ?_⟩
  · unfold sortD
    rw [e1, ← PySem.W.sort_maps (r := fun x y => PySem.W.dataLe false Prod.snd (V.ref x.1, edD x.2) (V.ref y.1, edD y.2)) (fun x : Addr × Ed => (V.ref x.1, edD x.2)) (fun _ _ _ _ => rfl), List.map_map, List.map_map]
    rfl
  · have at_ : ∀ x ∈ ps.zip rs, H x.1 = some (.tup (edV x.2)) := by
      clear e1 hl
      induction h with
      | nil => exact fun x hx => nomatch hx
      | cons a b ih =>
        intro x hx
        rcases List.mem_cons.mp hx with z | z
        · subst z
          exact a
        · exact ih x z
    have all : ∀ l : List (Addr × Ed), (∀ x ∈ l, H x.1 = some (.tup (edV x.2))) → Rds H (l.map Prod.fst) (l.map Prod.snd) := fun l => by
      induction l with
      | nil => exact fun _ => .nil
      | cons x l ih => exact fun k => .cons (k x List.mem_cons_self) (ih fun y hy => k y (List.mem_cons_of_mem _ hy))
    exact all _ fun x hx => at_ x (List.mem_mergeSort.mp hx)
  · rw [List.length_map, List.length_mergeSort, List.length_zip]
    omega
  · obtain ⟨x, hx, rfl⟩ := List.mem_map.mp he
    exact (List.of_mem_zip (List.mem_mergeSort.mp hx)).2
theorem eds_alike (rs : List Ed) : PySem.W.AllAlike (rs.map edD) := by
  intro d hd e he
  obtain ⟨a, _, rfl⟩ := List.mem_map.mp hd
  obtain ⟨b, _, rfl⟩ := List.mem_map.mp he
  simp [edD, PySem.W.alike, PySem.W.alikeAll]
theorem eds_sortable (rs : List Ed) : PySem.W.Sortable (rs.map edD) := by
  refine Or.inl fun d hd => ?_
  obtain ⟨a, _, rfl⟩ := List.mem_map.mp hd
  exact ⟨_, _, rfl⟩
theorem eds_flat (rs : List Ed) : ∀ d ∈ rs.map edD, d.depth ≤ 60 := by
  intro d hd
  obtain ⟨a, _, rfl⟩ := List.mem_map.mp hd
  simp [edD, PyData.depth, PyData.depthAll]
theorem eds_depth (E : List Ed) : (PyData.list (E.map edD)).depth ≤ 60 := by
  have d2 : PyData.depthAll (E.map edD) ≤ 3 := by
    induction E with
    | nil => simp [PyData.depthAll]
    | cons s l ih => rw [List.map_cons]; simp only [PyData.depthAll, edD, PyData.depth] at *; omega
  simp only [PyData.depth]
  omega
theorem Rds.mk1 {H : Hp} {p : Addr} {e : Ed} (h : H p = some (.tup (edV e))) : Rds H [p] [e] := .cons h .nil
theorem Wts.mk1 {H : Hp} {p : Addr} {e : Wt} (h : H p = some (.tup (wtV e))) : Wts H [p] [e] := .cons h .nil
theorem few8 {d : Int} (h0 : 0 ≤ d) (h1 : d < 8) : ∃ k : Int, 2 ≤ k ∧ k ≤ 8 ∧ atI [V.int 2, .int 3, .int 4, .int 5, .int 3, .int 4, .int 8, .int 6] d = some (.int k) := by
  rcases (show d = 0 ∨ d = 1 ∨ d = 2 ∨ d = 3 ∨ d = 4 ∨ d = 5 ∨ d = 6 ∨ d = 7 by omega) with rfl | rfl | rfl | rfl | rfl | rfl | rfl | rfl <;> exact ⟨_, by decide, by decide, rfl⟩
theorem few4 {d : Int} (h0 : 0 ≤ d) (h1 : d < 4) : ∃ k : Int, 1 ≤ k ∧ k ≤ 9 ∧ atI [V.int 1, .int 3, .int 7, .int 9] d = some (.int k) := by
  rcases (show d = 0 ∨ d = 1 ∨ d = 2 ∨ d = 3 by omega) with rfl | rfl | rfl | rfl <;> exact ⟨_, by decide, by decide, rfl⟩
theorem fewW {d m : Int} (h0 : 0 ≤ d) (h1 : d < 4) (m0 : 0 ≤ m) (m1 : m < 1000) : ∃ k : Int, 0 ≤ k ∧ k ≤ 1000000 ∧ atI [V.int 1, .int 5, .int 1000000, .int (1 + m)] d = some (.int k) := by
  rcases (show d = 0 ∨ d = 1 ∨ d = 2 ∨ d = 3 by omega) with rfl | rfl | rfl | rfl
  · exact ⟨1, by decide, by decide, rfl⟩
  · exact ⟨5, by decide, by decide, rfl⟩
  · exact ⟨1000000, by decide, by decide, rfl⟩
  · exact ⟨1 + m, by omega, by omega, rfl⟩
def gSer : List Str := [("a" : String), ("aa" : String), ("none" : String), ("x" : String)]
theorem gs_ok : ∀ x ∈ gSer, NmOk x := by
  intro x hx
  simp only [gSer, List.mem_cons, List.not_mem_nil, or_false] at hx
  rcases hx with rfl | rfl | rfl | rfl <;> exact ⟨by decide +kernel, by decide +kernel⟩
/-! ### what is apart: the law's own going by way of each place -/
def ap1 (E : List Ed) : Ap := fun x y => if (x, y) ∈ E then some 1 else none
def ap0 (E : List Ed) (pl : List Str) : Ap := fun x y => if x = y ∧ x ∈ pl then some 0 else ap1 E x y
theorem fw_init {E : List Ed} {pl : List Str} (mem : ∀ y, y ∈ pl ↔ plc E y) : FwOk E (plc E) (fun z => z ∈ pl.take 0) (ap0 E pl) where
  sound := fun x y n e => by
    unfold ap0 at e
    split at e
    · rename_i h
      cases Option.some.inj e
      exact h.1
    · unfold ap1 at e
      split at e
      · rename_i h
        cases Option.some.inj e
        exact ⟨x, rfl, h⟩
      · cases e
  refl := fun x hx => by
    unfold ap0
    rw [if_pos ⟨rfl, (mem x).mpr hx⟩]
  edge := fun x y h => by
    unfold ap0
    by_cases c : x = y ∧ x ∈ pl
    · rw [if_pos c]
      exact ⟨0, rfl, by decide⟩
    · rw [if_neg c]
      unfold ap1
      rw [if_pos h]
      exact ⟨1, rfl, Nat.le_refl _⟩
  tri := fun z hz => by
    rw [List.take_zero] at hz
    exact nomatch hz
  dom := fun x y n e => by
    unfold ap0 at e
    split at e
    · rename_i h
      have z := (mem x).mp h.2
      rw [← h.1]
      exact ⟨z, z⟩
    · unfold ap1 at e
      split at e
      · rename_i h
        exact ⟨.inr ⟨(x, y), h, .inl rfl⟩, .inr ⟨(x, y), h, .inr rfl⟩⟩
      · cases e
theorem ap1_put {E : List Ed} {i : Nat} {e : Ed} {kvs : List (List Key × V)} (hi : E[i]? = some e) (h : apOf (ap1 (E.take i)) kvs) : apOf (ap1 (E.take (i + 1))) (putK kvs [Sum.inr e.1, Sum.inr e.2] (.int ((1 : Nat) : Int))) := by
  obtain ⟨hl, he⟩ := List.getElem?_eq_some_iff.mp hi
  have e1 : E.take (i + 1) = E.take i ++ [e] := by rw [List.take_succ_eq_append_getElem hl, he]
  refine apOf_put h ?_ fun u v n => ?_
  · unfold ap1
    rw [if_pos (by rw [e1]; exact List.mem_append_right _ List.mem_cons_self)]
  · unfold ap1
    have z : (u, v) ∈ E.take (i + 1) ↔ (u, v) ∈ E.take i := by
      rw [e1, List.mem_append, List.mem_singleton]
      refine ⟨fun h => h.elim id fun z => (n ?_).elim, .inl⟩
      rw [← z]
      exact ⟨rfl, rfl⟩
    by_cases c : (u, v) ∈ E.take i
    · rw [if_pos c, if_pos (z.mpr c)]
    · rw [if_neg c, if_neg (fun k => c (z.mp k))]
theorem ap0_zero (E : List Ed) : ap0 E [] = ap1 E := by
  funext x y
  unfold ap0
  rw [if_neg (fun h => nomatch h.2)]
theorem ap0_put {E : List Ed} {pl : List Str} {i : Nat} {s : Str} {kvs : List (List Key × V)} (hi : pl[i]? = some s) (h : apOf (ap0 E (pl.take i)) kvs) : apOf (ap0 E (pl.take (i + 1))) (putK kvs [Sum.inr s, Sum.inr s] (.int ((0 : Nat) : Int))) := by
  obtain ⟨hl, he⟩ := List.getElem?_eq_some_iff.mp hi
  have e1 : pl.take (i + 1) = pl.take i ++ [s] := by rw [List.take_succ_eq_append_getElem hl, he]
  refine apOf_put h ?_ fun u v n => ?_
  · unfold ap0
    rw [if_pos ⟨rfl, by rw [e1]; exact List.mem_append_right _ List.mem_cons_self⟩]
  · unfold ap0
    have z : (u = v ∧ u ∈ pl.take (i + 1)) ↔ (u = v ∧ u ∈ pl.take i) := by
      rw [e1, List.mem_append, List.mem_singleton]
      refine ⟨fun h => ⟨h.1, h.2.elim id fun z => (n ?_).elim⟩, fun h => ⟨h.1, .inl h.2⟩⟩
      exact ⟨z, h.1.symm.trans z⟩
    by_cases c : u = v ∧ u ∈ pl.take i
    · rw [if_pos c, if_pos (z.mpr c)]
    · rw [if_neg c, if_neg (fun k => c (z.mp k))]
/-- c stands between d and the step by v -/
def MidA (d : Ap) (v : Str) (c : Ap) : Prop := ∀ x y, c x y = d x y ∨ c x y = fwStep d v x y
theorem MidA.col {d : Ap} {v : Str} {c : Ap} (h : MidA d v c) (r : d v v = some 0) (x : Str) : c x v = d x v := by
  rcases h x v with z | z
  · exact z
  · rw [z, fw_col r]
theorem MidA.row {d : Ap} {v : Str} {c : Ap} (h : MidA d v c) (r : d v v = some 0) (y : Str) : c v y = d v y := by
  rcases h v y with z | z
  · exact z
  · rw [z, fw_row r]
theorem MidA.none {d : Ap} {v : Str} {c : Ap} (h : MidA d v c) {x y : Str} (k : d x v = none ∨ d v y = none) : c x y = fwStep d v x y := by
  rcases h x y with z | z
  · rw [z, fw_none k]
  · exact z
theorem MidA.min {d : Ap} {v : Str} {c : Ap} (h : MidA d v c) {x y : Str} {a b : Nat} (k1 : d x v = some a) (k2 : d v y = some b) : fwMin (c x y) (a + b) = fwMin (d x y) (a + b) := by
  rcases h x y with z | z
  · rw [z]
  · rw [z, fw_val k1 k2, fwMin_again]
/-- c with the step at one pair -/
def putA (d : Ap) (v : Str) (c : Ap) (x y : Str) : Ap := fun u w => if u = x ∧ w = y then fwStep d v x y else c u w
theorem putA_mid {d : Ap} {v : Str} {c : Ap} (h : MidA d v c) (x y : Str) : MidA d v (putA d v c x y) := fun u w => by
  unfold putA
  by_cases k : u = x ∧ w = y
  · rw [if_pos k, k.1, k.2]
    exact .inr rfl
  · rw [if_neg k]
    exact h u w
theorem putA_at {d : Ap} {v : Str} {c : Ap} (x y : Str) : putA d v c x y x y = fwStep d v x y := by
  unfold putA
  rw [if_pos ⟨rfl, rfl⟩]
theorem putA_done {d : Ap} {v : Str} {c : Ap} {x y u w : Str} (h : c u w = fwStep d v u w) : putA d v c x y u w = fwStep d v u w := by
  unfold putA
  by_cases k : u = x ∧ w = y
  · rw [if_pos k, k.1, k.2]
  · rw [if_neg k, h]
theorem putA_else {d : Ap} {v : Str} {c : Ap} {x y u w : Str} (k : ¬ (u = x ∧ w = y)) : putA d v c x y u w = c u w := by
  unfold putA
  rw [if_neg k]
theorem apOf_step {d : Ap} {v : Str} {c : Ap} {kvs : List (List Key × V)} {x y : Str} {a b : Nat} (h : apOf c kvs) (m : MidA d v c) (k1 : d x v = some a) (k2 : d v y = some b) : apOf (putA d v c x y) (putK kvs [Sum.inr x, Sum.inr y] (.int ((fwMin (c x y) (a + b) : Nat) : Int))) :=
  apOf_put h (by rw [putA_at, fw_val k1 k2, m.min k1 k2]) fun _ _ n => putA_else n
theorem putK_le (kvs : List (List Key × V)) (k : List Key) (v : V) : (putK kvs k v).length ≤ kvs.length + 1 := length_putK kvs k v
/-- min of what is there, or else the new one, and the new one -/
theorem min_fw (o : Option Nat) (n : Nat) : (if (n : Int) < (match o with | some c => (c : Int) | none => (n : Int)) then (n : Int) else (match o with | some c => (c : Int) | none => (n : Int))) = ((fwMin o n : Nat) : Int) := by
  cases o with
  | none =>
    show (if (n : Int) < n then (n : Int) else n) = _
    rw [if_neg (Int.lt_irrefl _)]
    rfl
  | some c =>
    show (if (n : Int) < c then (n : Int) else c) = ((if n < c then n else c : Nat) : Int)
    split <;> split <;> omega
def gI (o : Option Nat) (n : Int) : Int := match o with
  | some c => (c : Int)
  | none => n
theorem getD_int (o : Option Nat) (n : Int) : (o.map fun (n : Nat) => V.int n).getD (.int n) = .int (gI o n) := by
  cases o <;> rfl
theorem min_gI (o : Option Nat) (a b : Nat) : (if ((a : Int) + (b : Int)) < gI o ((a : Int) + (b : Int)) then ((a : Int) + (b : Int)) else gI o ((a : Int) + (b : Int))) = ((fwMin o (a + b) : Nat) : Int) := by
  have z := min_fw o (a + b)
  rw [Int.natCast_add] at z
  exact z
theorem filt_take {F : Str → Bool} {pl : List Str} {j : Nat} {s : Str} (h : pl[j]? = some s) : (pl.take (j + 1)).filter F = (pl.take j).filter F ++ if F s = true then [s] else [] := by
  obtain ⟨hj, es⟩ := List.getElem?_eq_some_iff.mp h
  rw [List.take_succ_eq_append_getElem hj, List.filter_append, es]
  congr 1
  by_cases c : F s = true
  · rw [if_pos c, List.filter_cons_of_pos c]
    rfl
  · rw [if_neg c, List.filter_cons_of_neg c]
    rfl
theorem ap_get {c : Ap} {kvs : List (List Key × V)} {H : Hp} {A u : Addr} {x y : Str} (h : apOf c kvs) (hA : H A = some (.dT kvs)) (hu : H u = some (.tup [.str x, .str y])) : DGet H A (.ref u) ((c x y).map fun (n : Nat) => V.int n) := by
  have z := DGet.t (k := [Sum.inr x, Sum.inr y]) hA hu
  rw [h x y] at z
  exact z
theorem ap_some {c : Ap} {kvs : List (List Key × V)} {H : Hp} {A u : Addr} {x y : Str} {n : Nat} (h : apOf c kvs) (hA : H A = some (.dT kvs)) (hu : H u = some (.tup [.str x, .str y])) (e : c x y = some n) : DGet H A (.ref u) (some (.int n)) := by
  have z := ap_get h hA hu
  rw [e] at z
  exact z
/-! ### Generator expressions that are used up at once (all, any, sum): the element by the layer's rules, calls within it too -/
/-- a code object's table, however far it has grown -/
def tabP (P : Addr) : Heap → Prop := fun h => ∃ ps : Array Value, h.get? P = some { cls := .none, data := .fields ps } ∧ TriplesOk ps.toList
def TabO (P : Addr) : HO := .ext (tabP P)
theorem tab_obj {Pr : Program} {w : World} {H : Hp} {h : Heap} {P : Addr} (e : tabP P h) : ObjOk Pr w H h P (TabO P) := by
  obtain ⟨ps, h1, h2⟩ := e
  exact ⟨⟨ps, h1, h2⟩, ⟨_, h1⟩, fun a b ⟨qs, g1, g2⟩ k => ⟨qs, k _ g1, g2⟩⟩
theorem inv_gens {X : Cx} {pins : List (Addr × Obj)} {σ : L2.St} {H : Hp} {s : Shared} {G : Array GenState} (I : Inv X pins σ H s) (hg : AllBare G) : Inv X pins σ H { s with gens := G } :=
  ⟨I.ok, I.os, hg, I.base, I.loc, I.cell, I.free, I.freeC, I.pin, I.hok, I.len⟩
theorem bare_set {s : Shared} {g : Nat} {x : GenState} (h : AllBare s.gens) (hx : x.bare = true) : AllBare (s.setGen g x).gens := by
  intro y hy
  obtain ⟨i, hi, rfl⟩ := Array.mem_iff_getElem.mp hy
  have hi2 : i < s.gens.size := by simpa [Shared.setGen] using hi
  by_cases e : g = i
  · subst e
    have z : (s.setGen g x).gens[g]? = some x := by simp [Shared.setGen, hi2]
    rw [Array.getElem?_eq_getElem hi] at z
    rw [Option.some.inj z]
    exact hx
  · have z : (s.setGen g x).gens[i]? = s.gens[i]? := by simp [Shared.setGen, e]
    rw [Array.getElem?_eq_getElem hi, Array.getElem?_eq_getElem hi2] at z
    rw [Option.some.inj z]
    exact h _ (Array.getElem_mem hi2)
section
variable {X : Cx} {pins : List (Addr × Obj)} {σ : L2.St} {H : Hp} {s : Shared}
theorem inv_tabO {P : Addr} {h' : Heap} {t' : Nat} (I : Inv X pins σ H s) (hP : H P = some (TabO P)) (k : ∀ b o, b ≠ P → s.heap.get? b = some o → h'.get? b = some o) (new : tabP P h') :
    Inv X pins σ H { s with heap := h', toks := t' } := by
  have nN : ∀ b, H b = none → b ≠ P := fun b n z => by rw [z, hP] at n; cases n
  have nO : ∀ b y, H b = some (.own y) → b ≠ P := fun b y n z => by
    rw [z, hP] at n
    have z2 : HO.ext (tabP P) = HO.own y := Option.some.inj n
    cases z2
  refine I.step (g' := s.gens) (d' := s.drawn) (ch := []) (fun _ z => nomatch z) (fun b o _ _ _ e n => k b o (nN b n) e) (fun b o _ _ _ e n => ⟨o.slots, k b o (nN b n) e⟩) (fun _ _ _ _ n => n) (fun b o _ e => ?_)
    (fun _ _ e => e) (fun _ _ _ e => e) (fun b ps e => ⟨#[], by rw [e]; simp⟩) (fun m hm => ?_) (fun b u e => ?_) I.bare
  · by_cases hb : b = P
    · obtain ⟨ps, h1, _⟩ := new
      rw [hb]
      exact ⟨_, h1⟩
    · exact ⟨o, k b o hb e⟩
  · obtain ⟨ob, es, ep, ho, r⟩ := hm
    exact ⟨ob, es, ep, k _ ob (nN _ I.free) ho, r⟩
  · by_cases hb : b = P
    · rw [hb] at e ⊢
      rw [hP] at e
      cases e
      exact tab_obj new
    · refine (I.hok b u e).stay (fun d v hd q => k d v ?_ q) (fun _ q => q) fun _ _ q => q
      rcases hd with z | z
      · rw [z]
        exact hb
      · exact nO d _ z
/-- the context of a generator expression's frame, made at s -/
abbrev gblk (X : Cx) (s : Shared) (H : Hp) (cenv : Env) (fp : List Addr) : Cx :=
  { X with A := X.A.in1.in1.deeper cenv, s_0 := s, H_0 := H, env := cenv, outer := X.stack, stack := cenv :: X.stack, ex := fp, fn := fun _ => false, calm := true, pn := [], xe := fun _ _ => False }
abbrev gxEnv (X : Cx) (scope : Scope) (C : Addr) (code : Value) : Env := genEnv scope (cloFrom X.env.cells scope.names []) C code builtinsNs X.env
theorem gblk_start {scope : Scope} {own : List (Str × Nat)} {fp : List Addr} {code : Value} {h5 : Heap} {a : Addr} {go : Obj} {G5 : Array GenState} {tk : Nat} {m5 : Str → Option Value}
    (I : Inv X pins σ H s) (ok : BlkOk X.N X.env.scope scope own) (nc : ∀ y ∈ scope.names, y.2 ≠ .cell) (hN : X.N.Nodup) (hd : X.A.handled = none) (hfp : ∀ b ∈ fp, FpOk X pins H b ∧ b < s.heap.objs.size)
    (kp : ∀ b o, s.heap.get? b = some o → h5.get? b = some o) (ns : h5.Ns s.heap.objs.size m5) (bare : AllBare G5) (ha : h5.get? a = some go) (hax : s.heap.objs.size < a) (hgo : ∀ v, go.data ≠ .cell v) :
    Inv (gblk X s H (gxEnv X scope s.heap.objs.size code) fp) [(a, go)] (wipe σ (own.map (·.2))) H { s with heap := h5, gens := G5, toks := tk } := by
  have hfree : ∀ y ∈ scope.names, y.2 = .free → ∃ c, X.env.cells.lookup y.1 = some c := fun y hy e => by
    rcases ok.free y hy e with k | k
    · exact I.ok.has _ (.inl k)
    · exact I.ok.has _ (.inr k)
  generalize hcenv : gxEnv X scope s.heap.objs.size code = cenv
  have hL : cenv.locals = s.heap.objs.size := by rw [← hcenv]; rfl
  have hcl : cenv.cells = cloFrom X.env.cells scope.names [] := by rw [← hcenv]; rfl
  have hsc : cenv.scope = scope := by rw [← hcenv]; rfl
  have hfr : cenv.frame = some cenv.locals := by rw [← hcenv]; rfl
  have cm : ∀ {y c}, (y, c) ∈ cloFrom X.env.cells scope.names [] → X.env.cells.lookup y = some c ∧ c < s.heap.objs.size := fun {y c} hm => by
    rcases cloFrom_mem hm with hm | ⟨h1, rfl⟩
    · cases hm
    · obtain ⟨c, hc⟩ := hfree _ h1 rfl
      rw [hc]
      obtain ⟨w, z⟩ := I.cell _ _ hc
      exact ⟨rfl, z.lt⟩
  have mem : ∀ {y c}, cenv.cells.lookup y = some c → X.env.cells.lookup y = some c ∧ c < s.heap.objs.size := fun {y c} e => by
    rw [hcl] at e
    exact cm (PySem.mem_of_lookup e)
  have look : ∀ {y}, scope.names.lookup y = some .free → ∃ c, cenv.cells.lookup y = some c ∧ X.env.cells.lookup y = some c := fun {y} hl => by
    have hy : (y, NameKind.free) ∈ scope.names := PySem.mem_of_lookup hl
    obtain ⟨c', e'⟩ := mem_lookup (cloFrom_has (cells := X.env.cells) (acc := []) hy)
    exact ⟨c', by rw [hcl]; exact e', (cm (PySem.mem_of_lookup e')).1⟩
  have nostk : ∀ b, s.heap.objs.size ≤ b → b ∉ frs X.stack := fun b hb z => by
    rcases List.mem_cons.mp (I.stkSub b z) with z | z
    · have := I.lt
      rw [z] at hb
      exact absurd (Nat.lt_of_lt_of_le this hb) (Nat.lt_irrefl _)
    · exact I.nofs hb z
  have okB : (gblk X s H cenv fp).Ok := by
    refine ⟨I.ok.mod, by show cenv.scope.kind = _; rw [hsc]; exact ok.kind, by show cenv.globals = _; rw [← hcenv]; exact I.ok.glob, by show cenv.builtins = _; rw [← hcenv]; rfl, by show s.heap.objs.size ≤ cenv.locals; rw [hL]; exact Nat.le_refl _,
      fun y z c e1 e2 => I.ok.inj y z c (mem e1).1 (mem e2).1, fun y hy => ?_, fun y c z e => absurd z Bool.false_ne_true, fun _ => hd, Around.frames_deeper (A := X.A.in1.in1) I.ok.frames, .inr ⟨rfl, hfr⟩, fun b hb => ⟨?_, fun y c e z => (hfp b hb).1.2.2.2.2.1 y c (mem e).1 z⟩,
      I.bs, Nat.le_trans I.ok.bsz I.sz, fun b o e hb => ?_, fun b hb z => ?_, I.stack, I.stkFree⟩
    · have key : scope.names.lookup y = some .cell ∨ scope.names.lookup y = some .free → ∃ c, cenv.cells.lookup y = some c := fun hk => by
        rcases hk with hk | hk
        · exact absurd rfl (nc _ (PySem.mem_of_lookup hk))
        · obtain ⟨c, h1, _⟩ := look hk
          exact ⟨c, h1⟩
      have hy : cenv.scope.names.lookup y = some .cell ∨ cenv.scope.names.lookup y = some .free := hy
      rw [hsc] at hy
      exact key hy
    · show b ≠ cenv.locals
      rw [hL]; exact Nat.ne_of_lt (hfp b hb).2
    · rcases (hfp b hb).1.2.2.2.1 with z | z
      · exact I.ok.noex b o e z
      · exact absurd (Nat.lt_of_lt_of_le (Heap.lt_size e) (Nat.le_trans I.ok.bsz z)) (Nat.lt_irrefl _)
    · rcases List.mem_cons.mp (I.stkSub b z) with z | z
      · exact (hfp b hb).1.2.1 z
      · exact (hfp b hb).1.2.2.1 z
  refine ⟨okB, rfl, bare, Un.kept kp, ⟨m5, ?_, fun i y av e1 e2 e3 => ?_⟩, fun y c e => ?_, ?_, fun y c e => ?_, fun p hp => ?_, I.hok.kept kp, by rw [wipe_length]; exact I.len⟩
  · show Heap.Ns _ cenv.locals _
    rw [hL]
    exact ns
  · obtain ⟨e2, hne⟩ := wipe_some e2
    have e3 : Vis cenv.scope y := e3
    rw [hsc] at e3
    have no : ∀ k, scope.names.lookup y = some k → (k = .local ∨ k = .cell) → False := fun k hk hh => by
      rcases ok.own _ (PySem.mem_of_lookup hk) hh with e' | e'
      · obtain ⟨p, hp, hpy⟩ := List.mem_map.mp e'
        have e3 := ok.ix p hp
        have : p.1 = y := hpy
        rw [this] at e3
        exact hne (List.mem_map.mpr ⟨p, hp, nodup_ix hN e3 e1⟩)
      · exact e' (List.mem_of_getElem? e1)
    have hf : scope.names.lookup y = some .free := by
      rcases e3 with e3 | e3 | e3
      · exact (no _ e3 (.inl rfl)).elim
      · exact (no _ e3 (.inr rfl)).elim
      · exact e3
    obtain ⟨m, hn, hl⟩ := I.loc
    have hvis : Vis X.env.scope y := (ok.free _ (PySem.mem_of_lookup hf) rfl).elim (fun k => .inr (.inl k)) (fun k => .inr (.inr k))
    obtain ⟨w, r, q⟩ := hl i y av e1 e2 hvis
    obtain ⟨c, h1, h2⟩ := look hf
    refine ⟨w, r, .inr ⟨.inr (by show cenv.scope.names.lookup y = _; rw [hsc]; exact hf), c, h1, ?_⟩⟩
    rcases q with ⟨k, _⟩ | ⟨_, c', e', z⟩
    · have k : X.env.scope.names.lookup y = some .local := k
      rcases ok.free _ (PySem.mem_of_lookup hf) rfl with k' | k' <;> rw [show X.env.scope.names.lookup y = _ from k'] at k <;> cases k
    · rw [h2] at e'; cases e'
      exact z.keeps kp
  · obtain ⟨w, z⟩ := I.cell y c (mem e).1
    exact ⟨w, z.keeps kp⟩
  · show H cenv.locals = none
    rw [hL]; exact I.hok.fresh (Nat.le_refl _)
  · exact I.freeC y c (mem e).1
  · have e : p = (a, go) := by simpa using (show p ∈ ([] : List (Addr × Obj)) ++ [(a, go)] from hp)
    subst e
    refine ⟨ha, I.hok.fresh (Nat.le_of_lt hax), ?_, nostk a (Nat.le_of_lt hax), hgo⟩
    show a ≠ cenv.locals
    rw [hL]; exact Nat.ne_of_gt hax
end

/-! the turns -/
section
variable {Y : Cx} {L fp : List Addr} {σw : L2.St} {tn : Nat → Heap → Prop} {Pv : Nat → Hp → Prop} {n : Nat} {pz : Nat → Bool} {F : Nat → V}
/-- the generator stands ahead of its turn i; what stands at L is pinned -/
def GAt (Y : Cx) (L fp : List Addr) (σw : L2.St) (tn : Nat → Heap → Prop) (Pv : Nat → Hp → Prop) (i : Nat) (s : Shared) : Prop :=
  ∃ H, Inv Y (pinsAt L s.heap) σw H s ∧ tn i s.heap ∧ (∀ b ∈ fp, H b = none) ∧ Pv i H
/-- the turn behind j that were handed out -/
def tj (pz : Nat → Bool) (n : Nat) : Nat → Nat
  | 0 => 0
  | j + 1 => (passing pz n 0).getD j 0 + 1
def GEnd (Y : Cx) (L : List Addr) (σw : L2.St) (Pv : Nat → Hp → Prop) (n : Nat) : GenEnd := fun m s0 r s1 =>
  r = .ok .next ∧ m = 0 ∧ ∃ H, Inv Y (pinsAt L s0.heap) σw H s1 ∧ Pv n H
def GYld (Y : Cx) (L fp : List Addr) (σw : L2.St) (tn : Nat → Heap → Prop) (Pv : Nat → Hp → Prop) (n : Nat) (pz : Nat → Bool) (F : Nat → V) : Protocol := fun m s0 v s kap =>
  ∃ i H, (passing pz n 0)[(passing pz n 0).length - 1 - m]? = some i ∧ RelV (F i) v ∧ Inv Y (pinsAt L s0.heap) σw H s ∧ tn (i + 1) s.heap ∧ (∀ b ∈ fp, H b = none) ∧ Pv (i + 1) H ∧
    ∀ s2, GAt Y L fp σw tn Pv (i + 1) s2 → kap (.send .none) s2
abbrev gxE (elt tg iter : Expr) (ifs : List Expr) (scope : Scope) (pos : Pos) : Expr := .GeneratorExp elt [⟨tg, iter, ifs, 0⟩] scope pos
theorem over_loopG {A : Around} {elt tg iter : Expr} {ifs : List Expr} {scope : Scope} {pos : Pos} {it acc : Value} {env : Env} : A.over (.compLoop (gxE elt tg iter ifs scope pos) 0 it acc env) [] = A.deeper env := by
  first
    | rfl
    | (obtain ⟨hd, d, fr, gs, u⟩ := A; simp [Around.over, Around.deeper, marksOver, frameCount, unitsOf, envsOf, guardsOf, pushEnvs, pushGuards, Code.envs, Code.env?, Code.isFrame, Code.guards, Code.isGuard, Code.weight, Code.frames, Code.isCreation, Code.isCaller, Code.cUnits])
theorem over_startG {A : Around} {elt tg iter : Expr} {ifs : List Expr} {scope : Scope} {pos : Pos} {it acc : Value} {env : Env} : A.over (.compStart (gxE elt tg iter ifs scope pos) 0 it acc env) [] = A.deeper env := by
  first
    | rfl
    | (obtain ⟨hd, d, fr, gs, u⟩ := A; simp [Around.over, Around.deeper, marksOver, frameCount, unitsOf, envsOf, guardsOf, pushEnvs, pushGuards, Code.envs, Code.env?, Code.isFrame, Code.guards, Code.isGuard, Code.weight, Code.frames, Code.isCreation, Code.isCaller, Code.cUnits])
/-- what a turn does -/
def GStep (J : It) (g : TG) (tt : TT) (te : TE) (σ : L2.St) (vs : List Nat) (Pv : Nat → Hp → Prop) (n : Nat) (pz : Nat → Bool) (F : Nat → V) : Prop :=
  ∀ i x H H', i < n → Pv i H → J.yld i H x H' → g x (wipe σ vs) H' fun σ2 H2 => wipe σ2 vs = wipe σ vs ∧ tt σ2 H2 fun b H3 => b = pz i ∧ if b = true then te σ2 H3 (fun y H4 => y = F i ∧ Pv (i + 1) H4) else Pv (i + 1) H3
theorem seg_gx {A : Around} {σ : L2.St} {vs : List Nat} {J : It} {g : TG} {tt : TT} {te : TE} {it : Addr} {elt tg iter : Expr} {ifs : List Expr} {scope : Scope} {pos : Pos}
    (hA : A.deeper Y.env = Y.A) (hc : Y.calm = true) (hpn : Y.pn = []) (hxe : Y.xe = fun _ _ => False) (hco : Y.env.scope.isCoroutine = false)
    (T : Turn Y.prog Y.w Y.K tg J fp it tn) (pg : PG Y tg g) (pt : PTs Y ifs tt) (pe : PE Y elt te) (hex : ∀ b ∈ fp, b ∈ Y.ex) (hLf : ∀ b ∈ fp, b ∉ L)
    (go : ∀ i H, i < n → Pv i H → J.go i H) (stop : ∀ H, Pv n H → J.stop n H) (step : GStep J g tt te σ vs Pv n pz F) :
    ∀ (k i : Nat) (s0 s : Shared), n - i = k → i ≤ n → (∃ H, Inv Y (pinsAt L s0.heap) (wipe σ vs) H s ∧ tn i s.heap ∧ (∀ b ∈ fp, H b = none) ∧ Pv i H) →
      Seg (model Y.prog Y.w) A (GEnd Y L (wipe σ vs) Pv n) (GYld Y L fp (wipe σ vs) tn Pv n pz F) (passing pz n i).length s0
        (.compLoop (gxE elt tg iter ifs scope pos) 0 (.ref it) .none Y.env) ((model Y.prog Y.w).den (.compLoop (gxE elt tg iter ifs scope pos) 0 (.ref it) .none Y.env)) [] s := by
  have ov : A.over (.compLoop (gxE elt tg iter ifs scope pos) 0 (.ref it) .none Y.env) [] = Y.A := over_loopG.trans hA
  have stat : ∀ {s0 : Shared} {σ' : L2.St} {H' : Hp} {s' : Shared}, Inv Y (pinsAt L s0.heap) σ' H' s' → (∀ b ∈ fp, H' b = none) → ∀ b ∈ fp, FpOk Y (pinsAt L s0.heap) H' b := fun {s0 σ' H' s'} I' hn b hb =>
    ⟨hn b hb, (I'.ok.exf b (hex b hb)).1, I'.ok.exfs b (hex b hb), .inl (hex b hb), fun x c e => (I'.ok.exf b (hex b hb)).2 x c e, fun p hp z => by
      rw [hpn, List.nil_append] at hp
      exact hLf b hb (by rw [← z]; exact (of_pinsAt hp).1)⟩
  intro k
  induction k with
  | zero =>
    intro i s0 s hk hi hst
    have hin : i = n := by omega
    subst hin
    obtain ⟨H, I, st, nf, pv⟩ := hst
    show Seg _ A _ _ _ s0 _ ((compTurn (gxE elt tg iter ifs scope pos) 0 (.ref it) .none Y.env).onRaise (leaving Y.env)) [] s
    rw [compTurn_gen, Sem.onRaise_eq_wrap]
    refine seg_bind_wrap (wpAny_standAt ?_)
    refine seg_bind_wrap ?_
    rw [ov]
    refine thnF (T.done Y rfl rfl rfl hc i _ s _ H (fun _ _ => False) I (stat I nf) st (stop H pv)) fun r s1 ⟨hr, I1⟩ => ?_
    subst hr
    exact seg_end (.ok .next) ⟨rfl, by rw [passing_end]; rfl, H, I1, pv⟩
  | succ k ih =>
    intro i s0 s hk hi hst
    have hlt : i < n := by omega
    obtain ⟨H, I, st, nf, pv⟩ := hst
    show Seg _ A _ _ _ s0 _ ((compTurn (gxE elt tg iter ifs scope pos) 0 (.ref it) .none Y.env).onRaise (leaving Y.env)) [] s
    rw [compTurn_gen, Sem.onRaise_eq_wrap]
    refine seg_bind_wrap (wpAny_standAt ?_)
    refine seg_bind_wrap ?_
    rw [ov]
    refine thnF (T.item Y rfl rfl rfl hc i _ s _ H (fun _ _ => False) I (stat I nf) st (go i H hlt pv)) fun r s1 ⟨u, hr, h1⟩ => ?_
    subst hr
    refine seg_bind_wrap ?_
    rw [ov]
    refine thnF h1 fun _ s2 ⟨x, H2, I2, r2, y2, st2, n2⟩ => ?_
    have I2' := I2.pinned (stat I2 n2) (T.obj _ _ st2)
    refine seg_bind_wrap ?_
    rw [ov]
    have pgr := pg.run _ s2 _ H2 x u _ I2' r2 (step i x H H2 hlt pv y2)
    have ptr := fun s3 σ3 H3 Q I3 q3 => pt.run (pinsAt L s0.heap ++ pinsAt fp s2.heap) s3 σ3 H3 Q I3 q3
    have per := fun s3 σ3 H3 Q I3 q3 => pe.run (pinsAt L s0.heap ++ pinsAt fp s2.heap) s3 σ3 H3 Q I3 q3
    rw [hxe] at pgr ptr per
    refine thnF pgr fun _ s3 ⟨σ3, H3, I3, hw3, q3⟩ => ?_
    refine seg_bind_wrap ?_
    rw [ov]
    refine thnF (ptr s3 σ3 H3 _ I3 q3) fun b s4 ⟨H4, I4, hb, q4⟩ => ?_
    have fin : ∀ {s' : Shared} {H' : Hp}, Inv Y (pinsAt L s0.heap ++ pinsAt fp s2.heap) σ3 H' s' → Inv Y (pinsAt L s0.heap) (wipe σ vs) H' s' ∧ tn (i + 1) s'.heap ∧ (∀ b ∈ fp, H' b = none) := fun {s' H'} I' => by
      have pin' : ∀ b ∈ fp, ∀ o, s2.heap.get? b = some o → s'.heap.get? b = some o ∧ H' b = none := fun b hb o e =>
        let z := I'.pin (b, o) (List.mem_append_right _ (List.mem_append_right _ (mem_pinsAt hb e)))
        ⟨z.1, z.2.1⟩
      have hl : (wipe σ vs).length = σ3.length := by rw [← hw3, wipe_length]
      refine ⟨I'.unpinned.weak hl (fun j v e => ?_), T.keep _ _ _ st2 fun b hb o e => (pin' b hb o e).1, fun b hb => ?_⟩
      · rw [← hw3] at e
        exact (wipe_some e).1
      · obtain ⟨o, e, _⟩ := T.obj _ _ st2 b hb
        exact (pin' b hb o e).2
    cases b with
    | false =>
      rw [passing_false hlt hb.symm]
      simp only [Bool.false_eq_true, if_false] at q4 ⊢
      obtain ⟨f1, f2, f3⟩ := fin I4
      exact seg_again rfl (ih (i + 1) s0 _ (by omega) hlt ⟨H4, f1, f2, f3, q4⟩)
    | true =>
      rw [passing_true hlt hb.symm, List.length_cons]
      simp only [if_true] at q4 ⊢
      have hy : ∀ v, yieldOut Y.env v = yieldValue v := fun v => by simp only [yieldOut, hco, Bool.false_eq_true, if_false]
      simp only [hy]
      rw [Sem.bind_eq_wrap', Sem.bind_eq_wrap', Sem.wrap_wrap, Sem.wrap_wrap]
      refine seg_wrap ?_
      rw [ov]
      refine thnF (per s4 σ3 H4 _ I4 q4) fun z s5 ⟨yv, H5, I5, r5, ey, p5⟩ => ?_
      subst ey
      obtain ⟨f1, f2, f3⟩ := fin I5
      refine seg_at (seg_yield rfl rfl rfl ⟨i, H5, passing_here hlt hb.symm, r5, f1, f2, f3, p5, fun s6 h6 => ?_⟩)
      exact seg_again rfl (ih (i + 1) s6 s6 (by omega) hlt h6)
theorem seg_gx0 {A : Around} {σ : L2.St} {vs : List Nat} {J : It} {g : TG} {tt : TT} {te : TE} {it : Addr} {elt tg iter : Expr} {ifs : List Expr} {scope : Scope} {pos : Pos}
    (hA : A.deeper Y.env = Y.A) (hc : Y.calm = true) (hpn : Y.pn = []) (hxe : Y.xe = fun _ _ => False) (hco : Y.env.scope.isCoroutine = false)
    (T : Turn Y.prog Y.w Y.K tg J fp it tn) (pg : PG Y tg g) (pt : PTs Y ifs tt) (pe : PE Y elt te) (hex : ∀ b ∈ fp, b ∈ Y.ex) (hLf : ∀ b ∈ fp, b ∉ L)
    (go : ∀ i H, i < n → Pv i H → J.go i H) (stop : ∀ H, Pv n H → J.stop n H) (step : GStep J g tt te σ vs Pv n pz F) (s : Shared) (h : GAt Y L fp (wipe σ vs) tn Pv 0 s) :
    Seg (model Y.prog Y.w) A (GEnd Y L (wipe σ vs) Pv n) (GYld Y L fp (wipe σ vs) tn Pv n pz F) (passing pz n 0).length s
      (.compStart (gxE elt tg iter ifs scope pos) 0 (.ref it) .none Y.env) ((model Y.prog Y.w).den (.compStart (gxE elt tg iter ifs scope pos) 0 (.ref it) .none Y.env)) [] s := by
  have loop := seg_gx (A := A) (iter := iter) (scope := scope) (pos := pos) (pz := pz) (F := F) hA hc hpn hxe hco T pg pt pe hex hLf go stop step n 0 s s rfl (Nat.zero_le _) h
  obtain ⟨H, I, st, nf, pv⟩ := h
  show Seg _ A _ _ _ s _ ((compStart (gxE elt tg iter ifs scope pos) 0 (.ref it) .none Y.env).onRaise (leaving Y.env)) [] s
  unfold compStart
  rw [Sem.onRaise_eq_wrap]
  show Seg _ A _ _ _ s _ ((ask >>= _).wrap _ _ _ _) [] s
  refine seg_bind_wrap (wpAny_askSetting ?_)
  split
  · exact seg_again rfl loop
  · first
      | exact seg_bind_wrap (wpAny_rule (seg_bind_wrap (wpAny_standAt (seg_bind_wrap (T.self _ 0 s _ _ st (seg_again rfl loop))))))
      | (refine seg_bind_wrap (wpAny_rule ?_); show Seg _ A _ _ _ s _ ((standAt iter.pos >>= _).wrap _ _ _ _) [] s; exact seg_bind_wrap (wpAny_standAt (seg_bind_wrap (T.self _ 0 s _ _ st (seg_again rfl loop)))))
end
/-! ### .. as their consumers see them -/
theorem pins_eq {h h' : Heap} : ∀ {L : List Addr}, (∀ b ∈ L, ∃ o, h.get? b = some o) → (∀ p ∈ pinsAt L h, h'.get? p.1 = some p.2) → pinsAt L h' = pinsAt L h
  | [], _, _ => rfl
  | b :: L, ho, k => by
    obtain ⟨o, e⟩ := ho b List.mem_cons_self
    have e' : h'.get? b = some o := k (b, o) (mem_pinsAt List.mem_cons_self e)
    have ih : pinsAt L h' = pinsAt L h := pins_eq (fun c hc => ho c (List.mem_cons_of_mem _ hc)) fun p hp => k p (by
      obtain ⟨h1, h2⟩ := of_pinsAt hp
      exact mem_pinsAt (b := p.1) (o := p.2) (List.mem_cons_of_mem _ h1) h2)
    unfold pinsAt at ih ⊢
    rw [List.filterMap_cons, List.filterMap_cons, e, e', ih]
theorem pins_nil {L : List Addr} {h : Heap} {X : Cx} {σ : L2.St} {H : Hp} {s : Shared} (I : Inv X (pinsAt L h) σ H s) : Inv X [] σ H s := I.pins_of fun p hp => nomatch hp
section
variable {Y : Cx} {L fp : List Addr} {σw : L2.St} {tn : Nat → Heap → Prop} {Pv : Nat → Hp → Prop} {n : Nat} {pz : Nat → Bool} {F : Nat → V} {A : Around} {a : Addr} {g : Nat}
/-- the generator at a, of the number g, j handed out -/
structure GS (Y : Cx) (L fp : List Addr) (σw : L2.St) (tn : Nat → Heap → Prop) (Pv : Nat → Hp → Prop) (n : Nat) (pz : Nat → Bool) (F : Nat → V) (A : Around) (a : Addr) (g j : Nat) (s : Shared) : Prop where
  gen : s.heap.IsGen a g
  objs : ∀ b ∈ L, ∃ o, s.heap.get? b = some o
  at_ : GAt Y L fp σw tn Pv (tj pz n j) s
  go : ∃ gs, s.gens[g]? = some gs ∧ ∀ s2, GAt Y L fp σw tn Pv (tj pz n j) s2 → gs.Goes (model Y.prog Y.w) A.in1 (GEnd Y L σw Pv n) (GYld Y L fp σw tn Pv n pz F) ((passing pz n 0).length - j) (.send .none) s2
theorem GS.running {j : Nat} {s : Shared} (h : GS Y L fp σw tn Pv n pz F A a g j s) : GAt Y L fp σw tn Pv (tj pz n j) (s.setGen g .running) := by
  obtain ⟨H, I, st, nf, pv⟩ := h.at_
  exact ⟨H, inv_gens I (bare_set I.bare rfl), st, nf, pv⟩
theorem GAt.again {i : Nat} {s s1 : Shared} {H : Hp} {G : Array GenState} (ho : ∀ b ∈ L, ∃ o, s.heap.get? b = some o) (I : Inv Y (pinsAt L s.heap) σw H s1) (st : tn i s1.heap) (nf : ∀ b ∈ fp, H b = none) (pv : Pv i H) (hG : AllBare G) :
    GAt Y L fp σw tn Pv i { s1 with gens := G } := by
  have e := pins_eq (h' := s1.heap) ho fun p hp => (I.pin p (List.mem_append_right _ hp)).1
  exact ⟨H, by show Inv Y (pinsAt L s1.heap) σw H { s1 with gens := G }; rw [e]; exact inv_gens I hG, st, nf, pv⟩
theorem next_gx {j : Nat} {s : Shared} {Q : Option Value → Shared → Prop} {E : Value → Shared → Prop} (hh : A.handled = none) (hroom : A.depth < recursionLimit) (haL : a ∈ L) (hj : j < (passing pz n 0).length) (h : GS Y L fp σw tn Pv n pz F A a g j s)
    (hQ : ∀ v i s', (passing pz n 0)[j]? = some i → RelV (F i) v → GS Y L fp σw tn Pv n pz F A a g (j + 1) s' → (∀ b ∈ L, ∀ o, s.heap.get? b = some o → s'.heap.get? b = some o) → Q (some v) s') :
    wpAny (model Y.prog Y.w) A (pyNext (.ref a)) Q E s := by
  obtain ⟨gs, hgs, hgo⟩ := h.go
  obtain ⟨m, hm⟩ : ∃ m, (passing pz n 0).length - j = m + 1 := ⟨(passing pz n 0).length - j - 1, by omega⟩
  rw [hm] at hgo
  have hgl : g < s.gens.size := (Array.getElem?_eq_some_iff.mp hgs).1
  have lim : s.heap.NoLimit := let ⟨_, I, _⟩ := h.at_; I.nolimit
  refine GenW.wpAny_gsz (n := s.gens.size) (Nat.le_refl _) ?_
  refine wpAny_pyNext_genexpQ (P := fun m s0 s1 => m = 0 ∧ ∃ H, Inv Y (pinsAt L s0.heap) σw H s1 ∧ Pv n H) hh lim hroom h.gen hgs (hgo _ h.running) (fun v s1 gs' hb hv => ?_) (fun s1 hp h' hk => ?_)
  · obtain ⟨i, H, hi, rv, I, st, nf, pv, kap⟩ := hv
    have hi : (passing pz n 0)[(passing pz n 0).length - 1 - (m + 1 - 1)]? = some i := hi
    have hidx : (passing pz n 0).length - 1 - (m + 1 - 1) = j := by omega
    rw [hidx] at hi
    have I : Inv Y (pinsAt L s.heap) σw H s1 := I
    intro hsz
    have hsz1 : s.gens.size ≤ s1.gens.size := by rw [GenW.setGen_size] at hsz; exact hsz
    have et : tj pz n (j + 1) = i + 1 := by
      show (passing pz n 0).getD j 0 + 1 = i + 1
      rw [List.getD_eq_getElem?_getD, hi]
      rfl
    have pin : ∀ b ∈ L, ∀ o, s.heap.get? b = some o → s1.heap.get? b = some o := fun b hb' o e => (I.pin (b, o) (List.mem_append_right _ (mem_pinsAt hb' e))).1
    refine hQ v i _ hi rv ⟨?_, fun b hb' => ?_, ?_, gs', ?_, fun s2 h2 => ?_⟩ pin
    · obtain ⟨o, nm, qn, ho, r⟩ := h.gen
      exact ⟨o, nm, qn, pin a haL o ho, r⟩
    · obtain ⟨o, e⟩ := h.objs b hb'
      exact ⟨o, pin b hb' o e⟩
    · rw [et]
      exact GAt.again h.objs I st nf pv (bare_set I.bare hb)
    · have : g < s1.gens.size := Nat.lt_of_lt_of_le hgl hsz1
      simp [Shared.setGen, this]
    · rw [et] at h2
      have k2 := kap s2 h2
      have e : (passing pz n 0).length - (j + 1) = m := by omega
      rw [e]
      exact k2
  · exact absurd hp.1 (Nat.succ_ne_zero m)
theorem done_gx {s : Shared} {Q : Option Value → Shared → Prop} {E : Value → Shared → Prop} (hh : A.handled = none) (hroom : A.depth < recursionLimit) (h : GS Y L fp σw tn Pv n pz F A a g (passing pz n 0).length s)
    (hQ : ∀ s' H, Inv Y (pinsAt L s.heap) σw H s' → Pv n H → Q none s') : wpAny (model Y.prog Y.w) A (pyNext (.ref a)) Q E s := by
  obtain ⟨gs, hgs, hgo⟩ := h.go
  rw [Nat.sub_self] at hgo
  have lim : s.heap.NoLimit := let ⟨_, I, _⟩ := h.at_; I.nolimit
  refine wpAny_pyNext_genexpQ (P := fun m s0 s1 => m = 0 ∧ ∃ H, Inv Y (pinsAt L s0.heap) σw H s1 ∧ Pv n H) hh lim hroom h.gen hgs (hgo _ h.running) (fun v s1 gs' hb hv => ?_) (fun s1 hp h' hk => ?_)
  · obtain ⟨i, H, hi, rv, I, st, nf, pv, kap⟩ := hv
    have I : Inv Y (pinsAt L s.heap) σw H s1 := I
    exact False.elim (kap s1 (GAt.again h.objs I st nf pv I.bare))
  · obtain ⟨_, H, I, pv⟩ := hp
    have I : Inv Y (pinsAt L s.heap) σw H s1 := I
    exact hQ _ H (inv_gens (I.kept (t' := s1.toks) hk) (bare_set I.bare rfl)) pv
/-- wherever it stands: what holds there -/
theorem GS.stands {j : Nat} {s : Shared} (h : GS Y L fp σw tn Pv n pz F A a g j s) (hj : j ≤ (passing pz n 0).length) : ∃ i H, i ≤ n ∧ Inv Y (pinsAt L s.heap) σw H s ∧ Pv i H := by
  obtain ⟨H, I, st, nf, pv⟩ := h.at_
  refine ⟨_, H, ?_, I, pv⟩
  match j, hj with
  | 0, _ => exact Nat.zero_le _
  | j + 1, hj =>
    have e : (passing pz n 0)[j]? = some ((passing pz n 0)[j]'hj) := List.getElem?_eq_getElem _
    show (passing pz n 0).getD j 0 + 1 ≤ n
    rw [List.getD_eq_getElem?_getD, e]
    have hm : (passing pz n 0)[j]'hj ∈ passing pz n 0 := List.getElem_mem _
    have hm2 : (passing pz n 0)[j]'hj ∈ List.range n := by
      unfold passing at hm
      exact (List.mem_filter.mp hm).1
    exact List.mem_range.mp hm2
theorem all_gx {f : Nat → Bool} {R : Result → Shared → Prop} (hh : A.in1.handled = none) (hroom : A.in1.depth < recursionLimit) (haL : a ∈ L) (hF : F = fun i => .bl (f i)) : ∀ (k j : Nat) (s : Shared), (passing pz n 0).length - j = k → j ≤ (passing pz n 0).length →
    GS Y L fp σw tn Pv n pz F A.in1 a g j s → (∀ s' i H, i ≤ n → Inv Y [] σw H s' → Pv i H → R (.ok (.ret (.bool (((passing pz n 0).drop j).all f)))) s') →
    codeAny (model Y.prog Y.w) A (.builtin "all.loop" ⟨[.ref a], []⟩) R s := by
  intro k
  induction k with
  | zero =>
    intro j s hk hj hst hR
    have hin : j = (passing pz n 0).length := by omega
    subst hin
    refine codeAny_builtin PySem.F.entry_all_loop ?_
    rw [Around.under_plainId PySem.F.plain_all_loop _]
    show wpAny _ A.in1 (pyNext (.ref a) >>= _) _ _ s
    refine wpAny_bind (done_gx hh hroom hst fun s' H I pv => ?_)
    refine wpAny_bind (wpAny_rule (wpAny_pure ?_))
    have := hR s' n H (Nat.le_refl _) (pins_nil I) pv
    rw [List.drop_of_length_le (Nat.le_refl _)] at this
    exact this
  | succ k ih =>
    intro j s hk hj hst hR
    have hlt : j < (passing pz n 0).length := by omega
    have hd : (passing pz n 0).drop j = (passing pz n 0)[j]'hlt :: (passing pz n 0).drop (j + 1) := List.drop_eq_getElem_cons hlt
    refine codeAny_builtin PySem.F.entry_all_loop ?_
    rw [Around.under_plainId PySem.F.plain_all_loop _]
    show wpAny _ A.in1 (pyNext (.ref a) >>= _) _ _ s
    refine wpAny_bind (next_gx hh hroom haL hlt hst fun v i s' hi rv hst' pin => ?_)
    rw [List.getElem?_eq_getElem hlt] at hi
    have ei := Option.some.inj hi
    rw [hF] at rv
    obtain rfl : v = Value.bool (f i) := rv
    refine wpAny_bind (wpAny_holding (wpAny_truthy_bool ?_))
    refine wpAny_bind (wpAny_letGo ?_)
    cases hb : f i with
    | true =>
      simp only [if_true]
      refine wpAny_pure ⟨plainId_quiet PySem.F.plain_all_loop _, ih (j + 1) _ (by omega) hlt hst' fun s'' i' H hi' I pv => ?_⟩
      have := hR s'' i' H hi' I pv
      rw [hd, List.all_cons, ei, hb, Bool.true_and] at this
      exact this
    | false =>
      simp only [Bool.false_eq_true, if_false]
      refine wpAny_bind (wpAny_rule (wpAny_pure ?_))
      obtain ⟨i', H, hi', I, pv⟩ := hst'.stands hlt
      have := hR s' i' H hi' (pins_nil I) pv
      rw [hd, List.all_cons, ei, hb, Bool.false_and] at this
      exact this
theorem any_gx {f : Nat → Bool} {R : Result → Shared → Prop} (hh : A.in1.handled = none) (hroom : A.in1.depth < recursionLimit) (haL : a ∈ L) (hF : F = fun i => .bl (f i)) : ∀ (k j : Nat) (s : Shared), (passing pz n 0).length - j = k → j ≤ (passing pz n 0).length →
    GS Y L fp σw tn Pv n pz F A.in1 a g j s → (∀ s' i H, i ≤ n → Inv Y [] σw H s' → Pv i H → R (.ok (.ret (.bool (((passing pz n 0).drop j).any f)))) s') →
    codeAny (model Y.prog Y.w) A (.builtin "any.loop" ⟨[.ref a], []⟩) R s := by
  intro k
  induction k with
  | zero =>
    intro j s hk hj hst hR
    have hin : j = (passing pz n 0).length := by omega
    subst hin
    refine codeAny_builtin PySem.F.entry_any_loop ?_
    rw [Around.under_plainId PySem.F.plain_any_loop _]
    show wpAny _ A.in1 (pyNext (.ref a) >>= _) _ _ s
    refine wpAny_bind (done_gx hh hroom hst fun s' H I pv => ?_)
    refine wpAny_bind (wpAny_rule (wpAny_pure ?_))
    have := hR s' n H (Nat.le_refl _) (pins_nil I) pv
    rw [List.drop_of_length_le (Nat.le_refl _)] at this
    exact this
  | succ k ih =>
    intro j s hk hj hst hR
    have hlt : j < (passing pz n 0).length := by omega
    have hd : (passing pz n 0).drop j = (passing pz n 0)[j]'hlt :: (passing pz n 0).drop (j + 1) := List.drop_eq_getElem_cons hlt
    refine codeAny_builtin PySem.F.entry_any_loop ?_
    rw [Around.under_plainId PySem.F.plain_any_loop _]
    show wpAny _ A.in1 (pyNext (.ref a) >>= _) _ _ s
    refine wpAny_bind (next_gx hh hroom haL hlt hst fun v i s' hi rv hst' pin => ?_)
    rw [List.getElem?_eq_getElem hlt] at hi
    have ei := Option.some.inj hi
    rw [hF] at rv
    obtain rfl : v = Value.bool (f i) := rv
    refine wpAny_bind (wpAny_holding (wpAny_truthy_bool ?_))
    refine wpAny_bind (wpAny_letGo ?_)
    cases hb : f i with
    | false =>
      simp only [Bool.false_eq_true, if_false]
      refine wpAny_pure ⟨plainId_quiet PySem.F.plain_any_loop _, ih (j + 1) _ (by omega) hlt hst' fun s'' i' H hi' I pv => ?_⟩
      have := hR s'' i' H hi' I pv
      rw [hd, List.any_cons, ei, hb, Bool.false_or] at this
      exact this
    | true =>
      simp only [if_true]
      refine wpAny_bind (wpAny_rule (wpAny_pure ?_))
      obtain ⟨i', H, hi', I, pv⟩ := hst'.stands hlt
      have := hR s' i' H hi' (pins_nil I) pv
      rw [hd, List.any_cons, ei, hb, Bool.true_or] at this
      exact this
end
/-! ### .. sum -/
section
variable {Y : Cx} {L fp : List Addr} {σw : L2.St} {tn : Nat → Heap → Prop} {Pv : Nat → Hp → Prop} {n : Nat} {pz : Nat → Bool} {F : Nat → V} {A : Around} {a S : Addr} {g : Nat}
/-- the consumer writes its own list at S -/
theorem GS.put {j : Nat} {s : Shared} {h' : Heap} {tk : Nat} (hpn : Y.pn = []) (hSL : S ∈ L) (haS : a ≠ S) (hS0 : Y.s_0.heap.objs.size ≤ S) (hLf : ∀ b ∈ fp, b ∉ L) (tk_ : ∀ i h h2, tn i h → (∀ b ∈ fp, ∀ o, h.get? b = some o → h2.get? b = some o) → tn i h2)
    (h : GS Y L fp σw tn Pv n pz F A a g j s) (k : ∀ b o, b ≠ S → s.heap.get? b = some o → h'.get? b = some o) (new : ∃ o, h'.get? S = some o ∧ ∀ v, o.data ≠ .cell v) :
    GS Y L fp σw tn Pv n pz F A a g j { s with heap := h', toks := tk } := by
  obtain ⟨H, I, st, nf, pv⟩ := h.at_
  obtain ⟨oS, eS⟩ := h.objs S hSL
  obtain ⟨_, p2, p3, p4, p5⟩ := I.pin (S, oS) (List.mem_append_right _ (mem_pinsAt hSL eS))
  have pS : H S = none := p2
  obtain ⟨oN, eN, dN⟩ := new
  have nS : ∀ b u, H b = some u → b ≠ S := fun b u e z => by rw [z, pS] at e; cases e
  have cS : ∀ x c, Y.env.cells.lookup x = some c → c ≠ S := fun x c e z => by
    obtain ⟨v, o, ho, hd⟩ := I.cell x c e
    rw [z, eS] at ho
    cases ho
    exact p5 _ hd
  have I0 : Inv Y [] σw H s := pins_nil I
  have J : Inv Y [] σw H { s with heap := h', toks := tk } := by
    refine I0.step (g' := s.gens) (d' := s.drawn) (ch := [S]) (fun b hb => ?_) (fun b o _ _ hc e _ => k b o (fun z => hc (by simp [z])) e) (fun b o _ _ hc e _ => ⟨o.slots, k b o (fun z => hc (by simp [z])) e⟩) (fun _ _ _ _ m => m)
      (fun b o hc e => ⟨o, k b o (fun z => hc (by simp [z])) e⟩) (fun _ _ e => e) (fun _ _ _ e => e) (fun b ps e => ⟨#[], by rw [e]; simp⟩) (fun m hm => ?_) (fun b u e => ?_) I.bare
    · have e : b = S := by simpa using hb
      subst e
      refine ⟨.inr hS0, p3, cS, fun p hp => ?_⟩
      rw [hpn] at hp
      exact nomatch hp
    · obtain ⟨o, es, ep, ho, r⟩ := hm
      exact ⟨o, es, ep, k _ o (Ne.symm p3) ho, r⟩
    · refine (I.hok b u e).stay (fun c v hc q => k c v ?_ q) (fun _ q => q) fun _ _ q => q
      rcases hc with z | z
      · rw [z]; exact nS b u e
      · exact nS c _ z
  refine ⟨?_, fun b hb => ?_, ⟨H, J.pins_of fun p hp => ?_, tk_ _ _ _ st fun b hb o e => k b o (fun z => hLf b hb (by rw [z]; exact hSL)) e, nf, pv⟩, h.go⟩
  · obtain ⟨o, nm, qn, ho, r⟩ := h.gen
    exact ⟨o, nm, qn, k a o haS ho, r⟩
  · by_cases z : b = S
    · rw [z]
      exact ⟨oN, eN⟩
    · obtain ⟨o, e⟩ := h.objs b hb
      exact ⟨o, k b o z e⟩
  · obtain ⟨h1, h2⟩ := of_pinsAt hp
    have h2 : h'.get? p.1 = some p.2 := h2
    by_cases z : p.1 = S
    · rw [z] at h2 ⊢
      rw [eN] at h2
      cases h2
      exact ⟨eN, pS, p3, p4, dN⟩
    · obtain ⟨o, e⟩ := h.objs p.1 h1
      have e2 := k p.1 o z e
      rw [h2] at e2
      have e3 := Option.some.inj e2
      obtain ⟨q1, q2, q3, q4, q5⟩ := I.pin (p.1, o) (List.mem_append_right _ (mem_pinsAt h1 e))
      exact ⟨h2, q2, q3, q4, by rw [e3]; exact q5⟩
abbrev sumObj (i : Int) (t : Tok) (c : Nat) : Obj := { cls := .type "list", dict := none, data := .seq #[.int i t] c, slots := #[] }
theorem sum_gx {f : Nat → Int} {val : Nat → Int} {R : Result → Shared → Prop} (hpn : Y.pn = []) (hSL : S ∈ L) (haS : a ≠ S) (hS0 : Y.s_0.heap.objs.size ≤ S) (hLf : ∀ b ∈ fp, b ∉ L) (tk_ : ∀ i h h2, tn i h → (∀ b ∈ fp, ∀ o, h.get? b = some o → h2.get? b = some o) → tn i h2)
    (hh : A.in1.handled = none) (hroom : A.in1.depth < recursionLimit) (haL : a ∈ L) (hF : F = fun i => .int (f i)) (hval : ∀ j i, (passing pz n 0)[j]? = some i → val j = f i) (hfit : ∀ j, j < (passing pz n 0).length → InLong (val j) ∧ InLong (preSum val (j + 1))) :
    ∀ (k j : Nat) (s : Shared) (tA : Tok) (c : Nat), (passing pz n 0).length - j = k → j ≤ (passing pz n 0).length → GS Y L fp σw tn Pv n pz F A.in1 a g j s → s.heap.get? S = some (sumObj (preSum val j) tA c) →
    (∀ s' t' H, Inv Y [] σw H s' → Pv n H → R (.ok (.ret (.int (preSum val (passing pz n 0).length) t'))) s') → codeAny (model Y.prog Y.w) A (.builtin "sum.loop" ⟨[.ref a, .ref S, rawInt 0, rawInt 0], []⟩) R s := by
  intro k
  induction k with
  | zero =>
    intro j s tA c hk hj hst hS hR
    have hin : j = (passing pz n 0).length := by omega
    subst hin
    refine codeAny_builtin PySem.F.entry_sum_loop ?_
    rw [Around.under_plainId PySem.F.plain_sum_loop _]
    show wpAny _ A.in1 (seqItems? (.ref S) >>= _) _ _ s
    refine wpAny_bind (wpAny_seqItems hS rfl ?_)
    show wpAny _ A.in1 (tryCatch (pyNext (.ref a)) _ >>= _) _ _ s
    refine wpAny_bind (wpAny_tryCatch (done_gx hh hroom hst fun s' H I pv => ?_))
    exact wpAny_pure (hR s' tA H (pins_nil I) pv)
  | succ k ih =>
    intro j s tA c hk hj hst hS hR
    have hlt : j < (passing pz n 0).length := by omega
    refine codeAny_builtin PySem.F.entry_sum_loop ?_
    rw [Around.under_plainId PySem.F.plain_sum_loop _]
    show wpAny _ A.in1 (seqItems? (.ref S) >>= _) _ _ s
    refine wpAny_bind (wpAny_seqItems hS rfl ?_)
    show wpAny _ A.in1 (tryCatch (pyNext (.ref a)) _ >>= _) _ _ s
    refine wpAny_bind (wpAny_tryCatch (next_gx hh hroom haL hlt hst fun v i s' hi rv hst' pin => ?_))
    rw [hF] at rv
    obtain ⟨t, rfl⟩ : ∃ t, v = Value.int (f i) t := rv
    rw [← hval j i hi]
    have hS' := pin S hSL _ hS
    obtain ⟨⟨f1, f2⟩, f3, f4⟩ := hfit j hlt
    have hc : ((decide (-(2 ^ 63) ≤ val j) && decide (val j < 2 ^ 63)) && (decide (-(2 ^ 63) ≤ preSum val j + val j) && decide (preSum val j + val j < 2 ^ 63))) = true := by
      simp only [preSum] at f3 f4
      simp only [Bool.and_eq_true, decide_eq_true_eq]
      exact ⟨⟨f1, f2⟩, f3, f4⟩
    show wpAny _ A.in1 (if (_ : Bool) = true then (mkInt (preSum val j + val j) >>= _) else _) _ _ _
    split
    · refine wpAny_bind (wpAny_mkInt ?_)
      show wpAny _ A.in1 (updateSeq S (fun _ => #[.int (preSum val j + val j) s'.toks]) >>= _) _ _ _
      refine wpAny_bind ?_
      refine wpAny_updateSeq hS' rfl (wpAny_pure ⟨plainId_quiet PySem.F.plain_sum_loop _, ih (j + 1) _ s'.toks _ (by omega) hlt ?_ (Heap.get?_update_self _ hS' rfl) hR⟩)
      exact GS.put (s := s') (tk := s'.toks + 1) hpn hSL haS hS0 hLf tk_ hst' (fun b o hb e => (Heap.get?_update_other _ _ (Ne.symm hb)).trans e) ⟨_, Heap.get?_update_self _ hS' rfl, fun v z => by cases z⟩
    · rename_i hneg
      exact absurd hc hneg
end
theorem preSum_take (f : Nat → Int) (l : List Nat) : ∀ j, j ≤ l.length → preSum (fun j => f (l.getD j 0)) j = ((l.take j).map f).sum
  | 0, _ => rfl
  | j + 1, h => by
    have e : l[j]? = some (l[j]'h) := List.getElem?_eq_getElem _
    rw [preSum, preSum_take f l j (Nat.le_of_succ_le h), List.take_add_one, e, List.map_append, List.sum_append, List.getD_eq_getElem?_getD, e]
    simp
theorem sum_bound {f : Nat → Int} {B : Nat} : ∀ l : List Nat, (∀ i ∈ l, (f i).natAbs ≤ B) → ((l.map f).sum).natAbs ≤ l.length * B
  | [], _ => by simp
  | i :: l, h => by
    have h1 := h i List.mem_cons_self
    have h2 := sum_bound l fun k hk => h k (List.mem_cons_of_mem _ hk)
    rw [List.map_cons, List.sum_cons, List.length_cons, Nat.succ_mul]
    exact Nat.le_trans (Int.natAbs_add_le _ _) (by omega)
/-! ### the rules -/
/-- a generator expression's own scope -/
def gxOk (scope : Scope) : Bool := decide (scope.kind = .function) && (!scope.isCoroutine && (scope.names.all (fun y => decide (y.2 ≠ .cell)) && decide (scope.names.lookup (".0" : Str) = some NameKind.local)))
structure GxOk (scope : Scope) : Prop where
  kind : scope.kind = .function
  co : scope.isCoroutine = false
  nc : ∀ y ∈ scope.names, y.2 ≠ .cell
  dot : scope.names.lookup (".0" : Str) = some NameKind.local
theorem gx_ok {scope : Scope} (h : gxOk scope = true) : GxOk scope := by
  obtain ⟨h1, h⟩ := Bool.and_eq_true_iff.mp h
  obtain ⟨h2, h⟩ := Bool.and_eq_true_iff.mp h
  obtain ⟨h3, h4⟩ := Bool.and_eq_true_iff.mp h
  exact ⟨of_decide_eq_true h1, by simpa using h2, fun y hy => of_decide_eq_true (List.all_eq_true.mp h3 y hy), of_decide_eq_true h4⟩
theorem room_gx {k : Nat} {A : Around} {env : Env} (r : Room (k + 1) A) : Room k (A.in1.in1.deeper env) :=
  ⟨r.hd, by have := r.dp; show A.depth + 1 + 3 * k + 5 < _; omega, by have := r.un; show A.units + 1 + 1 + 3 + 16 * k + 200 < _; omega⟩
section
variable {X : Cx}
/-- the generator at a is made and has not begun: it can be walked by a consumer that pins what stands at L a -/
structure GMd (X : Cx) (pins : List (Addr × Obj)) (σ : L2.St) (Pv : Nat → Hp → Prop) (n : Nat) (pz : Nat → Bool) (F : Nat → V) (vs : List Nat) (L : Addr → List Addr) (a : Addr) (s : Shared) : Prop where
  ex : ∃ (Y : Cx) (fp : List Addr) (tn : Nat → Heap → Prop) (g : Nat) (go : Obj), Y.prog = X.prog ∧ Y.w = X.w ∧ Y.pn = [] ∧ Y.s_0.heap.objs.size < a ∧ s.heap.objs.size = a + 1 ∧ s.heap.get? a = some go ∧ (∀ v, go.data ≠ .cell v) ∧ s.heap.IsGen a g ∧
    (∀ b ∈ fp, b < a) ∧ (∀ i h h2, tn i h → (∀ b ∈ fp, ∀ o, h.get? b = some o → h2.get? b = some o) → tn i h2) ∧
    (∃ H, Inv Y [(a, go)] (wipe σ vs) H s ∧ tn 0 s.heap ∧ (∀ b ∈ fp, H b = none) ∧ Pv 0 H) ∧
    (∃ gs, s.gens[g]? = some gs ∧ ∀ s2, GAt Y (L a) fp (wipe σ vs) tn Pv 0 s2 → gs.Goes (model Y.prog Y.w) X.A.in1.in1 (GEnd Y (L a) (wipe σ vs) Pv n) (GYld Y (L a) fp (wipe σ vs) tn Pv n pz F) (passing pz n 0).length (.send .none) s2) ∧
    ∀ s' H, Inv Y [] (wipe σ vs) H s' → Inv X pins σ H s'
def tGx (P : Addr) (wi : TI) (g : TG) (tt : TT) (te : TE) (vs : List Nat) (σ : L2.St) (H : Hp) (K : Nat → (Nat → Bool) → (Nat → V) → (Nat → Hp → Prop) → Prop) : Prop :=
  wi σ H fun J H1 => H1 P = some (TabO P) ∧ ∃ (n : Nat) (pz : Nat → Bool) (F : Nat → V) (Pv : Nat → Hp → Prop), Pv 0 H1 ∧ (∀ i H, i < n → Pv i H → J.go i H) ∧ (∀ H, Pv n H → J.stop n H) ∧ GStep J g tt te σ vs Pv n pz F ∧ K n pz F Pv
theorem make_gx {c P : Addr} {elt tg iter : Expr} {ifs : List Expr} {scope : Scope} {own : List (Str × Nat)} {gpos : Pos} {wi : TI} {g : TG} {tt : TT} {te : TE} {k : Nat} {pins : List (Addr × Obj)} {s : Shared} {σ : L2.St} {H : Hp} {Q' : Value → Shared → Prop} (L : Addr → List Addr)
    {Kk : Nat → (Nat → Bool) → (Nat → V) → (Nat → Hp → Prop) → Prop} (hL : ∀ a, ∀ b ∈ L a, a ≤ b)
    (hr : Room k X.A) (hN : X.N.Nodup) (TB : GxR.TabB X.base X.mg c P) (hcode : X.env.code = .ref c) (hi : PI X tg iter wi) (ok : BlkOk X.N X.env.scope scope own) (S : GxOk scope)
    (pg : ∀ (s : Shared) (H : Hp) (C : Addr) (code : Value) (fp : List Addr), PG (gblk X s H (gxEnv X scope C code) fp) tg g) (pt : ∀ (s : Shared) (H : Hp) (C : Addr) (code : Value) (fp : List Addr), PTs (gblk X s H (gxEnv X scope C code) fp) ifs tt)
    (pe : ∀ (s : Shared) (H : Hp) (C : Addr) (code : Value) (fp : List Addr), PE (gblk X s H (gxEnv X scope C code) fp) elt te)
    (hs : ∀ v, genFold iter X.env v = pure v) (I : Inv X pins σ H s) (h : tGx P wi g tt te (own.map (·.2)) σ H Kk)
    (hQ : ∀ n pz F Pv a s5, Kk n pz F Pv → GMd X pins σ Pv n pz F (own.map (·.2)) L a s5 → Q' (.ref a) s5) :
    wpAny (model X.prog X.w) X.A (eval (gxE elt tg iter ifs scope gpos) X.env) Q' X.xe s := by
  have hfree : ∀ y ∈ scope.names, y.2 = .free → ∃ c, X.env.cells.lookup y.1 = some c := fun y hy e => by
    rcases ok.free y hy e with k | k
    · exact I.ok.has _ (.inl k)
    · exact I.ok.has _ (.inr k)
  refine wpAny_GeneratorExp_make S.co (closure_ok hfree) S.nc S.dot S.kind (by have := hr.dp; omega) ?_ hs
  refine thn (hi.run pins s σ H _ I h) fun xv s1 hx => thn hx fun itv s2 h2 => ?_
  obtain ⟨it, fp, tn, J, H2, rfl, I2, T, st2, f2, hP, n, pz, F, Pv, p0, go, stop, step, kk⟩ := h2
  obtain ⟨⟨ps, hPs, ht⟩, _, _⟩ := (show ObjOk X.prog X.w H2 s2.heap P (TabO P) from I2.hok P _ hP)
  have cd : PySem.W.CodeHd s2.heap c P := TB.code.keeps fun b u e => I2.bk b u e
  have sz : ∀ b ∈ fp, b < s2.heap.objs.size := fun b hb => by
    obtain ⟨o, e, _⟩ := T.obj _ _ st2 b hb
    exact Heap.lt_size e
  have nPf : ∀ b ∈ fp, b ≠ P := fun b hb z => by
    have := (f2 b hb).1
    rw [z, hP] at this
    cases this
  have cont : ∀ (code : Value) (h3 : Heap) (tk : Nat), Heap.ExtBut P s2.heap h3 → s2.heap.objs.size ≤ h3.objs.size → tabP P h3 →
      wpAny (model X.prog X.w) X.A (builtinsFor X.env.globals X.env.builtins) (fun bi s4 => ∀ h', h'.Ns s4.heap.objs.size (fun y => if y = ".0" then some (.ref it) else none) → Heap.SameBut s4.heap.objs.size (s4.heap.push { cls := .type "frame", data := .dict #[] }) h' →
          Q' (.ref h'.objs.size) { s4 with
            gens := s4.gens.push (.fresh (.compStart (gxE elt tg iter ifs scope gpos) 0 (.ref it) .none (genEnv scope (cloFrom X.env.cells scope.names []) s4.heap.objs.size code bi X.env))),
            toks := s4.toks + 1 + 1 + 1,
            heap := h'.push { cls := .type "generator", data := .fields #[.int s4.gens.size 0, .str "<genexpr>" (s4.toks + 1), .str (X.env.qual ++ "<genexpr>") (s4.toks + 1 + 1)] } }) X.xe { s2 with heap := h3, toks := tk } := by
    intro code h3 tk hx hsz hP3
    obtain ⟨bm, ob, e1, e2, e3, e4, e5, e6, e7, e8⟩ := TB.bm
    have keep3 : ∀ b u, b ≠ P → s2.heap.get? b = some u → h3.get? b = some u := fun b u hb e => hx b u hb e
    refine wpAny_builtinsFor (m := X.mg) (by rw [I2.ok.glob]; exact (I2.mod.glob.keeps I2.bk).extBut hx TB.gP) e1 e2 (keep3 _ _ e4 (I2.bk _ _ e5)) e6 e7 e8 ?_
    have I3 : Inv X pins σ H2 { s2 with heap := h3, toks := tk } := inv_tabO I2 hP keep3 hP3
    have st3 : tn 0 h3 := T.keep _ _ _ st2 fun b hb o e => keep3 b o (nPf b hb) e
    generalize hs3 : ({ s2 with heap := h3, toks := tk } : Shared) = s3 at I3 ⊢
    have eh3 : s3.heap = h3 := by rw [← hs3]
    intro h' hn' hs'
    have hsz' : h'.objs.size = s3.heap.objs.size + 1 := by rw [hs'.1, Heap.size_push]
    have keep' : ∀ b o, s3.heap.get? b = some o → h'.get? b = some o := fun b o e => hs'.extBut b o (Nat.ne_of_lt (Heap.lt_size e)) (Heap.get?_push_of_some _ e)
    generalize hgo : ({ cls := .type "generator", data := .fields #[.int s3.gens.size 0, .str "<genexpr>" (s3.toks + 1), .str (X.env.qual ++ "<genexpr>") (s3.toks + 1 + 1)] } : Obj) = gob
    have keep5 : ∀ b o, s3.heap.get? b = some o → (h'.push gob).get? b = some o := fun b o e => Heap.get?_push_of_some _ (keep' b o e)
    have hfp3 : ∀ b ∈ fp, FpOk X pins H2 b ∧ b < s3.heap.objs.size := fun b hb => ⟨f2 b hb, by rw [eh3]; exact Nat.lt_of_lt_of_le (sz b hb) hsz⟩
    have hga : (h'.push gob).get? h'.objs.size = some gob := by rw [← hgo]; exact Heap.get?_push_size _ rfl
    have I5 := gblk_start (code := code) (G5 := s3.gens.push (.fresh (.compStart (gxE elt tg iter ifs scope gpos) 0 (.ref it) .none (gxEnv X scope s3.heap.objs.size code)))) (tk := s3.toks + 1 + 1 + 1) (h5 := h'.push gob) (a := h'.objs.size) (go := gob) I3 ok S.nc hN hr.hd hfp3 keep5 (hn'.push _) (I3.bare.push rfl) hga (by rw [hsz']; exact Nat.lt_succ_self _)
      (fun v z => by rw [← hgo] at z; cases z)
    refine hQ n pz F Pv _ _ kk ⟨gblk X s3 H2 (gxEnv X scope s3.heap.objs.size code) fp, fp, tn, s3.gens.size, gob, rfl, rfl, rfl, ?_, ?_, hga, (fun v z => by rw [← hgo] at z; cases z), ?_, fun b hb => ?_, fun i h h2 => T.keep i h h2, ⟨H2, I5, ?_, fun b hb => (f2 b hb).1, p0⟩, ⟨.fresh (.compStart (gxE elt tg iter ifs scope gpos) 0 (.ref it) .none (gxEnv X scope s3.heap.objs.size code)), ?_, fun s6 h6 => ⟨rfl, ?_⟩⟩, fun s' H' J' => ?_⟩
    · show s3.heap.objs.size < h'.objs.size
      rw [hsz']; exact Nat.lt_succ_self _
    · show (h'.push gob).objs.size = _
      rw [Heap.size_push]
    · exact ⟨gob, _, _, hga, by rw [← hgo], by rw [← hgo], by rw [← hgo]⟩
    · rw [hsz']
      exact Nat.lt_succ_of_lt (hfp3 b hb).2
    · exact T.keep _ _ _ st3 fun b _ o e => keep5 b o (by rw [eh3]; exact e)
    · exact Array.getElem?_push_size ..
    · refine seg_gx0 (Y := gblk X s3 H2 (gxEnv X scope s3.heap.objs.size code) fp) (A := X.A.in1.in1) rfl rfl rfl rfl S.co T (pg _ _ _ _ _) (pt _ _ _ _ _) (pe _ _ _ _ _) (fun b hb => hb) (fun b hb z => ?_) go stop step s6 h6
      have h1 := hL _ b z
      have h2 := (hfp3 b hb).2
      rw [hsz'] at h1
      exact absurd (Nat.lt_of_lt_of_le h2 (Nat.le_of_succ_le h1)) (Nat.lt_irrefl _)
    · exact I3.call' (ch := fp) J'.os J'.base J'.hok J'.bare fun b hb => ⟨(f2 b hb).2.2.2.1, (f2 b hb).2.1, (f2 b hb).2.2.2.2.1, (f2 b hb).2.2.2.2.2⟩
  refine ⟨I2.nolimit, ?_⟩
  cases hf : codeAmong gpos ps.toList with
  | none =>
    refine wpAny_genexprCodeX hcode (cd.code hPs ht) (cd.tab hPs) hf fun c' h' tk hx hge hlt hco' _ htab' _ => ?_
    obtain ⟨o1, vs, f1, tf, fl, tg', inF, tx, tt', op, _, _, _, _, _, _, _, _, _, htr, _⟩ := hco'
    exact cont _ h' tk hx (Nat.le_trans hge (Nat.le_of_lt hlt)) ⟨_, htab'.2, htr⟩
  | some cv =>
    refine wpAny_genexprCode_hit hcode (cd.code hPs ht) hf ?_
    exact cont cv s2.heap s2.toks (Heap.ExtBut.refl _ _) (Nat.le_refl _) ⟨ps, hPs, ht⟩
/-- all(e for .. in .. if ..) -/
def tAllG (P : Addr) (wi : TI) (g : TG) (tt : TT) (te : TE) (vs : List Nat) : TE := fun σ H Q => tGx P wi g tt te vs σ H fun n pz F Pv => ∃ f : Nat → Bool, (F = fun i => .bl (f i)) ∧ ∀ i H, i ≤ n → Pv i H → Q (.bl (((List.range n).filter pz).all f)) H
def tAnyG (P : Addr) (wi : TI) (g : TG) (tt : TT) (te : TE) (vs : List Nat) : TE := fun σ H Q => tGx P wi g tt te vs σ H fun n pz F Pv => ∃ f : Nat → Bool, (F = fun i => .bl (f i)) ∧ ∀ i H, i ≤ n → Pv i H → Q (.bl (((List.range n).filter pz).any f)) H
def tSumG (P : Addr) (wi : TI) (g : TG) (tt : TT) (te : TE) (vs : List Nat) : TE := fun σ H Q => tGx P wi g tt te vs σ H fun n pz F Pv => ∃ (f : Nat → Int) (B : Nat), (F = fun i => .int (f i)) ∧ n * B < 2 ^ 63 ∧ (∀ i, i < n → (f i).natAbs ≤ B) ∧ ∀ H, Pv n H → Q (.int ((((List.range n).filter pz).map f).sum)) H
/-- a generator just made, seen by all or any -/
theorem GMd.gs1 {pins : List (Addr × Obj)} {σ : L2.St} {Pv : Nat → Hp → Prop} {n : Nat} {pz : Nat → Bool} {F : Nat → V} {vs : List Nat} {a : Addr} {s : Shared} (G : GMd X pins σ Pv n pz F vs (fun a => [a]) a s) :
    s.heap.NoLimit ∧ (∃ g, s.heap.IsGen a g) ∧ ∃ (Y : Cx) (fp : List Addr) (tn : Nat → Heap → Prop) (g : Nat), Y.prog = X.prog ∧ Y.w = X.w ∧ GS Y [a] fp (wipe σ vs) tn Pv n pz F X.A.in1 a g 0 s ∧ ∀ s' H, Inv Y [] (wipe σ vs) H s' → Inv X pins σ H s' := by
  obtain ⟨Y, fp, tn, g, go, e1, e2, e3, e4, e5, e6, e7, e8, e9, e10, ⟨H, I, st, nf, pv⟩, ⟨gs, h1, h2⟩, back⟩ := G.ex
  refine ⟨I.nolimit, ⟨g, e8⟩, Y, fp, tn, g, e1, e2, ⟨e8, fun b hb => ?_, ⟨H, ?_, st, nf, pv⟩, gs, h1, h2⟩, back⟩
  · rw [List.mem_singleton.mp hb]
    exact ⟨go, e6⟩
  · have e : pinsAt [a] s.heap = [(a, go)] := by
      unfold pinsAt
      rw [List.filterMap_cons, e6]
      rfl
    rw [e]
    exact I
theorem all_made {pins : List (Addr × Obj)} {σ : L2.St} {Pv : Nat → Hp → Prop} {n : Nat} {pz : Nat → Bool} {F : Nat → V} {vs : List Nat} {a : Addr} {s : Shared} {k : Nat} {f : Nat → Bool} {Q : VK} (hr : Room k X.A) (G : GMd X pins σ Pv n pz F vs (fun a => [a]) a s)
    (hF : F = fun i => .bl (f i)) (hQ : ∀ i H, i ≤ n → Pv i H → Q (.bl (((List.range n).filter pz).all f)) H) : wpAny (model X.prog X.w) X.A (call (.builtin "all") [.ref a]) (EP X pins σ Q) X.xe s := by
  obtain ⟨lim, ⟨g0, isg⟩, Y, fp, tn, g, ep, ew, gs, back⟩ := G.gs1
  refine call_function_tree PySem.F.kind_all PySem.F.plain_all PySem.F.entry_all (PySem.F.args_all1 _) ?_
  unfold Builtin.«all»
  refine wpAny_bind (m := oneArg "all" _) (wpAny_pure ?_)
  refine wpAny_bind (wpAny_pyIter_gen isg ?_)
  have hd : X.A.in1.depth < recursionLimit := hr.depth
  have L := all_gx (A := X.A) (f := f) (R := fun r s' => match r with | .ok (.ret v) => EP X pins σ Q v s' | .ok _ => False | .error e => X.xe e s') hr.hd hd List.mem_cons_self hF (passing pz n 0).length 0 s rfl (Nat.zero_le _) gs
    (fun s' i H hi I pv => ⟨.bl _, H, back s' H I, rfl, hQ i H hi pv⟩)
  rw [ep, ew] at L
  exact wpAny_pure ⟨plainId_quiet PySem.F.plain_all_loop _, L⟩
theorem any_made {pins : List (Addr × Obj)} {σ : L2.St} {Pv : Nat → Hp → Prop} {n : Nat} {pz : Nat → Bool} {F : Nat → V} {vs : List Nat} {a : Addr} {s : Shared} {k : Nat} {f : Nat → Bool} {Q : VK} (hr : Room k X.A) (G : GMd X pins σ Pv n pz F vs (fun a => [a]) a s)
    (hF : F = fun i => .bl (f i)) (hQ : ∀ i H, i ≤ n → Pv i H → Q (.bl (((List.range n).filter pz).any f)) H) : wpAny (model X.prog X.w) X.A (call (.builtin "any") [.ref a]) (EP X pins σ Q) X.xe s := by
  obtain ⟨lim, ⟨g0, isg⟩, Y, fp, tn, g, ep, ew, gs, back⟩ := G.gs1
  refine call_function_tree PySem.F.kind_any PySem.F.plain_any PySem.F.entry_any (PySem.F.args_any1 _) ?_
  unfold Builtin.«any»
  refine wpAny_bind (m := oneArg "any" _) (wpAny_pure ?_)
  refine wpAny_bind (wpAny_pyIter_gen isg ?_)
  have hd : X.A.in1.depth < recursionLimit := hr.depth
  have L := any_gx (A := X.A) (f := f) (R := fun r s' => match r with | .ok (.ret v) => EP X pins σ Q v s' | .ok _ => False | .error e => X.xe e s') hr.hd hd List.mem_cons_self hF (passing pz n 0).length 0 s rfl (Nat.zero_le _) gs
    (fun s' i H hi I pv => ⟨.bl _, H, back s' H I, rfl, hQ i H hi pv⟩)
  rw [ep, ew] at L
  exact wpAny_pure ⟨plainId_quiet PySem.F.plain_any_loop _, L⟩
theorem sum_made {pins : List (Addr × Obj)} {σ : L2.St} {Pv : Nat → Hp → Prop} {n : Nat} {pz : Nat → Bool} {F : Nat → V} {vs : List Nat} {a : Addr} {s : Shared} {k : Nat} {f : Nat → Int} {B : Nat} {Q : VK} (hr : Room k X.A) (G : GMd X pins σ Pv n pz F vs (fun a => [a, a + 1]) a s)
    (hF : F = fun i => .int (f i)) (hB : n * B < 2 ^ 63) (hf : ∀ i, i < n → (f i).natAbs ≤ B) (hQ : ∀ H, Pv n H → Q (.int ((((List.range n).filter pz).map f).sum)) H) : wpAny (model X.prog X.w) X.A (call (.builtin "sum") [.ref a]) (EP X pins σ Q) X.xe s := by
  obtain ⟨Y, fp, tn, g, go, ep, ew, epn, es0, esz, ega, ego, isg, hfp, tkeep, ⟨H, I, st, nf, pv⟩, ⟨gs, h1, h2⟩, back⟩ := G.ex
  refine call_function_tree PySem.F.kind_sum PySem.F.plain_sum PySem.F.entry_sum (PySem.F.args_sum1 _) ?_
  unfold Builtin.«sum»
  simp only [List.length_cons, List.length_nil]
  rw [if_neg (by decide)]
  refine wpAny_bind (wpAny_of_eq (show Builtin.Builtins.bindParams "sum" ["start"] 0 { } = pure [none] from rfl) ?_)
  refine wpAny_bind (wpAny_pyIter_gen isg ?_)
  refine wpAny_bind (wpAny_mkInt ?_)
  refine wpAny_bind (wpAny_pure ?_)
  simp only [List.forIn_cons, List.forIn_nil]
  refine wpAny_bind (wpAny_bind (wpAny_bind (wpAny_isInstance (T := "int") (b := false) (typeIs_int _ _ _) PySem.sub_int_str ?_)))
  simp only [Bool.false_eq_true, if_false]
  refine wpAny_pure (wpAny_bind (wpAny_bind (wpAny_isInstance (T := "int") (b := false) (typeIs_int _ _ _) PySem.sub_int_bytes ?_)))
  simp only [Bool.false_eq_true, if_false]
  refine wpAny_pure (wpAny_bind (wpAny_bind (wpAny_isInstance (T := "int") (b := false) (typeIs_int _ _ _) PySem.sub_int_bytearray ?_)))
  simp only [Bool.false_eq_true, if_false]
  refine wpAny_pure (wpAny_pure ?_)
  refine wpAny_bind (wpAny_newObj_type ?_)
  have hd : X.A.in1.depth < recursionLimit := hr.depth
  have le : (passing pz n 0).length ≤ n := by
    unfold passing
    exact Nat.le_trans (List.length_filter_le _ _) (by simp)
  have inr : ∀ i ∈ passing pz n 0, i < n := fun i hi => by
    unfold passing at hi
    exact List.mem_range.mp (List.mem_filter.mp hi).1
  have bnd : ∀ l : List Nat, (∀ i ∈ l, i < n) → l.length ≤ n → InLong ((l.map f).sum) := fun l hl hn => by
    have b1 := sum_bound (f := f) (B := B) l fun i hi => hf i (hl i hi)
    have b2 : l.length * B ≤ n * B := Nat.mul_le_mul_right _ hn
    unfold InLong
    omega
  have hSz : s.heap.objs.size = a + 1 := esz
  have gs0 : GS Y [a, a + 1] fp (wipe σ vs) tn Pv n pz F X.A.in1 a g 0 { s with heap := s.heap.push { cls := .type "list", data := .seq #[.int 0 s.toks] }, toks := s.toks + 1 } := by
    have kp : ∀ b o, s.heap.get? b = some o → (s.heap.push { cls := .type "list", data := .seq #[.int 0 s.toks] }).get? b = some o := fun b o e => Heap.get?_push_of_some _ e
    have eS : (s.heap.push { cls := .type "list", data := .seq #[.int 0 s.toks] }).get? (a + 1) = some { cls := .type "list", data := .seq #[.int 0 s.toks] } := by rw [← hSz]; exact Heap.get?_push_size _ rfl
    have J : Inv Y [(a, go)] (wipe σ vs) H { s with heap := s.heap.push { cls := .type "list", data := .seq #[.int 0 s.toks] }, toks := s.toks + 1 } := I.kept kp
    have eP : pinsAt [a, a + 1] (s.heap.push { cls := .type "list", data := .seq #[.int 0 s.toks] }) = [(a, go), (a + 1, { cls := .type "list", data := .seq #[.int 0 s.toks] })] := by
      unfold pinsAt
      rw [List.filterMap_cons, kp a go ega]
      show (a, go) :: List.filterMap _ [a + 1] = _
      rw [List.filterMap_cons, eS]
      rfl
    refine ⟨?_, fun b hb => ?_, ⟨H, ?_, tkeep _ _ _ st fun b _ o e => kp b o e, nf, pv⟩, gs, h1, h2⟩
    · obtain ⟨o, nm, qn, ho, r⟩ := isg
      exact ⟨o, nm, qn, kp a o ho, r⟩
    · rcases List.mem_cons.mp hb with z | z
      · rw [z]
        exact ⟨go, kp a go ega⟩
      · rw [List.mem_singleton.mp z]
        exact ⟨_, eS⟩
    · show Inv Y (pinsAt [a, a + 1] (s.heap.push { cls := .type "list", data := .seq #[.int 0 s.toks] })) _ _ _
      rw [eP]
      refine J.pins_of fun p hp => ?_
      rcases List.mem_cons.mp hp with z | z
      · rw [z]
        exact J.pin (a, go) (List.mem_append_right _ List.mem_cons_self)
      · rw [List.mem_singleton.mp z]
        have fr : H (a + 1) = none := I.hok.fresh (Nat.le_of_eq hSz)
        refine ⟨eS, fr, fun z => ?_, I.nofs (Nat.le_of_eq hSz), fun v z => by cases z⟩
        have := I.lt
        rw [hSz] at this
        have z : a + 1 = Y.env.locals := z
        rw [← z] at this
        exact Nat.lt_irrefl _ this
  have L := sum_gx (A := X.A) (a := a) (S := a + 1) (f := f) (val := fun j => f ((passing pz n 0).getD j 0)) (R := fun r s' => match r with | .ok (.ret v) => EP X pins σ Q v s' | .ok _ => False | .error e => X.xe e s') epn (by simp) (Nat.ne_of_lt (Nat.lt_succ_self a)) (Nat.le_of_lt (Nat.lt_succ_of_lt es0))
    (fun b hb z => by
      have h3 := hfp b hb
      rcases List.mem_cons.mp z with z | z
      · rw [z] at h3; exact Nat.lt_irrefl _ h3
      · rw [List.mem_singleton.mp z] at h3; exact absurd (Nat.lt_trans h3 (Nat.lt_succ_self a)) (Nat.lt_irrefl _)) tkeep hr.hd hd (by simp) hF
    (fun j i hi => by
      show f ((passing pz n 0).getD j 0) = f i
      rw [List.getD_eq_getElem?_getD, hi]
      rfl)
    (fun j hj => ⟨by
      have e : (passing pz n 0)[j]? = some ((passing pz n 0)[j]'hj) := List.getElem?_eq_getElem _
      show InLong (f ((passing pz n 0).getD j 0))
      rw [List.getD_eq_getElem?_getD, e]
      have hm := inr _ (List.getElem_mem hj)
      have := bnd [(passing pz n 0)[j]'hj] (fun i hi => by rw [List.mem_singleton.mp hi]; exact hm) (by show 1 ≤ n; omega)
      simpa using this, by
      rw [preSum_take f _ _ hj]
      exact bnd _ (fun i hi => inr i (List.mem_of_mem_take hi)) (by rw [List.length_take]; omega)⟩)
    (passing pz n 0).length 0 _ s.toks 0 rfl (Nat.zero_le _) gs0 (by
      show (s.heap.push _).get? (a + 1) = _
      rw [← hSz]
      exact Heap.get?_push_size _ rfl)
    (fun s' t' H I pv => ⟨.int _, H, back s' H I, ⟨t', rfl⟩, by
      rw [preSum_take f _ _ (Nat.le_refl _), List.take_length]
      exact hQ H pv⟩)
  rw [ep, ew] at L
  rw [show s.heap.objs.size = a + 1 from hSz]
  exact wpAny_pure ⟨plainId_quiet PySem.F.plain_sum_loop _, L⟩
section
variable {c P : Addr} {elt tg iter : Expr} {ifs : List Expr} {scope : Scope} {own : List (Str × Nat)} {p pos gpos : Pos} {wi : TI} {g : TG} {tt : TT} {te : TE} {k : Nat}
theorem pe_allG (hr : Room k X.A) (hg : Gl X "all") (hm : X.mg "all" = none) (hN : X.N.Nodup) (TB : GxR.TabB X.base X.mg c P) (hcode : X.env.code = .ref c) (hi : PI X tg iter wi) (ok : BlkOk X.N X.env.scope scope own) (S : gxOk scope = true)
    (pg : ∀ (s : Shared) (H : Hp) (C : Addr) (code : Value) (fp : List Addr), PG (gblk X s H (gxEnv X scope C code) fp) tg g) (pt : ∀ (s : Shared) (H : Hp) (C : Addr) (code : Value) (fp : List Addr), PTs (gblk X s H (gxEnv X scope C code) fp) ifs tt)
    (pe : ∀ (s : Shared) (H : Hp) (C : Addr) (code : Value) (fp : List Addr), PE (gblk X s H (gxEnv X scope C code) fp) elt te)
    (hs : ∀ v, genFold iter X.env v = pure v := by intro _; rfl)
    (he : starEach [gxE elt tg iter ifs scope gpos] X.env = (false, eval (gxE elt tg iter ifs scope gpos) X.env) :: starEach [] X.env := by rfl) :
    PE X (.Call (.Name "all" p) [gxE elt tg iter ifs scope gpos] [] pos) (tAllG P wi g tt te (own.map (·.2))) := by
  refine ⟨fun pins s σ H Q I h => ?_⟩
  refine wpAny_Call_Name_kw (ld_blt I hg hm (show bootBuiltins "all" = some (.builtin "all") by decide +kernel) ?_)
  refine PyProof.Rows.callWith_builtin1 ?_ he (by rfl)
  rw [he]
  show wpAny _ _ (spliced ((false, eval (gxE elt tg iter ifs scope gpos) X.env) :: backTo pos (starEach [] X.env))) _ _ s
  refine Calls.spliced_cons (make_gx (fun a => [a]) (fun a b hb => by rw [List.mem_singleton.mp hb]; exact Nat.le_refl _) hr hN TB hcode hi ok (gx_ok S) pg pt pe hs I h fun n pz F Pv a s5 kk G => ?_)
  obtain ⟨f, hF, hQ⟩ := kk
  exact Calls.spliced_nil (all_made hr G hF hQ)
theorem pe_anyG (hr : Room k X.A) (hg : Gl X "any") (hm : X.mg "any" = none) (hN : X.N.Nodup) (TB : GxR.TabB X.base X.mg c P) (hcode : X.env.code = .ref c) (hi : PI X tg iter wi) (ok : BlkOk X.N X.env.scope scope own) (S : gxOk scope = true)
    (pg : ∀ (s : Shared) (H : Hp) (C : Addr) (code : Value) (fp : List Addr), PG (gblk X s H (gxEnv X scope C code) fp) tg g) (pt : ∀ (s : Shared) (H : Hp) (C : Addr) (code : Value) (fp : List Addr), PTs (gblk X s H (gxEnv X scope C code) fp) ifs tt)
    (pe : ∀ (s : Shared) (H : Hp) (C : Addr) (code : Value) (fp : List Addr), PE (gblk X s H (gxEnv X scope C code) fp) elt te)
    (hs : ∀ v, genFold iter X.env v = pure v := by intro _; rfl)
    (he : starEach [gxE elt tg iter ifs scope gpos] X.env = (false, eval (gxE elt tg iter ifs scope gpos) X.env) :: starEach [] X.env := by rfl) :
    PE X (.Call (.Name "any" p) [gxE elt tg iter ifs scope gpos] [] pos) (tAnyG P wi g tt te (own.map (·.2))) := by
  refine ⟨fun pins s σ H Q I h => ?_⟩
  refine wpAny_Call_Name_kw (ld_blt I hg hm (show bootBuiltins "any" = some (.builtin "any") by decide +kernel) ?_)
  refine PyProof.Rows.callWith_builtin1 ?_ he (by rfl)
  rw [he]
  show wpAny _ _ (spliced ((false, eval (gxE elt tg iter ifs scope gpos) X.env) :: backTo pos (starEach [] X.env))) _ _ s
  refine Calls.spliced_cons (make_gx (fun a => [a]) (fun a b hb => by rw [List.mem_singleton.mp hb]; exact Nat.le_refl _) hr hN TB hcode hi ok (gx_ok S) pg pt pe hs I h fun n pz F Pv a s5 kk G => ?_)
  obtain ⟨f, hF, hQ⟩ := kk
  exact Calls.spliced_nil (any_made hr G hF hQ)
theorem pe_sumG (hr : Room k X.A) (hg : Gl X "sum") (hm : X.mg "sum" = none) (hN : X.N.Nodup) (TB : GxR.TabB X.base X.mg c P) (hcode : X.env.code = .ref c) (hi : PI X tg iter wi) (ok : BlkOk X.N X.env.scope scope own) (S : gxOk scope = true)
    (pg : ∀ (s : Shared) (H : Hp) (C : Addr) (code : Value) (fp : List Addr), PG (gblk X s H (gxEnv X scope C code) fp) tg g) (pt : ∀ (s : Shared) (H : Hp) (C : Addr) (code : Value) (fp : List Addr), PTs (gblk X s H (gxEnv X scope C code) fp) ifs tt)
    (pe : ∀ (s : Shared) (H : Hp) (C : Addr) (code : Value) (fp : List Addr), PE (gblk X s H (gxEnv X scope C code) fp) elt te)
    (hs : ∀ v, genFold iter X.env v = pure v := by intro _; rfl)
    (he : starEach [gxE elt tg iter ifs scope gpos] X.env = (false, eval (gxE elt tg iter ifs scope gpos) X.env) :: starEach [] X.env := by rfl) :
    PE X (.Call (.Name "sum" p) [gxE elt tg iter ifs scope gpos] [] pos) (tSumG P wi g tt te (own.map (·.2))) := by
  refine ⟨fun pins s σ H Q I h => ?_⟩
  refine wpAny_Call_Name_kw (ld_blt I hg hm (show bootBuiltins "sum" = some (.builtin "sum") by decide +kernel) ?_)
  refine PyProof.Rows.callWith_builtin1 ?_ he (by rfl)
  rw [he]
  show wpAny _ _ (spliced ((false, eval (gxE elt tg iter ifs scope gpos) X.env) :: backTo pos (starEach [] X.env))) _ _ s
  refine Calls.spliced_cons (make_gx (fun a => [a, a + 1]) (fun a b hb => by
    rcases List.mem_cons.mp hb with z | z
    · rw [z]; exact Nat.le_refl _
    · rw [List.mem_singleton.mp z]; exact Nat.le_succ _) hr hN TB hcode hi ok (gx_ok S) pg pt pe hs I h fun n pz F Pv a s5 kk G => ?_)
  obtain ⟨f, B, hF, hB, hf, hQ⟩ := kk
  exact Calls.spliced_nil (sum_made hr G hF hB hf hQ)
end
end
/-- a def of the text whose code object is known -/
theorem okT {Pr : Program} {w : World} {K : PySem.W.Frag} {mg : Str → Option Value} {base : Heap} {x qual : Str} {st : Stmt} {f c : Addr} {fd : FuncData} {N ps : List Str} {k : Nat} {sp : Sp} (F : Fun K x qual st f fd) (hc : fd.code = .ref c) (S : FnScope N ps (defScope st)) (len : ∀ vs H Q E, sp vs H Q E → vs.length = ps.length)
    (hbody : ∀ (A : Around) (outer : List Env) (s : Shared) (H : Hp) (vs : List V) (Q : VK) (E : XK), Room k (A.deeper (envOfC qual (defScope st) s.heap.objs.size f (.ref c))) → sp vs H Q E →
      ∃ t, PSs (cxOf CX0 Pr w K mg base N qual (defScope st) f (.ref c) A outer s H E).nox (defBody st) t ∧ t { nx := fun _ H' => Q .non H', rt := Q } (start N vs) H) : FnOk Pr w K mg base CX0 (k + 1) f fd ps sp := by
  obtain ⟨oc, od, kV, doc, pm, an, cdv, ct, osl, rfl, lk, hcd⟩ := F.ex
  obtain rfl : cdv = .ref c := hc
  refine fn_of lk hcd S len fun A outer s H vs Q E hr hsp => ?_
  obtain ⟨t, h, q⟩ := hbody A outer s H vs Q E hr hsp
  exact ⟨t, h.nox, q⟩
/-- a generator's turns by a walk -/
theorem gx_it {J : It} {n : Nat} {G : Hp → Prop} {W : Nat → Hp → V → Hp → Prop} (w : Walk J n G W) {g : TG} {tt : TT} {te : TE} {σ : L2.St} {vs : List Nat} {pz : Nat → Bool} {F : Nat → V} {H1 : Hp} {R : Prop} (Pv : Nat → Hp → Prop) (p0 : Pv 0 H1) (hG : ∀ i H, i ≤ n → Pv i H → G H)
    (hs : ∀ i x H H', i < n → Pv i H → W i H x H' → g x (wipe σ vs) H' fun σ2 H2 => wipe σ2 vs = wipe σ vs ∧ tt σ2 H2 fun b H3 => b = pz i ∧ if b = true then te σ2 H3 (fun y H4 => y = F i ∧ Pv (i + 1) H4) else Pv (i + 1) H3) (r : R) :
    Pv 0 H1 ∧ (∀ i H, i < n → Pv i H → J.go i H) ∧ (∀ H, Pv n H → J.stop n H) ∧ GStep J g tt te σ vs Pv n pz F ∧ R :=
  ⟨p0, fun i H hi p => w.goes i H hi (hG i H (Nat.le_of_lt hi) p), fun H p => w.stops H (hG n H (Nat.le_refl _) p), fun i x H H' hi p y => hs i x H H' hi p (w.yields i H x H' hi (hG i H (Nat.le_of_lt hi) p) y), r⟩
/-! ### a law's end where defs have tables of code objects (generator expressions) -/
section
variable {P : Program} {w : World} {K : PySem.W.Frag} {mg mb : Str → Option Value} {k : Nat} {fa a : Addr} {fd : FuncData} {x : Str} {sp : Sp} {s1 : Shared} {vs : List Value} {ns : List Int} {cs : List (Addr × Addr)}
abbrev emptyT : Obj := { cls := .none, data := .fields #[] }
/-- what is tracked at a law's start: the script, if it is no thing of the text, and the tables -/
structure Only0 (K : PySem.W.Frag) (a : Addr) (ts : List Addr) (H : Hp) : Prop where
  tab : ∀ t ∈ ts, H t = some (TabO t)
  no : ∀ b, b ≠ a → b ∉ ts → H b = none
  own : H a = none ∨ (K.lookup a = none ∧ ∃ o xs, H a = some (.frz o (.lst xs)))
theorem told_fromT (H : Hp) (kin : K.In s1.heap) (glob : s1.heap.Ns mainGlobals mg) (blt : s1.heap.Ns builtinsNs mb) (same : ∀ y : Str, y ≠ "__name__" → mb y = bootBuiltins y) (lim : s1.heap.NoLimit) (bare : s1.gens = #[])
    (hT : ∀ p ∈ cs, s1.heap.get? p.2 = some emptyT) (nT : ∀ p ∈ cs, K.lookup p.2 = none) (C : ∀ p ∈ cs, PySem.W.CodeHd s1.heap p.1 p.2)
    (hbm : ∃ (bm : Addr) (ob : Obj), mg "__builtins__" = some (.ref bm) ∧ bm ≠ builtinsNs ∧ s1.heap.get? bm = some ob ∧ ob.cls = .type "module" ∧ ob.dict = some builtinsNs ∧ ob.data = .plain)
    (obj : s1.heap.get? a = some { cls := .type "list", data := .seq vs.toArray }) (room : Room k callerA)
    (F : ∀ base : Heap, K.In base → base.Ns mainGlobals mg → (∀ p ∈ cs, GxR.TabB base mg p.1 p.2) → FnG P w K mg base k fa fd [x] sp) (bind : ∀ (s : Shared) (u : Value), BindsTo s fd ⟨[u], []⟩ [(x, u)])
    (only : Only0 K a (cs.map (·.2)) H) (wish : sp [.ref a] H (fun v H' => v = .bl true ∧ ∀ p ∈ cs, H' p.2 = some (TabO p.2)) fun _ _ _ => False) (hok : HOk P w H s1.heap) :
    codeAny (model P w) callerA (.call (.ref fa) ⟨[.ref a], []⟩) (Told s1) s1 := by
  have isT : ∀ b : Addr, b ∈ cs.map (·.2) → s1.heap.get? b = some emptyT := fun b hb => by
    obtain ⟨p, hp, e⟩ := List.mem_map.mp hb
    rw [← e]
    exact hT p hp
  have aT : a ∉ cs.map (·.2) := fun z => by
    have q := isT a z
    rw [obj] at q
    have z' : Data.seq vs.toArray _ = Data.fields #[] := congrArg Obj.data (Option.some.inj q)
    cases z'
  have free : ∀ {b : Addr} {o : Obj}, s1.heap.get? b = some o → (∀ vs n, o.data ≠ .seq vs n) → o.data ≠ .fields #[] → H b = none := fun {b o} e h1 h2 => by
    refine only.no b (fun z => ?_) fun z => ?_
    · rw [z, obj] at e
      cases e
      exact h1 _ _ rfl
    · rw [isT b z] at e
      cases e
      exact h2 rfl
  have nsB : ∀ {b : Addr} {m : Str → Option Value}, s1.heap.Ns b m → (hidT s1.heap H).Ns b m := by
    rintro b m ⟨o, es, ep, e, d, r⟩
    refine ⟨o, es, ep, hidT_get e (free e (fun vs n z => ?_) fun z => ?_), d, r⟩
    · rw [d] at z
      cases z
    · rw [d] at z
      cases z
  have kinB : K.In (hidT s1.heap H) := fun b o e => by
    refine hidT_get (kin b o e) ?_
    by_cases z : b = a
    · subst z
      rcases only.own with h | ⟨h, _⟩
      · exact h
      · rw [h] at e
        cases e
    · refine only.no b z fun y => ?_
      obtain ⟨p, hp, ep⟩ := List.mem_map.mp y
      rw [← ep, nT p hp] at e
      cases e
  have limB : (hidT s1.heap H).NoLimit := by
    obtain ⟨mc, h1, h2⟩ := lim
    exact ⟨mc, nsB h1, h2⟩
  have TB : ∀ p ∈ cs, GxR.TabB (hidT s1.heap H) mg p.1 p.2 := fun p hp => by
    have hTp := hT p hp
    refine ⟨?_, ?_, fun z => ?_⟩
    · obtain ⟨o, us, file, tf, flags, tg, inF, text, tt, e1, r1, r2, r3, r4, r5, r6, r7, r8, hne⟩ := C p hp
      refine ⟨o, us, file, tf, flags, tg, inF, text, tt, hidT_get e1 (free e1 (fun vs n z => ?_) fun z => ?_), r1, r2, r3, r4, r5, r6, r7, r8, hne⟩
      · rw [r2] at z
        cases z
      · rw [r2] at z
        cases z
        simp at r3
    · obtain ⟨bm, ob, b1, b2, b3, b4, b5, b6⟩ := hbm
      have nG : bm ≠ mainGlobals := fun q => by
        obtain ⟨o, es, ep, e, hd, _⟩ := glob
        rw [q, e] at b3
        cases b3
        rw [hd] at b6
        cases b6
      have nP : bm ≠ p.2 := fun q => by
        rw [q, hTp] at b3
        cases b3
        cases b6
      refine ⟨bm, ob, b1, b2, nG, nP, hidT_get b3 (free b3 (fun vs n z => ?_) fun z => ?_), b4, b5, b6⟩
      · rw [b6] at z
        cases z
      · rw [b6] at z
        cases z
    · obtain ⟨o, es, ep, e, hd, _⟩ := glob
      rw [z, hTp] at e
      cases e
      cases hd
  have env : Env0 P w K mg (hidT s1.heap H) callerA [] s1 H :=
    { frames := rfl, mod := ⟨kinB, nsB glob, ⟨mb, nsB blt, same⟩, limB⟩, bs := fun _ _ e => of_hidT e, bsz := Nat.le_of_eq (hidT_size _ _), funs := trivial,
      frf := fun b z => (List.not_mem_nil (show b ∈ ([] : List Addr) from z)).elim, hok := hok, bare := .of_eq bare }
  refine codeAny_mono ((F _ kinB (nsB glob) TB).run callerA [] s1 H ⟨[.ref a], []⟩ [.ref a] [.ref a] _ _ room rfl env (bind s1 _) (.cons rfl .nil) wish) ?_
  rintro (e | fl) s2 h
  · exact (show False from h).elim
  · cases fl with
    | ret u =>
      obtain ⟨v, H2, os2, bare2, un, hok2, rel, q, qt⟩ := h
      have q : v = V.bl true := q
      subst q
      obtain rfl : u = Value.bool true := rel
      have key : ∀ b o, b ∉ cs.map (·.2) → s1.heap.get? b = some o → s2.heap.get? b = some o := fun b o nb e => by
        cases z : H b with
        | none => exact un.keep b o e z (fun y => List.not_mem_nil (show b ∈ ([] : List Addr) from y)) List.not_mem_nil
        | some u =>
          have eb : b = a := Classical.byContradiction fun n => by
            rw [only.no b n nb] at z
            cases z
          subst eb
          rcases only.own with y | ⟨_, ob, xs, y⟩
          · rw [z] at y
            cases y
          · obtain ⟨g1, _⟩ := hok b _ y
            obtain ⟨g2, _⟩ := hok2 b _ (un.frzs b ob _ y)
            rw [e] at g1
            cases g1
            exact g2
      have grown : ∀ p ∈ cs, ∃ more : Array Value, s2.heap.get? p.2 = some { cls := .none, data := .fields more } := fun p hp => by
        obtain ⟨⟨ps, h1, _⟩, _⟩ := (show ObjOk P w H2 s2.heap p.2 (TabO p.2) from hok2 p.2 _ (qt p hp))
        exact ⟨ps, h1⟩
      refine ⟨rfl, ⟨fun b o e => ?_, fun b o e => ?_⟩, os2, bare2⟩
      · by_cases hb : b ∈ cs.map (·.2)
        · obtain ⟨p, hp, ep⟩ := List.mem_map.mp hb
          obtain ⟨more, hm⟩ := grown p hp
          rw [← ep] at e ⊢
          rw [hT p hp] at e
          cases e
          exact .inr (.inl ⟨((C p hp).tab (hT p hp)).isCodeTable, rfl, #[], more, rfl, by rw [Array.empty_append]; exact hm⟩)
        · exact .inl (key b o hb e)
      · by_cases hb : b ∈ cs.map (·.2)
        · obtain ⟨p, hp, ep⟩ := List.mem_map.mp hb
          obtain ⟨more, hm⟩ := grown p hp
          rw [← ep]
          exact ⟨_, hm⟩
        · exact ⟨o, key b o hb e⟩
    | next => exact h.elim
    | brk => exact h.elim
    | cont => exact h.elim
theorem told_lawT (kin : K.In s1.heap) (glob : s1.heap.Ns mainGlobals mg) (blt : s1.heap.Ns builtinsNs mb) (same : ∀ y : Str, y ≠ "__name__" → mb y = bootBuiltins y) (lim : s1.heap.NoLimit) (bare : s1.gens = #[])
    (hT : ∀ p ∈ cs, s1.heap.get? p.2 = some emptyT) (nT : ∀ p ∈ cs, K.lookup p.2 = none) (C : ∀ p ∈ cs, PySem.W.CodeHd s1.heap p.1 p.2)
    (hbm : ∃ (bm : Addr) (ob : Obj), mg "__builtins__" = some (.ref bm) ∧ bm ≠ builtinsNs ∧ s1.heap.get? bm = some ob ∧ ob.cls = .type "module" ∧ ob.dict = some builtinsNs ∧ ob.data = .plain)
    (obj : s1.heap.get? a = some { cls := .type "list", data := .seq vs.toArray }) (are : IntsAre vs ns) (long : ns.length ≤ sizeLine) (room : Room k callerA)
    (F : ∀ base : Heap, K.In base → base.Ns mainGlobals mg → (∀ p ∈ cs, GxR.TabB base mg p.1 p.2) → FnG P w K mg base k fa fd [x] sp) (bind : ∀ (s : Shared) (u : Value), BindsTo s fd ⟨[u], []⟩ [(x, u)])
    (wish : ∀ H : Hp, SqL K H a (ns.map V.int) → (∀ p ∈ cs, H p.2 = some (TabO p.2)) → sp [.ref a] H (fun v H' => v = .bl true ∧ ∀ p ∈ cs, H' p.2 = some (TabO p.2)) fun _ _ _ => False) :
    codeAny (model P w) callerA (.call (.ref fa) ⟨[.ref a], []⟩) (Told s1) s1 := by
  have rv := vals_ints are
  have nl := are.length
  have isT : ∀ b : Addr, b ∈ cs.map (·.2) → s1.heap.get? b = some emptyT := fun b hb => by
    obtain ⟨p, hp, e⟩ := List.mem_map.mp hb
    rw [← e]
    exact hT p hp
  have aT : a ∉ cs.map (·.2) := fun z => by
    have q := isT a z
    rw [obj] at q
    have z' : Data.seq vs.toArray _ = Data.fields #[] := congrArg Obj.data (Option.some.inj q)
    cases z'
  have memT : ∀ p ∈ cs, p.2 ∈ cs.map (·.2) := fun p hp => List.mem_map.mpr ⟨p, hp, rfl⟩
  have tobj : ∀ {H : Hp} (b : Addr), b ∈ cs.map (·.2) → ObjOk P w H s1.heap b (TabO b) := fun b hb => tab_obj ⟨#[], isT b hb, trivial⟩
  cases hk : K.lookup a with
  | some o =>
    have e := kin a o hk
    rw [obj] at e
    cases e
    have tt : ∀ b ∈ cs.map (·.2), (fun b => if b ∈ cs.map (·.2) then some (TabO b) else none) b = some (TabO b) := fun b hb => if_pos hb
    have sq : SqL K (fun b => if b ∈ cs.map (·.2) then some (TabO b) else none) a (ns.map V.int) := Or.inr ⟨_, vs.toArray, _, hk, rfl, rfl, rfl, by rw [List.size_toArray, nl]; exact long, by simpa using rv⟩
    refine told_fromT _ kin glob blt same lim bare hT nT C hbm obj room F bind ⟨tt, fun b _ nb => if_neg nb, Or.inl (if_neg aT)⟩ (wish _ sq fun p hp => tt p.2 (memT p hp)) fun b u z => ?_
    by_cases hb : b ∈ cs.map (·.2)
    · have z' := (tt b hb).symm.trans z
      cases z'
      exact tobj b hb
    · have z' := (if_neg hb).symm.trans z
      cases z'
  | none =>
    let H : Hp := fun b => if b = a then some (.frz { cls := .type "list", data := .seq vs.toArray } (.lst (ns.map V.int))) else if b ∈ cs.map (·.2) then some (TabO b) else none
    have h1 : H a = some (.frz { cls := .type "list", data := .seq vs.toArray } (.lst (ns.map V.int))) := if_pos rfl
    have h2 : ∀ b ∈ cs.map (·.2), H b = some (TabO b) := fun b hb => (if_neg (show ¬ b = a from fun z => aT (by rw [← z]; exact hb))).trans (if_pos hb)
    have h3 : ∀ b, b ≠ a → b ∉ cs.map (·.2) → H b = none := fun b hb nb => (if_neg hb).trans (if_neg nb)
    refine told_fromT H kin glob blt same lim bare hT nT C hbm obj room F bind ⟨h2, h3, Or.inr ⟨hk, _, _, h1⟩⟩ (wish H (Or.inl (Or.inr ⟨_, h1⟩)) fun p hp => h2 p.2 (memT p hp)) fun b u z => ?_
    by_cases hb : b = a
    · rw [hb, h1] at z
      cases z
      rw [hb]
      exact ⟨obj, by rw [List.length_map]; exact long, vs, _, rv, obj⟩
    · by_cases hb2 : b ∈ cs.map (·.2)
      · rw [h2 b hb2] at z
        cases z
        exact tobj b hb2
      · rw [h3 b hb hb2] at z
        cases z
end
theorem walkGT {l : PySem.W.OpenLaw} {n k : Nat} {q : Program} {loose : List Str} {XP : (Str → Option Value) → Heap → Prop} {YP : World → Heap → Prop} {d : DefRec} {x : Str} {sp : PySem.W.Frag → List Addr → Sp}
    (hn : l.most = some n) (hn2 : n ≤ sizeLine) (hdf : d.params.defaults = []) (hr : Room k callerA)
    (F : ∀ (w : World) (mg : Str → Option Value) (fa : Addr) (h : Heap), YP w h → h.Ns mainGlobals mg → mg d.name = some (.ref fa) →
      ∃ (K : PySem.W.Frag) (fd : FuncData) (cs : List (Addr × Addr)), K.In h ∧ (∀ p ∈ cs, h.get? p.2 = some emptyT) ∧ (∀ p ∈ cs, K.lookup p.2 = none) ∧ (∀ p ∈ cs, PySem.W.CodeHd h p.1 p.2) ∧ (∀ (s : Shared) (u : Value), BindsTo s fd ⟨[u], []⟩ [(x, u)]) ∧
        ∀ base : Heap, K.In base → base.Ns mainGlobals mg → (∀ p ∈ cs, GxR.TabB base mg p.1 p.2) → FnG l.prog w K mg base k fa fd [x] (sp K (cs.map (·.2))))
    (hsp : ∀ (K : PySem.W.Frag) (ts : List Addr) (H : Hp) (a : Addr) (ns : List Int), ns.length ≤ n → SqL K H a (ns.map V.int) → (∀ t ∈ ts, H t = some (TabO t)) → sp K ts [.ref a] H (fun v H' => v = .bl true ∧ ∀ t ∈ ts, H' t = some (TabO t)) fun _ _ _ => False) :
    PySem.W.WalkO q loose XP YP l.row.toRowW d [] (fun f vs => PySem.call f vs) := by
  refine Att.attach_call hn hdf fun w s0 s1 mg mb fa o pm cd doc a vs ns G Y ho hd hcd hmg hobj hints hlen hg => ?_
  obtain ⟨K, fd, cs, kin, hT, nT, C, hb, hF⟩ := F w mg fa _ Y G.T.g hmg
  refine told_lawT kin G.T.g G.T.b G.T.builtins G.T.nolimit hg hT nT C G.T.bmain hobj hints (Nat.le_trans hlen hn2) hr hF hb fun H sq tt => ?_
  have w1 := hsp K (cs.map (·.2)) H a ns hlen sq fun t ht => by
    obtain ⟨p, hp, rfl⟩ := List.mem_map.mp ht
    exact tt p hp
  have e : (fun (v : V) (H' : Hp) => v = .bl true ∧ ∀ t ∈ cs.map (·.2), H' t = some (TabO t)) = fun v H' => v = .bl true ∧ ∀ p ∈ cs, H' p.2 = some (TabO p.2) := by
    funext v H'
    apply propext
    constructor
    · intro ⟨h1, h2⟩
      exact ⟨h1, fun p hp => h2 p.2 (List.mem_map.mpr ⟨p, hp, rfl⟩)⟩
    · intro ⟨h1, h2⟩
      refine ⟨h1, fun t ht => ?_⟩
      obtain ⟨p, hp, rfl⟩ := List.mem_map.mp ht
      exact h2 p hp
  rw [e] at w1
  exact w1
/-- what is known of a def's code object -/
theorem code_of {K : PySem.W.Frag} {x qual : Str} {pa : Arguments} {bd : List Stmt} {sc : Scope} {dv : List V} {kw : List (Str × V)} {p : He.Defn} {fd : FuncData} (F : FunD K x qual pa bd sc dv kw (He.fAd K p) fd) : fd.code = .ref (He.codeOf K p) := by
  obtain ⟨oc, od, dV, kV, doc, pm, an, cdv, ct, osl, e, lk, hcd, hd, hk⟩ := F.ex
  obtain ⟨c, rfl⟩ := He.codeIn_ref hcd
  have e2 : fd.code = .ref c := by rw [e]
  rw [e2, He.codeOf_eq lk e2]
/-- the law's promise, tables ts -/
def spLawT (K : PySem.W.Frag) (ts : List Addr) : Sp := fun vs H Q _ => ∃ (a : Addr) (ns : List Int), vs = [.ref a] ∧ SqL K H a (ns.map V.int) ∧ (∀ t ∈ ts, H t = some (TabO t)) ∧ ∀ H', (∀ t ∈ ts, H' t = some (TabO t)) → Q (.bl true) H'
/-! ### the books that laws draw: the feed [great, cells, counter], names, deeds, pages -/
def Fe (H : Hp) (f c : Addr) (n : Int) : Prop := ∃ (cells : List Int) (k g : Int),
  H f = some (.lst [.int g, .ref c, .int k]) ∧ H c = some (.lst (cells.map V.int)) ∧ 0 < cells.length ∧ cells.length ≤ 64 ∧ 0 ≤ k ∧ k ≤ n
theorem fe_ne {H : Hp} {f c : Addr} {cells : List Int} {a g : Int} (hf : H f = some (.lst [.int g, .ref c, .int a])) (hc : H c = some (.lst (cells.map V.int))) : c ≠ f := by
  refine ne_of hc hf fun z => ?_
  have z := HO.lst.inj z
  match cells, z with
  | x :: y :: r, z =>
    rw [List.map_cons, List.map_cons] at z
    injection z with _ z
    injection z with z _
    cases z
theorem Fe.mono {H : Hp} {f c : Addr} {n m : Int} (h : Fe H f c n) (l : n ≤ m) : Fe H f c m := by
  obtain ⟨cells, a, g, h1, h2, h3, h4, h5, h6⟩ := h
  exact ⟨cells, a, g, h1, h2, h3, h4, h5, by omega⟩
theorem Fe.same {H H' : Hp} {f c : Addr} {n : Int} (h : Fe H f c n) (s : Same H H') : Fe H' f c n := by
  obtain ⟨cells, a, g, h1, h2, h3⟩ := h
  exact ⟨cells, a, g, s _ _ h1, s _ _ h2, h3⟩
theorem Fe.new {H : Hp} {f c p : Addr} {n : Int} {o : HO} (h : Fe H f c n) (hp : H p = none) : Fe (upd H p o) f c n := h.same (same_new hp o)
theorem Fe.at {H : Hp} {f c : Addr} {n : Int} (h : Fe H f c n) : ∃ xs, H f = some (.lst xs) := by
  obtain ⟨cells, a, g, h1, _⟩ := h
  exact ⟨_, h1⟩
theorem Fe.cell {H : Hp} {f c : Addr} {n : Int} (h : Fe H f c n) : ∃ xs, H c = some (.lst xs) := by
  obtain ⟨cells, a, g, h1, h2, _⟩ := h
  exact ⟨_, h2⟩
theorem Fe.ne {H : Hp} {f c l : Addr} {n : Int} (h : Fe H f c n) (hl : H l = none) : l ≠ f ∧ l ≠ c := by
  obtain ⟨xs, h1⟩ := h.at
  obtain ⟨ys, h2⟩ := h.cell
  exact ⟨Ne.symm (ne_of_none h1 hl), Ne.symm (ne_of_none h2 hl)⟩
theorem Fe.upd {H : Hp} {f c l : Addr} {n : Int} {o : HO} (h : Fe H f c n) (e : l ≠ f ∧ l ≠ c) : Fe (upd H l o) f c n := by
  obtain ⟨cells, a, g, h1, h2, h3⟩ := h
  exact ⟨cells, a, g, (upd_ne (Ne.symm e.1)).trans h1, (upd_ne (Ne.symm e.2)).trans h2, h3⟩
theorem But.backE {f c : Addr} {H H' : Hp} {t : Addr} {n : Int} (b : But f H H') (hf : Fe H' f c n) (ht : H' t = none) : H t = none := by
  cases e : H t with
  | none => rfl
  | some o =>
    have := b t o (hf.ne ht).1 e
    rw [ht] at this
    cases this
/-- tuples stay -/
def Tk (H H' : Hp) : Prop := ∀ p xs, H p = some (.tup xs) → H' p = some (.tup xs)
theorem Tk.refl (H : Hp) : Tk H H := fun _ _ h => h
theorem Tk.trans {H H1 H2 : Hp} (a : Tk H H1) (b : Tk H1 H2) : Tk H H2 := fun p xs h => b p xs (a p xs h)
theorem Tk.same {H H' : Hp} (s : Same H H') : Tk H H' := fun p xs h => s _ _ h
theorem Tk.but {H H' : Hp} {f c : Addr} {n : Int} (hf : Fe H f c n) (b : But f H H') : Tk H H' := fun p xs h => by
  obtain ⟨zs, hz⟩ := hf.at
  exact b p _ (ne_of h hz (fun z => nomatch z)) h
theorem Tk.put {H : Hp} {l : Addr} {xs : List V} {o : HO} (hl : H l = some (.lst xs)) : Tk H (upd H l o) := fun p ys h => by
  rw [upd_ne (ne_of h hl (fun z => nomatch z))]
  exact h
theorem Prd.tk {H H' : Hp} (t : Tk H H') : ∀ {ps : List Addr} {rs : List Rn}, Prd H ps rs → Prd H' ps rs
  | _, _, .nil => .nil
  | _, _, .cons a b => .cons (t _ _ a) (Prd.tk t b)
/-- names -/
abbrev Nm := Int × Int × Str
def nmV (n : Nm) : List V := [.int n.1, .int n.2.1, .str n.2.2]
def nmD (n : Nm) : PyData := .tuple [.int n.1, .int n.2.1, .str n.2.2]
abbrev Nms (H : Hp) (ps : List Addr) (ns : List Nm) : Prop := Paired (fun (p : Addr) (n : Nm) => H p = some (.tup (nmV n))) ps ns
theorem Nms.tk {H H' : Hp} (t : Tk H H') : ∀ {ps : List Addr} {ns : List Nm}, Nms H ps ns → Nms H' ps ns
  | _, _, .nil => .nil
  | _, _, .cons a b => .cons (t _ _ a) (Nms.tk t b)
theorem Nms.app {H : Hp} : ∀ {ps qs : List Addr} {es ts : List Nm}, Nms H ps es → Nms H qs ts → Nms H (ps ++ qs) (es ++ ts)
  | _, _, _, _, .nil, b => b
  | _, _, _, _, .cons a r, b => .cons a (Nms.app r b)
theorem Nms.len {H : Hp} {ps : List Addr} {es : List Nm} (h : Nms H ps es) : ps.length = es.length := Paired.length h
theorem Nms.dp {K : PySem.W.Frag} {H : Hp} : ∀ {ps : List Addr} {es : List Nm}, Nms H ps es → DpAll K H (ps.map V.ref) (es.map nmD)
  | _, _, .nil => .nil
  | _, _, .cons a b => .cons (.tup (SqT.of a) (.cons (.int _) (.cons (.int _) (.cons (.str _) .nil)))) (Nms.dp b)
theorem Nms.get {H : Hp} : ∀ {ps : List Addr} {es : List Nm} {i : Nat} {p : Addr}, Nms H ps es → ps[i]? = some p → ∃ e, es[i]? = some e ∧ H p = some (.tup (nmV e))
  | _, _, 0, _, .cons a _, h => by
    cases h
    exact ⟨_, rfl, a⟩
  | _, _, i + 1, p, .cons _ b, h => Nms.get (i := i) (p := p) b h
theorem Nms.mk1 {H : Hp} {p : Addr} {e : Nm} (h : H p = some (.tup (nmV e))) : Nms H [p] [e] := .cons h .nil
/-- deeds -/
inductive Dd where
  | mv (a b : Str) (rs : List Rn)
  | bag (a b : Str) (n : Int)
  | rd (m : Nm) (rs : List Rn)
  | ct (a : Str) (n : Int)
  | vd (m : Nm)
def RnsT (H : Hp) (u : Addr) (rs : List Rn) : Prop := ∃ ps : List Addr, H u = some (.tup (ps.map V.ref)) ∧ Prd H ps rs ∧ rs.length ≤ 1000
theorem RnsT.tk {H H' : Hp} {u : Addr} {rs : List Rn} (t : Tk H H') (h : RnsT H u rs) : RnsT H' u rs := by
  obtain ⟨ps, h1, h2, h3⟩ := h
  exact ⟨ps, t _ _ h1, h2.tk t, h3⟩
def wMove : Str := (("move" : String) : Str)
def wBag : Str := (("bag" : String) : Str)
def wRead : Str := (("read" : String) : Str)
def wCount : Str := (("count" : String) : Str)
def wVoid : Str := (("void" : String) : Str)
def DdAt (H : Hp) (t : Addr) : Dd → Prop
  | .mv a b rs => ∃ u, H t = some (.tup [.str wMove, .str a, .str b, .ref u]) ∧ RnsT H u rs
  | .bag a b n => H t = some (.tup [.str wBag, .str a, .str b, .int n])
  | .rd m rs => ∃ q u, H t = some (.tup [.str wRead, .ref q, .ref u]) ∧ H q = some (.tup (nmV m)) ∧ RnsT H u rs
  | .ct a n => H t = some (.tup [.str wCount, .str a, .int n])
  | .vd m => ∃ q, H t = some (.tup [.str wVoid, .ref q]) ∧ H q = some (.tup (nmV m))
theorem DdAt.tk {H H' : Hp} {p : Addr} (t : Tk H H') : ∀ {d : Dd}, DdAt H p d → DdAt H' p d
  | .mv .., ⟨u, h1, h2⟩ => ⟨u, t _ _ h1, h2.tk t⟩
  | .bag .., h => t _ _ h
  | .rd .., ⟨q, u, h1, h2, h3⟩ => ⟨q, u, t _ _ h1, t _ _ h2, h3.tk t⟩
  | .ct .., h => t _ _ h
  | .vd .., ⟨q, h1, h2⟩ => ⟨q, t _ _ h1, t _ _ h2⟩
abbrev Pg := Nm × Dd
def PgAt (H : Hp) (p : Addr) (g : Pg) : Prop := ∃ a t, H p = some (.tup [.ref a, .ref t]) ∧ H a = some (.tup (nmV g.1)) ∧ DdAt H t g.2
theorem PgAt.tk {H H' : Hp} {p : Addr} {g : Pg} (t : Tk H H') (h : PgAt H p g) : PgAt H' p g := by
  obtain ⟨a, b, h1, h2, h3⟩ := h
  exact ⟨a, b, t _ _ h1, t _ _ h2, h3.tk t⟩
abbrev Pgs (H : Hp) (ps : List Addr) (gs : List Pg) : Prop := Paired (fun (p : Addr) (g : Pg) => PgAt H p g) ps gs
theorem Pgs.tk {H H' : Hp} (t : Tk H H') : ∀ {ps : List Addr} {gs : List Pg}, Pgs H ps gs → Pgs H' ps gs
  | _, _, .nil => .nil
  | _, _, .cons a b => .cons (a.tk t) (Pgs.tk t b)
theorem Pgs.app {H : Hp} : ∀ {ps qs : List Addr} {es ts : List Pg}, Pgs H ps es → Pgs H qs ts → Pgs H (ps ++ qs) (es ++ ts)
  | _, _, _, _, .nil, b => b
  | _, _, _, _, .cons a r, b => .cons a (Pgs.app r b)
theorem Pgs.len {H : Hp} {ps : List Addr} {es : List Pg} (h : Pgs H ps es) : ps.length = es.length := Paired.length h
theorem Pgs.mk1 {H : Hp} {p : Addr} {e : Pg} (h : PgAt H p e) : Pgs H [p] [e] := .cons h .nil
/-! promises -/
def spFeedE (K : PySem.W.Frag) : Sp := fun vs H Q _ => ∃ (a : Addr) (ns : List Int), vs = [.ref a] ∧ SqL K H a (ns.map V.int) ∧
  ∀ (f c : Addr) (H' : Hp), H f = none → Same H H' → Fe H' f c 0 → Q (.ref f) H'
def spDrawE : Sp := fun vs H Q _ => ∃ (f c : Addr) (m n : Int), vs = [.ref f, .int m] ∧ Fe H f c n ∧ n ≤ 1000000 ∧ 0 < m ∧ m ≤ 1000000000 ∧
  ∀ (d : Int) (H' : Hp), 0 ≤ d → d < m → Fe H' f c (n + 1) → But f H H' → (∀ a, H a = none → H' a = none) → Q (.int d) H'
def spFarE : Sp := fun vs H Q _ => ∃ (f c : Addr) (m n : Int), vs = [.ref f, .int m] ∧ Fe H f c n ∧ n ≤ 900000 ∧ 0 < m ∧ m ≤ 1000000000 ∧
  ∀ (d : Int) (H' : Hp), 0 ≤ d → d < m → Fe H' f c (n + 2) → But f H H' → (∀ a, H a = none → H' a = none) → Q (.int d) H'
def spLowE : Sp := fun vs H Q _ => ∃ (f c : Addr) (n : Int), vs = [.ref f] ∧ Fe H f c n ∧ n ≤ 800000 ∧
  ∀ (d : Int) (H' : Hp), 0 ≤ d → d ≤ 1000000000 → Fe H' f c (n + 3) → But f H H' → (∀ a, H a = none → H' a = none) → Q (.int d) H'
def spWordsE : Sp := fun vs H Q _ => ∃ (f c : Addr) (m : Nat) (n : Int), vs = [.ref f, .int m] ∧ Fe H f c n ∧ n ≤ 800000 ∧ m ≤ 8 ∧
  ∀ (l : Addr) (xs : List Str) (H' : Hp), Fe H' f c (n + 4) → But f H H' → H l = none → H' l = some (.lst (xs.map V.str)) → xs.length = m → (∀ x ∈ xs, NmOk x ∧ x ≠ gNone) → Q (.ref l) H'
/-! ### the words of a drawn office -/
theorem none_len : gNone.length = 4 := by decide +kernel
theorem nm_list {l : List Nat} (h : ∀ c ∈ l, c < 16 ^ 8) (hl : l.length ≤ 8) (h4 : l.length ≠ 4) : NmOk ⟨l.toArray⟩ ∧ (⟨l.toArray⟩ : Str) ≠ gNone := by
  refine ⟨⟨?_, ?_⟩, fun e => ?_⟩
  · show l.toArray.size ≤ 8
    rw [List.size_toArray]
    exact hl
  · show (l.toArray.toList.all fun c => decide (c < 16 ^ 8)) = true
    rw [List.toList_toArray, List.all_eq_true]
    exact fun c hc => decide_eq_true (h c hc)
  · have z := congrArg Str.length e
    rw [none_len] at z
    have z : l.toArray.size = 4 := z
    rw [List.size_toArray] at z
    exact h4 z
def wordsOf (a b : Nat) : List (List Nat) := [[a], [a, b], [a, b, a], [b], [b, a], [a, a], [b, b], [a, b, b, b, b, b, b, b]]
theorem words_ok {a b : Nat} (ha : a < 16 ^ 8) (hb : b < 16 ^ 8) : ∀ l ∈ wordsOf a b, NmOk ⟨l.toArray⟩ ∧ (⟨l.toArray⟩ : Str) ≠ gNone := by
  intro l hl
  have h : ∀ c ∈ l, c < 16 ^ 8 := by
    intro c hc
    simp only [wordsOf, List.mem_cons, List.not_mem_nil, or_false] at hl
    have : c = a ∨ c = b := by
      rcases hl with rfl | rfl | rfl | rfl | rfl | rfl | rfl | rfl <;> simp only [List.mem_cons, List.not_mem_nil, or_false] at hc <;> omega
    rcases this with rfl | rfl
    · exact ha
    · exact hb
  simp only [wordsOf, List.mem_cons, List.not_mem_nil, or_false] at hl
  rcases hl with rfl | rfl | rfl | rfl | rfl | rfl | rfl | rfl <;> exact nm_list h (by simp) (by simp)
theorem words_eq (a b : Nat) : [V.str ⟨#[a]⟩, .str (⟨#[a]⟩ ++ ⟨#[b]⟩), .str (⟨#[a]⟩ ++ ⟨#[b]⟩ ++ ⟨#[a]⟩), .str ⟨#[b]⟩, .str (⟨#[b]⟩ ++ ⟨#[a]⟩), .str (⟨#[a]⟩ ++ ⟨#[a]⟩), .str (⟨#[b]⟩ ++ ⟨#[b]⟩), .str (⟨#[a]⟩ ++ Txt.mul ⟨#[b]⟩ 7)] = ((wordsOf a b).map fun l => (⟨l.toArray⟩ : Str)).map V.str := rfl
/-! ### runs and names drawn -/
def RkOk (xs : List Str) (r : Rn) : Prop := r.1 ∈ xs ∧ 0 ≤ r.2.1 ∧ r.2.1 < r.2.2 ∧ r.2.2 ≤ 1000001000
def spRunsE : Sp := fun vs H Q _ => ∃ (f c l : Addr) (low n : Int) (xs : List Str), vs = [.ref f, .ref l, .int low] ∧ Fe H f c n ∧ n ≤ 700000 ∧ 0 ≤ low ∧ low ≤ 1000000000 ∧ H l = some (.lst (xs.map V.str)) ∧ l ≠ f ∧ 0 < xs.length ∧ xs.length ≤ 8 ∧
  ∀ (u : Addr) (rs : List Rn) (H' : Hp), Fe H' f c (n + 60) → But f H H' → H u = none → RnsT H' u rs → rs.length ≤ 20 → (∀ r ∈ rs, RkOk xs r) → Q (.ref u) H'
def NmK (n : Nm) : Prop := 0 ≤ n.1 ∧ n.1 ≤ 99999 ∧ ((0 ≤ n.2.1 ∧ n.2.1 ≤ 99) ∨ (950 ≤ n.2.1 ∧ n.2.1 ≤ 999)) ∧ NmOk n.2.2
def spNamesE : Sp := fun vs H Q _ => ∃ (f c : Addr) (m : Nat) (n : Int), vs = [.ref f, .int m] ∧ Fe H f c n ∧ n ≤ 700000 ∧ m ≤ 39 ∧
  ∀ (l : Addr) (ps : List Addr) (ns : List Nm) (H' : Hp), Fe H' f c (n + 200) → But f H H' → H l = none → H' l = some (.lst (ps.map V.ref)) → Nms H' ps ns → ns.length = m → ns.Nodup → (∀ e ∈ ns, NmK e) → Q (.ref l) H'
theorem nms_plain (E : List Nm) : PyData.plainAll (E.map nmD) = true := by
  induction E with
  | nil => rfl
  | cons e l ih =>
    rw [List.map_cons]
    simp only [PyData.plainAll, ih, nmD, PyData.plain, Bool.and_self]
theorem nm_eqv (a b : Nm) : PyData.eqv (nmD a) (nmD b) = decide (a = b) := by
  obtain ⟨a1, a2, a3⟩ := a
  obtain ⟨b1, b2, b3⟩ := b
  rw [Bool.eq_iff_iff]
  simp [nmD, PyData.eqv, PyData.eqvAll]
theorem nm_any (E : List Nm) (e : Nm) : ((E.map nmD).any fun z => PyData.eqv z (nmD e)) = decide (e ∈ E) := by
  rw [List.any_map, Bool.eq_iff_iff, List.any_eq_true, decide_eq_true_eq]
  constructor
  · rintro ⟨y, hy, k⟩
    have k : PyData.eqv (nmD y) (nmD e) = true := k
    rw [nm_eqv, decide_eq_true_eq] at k
    rw [← k]
    exact hy
  · intro h
    refine ⟨e, h, ?_⟩
    show PyData.eqv (nmD e) (nmD e) = true
    rw [nm_eqv, decide_eq_true rfl]
theorem nm_dep (e : Nm) : (nmD e).depth ≤ 50 := by
  simp [nmD, PyData.depth, PyData.depthAll]
theorem nms_depth (E : List Nm) : (PyData.list (E.map nmD)).depth ≤ 60 := by
  have d2 : PyData.depthAll (E.map nmD) ≤ 3 := by
    induction E with
    | nil => simp [PyData.depthAll]
    | cons s l ih => rw [List.map_cons]; simp only [PyData.depthAll, nmD, PyData.depth] at *; omega
  simp only [PyData.depth]
  omega
/-- so many of one day and hand, number by number, are no more than there are -/
theorem names_room {ns : List Nm} {d k : Int} {h : Str} {t : Nat} (hs : ∀ s : Nat, s < t → (d, k + (s : Int), h) ∈ ns) : t ≤ ns.length := by
  have nd : ((List.range t).map fun s : Nat => ((d, k + (s : Int), h) : Nm)).Nodup := by
    refine List.Pairwise.map _ (fun a b hab e => ?_) List.nodup_range
    have e := congrArg (fun z : Nm => z.2.1) e
    have e : k + (a : Int) = k + (b : Int) := e
    exact hab (by omega)
  have z := sub_len nd fun x hx => by
    obtain ⟨s, h1, rfl⟩ := List.mem_map.mp hx
    exact hs s (List.mem_range.mp h1)
  rw [List.length_map, List.length_range] at z
  exact z
theorem few3 {d : Int} (h0 : 0 ≤ d) (h1 : d < 3) : ∃ k : Int, (k = 0 ∨ k = 950) ∧ atI [V.int 0, .int 0, .int 950] d = some (.int k) := by
  rcases (show d = 0 ∨ d = 1 ∨ d = 2 by omega) with rfl | rfl | rfl
  · exact ⟨0, .inl rfl, rfl⟩
  · exact ⟨0, .inl rfl, rfl⟩
  · exact ⟨950, .inr rfl, rfl⟩
theorem fewE {d : Int} (h0 : 0 ≤ d) (h1 : d < 4) : ∃ k : Int, 0 ≤ k ∧ k ≤ 99900 ∧ atI [V.int 0, .int 0, .int 0, .int 99900] d = some (.int k) := by
  rcases (show d = 0 ∨ d = 1 ∨ d = 2 ∨ d = 3 by omega) with rfl | rfl | rfl | rfl <;> exact ⟨_, by decide, by decide, rfl⟩
theorem prd_all {K : PySem.W.Frag} {H : Hp} : ∀ {ps : List Addr} {rs : List Rn}, Prd H ps rs → DpAll K H (ps.map V.ref) (rs.map rnD)
  | _, _, .nil => .nil
  | _, _, .cons a b => .cons (.tup (SqT.of a) (.cons (.str _) (.cons (.int _) (.cons (.int _) .nil)))) (prd_all b)
theorem rn_plainL (rs : List Rn) : (PyData.list (rs.map rnD)).plain = true := rns_plain rs
theorem rn_depthL (E : List Rn) : (PyData.list (E.map rnD)).depth ≤ 60 := by
  have d2 : PyData.depthAll (E.map rnD) ≤ 3 := by
    induction E with
    | nil => simp [PyData.depthAll]
    | cons s l ih => rw [List.map_cons]; simp only [PyData.depthAll, rnD, PyData.depth] at *; omega
  simp only [PyData.depth]
  omega
/-! ### {key: value for .. in .. if ..} with tuples as keys -/
theorem putT {X : Cx} {pins : List (Addr × Obj)} {σ : L2.St} {H : Hp} {s : Shared} {E : Value → Shared → Prop} {D b : Addr} {kvs : List (List Key × V)} {k : List Key} {v : V} {r : Value} {Q : Unit → Shared → Prop}
    (room : X.A.units < cLine) (I : Inv X pins σ H s) (at_D : H D = some (.dT kvs)) (few : kvs.length < sizeLine) (at_b : H b = some (.tup (k.map kV))) (rel_v : RelV v r)
    (next : ∀ s', Inv X pins σ (upd H D (.dT (putK kvs k v))) s' → Q () s') : wpAny (model X.prog X.w) X.A (dictSet D (.ref b) r) Q E s := by
  obtain ⟨len, notSys, xs, pairs, inHeap⟩ := dt_of I.hok at_D
  have more := length_putK kvs k v
  refine wpAny_dictSet_heap (hsz := (Paired.length pairs) ▸ len) (show (tupleKind _).room X.A from room) (key_of I.hok at_b) inHeap fun h2 now but => next _ ?_
  obtain ⟨ob, es, ep, e1, e2, e3, e4, _, e5⟩ := now
  refine d_write I (at_D ▸ True.intro) but ⟨ob, e1⟩ ⟨by omega, notSys, _, (pairs.put k at_b rel_v).keeps fun c ys at_c => ?_, ob, es, ep, e1, e2, e3, e4, e5⟩
  exact (upd_ne (ne_of at_c at_D (fun z => nomatch z))).trans at_c
/-- its reading: D the new dict -/
def tDcT (wi : TI) (g : TG) (tt : TT) (tk tv : TE) (vs : List Nat) : TE := fun σ H Q => wi σ H fun J H1 => ∀ D, H1 D = none →
  ∃ W : Nat → Nat → Hp → Prop, (∃ m, W 0 m (upd H1 D (.dT []))) ∧ ∀ i m H', W i m H' → (J.stop i H' ∧ Q (.ref D) H') ∨
    (J.go i H' ∧ ∃ Nx : Hp → Prop, (∀ Hn, Nx Hn → ∃ m', m' < m ∧ W (i + 1) m' Hn) ∧ ∀ x Hy, J.yld i H' x Hy → g x (wipe σ vs) Hy fun σ2 H2 =>
      wipe σ2 vs = wipe σ vs ∧ tt σ2 H2 fun yes H3 => if yes = true then tk σ2 H3 fun y H4 => tv σ2 H4 fun z H5 =>
        ∃ kvs k b, y = .ref b ∧ H5 b = some (.tup (k.map kV)) ∧ H5 D = some (.dT kvs) ∧ kvs.length < sizeLine ∧ Nx (upd H5 D (.dT (putK kvs k z))) else Nx H3)
section
variable {X : Cx} {kx vx tg iter : Expr} {ifs : List Expr} {scope : Scope} {own : List (Str × Nat)} {pos : Pos} {wi : TI} {g : TG} {tt : TT} {tk tv : TE}
theorem pe_dcT (room : X.A.units < cLine) (calm : X.calm = true) (nd : X.N.Nodup) (pi : PI X tg iter wi) (ok : BlkOk X.N X.env.scope scope own)
    (pgs : ∀ (s : Shared) (H : Hp) (C : Addr) (cl : List (Str × Addr)) (fp : List Addr), PG (X.blk s H scope (compEnvC scope cl C X.env) fp) tg g)
    (pts : ∀ (s : Shared) (H : Hp) (C : Addr) (cl : List (Str × Addr)) (fp : List Addr), PTs (X.blk s H scope (compEnvC scope cl C X.env) fp) ifs tt)
    (pks : ∀ (s : Shared) (H : Hp) (C : Addr) (cl : List (Str × Addr)) (fp : List Addr), PE (X.blk s H scope (compEnvC scope cl C X.env) fp) kx tk)
    (pvs : ∀ (s : Shared) (H : Hp) (C : Addr) (cl : List (Str × Addr)) (fp : List Addr), PE (X.blk s H scope (compEnvC scope cl C X.env) fp) vx tv)
    (plain : ∀ x, foldedSetIterable iter X.env x = pure x := by intro _; rfl) :
    PE X (.DictComp kx vx [⟨tg, iter, ifs, 0⟩] scope pos) (tDcT wi g tt tk tv (own.map (·.2))) := by
  refine ⟨fun pins s σ H Q I wish => ?_⟩
  rw [arm_eval_DictComp]
  have caught : ∀ y ∈ scope.names, y.2 = .free → ∃ c, X.env.cells.lookup y.1 = some c := fun y m e => (ok.free y m e).elim (fun k => I.ok.has _ (.inl k)) fun k => I.ok.has _ (.inr k)
  refine wpAny_comprehension_free rfl plain (closure_ok caught) ok.kind (fun y m e => by rw [ok.uniq y m, e]) (thn (pi.run pins s σ H _ I wish) fun xv sa ha => thn ha fun itv sb hb => ?_)
  obtain ⟨it, fp, tn, J, Hb, rfl, Ib, T, stb, fb, goal⟩ := hb
  refine wpAny_newObj_type (newEnv_comp ?_)
  obtain ⟨D, eD⟩ : ∃ D, sb.heap.objs.size = D := ⟨_, rfl⟩
  rw [eD]
  obtain ⟨W, ⟨m0, start⟩, turn⟩ := goal D (Ib.hok.fresh (Nat.le_of_eq eD))
  obtain ⟨sc, esc⟩ : ∃ sc : Shared, { sb with heap := sb.heap.push { cls := .type "dict", data := .dict #[] } } = sc := ⟨_, rfl⟩
  rw [esc]
  have heapc : sc.heap = sb.heap.push { cls := .type "dict", data := .dict #[] } := by rw [← esc]
  have Ic : Inv X pins σ (upd Hb D (.dT [])) sc := by
    subst esc eD
    exact Ib.laid (t' := sb.toks) (fun _ _ e => Heap.get?_push_of_some _ e) (Nat.le_refl _) (dt_empty sb.heap Ib.big)
  have inFp : ∀ b ∈ fp, b < sb.heap.objs.size := fun b hb => let ⟨_, e, _⟩ := T.obj _ _ stb b hb; Heap.lt_size e
  have fc : ∀ b ∈ fp, FpOk X pins (upd Hb D (.dT [])) b ∧ b < sc.heap.objs.size := fun b hb => by
    have lt := inFp b hb
    refine ⟨⟨(upd_ne (Nat.ne_of_lt (eD ▸ lt))).trans (fb b hb).1, (fb b hb).2⟩, ?_⟩
    rw [heapc, Heap.size_push]
    exact Nat.lt_succ_of_lt lt
  have stc : tn 0 sc.heap := T.keep _ _ _ stb fun b _ o e => heapc ▸ Heap.get?_push_of_some _ e
  generalize upd Hb D (.dT []) = Hc at *
  have Id := block_start Ic ok nd fc
  generalize ecl : cellsFrom (sc.heap.objs.size + 1) scope.names (cloFrom X.env.cells scope.names []) = cl at *
  have p1 := pgs sc Hc sc.heap.objs.size cl fp
  have p2 := pts sc Hc sc.heap.objs.size cl fp
  have p3 := pks sc Hc sc.heap.objs.size cl fp
  have p4 := pvs sc Hc sc.heap.objs.size cl fp
  change codeAny _ _ (.compStart _ 0 (.ref it) (.ref D) (compEnvC scope cl sc.heap.objs.size X.env)) (compPost (model X.prog X.w) X.A X.xe none (EP X pins σ Q) (.ref D) sc.heap.objs.size) _
  have here : (compEnvC scope cl sc.heap.objs.size X.env).locals = sc.heap.objs.size := rfl
  generalize compEnvC scope cl sc.heap.objs.size X.env = ce at *
  obtain ⟨sd, esd⟩ : ∃ sd : Shared, { sc with heap := pushCells (sc.heap.push { cls := .type "dict", data := .dict #[] }) scope.names } = sd := ⟨_, rfl⟩
  rw [esd] at Id ⊢
  have std : tn 0 sd.heap := T.keep _ _ _ stc fun b _ o e => by
    rw [← esd]
    exact pushCells_keeps _ _ _ _ (Heap.get?_push_of_some _ e)
  have still : ∀ {τ : L2.St} {Hx : Hp} {sx : Shared}, Inv (X.blk sc Hc scope ce fp) [] τ Hx sx → (∀ b ∈ fp, Hx b = none) → ∀ b ∈ fp, FpOk (X.blk sc Hc scope ce fp) [] Hx b := fun {τ Hx sx} Ix free b hb => by
    obtain ⟨z1, z2⟩ := Ix.ok.exf b hb
    exact ⟨free b hb, z1, Ix.ok.exfs b hb, .inl hb, z2, fun p hp => (nomatch (show p ∈ ([] : List (Addr × Obj)) from hp))⟩
  have walk : codeAny (model X.prog X.w) X.A (.compLoop (.DictComp kx vx [⟨tg, iter, ifs, 0⟩] scope pos) 0 (.ref it) (.ref D) ce) (compPost (model X.prog X.w) X.A X.xe none (EP X pins σ Q) (.ref D) sc.heap.objs.size) sd := by
    refine compLoop_anyD (fun n sx => ∃ i Hx, Inv (X.blk sc Hc scope ce fp) [] (wipe σ (own.map (·.2))) Hx sx ∧ tn i sx.heap ∧ (∀ b ∈ fp, Hx b = none) ∧ W i n Hx) ?_ m0 ⟨0, Hc, Id, std, fun b hb => (fc b hb).1.1, start⟩
    rintro n se ⟨i, He, Ie, ste, ne, we⟩
    rcases turn i n He we with ⟨stop, told⟩ | ⟨go, Nx, down, step⟩
    · refine thnF (T.done (X.blk sc Hc scope ce fp) rfl rfl rfl calm i [] se _ He (fun _ _ => False) Ie (still Ie ne) ste stop) fun r sf ⟨er, If⟩ => ?_
      subst er
      have out : Inv X pins σ He sf := Ic.call' (ch := fp) If.os If.base If.hok If.bare fun b hb => let ⟨⟨_, y1, _, y3, y4, y5⟩, _⟩ := fc b hb; ⟨y3, y1, y4, y5⟩
      have gone : He sc.heap.objs.size = none := here ▸ If.free
      obtain ⟨m, ns, _⟩ := If.loc
      have ns : sf.heap.Ns ce.locals m := ns
      rw [here] at ns
      obtain ⟨f0, f1, _, f3, f4, f5⟩ := Ic.fpOk (Nat.le_refl _) gone
      exact ⟨m, ns, fun h2 but => ⟨.ref D, He, out.turned (t' := sf.toks) (fun b o hb e => (but.2 b hb).trans e) f0 f1 f3 f4 f5, rfl, told⟩⟩
    · refine thnF (T.item (X.blk sc Hc scope ce fp) rfl rfl rfl calm i [] se _ He (fun _ _ => False) Ie (still Ie ne) ste go) fun r sf ⟨u, er, more⟩ => ?_
      subst er
      refine thnF more fun _ sg ⟨x, Hg, Ig, rg, yg, stg, ng⟩ => ?_
      refine thnF (p1.run _ sg _ Hg x u _ (Ig.pinned (still Ig ng) (T.obj _ _ stg)) rg (step x Hg yg)) fun _ sh ⟨τ, Hh, Ih, sameW, qh⟩ => ?_
      refine thnF (p2.run _ sh τ Hh _ Ih qh) fun yes si ⟨Hi, Ii, qi⟩ => ?_
      have over : ∀ {sx : Shared} {Hx : Hp}, Inv (X.blk sc Hc scope ce fp) ([] ++ pinsAt fp sg.heap) τ Hx sx → Nx Hx → ∃ m, m < n ∧ ∃ i Hx, Inv (X.blk sc Hc scope ce fp) [] (wipe σ (own.map (·.2))) Hx sx ∧ tn i sx.heap ∧ (∀ b ∈ fp, Hx b = none) ∧ W i m Hx := fun {sx Hx} Ix nx => by
        obtain ⟨m', less, w'⟩ := down Hx nx
        have pinned : ∀ b ∈ fp, ∀ o, sg.heap.get? b = some o → sx.heap.get? b = some o ∧ Hx b = none := fun b hb o e => by
          obtain ⟨z1, z2, _⟩ := Ix.pin (b, o) (List.mem_append_right _ (List.mem_append_right _ (mem_pinsAt hb e)))
          exact ⟨z1, z2⟩
        refine ⟨m', less, i + 1, Hx, (Ix.unpinned (pins := [])).weak ?_ (fun j v e => (wipe_some (sameW ▸ e)).1), T.keep _ _ _ stg fun b hb o e => (pinned b hb o e).1, fun b hb => ?_, w'⟩
        · rw [← sameW, wipe_length]
        · obtain ⟨o, e, _⟩ := T.obj _ _ stg b hb
          exact (pinned b hb o e).2
      cases yes with
      | false => exact over Ii qi
      | true =>
        refine thnF (p3.run _ si τ Hi _ Ii qi) fun kv sj ⟨y, Hj, Ij, rj, qj⟩ => ?_
        refine thnF (p4.run _ sj τ Hj _ Ij qj) fun vv sk ⟨z, Hk, Ik, rk, kvs, k, b, ey, hb, hD, few, nx⟩ => ?_
        subst ey
        cases (show kv = Value.ref b from rj)
        exact putT (X := X.blk sc Hc scope ce fp) room Ik hD few hb rk fun sl Il => over Il nx
  exact codeAny_compStart_dict walk (T.self X.A 0 _ _ _ std walk)
end
theorem un_of {A : Around} {k : Nat} (hr : Room k A) : A.units < cLine := Nat.lt_of_succ_lt (hu_of hr)
/-- such a comprehension over a tuple, by what stands behind each of its things -/
theorem dcT_tup {K : PySem.W.Frag} {a : Addr} {xs : List V} {g : TG} {tt : TT} {tk tv : TE} {vs : List Nat} {σ : L2.St} {H1 : Hp} {D : Addr} {Qd : Hp → Prop} (Pv : Nat → Hp → Prop)
    (first : Pv 0 (upd H1 D (.dT []))) (stays : ∀ i H, i ≤ xs.length → Pv i H → SqT K H a xs)
    (each : ∀ i x H, xs[i]? = some x → Pv i H → g x (wipe σ vs) H fun σ2 H2 => wipe σ2 vs = wipe σ vs ∧ tt σ2 H2 fun yes H3 =>
      if yes = true then tk σ2 H3 fun y H4 => tv σ2 H4 fun z H5 => ∃ kvs k b, y = .ref b ∧ H5 b = some (.tup (k.map kV)) ∧ H5 D = some (.dT kvs) ∧ kvs.length < sizeLine ∧ Pv (i + 1) (upd H5 D (.dT (putK kvs k z))) else Pv (i + 1) H3)
    (last : ∀ H, Pv xs.length H → Qd H) :
    ∃ W : Nat → Nat → Hp → Prop, (∃ m, W 0 m (upd H1 D (.dT []))) ∧ ∀ i m H', W i m H' → ((Itt K a).stop i H' ∧ Qd H') ∨
      ((Itt K a).go i H' ∧ ∃ Nx : Hp → Prop, (∀ Hn, Nx Hn → ∃ m', m' < m ∧ W (i + 1) m' Hn) ∧ ∀ x Hy, (Itt K a).yld i H' x Hy → g x (wipe σ vs) Hy fun σ2 H2 =>
        wipe σ2 vs = wipe σ vs ∧ tt σ2 H2 fun yes H3 => if yes = true then tk σ2 H3 fun y H4 => tv σ2 H4 fun z H5 =>
          ∃ kvs k b, y = .ref b ∧ H5 b = some (.tup (k.map kV)) ∧ H5 D = some (.dT kvs) ∧ kvs.length < sizeLine ∧ Nx (upd H5 D (.dT (putK kvs k z))) else Nx H3) := by
  refine ⟨fun i m H => m + i = xs.length ∧ Pv i H, ⟨xs.length, rfl, first⟩, ?_⟩
  rintro i m H ⟨sum, p⟩
  have sq := stays i H (by omega) p
  match m, sum with
  | 0, sum =>
    have e : i = xs.length := by omega
    subst e
    exact .inl ⟨⟨xs, sq, Nat.le_refl _⟩, last H p⟩
  | m + 1, sum =>
    have lt : i < xs.length := by omega
    refine .inr ⟨⟨xs, xs[i], sq, List.getElem?_eq_getElem lt⟩, Pv (i + 1), fun Hn p' => ⟨m, Nat.lt_succ_self m, by omega, p'⟩, fun x Hy y => ?_⟩
    obtain ⟨rfl, y⟩ := y
    exact each i x _ (y xs sq) p
/-! ### books: voids, counted bags, how pages stand -/
def wOf : Dd → Str
  | .mv .. => wMove
  | .bag .. => wBag
  | .rd .. => wRead
  | .ct .. => wCount
  | .vd .. => wVoid
def named : Dd → Option Nm
  | .vd m => some m
  | .rd m _ => some m
  | _ => none
theorem DdAt.head {H : Hp} {t : Addr} : ∀ {d : Dd}, DdAt H t d → ∃ r, H t = some (.tup (.str (wOf d) :: r))
  | .mv .., ⟨_, h, _⟩ => ⟨_, h⟩
  | .bag .., h => ⟨_, h⟩
  | .rd .., ⟨_, _, h, _⟩ => ⟨_, h⟩
  | .ct .., h => ⟨_, h⟩
  | .vd .., ⟨_, h, _⟩ => ⟨_, h⟩
theorem DdAt.nm {H : Hp} {t : Addr} {m : Nm} : ∀ {d : Dd}, DdAt H t d → named d = some m → ∃ q r, H t = some (.tup (.str (wOf d) :: .ref q :: r)) ∧ H q = some (.tup (nmV m))
  | .rd .., ⟨q, _, h, k, _⟩, e => by
    cases Option.some.inj e
    exact ⟨q, _, h, k⟩
  | .vd .., ⟨q, h, k⟩, e => by
    cases Option.some.inj e
    exact ⟨q, _, h, k⟩
  | .mv .., _, e => nomatch e
  | .bag .., _, e => nomatch e
  | .ct .., _, e => nomatch e
theorem wOf_void : ∀ {d : Dd}, wOf d = wVoid → ∃ m, d = .vd m
  | .vd m, _ => ⟨m, rfl⟩
  | .mv .., e => absurd e (show wMove ≠ wVoid by decide +kernel)
  | .bag .., e => absurd e (show wBag ≠ wVoid by decide +kernel)
  | .rd .., e => absurd e (show wRead ≠ wVoid by decide +kernel)
  | .ct .., e => absurd e (show wCount ≠ wVoid by decide +kernel)
theorem wOf_read : ∀ {d : Dd}, wOf d = wRead → ∃ m rs, d = .rd m rs
  | .rd m rs, _ => ⟨m, rs, rfl⟩
  | .mv .., e => absurd e (show wMove ≠ wRead by decide +kernel)
  | .bag .., e => absurd e (show wBag ≠ wRead by decide +kernel)
  | .vd .., e => absurd e (show wVoid ≠ wRead by decide +kernel)
  | .ct .., e => absurd e (show wCount ≠ wRead by decide +kernel)
def isBag : Dd → Bool
  | .bag .. => true
  | _ => false
theorem wOf_bag : ∀ {d : Dd}, (wOf d = wBag ↔ isBag d = true)
  | .bag .. => ⟨fun _ => rfl, fun _ => rfl⟩
  | .mv .. => ⟨fun e => absurd e (show wMove ≠ wBag by decide +kernel), fun e => nomatch e⟩
  | .rd .. => ⟨fun e => absurd e (show wRead ≠ wBag by decide +kernel), fun e => nomatch e⟩
  | .vd .. => ⟨fun e => absurd e (show wVoid ≠ wBag by decide +kernel), fun e => nomatch e⟩
  | .ct .. => ⟨fun e => absurd e (show wCount ≠ wBag by decide +kernel), fun e => nomatch e⟩
def voidOf : Dd → List Nm
  | .vd m => [m]
  | _ => []
def voids : List Pg → List Nm
  | [] => []
  | g :: gs => voids gs ++ voidOf g.2
theorem voids_app : ∀ a b : List Pg, ∀ n, n ∈ voids (a ++ b) ↔ n ∈ voids a ∨ n ∈ voids b
  | [], b, n => by simp [voids]
  | g :: a, b, n => by
    show n ∈ voids (a ++ b) ++ voidOf g.2 ↔ n ∈ voids a ++ voidOf g.2 ∨ _
    rw [List.mem_append, List.mem_append, voids_app a b n]
    constructor
    · rintro ((h | h) | h)
      · exact .inl (.inl h)
      · exact .inr h
      · exact .inl (.inr h)
    · rintro ((h | h) | h)
      · exact .inl (.inl h)
      · exact .inr h
      · exact .inl (.inr h)
theorem voids_take {gs : List Pg} {i : Nat} {g : Pg} (h : gs[i]? = some g) (n : Nm) : n ∈ voids (gs.take (i + 1)) ↔ n ∈ voids (gs.take i) ∨ n ∈ voidOf g.2 := by
  obtain ⟨hi, e⟩ := List.getElem?_eq_some_iff.mp h
  rw [List.take_succ_eq_append_getElem hi, e, voids_app]
  show _ ∨ n ∈ [] ++ voidOf g.2 ↔ _
  rw [List.nil_append]
def nmKey (n : Nm) : List Key := [Sum.inl n.1, Sum.inl n.2.1, Sum.inr n.2.2]
theorem nmKey_inj {a b : Nm} (h : nmKey a = nmKey b) : a = b := by
  obtain ⟨a1, a2, a3⟩ := a
  obtain ⟨b1, b2, b3⟩ := b
  simp only [nmKey, List.cons.injEq, Sum.inl.injEq, Sum.inr.injEq, and_true] at h
  obtain ⟨rfl, rfl, rfl⟩ := h
  rfl
theorem val_nm {kvs : List (List Key × V)} {a n : Nm} {v : V} : valV (putK kvs (nmKey a) v) (nmKey n) = if n = a then some v else valV kvs (nmKey n) := by
  rw [valV_put]
  by_cases c : n = a
  · rw [if_pos c, if_pos (by rw [c])]
  · rw [if_neg c, if_neg (fun z => c (nmKey_inj z))]
def BkAt (H : Hp) (b : Addr) (gs : List Pg) : Prop := ∃ ps : List Addr, H b = some (.tup (ps.map V.ref)) ∧ Pgs H ps gs
theorem BkAt.tk {H H' : Hp} {b : Addr} {gs : List Pg} (t : Tk H H') (h : BkAt H b gs) : BkAt H' b gs := by
  obtain ⟨ps, h1, h2⟩ := h
  exact ⟨ps, t _ _ h1, h2.tk t⟩
theorem Pgs.get {H : Hp} : ∀ {ps : List Addr} {es : List Pg} {i : Nat} {p : Addr}, Pgs H ps es → ps[i]? = some p → ∃ e, es[i]? = some e ∧ PgAt H p e
  | _, _, 0, _, .cons a _, h => by
    cases h
    exact ⟨_, rfl, a⟩
  | _, _, i + 1, p, .cons _ b, h => Pgs.get (i := i) (p := p) b h
def goneIs (vs : List Nm) (kvs : List (List Key × V)) : Prop := ∀ n, valV kvs (nmKey n) = if n ∈ vs then some (.bl true) else none
def spGone : Sp := fun vs H Q _ => ∃ (b : Addr) (gs : List Pg), vs = [.ref b] ∧ BkAt H b gs ∧ gs.length ≤ 1000 ∧
  ∀ (d : Addr) (kvs : List (List Key × V)) (H' : Hp), Same H H' → H d = none → H' d = some (.dT kvs) → goneIs (voids gs) kvs → Q (.ref d) H'
/-- the counted bags among gs, V the voided names -/
def bagsIs (H : Hp) (V' : List Nm) (gs : List Pg) (kvs : List (List Key × V)) : Prop := ∀ n, (∃ g ∈ gs, g.1 = n ∧ isBag g.2 = true ∧ n ∉ V' ∧ ∃ t, valV kvs (nmKey n) = some (.ref t) ∧ DdAt H t g.2) ∨
  ((∀ g ∈ gs, g.1 = n → isBag g.2 = true → n ∈ V') ∧ valV kvs (nmKey n) = none)
theorem bagsIs.tk {H H' : Hp} {V' : List Nm} {gs : List Pg} {kvs : List (List Key × V)} (t : Tk H H') (h : bagsIs H V' gs kvs) : bagsIs H' V' gs kvs := fun n => by
  rcases h n with ⟨g, a, b, c, d, u, e, f⟩ | h
  · exact .inl ⟨g, a, b, c, d, u, e, f.tk t⟩
  · exact .inr h
def spBags : Sp := fun vs H Q _ => ∃ (b : Addr) (gs : List Pg), vs = [.ref b] ∧ BkAt H b gs ∧ gs.length ≤ 1000 ∧
  ∀ (d : Addr) (kvs : List (List Key × V)) (H' : Hp), Same H H' → H d = none → H' d = some (.dT kvs) → bagsIs H' (voids gs) gs kvs → Q (.ref d) H'
/-- is a counted bag -/
def cbB (gs : List Pg) (n : Nm) : Bool := gs.any fun g => decide (g.1 = n) && (isBag g.2 && !decide (n ∈ voids gs))
theorem bags_some {H : Hp} {gs : List Pg} {kvs : List (List Key × V)} (h : bagsIs H (voids gs) gs kvs) (n : Nm) : (valV kvs (nmKey n)).isSome = cbB gs n := by
  rw [Bool.eq_iff_iff, cbB, List.any_eq_true]
  rcases h n with ⟨g, a, b, c, d, u, e, f⟩ | ⟨no, e⟩
  · rw [e]
    refine ⟨fun _ => ⟨g, a, ?_⟩, fun _ => rfl⟩
    rw [b, c, decide_eq_true rfl, decide_eq_false d]
    rfl
  · rw [e]
    refine ⟨fun z => (nomatch z), ?_⟩
    rintro ⟨g, a, b⟩
    rw [Bool.and_eq_true, Bool.and_eq_true, decide_eq_true_eq, Bool.not_eq_true', decide_eq_false_iff_not] at b
    exact (b.2.2 (no g a b.1 b.2.1)).elim
def standS (gs : List Pg) (g : Pg) : Str :=
  if wOf g.2 = wVoid then wVoid else if g.1 ∈ voids gs then (("voided" : String) : Str) else
    match g.2 with
    | .rd m _ => if cbB gs m = true then (("counted" : String) : Str) else (("waiting" : String) : Str)
    | _ => (("counted" : String) : Str)
def spStand : Sp := fun vs H Q _ => ∃ (p d1 d2 : Addr) (g : Pg) (gs : List Pg) (k1 k2 : List (List Key × V)), vs = [.ref p, .ref d1, .ref d2] ∧ PgAt H p g ∧ H d1 = some (.dT k1) ∧ goneIs (voids gs) k1 ∧ H d2 = some (.dT k2) ∧ bagsIs H (voids gs) gs k2 ∧
  ∀ H', Same H H' → Q (.str (standS gs g)) H'
def thatL (gs : List Pg) (w : Str) : List Pg := gs.filter fun g => decide (standS gs g = w)
def spThat : Sp := fun vs H Q _ => ∃ (b : Addr) (w : Str) (gs : List Pg), vs = [.ref b, .str w] ∧ BkAt H b gs ∧ gs.length ≤ 1000 ∧
  ∀ (l : Addr) (qs : List Addr) (H' : Hp), Same H H' → H l = none → H' l = some (.lst (qs.map V.ref)) → Pgs H' qs (thatL gs w) → Q (.ref l) H'
def spThatOf (w : Str) : Sp := fun vs H Q _ => ∃ (b : Addr) (gs : List Pg), vs = [.ref b] ∧ BkAt H b gs ∧ gs.length ≤ 1000 ∧
  ∀ (l : Addr) (qs : List Addr) (H' : Hp), Same H H' → H l = none → H' l = some (.lst (qs.map V.ref)) → Pgs H' qs (thatL gs w) → Q (.ref l) H'
def spNamesOf (w : Str) : Sp := fun vs H Q _ => ∃ (b : Addr) (gs : List Pg), vs = [.ref b] ∧ BkAt H b gs ∧ gs.length ≤ 1000 ∧
  ∀ (t : Addr) (qs : List Addr) (H' : Hp), Same H H' → H t = none → H' t = some (.tup (qs.map V.ref)) → Nms H' qs ((thatL gs w).map (·.1)) → Q (.ref t) H'
theorem ix0 (x : V) (r : List V) : atI (x :: r) 0 = some x := atI_nat (j := 0) rfl
theorem ix1 (x y : V) (r : List V) : atI (x :: y :: r) 1 = some y := atI_nat (j := 1) rfl
/-! ### offices, deeds drawn -/
structure OfE (ws : List Wt) (E : List Ed) : Prop where
  w0 : 0 < ws.length
  w8 : ws.length ≤ 8
  e16 : E.length ≤ 16
  road : ∃ e ∈ E, e.1 ≠ gNone
  ed : ∀ e ∈ E, NmOk e.1 ∧ NmOk e.2
  wt : ∀ w ∈ ws, NmOk w.1
def spOfficeE : Sp := fun vs H Q _ => ∃ (f c : Addr) (n : Int), vs = [.ref f] ∧ Fe H f c n ∧ n ≤ 600000 ∧
  ∀ (o : Addr) (ws : List Wt) (E : List Ed) (H' : Hp), Fe H' f c (n + 200) → But f H H' → H o = none → OfAt H' o ws E → OfE ws E → Q (.ref o) H'
def spDeedE : Sp := fun vs H Q _ => ∃ (f c o L Kd : Addr) (k : Nat) (low n : Int) (ws : List Wt) (E : List Ed) (ps : List Addr) (ns : List Nm) (ks : List Str), vs = [.ref f, .ref o, .ref L, .ref Kd, .int k, .int low] ∧ Fe H f c n ∧ n ≤ 600000 ∧
  OfAt H o ws E ∧ OfE ws E ∧ H L = some (.lst (ps.map V.ref)) ∧ L ≠ f ∧ Nms H ps ns ∧ ns.length ≤ 39 ∧ H Kd = some (.lst (ks.map V.str)) ∧ Kd ≠ f ∧ ks.length = ns.length ∧ k < ks.length ∧ 0 ≤ low ∧ low ≤ 1000000000 ∧
  ∀ (t : Addr) (d : Dd) (H' : Hp), Fe H' f c (n + 100) → But f H H' → H t = none → DdAt H' t d → Q (.ref t) H'
theorem Wts.get {H : Hp} : ∀ {ps : List Addr} {es : List Wt} {i : Nat} {p : Addr}, Wts H ps es → ps[i]? = some p → ∃ e, es[i]? = some e ∧ H p = some (.tup (wtV e))
  | _, _, 0, _, .cons a _, h => by
    cases h
    exact ⟨_, rfl, a⟩
  | _, _, i + 1, p, .cons _ b, h => Wts.get (i := i) (p := p) b h
theorem Rds.tk {H H' : Hp} (t : Tk H H') : ∀ {ps : List Addr} {rs : List Ed}, Rds H ps rs → Rds H' ps rs
  | _, _, .nil => .nil
  | _, _, .cons a b => .cons (t _ _ a) (Rds.tk t b)
theorem Wts.tk {H H' : Hp} (t : Tk H H') : ∀ {ps : List Addr} {rs : List Wt}, Wts H ps rs → Wts H' ps rs
  | _, _, .nil => .nil
  | _, _, .cons a b => .cons (t _ _ a) (Wts.tk t b)
theorem OfAt.tk {H H' : Hp} {o : Addr} {ws : List Wt} {E : List Ed} (s : Tk H H') (h : OfAt H o ws E) : OfAt H' o ws E := by
  obtain ⟨w, r, wp, rp, h1, h2, h3, h4, h5⟩ := h
  exact ⟨w, r, wp, rp, s _ _ h1, s _ _ h2, s _ _ h3, h4.tk s, h5.tk s⟩
theorem pick_nm {ps : List Addr} {ns : List Nm} {H : Hp} {d : Int} (h : Nms H ps ns) (d0 : 0 ≤ d) (d1 : d < (((ps.map V.ref).length : Nat) : Int)) : ∃ p, ∃ m ∈ ns, atI (ps.map V.ref) d = some (.ref p) ∧ H p = some (.tup (nmV m)) := by
  rw [List.length_map] at d1
  obtain ⟨k, rfl⟩ : ∃ k : Nat, d = (k : Int) := ⟨d.toNat, by omega⟩
  have hk : k < ps.length := by omega
  obtain ⟨m, m1, m2⟩ := Nms.get h (List.getElem?_eq_getElem hk)
  exact ⟨ps[k], m, List.mem_of_getElem? m1, atI_nat (by rw [List.getElem?_map, List.getElem?_eq_getElem hk]; rfl), m2⟩
theorem pick_ed {ps : List Addr} {es : List Ed} {H : Hp} {d : Int} (h : Rds H ps es) (d0 : 0 ≤ d) (d1 : d < (((ps.map V.ref).length : Nat) : Int)) : ∃ p, ∃ m ∈ es, atI (ps.map V.ref) d = some (.ref p) ∧ H p = some (.tup (edV m)) := by
  rw [List.length_map] at d1
  obtain ⟨k, rfl⟩ : ∃ k : Nat, d = (k : Int) := ⟨d.toNat, by omega⟩
  have hk : k < ps.length := by omega
  obtain ⟨m, m1, m2⟩ := Rds.get h (List.getElem?_eq_getElem hk)
  exact ⟨ps[k], m, List.mem_of_getElem? m1, atI_nat (by rw [List.getElem?_map, List.getElem?_eq_getElem hk]; rfl), m2⟩
def spPagesE : Sp := fun vs H Q _ => ∃ (f c o : Addr) (m : Nat) (low n : Int) (ws : List Wt) (E : List Ed), vs = [.ref f, .ref o, .int m, .int low] ∧ Fe H f c n ∧ n ≤ 500000 ∧ OfAt H o ws E ∧ OfE ws E ∧ m ≤ 39 ∧ 0 ≤ low ∧ low ≤ 1000000000 ∧
  ∀ (l : Addr) (qs : List Addr) (gs : List Pg) (H' : Hp), Fe H' f c (n + 5000) → But f H H' → H l = none → H' l = some (.lst (qs.map V.ref)) → Pgs H' qs gs → gs.length = m → (gs.map (·.1)).Nodup → (∀ g ∈ gs, NmK g.1) → Q (.ref l) H'
def gMenu : List Str := [("move" : String), ("bag" : String), ("read" : String), ("move" : String), ("read" : String), ("move" : String), ("count" : String), ("move" : String), ("void" : String), ("bag" : String), ("read" : String), ("move" : String)]
def NmB (n : Nm) : Prop := 0 ≤ n.1 ∧ n.1 ≤ 99999 ∧ 0 ≤ n.2.1 ∧ n.2.1 ≤ 999 ∧ (n.2.1 ≤ 599 ∨ 950 ≤ n.2.1) ∧ NmOk n.2.2
def wB : Str := (("b" : String) : Str)
theorem wB_ok : NmOk wB := ⟨by decide +kernel, by decide +kernel⟩
def spKnotE : Sp := fun vs H Q _ => ∃ (f c o : Addr) (low n : Int) (ws : List Wt) (E : List Ed), vs = [.ref f, .ref o, .int low] ∧ Fe H f c n ∧ n ≤ 550000 ∧ OfAt H o ws E ∧ OfE ws E ∧ 0 ≤ low ∧ low ≤ 1000000000 ∧
  ∀ (l : Addr) (qs : List Addr) (gs : List Pg) (H' : Hp), Fe H' f c (n + 500) → But f H H' → H l = none → H' l = some (.lst (qs.map V.ref)) → Pgs H' qs gs → gs.map (fun g => g.1.2.1) = [500, 501, 502, 503, 504] → (∀ g ∈ gs, 0 ≤ g.1.1 ∧ g.1.1 ≤ 99 ∧ g.1.2.2 = wB) → Q (.ref l) H'
def spBegunE : Sp := fun vs H Q _ => ∃ (f c : Addr) (n : Int), vs = [.ref f] ∧ Fe H f c n ∧ n ≤ 400000 ∧
  ∀ (t o l : Addr) (low : Int) (ws : List Wt) (E : List Ed) (qs : List Addr) (gs : List Pg) (H' : Hp), Fe H' f c (n + 6000) → But f H H' → H t = none → H' t = some (.tup [.ref o, .int low, .ref l]) → OfAt H' o ws E → OfE ws E → H l = none → l ≠ f → 0 ≤ low → low ≤ 1000000000 →
    H' l = some (.lst (qs.map V.ref)) → Pgs H' qs gs → gs.length ≤ 44 → (gs.map (·.1)).Nodup → (∀ g ∈ gs, NmB g.1) → Q (.ref t) H'
theorem NmK.b {n : Nm} (h : NmK n) : NmB n := by
  obtain ⟨h1, h2, h3, h4⟩ := h
  exact ⟨h1, h2, by omega, by omega, by omega, h4⟩
theorem knot_nodup {gs : List Pg} (h : gs.map (fun g => g.1.2.1) = [500, 501, 502, 503, 504]) : (gs.map (·.1)).Nodup := by
  have z : ((gs.map (·.1)).map fun n : Nm => n.2.1).Nodup := by
    rw [List.map_map]
    show (gs.map fun g => g.1.2.1).Nodup
    rw [h]
    decide
  exact List.Pairwise.of_map _ (fun a b hab e => hab (by rw [e])) z
theorem knot_num {gs : List Pg} (h : gs.map (fun g => g.1.2.1) = [500, 501, 502, 503, 504]) {g : Pg} (hg : g ∈ gs) : 500 ≤ g.1.2.1 ∧ g.1.2.1 ≤ 504 := by
  have z : g.1.2.1 ∈ gs.map (fun g => g.1.2.1) := List.mem_map.mpr ⟨g, hg, rfl⟩
  rw [h] at z
  simp only [List.mem_cons, List.not_mem_nil, or_false] at z
  omega
def spVoidsE : Sp := fun vs H Q _ => ∃ (f c l : Addr) (n : Int) (qs : List Addr) (gs : List Pg), vs = [.ref f, .ref l] ∧ Fe H f c n ∧ n ≤ 450000 ∧ H l = some (.lst (qs.map V.ref)) ∧ l ≠ f ∧ Pgs H qs gs ∧ gs.length ≤ 44 ∧ (gs.map (·.1)).Nodup ∧ (∀ g ∈ gs, NmB g.1) ∧
  ∀ (l' : Addr) (ps : List Addr) (hs : List Pg) (H' : Hp), Fe H' f c (n + 30) → But f H H' → H l' = none → l' ≠ f → H' l' = some (.lst (ps.map V.ref)) → Pgs H' ps hs → hs.length ≤ 50 → (hs.map (·.1)).Nodup → Q (.ref l') H'
def gWays : List Str := [("bag" : String), ("read" : String), ("" : String), ("void" : String), ("gone" : String)]
def NmV (i : Nat) (n : Nm) : Prop := NmB n ∨ (600 ≤ n.2.1 ∧ n.2.1 < 600 + (i : Int))
/-! ### sorted(xs, key=lambda p: ..): the lambda made, called for each item; the table of its code object -/
mutual
def noL : PyData → Bool
  | .list _ => false
  | .dict _ => false
  | .tuple xs => noLAll xs
  | .none => true
  | .bool _ => true
  | .int _ => true
  | .str _ => true
def noLAll : List PyData → Bool
  | [] => true
  | x :: xs => noL x && noLAll xs
end
mutual
theorem reads_noL {h : Heap} : ∀ {v : Value} {d : PyData} {as : List Addr}, Reads h v d as → noL d = true → as = []
  | _, _, _, .none, _ => rfl
  | _, _, _, .bool _, _ => rfl
  | _, _, _, .int _ _, _ => rfl
  | _, _, _, .str _ _, _ => rfl
  | _, _, _, .list _ _ _ _, z => absurd z (by simp [noL])
  | _, _, _, .tuple _ _ _ b, z => readsAll_noL b (by simpa [noL] using z)
  | _, _, _, .dict _ _ _ _ _, z => absurd z (by simp [noL])
theorem readsAll_noL {h : Heap} : ∀ {vs : List Value} {ds : List PyData} {as : List Addr}, ReadsAll h vs ds as → noLAll ds = true → as = []
  | _, _, _, .nil, _ => rfl
  | _, _, _, .cons a b, z => by
    simp only [noLAll, Bool.and_eq_true] at z
    rw [reads_noL a z.1, readsAll_noL b z.2]
    rfl
end
/-- a code object of the name q at c -/
def CodeK (c : Addr) (q : Str) : HO := .ext fun h => ∃ (oc : Obj) (vs : Array Value) (t : Tok), h.get? c = some oc ∧ oc.data = .fields vs ∧ vs[1]? = some (.str q t)
theorem codeK_obj {Pr : Program} {w : World} {H : Hp} {h : Heap} {c : Addr} {q : Str} (e : ∃ (oc : Obj) (vs : Array Value) (t : Tok), h.get? c = some oc ∧ oc.data = .fields vs ∧ vs[1]? = some (.str q t)) : ObjOk Pr w H h c (CodeK c q) := by
  obtain ⟨oc, vs, t, e1, e2, e3⟩ := e
  exact ⟨⟨oc, vs, t, e1, e2, e3⟩, ⟨oc, e1⟩, fun h1 h2 ⟨oc, vs, t, a, b, c⟩ st => ⟨oc, vs, t, st _ a, b, c⟩⟩
/-- the table at P tells no code objects but those at C -/
def tabCP (P : Addr) (C : List Addr) : Heap → Prop := fun h => ∃ ps : Array Value, h.get? P = some { cls := .none, data := .fields ps } ∧ TriplesOk ps.toList ∧ ∀ pos cv, codeAmong pos ps.toList = some cv → ∃ c ∈ C, cv = .ref c
def TabC (P : Addr) (C : List Addr) : HO := .ext (tabCP P C)
theorem tabC_obj {Pr : Program} {w : World} {H : Hp} {h : Heap} {P : Addr} {C : List Addr} (e : tabCP P C h) : ObjOk Pr w H h P (TabC P C) := by
  obtain ⟨ps, h1, h2⟩ := e
  exact ⟨⟨ps, h1, h2⟩, ⟨_, h1⟩, fun a b ⟨qs, g1, g2⟩ k => ⟨qs, k _ g1, g2⟩⟩
def TabL (H : Hp) (P : Addr) (q : Str) : Prop := ∃ C : List Addr, H P = some (TabC P C) ∧ ∀ c ∈ C, c ≠ P ∧ H c = some (CodeK c q)
theorem TabL.stay {H H' : Hp} {P : Addr} {q : Str} (k : ∀ a φ, H a = some (.ext φ) → H' a = some (.ext φ)) (h : TabL H P q) : TabL H' P q := by
  obtain ⟨C, h1, h2⟩ := h
  exact ⟨C, k _ _ h1, fun c hc => ⟨(h2 c hc).1, k _ _ (h2 c hc).2⟩⟩
theorem TabL.same {H H' : Hp} {P : Addr} {q : Str} (s : Same H H') (h : TabL H P q) : TabL H' P q := h.stay fun a φ e => s _ _ e
theorem TabL.at {H : Hp} {P : Addr} {q : Str} (h : TabL H P q) : ∃ φ, H P = some (.ext φ) := by
  obtain ⟨C, h1, _⟩ := h
  exact ⟨_, h1⟩
theorem amongApp {pos p' : Pos} {c cv : Value} (l : List Value) (h : TriplesOk l) (hc : codeAmong p' (l ++ [rawInt pos.line, rawInt pos.col, c]) = some cv) : codeAmong p' l = some cv ∨ cv = c := LamX.among_app l h hc
section
variable {X : Cx} {pins : List (Addr × Obj)} {σ : L2.St} {H : Hp} {s : Shared}
theorem inv_tabC {P c : Addr} {q : Str} {C : List Addr} {h' : Heap} {t' : Nat} (I : Inv X pins σ H s) (hP : H P = some (TabC P C)) (k : ∀ b o, b ≠ P → s.heap.get? b = some o → h'.get? b = some o)
    (hm : tabCP P (c :: C) h') (hc : s.heap.objs.size ≤ c) (ho : ∃ (oc : Obj) (vs : Array Value) (t : Tok), h'.get? c = some oc ∧ oc.data = .fields vs ∧ vs[1]? = some (.str q t)) :
    Inv X pins σ (upd (upd H P (TabC P (c :: C))) c (CodeK c q)) { s with heap := h', toks := t' } := by
  have nC : H c = none := I.hok.fresh hc
  have nPc : P ≠ c := ne_of_none hP nC
  have at_ : ∀ b, b ≠ P → b ≠ c → upd (upd H P (TabC P (c :: C))) c (CodeK c q) b = H b := fun b h1 h2 => by rw [upd_ne h2, upd_ne h1]
  have atP : upd (upd H P (TabC P (c :: C))) c (CodeK c q) P = some (TabC P (c :: C)) := by rw [upd_ne nPc, upd_same]
  have nP : ∀ b u, H b = some u → (∀ φ, u ≠ .ext φ) → b ≠ P := fun b u e q z => by
    rw [z, hP] at e
    exact q _ (Option.some.inj e).symm
  have nN : ∀ b, H b = none → b ≠ P := fun b e z => by
    rw [z, hP] at e
    cases e
  have lt' : ∀ b o, s.heap.get? b = some o → b ≠ c := fun b o e z => by
    rw [z] at e
    exact Nat.lt_irrefl _ (Nat.lt_of_lt_of_le (Heap.lt_size e) hc)
  have sm : ∀ b u, H b = some u → b ≠ c := fun b u e => ne_of_none e nC
  refine I.step (g' := s.gens) (d' := s.drawn) (ch := []) (fun b hb => absurd hb (by simp)) (fun b o _ _ _ e n => k b o (nN b n) e) (fun b o _ _ _ e n => ⟨o.slots, k b o (nN b n) e⟩)
    (fun b o _ e n => by rw [at_ b (nN b n) (lt' b o e)]; exact n) (fun b o _ e => ?_) (fun b xs e => by rw [at_ b (nP b _ e (fun q z => by cases z)) (sm b _ e)]; exact e) (fun b o u e => by rw [at_ b (nP b _ e (fun q z => by cases z)) (sm b _ e)]; exact e) (fun b qs e => ⟨#[], by rw [at_ b (nP b _ e (fun q z => by cases z)) (sm b _ e), e]; simp⟩) (fun m hn => ?_) (fun b u e => ?_) I.bare
  · by_cases hb : b = P
    · obtain ⟨ps, h1, _⟩ := hm
      rw [hb]
      exact ⟨_, h1⟩
    · exact ⟨o, k b o hb e⟩
  · obtain ⟨ob, es, ep, ho, r⟩ := hn
    exact ⟨ob, es, ep, k _ ob (nN _ I.free) ho, r⟩
  · by_cases hb : b = c
    · rw [hb, upd_same] at e
      cases e
      rw [hb]
      exact codeK_obj ho
    · by_cases hb2 : b = P
      · rw [hb2, atP] at e
        cases e
        rw [hb2]
        exact tabC_obj hm
      · rw [at_ b hb2 hb] at e
        refine (I.hok b u e).stay (fun d v hd q => k d v ?_ q) (fun d q => by rw [at_ d (nP d _ q (fun q z => by cases z)) (sm d _ q)]; exact q) fun d xs q => by rw [at_ d (nP d _ q (fun q z => by cases z)) (sm d _ q)]; exact q
        rcases hd with z | z
        · rw [z]
          exact hb2
        · exact nP d _ z (fun q z => by cases z)
/-- the lambda is made: its code object is new, or found in the table -/
theorem lam_makeC {c P : Addr} {params : Arguments} {body : Expr} {scope : Scope} {pos : Pos} {E : Value → Shared → Prop} {Q : Value → Shared → Prop} (I : Inv X pins σ H s) (TB : GxR.TabB X.base X.mg c P) (hcode : X.env.code = .ref c)
    (hT : TabL H P (X.env.qual ++ "<lambda>")) (hdef : defaultsOf params X.env = ([], [])) (hfree : ∀ y ∈ scope.names, y.2 = .free → ∃ c, X.env.cells.lookup y.1 = some c)
    (h : ∀ (f c' : Addr) (pm ctv : Value) (H1 : Hp) (s' : Shared), Inv X pins σ H1 s' → But P H H1 → (∀ b, H b = none → b < s.heap.objs.size → H1 b = none) → TabL H1 P (X.env.qual ++ "<lambda>") →
      s'.heap.get? f = some (PySem.W.kla_obj "<lambda>" (X.env.qual ++ "<lambda>") params body scope (cloFrom X.env.cells scope.names []) pm c' ctv) → s'.heap.CodeRec (.ref c') (X.env.qual ++ "<lambda>") → Q (.ref f) s') :
    wpAny (model X.prog X.w) X.A (eval (.Lambda params body scope pos) X.env) Q E s := by
  obtain ⟨C, hP, hC⟩ := hT
  obtain ⟨⟨ps, hP', ht, ha⟩, _⟩ := (show ObjOk X.prog X.w H s.heap P (TabC P C) from I.hok P _ hP)
  refine PySem.W.kla_eval hdef ?_
  have bP : s.heap.BuiltinsAt X.mg P := TB.bm.keeps I.bk
  cases hc : codeAmong pos ps.toList with
  | none =>
    refine PySem.W.kla_makeFunction (mg := X.mg) (c := c) (P := P) (ps := ps) (closure_ok hfree) I.ok.glob (I.mod.glob.keeps I.bk) hcode (TB.code.keeps I.bk) hP' ht hc TB.gP bP fun c' ctv h' tk hx hge hlt hrec htb => ?_
    obtain ⟨c2, oc, vs, t, e2, hoc, hd, hv⟩ := hrec
    cases e2
    have hsz : s.heap.objs.size ≤ h'.objs.size := Nat.le_trans hge (Nat.le_of_lt hlt)
    have nC : H c' = none := I.hok.fresh hge
    have eL : (ps ++ #[rawInt pos.line, rawInt pos.col, .ref c']).toList = ps.toList ++ [rawInt pos.line, rawInt pos.col, .ref c'] := by simp
    have I1 := inv_tabC (t' := tk) (c := c') (q := X.env.qual ++ "<lambda>") (h' := h'.push (PySem.W.kla_obj "<lambda>" (X.env.qual ++ "<lambda>") params body scope (cloFrom X.env.cells scope.names []) ((X.mg "__name__").getD .none) c' ctv)) I hP
      (fun b o hb e => Heap.get?_push_of_some _ (hx b o hb e)) ⟨_, Heap.get?_push_of_some _ htb, by rw [eL]; exact PySem.TriplesOk_snoc _ _ _ _ ht, fun p' cv hcv => by
        rw [eL] at hcv
        rcases amongApp _ ht hcv with z | z
        · obtain ⟨c0, e1, e2⟩ := ha p' cv z
          exact ⟨c0, List.mem_cons_of_mem _ e1, e2⟩
        · exact ⟨c', List.mem_cons_self, z⟩⟩ hge ⟨oc, vs, t, Heap.get?_push_of_some _ hoc, hd, hv⟩
    refine h h'.objs.size c' ((X.mg "__name__").getD .none) ctv _ _ I1 (fun b o n e => ?_) (fun b e lt => ?_) ⟨c' :: C, ?_, fun c1 h1 => ?_⟩ (Heap.get?_push_size _ rfl) ⟨c', oc, vs, t, rfl, Heap.get?_push_of_some _ hoc, hd, hv⟩
    · rw [upd_ne (ne_of_none e nC), upd_ne n]
      exact e
    · rw [upd_ne (Nat.ne_of_lt (Nat.lt_of_lt_of_le lt hge)), upd_ne (fun z => by rw [z, hP] at e; cases e)]
      exact e
    · rw [upd_ne (ne_of_none hP nC), upd_same]
    · rcases List.mem_cons.mp h1 with rfl | h1
      · exact ⟨(ne_of_none hP nC).symm, upd_same⟩
      · obtain ⟨z, e⟩ := hC c1 h1
        refine ⟨z, ?_⟩
        rw [upd_ne (ne_of_none e nC), upd_ne z]
        exact e
  | some cv =>
    obtain ⟨c', e1, e2⟩ := ha pos cv hc
    subst e2
    obtain ⟨⟨oc, vs, t, g1, g2, g3⟩, _⟩ := (show ObjOk X.prog X.w H s.heap c' (CodeK c' (X.env.qual ++ "<lambda>")) from I.hok c' _ (hC c' e1).2)
    refine PySem.W.kla_makeFunctionHit (mg := X.mg) (c := c) (P := P) (ps := ps) (closure_ok hfree) I.ok.glob (I.mod.glob.keeps I.bk) hcode (TB.code.keeps I.bk) hP' ht hc bP fun ctv h' tk hx hsz => ?_
    have I1 : Inv X pins σ H { s with heap := h'.push (PySem.W.kla_obj "<lambda>" (X.env.qual ++ "<lambda>") params body scope (cloFrom X.env.cells scope.names []) ((X.mg "__name__").getD .none) c' ctv), toks := tk } := I.kept fun b o e => Heap.get?_push_of_some _ (hx b o e)
    exact h h'.objs.size c' ((X.mg "__name__").getD .none) ctv H _ I1 (But.refl _ _) (fun _ e _ => e) ⟨C, hP, hC⟩ (Heap.get?_push_size _ rfl) ⟨c', oc, vs, t, rfl, Heap.get?_push_of_some _ (hx _ _ g1), g2, g3⟩
end
/-- all but what is known by a word of its own stays -/
def NeX (H H' : Hp) : Prop := ∀ a o, (∀ φ, o ≠ .ext φ) → H a = some o → H' a = some o
theorem NeX.of_but {H H' : Hp} {P : Addr} {φ : Heap → Prop} (hP : H P = some (.ext φ)) (b : But P H H') : NeX H H' := fun a o n e => b a o (fun z => by rw [z, hP] at e; exact n φ (Option.some.inj e).symm) e
theorem SqL.ne {K : PySem.W.Frag} {H H' : Hp} {a : Addr} {xs : List V} (e : NeX H H') (h : SqL K H a xs) : SqL K H' a xs := by
  rcases h with (h | ⟨o, h⟩) | h
  · exact Or.inl (Or.inl (e _ _ (fun φ z => nomatch z) h))
  · exact Or.inl (Or.inr ⟨o, e _ _ (fun φ z => nomatch z) h⟩)
  · exact Or.inr h
theorem SqT.ne {K : PySem.W.Frag} {H H' : Hp} {a : Addr} {xs : List V} (e : NeX H H') (h : SqT K H a xs) : SqT K H' a xs := by
  rcases h with (h | ⟨o, h⟩) | h
  · exact Or.inl (Or.inl (e _ _ (fun φ z => nomatch z) h))
  · exact Or.inl (Or.inr ⟨o, e _ _ (fun φ z => nomatch z) h⟩)
  · exact Or.inr h
mutual
theorem Dp.ne {K : PySem.W.Frag} {H H' : Hp} (e : NeX H H') : ∀ {v : V} {d : PyData}, Dp K H v d → Dp K H' v d
  | _, _, .non => .non
  | _, _, .bl b => .bl b
  | _, _, .int i => .int i
  | _, _, .str x => .str x
  | _, _, .lst s a => .lst (SqL.ne e s) (DpAll.ne e a)
  | _, _, .tup s a => .tup (SqT.ne e s) (DpAll.ne e a)
theorem DpAll.ne {K : PySem.W.Frag} {H H' : Hp} (e : NeX H H') : ∀ {vs : List V} {ds : List PyData}, DpAll K H vs ds → DpAll K H' vs ds
  | _, _, .nil => .nil
  | _, _, .cons a b => .cons (Dp.ne e a) (DpAll.ne e b)
end
/-- what the lambda's body tells of its parameter's value: a key -/
structure KeyB (K : PySem.W.Frag) (x : Str) (body : Expr) (T : Hp → V → PyData → Prop) : Prop where
  st : ∀ (H H' : Hp) (v : V) (k : PyData), NeX H H' → T H v k → T H' v k
  ex : ∃ KV : Heap → Value → PyData → Prop,
    (∀ (X : Cx) (pins : List (Addr × Obj)) (σ : L2.St) (H : Hp) (s : Shared) (v : V) (u : Value) (k : PyData), X.K = K → Inv X pins σ H s → T H v k → noL k = true → RelV v u → KV s.heap u k) ∧
    (∀ (h h' : Heap) (u : Value) (k : PyData), KV h u k → (∀ b o, h.get? b = some o → h'.get? b = some o) → KV h' u k) ∧
    ∀ (prog : Program) (w : World) (A : Around) (E : Value → Shared → Prop) (env : Env) (s : Shared) (m : Str → Option Value) (u : Value) (k : PyData), env.scope.kind = .function → env.kindOf x = some .local → s.heap.Ns env.locals m → m x = some u → KV s.heap u k →
      wpAny (model prog w) A (eval body env) (PySem.W.KeyPure k s) E s
theorem eval_ix {prog : Program} {w : World} {A : Around} {E : Value → Shared → Prop} {env : Env} {s : Shared} {m : Str → Option Value} {x : Str} {a : Addr} {its : Array Value} {i : Nat} {wv : Value} {j : Nat} {p1 p2 pos : Pos} {Q : Value → Shared → Prop}
    (hk : env.scope.kind = .function) (hl : env.kindOf x = some .local) (hn : s.heap.Ns env.locals m) (hm : m x = some (.ref a)) (ht : IsTup s.heap a its) (hw : its[i]? = some wv) (hi : i < 1000) (hd : (x == ("__debug__" : Str)) = false) (h : Q wv { s with toks := s.toks + 1 }) :
    wpAny (model prog w) A (eval (.Subscript (.Name x p1) (.Constant (.int i) j p2) pos) env) Q E s := by
  refine Subscript_ (wpAny_Name (wpAny_loadName_local hk hl hn hm ?_) hd)
  refine wpAny_Constant_int ?_
  have lt : i < its.size := (Array.getElem?_eq_some_iff.mp hw).1
  refine subscriptTail_builtinR (x := wv) ht.typeIs slot_tuple_getitem.lookup (getItem_tuple (j := i) (Q := fun r s' => r = wv ∧ Q r s') ht (by omega) (by omega) ?_ hw ⟨rfl, h⟩) (by with_unfolding_all rfl)
  unfold seqIndex?
  have n0 : ¬ ((i : Int) < 0) := by omega
  simp [n0, lt]
/-- lambda x: x[i] -/
theorem key1 {K : PySem.W.Frag} {x : Str} {i : Nat} {j : Nat} {p1 p2 pos : Pos} (hi : i < 1000) (hd : (x == ("__debug__" : Str)) = false) :
    KeyB K x (.Subscript (.Name x p1) (.Constant (.int i) j p2) pos) (fun H v k => ∃ t ys y, v = .ref t ∧ SqT K H t ys ∧ ys[i]? = some y ∧ Dp K H y k) := by
  refine ⟨fun H H' v k n ⟨t, ys, y, e1, e2, e3, e4⟩ => ⟨t, ys, y, e1, SqT.ne n e2, e3, Dp.ne n e4⟩, fun h u k => ∃ a its wv, u = .ref a ∧ IsTup h a its ∧ its[i]? = some wv ∧ Reads h wv k [], ?_, ?_, ?_⟩
  · rintro X pins σ H s v u k rfl I ⟨t, ys, y, rfl, hs, hy, hk⟩ nk r
    cases r
    obtain ⟨its, rv, ht, _⟩ := I.tuple hs
    obtain ⟨wv, e1, e2⟩ := rv.get hy
    obtain ⟨as, rd⟩ := Dp.reads I k y wv hk e2
    have z := reads_noL rd nk
    subst z
    exact ⟨t, its.toArray, wv, rfl, ht, by simpa using e1, rd⟩
  · rintro h h' u k ⟨a, its, wv, rfl, ⟨o, h1, h2⟩, h3, h4⟩ kp
    exact ⟨a, its, wv, rfl, ⟨o, kp _ _ h1, h2⟩, h3, PyProof.Rows.Reads.keeps kp h4⟩
  · rintro prog w A E env s m u k h1 h2 h3 h4 ⟨a, its, wv, rfl, h5, h6, h7⟩
    exact eval_ix h1 h2 h3 h4 h5 h6 hi hd ⟨s.heap, s.toks + 1, rfl, fun _ _ e => e, h7⟩
/-- lambda x: (x[i], x[j]) -/
theorem key2 {K : PySem.W.Frag} {x : Str} {i j : Nat} {j1 j2 l : Nat} {p1 p2 p3 p4 p5 p6 pos : Pos} (hi : i < 1000) (hj : j < 1000) (hd : (x == ("__debug__" : Str)) = false)
    (hst : ∀ env : Env, backTo pos (starEach [.Subscript (.Name x p1) (.Constant (.int i) j1 p2) p3, .Subscript (.Name x p4) (.Constant (.int j) j2 p5) p6] env) =
      [(false, eval (.Subscript (.Name x p1) (.Constant (.int i) j1 p2) p3) env), (false, eval (.Subscript (.Name x p4) (.Constant (.int j) j2 p5) p6) env)] := by intro _; rfl) :
    KeyB K x (.Tuple [.Subscript (.Name x p1) (.Constant (.int i) j1 p2) p3, .Subscript (.Name x p4) (.Constant (.int j) j2 p5) p6] l pos)
      (fun H v k => ∃ t ys y z k1 k2, v = .ref t ∧ SqT K H t ys ∧ ys[i]? = some y ∧ ys[j]? = some z ∧ Dp K H y k1 ∧ Dp K H z k2 ∧ k = .tuple [k1, k2]) := by
  refine ⟨fun H H' v k n ⟨t, ys, y, z, k1, k2, e1, e2, e3, e4, e5, e6, e7⟩ => ⟨t, ys, y, z, k1, k2, e1, SqT.ne n e2, e3, e4, Dp.ne n e5, Dp.ne n e6, e7⟩, fun h u k => ∃ a its w1 w2 k1 k2, u = .ref a ∧ IsTup h a its ∧ its[i]? = some w1 ∧ its[j]? = some w2 ∧ Reads h w1 k1 [] ∧ Reads h w2 k2 [] ∧ k = .tuple [k1, k2], ?_, ?_, ?_⟩
  · rintro X pins σ H s v u k rfl I ⟨t, ys, y, z, k1, k2, rfl, hs, hy, hz, hk1, hk2, rfl⟩ nk r
    cases r
    obtain ⟨its, rv, ht, _⟩ := I.tuple hs
    obtain ⟨w1, e1, e2⟩ := rv.get hy
    obtain ⟨w2, e3, e4⟩ := rv.get hz
    have nk1 : noL k1 = true ∧ noL k2 = true := by
      simp only [noL, noLAll, Bool.and_true, Bool.and_eq_true] at nk
      exact nk
    obtain ⟨as, rd1⟩ := Dp.reads I k1 y w1 hk1 e2
    obtain ⟨bs, rd2⟩ := Dp.reads I k2 z w2 hk2 e4
    have z1 := reads_noL rd1 nk1.1
    have z2 := reads_noL rd2 nk1.2
    subst z1 z2
    exact ⟨t, its.toArray, w1, w2, k1, k2, rfl, ht, by simpa using e1, by simpa using e3, rd1, rd2, rfl⟩
  · rintro h h' u k ⟨a, its, w1, w2, k1, k2, rfl, ⟨o, h1, h2⟩, h3, h4, h5, h6, rfl⟩ kp
    exact ⟨a, its, w1, w2, k1, k2, rfl, ⟨o, kp _ _ h1, h2⟩, h3, h4, PyProof.Rows.Reads.keeps kp h5, PyProof.Rows.Reads.keeps kp h6, rfl⟩
  · rintro prog w A E env s m u k h1 h2 h3 h4 ⟨a, its, w1, w2, k1, k2, rfl, h5, h6, h7, h8, h9, rfl⟩
    refine wpAny_Tuple_spliced ?_
    rw [hst]
    refine Calls.spliced_cons (eval_ix h1 h2 h3 h4 h5 h6 hi hd ?_)
    refine Calls.spliced_cons (eval_ix (s := { s with toks := s.toks + 1 }) h1 h2 h3 h4 h5 h7 hj hd ?_)
    refine Calls.spliced_nil ⟨(show 2 ≤ sizeLine by decide), ?_⟩
    refine ⟨_, s.toks + 1 + 1, rfl, fun _ _ e => Heap.get?_push_of_some _ e, ?_⟩
    have kp : ∀ b o, s.heap.get? b = some o → (s.heap.push { cls := .type "tuple", data := .seq [w1, w2].toArray }).get? b = some o := fun _ _ e => Heap.get?_push_of_some _ e
    exact .tuple (as := []) (Heap.get?_push_size _ rfl) rfl rfl (.cons (as := []) (bs := []) (PyProof.Rows.Reads.keeps kp h8) (.cons (as := []) (bs := []) (PyProof.Rows.Reads.keeps kp h9) .nil))
/-- items with their keys -/
inductive Keyd (T : V → PyData → Prop) : List V → List PyData → Prop
  | nil : Keyd T [] []
  | cons {v : V} {vs : List V} {k : PyData} {ks : List PyData} : T v k → Keyd T vs ks → Keyd T (v :: vs) (k :: ks)
theorem Keyd.len {T : V → PyData → Prop} : ∀ {vs : List V} {ks : List PyData}, Keyd T vs ks → vs.length = ks.length
  | _, _, .nil => rfl
  | _, _, .cons _ b => congrArg (· + 1) (Keyd.len b)
theorem Keyd.imp {T T' : V → PyData → Prop} (f : ∀ v k, T v k → T' v k) : ∀ {vs : List V} {ks : List PyData}, Keyd T vs ks → Keyd T' vs ks
  | _, _, .nil => .nil
  | _, _, .cons a b => .cons (f _ _ a) (Keyd.imp f b)
theorem Keyd.snd {T : V → PyData → Prop} : ∀ {vs : List V} {ks : List PyData}, Keyd T vs ks → (vs.zip ks).map Prod.snd = ks
  | _, _, .nil => rfl
  | _, _, .cons _ b => by rw [List.zip_cons_cons, List.map_cons, Keyd.snd b]
theorem Keyd.each {T : V → PyData → Prop} {R : Value → V × PyData → Prop} : ∀ {vs : List V} {ks : List PyData} {us : List Value}, (∀ v k u, k ∈ ks → T v k → RelV v u → R u (v, k)) → Keyd T vs ks → Vals vs us → PySem.W.EachIs R us (vs.zip ks)
  | _, _, _, _, .nil, .nil => .nil
  | _, _, _, f, .cons a b, .cons r t => .cons (f _ _ _ List.mem_cons_self a r) (Keyd.each (fun v k u hk => f v k u (List.mem_cons_of_mem _ hk)) b t)
theorem vals_of_each {R : Value → V × PyData → Prop} (f : ∀ u b, R u b → RelV b.1 u) : ∀ {us : List Value} {bs : List (V × PyData)}, PySem.W.EachIs R us bs → Vals (bs.map Prod.fst) us
  | _, _, .nil => .nil
  | _, _, .cons a b => .cons (f _ _ a) (vals_of_each f b)
def rSortK (K : PySem.W.Frag) (P : Addr) (q : Str) (T : Hp → V → PyData → Prop) : List V → Hp → VK → Prop := fun vs H1 Q => ∃ (a : Addr) (xs : List V) (ks : List PyData), vs = [.ref a] ∧ SqL K H1 a xs ∧ TabL H1 P q ∧ Keyd (T H1) xs ks ∧
  PySem.W.AllAlike ks ∧ PySem.W.Sortable ks ∧ (∀ k ∈ ks, noL k = true ∧ k.depth ≤ 50) ∧ ∀ (p : Addr) (H2 : Hp), But P H1 H2 → TabL H2 P q → H1 p = none → H2 p = some (.lst (sortD xs ks)) → Q (.ref p) H2
def tSortK (K : PySem.W.Frag) (P : Addr) (q : Str) (T : Hp → V → PyData → Prop) (t : TA) : TE := fun σ H Q => t σ H fun vs H1 => rSortK K P q T vs H1 Q
theorem pe_sortK {X : Cx} {k : Nat} {x : Str} {c P : Addr} {e : Expr} {t : TA} {params : Arguments} {body : Expr} {scope : Scope} {lpos p kp pos : Pos} {T : Hp → V → PyData → Prop} {qn : Str}
    (hr : Room k X.A) (hg : Gl X "sorted") (hm : X.mg "sorted" = none) (TB : GxR.TabB X.base X.mg c P) (hcode : X.env.code = .ref c) (ha : PA X [e] t) (B : KeyB X.K x body T) (hq : X.env.qual ++ "<lambda>" = qn)
    (hco : scope.isCoroutine = false) (hgen : scope.isGenerator = false) (hkind : scope.kind = .function) (hnc : ∀ y ∈ scope.names, y.2 ≠ .cell ∧ y.2 ≠ .free) (hx : scope.names.lookup x = some .local)
    (hbind : ∀ (q : Str) (cl : List (Str × Addr)) (pm cdv ct v : Value), bindArgs (PySem.W.kla_fn "<lambda>" q params body scope cl pm cdv ct) ⟨[v], []⟩ = pure [(x, v)])
    (hdef : defaultsOf params X.env = ([], []) := by rfl)
    (he1 : backTo pos (starEach [e] X.env) = (false, eval e X.env) :: backTo pos (starEach [] X.env) := by rfl) (hpl : (backTo pos (starEach [e] X.env)).any (·.1) = false := by rfl)
    (hall : (backToKw pos (keywordEach [⟨some "key", .Lambda params body scope lpos, kp⟩] X.env)).all (·.1.isSome) = true := by rfl) (hnone : (backToKw pos (keywordEach [⟨some "key", .Lambda params body scope lpos, kp⟩] X.env)).any (·.1.isNone) = false := by rfl)
    (hks : (backToKw pos (keywordEach [⟨some "key", .Lambda params body scope lpos, kp⟩] X.env)).filterMap (·.1) = [("key" : Str)] := by rfl) :
    PE X (.Call (.Name "sorted" p) [e] [⟨some "key", .Lambda params body scope lpos, kp⟩] pos) (tSortK X.K P qn T t) := by
  subst hq
  refine ⟨fun pins s σ H Q I h => ?_⟩
  refine wpAny_Call_Name_kw (ld_blt I hg hm (by decide +kernel : bootBuiltins "sorted" = some (.builtin "sorted")) ?_)
  refine PyProof.Rows.callWith_kw ?_ he1 hpl hall hnone
  refine thn (ha.run pos pins s σ H _ I h) fun us s1 ⟨vs, H1, I1, r1, q1⟩ => ?_
  obtain ⟨a, xs, ks, ev, hs, hT, hk, hal, hso, hnl, q⟩ := id q1
  subst ev
  rw [Vals.ref1 r1, hks]
  show wpAny _ _ (evalAll [do let v ← eval (.Lambda params body scope lpos) X.env; standAt pos; pure v]) _ _ s1
  refine wpAny_evalAll_cons (wpAny_bind (lam_makeC I1 TB hcode hT hdef (fun y hy z => absurd z (hnc y hy).2) fun f c' pm ctv H2 s2 I2 b2 _ hT2 hf hcr => wpAny_bind (wpAny_standAt (wpAny_pure (wpAny_evalAll_nil ?_)))))
  show wpAny _ _ (call (.builtin "sorted") [.ref a] [("key", .ref f)]) _ _ s2
  obtain ⟨φ, hPx⟩ := hT.at
  have ne := NeX.of_but hPx b2
  obtain ⟨its, rv, hl, hz⟩ := I2.list (SqL.ne ne hs)
  have hk2 := hk.imp fun v k h => B.st _ _ v k ne h
  obtain ⟨KV, k1, k2, k3⟩ := B.ex
  have un := hr.un
  have hlen := hk.len
  have each : PySem.W.EachIs (fun (u : Value) (b : V × PyData) => RelV b.1 u ∧ KV s2.heap u b.2) its (xs.zip ks) := hk2.each (fun v k u hm h r => ⟨r, k1 X pins σ H2 s2 v u k rfl I2 h (hnl k hm).1 r⟩) rv
  have zl : (xs.zip ks).length = xs.length := by rw [List.length_zip, hlen, Nat.min_self]
  refine PySem.W.sorted_key_data (b := false) (R := fun (u : Value) (b : V × PyData) => RelV b.1 u ∧ KV s2.heap u b.2) (bs := xs.zip ks) Prod.snd hl.isList each (by rw [hk.snd]; exact hal) (by rw [hk.snd]; exact hso) (by rw [zl]; exact hz) (fun b hb => ?_) (PyProof.Rows.ksk_s1 _ _) (fun _ => PyProof.Rows.ksk_l1 _ _) (fun _ => PyProof.Rows.ksk_t1 _ _) (fun v b hR hb h tk kp => ?_) fun out c3 h' tk kp hn hD _ eo => ?_
  · have z := (hnl b.2 (by rw [← hk.snd]; exact List.mem_map.mpr ⟨b, hb, rfl⟩)).2
    omega
  · obtain ⟨c2, oc, vs2, t2, e2, g1, g2, g3⟩ := hcr
    cases e2
    refine wpAny_call (codeAny_mono (R := fun r s' => match r with | .ok (.ret u) => PySem.W.KeyPure b.2 { s2 with heap := h, toks := tk } u s' | _ => False) (PySem.W.kla_callFunE (s := { s2 with heap := h, toks := tk }) hr.depth (kp _ _ hf) rfl hco hgen rfl ⟨c', oc, vs2, t2, rfl, kp _ _ g1, g2, g3⟩ ?_) fun r s' hq => ?_)
    · rw [hbind]
      refine wpAny_pure (wpAny_newFunctionEnv (fun y hy => (hnc y hy).1) (fun y hy => ?_) (fun h₁ hns hsb => ⟨((I2.nolimit).keeps kp).fresh _ hsb, ?_⟩) hkind)
      · rw [List.mem_singleton.mp hy]
        exact hx
      have kp2 : ∀ b o, h.get? b = some o → h₁.get? b = some o := fun b o e => hsb.extBut b o (Nat.ne_of_lt (Heap.lt_size e)) (Heap.get?_push_of_some _ e)
      refine PySem.W.kla_codeExpr (wpAny_mono (k3 X.prog X.w _ _ _ { s2 with heap := h₁, toks := tk + 1 } (fun y => ([(x, v)] : List (Str × Value)).reverse.lookup y) v b.2 hkind hx hns (by simp [List.lookup]) (k2 _ _ _ _ hR.2 fun b o e => kp2 b o (kp b o e))) (fun u s' hu => ?_) fun _ _ z => z)
      obtain ⟨h2, tk2, rfl, e1, e2⟩ := hu
      exact ⟨h2, tk2, rfl, fun b o e => e1 b o (kp2 b o e), e2⟩
    · cases r with
      | error e => exact hq.elim
      | ok fl =>
        cases fl with
        | ret u => exact hq
        | next => exact hq.elim
        | brk => exact hq.elim
        | cont => exact hq.elim
  · have rv2 : Vals (sortD xs ks) out := vals_of_each (fun u b hR => hR.1) eo
    have sl : (sortD xs ks).length ≤ sizeLine := by
      unfold sortD
      rw [List.length_map, List.length_mergeSort, zl]
      exact hz
    have fr : H2 (s2.heap.objs.size + 1) = none := I2.hok.fresh (Nat.le_succ _)
    have J := I2.laid (t' := tk) (o := .lst (sortD xs ks)) kp (Nat.le_succ _) ⟨sl, out, c3, rv2, hD⟩
    obtain ⟨φ2, hP2⟩ := hT2.at
    refine ⟨.ref _, _, J, rfl, q _ _ (b2.trans (But.new fr)) (hT2.same (same_new fr _)) ?_ upd_same⟩
    cases e1 : H1 (s2.heap.objs.size + 1) with
    | none => rfl
    | some o =>
      have z := b2 _ _ (fun z => by rw [z, hP2] at fr; cases fr) e1
      rw [fr] at z
      cases z
/-! ### a law's end where defs have tables of code objects: generator expressions (TabO), lambdas (TabC) -/
/-- what stands of a table at the start; L tells the tables of lambdas -/
def hoT (L : Addr → Bool) (t : Addr) : HO := if L t = true then TabC t [] else TabO t
def endT (L : Addr → Bool) (H : Hp) (t : Addr) : Prop := if L t = true then ∃ C, H t = some (TabC t C) else H t = some (TabO t)
theorem hoT_obj {Pr : Program} {w : World} {H : Hp} {h : Heap} {L : Addr → Bool} {t : Addr} (e : h.get? t = some { cls := .none, data := .fields #[] }) : ObjOk Pr w H h t (hoT L t) := by
  unfold hoT
  split
  · exact tabC_obj ⟨#[], e, trivial, fun pos cv z => by
      have z : codeAmong pos [] = some cv := z
      unfold codeAmong at z
      cases z⟩
  · exact tab_obj ⟨#[], e, trivial⟩
theorem endT_obj {Pr : Program} {w : World} {H : Hp} {h : Heap} {L : Addr → Bool} {t : Addr} (ok : HOk Pr w H h) (e : endT L H t) : ∃ more : Array Value, h.get? t = some { cls := .none, data := .fields more } := by
  unfold endT at e
  split at e
  · obtain ⟨C, e⟩ := e
    obtain ⟨⟨ps, h1, _⟩, _⟩ := (show ObjOk Pr w H h t (TabC t C) from ok t _ e)
    exact ⟨ps, h1⟩
  · obtain ⟨⟨ps, h1, _⟩, _⟩ := (show ObjOk Pr w H h t (TabO t) from ok t _ e)
    exact ⟨ps, h1⟩
section
variable {P : Program} {w : World} {K : PySem.W.Frag} {mg mb : Str → Option Value} {k : Nat} {fa a : Addr} {fd : FuncData} {x : Str} {sp : Sp} {s1 : Shared} {vs : List Value} {ns : List Int} {cs : List (Addr × Addr)} {L : Addr → Bool}
/-- what is tracked at a law's start: the script, if it is no thing of the text, and the tables -/
structure OnlyL (K : PySem.W.Frag) (L : Addr → Bool) (a : Addr) (ts : List Addr) (H : Hp) : Prop where
  tab : ∀ t ∈ ts, H t = some (hoT L t)
  no : ∀ b, b ≠ a → b ∉ ts → H b = none
  own : H a = none ∨ (K.lookup a = none ∧ ∃ o xs, H a = some (.frz o (.lst xs)))
theorem told_fromL (H : Hp) (kin : K.In s1.heap) (glob : s1.heap.Ns mainGlobals mg) (blt : s1.heap.Ns builtinsNs mb) (same : ∀ y : Str, y ≠ "__name__" → mb y = bootBuiltins y) (lim : s1.heap.NoLimit) (bare : s1.gens = #[])
    (hT : ∀ p ∈ cs, s1.heap.get? p.2 = some emptyT) (nT : ∀ p ∈ cs, K.lookup p.2 = none) (C : ∀ p ∈ cs, PySem.W.CodeHd s1.heap p.1 p.2)
    (hbm : ∃ (bm : Addr) (ob : Obj), mg "__builtins__" = some (.ref bm) ∧ bm ≠ builtinsNs ∧ s1.heap.get? bm = some ob ∧ ob.cls = .type "module" ∧ ob.dict = some builtinsNs ∧ ob.data = .plain)
    (obj : s1.heap.get? a = some { cls := .type "list", data := .seq vs.toArray }) (room : Room k callerA)
    (F : ∀ base : Heap, K.In base → base.Ns mainGlobals mg → (∀ p ∈ cs, GxR.TabB base mg p.1 p.2) → FnG P w K mg base k fa fd [x] sp) (bind : ∀ (s : Shared) (u : Value), BindsTo s fd ⟨[u], []⟩ [(x, u)])
    (only : OnlyL K L a (cs.map (·.2)) H) (wish : sp [.ref a] H (fun v H' => v = .bl true ∧ ∀ p ∈ cs, endT L H' p.2) fun _ _ _ => False) (hok : HOk P w H s1.heap) :
    codeAny (model P w) callerA (.call (.ref fa) ⟨[.ref a], []⟩) (Told s1) s1 := by
  have isT : ∀ b : Addr, b ∈ cs.map (·.2) → s1.heap.get? b = some emptyT := fun b hb => by
    obtain ⟨p, hp, e⟩ := List.mem_map.mp hb
    rw [← e]
    exact hT p hp
  have aT : a ∉ cs.map (·.2) := fun z => by
    have q := isT a z
    rw [obj] at q
    have z' : Data.seq vs.toArray _ = Data.fields #[] := congrArg Obj.data (Option.some.inj q)
    cases z'
  have free : ∀ {b : Addr} {o : Obj}, s1.heap.get? b = some o → (∀ vs n, o.data ≠ .seq vs n) → o.data ≠ .fields #[] → H b = none := fun {b o} e h1 h2 => by
    refine only.no b (fun z => ?_) fun z => ?_
    · rw [z, obj] at e
      cases e
      exact h1 _ _ rfl
    · rw [isT b z] at e
      cases e
      exact h2 rfl
  have nsB : ∀ {b : Addr} {m : Str → Option Value}, s1.heap.Ns b m → (hidT s1.heap H).Ns b m := by
    rintro b m ⟨o, es, ep, e, d, r⟩
    refine ⟨o, es, ep, hidT_get e (free e (fun vs n z => ?_) fun z => ?_), d, r⟩
    · rw [d] at z
      cases z
    · rw [d] at z
      cases z
  have kinB : K.In (hidT s1.heap H) := fun b o e => by
    refine hidT_get (kin b o e) ?_
    by_cases z : b = a
    · subst z
      rcases only.own with h | ⟨h, _⟩
      · exact h
      · rw [h] at e
        cases e
    · refine only.no b z fun y => ?_
      obtain ⟨p, hp, ep⟩ := List.mem_map.mp y
      rw [← ep, nT p hp] at e
      cases e
  have limB : (hidT s1.heap H).NoLimit := by
    obtain ⟨mc, h1, h2⟩ := lim
    exact ⟨mc, nsB h1, h2⟩
  have TB : ∀ p ∈ cs, GxR.TabB (hidT s1.heap H) mg p.1 p.2 := fun p hp => by
    have hTp := hT p hp
    refine ⟨?_, ?_, fun z => ?_⟩
    · obtain ⟨o, us, file, tf, flags, tg, inF, text, tt, e1, r1, r2, r3, r4, r5, r6, r7, r8, hne⟩ := C p hp
      refine ⟨o, us, file, tf, flags, tg, inF, text, tt, hidT_get e1 (free e1 (fun vs n z => ?_) fun z => ?_), r1, r2, r3, r4, r5, r6, r7, r8, hne⟩
      · rw [r2] at z
        cases z
      · rw [r2] at z
        cases z
        simp at r3
    · obtain ⟨bm, ob, b1, b2, b3, b4, b5, b6⟩ := hbm
      have nG : bm ≠ mainGlobals := fun q => by
        obtain ⟨o, es, ep, e, hd, _⟩ := glob
        rw [q, e] at b3
        cases b3
        rw [hd] at b6
        cases b6
      have nP : bm ≠ p.2 := fun q => by
        rw [q, hTp] at b3
        cases b3
        cases b6
      refine ⟨bm, ob, b1, b2, nG, nP, hidT_get b3 (free b3 (fun vs n z => ?_) fun z => ?_), b4, b5, b6⟩
      · rw [b6] at z
        cases z
      · rw [b6] at z
        cases z
    · obtain ⟨o, es, ep, e, hd, _⟩ := glob
      rw [z, hTp] at e
      cases e
      cases hd
  have env : Env0 P w K mg (hidT s1.heap H) callerA [] s1 H :=
    { frames := rfl, mod := ⟨kinB, nsB glob, ⟨mb, nsB blt, same⟩, limB⟩, bs := fun _ _ e => of_hidT e, bsz := Nat.le_of_eq (hidT_size _ _), funs := trivial,
      frf := fun b z => (List.not_mem_nil (show b ∈ ([] : List Addr) from z)).elim, hok := hok, bare := .of_eq bare }
  refine codeAny_mono ((F _ kinB (nsB glob) TB).run callerA [] s1 H ⟨[.ref a], []⟩ [.ref a] [.ref a] _ _ room rfl env (bind s1 _) (.cons rfl .nil) wish) ?_
  rintro (e | fl) s2 h
  · exact (show False from h).elim
  · cases fl with
    | ret u =>
      obtain ⟨v, H2, os2, bare2, un, hok2, rel, q, qt⟩ := h
      have q : v = V.bl true := q
      subst q
      obtain rfl : u = Value.bool true := rel
      have key : ∀ b o, b ∉ cs.map (·.2) → s1.heap.get? b = some o → s2.heap.get? b = some o := fun b o nb e => by
        cases z : H b with
        | none => exact un.keep b o e z (fun y => List.not_mem_nil (show b ∈ ([] : List Addr) from y)) List.not_mem_nil
        | some u =>
          have eb : b = a := Classical.byContradiction fun n => by
            rw [only.no b n nb] at z
            cases z
          subst eb
          rcases only.own with y | ⟨_, ob, xs, y⟩
          · rw [z] at y
            cases y
          · obtain ⟨g1, _⟩ := hok b _ y
            obtain ⟨g2, _⟩ := hok2 b _ (un.frzs b ob _ y)
            rw [e] at g1
            cases g1
            exact g2
      have grown : ∀ p ∈ cs, ∃ more : Array Value, s2.heap.get? p.2 = some { cls := .none, data := .fields more } := fun p hp => by
        exact endT_obj hok2 (qt p hp)
      refine ⟨rfl, ⟨fun b o e => ?_, fun b o e => ?_⟩, os2, bare2⟩
      · by_cases hb : b ∈ cs.map (·.2)
        · obtain ⟨p, hp, ep⟩ := List.mem_map.mp hb
          obtain ⟨more, hm⟩ := grown p hp
          rw [← ep] at e ⊢
          rw [hT p hp] at e
          cases e
          exact .inr (.inl ⟨((C p hp).tab (hT p hp)).isCodeTable, rfl, #[], more, rfl, by rw [Array.empty_append]; exact hm⟩)
        · exact .inl (key b o hb e)
      · by_cases hb : b ∈ cs.map (·.2)
        · obtain ⟨p, hp, ep⟩ := List.mem_map.mp hb
          obtain ⟨more, hm⟩ := grown p hp
          rw [← ep]
          exact ⟨_, hm⟩
        · exact ⟨o, key b o hb e⟩
    | next => exact h.elim
    | brk => exact h.elim
    | cont => exact h.elim
theorem told_lawL (kin : K.In s1.heap) (glob : s1.heap.Ns mainGlobals mg) (blt : s1.heap.Ns builtinsNs mb) (same : ∀ y : Str, y ≠ "__name__" → mb y = bootBuiltins y) (lim : s1.heap.NoLimit) (bare : s1.gens = #[])
    (hT : ∀ p ∈ cs, s1.heap.get? p.2 = some emptyT) (nT : ∀ p ∈ cs, K.lookup p.2 = none) (C : ∀ p ∈ cs, PySem.W.CodeHd s1.heap p.1 p.2)
    (hbm : ∃ (bm : Addr) (ob : Obj), mg "__builtins__" = some (.ref bm) ∧ bm ≠ builtinsNs ∧ s1.heap.get? bm = some ob ∧ ob.cls = .type "module" ∧ ob.dict = some builtinsNs ∧ ob.data = .plain)
    (obj : s1.heap.get? a = some { cls := .type "list", data := .seq vs.toArray }) (are : IntsAre vs ns) (long : ns.length ≤ sizeLine) (room : Room k callerA)
    (F : ∀ base : Heap, K.In base → base.Ns mainGlobals mg → (∀ p ∈ cs, GxR.TabB base mg p.1 p.2) → FnG P w K mg base k fa fd [x] sp) (bind : ∀ (s : Shared) (u : Value), BindsTo s fd ⟨[u], []⟩ [(x, u)])
    (wish : ∀ H : Hp, SqL K H a (ns.map V.int) → (∀ p ∈ cs, H p.2 = some (hoT L p.2)) → sp [.ref a] H (fun v H' => v = .bl true ∧ ∀ p ∈ cs, endT L H' p.2) fun _ _ _ => False) :
    codeAny (model P w) callerA (.call (.ref fa) ⟨[.ref a], []⟩) (Told s1) s1 := by
  have rv := vals_ints are
  have nl := are.length
  have isT : ∀ b : Addr, b ∈ cs.map (·.2) → s1.heap.get? b = some emptyT := fun b hb => by
    obtain ⟨p, hp, e⟩ := List.mem_map.mp hb
    rw [← e]
    exact hT p hp
  have aT : a ∉ cs.map (·.2) := fun z => by
    have q := isT a z
    rw [obj] at q
    have z' : Data.seq vs.toArray _ = Data.fields #[] := congrArg Obj.data (Option.some.inj q)
    cases z'
  have memT : ∀ p ∈ cs, p.2 ∈ cs.map (·.2) := fun p hp => List.mem_map.mpr ⟨p, hp, rfl⟩
  have tobj : ∀ {H : Hp} (b : Addr), b ∈ cs.map (·.2) → ObjOk P w H s1.heap b (hoT L b) := fun b hb => hoT_obj (isT b hb)
  cases hk : K.lookup a with
  | some o =>
    have e := kin a o hk
    rw [obj] at e
    cases e
    have tt : ∀ b ∈ cs.map (·.2), (fun b => if b ∈ cs.map (·.2) then some (hoT L b) else none) b = some (hoT L b) := fun b hb => if_pos hb
    have sq : SqL K (fun b => if b ∈ cs.map (·.2) then some (hoT L b) else none) a (ns.map V.int) := Or.inr ⟨_, vs.toArray, _, hk, rfl, rfl, rfl, by rw [List.size_toArray, nl]; exact long, by simpa using rv⟩
    refine told_fromL _ kin glob blt same lim bare hT nT C hbm obj room F bind ⟨tt, fun b _ nb => if_neg nb, Or.inl (if_neg aT)⟩ (wish _ sq fun p hp => tt p.2 (memT p hp)) fun b u z => ?_
    by_cases hb : b ∈ cs.map (·.2)
    · have z' := (tt b hb).symm.trans z
      cases z'
      exact tobj b hb
    · have z' := (if_neg hb).symm.trans z
      cases z'
  | none =>
    let H : Hp := fun b => if b = a then some (.frz { cls := .type "list", data := .seq vs.toArray } (.lst (ns.map V.int))) else if b ∈ cs.map (·.2) then some (hoT L b) else none
    have h1 : H a = some (.frz { cls := .type "list", data := .seq vs.toArray } (.lst (ns.map V.int))) := if_pos rfl
    have h2 : ∀ b ∈ cs.map (·.2), H b = some (hoT L b) := fun b hb => (if_neg (show ¬ b = a from fun z => aT (by rw [← z]; exact hb))).trans (if_pos hb)
    have h3 : ∀ b, b ≠ a → b ∉ cs.map (·.2) → H b = none := fun b hb nb => (if_neg hb).trans (if_neg nb)
    refine told_fromL H kin glob blt same lim bare hT nT C hbm obj room F bind ⟨h2, h3, Or.inr ⟨hk, _, _, h1⟩⟩ (wish H (Or.inl (Or.inr ⟨_, h1⟩)) fun p hp => h2 p.2 (memT p hp)) fun b u z => ?_
    by_cases hb : b = a
    · rw [hb, h1] at z
      cases z
      rw [hb]
      exact ⟨obj, by rw [List.length_map]; exact long, vs, _, rv, obj⟩
    · by_cases hb2 : b ∈ cs.map (·.2)
      · rw [h2 b hb2] at z
        cases z
        exact tobj b hb2
      · rw [h3 b hb hb2] at z
        cases z
end
theorem walkGL {l : PySem.W.OpenLaw} {n k : Nat} {q : Program} {loose : List Str} {XP : (Str → Option Value) → Heap → Prop} {YP : World → Heap → Prop} {d : DefRec} {x : Str} {sp : PySem.W.Frag → (Addr → Bool) → List Addr → Sp}
    (hn : l.most = some n) (hn2 : n ≤ sizeLine) (hdf : d.params.defaults = []) (hr : Room k callerA)
    (F : ∀ (w : World) (mg : Str → Option Value) (fa : Addr) (h : Heap), YP w h → h.Ns mainGlobals mg → mg d.name = some (.ref fa) →
      ∃ (K : PySem.W.Frag) (fd : FuncData) (cs : List (Addr × Addr)) (L : Addr → Bool), K.In h ∧ (∀ p ∈ cs, h.get? p.2 = some emptyT) ∧ (∀ p ∈ cs, K.lookup p.2 = none) ∧ (∀ p ∈ cs, PySem.W.CodeHd h p.1 p.2) ∧ (∀ (s : Shared) (u : Value), BindsTo s fd ⟨[u], []⟩ [(x, u)]) ∧
        ∀ base : Heap, K.In base → base.Ns mainGlobals mg → (∀ p ∈ cs, GxR.TabB base mg p.1 p.2) → FnG l.prog w K mg base k fa fd [x] (sp K L (cs.map (·.2))))
    (hsp : ∀ (K : PySem.W.Frag) (L : Addr → Bool) (ts : List Addr) (H : Hp) (a : Addr) (ns : List Int), ns.length ≤ n → SqL K H a (ns.map V.int) → (∀ t ∈ ts, H t = some (hoT L t)) → sp K L ts [.ref a] H (fun v H' => v = .bl true ∧ ∀ t ∈ ts, endT L H' t) fun _ _ _ => False) :
    PySem.W.WalkO q loose XP YP l.row.toRowW d [] (fun f vs => PySem.call f vs) := by
  refine Att.attach_call hn hdf fun w s0 s1 mg mb fa o pm cd doc a vs ns G Y ho hd hcd hmg hobj hints hlen hg => ?_
  obtain ⟨K, fd, cs, L, kin, hT, nT, C, hb, hF⟩ := F w mg fa _ Y G.T.g hmg
  refine told_lawL (L := L) kin G.T.g G.T.b G.T.builtins G.T.nolimit hg hT nT C G.T.bmain hobj hints (Nat.le_trans hlen hn2) hr hF hb fun H sq tt => ?_
  have w1 := hsp K L (cs.map (·.2)) H a ns hlen sq fun t ht => by
    obtain ⟨p, hp, rfl⟩ := List.mem_map.mp ht
    exact tt p hp
  have e : (fun (v : V) (H' : Hp) => v = .bl true ∧ ∀ t ∈ cs.map (·.2), endT L H' t) = fun v H' => v = .bl true ∧ ∀ p ∈ cs, endT L H' p.2 := by
    funext v H'
    apply propext
    constructor
    · intro ⟨h1, h2⟩
      exact ⟨h1, fun p hp => h2 p.2 (List.mem_map.mpr ⟨p, hp, rfl⟩)⟩
    · intro ⟨h1, h2⟩
      refine ⟨h1, fun t ht => ?_⟩
      obtain ⟨p, hp, rfl⟩ := List.mem_map.mp ht
      exact h2 p hp
  rw [e] at w1
  exact w1
/-- the law's promise, tables ts; L tells those of lambdas -/
def spLawL (K : PySem.W.Frag) (L : Addr → Bool) (ts : List Addr) : Sp := fun vs H Q _ => ∃ (a : Addr) (ns : List Int), vs = [.ref a] ∧ SqL K H a (ns.map V.int) ∧ (∀ t ∈ ts, H t = some (hoT L t)) ∧ ∀ H', (∀ t ∈ ts, endT L H' t) → Q (.bl true) H'
/-! ### dicts whose keys are tuples: a display, d.pop(t), sorted(d) -/
def putAll (acc : List (List Key × V)) (xs : List (List Key × Addr × V)) : List (List Key × V) := xs.foldl (fun a x => putK a x.1 x.2.2) acc
def tDispT (trs : List (TE × TE)) : TE := fun σ H Q => ∀ p, H p = none → tPairs trs σ (upd H p (.dT [])) fun ps H2 => H2 p = some (.dT []) ∧ ∃ xs : List (List Key × Addr × V), ps = xs.map (fun x => (.ref x.2.1, x.2.2)) ∧ (∀ x ∈ xs, H2 x.2.1 = some (.tup (x.1.map kV))) ∧ xs.length ≤ 15 ∧ Q (.ref p) (upd H2 p (.dT (putAll [] xs)))
theorem carriesT {P : Program} {w : World} {H : Hp} {h : Heap} (ok : HOk P w H h) : ∀ {xs : List (List Key × Addr × V)} {ws : List (Value × Value)}, VV (xs.map fun x => (V.ref x.2.1, x.2.2)) ws → (∀ x ∈ xs, H x.2.1 = some (.tup (x.1.map kV))) →
    ∃ ps : List (List Key × Addr × Value), CarriesH (tupleKind (mixKind P w)) h ws ps ∧ Paired (fun (x : List Key × Addr × V) (y : List Key × Addr × Value) => x.1 = y.1 ∧ x.2.1 = y.2.1 ∧ RelV x.2.2 y.2.2) xs ps
  | [], _, r, _ => by
    rw [List.map_nil] at r
    cases r
    exact ⟨[], trivial, .nil⟩
  | x :: xs, _, r, hx => by
    rw [List.map_cons] at r
    cases r with
    | @cons a b as bs e t =>
      obtain ⟨ps, c, q⟩ := carriesT ok t fun y hy => hx y (List.mem_cons_of_mem _ hy)
      obtain ⟨b1, b2⟩ := b
      obtain ⟨e1, e2⟩ := e
      have e1 : b1 = Value.ref x.2.1 := e1
      subst e1
      exact ⟨(x.1, x.2.1, b2) :: ps, ⟨rfl, rfl, key_of ok (hx x List.mem_cons_self), c⟩, .cons ⟨rfl, rfl, e2⟩ q⟩
theorem KT.all {H : Hp} : ∀ {xs : List (List Key × Addr × V)} {ps : List (List Key × Addr × Value)}, Paired (fun (x : List Key × Addr × V) (y : List Key × Addr × Value) => x.1 = y.1 ∧ x.2.1 = y.2.1 ∧ RelV x.2.2 y.2.2) xs ps → (∀ x ∈ xs, H x.2.1 = some (.tup (x.1.map kV))) →
    ∀ {kvs : List (List Key × V)} {ys : List (List Key × Addr × Value)}, KT H kvs ys → KT H (putAll kvs xs) (storedAllH ys ps)
  | _, _, .nil, _, _, _, r => r
  | _, _, .cons e t, hx, _, _, r => by
    obtain ⟨e1, e2, e3⟩ := e
    have hb := hx _ List.mem_cons_self
    rw [e1, e2] at hb
    have z := KT.all t (fun z hz => hx z (List.mem_cons_of_mem _ hz)) (r.put _ hb e3)
    rw [← e1] at z
    simpa [putAll, storedAllH, e1] using z
theorem putAll_len : ∀ (xs : List (List Key × Addr × V)) (kvs : List (List Key × V)), (putAll kvs xs).length ≤ kvs.length + xs.length
  | [], _ => Nat.le_refl _
  | x :: xs, kvs => by
    have h1 := putAll_len xs (putK kvs x.1 x.2.2)
    have h2 := length_putK kvs x.1 x.2.2
    show (putAll (putK kvs x.1 x.2.2) xs).length ≤ _
    rw [List.length_cons]
    omega
theorem pe_dispT {X : Cx} {pos : Pos} {keys : List (Option Expr)} {values : List Expr} {trs : List (TE × TE)} (room : X.A.units < cLine) (h : PPs X pos keys values trs) (hall : keys.all (·.isSome) = true) (hl : keys.length = values.length) (h0 : keys ≠ [])
    (h15 : keys.length ≤ 15) : PE X (.Dict keys values pos) (tDispT trs) := by
  refine ⟨fun pins s σ H Q I q => ?_⟩
  have hn := I.hok.fresh (Nat.le_refl s.heap.objs.size)
  have I1 := I.laid (a := s.heap.objs.size) (o := .dT []) (h' := s.heap.push { cls := .type "dict", data := .dict #[] }) (t' := s.toks) (fun _ _ q => Heap.get?_push_of_some _ q) (Nat.le_refl _) (dt_empty s.heap I.big)
  have hpl := pairTrees_length keys values X.env pos hall hl
  have hp0 : pairTrees keys values X.env pos ≠ [] := fun he => by
    rw [he] at hpl
    exact h0 (List.length_eq_zero_iff.mp hpl.symm)
  rw [arm_eval_Dict, zip_pairTrees keys values X.env pos hall hl, dictDisplay_pairs (pairTrees keys values X.env pos) hp0 (by rw [hpl]; omega)]
  refine wpAny_bind (wpAny_standAt (wpAny_bind (wpAny_subDictH (knd := tupleKind (mixKind X.prog X.w)) (show (tupleKind _).room X.A from room) (by rw [hpl]; exact h15) (thn (h.run pins _ σ _ _ I1 (q _ hn)) fun ws s2 ⟨ps, H2, I2, rel, e, xs, ep, hx, lk, q2⟩ => ?_))))
  subst ep
  obtain ⟨qs, c, pq⟩ := carriesT I2.hok rel hx
  obtain ⟨z, hd, ys, r0, dd⟩ := dt_of I2.hok e
  cases r0
  refine ⟨qs, c, dd, fun h' tk now but => wpAny_pure ⟨.ref s.heap.objs.size, _, ?_, rfl, q2⟩⟩
  obtain ⟨ob, es, ep, e1, e2, e3, e4, _, e5⟩ := now
  have hz : (putAll [] xs).length ≤ sizeLine := by
    have h1 := putAll_len xs []
    rw [List.length_nil] at h1
    rw [sizeLine_eq]
    omega
  refine d_write I2 (e ▸ True.intro) but ⟨ob, e1⟩ ⟨hz, hd, _, (KT.all pq hx .nil).keeps fun c ys at_c => ?_, ob, es, ep, e1, e2, e3, e4, e5⟩
  exact (upd_ne (ne_of at_c e (fun z => nomatch z))).trans at_c
/-- d.pop(t), t a key of it -/
def rPopT1 : V → List V → Hp → VK → Prop := fun x xs H Q => ∃ (a : Addr) (kvs : List (List Key × V)) (k : List Key) (b : Addr) (v : V), x = .ref a ∧ xs = [.ref b] ∧ H a = some (.dT kvs) ∧ H b = some (.tup (k.map kV)) ∧ valV kvs k = some v ∧ Q v (upd H a (.dT (dropK kvs k)))
section
variable {prog : Program} {w : World} {K : Type} [DecidableEq K] {knd : HeapKind prog w K}
theorem meetsPop1 {d b : Addr} {k : K} :
    MeetsIn prog w (Builtin.«dict.pop» ⟨[.ref d, .ref b], []⟩) (fun A R s => ∃ xs, knd.room A.in1 ∧ knd.is s.heap k b ∧ s.heap.DictOfH knd d xs ∧ xs.length ≤ sizeLine ∧ (atKey xs k).isSome = true ∧
      ∀ p, atKey xs k = some p → ∀ h' tk, h'.DictOfH knd d (DT.dropH xs k) → Heap.SameBut d s.heap h' → R (.ok (.ret p.2)) { s with heap := h', toks := tk }) :=
  .of_wp fun A R s ⟨xs, hu, hkey, hm, hsz, hso, hsome⟩ => by
    obtain ⟨o, es, ep, ho, hc, hdat, he, his, hn⟩ := id hm
    have hes : es.size = xs.length := size_of_entries he
    have hpart : (keyPart (Value.ref b)).isSome = false := rfl
    unfold Builtin.«dict.pop»
    refine wpAny_bind ?_
    unfold Builtin.Dict.keyAndDefault
    refine wpAny_bind (wpAny_notOrdered_dict hm.typeIs ?_)
    show wpAny _ _ (pure (d, Value.ref b, none)) _ _ s
    refine wpAny_pure ?_
    simp only [hpart, Bool.false_eq_true, if_false]
    refine wpAny_bind (wpAny_dictEntries ho hdat (wpAny_bind (wpAny_pure ?_)))
    cases hem : es.isEmpty with
    | true =>
      have h0 : xs = [] := by
        have z : es.size = 0 := by simpa using hem
        exact List.length_eq_zero_iff.mp (by omega)
      rw [h0] at hso
      cases hso
    | false =>
      simp only [Bool.false_eq_true, if_false]
      refine wpAny_bind (DT.takeH hu hkey hm hsz (fun hno => ?_) fun p e hp hev h' hm' hs' => ?_)
      · rw [hno] at hso
        cases hso
      · simp only [Option.isNone_some, Bool.false_eq_true, if_false]
        exact wpAny_bind (wpAny_letGo (wpAny_pure ⟨e.val, rfl, by rw [hev]; exact hsome p hp h' _ hm' hs'⟩))
end
theorem mt_popT1 {X : Cx} (hu : X.A.units + 1 < cLine) : MtR X "dict.pop" rPopT1 := by
  intro pins s σ H x xs v us Q I rx rxs h
  obtain ⟨a, kvs, k, b, v1, rfl, rfl, ha, hb, hv, q1⟩ := h
  cases rx
  rw [Vals.ref1 rxs]
  obtain ⟨z, hd, xs', rel, dd⟩ := dt_of I.hok ha
  have hz : xs'.length ≤ sizeLine := by rw [← Paired.length rel]; exact z
  have r := rel.val k
  refine call_meetsIn PySem.F.slot_dict_pop dd.typeIs PySem.F.entry_dict_pop (PySem.F.args_dict_pop_2 _ _) (meetsPop1 (knd := tupleKind (mixKind X.prog X.w)) (k := k))
    ⟨xs', tupleKind_room_in1 hu, key_of I.hok hb, dd, hz, ?_, fun p hp h' tk dd' hs => ?_⟩
  · rw [hv] at r
    cases e : atKey xs' k with
    | none => rw [e] at r; exact (show False from r).elim
    | some p => rfl
  · rw [hp, hv] at r
    have rv : RelV v1 p.2 := r
    obtain ⟨o, es, ep, hq, h2, h3, h4, _, h5⟩ := dd'
    have I2 : Inv X pins σ (upd H a (.dT (dropK kvs k))) { s with heap := h', toks := tk } :=
      d_write I (by rw [ha]; exact True.intro) hs ⟨o, hq⟩ ⟨Nat.le_trans (dropK_le kvs k) z, hd, _, (L2.DX.KT_drop k rel).keeps (fun c ys ec => (by rw [upd_ne (ne_of ec ha (fun z => nomatch z))]; exact ec)), o, es, ep, hq, h2, h3, h4, h5⟩
    show EP X pins σ Q p.2 _
    exact ⟨v1, _, I2, rv, q1⟩
/-! sorted(d) -/
def kD : Key → PyData
  | .inl i => .int i
  | .inr s => .str s
def keyD (k : List Key) : PyData := .tuple (k.map kD)
theorem keyD_dp {K : PySem.W.Frag} {H : Hp} {a : Addr} {k : List Key} (h : H a = some (.tup (k.map kV))) : Dp K H (.ref a) (keyD k) := by
  refine .tup (SqT.of h) ?_
  clear h
  induction k with
  | nil => exact .nil
  | cons x k ih =>
    cases x with
    | inl i => exact .cons (.int i) ih
    | inr s => exact .cons (.str s) ih
theorem keyD_noL (k : List Key) : noL (keyD k) = true := by
  unfold keyD
  simp only [noL]
  induction k with
  | nil => rfl
  | cons x k ih =>
    cases x <;> simp [noLAll, noL, kD, ih]
theorem keyD_dep (k : List Key) : (keyD k).depth ≤ 2 := by
  have z : PyData.depthAll (k.map kD) ≤ 1 := by
    induction k with
    | nil => simp [PyData.depthAll]
    | cons x k ih => cases x <;> simp only [List.map_cons, kD, PyData.depthAll, PyData.depth] <;> omega
  unfold keyD
  simp only [PyData.depth]
  omega
/-- where the keys lie -/
inductive KeysAt (H : Hp) : List Addr → List (List Key) → Prop
  | nil : KeysAt H [] []
  | cons {a : Addr} {k : List Key} {as : List Addr} {ks : List (List Key)} : H a = some (.tup (k.map kV)) → KeysAt H as ks → KeysAt H (a :: as) (k :: ks)
theorem KeysAt.dp {K : PySem.W.Frag} {H : Hp} : ∀ {as : List Addr} {ks : List (List Key)}, KeysAt H as ks → DpAll K H (as.map V.ref) (ks.map keyD)
  | _, _, .nil => .nil
  | _, _, .cons a b => .cons (keyD_dp a) (KeysAt.dp b)
theorem KeysAt.of {H : Hp} : ∀ {kvs : List (List Key × V)} {xs : List (List Key × Addr × Value)}, KT H kvs xs → KeysAt H (xs.map fun x => x.2.1) (kvs.map (·.1))
  | _, _, .nil => .nil
  | _, _, .cons e t => .cons e.2.1 (KeysAt.of t)
theorem vals_refs2 : ∀ as : List Addr, Vals (as.map V.ref) (as.map Value.ref)
  | [] => .nil
  | _ :: as => .cons rfl (vals_refs2 as)
theorem kdl_raw {prog : Program} {w : World} {d : Addr} {es : Array DictEntry} {ep : Nat} (lo : (d == sysModules) = false) : PySem.W.KdlSrc prog w "dict" d d es.size (fun i v => ∃ hi : i < es.size, v = es[i].key) (fun h => h.DictRaw d es ep) where
  type := fun _ hm => hm.typeIs
  there := fun _ hm => by obtain ⟨o, ho, _⟩ := hm; exact ⟨Heap.lt_size ho, Heap.lt_size ho⟩
  keep := fun _ _ hm hk => hm.at fun o e => hk d (.inl rfl) o e
  notList := by decide
  notTuple := by decide
  hint := fun _ _ _ _ hm hq => PySem.W.kdl_hint_dict hm.typeIs hq
  iter := fun _ _ hh hm => ⟨_, _, (fun _ _ hq => wpAny_pyIter_dict_raw lo hm hq), Walks.rawKeys hh _ d (by obtain ⟨o, ho, _⟩ := hm; exact Nat.ne_of_lt (Heap.lt_size ho)) es ep, ⟨⟨_, Heap.get?_push_size _ rfl, rfl, rfl⟩, hm.at fun o e => Heap.get?_push_of_some _ e⟩⟩
def rSortDT : List V → Hp → VK → Prop := fun xs H Q => ∃ (a : Addr) (kvs : List (List Key × V)), xs = [.ref a] ∧ H a = some (.dT kvs) ∧ kvs.length ≤ 100000 ∧ PySem.W.AllAlike ((kvs.map (·.1)).map keyD) ∧ PySem.W.Sortable ((kvs.map (·.1)).map keyD) ∧
  ∀ (as : List Addr) (p : Addr), KeysAt H as (kvs.map (·.1)) → H p = none → Q (.ref p) (upd H p (.lst (sortD (as.map V.ref) ((kvs.map (·.1)).map keyD))))
theorem cr_sortDT {X : Cx} {k : Nat} (hr : Room k X.A) (calm : X.calm = true) : CallR X (.builtin "sorted") rSortDT := by
  intro pins s σ H xs us Q I r h
  obtain ⟨a, kvs, rfl, ha, long, alike, sable, q⟩ := h
  rw [Vals.ref1 r]
  have un := hr.un
  obtain ⟨z, lo, ys, rel, dd⟩ := dt_of I.hok ha
  obtain ⟨es, ep, raw, esz, ek⟩ := dd.raw
  have ly : ys.length = kvs.length := (Paired.length rel).symm
  have ka := KeysAt.of rel
  have line : kvs.length ≤ sizeLine := Nat.le_trans long (by decide)
  refine (Calls.call_function_entry PyProof.Rows.kind_sorted PyProof.Rows.plain_sorted PyProof.Rows.entry_sorted (PyProof.Rows.args_sorted1 _) ?_); unfold Builtin.«sorted»
  refine (wpAny_bind (m := checkCount "sorted" 1 1 _) (wpAny_pure ?_))
  refine wpAny_bind (PySem.W.kdu_collect (A := X.A.in1) (kdl_raw lo) (I.ok.hd calm) raw (by rw [esz, ly]; exact line) fun h1 tk acc keep got => ?_)
  have ea : acc.toList = (ys.map fun x => x.2.1).map Value.ref := by
    apply List.ext_getElem?
    intro j
    rw [List.getElem?_map, List.getElem?_map]
    cases e : acc.toList[j]? with
    | none =>
      have l1 : acc.toList.length ≤ j := List.getElem?_eq_none_iff.mp e
      rw [Array.length_toList, got.1, esz] at l1
      rw [List.getElem?_eq_none_iff.mpr l1]
      rfl
    | some v =>
      obtain ⟨hi, ev⟩ := got.2 j v (by rw [← Array.getElem?_toList]; exact e)
      obtain ⟨y, y1, y2, _⟩ := ek j hi
      rw [y1, ev, y2]
      rfl
  have J : Inv X pins σ H { s with heap := h1, toks := tk } := I.kept keep
  rw [ea]
  refine wpAny_bind (wpAny_newList ?_ (by rw [List.length_map, List.length_map, ly]; exact line))
  generalize hvs : (ys.map fun x => x.2.1).map Value.ref = vs
  have new : (h1.push (seqObj "list" vs.toArray 0)).get? h1.objs.size = some (seqObj "list" vs.toArray 0) := Heap.get?_push_size _ rfl
  show wpAny _ _ _ _ _ { s with toks := tk, heap := h1.push (seqObj "list" vs.toArray 0) }
  have dpa : DpAll X.K H ((ys.map fun x => x.2.1).map V.ref) ((kvs.map (·.1)).map keyD) := ka.dp
  have rv0 : Vals ((ys.map fun x => x.2.1).map V.ref) vs := by rw [← hvs]; exact vals_refs2 _
  have er := each_reads J dpa rv0
  have zs := zip_snd dpa
  have zl := zip_len dpa
  have nol : ∀ d ∈ (kvs.map (·.1)).map keyD, noL d = true ∧ d.depth ≤ 2 := fun d hd => by
    obtain ⟨k, _, rfl⟩ := List.mem_map.mp hd
    exact ⟨keyD_noL k, keyD_dep k⟩
  have er2 : PySem.W.EachIs (fun (v : Value) (b : V × PyData) => ∃ as, Reads (h1.push (seqObj "list" vs.toArray 0)) v b.2 as ∧ h1.objs.size ∉ as) vs (((ys.map fun x => x.2.1).map V.ref).zip ((kvs.map (·.1)).map keyD)) := by
    refine (PySem.W.each_mem er).mono fun v b ⟨⟨as, rd⟩, hb⟩ => ?_
    have e0 := reads_noL rd (nol b.2 (by rw [← zs]; exact List.mem_map.mpr ⟨b, hb, rfl⟩)).1
    subst e0
    exact ⟨[], PyProof.Rows.Reads.keeps (fun b o e => Heap.get?_push_of_some _ e) rd, fun z => nomatch z⟩
  refine wpAny_bind (wpAny_holding (PySem.W.list_sort_data (enc := Prod.snd) (R := fun (v : Value) (b : V × PyData) => RelV b.1 v) (bs := ((ys.map fun x => x.2.1).map V.ref).zip ((kvs.map (·.1)).map keyD)) new (each_rel dpa rv0) er2 (by rw [zs]; exact alike) (by rw [zs]; exact sable) (by rw [zl, List.length_map, List.length_map, ly]; exact line) (fun b hb => ?_) fun out ho eo => ?_))
  · have z2 := (nol b.2 (by rw [← zs]; exact List.mem_map.mpr ⟨b, hb, rfl⟩)).2
    show X.A.units + 1 + 1 + _ < cLine
    omega
  have rv : Vals (sortD ((ys.map fun x => x.2.1).map V.ref) ((kvs.map (·.1)).map keyD)) out := vals_each eo
  obtain ⟨en, at2⟩ := PyProof.Rows.sortedHeap_at (vs := vs) (out := out.toArray) new
  have len3 : (sortD ((ys.map fun x => x.2.1).map V.ref) ((kvs.map (·.1)).map keyD)).length ≤ sizeLine := by
    unfold sortD
    rw [List.length_map, List.length_mergeSort, zl, List.length_map, List.length_map, ly]
    exact line
  refine wpAny_pure ⟨_, rfl, .ref h1.objs.size, upd H _ (.lst (sortD ((ys.map fun x => x.2.1).map V.ref) ((kvs.map (·.1)).map keyD))), J.laid (t' := tk) (fun b u e => ?_) (Nat.le_refl _) ⟨len3, out, en, rv, at2⟩, rfl, q _ _ ka (J.hok.fresh (Nat.le_refl _))⟩
  have lt : b < h1.objs.size := Heap.lt_size e
  rw [PyProof.Rows.sortedHeap_old (Nat.ne_of_lt lt) (by rw [size_push']; exact Nat.lt_succ_of_lt lt)]
  exact (Heap.get?_push_of_some _ e)
/-! ### k23: parts of the end -/
def rIxA (K : PySem.W.Frag) : R2 := fun x y H Q => rIxL K x y H Q ∨ rIxT K x y H Q
theorem ix_any {X : Cx} : IxR X (rIxA X.K) := fun value slice pins s σ H x y v u Q I rx ry h hs => h.elim (fun h => ix_list value slice pins s σ H x y v u Q I rx ry h hs) fun h => ix_tup value slice pins s σ H x y v u Q I rx ry h hs
/-! the book -/
def qBook : Str := (Str.ofString "_law_book" ++ Str.ofString ".<locals>.") ++ Str.ofString "<lambda>"
def bookL (gs : List Pg) : List Pg := gs.mergeSort (PySem.W.dataLe false fun g : Pg => nmD g.1)
theorem bookL_perm (gs : List Pg) : (bookL gs).Perm gs := List.mergeSort_perm gs _
theorem paired_of {α β : Type} {F : α → β → Prop} : ∀ l : List (α × β), (∀ x ∈ l, F x.1 x.2) → Paired F (l.map Prod.fst) (l.map Prod.snd)
  | [], _ => .nil
  | x :: l, h => .cons (h x List.mem_cons_self) (paired_of l fun y hy => h y (List.mem_cons_of_mem _ hy))
theorem paired_mem {α β : Type} {F : α → β → Prop} : ∀ {as : List α} {bs : List β}, Paired F as bs → ∀ x ∈ as.zip bs, F x.1 x.2
  | _, _, .nil, x, hx => nomatch hx
  | _, _, .cons a b, x, hx => by
    rcases List.mem_cons.mp hx with rfl | hx
    · exact a
    · exact paired_mem b x hx
theorem paired_snd {α β : Type} {F : α → β → Prop} : ∀ {as : List α} {bs : List β}, Paired F as bs → (as.zip bs).map Prod.snd = bs ∧ (as.zip bs).map Prod.fst = as
  | _, _, .nil => ⟨rfl, rfl⟩
  | _, _, .cons a b => by
    obtain ⟨h1, h2⟩ := paired_snd b
    rw [List.zip_cons_cons, List.map_cons, List.map_cons, h1, h2]
    exact ⟨rfl, rfl⟩
/-- what lies at ps, sorted by a key of its data -/
theorem sort_paired {β : Type} {F : Addr → β → Prop} (key : β → PyData) {ps : List Addr} {gs : List β} (h : Paired F ps gs) :
    ∃ rs, sortD (ps.map V.ref) (gs.map key) = rs.map V.ref ∧ Paired F rs (gs.mergeSort (PySem.W.dataLe false key)) := by
  have e1 : ((ps.map V.ref).zip (gs.map key)) = (ps.zip gs).map (fun x => (V.ref x.1, key x.2)) := by
    rw [List.zip_map]
    rfl
  obtain ⟨p1, p2⟩ := paired_snd h
  refine ⟨((ps.zip gs).mergeSort (PySem.W.dataLe false fun x => key x.2)).map Prod.fst, ?_, ?_⟩
  · unfold sortD
    rw [e1, ← PySem.W.sort_maps (r := PySem.W.dataLe false fun x : Addr × β => key x.2) (fun x : Addr × β => (V.ref x.1, key x.2)) (fun _ _ _ _ => rfl), List.map_map, List.map_map]
    rfl
  · have e2 : gs.mergeSort (PySem.W.dataLe false key) = ((ps.zip gs).mergeSort (PySem.W.dataLe false fun x => key x.2)).map Prod.snd := by
      have z := PySem.W.sort_maps (r := PySem.W.dataLe false fun x : Addr × β => key x.2) (s := PySem.W.dataLe false key) (l := ps.zip gs) Prod.snd (fun _ _ _ _ => rfl)
      rw [p1] at z
      exact z.symm
    rw [e2]
    exact paired_of _ fun x hx => paired_mem h x (List.mem_mergeSort.mp hx)
theorem nms_alike (ns : List Nm) : PySem.W.AllAlike (ns.map nmD) := by
  intro d hd e he
  obtain ⟨a, _, rfl⟩ := List.mem_map.mp hd
  obtain ⟨b, _, rfl⟩ := List.mem_map.mp he
  simp [nmD, PySem.W.alike, PySem.W.alikeAll]
theorem nms_sortable (ns : List Nm) : PySem.W.Sortable (ns.map nmD) := by
  refine Or.inl fun d hd => ?_
  obtain ⟨a, _, rfl⟩ := List.mem_map.mp hd
  exact ⟨_, _, rfl⟩
theorem nmD_dp {K : PySem.W.Frag} {H : Hp} {a : Addr} {n : Nm} (h : H a = some (.tup (nmV n))) : Dp K H (.ref a) (nmD n) := .tup (SqT.of h) (.cons (.int _) (.cons (.int _) (.cons (.str _) .nil)))
theorem pgs_keyd {K : PySem.W.Frag} {H : Hp} : ∀ {ps : List Addr} {gs : List Pg}, Pgs H ps gs → Keyd (fun v k => ∃ t ys y, v = .ref t ∧ SqT K H t ys ∧ ys[0]? = some y ∧ Dp K H y k) (ps.map V.ref) ((gs.map (·.1)).map nmD)
  | _, _, .nil => .nil
  | _, _, .cons a b => by
    obtain ⟨n, t, h1, h2, h3⟩ := a
    exact .cons ⟨_, _, _, rfl, SqT.of h1, rfl, nmD_dp h2⟩ (pgs_keyd b)
def spBook (P : Addr) : Sp := fun vs H Q _ => ∃ (l : Addr) (qs : List Addr) (gs : List Pg), vs = [.ref l] ∧ H l = some (.lst (qs.map V.ref)) ∧ Pgs H qs gs ∧ gs.length ≤ 100 ∧ TabL H P qBook ∧
  ∀ (t : Addr) (H' : Hp), But P H H' → TabL H' P qBook → H t = none → BkAt H' t (bookL gs) → Q (.ref t) H'
theorem Tk.of_but {H H' : Hp} {P : Addr} {φ : Heap → Prop} (hP : H P = some (.ext φ)) (b : But P H H') : Tk H H' := fun a xs e => b _ _ (fun z => by rw [z, hP] at e; cases e) e
/-! roads in a dict -/
def edK (e : Ed) : List Key := [Sum.inr e.1, Sum.inr e.2]
theorem edK_inj {a b : Ed} (h : edK a = edK b) : a = b := by
  obtain ⟨a1, a2⟩ := a
  obtain ⟨b1, b2⟩ := b
  simp only [edK, List.cons.injEq, Sum.inr.injEq, and_true] at h
  obtain ⟨rfl, rfl⟩ := h
  rfl
theorem keyD_ed (e : Ed) : keyD (edK e) = edD e := rfl
theorem keyD_nm (n : Nm) : keyD (nmKey n) = nmD n := rfl
theorem put_keys {κ : Type} [DecidableEq κ] (kvs : List (κ × V)) (k : κ) (v : V) : (putK kvs k v).map (·.1) = if k ∈ kvs.map (·.1) then kvs.map (·.1) else kvs.map (·.1) ++ [k] := by
  have e : (kvs.any fun kv => decide (kv.1 = k)) = true ↔ k ∈ kvs.map (·.1) := by
    rw [List.any_eq_true, List.mem_map]
    constructor
    · rintro ⟨x, hx, h⟩
      exact ⟨x, hx, of_decide_eq_true h⟩
    · rintro ⟨x, hx, h⟩
      exact ⟨x, hx, decide_eq_true h⟩
  unfold putK
  by_cases c : k ∈ kvs.map (·.1)
  · rw [if_pos (e.mpr c), if_pos c, List.map_map]
    apply List.map_congr_left
    intro x _
    show (if x.1 = k then (x.1, v) else x).1 = x.1
    split <;> rfl
  · rw [if_neg (fun z => c (e.mp z)), if_neg c, List.map_append]
    rfl
/-- the dict's keys, in their order -/
def KeyL {α : Type} (key : α → List Key) (kvs : List (List Key × V)) (es : List α) : Prop := kvs.map (·.1) = es.map key
theorem KeyL.put {α : Type} [DecidableEq α] {key : α → List Key} (inj : ∀ a b, key a = key b → a = b) {kvs : List (List Key × V)} {es : List α} (h : KeyL key kvs es) (e : α) (v : V) : KeyL key (putK kvs (key e) v) (if e ∈ es then es else es ++ [e]) := by
  unfold KeyL at *
  rw [put_keys, h]
  have z : key e ∈ es.map key ↔ e ∈ es := by
    rw [List.mem_map]
    exact ⟨fun ⟨x, hx, k⟩ => inj _ _ k ▸ hx, fun k => ⟨e, k, rfl⟩⟩
  by_cases c : e ∈ es
  · rw [if_pos (z.mpr c), if_pos c]
  · rw [if_neg (fun k => c (z.mp k)), if_neg c, List.map_append]
    rfl
theorem KeyL.drop {α : Type} [DecidableEq α] {key : α → List Key} (inj : ∀ a b, key a = key b → a = b) : ∀ {kvs : List (List Key × V)} {es : List α}, KeyL key kvs es → ∀ e : α, KeyL key (dropK kvs (key e)) (es.filter fun x => decide (x ≠ e))
  | [], [], _, e => rfl
  | [], x :: es, h, e => nomatch h
  | p :: kvs, [], h, e => nomatch h
  | p :: kvs, x :: es, h, e => by
    have h1 : p.1 = key x := by
      have z : p.1 :: kvs.map (·.1) = key x :: es.map key := h
      injection z
    have h2 : kvs.map (·.1) = es.map key := by
      have z : p.1 :: kvs.map (·.1) = key x :: es.map key := h
      injection z
    have ih := KeyL.drop inj h2 e
    unfold KeyL dropK at *
    rw [List.filter_cons, List.filter_cons]
    by_cases c : x = e
    · rw [if_neg (by rw [h1, c]; simp), if_neg (by simp [c])]
      exact ih
    · rw [if_pos (by rw [h1]; simpa using fun k => c (inj _ _ k)), if_pos (by simpa using c), List.map_cons, List.map_cons, h1, ih]
theorem KeyL.val {α : Type} {key : α → List Key} {kvs : List (List Key × V)} {es : List α} (h : KeyL key kvs es) {e : α} (he : e ∈ es) : ∃ v, valV kvs (key e) = some v := by
  have z : key e ∈ kvs.map (·.1) := by rw [h]; exact List.mem_map.mpr ⟨e, he, rfl⟩
  obtain ⟨x, hx, k⟩ := List.mem_map.mp z
  have y : (kvs.any fun kv => decide (kv.1 = key e)) = true := List.any_eq_true.mpr ⟨x, hx, decide_eq_true k⟩
  rw [valV_any] at y
  exact Option.isSome_iff_exists.mp y
theorem KeyL.len {α : Type} {key : α → List Key} {kvs : List (List Key × V)} {es : List α} (h : KeyL key kvs es) : kvs.length = es.length := by
  have z := congrArg List.length h
  rw [List.length_map, List.length_map] at z
  exact z
theorem keys_rds {H : Hp} : ∀ {as : List Addr} {es : List Ed}, KeysAt H as (es.map edK) → Rds H as es
  | [], [], _ => .nil
  | a :: as, e :: es, .cons h t => .cons h (keys_rds t)
theorem keys_nms {H : Hp} : ∀ {as : List Addr} {es : List Nm}, KeysAt H as (es.map nmKey) → Nms H as es
  | [], [], _ => .nil
  | a :: as, e :: es, .cons h t => .cons h (keys_nms t)
theorem sort_strsE (xs : List Str) : ∃ ys : List Str, sortD (xs.map V.str) (xs.map .str) = ys.map V.str ∧ ys.length = xs.length ∧ ∀ y ∈ ys, y ∈ xs := by
  have e1 : ((xs.map V.str).zip (xs.map PyData.str)) = xs.map fun x => (V.str x, PyData.str x) := by
    induction xs with
    | nil => rfl
    | cons x xs ih => rw [List.map_cons, List.map_cons, List.zip_cons_cons, ih]; rfl
  have z := PySem.W.sort_maps (r := PySem.W.dataLe false fun x : Str => PyData.str x) (s := PySem.W.dataLe false Prod.snd) (l := xs) (fun x : Str => (V.str x, PyData.str x)) (fun _ _ _ _ => rfl)
  refine ⟨xs.mergeSort (PySem.W.dataLe false fun x : Str => PyData.str x), ?_, List.length_mergeSort _, fun y hy => List.mem_mergeSort.mp hy⟩
  unfold sortD
  rw [e1, ← z, List.map_map]
  rfl
theorem two_of {d : Int} (h0 : 0 ≤ d) (h1 : d < 2) : ∃ k : Int, 1 ≤ k ∧ k ≤ 1000000 ∧ atI [V.int 9, .int (10 ^ (6 : Int).toNat)] d = some (.int k) := by
  rcases (show d = 0 ∨ d = 1 by omega) with rfl | rfl
  · exact ⟨9, by decide, by decide, rfl⟩
  · exact ⟨10 ^ (6 : Int).toNat, by decide, by decide, rfl⟩
theorem tkmut {H : Hp} {D : Addr} {xs : List V} {o : HO} (h : H D = some (.lst xs)) : Tk H (upd H D o) := fun a ys e => (upd_ne (ne_of e h fun z => nomatch z)).trans e
theorem Wts.app1 {H : Hp} : ∀ {ps : List Addr} {ws : List Wt} {p : Addr} {w : Wt}, Wts H ps ws → H p = some (.tup (wtV w)) → Wts H (ps ++ [p]) (ws ++ [w])
  | _, _, _, _, .nil, h => .cons h .nil
  | _, _, _, _, .cons a b, h => .cons a (Wts.app1 b h)
theorem atI_some2 {xs : List V} {i : Int} (h0 : 0 ≤ i) (h1 : i < xs.length) : ∃ v, atI xs i = some v ∧ v ∈ xs := by
  obtain ⟨k, rfl⟩ : ∃ k : Nat, i = k := ⟨i.toNat, by omega⟩
  have hk : k < xs.length := by omega
  exact ⟨xs[k], atI_nat (List.getElem?_eq_getElem hk), List.getElem_mem hk⟩
/-! what each page is, by the law's own words -/
def w1 (gs : List Pg) (g : Pg) : Str := if wOf g.2 = wVoid then (("void" : String) : Str) else if g.1 ∈ voids gs then (("voided" : String) : Str) else (("counted" : String) : Str)
def lawW (gs : List Pg) (g : Pg) : Str := match g.2 with
  | .rd m _ => if w1 gs g = (("counted" : String) : Str) ∧ cbB gs m = false then (("waits" : String) : Str) else w1 gs g
  | _ => w1 gs g
theorem voids_mem {gs : List Pg} {n : Nm} : n ∈ voids gs ↔ ∃ g ∈ gs, n ∈ voidOf g.2 := by
  induction gs with
  | nil => simp [voids]
  | cons g gs ih =>
    show n ∈ voids gs ++ voidOf g.2 ↔ _
    rw [List.mem_append, ih]
    constructor
    · rintro (⟨x, hx, k⟩ | k)
      · exact ⟨x, List.mem_cons_of_mem _ hx, k⟩
      · exact ⟨g, List.mem_cons_self, k⟩
    · rintro ⟨x, hx, k⟩
      rcases List.mem_cons.mp hx with rfl | hx
      · exact .inr k
      · exact .inl ⟨x, hx, k⟩
theorem voids_perm {a b : List Pg} (h : a.Perm b) (n : Nm) : n ∈ voids a ↔ n ∈ voids b := by
  rw [voids_mem, voids_mem]
  exact ⟨fun ⟨g, hg, k⟩ => ⟨g, h.mem_iff.mp hg, k⟩, fun ⟨g, hg, k⟩ => ⟨g, h.mem_iff.mpr hg, k⟩⟩
theorem cbB_perm {a b : List Pg} (h : a.Perm b) (n : Nm) : cbB a n = cbB b n := by
  have v := voids_perm h n
  rw [Bool.eq_iff_iff]
  unfold cbB
  rw [List.any_eq_true, List.any_eq_true]
  have e : decide (n ∈ voids a) = decide (n ∈ voids b) := decide_eq_decide.mpr v
  rw [e]
  exact ⟨fun ⟨g, hg, k⟩ => ⟨g, h.mem_iff.mp hg, k⟩, fun ⟨g, hg, k⟩ => ⟨g, h.mem_iff.mpr hg, k⟩⟩
theorem cbB_iff {gs : List Pg} {n : Nm} : cbB gs n = true ↔ ∃ g ∈ gs, g.1 = n ∧ isBag g.2 = true ∧ n ∉ voids gs := by
  unfold cbB
  rw [List.any_eq_true]
  constructor
  · rintro ⟨g, hg, k⟩
    simp only [Bool.and_eq_true, decide_eq_true_eq, Bool.not_eq_true', decide_eq_false_iff_not] at k
    exact ⟨g, hg, k.1, k.2.1, k.2.2⟩
  · rintro ⟨g, hg, k1, k2, k3⟩
    exact ⟨g, hg, by simp [k1, k2, k3]⟩
/-- the program's word and the law's -/
def wordOf (w : Str) : Str := if w = (("waits" : String) : Str) then (("waiting" : String) : Str) else w
theorem stand_law {a gs : List Pg} (h : a.Perm gs) (g : Pg) : standS a g = wordOf (lawW gs g) := by
  have v := voids_perm h g.1
  have n1 : (("void" : String) : Str) ≠ (("waits" : String) : Str) := by decide +kernel
  have n2 : (("voided" : String) : Str) ≠ (("waits" : String) : Str) := by decide +kernel
  have n3 : (("counted" : String) : Str) ≠ (("waits" : String) : Str) := by decide +kernel
  have n4 : (("void" : String) : Str) ≠ (("counted" : String) : Str) := by decide +kernel
  have n5 : (("voided" : String) : Str) ≠ (("counted" : String) : Str) := by decide +kernel
  unfold standS
  by_cases c1 : wOf g.2 = wVoid
  · rw [if_pos c1]
    obtain ⟨m, e⟩ := wOf_void c1
    unfold lawW w1
    rw [e]
    show wVoid = wordOf (if wVoid = wVoid then _ else _)
    rw [if_pos rfl]
    unfold wordOf
    rw [if_neg n1]
    rfl
  · rw [if_neg c1]
    by_cases c2 : g.1 ∈ voids a
    · rw [if_pos c2]
      have e : w1 gs g = (("voided" : String) : Str) := by
        unfold w1
        rw [if_neg c1, if_pos (v.mp c2)]
      have e2 : lawW gs g = (("voided" : String) : Str) := by
        unfold lawW
        split
        · rw [if_neg (fun z => n5 (e ▸ z.1)), e]
        · exact e
      rw [e2]
      unfold wordOf
      rw [if_neg n2]
    · rw [if_neg c2]
      have e : w1 gs g = (("counted" : String) : Str) := by
        unfold w1
        rw [if_neg c1, if_neg (fun z => c2 (v.mpr z))]
      unfold lawW
      cases hg : g.2 with
      | rd m rs =>
        show (if cbB a m = true then _ else _) = wordOf (if _ then _ else _)
        rw [cbB_perm h m, e]
        by_cases c3 : cbB gs m = true
        · rw [if_pos c3, if_neg (fun z => by rw [c3] at z; exact nomatch z.2)]
          unfold wordOf
          rw [if_neg n3]
        · rw [if_neg c3, if_pos ⟨rfl, by simpa using c3⟩]
          unfold wordOf
          rw [if_pos rfl]
      | mv a b rs => show _ = wordOf (w1 gs g); rw [e]; unfold wordOf; rw [if_neg n3]
      | bag a b n => show _ = wordOf (w1 gs g); rw [e]; unfold wordOf; rw [if_neg n3]
      | ct a n => show _ = wordOf (w1 gs g); rw [e]; unfold wordOf; rw [if_neg n3]
      | vd m => show _ = wordOf (w1 gs g); rw [e]; unfold wordOf; rw [if_neg n3]
def dueN (gs : List Pg) (w : Str) : List Nm := ((bookL gs).filter fun g => decide (lawW gs g = w)).map (·.1)
def spSorts : Sp := fun vs H Q _ => ∃ (l : Addr) (qs : List Addr) (gs : List Pg), vs = [.ref l] ∧ H l = some (.lst (qs.map V.ref)) ∧ Pgs H qs gs ∧ gs.length ≤ 100 ∧ (gs.map (·.1)).Nodup ∧
  ∀ (d : Addr) (kvs : List (List Key × V)) (H' : Hp), Same H H' → H d = none → H' d = some (.dT kvs) → KeyL nmKey kvs (gs.map (·.1)) → (∀ g ∈ gs, valV kvs (nmKey g.1) = some (.str (lawW gs g))) → Q (.ref d) H'
theorem names_nth {gs : List Pg} (nd : (gs.map (·.1)).Nodup) {i j : Nat} {g h : Pg} (hi : gs[i]? = some g) (hj : gs[j]? = some h) (e : g.1 = h.1) : i = j := by
  obtain ⟨l1, e1⟩ := List.getElem?_eq_some_iff.mp hi
  obtain ⟨l2, e2⟩ := List.getElem?_eq_some_iff.mp hj
  have a1 : i < (gs.map (·.1)).length := by rw [List.length_map]; exact l1
  have a2 : j < (gs.map (·.1)).length := by rw [List.length_map]; exact l2
  have z : (gs.map (·.1))[i] = (gs.map (·.1))[j] := by
    rw [List.getElem_map, List.getElem_map, e1, e2]
    exact e
  have pw := List.pairwise_iff_getElem.mp nd
  rcases Nat.lt_trichotomy i j with lt | eq | gt
  · exact absurd z (pw i j a1 a2 lt)
  · exact eq
  · exact absurd z.symm (pw j i a2 a1 gt)
theorem name_new {gs : List Pg} (nd : (gs.map (·.1)).Nodup) {i : Nat} {g : Pg} (hi : gs[i]? = some g) : g.1 ∉ (gs.take i).map (·.1) := fun z => by
  obtain ⟨h, hh, e⟩ := List.mem_map.mp z
  obtain ⟨j, hj⟩ := List.mem_iff_getElem?.mp hh
  have lj : j < i := by
    have := (List.getElem?_eq_some_iff.mp hj).1
    rw [List.length_take] at this
    omega
  rw [List.getElem?_take_of_lt lj] at hj
  have := names_nth nd hi hj e.symm
  omega
theorem take_names {gs : List Pg} {i : Nat} {g : Pg} (hi : gs[i]? = some g) : (gs.take (i + 1)).map (·.1) = (gs.take i).map (·.1) ++ [g.1] := by
  obtain ⟨l1, e1⟩ := List.getElem?_eq_some_iff.mp hi
  rw [List.take_succ_eq_append_getElem l1, e1, List.map_append]
  rfl
theorem w1_bag {gs : List Pg} {g : Pg} (h : isBag g.2 = true) : (w1 gs g = (("counted" : String) : Str)) ↔ g.1 ∉ voids gs := by
  have n5 : (("voided" : String) : Str) ≠ (("counted" : String) : Str) := by decide +kernel
  have nv : wOf g.2 ≠ wVoid := fun z => by
    rw [wOf_bag.mpr h] at z
    exact absurd z (by decide +kernel)
  unfold w1
  rw [if_neg nv]
  by_cases c : g.1 ∈ voids gs
  · rw [if_pos c]
    exact ⟨fun z => absurd z n5, fun z => absurd c z⟩
  · rw [if_neg c]
    exact ⟨fun _ => c, fun _ => rfl⟩
def spDueS : Sp := fun vs H Q _ => ∃ (l : Addr) (w : Str) (qs : List Addr) (gs : List Pg), vs = [.ref l, .str w] ∧ H l = some (.lst (qs.map V.ref)) ∧ Pgs H qs gs ∧ gs.length ≤ 100 ∧ (gs.map (·.1)).Nodup ∧
  ∀ (t : Addr) (rs : List Addr) (H' : Hp), Same H H' → H t = none → H' t = some (.tup (rs.map V.ref)) → Nms H' rs (dueN gs w) → Q (.ref t) H'
theorem book_names (gs : List Pg) : (gs.map (·.1)).mergeSort (PySem.W.dataLe false nmD) = (bookL gs).map (·.1) := by
  have z := PySem.W.sort_maps (r := PySem.W.dataLe false fun g : Pg => nmD g.1) (s := PySem.W.dataLe false nmD) (l := gs) (fun g : Pg => g.1) (fun _ _ _ _ => rfl)
  exact z.symm
theorem filter_takeP {gs : List Pg} {p : Pg → Bool} {j : Nat} {g : Pg} (h : gs[j]? = some g) : (gs.take (j + 1)).filter p = (gs.take j).filter p ++ (if p g = true then [g] else []) := by
  obtain ⟨hl, e⟩ := List.getElem?_eq_some_iff.mp h
  rw [List.take_succ_eq_append_getElem hl, List.filter_append, e]
  congr 1
  by_cases c : p g = true
  · rw [if_pos c]
    simp [c]
  · rw [if_neg c]
    simp [c]
theorem that_due (gs : List Pg) (w : Str) (hw : ∀ g, (standS (bookL gs) g = wordOf w) ↔ lawW gs g = w) : (thatL (bookL gs) (wordOf w)).map (·.1) = dueN gs w := by
  unfold thatL dueN
  congr 2
  funext g
  exact decide_eq_decide.mpr (hw g)
theorem words_of {gs : List Pg} {w : Str} (h : w = (("counted" : String) : Str) ∨ w = (("waits" : String) : Str) ∨ w = (("voided" : String) : Str)) (g : Pg) : (standS (bookL gs) g = wordOf w) ↔ lawW gs g = w := by
  rw [stand_law (bookL_perm gs) g]
  have n1 : (("void" : String) : Str) ≠ (("waits" : String) : Str) := by decide +kernel
  have n2 : (("voided" : String) : Str) ≠ (("waits" : String) : Str) := by decide +kernel
  have n3 : (("counted" : String) : Str) ≠ (("waits" : String) : Str) := by decide +kernel
  have n4 : (("waiting" : String) : Str) ≠ (("counted" : String) : Str) := by decide +kernel
  have n5 : (("waiting" : String) : Str) ≠ (("voided" : String) : Str) := by decide +kernel
  have n6 : (("waiting" : String) : Str) ≠ (("void" : String) : Str) := by decide +kernel
  have ws : lawW gs g = (("counted" : String) : Str) ∨ lawW gs g = (("waits" : String) : Str) ∨ lawW gs g = (("voided" : String) : Str) ∨ lawW gs g = (("void" : String) : Str) := by
    have w1s : w1 gs g = (("counted" : String) : Str) ∨ w1 gs g = (("voided" : String) : Str) ∨ w1 gs g = (("void" : String) : Str) := by
      unfold w1
      split
      · exact .inr (.inr rfl)
      · split
        · exact .inr (.inl rfl)
        · exact .inl rfl
    unfold lawW
    split
    · split
      · exact .inr (.inl rfl)
      · rcases w1s with e | e | e <;> rw [e] <;> simp
    · rcases w1s with e | e | e <;> rw [e] <;> simp
  have f : ∀ v : Str, v ≠ (("waits" : String) : Str) → wordOf v = v := fun v hv => by
    unfold wordOf
    rw [if_neg hv]
  have f0 : wordOf (("waits" : String) : Str) = (("waiting" : String) : Str) := by
    unfold wordOf
    rw [if_pos rfl]
  rcases h with rfl | rfl | rfl <;> rcases ws with e | e | e | e <;> rw [e] <;> simp only [f _ n1, f _ n2, f _ n3, f0]
  · exact ⟨fun z => absurd z n4, fun z => absurd z.symm n3⟩
  · exact ⟨fun z => absurd z.symm n4, fun z => absurd z n3⟩
  · exact ⟨fun z => absurd z.symm n5, fun z => absurd z n2⟩
  · exact ⟨fun z => absurd z.symm n6, fun z => absurd z n1⟩
  · exact ⟨fun z => absurd z n5, fun z => absurd z.symm n2⟩
def XB (f P : Addr) (H H' : Hp) : Prop := ∀ a o, a ≠ f → a ≠ P → H a = some o → H' a = some o
theorem XB.trans {f P : Addr} {H H1 H2 : Hp} (a : XB f P H H1) (b : XB f P H1 H2) : XB f P H H2 := fun x o n m e => b x o n m (a x o n m e)
theorem XB.of_f {f P : Addr} {H H' : Hp} (b : But f H H') : XB f P H H' := fun x o n _ e => b x o n e
theorem XB.of_P {f P : Addr} {H H' : Hp} (b : But P H H') : XB f P H H' := fun x o _ m e => b x o m e
theorem Fe.butP {H H' : Hp} {f c P : Addr} {n : Int} {φ : Heap → Prop} (hP : H P = some (.ext φ)) (b : But P H H') (h : Fe H f c n) : Fe H' f c n := by
  obtain ⟨cells, k, g, h1, h2, h3⟩ := h
  exact ⟨cells, k, g, b _ _ (ne_of h1 hP fun z => nomatch z) h1, b _ _ (ne_of h2 hP fun z => nomatch z) h2, h3⟩
theorem TabL.butE {H H' : Hp} {f c P : Addr} {n : Int} {q : Str} (hf : Fe H f c n) (b : But f H H') (h : TabL H P q) : TabL H' P q := by
  obtain ⟨zs, hz⟩ := hf.at
  exact h.stay fun a φ e => b _ _ (ne_of e hz fun z => nomatch z) e
theorem Tk.xb {H H' : Hp} {f c P : Addr} {n : Int} {q : Str} (hf : Fe H f c n) (hT : TabL H P q) (b : XB f P H H') : Tk H H' := fun a xs e => by
  obtain ⟨zs, hz⟩ := hf.at
  obtain ⟨φ, hP⟩ := hT.at
  exact b _ _ (ne_of e hz fun z => nomatch z) (ne_of e hP fun z => nomatch z) e
theorem cut_memE {xs : List V} {lo hi : Option Int} {v : V} (h : v ∈ cutV xs lo hi) : v ∈ xs := List.mem_of_mem_drop (List.mem_of_mem_take h)
def gW3 : List Str := [(("counted" : String) : Str), (("waits" : String) : Str), (("voided" : String) : Str)]
theorem names_nice {ns : List Nm} (h : ns.length ≤ 100000) : Nice 2 (.tuple (ns.map nmD)) := by
  refine Or.inr ⟨_, Or.inr rfl, by rw [List.length_map]; exact h, fun e he => ?_⟩
  obtain ⟨r, _, rfl⟩ := List.mem_map.mp he
  refine Or.inr ⟨_, Or.inr rfl, (show 3 ≤ 100000 by decide), fun e he => ?_⟩
  simp only [List.mem_cons, List.not_mem_nil, or_false] at he
  rcases he with rfl | rfl | rfl <;> exact Nice.flat rfl
def spRightS (P : Addr) : Sp := fun vs H Q _ => ∃ (f c l : Addr) (n : Int) (qs : List Addr) (gs : List Pg), vs = [.ref f, .ref l] ∧ Fe H f c n ∧ n ≤ 900000 ∧ H l = some (.lst (qs.map V.ref)) ∧ l ≠ f ∧ Pgs H qs gs ∧ gs.length ≤ 60 ∧ (gs.map (·.1)).Nodup ∧ TabL H P qBook ∧
  ∀ H', Fe H' f c (n + 1) → XB f P H H' → TabL H' P qBook → Q (.bl true) H'
/-! ### tracked tuples: slices, sums -/
theorem cut_whole {xs : List V} {lo hi : Option Int} (h : HT.sIx xs.length 0 lo = 0 ∧ HT.sIx xs.length xs.length hi = xs.length) : cutV xs lo hi = xs := by
  unfold cutV
  rw [h.1, h.2, List.drop_zero, Nat.sub_zero, List.take_length]
theorem cut_mem {xs : List V} {lo hi : Option Int} {v : V} (h : v ∈ cutV xs lo hi) : v ∈ xs := List.mem_of_mem_drop (List.mem_of_mem_take h)
def rSlTk : V → Option Int → Option Int → Hp → VK → Prop := fun x lo hi H Q => ∃ a xs, x = .ref a ∧ H a = some (.tup xs) ∧ ∀ p H', Same H H' → H' p = some (.tup (cutV xs lo hi)) → Q (.ref p) H'
theorem sl_tupTk {X : Cx} : SlR X rSlTk := by
  intro pins s σ H x v vl vu lo hi sl Q I rx hs pl pu h
  obtain ⟨a, xs, rfl, hx, q⟩ := h
  exact sl_tupA pins s σ H _ v vl vu lo hi sl Q I rx hs pl pu ⟨a, xs, rfl, SqT.of hx, fun e => q a H (Same.refl _) (by rw [cut_whole e]; exact hx), fun _ p hp => q p _ (same_new hp _) upd_same⟩
def rCatTk : R2 := fun x y H Q => ∃ a b xs ys, x = .ref a ∧ y = .ref b ∧ H a = some (.tup xs) ∧ H b = some (.tup ys) ∧ xs.length + ys.length ≤ sizeLine ∧ ∀ p H', Same H H' → H' p = some (.tup (xs ++ ys)) → Q (.ref p) H'
theorem op_catTk {X : Cx} : OpR X (binaryOp .Add) rCatTk := by
  intro pins s σ H x y v u Q I rx ry h
  obtain ⟨a, b, xs, ys, rfl, rfl, ha, hb, hl, q⟩ := h
  refine op_catA pins s σ H _ _ v u Q I rx ry ⟨a, b, xs, ys, rfl, rfl, SqT.of ha, SqT.of hb, hl, fun e => ?_, fun _ e => ?_, fun _ _ p hp => ?_⟩
  · subst e
    exact q b H (Same.refl _) hb
  · subst e
    exact q a H (Same.refl _) (by rw [List.append_nil]; exact ha)
  · exact q p _ (same_new hp _) upd_same
/-! ### steps of notes: rows of moves and reads, sorted by their names -/
def hasR (rs : List Rn) (s : Str) (n : Int) : Bool := rs.any fun r => decide (r.1 = s) && (decide (r.2.1 ≤ n) && decide (n < r.2.2))
abbrev Stp := Nm × Str × Str × Nm × List Rn
def StAt (H : Hp) (p : Addr) (s : Stp) : Prop := ∃ a b u : Addr, H p = some (.tup [.ref a, .str s.2.1, .str s.2.2.1, .ref b, .ref u]) ∧ H a = some (.tup (nmV s.1)) ∧ H b = some (.tup (nmV s.2.2.2.1)) ∧ RnsT H u s.2.2.2.2
abbrev Sts (H : Hp) (ps : List Addr) (ss : List Stp) : Prop := Paired (StAt H) ps ss
/-- a row without its runs -/
def S4At (H : Hp) (p : Addr) (s : Stp) : Prop := ∃ a b : Addr, H p = some (.tup [.ref a, .str s.2.1, .str s.2.2.1, .ref b]) ∧ H a = some (.tup (nmV s.1)) ∧ H b = some (.tup (nmV s.2.2.2.1))
abbrev S4s (H : Hp) (ps : List Addr) (ss : List Stp) : Prop := Paired (S4At H) ps ss
theorem StAt.tk {H H' : Hp} {p : Addr} {s : Stp} (t : Tk H H') (h : StAt H p s) : StAt H' p s := by
  obtain ⟨a, b, u, h1, h2, h3, h4⟩ := h
  exact ⟨a, b, u, t _ _ h1, t _ _ h2, t _ _ h3, h4.tk t⟩
theorem S4At.tk {H H' : Hp} {p : Addr} {s : Stp} (t : Tk H H') (h : S4At H p s) : S4At H' p s := by
  obtain ⟨a, b, h1, h2, h3⟩ := h
  exact ⟨a, b, t _ _ h1, t _ _ h2, t _ _ h3⟩
theorem paired_imp {α β : Type} {F G : α → β → Prop} (f : ∀ a b, F a b → G a b) : ∀ {as : List α} {bs : List β}, Paired F as bs → Paired G as bs
  | _, _, .nil => .nil
  | _, _, .cons a b => .cons (f _ _ a) (paired_imp f b)
theorem Sts.tk {H H' : Hp} {ps : List Addr} {ss : List Stp} (t : Tk H H') (h : Sts H ps ss) : Sts H' ps ss := paired_imp (fun _ _ => StAt.tk t) h
theorem S4s.tk {H H' : Hp} {ps : List Addr} {ss : List Stp} (t : Tk H H') (h : S4s H ps ss) : S4s H' ps ss := paired_imp (fun _ _ => S4At.tk t) h
theorem paired_len {α β : Type} {F : α → β → Prop} : ∀ {as : List α} {bs : List β}, Paired F as bs → as.length = bs.length
  | _, _, .nil => rfl
  | _, _, .cons _ b => congrArg (· + 1) (paired_len b)
theorem paired_get {α β : Type} {F : α → β → Prop} : ∀ {as : List α} {bs : List β} {i : Nat} {a : α}, Paired F as bs → as[i]? = some a → ∃ b, bs[i]? = some b ∧ F a b
  | _, _, 0, _, .cons a _, h => by
    cases h
    exact ⟨_, rfl, a⟩
  | _, _, i + 1, p, .cons _ b, h => paired_get (i := i) (a := p) b h
theorem paired_snoc {α β : Type} {F : α → β → Prop} : ∀ {as : List α} {bs : List β} {a : α} {b : β}, Paired F as bs → F a b → Paired F (as ++ [a]) (bs ++ [b])
  | _, _, _, _, .nil, h => .cons h .nil
  | _, _, _, _, .cons a b, h => .cons a (paired_snoc b h)
/-! the rows -/
def abOf : Dd → Str × Str
  | .bag a b _ => (a, b)
  | _ => (default, default)
def abN (gs : List Pg) (m : Nm) : Str × Str := match gs.find? fun g => decide (g.1 = m) with
  | some g => abOf g.2
  | none => (default, default)
theorem abN_of {gs : List Pg} (nd : (gs.map (·.1)).Nodup) {g : Pg} (hg : g ∈ gs) : abN gs g.1 = abOf g.2 := by
  unfold abN
  cases e : gs.find? fun x => decide (x.1 = g.1) with
  | none => exact absurd (decide_eq_true rfl) (List.find?_eq_none.mp e g hg)
  | some x =>
    have h1 : x.1 = g.1 := by
      have z := List.find?_some e
      exact of_decide_eq_true z
    have h2 := List.mem_of_find?_eq_some e
    obtain ⟨i, hi⟩ := List.mem_iff_getElem?.mp h2
    obtain ⟨j, hj⟩ := List.mem_iff_getElem?.mp hg
    have ij := names_nth nd hi hj h1
    rw [ij, hj] at hi
    cases hi
    rfl
theorem abN_perm {as gs : List Pg} (p : as.Perm gs) (nd : (gs.map (·.1)).Nodup) (m : Nm) : abN as m = abN gs m := by
  have nd2 : (as.map (·.1)).Nodup := (p.map _).nodup_iff.mpr nd
  by_cases c : ∃ g ∈ gs, g.1 = m
  · obtain ⟨g, hg, rfl⟩ := c
    rw [abN_of nd hg, abN_of nd2 (p.mem_iff.mpr hg)]
  · have z : ∀ l : List Pg, (∀ g ∈ l, g ∈ gs) → (l.find? fun g => decide (g.1 = m)) = none := fun l hl => List.find?_eq_none.mpr fun g hg h => c ⟨g, hl g hg, of_decide_eq_true h⟩
    unfold abN
    rw [z as fun g hg => p.mem_iff.mp hg, z gs fun g hg => hg]
def stp (gs : List Pg) (g : Pg) : List Stp := match g.2 with
  | .mv a b rs => [(g.1, a, b, g.1, rs)]
  | .rd m rs => [(m, (abN gs m).1, (abN gs m).2, g.1, rs)]
  | _ => []
theorem stp_len (gs : List Pg) (g : Pg) : (stp gs g).length ≤ 1 := by
  unfold stp
  split <;> simp
theorem stp_nm {gs : List Pg} {g : Pg} {s : Stp} (h : s ∈ stp gs g) : s.2.2.2.1 = g.1 := by
  unfold stp at h
  split at h
  · rw [List.mem_singleton.mp h]
  · rw [List.mem_singleton.mp h]
  · exact nomatch h
theorem stp_perm {as gs : List Pg} (p : as.Perm gs) (nd : (gs.map (·.1)).Nodup) : stp as = stp gs := by
  funext g
  unfold stp
  split
  · rfl
  · rw [abN_perm p nd]
  · rfl
def wCd : Str := (("counted" : String) : Str)
def rowsP (bs : List Pg) : List Stp := (thatL bs wCd).flatMap (stp bs)
def rowsL (gs : List Pg) : List Stp := (gs.filter fun g => decide (lawW gs g = wCd)).flatMap (stp gs)
theorem stand_counted {bs gs : List Pg} (p : bs.Perm gs) (g : Pg) : (standS bs g = wCd) ↔ lawW gs g = wCd := by
  have e : standS bs g = standS (bookL gs) g := by rw [stand_law p g, stand_law (bookL_perm gs) g]
  have w := words_of (gs := gs) (w := wCd) (.inl rfl) g
  have f : wordOf wCd = wCd := by
    unfold wordOf
    rw [if_neg (show wCd ≠ (("waits" : String) : Str) by decide +kernel)]
  rw [f] at w
  rw [e]
  exact w
theorem rows_perm {bs gs : List Pg} (p : bs.Perm gs) (nd : (gs.map (·.1)).Nodup) : (rowsP bs).Perm (rowsL gs) := by
  unfold rowsP rowsL
  rw [stp_perm p nd]
  refine List.Perm.flatMap_right _ ?_
  unfold thatL
  have e : (fun g => decide (standS bs g = wCd)) = fun g => decide (lawW gs g = wCd) := by
    funext g
    exact decide_eq_decide.mpr (stand_counted p g)
  rw [e]
  exact p.filter _
/-- rows of one page are alike -/
theorem flat_one {gs : List Pg} : ∀ {l : List Pg}, (l.map (·.1)).Nodup → ∀ {x y : Stp}, x ∈ l.flatMap (stp gs) → y ∈ l.flatMap (stp gs) → x.2.2.2.1 = y.2.2.2.1 → x = y := by
  intro l nd x y hx hy e
  obtain ⟨g, hg, kx⟩ := List.mem_flatMap.mp hx
  obtain ⟨h, hh, ky⟩ := List.mem_flatMap.mp hy
  obtain ⟨i, hi⟩ := List.mem_iff_getElem?.mp hg
  obtain ⟨j, hj⟩ := List.mem_iff_getElem?.mp hh
  have ij := names_nth nd hi hj (by rw [← stp_nm kx, ← stp_nm ky, e])
  rw [ij, hj] at hi
  cases hi
  have l1 := stp_len gs g
  match h1 : stp gs g with
  | [] => rw [h1] at kx; exact nomatch kx
  | [z] =>
    rw [h1] at kx ky
    rw [List.mem_singleton.mp kx, List.mem_singleton.mp ky]
  | _ :: _ :: _ => rw [h1] at l1; simp at l1
def keyS (s : Stp) : PyData := .tuple [nmD s.1, nmD s.2.2.2.1]
def sortS (l : List Stp) : List Stp := l.mergeSort (PySem.W.dataLe false keyS)
theorem keyS_inj {x y : Stp} (h : PySem.W.keyToks (keyS x) = PySem.W.keyToks (keyS y)) : x.2.2.2.1 = y.2.2.2.1 := by
  obtain ⟨⟨x1, x2, x3⟩, xa, xb, ⟨x4, x5, x6⟩, xr⟩ := x
  obtain ⟨⟨y1, y2, y3⟩, ya, yb, ⟨y4, y5, y6⟩, yr⟩ := y
  simp only [keyS, nmD, PySem.W.keyToks, PySem.W.keyToksAll, List.cons_append, List.nil_append, List.cons.injEq, Sum.inl.injEq, Sum.inr.injEq, true_and, and_true] at h
  obtain ⟨_, _, _, rfl, rfl, h⟩ := h
  rw [PySem.W.str_of_cps h]
theorem sortS_uniq {l1 l2 : List Stp} (p : l1.Perm l2) (h1 : l1.Pairwise fun a b => PySem.W.dataLe false keyS a b = true) (one : ∀ x ∈ l1, ∀ y ∈ l1, x.2.2.2.1 = y.2.2.2.1 → x = y) : l1 = sortS l2 := by
  have T := PySem.W.sortLe_total (PyProof.Rows.listOrd PyProof.Rows.itemOrd) false fun s => PySem.W.keyToks (keyS s)
  have h2 := List.pairwise_mergeSort (le := PySem.W.dataLe false keyS) T.trans (fun a b => Bool.or_eq_true_iff.mpr (T.total a b)) l2
  refine List.Perm.eq_of_pairwise (le := fun a b => PySem.W.dataLe false keyS a b = true) (fun a b ha hb e1 e2 => ?_) h1 h2 (p.trans (List.mergeSort_perm _ _).symm)
  have hb1 : b ∈ l1 := p.mem_iff.mpr (List.mem_mergeSort.mp hb)
  refine one a ha b hb1 (keyS_inj ?_)
  have f1 : (!(PyProof.Rows.listOrd PyProof.Rows.itemOrd).blt (PySem.W.keyToks (keyS b)) (PySem.W.keyToks (keyS a))) = true := e1
  have f2 : (!(PyProof.Rows.listOrd PyProof.Rows.itemOrd).blt (PySem.W.keyToks (keyS a)) (PySem.W.keyToks (keyS b))) = true := e2
  exact (PyProof.Rows.listOrd PyProof.Rows.itemOrd).total _ _ (by simpa using f2) (by simpa using f1)
theorem rows_one {gs : List Pg} (nd : (gs.map (·.1)).Nodup) {x y : Stp} (hx : x ∈ rowsP gs) (hy : y ∈ rowsP gs) (e : x.2.2.2.1 = y.2.2.2.1) : x = y := by
  unfold rowsP at hx hy
  refine flat_one (List.Nodup.sublist ?_ nd) hx hy e
  exact List.Sublist.map _ List.filter_sublist
/-- sorted and chosen, chosen and sorted: the same -/
theorem steps_eq {bs gs : List Pg} (p : bs.Perm gs) (nd : (gs.map (·.1)).Nodup) (c : Stp → Bool) : (sortS (rowsP bs)).filter c = sortS ((rowsL gs).filter c) := by
  have nb : (bs.map (·.1)).Nodup := (p.map _).nodup_iff.mpr nd
  have T := PySem.W.sortLe_total (PyProof.Rows.listOrd PyProof.Rows.itemOrd) false fun s => PySem.W.keyToks (keyS s)
  have h2 := List.pairwise_mergeSort (le := PySem.W.dataLe false keyS) T.trans (fun a b => Bool.or_eq_true_iff.mpr (T.total a b)) (rowsP bs)
  have q : (sortS (rowsP bs)).Perm (rowsP bs) := List.mergeSort_perm _ _
  refine sortS_uniq ((q.trans (rows_perm p nd)).filter c) (List.Pairwise.filter _ h2) fun x hx y hy e => ?_
  exact rows_one nb (q.mem_iff.mp (List.mem_filter.mp hx).1) (q.mem_iff.mp (List.mem_filter.mp hy).1) e
/-! tables of lambdas: the others stay -/
theorem code_ne_tab {c P : Addr} {q : Str} {C : List Addr} : CodeK c q ≠ TabC P C := fun z => by
  have e : (fun h : Heap => ∃ (oc : Obj) (vs : Array Value) (t : Tok), h.get? c = some oc ∧ oc.data = .fields vs ∧ vs[1]? = some (.str q t)) = tabCP P C := HO.ext.inj z
  have g : ∀ (o : Obj), o = { cls := .type "x", data := .fields #[.none, .str q default] } → ∀ a : Nat, a ≤ (c : Nat) + (P : Nat) → Heap.get? { objs := Array.replicate ((c : Nat) + (P : Nat) + 1) o } a = some o := fun o ho a ha => by
    have e1 : (Array.replicate ((c : Nat) + (P : Nat) + 1) o)[a]? = some o := by
      rw [Array.getElem?_replicate, if_pos (by omega)]
    show (match (Array.replicate ((c : Nat) + (P : Nat) + 1) o)[a]? with | some ⟨_, _, .freed, _⟩ => none | o => o) = _
    rw [e1, ho]
  have f := congrFun e { objs := Array.replicate ((c : Nat) + (P : Nat) + 1) { cls := .type "x", data := .fields #[.none, .str q default] } }
  have y : tabCP P C _ := f.mp ⟨_, _, default, g _ rfl c (Nat.le_add_right _ _), rfl, rfl⟩
  obtain ⟨ps, e1, _⟩ := y
  rw [g _ rfl P (Nat.le_add_left _ _)] at e1
  have e2 := congrArg Obj.cls (Option.some.inj e1)
  cases e2
theorem TabL.other {H H' : Hp} {P P' : Addr} {q q' : Str} (n : P' ≠ P) (h : TabL H P q) (b : But P H H') (h' : TabL H P' q') : TabL H' P' q' := by
  obtain ⟨C, h1, h2⟩ := h'
  obtain ⟨D, k1, _⟩ := h
  refine ⟨C, b _ _ n h1, fun c hc => ⟨(h2 c hc).1, b _ _ (fun z => ?_) (h2 c hc).2⟩⟩
  have e := (h2 c hc).2
  rw [z, k1] at e
  exact code_ne_tab (Option.some.inj e).symm
def qSteps : Str := (Str.ofString "all_steps" ++ Str.ofString ".<locals>.") ++ Str.ofString "<lambda>"
def qLaw : Str := (Str.ofString "_law_steps" ++ Str.ofString ".<locals>.") ++ Str.ofString "<lambda>"
/-! promises -/
def NtAt (H : Hp) (t : Addr) (s : Str) (n : Int) : Prop := H t = some (.tup [.str s, .int n])
def spPlE : Sp := fun vs H Q _ => ∃ (u t : Addr) (rs : List Rn) (s : Str) (n : Int), vs = [.ref u, .ref t] ∧ RnsT H u rs ∧ NtAt H t s n ∧ ∀ (v : V) (H' : Hp), Same H H' → (if hasR rs s n = true then ∃ k, v = .int k else v = .non) → Q v H'
def spHoldsE : Sp := fun vs H Q _ => ∃ (u t : Addr) (rs : List Rn) (s : Str) (n : Int), vs = [.ref u, .ref t] ∧ RnsT H u rs ∧ NtAt H t s n ∧ ∀ H', Same H H' → Q (.bl (hasR rs s n)) H'
def spAllS (P : Addr) : Sp := fun vs H Q _ => ∃ (b : Addr) (bs : List Pg), vs = [.ref b] ∧ BkAt H b bs ∧ bs.length ≤ 1000 ∧ (bs.map (·.1)).Nodup ∧ TabL H P qSteps ∧
  ∀ (l : Addr) (ps : List Addr) (H' : Hp), But P H H' → TabL H' P qSteps → H l = none → H' l = some (.lst (ps.map V.ref)) → Sts H' ps (sortS (rowsP bs)) → Q (.ref l) H'
def chose (s : Str) (n : Int) (x : Stp) : Bool := hasR x.2.2.2.2 s n
def spStepsP (P : Addr) : Sp := fun vs H Q _ => ∃ (b t : Addr) (bs : List Pg) (s : Str) (n : Int), vs = [.ref b, .ref t] ∧ BkAt H b bs ∧ bs.length ≤ 1000 ∧ (bs.map (·.1)).Nodup ∧ NtAt H t s n ∧ TabL H P qSteps ∧
  ∀ (r : Addr) (ps : List Addr) (H' : Hp), But P H H' → TabL H' P qSteps → H r = none → H' r = some (.tup (ps.map V.ref)) → S4s H' ps ((sortS (rowsP bs)).filter (chose s n)) → Q (.ref r) H'
def lastTo (l : List Stp) : Str := match l.getLast? with
  | some x => x.2.2.1
  | none => (("none" : String) : Str)
def spToldP (P : Addr) : Sp := fun vs H Q _ => ∃ (b t : Addr) (bs : List Pg) (s : Str) (n : Int), vs = [.ref b, .ref t] ∧ BkAt H b bs ∧ bs.length ≤ 1000 ∧ (bs.map (·.1)).Nodup ∧ NtAt H t s n ∧ TabL H P qSteps ∧
  ∀ (H' : Hp), But P H H' → TabL H' P qSteps → Q (.str (lastTo ((sortS (rowsP bs)).filter (chose s n)))) H'
def spMovesL : Sp := fun vs H Q _ => ∃ (l : Addr) (qs : List Addr) (gs : List Pg), vs = [.ref l] ∧ H l = some (.lst (qs.map V.ref)) ∧ Pgs H qs gs ∧ gs.length ≤ 100 ∧ (gs.map (·.1)).Nodup ∧
  ∀ (r : Addr) (ps : List Addr) (H' : Hp), Same H H' → H r = none → H' r = some (.lst (ps.map V.ref)) → Sts H' ps (rowsL gs) → Q (.ref r) H'
def spStepsLw (P : Addr) : Sp := fun vs H Q _ => ∃ (l t : Addr) (qs : List Addr) (ss : List Stp) (s : Str) (n : Int), vs = [.ref l, .ref t] ∧ H l = some (.lst (qs.map V.ref)) ∧ Sts H qs ss ∧ ss.length ≤ 1000 ∧ NtAt H t s n ∧ TabL H P qLaw ∧
  ∀ (r : Addr) (ps : List Addr) (H' : Hp), But P H H' → TabL H' P qLaw → H r = none → H' r = some (.tup (ps.map V.ref)) → S4s H' ps (sortS (ss.filter (chose s n))) → Q (.ref r) H'
def spLastL (P : Addr) : Sp := fun vs H Q _ => ∃ (l t : Addr) (qs : List Addr) (ss : List Stp) (s : Str) (n : Int), vs = [.ref l, .ref t] ∧ H l = some (.lst (qs.map V.ref)) ∧ Sts H qs ss ∧ ss.length ≤ 1000 ∧ NtAt H t s n ∧ TabL H P qLaw ∧
  (sortS (ss.filter (chose s n)) = [] → ∀ H', But P H H' → TabL H' P qLaw → Q .non H') ∧ (∀ x, (sortS (ss.filter (chose s n))).getLast? = some x → ∀ (r : Addr) (H' : Hp), But P H H' → TabL H' P qLaw → S4At H' r x → Q (.ref r) H')
def spPlaceL (P : Addr) : Sp := fun vs H Q _ => ∃ (l t : Addr) (qs : List Addr) (ss : List Stp) (s : Str) (n : Int), vs = [.ref l, .ref t] ∧ H l = some (.lst (qs.map V.ref)) ∧ Sts H qs ss ∧ ss.length ≤ 1000 ∧ NtAt H t s n ∧ TabL H P qLaw ∧
  ∀ (H' : Hp), But P H H' → TabL H' P qLaw → Q (.str (lastTo (sortS (ss.filter (chose s n))))) H'
def hasF (s : Str) (n : Int) (r : Rn) : Bool := decide (r.1 = s) && (decide (r.2.1 ≤ n) && decide (n < r.2.2))
theorem hasR_take {rs : List Rn} {i : Nat} {r : Rn} (h : rs[i]? = some r) (s : Str) (n : Int) : hasR (rs.take (i + 1)) s n = (hasR (rs.take i) s n || (decide (r.1 = s) && (decide (r.2.1 ≤ n) && decide (n < r.2.2)))) := by
  obtain ⟨hl, e⟩ := List.getElem?_eq_some_iff.mp h
  unfold hasR
  rw [List.take_succ_eq_append_getElem hl, List.any_append, e]
  simp
theorem hasR_yes {rs : List Rn} {r : Rn} (h : r ∈ rs) {s : Str} {n : Int} (c : r.1 = s ∧ r.2.1 ≤ n ∧ n < r.2.2) : hasR rs s n = true := List.any_eq_true.mpr ⟨r, h, by simp [c]⟩
theorem keyd_sts {K : PySem.W.Frag} {H : Hp} : ∀ {ps : List Addr} {ss : List Stp}, Sts H ps ss → Keyd (fun v k => ∃ t ys y z d e, v = .ref t ∧ SqT K H t ys ∧ ys[0]? = some y ∧ ys[3]? = some z ∧ Dp K H y d ∧ Dp K H z e ∧ k = .tuple [d, e]) (ps.map V.ref) (ss.map keyS)
  | _, _, .nil => .nil
  | _, _, .cons h t => by
    obtain ⟨a, b, u, h1, h2, h3, h4⟩ := h
    exact .cons ⟨_, _, _, _, _, _, rfl, SqT.of h1, rfl, rfl, nmD_dp h2, nmD_dp h3, rfl⟩ (keyd_sts t)
theorem keyd_s4s {K : PySem.W.Frag} {H : Hp} : ∀ {ps : List Addr} {ss : List Stp}, S4s H ps ss → Keyd (fun v k => ∃ t ys y z d e, v = .ref t ∧ SqT K H t ys ∧ ys[0]? = some y ∧ ys[3]? = some z ∧ Dp K H y d ∧ Dp K H z e ∧ k = .tuple [d, e]) (ps.map V.ref) (ss.map keyS)
  | _, _, .nil => .nil
  | _, _, .cons h t => by
    obtain ⟨a, b, h1, h2, h3⟩ := h
    exact .cons ⟨_, _, _, _, _, _, rfl, SqT.of h1, rfl, rfl, nmD_dp h2, nmD_dp h3, rfl⟩ (keyd_s4s t)
theorem keyS_fit (ss : List Stp) : PySem.W.AllAlike (ss.map keyS) ∧ PySem.W.Sortable (ss.map keyS) ∧ ∀ k ∈ ss.map keyS, noL k = true ∧ k.depth ≤ 50 := by
  refine ⟨?_, Or.inl ?_, ?_⟩
  · intro d hd e he
    obtain ⟨a, _, rfl⟩ := List.mem_map.mp hd
    obtain ⟨b, _, rfl⟩ := List.mem_map.mp he
    simp [keyS, nmD, PySem.W.alike, PySem.W.alikeAll]
  · intro d hd
    obtain ⟨a, _, rfl⟩ := List.mem_map.mp hd
    exact ⟨_, _, rfl⟩
  · intro d hd
    obtain ⟨a, _, rfl⟩ := List.mem_map.mp hd
    exact ⟨rfl, by simp [keyS, nmD, PyData.depth, PyData.depthAll]⟩
def spUntil : Sp := fun vs H Q _ => ∃ (b : Addr) (bs : List Pg) (d : Int), vs = [.ref b, .int d] ∧ BkAt H b bs ∧ bs.length ≤ 1000 ∧
  ∀ (t : Addr) (H' : Hp), Same H H' → H t = none → BkAt H' t (bs.filter fun g => decide (g.1.1 ≤ d)) → Q (.ref t) H'
/-! dict(list of pairs), tuples as keys -/
theorem pairs_ofLT {X : Cx} {pins : List (Addr × Obj)} {σ : L2.St} {H : Hp} {s : Shared} (I : Inv X pins σ H s) : ∀ {ps : List Addr} {xs : List (List Key × Addr × V)}, Paired (fun p (x : List Key × Addr × V) => SqT X.K H p [.ref x.2.1, x.2.2]) ps xs →
    ∃ (ys : List (List Key × Addr × Value)) (vs : List (Value × Value)), Paired (fun (x : List Key × Addr × V) (y : List Key × Addr × Value) => x.1 = y.1 ∧ x.2.1 = y.2.1 ∧ RelV x.2.2 y.2.2) xs ys ∧ ys.length = ps.length ∧ vs.length = ps.length ∧
      ∀ (j : Nat) (u v : Value), vs[j]? = some (u, v) → ∃ (p : Addr) (k : List Key) (b : Addr), ps[j]? = some p ∧ IsTup s.heap p #[u, v] ∧ ys[j]? = some (k, b, v) ∧ u = .ref b
  | _, _, .nil => ⟨[], [], .nil, rfl, rfl, fun j u v e => by simp at e⟩
  | _, _, .cons (a := p) (b := x) h t => by
    obtain ⟨ys, vs, r, hl, hl2, hp⟩ := pairs_ofLT I t
    obtain ⟨its, rv, ht, _⟩ := I.tuple h
    obtain ⟨u, y, ei, ru, ry⟩ := vals2 rv
    subst ei
    cases ru
    refine ⟨(x.1, x.2.1, y) :: ys, (.ref x.2.1, y) :: vs, .cons ⟨rfl, rfl, ry⟩ r, by rw [List.length_cons, List.length_cons, hl], by rw [List.length_cons, List.length_cons, hl2], fun j u' v' e => ?_⟩
    cases j with
    | zero =>
      cases Option.some.inj e
      exact ⟨p, x.1, x.2.1, rfl, ht, rfl, rfl⟩
    | succ j =>
      obtain ⟨b, k, a, e1, e2, e3, e4⟩ := hp j u' v' (by simpa using e)
      exact ⟨b, k, a, by simpa using e1, e2, by simpa using e3, e4⟩
def rDictLT (K : PySem.W.Frag) : List V → Hp → VK → Prop := fun vs H Q => ∃ (a : Addr) (ps : List Addr) (xs : List (List Key × Addr × V)), vs = [.ref a] ∧ SqL K H a (ps.map V.ref) ∧ Paired (fun p (x : List Key × Addr × V) => SqT K H p [.ref x.2.1, x.2.2]) ps xs ∧
  (∀ x ∈ xs, H x.2.1 = some (.tup (x.1.map kV))) ∧ ∀ p, H p = none → Q (.ref p) (upd H p (.dT (putAll [] xs)))
theorem paired_right {α β : Type} {F : α → β → Prop} : ∀ {as : List α} {bs : List β} {b : β}, Paired F as bs → b ∈ bs → ∃ a ∈ as, F a b
  | _, _, _, .nil, h => nomatch h
  | _, _, _, .cons x t, h => by
    rcases List.mem_cons.mp h with rfl | h
    · exact ⟨_, List.mem_cons_self, x⟩
    · obtain ⟨a, h1, h2⟩ := paired_right t h
      exact ⟨a, List.mem_cons_of_mem _ h1, h2⟩
theorem call_dictLT {X : Cx} (hcalm : X.calm = true) (hu : X.A.units + 2 < cLine) : CallR X (.type "dict") (rDictLT X.K) := by
  intro pins s σ H vs us Q I r q
  obtain ⟨a, ps, xs, ex, hq, hp, hk, q⟩ := q
  subst ex
  obtain ⟨u, eu, rx⟩ := vals1 r
  subst eu
  cases rx
  obtain ⟨its, rv, pl, hz⟩ := I.list hq
  have ei := refs_at rv
  subst ei
  rw [List.length_map] at hz
  obtain ⟨ys, ws, rel, hl, hl2, hpr⟩ := pairs_ofLT I hp
  have items : PairItems s.heap (ps.map Value.ref).toArray (fun j => (ps[j]?).getD 0) ws := by
    refine ⟨by simp [hl2], fun j k v e => ?_⟩
    obtain ⟨b, kk, _, e1, e2, _⟩ := hpr j k v e
    dsimp only
    rw [e1]
    refine ⟨by simp [e1], ?_⟩
    exact .inl e2
  have key : ∀ y ∈ ys, H y.2.1 = some (.tup (y.1.map kV)) := fun y hy => by
    obtain ⟨x, hx, e1, e2, _⟩ := paired_right rel hy
    rw [← e1, ← e2]
    exact hk x hx
  refine PySem.call_dict_pairsH (knd := tupleKind (mixKind X.prog X.w)) (ps := ys) (PairArg.list a (ps.map Value.ref).toArray (fun j => (ps[j]?).getD 0) ws) (I.ok.hd hcalm) (show X.A.units + 1 + 1 < cLine from hu) ⟨pl, items⟩ ⟨by rw [hl, hl2], fun i ky v e => ?_⟩ (fun h' kp y hy => ?_) (by rw [hl2]; exact hz) fun h' tk hd' k => ?_
  · obtain ⟨p, kk, b, e1, e2, e3, e4⟩ := hpr i ky v e
    exact ⟨kk, b, e3, e4⟩
  · obtain ⟨_, its, rr, o, h1, h2, n, h3⟩ := (show ObjOk X.prog X.w H s.heap y.2.1 (.tup (y.1.map kV)) from I.hok y.2.1 _ (key y hy))
    exact ⟨o, its.toArray, n, kp _ _ (Nat.ne_of_lt (Heap.lt_size h1)) List.not_mem_nil h1, h2, h3, by simpa using items_are rr⟩
  · have hm : (s.heap.objs.size == sysModules) = false := beq_eq_false_iff_ne.mpr (Nat.ne_of_gt I.big)
    have xl : xs.length ≤ sizeLine := by rw [Paired.length rel, hl]; exact hz
    have hlen : (putAll [] xs).length ≤ sizeLine := Nat.le_trans (putAll_len xs []) (by rw [List.length_nil, Nat.zero_add]; exact xl)
    have fr := I.hok.fresh (Nat.le_refl s.heap.objs.size)
    obtain ⟨ob, es, ep, e1, e2, e3, e4, _, e5⟩ := hd'
    refine ⟨.ref s.heap.objs.size, upd H s.heap.objs.size (.dT (putAll [] xs)), I.laid (t' := tk) (fun b o e => k b o List.not_mem_nil e) (Nat.le_refl _) ⟨hlen, hm, _, (KT.all rel hk .nil).keeps fun c zs at_c => ?_, ob, es, ep, e1, e2, e3, e4, e5⟩, rfl, q _ fr⟩
    exact (upd_ne (ne_of_none at_c fr)).trans at_c
theorem hu_of2 {A : Around} {k : Nat} (hr : Room k A) : A.units + 2 < cLine := Nat.lt_of_le_of_lt (Nat.add_le_add_left (by decide : 2 ≤ 64) _) hr.units
theorem putAll_val : ∀ {xs : List (List Key × Addr × V)} {acc : List (List Key × V)} {k : List Key}, (xs.map (·.1)).Nodup → (∀ x ∈ xs, x.1 = k → valV (putAll acc xs) k = some x.2.2) ∧ (k ∉ xs.map (·.1) → valV (putAll acc xs) k = valV acc k)
  | [], acc, k, _ => ⟨fun x hx => (nomatch hx), fun _ => rfl⟩
  | y :: xs, acc, k, nd => by
    rw [List.map_cons, List.nodup_cons] at nd
    obtain ⟨i1, i2⟩ := putAll_val (xs := xs) (acc := putK acc y.1 y.2.2) (k := k) nd.2
    have e : putAll acc (y :: xs) = putAll (putK acc y.1 y.2.2) xs := rfl
    rw [e]
    refine ⟨fun x hx ex => ?_, fun h => ?_⟩
    · rcases List.mem_cons.mp hx with rfl | hx
      · rw [i2 (by rw [← ex]; exact nd.1), valV_put, if_pos ex.symm]
      · exact i1 x hx ex
    · rw [List.map_cons] at h
      rw [i2 (fun z => h (List.mem_cons_of_mem _ z)), valV_put, if_neg (fun z => h (by rw [z]; exact List.mem_cons_self))]
theorem pgs_pairs {K : PySem.W.Frag} {H : Hp} : ∀ {qs : List Addr} {gs : List Pg}, Pgs H qs gs → ∃ xs : List (List Key × Addr × V), Paired (fun p (x : List Key × Addr × V) => SqT K H p [.ref x.2.1, x.2.2]) qs xs ∧ (∀ x ∈ xs, H x.2.1 = some (.tup (x.1.map kV))) ∧ xs.map (·.1) = gs.map (fun g => nmKey g.1) ∧
    ∀ g ∈ gs, ∃ x ∈ xs, x.1 = nmKey g.1 ∧ ∃ td, x.2.2 = .ref td ∧ DdAt H td g.2
  | _, _, .nil => ⟨[], .nil, fun x hx => (nomatch hx), rfl, fun g hg => (nomatch hg)⟩
  | _, _, .cons (b := g) h t => by
    obtain ⟨xs, h1, h2, h3, h4⟩ := pgs_pairs (K := K) t
    obtain ⟨na, td, a1, a2, a3⟩ := h
    refine ⟨(nmKey g.1, na, .ref td) :: xs, .cons (SqT.of a1) h1, fun x hx => ?_, by rw [List.map_cons, List.map_cons, h3], fun g' hg => ?_⟩
    · rcases List.mem_cons.mp hx with rfl | hx
      · exact a2
      · exact h2 x hx
    · rcases List.mem_cons.mp hg with rfl | hg
      · exact ⟨_, List.mem_cons_self, rfl, td, rfl, a3⟩
      · obtain ⟨x, hx, k⟩ := h4 g' hg
        exact ⟨x, List.mem_cons_of_mem _ hx, k⟩
theorem keys_nd {gs : List Pg} (nd : (gs.map (·.1)).Nodup) : (gs.map (fun g => nmKey g.1)).Nodup := by
  have e : gs.map (fun g => nmKey g.1) = (gs.map (·.1)).map nmKey := by rw [List.map_map]; rfl
  rw [e]
  exact List.Pairwise.map _ (fun a b hab z => hab (nmKey_inj z)) nd
theorem counted_bag {gs : List Pg} {nm m : Nm} {rs : List Rn} (h : lawW gs (nm, .rd m rs) = wCd) : cbB gs m = true := by
  have h : (if w1 gs (nm, .rd m rs) = (("counted" : String) : Str) ∧ cbB gs m = false then (("waits" : String) : Str) else w1 gs (nm, .rd m rs)) = wCd := h
  by_cases c : w1 gs (nm, .rd m rs) = (("counted" : String) : Str) ∧ cbB gs m = false
  · rw [if_pos c] at h
    exact absurd h (by decide +kernel)
  · rw [if_neg c] at h
    cases e : cbB gs m with
    | true => rfl
    | false => exact absurd ⟨h, e⟩ c
theorem rowsP_len {bs : List Pg} {n : Nat} (h : bs.length ≤ n) : (rowsP bs).length ≤ n := by
  have z : ∀ l : List Pg, (l.flatMap (stp bs)).length ≤ l.length := fun l => by
    induction l with
    | nil => exact Nat.le_refl _
    | cons a l ih =>
      rw [List.flatMap_cons, List.length_append, List.length_cons]
      have := stp_len bs a
      omega
  exact Nat.le_trans (z _) (Nat.le_trans (List.length_filter_le _ _) h)
theorem rowsL_len {gs : List Pg} {n : Nat} (h : gs.length ≤ n) : (rowsL gs).length ≤ n := by
  have z : ∀ l : List Pg, (l.flatMap (stp gs)).length ≤ l.length := fun l => by
    induction l with
    | nil => exact Nat.le_refl _
    | cons a l ih =>
      rw [List.flatMap_cons, List.length_append, List.length_cons]
      have := stp_len gs a
      omega
  exact Nat.le_trans (z _) (Nat.le_trans (List.length_filter_le _ _) h)
theorem last_at {H : Hp} {ps : List Addr} {ss : List Stp} (h : S4s H ps ss) (n : ss ≠ []) : ∃ r x, ss.getLast? = some x ∧ atI (ps.map V.ref) (-1) = some (.ref r) ∧ S4At H r x := by
  have l := paired_len h
  have l0 : 0 < ss.length := List.length_pos_iff.mpr n
  have lt : ps.length - 1 < ps.length := by omega
  obtain ⟨x, hx, hs⟩ := paired_get h (List.getElem?_eq_getElem lt)
  refine ⟨ps[ps.length - 1], x, ?_, ?_, hs⟩
  · rw [List.getLast?_eq_getElem?, ← l]
    exact hx
  · have e : (ps.map V.ref)[ps.length - 1]? = some (V.ref ps[ps.length - 1]) := by rw [List.getElem?_map, List.getElem?_eq_getElem lt]; rfl
    unfold atI ixN
    rw [List.length_map, if_neg (by decide), if_pos (by omega)]
    have e2 : ((ps.length : Int) + -1).toNat = ps.length - 1 := by omega
    show (ps.map V.ref)[_]? = _
    first
      | rw [e2]; exact e
      | (have e3 : ((-1 : Int) + (ps.length : Int)).toNat = ps.length - 1 := by omega
         rw [e3]; exact e)
/-! the law's side -/
abbrev NtsE (H : Hp) (ns : List Addr) (es : List (Str × Int)) : Prop := Paired (fun p (e : Str × Int) => NtAt H p e.1 e.2) ns es
theorem NtsE.tk {H H' : Hp} {ns : List Addr} {es : List (Str × Int)} (t : Tk H H') (h : NtsE H ns es) : NtsE H' ns es := paired_imp (fun _ _ => t _ _) h
def spRightT (P1 P2 : Addr) : Sp := fun vs H Q _ => ∃ (l b N : Addr) (qs : List Addr) (gs bs : List Pg) (ns : List Addr) (es : List (Str × Int)), vs = [.ref l, .ref b, .ref N] ∧ H l = some (.lst (qs.map V.ref)) ∧ Pgs H qs gs ∧ gs.length ≤ 100 ∧ (gs.map (·.1)).Nodup ∧ BkAt H b bs ∧ bs.Perm gs ∧
  H N = some (.lst (ns.map V.ref)) ∧ NtsE H ns es ∧ es.length ≤ 100 ∧ TabL H P1 qSteps ∧ TabL H P2 qLaw ∧ P1 ≠ P2 ∧
  ∀ H', XB P1 P2 H H' → TabL H' P1 qSteps → TabL H' P2 qLaw → Q (.bl true) H'
theorem XB.mut {f P D : Addr} {H H' : Hp} {o : HO} (x : XB f P H H') (n : H D = none) : XB f P H (upd H' D o) := fun a u h1 h2 e => (upd_ne (ne_of_none e n)).trans (x a u h1 h2 e)
theorem XB.of_same {f P : Addr} {H H' : Hp} (s : Same H H') : XB f P H H' := fun a o _ _ e => s a o e
theorem XB.tabs {P1 P2 P3 : Addr} {q1 q2 q3 : Str} {H H' : Hp} (t1 : TabL H P1 q1) (t2 : TabL H P2 q2) (x : XB P1 P2 H H') (n1 : P3 ≠ P1) (n2 : P3 ≠ P2) (t3 : TabL H P3 q3) : TabL H' P3 q3 := by
  obtain ⟨C, h1, h2⟩ := t3
  obtain ⟨D1, k1, _⟩ := t1
  obtain ⟨D2, k2, _⟩ := t2
  refine ⟨C, x _ _ n1 n2 h1, fun c hc => ⟨(h2 c hc).1, x _ _ (fun z => ?_) (fun z => ?_) (h2 c hc).2⟩⟩
  · have e := (h2 c hc).2
    rw [z, k1] at e
    exact code_ne_tab (Option.some.inj e).symm
  · have e := (h2 c hc).2
    rw [z, k2] at e
    exact code_ne_tab (Option.some.inj e).symm
theorem XB.ne {P1 P2 : Addr} {q1 q2 : Str} {H H' : Hp} (t1 : TabL H P1 q1) (t2 : TabL H P2 q2) (x : XB P1 P2 H H') : NeX H H' := fun a o n e => by
  obtain ⟨φ1, h1⟩ := t1.at
  obtain ⟨φ2, h2⟩ := t2.at
  exact x a o (fun z => by rw [z, h1] at e; exact n _ (Option.some.inj e).symm) (fun z => by rw [z, h2] at e; exact n _ (Option.some.inj e).symm) e
theorem NeX.tk {H H' : Hp} (n : NeX H H') : Tk H H' := fun a xs e => n _ _ (fun φ z => nomatch z) e
theorem NeX.lst {H H' : Hp} {a : Addr} {xs : List V} (n : NeX H H') (e : H a = some (.lst xs)) : H' a = some (.lst xs) := n _ _ (fun φ z => nomatch z) e
theorem Fe.nx {H H' : Hp} {f c : Addr} {n : Int} (x : NeX H H') (h : Fe H f c n) : Fe H' f c n := by
  obtain ⟨cells, k, g, h1, h2, h3⟩ := h
  exact ⟨cells, k, g, x.lst h1, x.lst h2, h3⟩
/-- what the law knows all along: the feed, three tables -/
structure LwS (f c P1 P2 P3 : Addr) (H : Hp) (n : Int) : Prop where
  fe : Fe H f c n
  t1 : TabL H P1 qSteps
  t2 : TabL H P2 qLaw
  t3 : TabL H P3 qBook
/-- lists but the feed, and tuples, stay -/
structure LwX (f : Addr) (H H' : Hp) : Prop where
  tk : Tk H H'
  ls : ∀ a xs, a ≠ f → H a = some (.lst xs) → H' a = some (.lst xs)
theorem LwX.refl {f : Addr} {H : Hp} : LwX f H H := ⟨Tk.refl _, fun _ _ _ e => e⟩
theorem LwX.trans {f : Addr} {H H1 H2 : Hp} (a : LwX f H H1) (b : LwX f H1 H2) : LwX f H H2 := ⟨a.tk.trans b.tk, fun x xs n e => b.ls x xs n (a.ls x xs n e)⟩
theorem LwX.of_same {f : Addr} {H H' : Hp} (s : Same H H') : LwX f H H' := ⟨Tk.same s, fun _ _ _ e => s _ _ e⟩
theorem LwX.of_nx {f : Addr} {H H' : Hp} (s : NeX H H') : LwX f H H' := ⟨s.tk, fun _ _ _ e => s.lst e⟩
section
variable {f c P1 P2 P3 : Addr} {H H' : Hp} {n m : Int}
theorem LwS.same (h : LwS f c P1 P2 P3 H n) (s : Same H H') : LwS f c P1 P2 P3 H' n := ⟨h.fe.same s, h.t1.same s, h.t2.same s, h.t3.same s⟩
theorem LwS.draw (h : LwS f c P1 P2 P3 H n) (b : But f H H') (e : Fe H' f c m) : LwS f c P1 P2 P3 H' m ∧ LwX f H H' := ⟨⟨e, h.t1.butE h.fe b, h.t2.butE h.fe b, h.t3.butE h.fe b⟩, ⟨Tk.but h.fe b, fun a xs n e => b a _ n e⟩⟩
theorem LwS.book (h : LwS f c P1 P2 P3 H n) (n1 : P1 ≠ P3) (n2 : P2 ≠ P3) (b : But P3 H H') (t : TabL H' P3 qBook) : LwS f c P1 P2 P3 H' n ∧ LwX f H H' := by
  obtain ⟨φ, hP⟩ := h.t3.at
  have nx := NeX.of_but hP b
  exact ⟨⟨h.fe.nx nx, h.t3.other n1 b h.t1, h.t3.other n2 b h.t2, t⟩, .of_nx nx⟩
theorem LwS.right (h : LwS f c P1 P2 P3 H n) (n1 : P3 ≠ P1) (n2 : P3 ≠ P2) (x : XB P1 P2 H H') (t1 : TabL H' P1 qSteps) (t2 : TabL H' P2 qLaw) : LwS f c P1 P2 P3 H' n ∧ LwX f H H' := by
  have nx := x.ne h.t1 h.t2
  exact ⟨⟨h.fe.nx nx, t1, t2, x.tabs h.t1 h.t2 n1 n2 h.t3⟩, .of_nx nx⟩
theorem LwS.mono (h : LwS f c P1 P2 P3 H n) (l : n ≤ m) : LwS f c P1 P2 P3 H m := ⟨h.fe.mono l, h.t1, h.t2, h.t3⟩
end
def spBegunN : Sp := fun vs H Q _ => ∃ (f c : Addr) (n : Int), vs = [.ref f] ∧ Fe H f c n ∧ n ≤ 400000 ∧
  ∀ (t o l : Addr) (low : Int) (ws : List Wt) (E : List Ed) (qs : List Addr) (gs : List Pg) (H' : Hp), Fe H' f c (n + 6000) → But f H H' → H t = none → H' t = some (.tup [.ref o, .int low, .ref l]) → OfAt H' o ws E → OfE ws E → H l = none → l ≠ f → 0 ≤ low → low ≤ 1000000000 →
    H' l = some (.lst (qs.map V.ref)) → Pgs H' qs gs → gs.length ≤ 44 → (gs.map (·.1)).Nodup → (∀ g ∈ gs, NmB g.1) → 0 < gs.length → Q (.ref t) H'
section
variable {f c P1 P2 P3 N : Addr} {H H' : Hp} {n m : Int} {xs : List V} {o : HO}
theorem LwS.mut (h : LwS f c P1 P2 P3 H n) (e : H N = some (.lst xs)) (ne : N ≠ f ∧ N ≠ c) : LwS f c P1 P2 P3 (upd H N o) n := by
  have k : ∀ a φ, H a = some (.ext φ) → upd H N o a = some (.ext φ) := fun a φ z => (upd_ne (ne_of z e fun z => nomatch z)).trans z
  exact ⟨h.fe.upd ne, h.t1.stay k, h.t2.stay k, h.t3.stay k⟩
theorem LwX.mut (h : LwX f H H') (e : H N = none) : LwX f H (upd H' N o) := ⟨fun a ys z => (upd_ne (ne_of_none z e)).trans (h.tk a ys z), fun a ys n z => (upd_ne (ne_of_none z e)).trans (h.ls a ys n z)⟩
end
theorem pick_wt {ps : List Addr} {es : List Wt} {H : Hp} {d : Int} (h : Wts H ps es) (d0 : 0 ≤ d) (d1 : d < (((ps.map V.ref).length : Nat) : Int)) : ∃ p, ∃ m ∈ es, atI (ps.map V.ref) d = some (.ref p) ∧ H p = some (.tup (wtV m)) := by
  rw [List.length_map] at d1
  obtain ⟨k, rfl⟩ : ∃ k : Nat, d = (k : Int) := ⟨d.toNat, by omega⟩
  have hk : k < ps.length := by omega
  obtain ⟨m, m1, m2⟩ := Wts.get h (List.getElem?_eq_getElem hk)
  exact ⟨ps[k], m, List.mem_of_getElem? m1, atI_nat (by rw [List.getElem?_map, List.getElem?_eq_getElem hk]; rfl), m2⟩
theorem paired_len' {H : Hp} {ps : List Addr} {es : List Wt} (h : Wts H ps es) : ps.length = es.length := by
  induction h with
  | nil => rfl
  | cons _ _ ih => exact congrArg (· + 1) ih
/-! ### tuple(list) known to have no dict -/
section
variable {X : Cx}
def rTupF (K : PySem.W.Frag) : List V → Hp → VK → Prop := fun xs H Q => ∃ (p : Addr) (ys : List V), xs = [.ref p] ∧ SqL K H p ys ∧ ∀ l o, H l = none → Tpl o → Q (.ref l) (upd H l (.frz o (.tup ys)))
theorem call_tupleF : CallR X (.type "tuple") (rTupF X.K) := by
  intro pins s σ H xs us Q I r h
  obtain ⟨p, ys, rfl, hq, q⟩ := h
  obtain ⟨u, rfl, rx⟩ := vals1 r
  cases rx
  obtain ⟨its, r', pl, hz⟩ := I.list hq
  have hlen := r'.length
  refine call_tuple_list pl.isList (fun h' kp => ?_) (by simp only [List.size_toArray] <;> omega)
  have I1 : Inv X pins σ H { s with heap := h' } := I.kept (t' := s.toks) kp
  have new : (h'.push { cls := .type "tuple", data := .seq its.toArray }).get? h'.objs.size = some { cls := .type "tuple", data := .seq its.toArray } := Heap.get?_push_size _ rfl
  have I2 : Inv X pins σ (upd H h'.objs.size (.frz { cls := .type "tuple", data := .seq its.toArray } (.tup ys))) { s with heap := h'.push { cls := .type "tuple", data := .seq its.toArray } } :=
    I1.laid (t' := s.toks) (fun b o e => Heap.get?_push_of_some _ e) (Nat.le_refl _) ⟨new, hz, its, r', IsTup.new _ _⟩
  exact ⟨.ref h'.objs.size, _, I2, rfl, q _ _ (I1.hok.fresh (Nat.le_refl _)) ⟨rfl, rfl⟩⟩
end
/-! ### dict(tuple of pairs), tuples as keys -/
def rDictTT (K : PySem.W.Frag) : List V → Hp → VK → Prop := fun vs H Q => ∃ (a : Addr) (o : Obj) (ps : List Addr) (xs : List (List Key × Addr × V)), vs = [.ref a] ∧ H a = some (.frz o (.tup (ps.map V.ref))) ∧ Tpl o ∧ Paired (fun p (x : List Key × Addr × V) => SqT K H p [.ref x.2.1, x.2.2]) ps xs ∧
  (∀ x ∈ xs, H x.2.1 = some (.tup (x.1.map kV))) ∧ ∀ p, H p = none → Q (.ref p) (upd H p (.dT (putAll [] xs)))
theorem call_dictTT {X : Cx} (hcalm : X.calm = true) (hu : X.A.units + 2 < cLine) : CallR X (.type "dict") (rDictTT X.K) := by
  intro pins s σ H vs us Q I r q
  obtain ⟨a, o, ps, xs, ex, hq, ⟨tc, td⟩, hp, hk, q⟩ := q
  subst ex
  obtain ⟨u, eu, rx⟩ := vals1 r
  subst eu
  cases rx
  obtain ⟨at1, hz, its, rv, o', e', c', n, d'⟩ := I.hok a _ hq
  have eo : o' = o := Option.some.inj (e'.symm.trans at1)
  subst eo
  have ei := refs_at rv
  subst ei
  rw [List.length_map] at hz
  obtain ⟨ys, ws, rel, hl, hl2, hpr⟩ := pairs_ofLT I hp
  have items : PairItems s.heap (ps.map Value.ref).toArray (fun j => (ps[j]?).getD 0) ws := by
    refine ⟨by simp [hl2], fun j k v e => ?_⟩
    obtain ⟨b, kk, _, e1, e2, _⟩ := hpr j k v e
    dsimp only
    rw [e1]
    refine ⟨by simp [e1], ?_⟩
    exact .inl e2
  have key : ∀ y ∈ ys, H y.2.1 = some (.tup (y.1.map kV)) := fun y hy => by
    obtain ⟨x, hx, e1, e2, _⟩ := paired_right rel hy
    rw [← e1, ← e2]
    exact hk x hx
  refine PySem.call_dict_pairsH (knd := tupleKind (mixKind X.prog X.w)) (ps := ys) (PairArg.tuple a (ps.map Value.ref).toArray (fun j => (ps[j]?).getD 0) ws) (I.ok.hd hcalm) (show X.A.units + 1 + 1 < cLine from hu) ⟨⟨o', n, e', c', td, d'⟩, items⟩ ⟨by rw [hl, hl2], fun i ky v e => ?_⟩ (fun h' kp y hy => ?_) (by rw [hl2]; exact hz) fun h' tk hd' k => ?_
  · obtain ⟨p, kk, b, e1, e2, e3, e4⟩ := hpr i ky v e
    exact ⟨kk, b, e3, e4⟩
  · obtain ⟨_, its, rr, o, h1, h2, n, h3⟩ := (show ObjOk X.prog X.w H s.heap y.2.1 (.tup (y.1.map kV)) from I.hok y.2.1 _ (key y hy))
    exact ⟨o, its.toArray, n, kp _ _ (Nat.ne_of_lt (Heap.lt_size h1)) List.not_mem_nil h1, h2, h3, by simpa using items_are rr⟩
  · have hm : (s.heap.objs.size == sysModules) = false := beq_eq_false_iff_ne.mpr (Nat.ne_of_gt I.big)
    have xl : xs.length ≤ sizeLine := by rw [Paired.length rel, hl]; exact hz
    have hlen : (putAll [] xs).length ≤ sizeLine := Nat.le_trans (putAll_len xs []) (by rw [List.length_nil, Nat.zero_add]; exact xl)
    have fr := I.hok.fresh (Nat.le_refl s.heap.objs.size)
    obtain ⟨ob, es, ep, e1, e2, e3, e4, _, e5⟩ := hd'
    refine ⟨.ref s.heap.objs.size, upd H s.heap.objs.size (.dT (putAll [] xs)), I.laid (t' := tk) (fun b o e => k b o List.not_mem_nil e) (Nat.le_refl _) ⟨hlen, hm, _, (KT.all rel hk .nil).keeps fun c zs at_c => ?_, ob, es, ep, e1, e2, e3, e4, e5⟩, rfl, q _ fr⟩
    exact (upd_ne (ne_of_none at_c fr)).trans at_c
/-! ### tracked tuples: slices, sums, turned about; repr of any data -/
section
variable {prog : Program} {w : World} {A : Around} {E : Value → Shared → Prop} {s : Shared}
theorem pick_rev (xs : Array Value) : ((List.range xs.size).filterMap fun (m : Nat) => xs[(((xs.size : Int) - 1) + (m : Int) * (-1)).toNat]?).toArray = xs.toList.reverse.toArray := by
  have e : ((List.range xs.size).filterMap fun (m : Nat) => xs[(((xs.size : Int) - 1) + (m : Int) * (-1)).toNat]?) = ((List.range xs.size).map fun k => xs.size - 1 - k).filterMap (xs[·]?) := by
    have gen : ∀ (l : List Nat) (F G : Nat → Option Value), (∀ m ∈ l, F m = G m) → l.filterMap F = l.filterMap G := fun l => by
      induction l with
      | nil => exact fun _ _ _ => rfl
      | cons m l ih =>
        intro F G h
        rw [List.filterMap_cons, List.filterMap_cons, h m List.mem_cons_self, ih F G fun k hk => h k (List.mem_cons_of_mem _ hk)]
    rw [List.filterMap_map]
    refine gen _ _ _ fun m hm => ?_
    have hm := List.mem_range.mp hm
    have e1 : (((xs.size : Int) - 1) + (m : Int) * (-1)).toNat = xs.size - 1 - m := by omega
    rw [e1]
    rfl
  rw [e, PySem.W.krv_range, List.filterMap_reverse, PySem.W.krv_all]
theorem sliceApplied_rev {sl : Addr} {vl vu vs : Value} {n : Nat} {Q : Int × Int × Nat → Shared → Prop} (hs : s.heap.IsSliceOf sl vl vu vs) (pl : IsPart vl none) (pu : IsPart vu none) (ps : IsPart vs (some (-1)))
    (h : Q ((n : Int) - 1, -1, n) s) : wpAny (model prog w) A (Builtin.Slice.sliceApplied (.ref sl) (pure (n : Int))) Q E s := by
  obtain ⟨os, hos, hcs, hds⟩ := id hs
  unfold Builtin.Slice.sliceApplied Builtin.Slice.sliceFields
  refine wpAny_bind (wpAny_bind (wpAny_field hos hds (x := vl) rfl (wpAny_bind (wpAny_field hos hds (x := vu) rfl (wpAny_bind (wpAny_field hos hds (x := vs) rfl (wpAny_pure ?_)))))))
  refine wpAny_bind (HT.slicePart_ ps ?_)
  show wpAny _ _ (if ((-1 : Int) == 0) = true then _ else _) _ _ s
  rw [if_neg (by decide)]
  refine wpAny_bind (HT.slicePart_ pl (wpAny_bind (HT.slicePart_ pu (wpAny_bind (wpAny_pure ?_)))))
  show wpAny _ _ (pure ((n : Int) - 1, (-1 : Int), Builtin.Slice.slicePlaces ((n : Int) - 1) (-1) (-1))) _ _ s
  have e : Builtin.Slice.slicePlaces ((n : Int) - 1) (-1) (-1) = n := by
    unfold Builtin.Slice.slicePlaces
    have h1 : ¬ ((-1 : Int) > 0) := by decide
    have e1 : (- -1 : Int) = 1 := by decide
    simp only [h1, if_false, e1, Int.ediv_one]
    split <;> omega
  rw [e]
  exact wpAny_pure h
theorem getItem_tuple_rev {t sl : Addr} {items : Array Value} {vl vu vs : Value} {Q : Value → Shared → Prop} (ht : IsTup s.heap t items) (hs : s.heap.IsSliceOf sl vl vu vs) (pl : IsPart vl none) (pu : IsPart vu none) (ps : IsPart vs (some (-1)))
    (h : Q (.ref s.heap.objs.size) { s with heap := s.heap.push { cls := .type "tuple", data := .seq items.toList.reverse.toArray } })
    (hsz : items.size ≤ sizeLine) : wpAny (model prog w) A (getItem (.ref t) (.ref sl)) Q E s := by
  have htake : sizeOk (.seq items.toList.reverse.toArray) := by
    show items.toList.reverse.toArray.size ≤ sizeLine
    rw [List.size_toArray, List.length_reverse, Array.length_toList]
    exact hsz
  obtain ⟨os, hos, hcs, hds⟩ := id hs
  have hTs : s.TypeIs (.ref sl) "slice" := ⟨os, hos, hcs⟩
  unfold getItem
  try with_reducible refine wpAny_holding ?_
  first | refine wpAny_bind (wpAny_pure ?_) | skip
  refine wpAny_bind (wpAny_sequenceKey ht.typeIs (by decide) ?_)
  refine wpAny_bind (wpAny_callSpecial?_slot (name := Str.ofString "__getitem__") ht.typeIs PyProof.Rows.slot_tuple_getitem
    (wpAny_call_entry PyProof.Rows.slot_tuple_getitem ht.typeIs entry_tuple_getitem ?_ (args_tuple_getitem _ _)))
  show wpAny _ _ (Builtin.Tuple.tupleItemsOf (.ref t) >>= _) _ _ s
  refine wpAny_bind (tupleItemsOf_ ht ?_)
  refine wpAny_bind (wpAny_typeOf hTs ?_)
  rw [if_pos (by decide)]
  refine wpAny_bind (sliceApplied_rev hs pl pu ps ?_)
  have hno : ¬ ((((items.size : Int) - 1) == 0 && (-1 : Int) == 1 && items.size == items.size) = true) := by
    intro q
    rw [Bool.and_eq_true, Bool.and_eq_true] at q
    exact absurd q.1.2 (by decide)
  show wpAny _ _ (if (((items.size : Int) - 1) == 0 && (-1 : Int) == 1 && items.size == items.size) = true then _ else _) _ _ s
  rw [if_neg hno, pick_rev]
  first
    | exact wpAny_bind (m := Builtin.Tuple.tupleExact _) (wpAny_newObj_type (wpAny_pure ⟨_, rfl, wpAny_pure h⟩) htake)
    | exact wpAny_bind (m := Builtin.Tuple.tupleExact _) (wpAny_newObj_type (wpAny_bind (wpAny_pure (wpAny_pure ⟨_, rfl, wpAny_pure h⟩))) htake)
    | exact wpAny_bind (wpAny_bind (m := Builtin.Tuple.tupleExact _) (wpAny_newObj_type (wpAny_pure (wpAny_pure ⟨_, rfl, wpAny_pure h⟩)) htake))
    | exact wpAny_bind (wpAny_bind (m := Builtin.Tuple.tupleExact _) (wpAny_newObj_type (wpAny_pure ⟨_, rfl, wpAny_pure h⟩) htake))
end
/-- t[::-1] of a tuple -/
def tRevT (K : PySem.W.Frag) (te : TE) : TE := fun σ H Q => te σ H fun x H1 => ∃ a xs, x = .ref a ∧ SqT K H1 a xs ∧ ∀ p, H1 p = none → Q (.ref p) (upd H1 p (.tup xs.reverse))
theorem pe_revT {X : Cx} {e : Expr} {te : TE} {k : Nat} {p1 p2 p3 pos : Pos} (he : PE X e te) : PE X (.Subscript e (.Slice none none (some (.UnaryOp .USub (.Constant (.int 1) k p1) p2)) p3) pos) (tRevT X.K te) := by
  refine ⟨fun pins s σ H Q I h => ?_⟩
  refine Subscript_ (thn (he.run pins s σ H _ I h) fun v s1 ⟨x, H1, I1, r1, q1⟩ => ?_)
  obtain ⟨a, xs, ex, hx, q⟩ := q1
  subst ex
  cases r1
  have hst : PO X (some (.UnaryOp .USub (.Constant (.int 1) k p1) p2)) (tPart (tUn (rU fun i => .int (-i)) (tC (.int 1)))) := po_some (pe_un un_neg pe_int)
  refine wpAny_Slice (thn (po_none.run pins s1 σ H1 (fun o H2 => o = none ∧ H2 = H1) I1 ⟨rfl, rfl⟩) fun vl s2 ⟨l, H2, I2, pl, el, e2⟩ => ?_)
  subst el e2
  refine thn (po_none.run pins s2 σ H2 (fun o H3 => o = none ∧ H3 = H2) I2 ⟨rfl, rfl⟩) fun vu s3 ⟨u, H3, I3, pu, eu, e3⟩ => ?_
  subst eu e3
  refine thn (hst.run pins s3 σ H3 (fun o H4 => o = some (-1) ∧ H4 = H3) I3 ⟨1, rfl, -1, rfl, rfl, rfl⟩) fun vs s4 ⟨o, H4, I4, ps, eo, e4⟩ => ?_
  subst eo e4
  have I5 : Inv X pins σ H4 { s4 with heap := s4.heap.push { cls := .type "slice", data := .fields #[vl, vu, vs] } } := I4.kept (t' := s4.toks) fun b ob q => Heap.get?_push_of_some _ q
  obtain ⟨its, r, ht, hz⟩ := I5.tuple hx
  have hlen : its.toArray.size = xs.length := by rw [List.size_toArray]; exact r.length.symm
  show wpAny (model X.prog X.w) X.A (subscriptTail e (.Slice none none (some (.UnaryOp .USub (.Constant (.int 1) k p1) p2)) p3) (.ref a) (.ref s4.heap.objs.size)) (EP X pins σ Q) X.xe { s4 with heap := s4.heap.push { cls := .type "slice", data := .fields #[vl, vu, vs] } }
  refine tail_any (ops := [.ref a, .ref s4.heap.objs.size]) ht.typeIs (PyProof.Rows.slot_tuple_getitem.lookup) ?_ (by with_unfolding_all rfl)
  refine getItem_tuple_rev ht (Heap.IsSliceOf.new _ vl vu vs) pl pu ps ?_ (by rw [hlen]; exact hz)
  refine ⟨.ref _, _, I5.laid (t' := s4.toks) (o := .tup xs.reverse) (fun b ob q => Heap.get?_push_of_some _ q) (Nat.le_refl _) ?_, rfl, q _ (I5.hok.fresh (Nat.le_refl _))⟩
  exact ⟨by rw [List.length_reverse]; exact hz, _, r.reverse, IsTup.new _ _⟩
/-- repr of any data -/
def rReprD (K : PySem.W.Frag) : List V → Hp → VK → Prop := fun xs H Q => ∃ (v : V) (d : PyData), xs = [v] ∧ Dp K H v d ∧ d.showable = true ∧ d.hasDict = false ∧ d.depth ≤ 60 ∧ d.shown.length ≤ sizeLine ∧ Q (.str d.shown) H
theorem cr_reprD {X : Cx} {k : Nat} (hg : X.A.guards = some []) (hr : Room k X.A) : CallR X (.builtin "repr") (rReprD X.K) := by
  intro pins s σ H vs us Q I r h
  obtain ⟨v, d, rfl, hd, h1, h2, h3, h4, q⟩ := h
  cases hd with
  | non =>
    obtain ⟨u, rfl, ru⟩ := vals1 r
    cases ru
    exact PySem.P.repr_of_none ⟨.str _, H, I.tok _, ⟨_, rfl⟩, q⟩
  | bl b =>
    obtain ⟨u, rfl, ru⟩ := vals1 r
    cases ru
    refine PySem.P.repr_of_bool ⟨.str _, H, I.tok _, ⟨_, rfl⟩, ?_⟩
    cases b <;> exact q
  | int i =>
    obtain ⟨u, rfl, t, rfl⟩ := vals1 r
    exact PySem.P.repr_of_int (of_decide_eq_true h1) ⟨.str _, H, I.tok _, ⟨_, rfl⟩, q⟩
  | str x =>
    obtain ⟨u, rfl, t, rfl⟩ := vals1 r
    exact PySem.P.repr_of_str ⟨.str _, H, I.tok _, ⟨_, rfl⟩, q⟩ h4
  | lst a b => exact cr_repr hg hr pins s σ H _ us Q I r ⟨_, _, rfl, .lst a b, h1, h2, h3, h4, q⟩
  | tup a b => exact cr_repr hg hr pins s σ H _ us Q I r ⟨_, _, rfl, .tup a b, h1, h2, h3, h4, q⟩
/-! ### data that does not lie in the feed -/
mutual
inductive Dn (N : Addr → Prop) (H : Hp) : V → PyData → Prop
  | non : Dn N H .non .none
  | bl (b : Bool) : Dn N H (.bl b) (.bool b)
  | int (i : Int) : Dn N H (.int i) (.int i)
  | str (x : Str) : Dn N H (.str x) (.str x)
  | lst {a : Addr} {xs : List V} {ds : List PyData} : N a → H a = some (.lst xs) → DnAll N H xs ds → Dn N H (.ref a) (.list ds)
  | tup {a : Addr} {xs : List V} {ds : List PyData} : H a = some (.tup xs) → DnAll N H xs ds → Dn N H (.ref a) (.tuple ds)
inductive DnAll (N : Addr → Prop) (H : Hp) : List V → List PyData → Prop
  | nil : DnAll N H [] []
  | cons {v : V} {vs : List V} {d : PyData} {ds : List PyData} : Dn N H v d → DnAll N H vs ds → DnAll N H (v :: vs) (d :: ds)
end
mutual
theorem Dn.dp {K : PySem.W.Frag} {N : Addr → Prop} {H : Hp} : ∀ {v : V} {d : PyData}, Dn N H v d → Dp K H v d
  | _, _, .non => .non
  | _, _, .bl b => .bl b
  | _, _, .int i => .int i
  | _, _, .str x => .str x
  | _, _, .lst _ h a => .lst (SqL.of h) (DnAll.dp a)
  | _, _, .tup h a => .tup (SqT.of h) (DnAll.dp a)
theorem DnAll.dp {K : PySem.W.Frag} {N : Addr → Prop} {H : Hp} : ∀ {vs : List V} {ds : List PyData}, DnAll N H vs ds → DpAll K H vs ds
  | _, _, .nil => .nil
  | _, _, .cons a b => .cons (Dn.dp a) (DnAll.dp b)
end
mutual
theorem Dn.stay {N : Addr → Prop} {H H' : Hp} (k : ∀ a xs, N a → H a = some (.lst xs) → H' a = some (.lst xs)) (k2 : ∀ a xs, H a = some (.tup xs) → H' a = some (.tup xs)) : ∀ {v : V} {d : PyData}, Dn N H v d → Dn N H' v d
  | _, _, .non => .non
  | _, _, .bl b => .bl b
  | _, _, .int i => .int i
  | _, _, .str x => .str x
  | _, _, .lst n h a => .lst n (k _ _ n h) (DnAll.stay k k2 a)
  | _, _, .tup h a => .tup (k2 _ _ h) (DnAll.stay k k2 a)
theorem DnAll.stay {N : Addr → Prop} {H H' : Hp} (k : ∀ a xs, N a → H a = some (.lst xs) → H' a = some (.lst xs)) (k2 : ∀ a xs, H a = some (.tup xs) → H' a = some (.tup xs)) : ∀ {vs : List V} {ds : List PyData}, DnAll N H vs ds → DnAll N H' vs ds
  | _, _, .nil => .nil
  | _, _, .cons a b => .cons (Dn.stay k k2 a) (DnAll.stay k k2 b)
end
theorem Dn.same {N : Addr → Prop} {H H' : Hp} (s : Same H H') {v : V} {d : PyData} (h : Dn N H v d) : Dn N H' v d := h.stay (fun _ _ _ e => s _ _ e) fun _ _ e => s _ _ e
theorem DnAll.same {N : Addr → Prop} {H H' : Hp} (s : Same H H') {v : List V} {d : List PyData} (h : DnAll N H v d) : DnAll N H' v d := h.stay (fun _ _ _ e => s _ _ e) fun _ _ e => s _ _ e
theorem Dn.but {f c : Addr} {N : Addr → Prop} {n : Int} {H H' : Hp} (nf : ∀ a, N a → a ≠ f) (b : But f H H') (hf : Fd H f c n) {v : V} {d : PyData} (h : Dn N H v d) : Dn N H' v d := by
  obtain ⟨zs, hz⟩ := hf.at
  exact h.stay (fun a xs n e => b a _ (nf a n) e) fun a xs e => b a _ (ne_of e hz fun z => nomatch z) e
mutual
theorem Dn.imp {N M : Addr → Prop} {H : Hp} (k : ∀ a, N a → M a) : ∀ {v : V} {d : PyData}, Dn N H v d → Dn M H v d
  | _, _, .non => .non
  | _, _, .bl b => .bl b
  | _, _, .int i => .int i
  | _, _, .str x => .str x
  | _, _, .lst n h a => .lst (k _ n) h (DnAll.imp k a)
  | _, _, .tup h a => .tup h (DnAll.imp k a)
theorem DnAll.imp {N M : Addr → Prop} {H : Hp} (k : ∀ a, N a → M a) : ∀ {vs : List V} {ds : List PyData}, DnAll N H vs ds → DnAll M H vs ds
  | _, _, .nil => .nil
  | _, _, .cons a b => .cons (Dn.imp k a) (DnAll.imp k b)
end
/-- a list that is none of its own changed -/
theorem Dn.mut {N : Addr → Prop} {H : Hp} {W : Addr} {xs : List V} {o : HO} (nW : ∀ a, N a → a ≠ W) (hW : H W = some (.lst xs)) {v : V} {d : PyData} (h : Dn N H v d) : Dn N (upd H W o) v d :=
  h.stay (fun a _ n e => (upd_ne (nW a n)).trans e) fun a _ e => (upd_ne (ne_of e hW fun z => nomatch z)).trans e
/-- how big data is -/
structure Okd (n c : Nat) (d : PyData) : Prop where
  fine : fineD d = true
  plain : d.plain = true
  dep : d.depth ≤ n
  cost : cost d ≤ c
theorem Okd.mono {n m c e : Nat} {d : PyData} (h : Okd n c d) (h1 : n ≤ m) (h2 : c ≤ e) : Okd m e d := ⟨h.fine, h.plain, Nat.le_trans h.dep h1, Nat.le_trans h.cost h2⟩
theorem okd_str {x : Str} (h : NmOk x) : Okd 1 90 (.str x) := by
  obtain ⟨h1, h2⟩ := nm_fine h
  exact ⟨h1, rfl, by simp [PyData.depth], by omega⟩
theorem okd_non : Okd 1 90 .none := ⟨rfl, rfl, by simp [PyData.depth], by decide⟩
theorem okd_bool (b : Bool) : Okd 1 90 (.bool b) := ⟨rfl, rfl, by simp [PyData.depth], (show 5 ≤ 90 by decide)⟩
theorem okd_int {i : Int} (h0 : -1000000000000 ≤ i) (h1 : i ≤ 1000000000000) : Okd 1 2000 (.int i) := ⟨int_fine h0 h1, rfl, by simp [PyData.depth], Nat.le_refl _⟩
theorem okd_all {n c : Nat} : ∀ {ds : List PyData}, (∀ d ∈ ds, Okd n c d) → fineAll ds = true ∧ PyData.plainAll ds = true ∧ PyData.depthAll ds ≤ n ∧ costAll ds ≤ (c + 2) * ds.length
  | [], _ => ⟨rfl, rfl, by simp [PyData.depthAll], Nat.zero_le _⟩
  | d :: ds, h => by
    obtain ⟨a1, a2, a3, a4⟩ := okd_all fun e he => h e (List.mem_cons_of_mem _ he)
    have b := h d List.mem_cons_self
    refine ⟨?_, ?_, ?_, ?_⟩
    · unfold fineAll
      rw [b.fine, a1]
      rfl
    · simp only [PyData.plainAll, b.plain, a2, Bool.and_self]
    · simp only [PyData.depthAll]
      exact Nat.max_le.mpr ⟨b.dep, a3⟩
    · have z := b.cost
      show Pn.cost d + 2 + costAll ds ≤ (c + 2) * (ds.length + 1)
      rw [Nat.mul_add, Nat.mul_one]
      omega
theorem okd_tup {n c : Nat} {ds : List PyData} (h : ∀ d ∈ ds, Okd n c d) : Okd (n + 1) ((c + 2) * ds.length + 3) (.tuple ds) := by
  obtain ⟨a1, a2, a3, a4⟩ := okd_all h
  exact ⟨a1, a2, by simp only [PyData.depth]; omega, (show costAll ds + 3 ≤ _ by omega)⟩
theorem okd_lst {n c : Nat} {ds : List PyData} (h : ∀ d ∈ ds, Okd n c d) : Okd (n + 1) ((c + 2) * ds.length + 3) (.list ds) := by
  obtain ⟨a1, a2, a3, a4⟩ := okd_all h
  exact ⟨a1, a2, by simp only [PyData.depth]; omega, (show costAll ds + 3 ≤ _ by omega)⟩
theorem Okd.show {n c : Nat} {d : PyData} (h : Okd n c d) (hn : n ≤ 60) (hc : c ≤ 10000000) : d.showable = true ∧ d.hasDict = false ∧ d.depth ≤ 60 ∧ d.shown.length ≤ sizeLine := by
  obtain ⟨a, b⟩ := fine_show _ h.fine
  exact ⟨a, b, Nat.le_trans h.dep hn, Nat.le_trans (shown_cost _ h.fine) (Nat.le_trans h.cost (Nat.le_trans hc (by decide)))⟩
theorem dn_all {N : Addr → Prop} {H : Hp} {n c : Nat} : ∀ {xs : List V}, (∀ v ∈ xs, ∃ d, Dn N H v d ∧ Okd n c d) → ∃ ds, DnAll N H xs ds ∧ ∀ d ∈ ds, Okd n c d
  | [], _ => ⟨[], .nil, fun _ z => nomatch z⟩
  | v :: xs, h => by
    obtain ⟨d, d1, d2⟩ := h v List.mem_cons_self
    obtain ⟨ds, e1, e2⟩ := dn_all fun u hu => h u (List.mem_cons_of_mem _ hu)
    exact ⟨d :: ds, .cons d1 e1, fun z hz => (List.mem_cons.mp hz).elim (fun k => k ▸ d2) (e2 z)⟩
theorem DnAll.len {N : Addr → Prop} {H : Hp} : ∀ {xs : List V} {ds : List PyData}, DnAll N H xs ds → xs.length = ds.length
  | _, _, .nil => rfl
  | _, _, .cons _ b => congrArg (· + 1) (DnAll.len b)
theorem plain_of {ds : List PyData} (h : PyData.plainAll ds = true) : ∀ d ∈ ds, d.plain = true := by
  induction ds with
  | nil => exact fun _ z => nomatch z
  | cons d ds ih =>
    simp only [PyData.plainAll, Bool.and_eq_true] at h
    exact fun e he => (List.mem_cons.mp he).elim (fun z => z ▸ h.1) (ih h.2 e)
theorem depth_of {ds : List PyData} {n : Nat} (h : PyData.depthAll ds ≤ n) : ∀ d ∈ ds, d.depth ≤ n := by
  induction ds with
  | nil => exact fun _ z => nomatch z
  | cons d ds ih =>
    simp only [PyData.depthAll] at h
    exact fun e he => (List.mem_cons.mp he).elim (fun z => z ▸ Nat.le_trans (Nat.le_max_left _ _) h) (ih (Nat.le_trans (Nat.le_max_right _ _) h) e)
theorem op_notinTP {X : Cx} {k : Nat} (hr : Room k X.A) : OpR X (compareOp .NotIn) (rInP X.K true false) := by
  intro pins s σ H x y v u Q I rx ry h
  obtain ⟨d, ds, hd, he, p1, p2, dep, q⟩ := h
  have un := hr.un
  obtain ⟨as, r1⟩ := Dp.reads I d x v hd rx
  obtain ⟨bs, r2⟩ := Dp.reads I _ y u he ry
  rw [Bool.true_xor] at q
  exact PySem.SeqAt.notIn_tuple_data r2 r1 p2 p1 (by omega) ⟨.bl _, H, I, rfl, q⟩
/-! ### len within a comprehension -/
def rLenS (K : PySem.W.Frag) : List V → Hp → VK → Prop := fun xs H Q => ∃ (p : Addr) (ys : List V), xs = [.ref p] ∧ (SqL K H p ys ∨ SqT K H p ys) ∧ Q (.int (ys.length : Int)) H
/-! ### books that may be frozen -/
def BkY (H : Hp) (b : Addr) (gs : List Pg) : Prop := ∃ ps : List Addr, Rd H b (.tup (ps.map V.ref)) ∧ Pgs H ps gs
def BkF (H : Hp) (b : Addr) (gs : List Pg) : Prop := ∃ (ps : List Addr) (o : Obj), H b = some (.frz o (.tup (ps.map V.ref))) ∧ Tpl o ∧ Pgs H ps gs
theorem Rd.sm {H H' : Hp} {a : Addr} {u : HO} (s : Same H H') (h : Rd H a u) : Rd H' a u := h.imp (s _ _) fun ⟨o, e⟩ => ⟨o, s _ _ e⟩
theorem BkF.y {H : Hp} {b : Addr} {gs : List Pg} : BkF H b gs → BkY H b gs := fun ⟨ps, o, h, _, p⟩ => ⟨ps, .inr ⟨o, h⟩, p⟩
theorem BkAt.y {H : Hp} {b : Addr} {gs : List Pg} : BkAt H b gs → BkY H b gs := fun ⟨ps, h, p⟩ => ⟨ps, .inl h, p⟩
theorem BkY.same {H H' : Hp} {b : Addr} {gs : List Pg} (h : BkY H b gs) (s : Same H H') : BkY H' b gs := let ⟨ps, h, p⟩ := h; ⟨ps, Rd.sm s h, p.tk (Tk.same s)⟩
theorem BkF.same {H H' : Hp} {b : Addr} {gs : List Pg} (h : BkF H b gs) (s : Same H H') : BkF H' b gs := let ⟨ps, o, h, t, p⟩ := h; ⟨ps, o, s _ _ h, t, p.tk (Tk.same s)⟩
theorem BkF.nx {H H' : Hp} {b : Addr} {gs : List Pg} (h : BkF H b gs) (s : NeX H H') : BkF H' b gs := let ⟨ps, o, h, t, p⟩ := h; ⟨ps, o, s _ _ (fun φ z => nomatch z) h, t, p.tk s.tk⟩
def spGoneY : Sp := fun vs H Q _ => ∃ (b : Addr) (gs : List Pg), vs = [.ref b] ∧ BkY H b gs ∧ gs.length ≤ 1000 ∧
  ∀ (d : Addr) (kvs : List (List Key × V)) (H' : Hp), Same H H' → H d = none → H' d = some (.dT kvs) → goneIs (voids gs) kvs → Q (.ref d) H'
def spBagsY : Sp := fun vs H Q _ => ∃ (b : Addr) (gs : List Pg), vs = [.ref b] ∧ BkY H b gs ∧ gs.length ≤ 1000 ∧
  ∀ (d : Addr) (kvs : List (List Key × V)) (H' : Hp), Same H H' → H d = none → H' d = some (.dT kvs) → bagsIs H' (voids gs) gs kvs → Q (.ref d) H'
def spThatY : Sp := fun vs H Q _ => ∃ (b : Addr) (w : Str) (gs : List Pg), vs = [.ref b, .str w] ∧ BkY H b gs ∧ gs.length ≤ 1000 ∧
  ∀ (l : Addr) (qs : List Addr) (H' : Hp), Same H H' → H l = none → H' l = some (.lst (qs.map V.ref)) → Pgs H' qs (thatL gs w) → Q (.ref l) H'
def spThatOfY (w : Str) : Sp := fun vs H Q _ => ∃ (b : Addr) (gs : List Pg), vs = [.ref b] ∧ BkY H b gs ∧ gs.length ≤ 1000 ∧
  ∀ (l : Addr) (qs : List Addr) (H' : Hp), Same H H' → H l = none → H' l = some (.lst (qs.map V.ref)) → Pgs H' qs (thatL gs w) → Q (.ref l) H'
def spNamesOfY (w : Str) : Sp := fun vs H Q _ => ∃ (b : Addr) (gs : List Pg), vs = [.ref b] ∧ BkY H b gs ∧ gs.length ≤ 1000 ∧
  ∀ (t : Addr) (qs : List Addr) (H' : Hp), Same H H' → H t = none → H' t = some (.tup (qs.map V.ref)) → Nms H' qs ((thatL gs w).map (·.1)) → Q (.ref t) H'
def spAllSY (P : Addr) : Sp := fun vs H Q _ => ∃ (b : Addr) (bs : List Pg), vs = [.ref b] ∧ BkY H b bs ∧ bs.length ≤ 1000 ∧ (bs.map (·.1)).Nodup ∧ TabL H P qSteps ∧
  ∀ (l : Addr) (ps : List Addr) (H' : Hp), But P H H' → TabL H' P qSteps → H l = none → H' l = some (.lst (ps.map V.ref)) → Sts H' ps (sortS (rowsP bs)) → Q (.ref l) H'
def spStepsPY (P : Addr) : Sp := fun vs H Q _ => ∃ (b t : Addr) (bs : List Pg) (s : Str) (n : Int), vs = [.ref b, .ref t] ∧ BkY H b bs ∧ bs.length ≤ 1000 ∧ (bs.map (·.1)).Nodup ∧ NtAt H t s n ∧ TabL H P qSteps ∧
  ∀ (r : Addr) (ps : List Addr) (H' : Hp), But P H H' → TabL H' P qSteps → H r = none → H' r = some (.tup (ps.map V.ref)) → S4s H' ps ((sortS (rowsP bs)).filter (chose s n)) → Q (.ref r) H'
/-! ### zip(xs, t) of a list and a tuple, walked -/
/-- the list at a and the tuple at b as they stand at each turn, the items in new pairs -/
def ItzM (K : PySem.W.Frag) (a b : Addr) : It :=
  ⟨fun i H => ∃ (xs ys : List V) (x y : V), SqL K H a xs ∧ SqT K H b ys ∧ xs[i]? = some x ∧ ys[i]? = some y,
    fun i H v H' => ∃ T x y, v = .ref T ∧ H T = none ∧ H' = upd H T (.tup [x, y]) ∧ (∀ xs, SqL K H a xs → xs[i]? = some x) ∧ ∀ ys, SqT K H b ys → ys[i]? = some y,
    fun i H => ∃ xs ys : List V, SqL K H a xs ∧ SqT K H b ys ∧ xs.length = i ∧ ys.length = i⟩
theorem sep_of {z TI TO i1 i2 a b : Addr} (D : ZipApart z TI TO i1 i2 a b) : ZipSep2 z TI TO i1 i2 [i1, a] [i2, b] := by
  have m : ∀ {c x y : Addr}, c ≠ x → c ≠ y → c ∉ [x, y] := fun h1 h2 => by simp only [List.mem_cons, List.not_mem_nil, or_false, not_or]; exact ⟨h1, h2⟩
  exact ⟨D.TIz, D.TOz, D.TITO, D.TIi1, List.mem_cons_self, m D.i1z.symm D.l1z.symm, m D.TOi1 D.l1TO.symm, D.TIi2, List.mem_cons_self, m D.i2z.symm D.l2z.symm, m D.TOi2 D.l2TO.symm, m D.i12 D.l2i1.symm, m D.i12.symm D.l1i2.symm⟩
theorem turn_zipM {P : Program} {w : World} {K : PySem.W.Frag} {elts : List Expr} {kk : Nat} {tpos : Pos} {a b z TI TO i1 i2 : Addr} (D : ZipApart z TI TO i1 i2 a b) :
    Turn P w K (.Tuple elts kk tpos) (ItzM K a b) [z, TI, TO, i1, i2] z (fun i h => IsZip h z TI TO .none ∧ IsPair h TI (.ref i1) (.ref i2) ∧ (∃ x y, IsPair h TO x y) ∧ h.IsListIter i1 a i ∧ h.IsTupleIter i2 b i) where
  mem := List.mem_cons_self
  obj := fun i h st c hc => by
    obtain ⟨hz, hTI, ⟨x, y, hTO⟩, ⟨o1, e1, _, d1⟩, ⟨o2, e2, _, d2⟩⟩ := st
    simp only [List.mem_cons, List.not_mem_nil, or_false] at hc
    rcases hc with rfl | rfl | rfl | rfl | rfl
    · exact ⟨_, hz, fun v q => nomatch q⟩
    · exact ⟨_, hTI, fun v q => nomatch q⟩
    · exact ⟨_, hTO, fun v q => nomatch q⟩
    · exact ⟨o1, e1, fun v q => by rw [d1] at q; cases q⟩
    · exact ⟨o2, e2, fun v q => by rw [d2] at q; cases q⟩
  keep := fun i h h' ⟨hz, hTI, ⟨x, y, hTO⟩, h1, h2⟩ k =>
    ⟨k z (by simp) _ hz, k TI (by simp) _ hTI, ⟨x, y, k TO (by simp) _ hTO⟩, h1.at fun o e => k i1 (by simp) o e, h2.at fun o e => k i2 (by simp) o e⟩
  item := by
    intro X hP hw hK hc i pins s σ H E I hf ⟨hz, hTI, ⟨x0, y0, hTO⟩, h1, h2⟩ ⟨xs, ys, x, y, hqx, hqy, hx, hy⟩
    subst hP hw hK
    obtain ⟨its, rv, p, _⟩ := I.list hqx
    obtain ⟨its2, rv2, p2, _⟩ := I.tuple hqy
    obtain ⟨u, hu, ru⟩ := rv.get hx
    obtain ⟨u2, hu2, ru2⟩ := rv2.get hy
    have hh : X.A.in1.handled = none := I.ok.hd hc
    have lt1 : i < its.toArray.size := by rw [List.size_toArray]; exact (List.getElem?_eq_some_iff.mp hu).1
    have lt2 : i < its2.toArray.size := by rw [List.size_toArray]; exact (List.getElem?_eq_some_iff.mp hu2).1
    refine wpAny_pyNext_zipD2_item (sep_of D) (Draws.list hh i1 a D.l1i1 its.toArray) (Draws.tuple hh i2 b D.l2i2 its2.toArray) hz hTI hTO ⟨h1, p.isList⟩ ⟨h2, p2⟩ lt1 lt2 fun v1 v2 h' tk g1 g2 z' TO' n1 n2 nT hsz hk => ?_
    have ev : v1 = u := by simpa [hu] using g1.symm
    have ev2 : v2 = u2 := by simpa [hu2] using g2.symm
    subst ev ev2
    refine ⟨_, rfl, wpAny_letOwnedTupleGo_zip (s := { s with heap := h', toks := tk }) z' fun h'' z'' sb => ?_⟩
    have zl := Heap.lt_size hz
    have nT2 : h''.get? s.heap.objs.size = some { cls := .type "tuple", data := .seq #[v1, v2] } := (sb.2 _ (Nat.ne_of_gt zl)).trans nT
    have I1 : Inv X pins σ (upd H s.heap.objs.size (.tup [x, y])) { s with heap := h'', toks := tk } :=
      I.turnedNew (t' := tk) (ch := [z, TI, TO, i1, i2]) (fun c o hb q => by
        simp only [List.mem_cons, List.not_mem_nil, or_false, not_or] at hb
        exact (sb.2 c hb.1).trans (hk c o hb.1 hb.2.2.1 hb.2.2.2.1 hb.2.2.2.2 q)) hf (Nat.le_refl _) ⟨(by decide : 2 ≤ sizeLine), [v1, v2], .cons ru (.cons ru2 .nil), ⟨_, nT2, rfl, _, rfl⟩⟩
    refine ⟨.ref s.heap.objs.size, _, I1, rfl, ⟨_, x, y, rfl, I.hok.fresh (Nat.le_refl _), rfl, fun l hl => by rw [I.list_inj hl hqx]; exact hx, fun l hl => by rw [I.tuple_inj hl hqy]; exact hy⟩, ⟨z'', ?_, ⟨v1, v2, ?_⟩, ?_, ?_⟩, fun c hcm => ?_⟩
    · exact (sb.2 _ D.TIz).trans (hk _ _ D.TIz D.TITO D.TIi1 D.TIi2 hTI)
    · exact (sb.2 _ D.TOz).trans TO'
    · exact n1.1.at fun o q => (sb.2 _ D.i1z).trans q
    · exact n2.1.at fun o q => (sb.2 _ D.i2z).trans q
    · have lt : c < s.heap.objs.size := by
        simp only [List.mem_cons, List.not_mem_nil, or_false] at hcm
        obtain ⟨_, e1, _⟩ := h1
        obtain ⟨_, e2, _⟩ := h2
        rcases hcm with rfl | rfl | rfl | rfl | rfl
        · exact zl
        · exact Heap.lt_size hTI
        · exact Heap.lt_size hTO
        · exact Heap.lt_size e1
        · exact Heap.lt_size e2
      rw [upd_ne (Nat.ne_of_lt lt)]
      exact (hf c hcm).1
  done := by
    intro X hP hw hK hc i pins s σ H E I hf ⟨hz, hTI, ⟨x0, y0, hTO⟩, h1, h2⟩ ⟨xs, ys, hqx, hqy, e1, e2⟩
    subst hP hw hK
    obtain ⟨its, rv, p, _⟩ := I.list hqx
    obtain ⟨its2, rv2, p2, _⟩ := I.tuple hqy
    have l1 : i = its.toArray.size := by rw [List.size_toArray, ← rv.length, e1]
    have l2 : i = its2.toArray.size := by rw [List.size_toArray, ← rv2.length, e2]
    have hh : X.A.in1.handled = none := I.ok.hd hc
    refine wpAny_pyNext_zipD2_end (sep_of D) (Draws.list hh i1 a D.l1i1 its.toArray) (Draws.tuple hh i2 b D.l2i2 its2.toArray) hz hTI hTO ⟨h1, p.isList⟩ ⟨h2, p2⟩ (Nat.le_of_eq l1) (Nat.le_of_eq l2) (.inl l1) fun h' tk hk => ⟨rfl, I.turnedL (t' := tk) (ch := [z, TI, TO, i1, i2]) (fun c o hb q => ?_) hf⟩
    simp only [List.mem_cons, List.not_mem_nil, or_false, not_or] at hb
    exact hk c o hb.1 hb.2.2.1 hb.2.2.2.1 hb.2.2.2.2 q
  self := fun A i s Q E st h => wpAny_pyIter_zip st.1 h
def iZipM (K : PySem.W.Frag) (ta : TA) : TI := fun σ H R => ta σ H fun vs H1 => ∃ a b xs ys, vs = [.ref a, .ref b] ∧ SqL K H1 a xs ∧ SqT K H1 b ys ∧ R (ItzM K a b) H1
theorem pi_zipM {X : Cx} {e e2 : Expr} {ta : TA} {p pos tpos : Pos} {elts : List Expr} {kk : Nat} (hg : Gl X "zip") (hm : X.mg "zip" = none) (ha : PA X [e, e2] ta)
    (hs : starEach [e, e2] X.env = (false, eval e X.env) :: starEach [e2] X.env := by rfl) (hpl : (backTo pos (starEach [e2] X.env)).any (·.1) = false := by rfl) :
    PI X (.Tuple elts kk tpos) (.Call (.Name "zip" p) [e, e2] [] pos) (iZipM X.K ta) := by
  refine ⟨fun pins s σ H R I h => ?_⟩
  refine Call_ (ld_blt I hg hm PyProof.Rows.boot_zip (PyProof.Rows.callWith_type1 (thn (ha.run pos pins s σ H _ I h) fun us s1 ⟨vs, H1, I1, r1, q1⟩ => ?_) hs hpl))
  obtain ⟨a, b, xs, ys, rfl, hqx, hqy, q⟩ := q1
  cases r1 with
  | cons r rr =>
    cases rr with
    | cons r' rr =>
      cases rr
      cases r
      cases r'
      obtain ⟨its, _, p1, _⟩ := I1.list hqx
      obtain ⟨its2, _, p2, _⟩ := I1.tuple hqy
      have lb : b < s1.heap.objs.size := by obtain ⟨o, e, _⟩ := p2; exact Heap.lt_size e
      refine zip_begins2 (begins_list a its.toArray) (begins_tuple b its2.toArray) p1.isList p2 fun h' hz hTI hTO g1 g2 _ hk => wpAny_pyIter_zip hz ?_
      refine ⟨s1.heap.objs.size + 4, [s1.heap.objs.size + 4, s1.heap.objs.size + 2, s1.heap.objs.size + 3, s1.heap.objs.size, s1.heap.objs.size + 1], _, _, H1, rfl, I1.kept (t' := s1.toks) hk, turn_zipM (PySem.W.ktu_apart s1.heap.objs.size a b p1.lt lb), ⟨hz, hTI, ⟨_, _, hTO⟩, ⟨_, g1, rfl, rfl⟩, ⟨_, g2, rfl, rfl⟩⟩, fun c m => ?_, q⟩
      have le : s1.heap.objs.size ≤ c := by
        have m' : c = s1.heap.objs.size + 4 ∨ c = s1.heap.objs.size + 2 ∨ c = s1.heap.objs.size + 3 ∨ c = s1.heap.objs.size ∨ c = s1.heap.objs.size + 1 := by simpa using m
        rcases m' with m | m | m | m | m <;> rw [m] <;> first | exact Nat.le_refl _ | exact Nat.le_add_right _ _
      exact I1.fpOk le (I1.hok.fresh le)
/-- a loop over zip of a list and a tuple of one length -/
theorem for_zipM {K : PySem.W.Frag} {a b : Addr} {xs ys : List V} {g : TG} {tb : TS} {D : L2.Ends} {σ : L2.St} {H : Hp} (hl : xs.length = ys.length) (Pv : Nat → L2.St → Hp → Prop) (h0 : Pv 0 σ H) (hq : ∀ i σ H, Pv i σ H → SqL K H a xs ∧ SqT K H b ys)
    (hs : ∀ (i : Nat) (x y : V) (T : Addr) (σ : L2.St) (H : Hp), xs[i]? = some x → ys[i]? = some y → Pv i σ H → H T = none → g (.ref T) σ (upd H T (.tup [x, y])) fun σ2 H2 => tb { D with nx := Pv (i + 1), ct := Pv (i + 1), bk := D.nx } σ2 H2) (hd : ∀ σ H, Pv xs.length σ H → D.nx σ H) :
    ∃ W : Nat → Nat → L2.St → Hp → Prop, (∃ m, W 0 m σ H) ∧ ∀ i m σ H, W i m σ H →
      ((ItzM K a b).stop i H ∧ D.nx σ H) ∨ ((ItzM K a b).go i H ∧ ∃ N : L2.St → Hp → Prop, (∀ σ' H', N σ' H' → ∃ m', m' < m ∧ W (i + 1) m' σ' H') ∧ ∀ v H', (ItzM K a b).yld i H v H' → g v σ H' fun σ2 H2 => tb { D with nx := N, ct := N, bk := D.nx } σ2 H2) := by
  refine ⟨fun i m σ H => m = xs.length - i ∧ i ≤ xs.length ∧ Pv i σ H, ⟨xs.length, rfl, Nat.zero_le _, h0⟩, ?_⟩
  rintro i m σ H ⟨rfl, hi, p⟩
  obtain ⟨qx, qy⟩ := hq i σ H p
  rcases Nat.lt_or_eq_of_le hi with lt | rfl
  · have lt2 : i < ys.length := by omega
    refine .inr ⟨⟨xs, ys, _, _, qx, qy, List.getElem?_eq_getElem lt, List.getElem?_eq_getElem lt2⟩, Pv (i + 1), fun σ' H' p' => ⟨xs.length - (i + 1), by omega, rfl, lt, p'⟩, fun v H' y => ?_⟩
    obtain ⟨T, x', y', rfl, hT, rfl, f1, f2⟩ := y
    exact hs i x' y' T σ H (f1 xs qx) (f2 ys qy) p hT
  · exact .inl ⟨⟨xs, ys, qx, qy, rfl, hl.symm⟩, hd σ H p⟩
/-! ### xs or ys, xs a list -/
section
variable {X : Cx} {a b : Expr} {ta tb : TE} {pos : Pos}
def tOrL (K : PySem.W.Frag) (ta tb : TE) : TE := fun σ H Q => ta σ H fun x H1 => ∃ (p : Addr) (xs : List V), x = .ref p ∧ SqL K H1 p xs ∧ (xs ≠ [] → Q (.ref p) H1) ∧ (xs = [] → tb σ H1 Q)
theorem pe_orL (ha : PE X a ta) (hb : PE X b tb) : PE X (.BoolOp .Or [a, b] pos) (tOrL X.K ta tb) := by
  refine ⟨fun pins s σ H Q I h => ?_⟩
  refine BoolOp_or (thn (ha.run pins s σ H _ I h) fun v s1 ⟨x, H1, I1, r1, q1⟩ => ?_)
  obtain ⟨p, xs, rfl, hs, q0, q1⟩ := q1
  cases r1
  obtain ⟨its, r, pl, hz⟩ := I1.list hs
  have hlen := r.length
  refine wpAny_truthy_list pl.isList (by have z : sizeLine < 2 ^ 62 := by decide
                                         simp only [List.size_toArray]; omega) ?_
  rw [isEmpty_of r]
  by_cases c : xs = []
  · subst c
    show wpAny _ _ (eval (.BoolOp .Or [b] pos) X.env) _ _ _
    exact (pe_one hb).run pins _ σ H1 Q (I1.tok _) (q1 rfl)
  · have e : (!xs.isEmpty) = true := by
      cases xs with
      | nil => exact absurd rfl c
      | cons _ _ => rfl
    rw [e]
    exact ⟨.ref p, H1, I1.tok _, rfl, q0 c⟩
end
/-! ### k47: between -/
def begAt (L : List Stp) (i : Nat) : Str := if 0 < i then (L[i - 1]?).elim gNone (fun x => x.2.2.1) else gNone
def endAt (L : List Stp) (i : Nat) : Option Str := (L[i]?).map fun x => x.2.1
def endV (o : Option Str) : V := o.elim .non .str
/-- the rows of a note by the book -/
def rowsN (bs : List Pg) (s : Str) (n : Int) : List Stp := (sortS (rowsP bs)).filter (chose s n)
def spEnds (P : Addr) : Sp := fun vs H Q _ => ∃ (b t : Addr) (bs : List Pg) (s : Str) (n : Int) (i : Nat), vs = [.ref b, .ref t, .int i] ∧ BkY H b bs ∧ bs.length ≤ 1000 ∧ (bs.map (·.1)).Nodup ∧ NtAt H t s n ∧ i ≤ (rowsN bs s n).length ∧ TabL H P qSteps ∧
  ∀ (r : Addr) (H' : Hp), But P H H' → TabL H' P qSteps → H r = none → H' r = some (.tup [.str (begAt (rowsN bs s n) i), endV (endAt (rowsN bs s n) i)]) → Q (.ref r) H'
def rchB (E : List Ed) (x : Str) (o : Option Str) : Prop := ∀ y, o = some y → ∃ n, Wlk E n x y
def spBetw (P : Addr) : Sp := fun vs H Q _ => ∃ (o b t : Addr) (ws : List Wt) (E : List Ed) (bs : List Pg) (s : Str) (n : Int) (i : Nat), vs = [.ref o, .ref b, .ref t, .int i] ∧ OfAt H o ws E ∧ E.length ≤ 16 ∧ BkY H b bs ∧ bs.length ≤ 1000 ∧ (bs.map (·.1)).Nodup ∧ NtAt H t s n ∧ i ≤ (rowsN bs s n).length ∧ TabL H P qSteps ∧
  ∀ (r : Addr) (ys : List Str) (H' : Hp), But P H H' → TabL H' P qSteps → H r = none → H' r = some (.tup (ys.map V.str)) → ys.Pairwise sl → ys.length ≤ 17 → (∀ y, y ∈ ys ↔ (∃ m, Wlk E m (begAt (rowsN bs s n) i) y) ∧ rchB E y (endAt (rowsN bs s n) i)) → Q (.ref r) H'
def OfOk1 (ws : List Wt) (E : List Ed) : Prop := OfOk ws E ∧ 0 < E.length ∧ ∃ k, 0 < k ∧ ws.map (·.1) = gSer.take k
def spOffice1 : Sp := fun vs H Q _ => ∃ (f c : Addr) (n : Int), vs = [.ref f] ∧ Fd H f c n ∧ n ≤ 900000 ∧
  ∀ (o : Addr) (ws : List Wt) (E : List Ed) (H' : Hp), Fd H' f c (n + 200) → But f H H' → H o = none → OfAt H' o ws E → OfOk1 ws E → Q (.ref o) H'
theorem but_free {P p : Addr} {q : Str} {H H' : Hp} (b : But P H H') (hT1 : TabL H' P q) (n : H' p = none) : H p = none := by
  cases e : H p with
  | none => rfl
  | some o =>
    obtain ⟨φ1, hP1⟩ := hT1.at
    have z := b p o (fun z => by rw [z, hP1] at n; cases n) e
    rw [n] at z
    cases z
theorem But.nx {P : Addr} {q : Str} {H H' : Hp} (b : But P H H') (hT : TabL H P q) : NeX H H' := by
  obtain ⟨φ, hP⟩ := hT.at
  exact NeX.of_but hP b
/-! ### the books that the laws of offices draw -/
theorem Tk.butD {H H' : Hp} {f c : Addr} {n : Int} (hf : Fd H f c n) (b : But f H H') : Tk H H' := fun p xs h => by
  obtain ⟨zs, hz⟩ := hf.at
  exact b p _ (ne_of h hz (fun z => nomatch z)) h
theorem Fd.nx {H H' : Hp} {f c : Addr} {n : Int} (x : NeX H H') (h : Fd H f c n) : Fd H' f c n := by
  obtain ⟨cells, k, g, h1, h2, h3⟩ := h
  exact ⟨cells, k, g, x _ _ (fun φ z => nomatch z) h1, x _ _ (fun φ z => nomatch z) h2, h3⟩
def NmF (n : Nm) : Prop := 0 ≤ n.1 ∧ n.1 ≤ 99999 ∧ 0 ≤ n.2.1 ∧ n.2.1 ≤ 999 ∧ NmOk n.2.2
def nmLe (a b : Nm) : Prop := PySem.W.dataLe false nmD a b = true
def gHands : List Str := [("a" : String), ("ab" : String), ("zzzzzzzz" : String)]
theorem gh_ok : ∀ x ∈ gHands, NmOk x := by
  intro x hx
  simp only [gHands, List.mem_cons, List.not_mem_nil, or_false] at hx
  rcases hx with rfl | rfl | rfl <;> exact ⟨by decide +kernel, by decide +kernel⟩
theorem nms_sorted (ns : List Nm) : (ns.mergeSort (PySem.W.dataLe false nmD)).Pairwise nmLe := by
  have T := PySem.W.sortLe_total (PyProof.Rows.listOrd PyProof.Rows.itemOrd) false fun s => PySem.W.keyToks (nmD s)
  exact List.pairwise_mergeSort (le := PySem.W.dataLe false nmD) T.trans (fun a b => Bool.or_eq_true_iff.mpr (T.total a b)) ns
def spNamesF : Sp := fun vs H Q _ => ∃ (f c : Addr) (m : Nat) (n : Int), vs = [.ref f, .int m] ∧ Fd H f c n ∧ n ≤ 900000 ∧ m ≤ 40 ∧
  ∀ (l : Addr) (ps : List Addr) (ns : List Nm) (H' : Hp), Fd H' f c (n + 240) → But f H H' → H l = none → H' l = some (.lst (ps.map V.ref)) → Nms H' ps ns → ns.length ≤ m → ns.Nodup → (∀ e ∈ ns, NmF e) → ns.Pairwise nmLe → Q (.ref l) H'
theorem fewD {e1 e2 d : Int} (h0 : 0 ≤ d) (h1 : d < 4) (a0 : 0 ≤ e1) (a1 : e1 < 6) (b0 : 0 ≤ e2) (b1 : e2 < 100000) : ∃ k : Int, 0 ≤ k ∧ k ≤ 99999 ∧ atI [V.int e1, .int 7, .int 99999, .int e2] d = some (.int k) := by
  rcases (show d = 0 ∨ d = 1 ∨ d = 2 ∨ d = 3 by omega) with rfl | rfl | rfl | rfl
  · exact ⟨e1, by omega, by omega, rfl⟩
  · exact ⟨7, by omega, by omega, rfl⟩
  · exact ⟨99999, by omega, by omega, rfl⟩
  · exact ⟨e2, by omega, by omega, rfl⟩
theorem fewM {e1 d : Int} (h0 : 0 ≤ d) (h1 : d < 3) (a0 : 0 ≤ e1) (a1 : e1 < 3) : ∃ k : Int, 0 ≤ k ∧ k ≤ 999 ∧ atI [V.int 0, .int e1, .int 999] d = some (.int k) := by
  rcases (show d = 0 ∨ d = 1 ∨ d = 2 by omega) with rfl | rfl | rfl
  · exact ⟨0, by omega, by omega, rfl⟩
  · exact ⟨e1, by omega, by omega, rfl⟩
  · exact ⟨999, by omega, by omega, rfl⟩
/-! runs of parts of a field -/
structure FlOk (base wide : Int) : Prop where
  b0 : 0 ≤ base
  w1 : 1 ≤ wide
  top : base + 8 * wide ≤ 1000000000
def RkF (ws : List Wt) (base wide : Int) (r : Rn) : Prop := r.1 ∈ ws.map (·.1) ∧ ∃ p q : Nat, p < q ∧ q ≤ 8 ∧ r.2.1 = base + (p : Int) * wide ∧ r.2.2 = base + (q : Int) * wide
structure RsF (ws : List Wt) (base wide : Int) (rs : List Rn) : Prop where
  ca : Canon rs
  k : ∀ r ∈ rs, RkF ws base wide r
  len : rs.length ≤ 16
def FlAt (H : Hp) (t : Addr) (base wide : Int) : Prop := H t = some (.tup [.int base, .int wide])
def spRunsF : Sp := fun vs H Q _ => ∃ (f c o d : Addr) (n : Int) (ws : List Wt) (E : List Ed) (base wide : Int), vs = [.ref f, .ref o, .ref d] ∧ Fd H f c n ∧ n ≤ 900000 ∧ OfAt H o ws E ∧ OfOk1 ws E ∧ FlAt H d base wide ∧ FlOk base wide ∧
  ∀ (u : Addr) (rs : List Rn) (H' : Hp), Fd H' f c (n + 10) → But f H H' → H u = none → RnsT H' u rs → RsF ws base wide rs → Q (.ref u) H'
theorem gser_up (k : Nat) : (gSer.take k).Pairwise sl := List.Pairwise.sublist (List.take_sublist _ _) (show gSer.Pairwise sl by unfold gSer sl; decide +kernel)
theorem join_mem {acc : List Rn} {r x : Rn} (h : x ∈ join acc r) : x ∈ acc ∨ x = r ∨ ∃ l ∈ acc, l.1 = r.1 ∧ l.2.2 = r.2.1 ∧ x = (r.1, l.2.1, r.2.2) := by
  rcases nil_or_snoc acc with rfl | ⟨i, l, rfl⟩
  · exact .inr (.inl (List.mem_singleton.mp h))
  rw [join_snoc] at h
  split at h
  · rename_i c
    rcases List.mem_append.mp h with h | h
    · exact .inl (List.mem_append_left _ h)
    · exact .inr (.inr ⟨l, List.mem_append_right _ List.mem_cons_self, c.1, c.2, List.mem_singleton.mp h⟩)
  · rcases List.mem_append.mp h with h | h
    · exact .inl h
    · exact .inr (.inl (List.mem_singleton.mp h))
/-- the runs so far: all of series ahead, or of this one up to a part -/
structure RsI (ws : List Wt) (base wide : Int) (s : Str) (p : Nat) (acc : List Rn) : Prop where
  ca : Canon acc
  k : ∀ r ∈ acc, RkF ws base wide r
  hi : ∀ r ∈ acc, (r.1 = s ∧ r.2.2 ≤ base + (p : Int) * wide) ∨ sl r.1 s
theorem RsI.more {ws : List Wt} {base wide : Int} {s : Str} {p : Nat} {acc : List Rn} (h : RsI ws base wide s p acc) (w : 1 ≤ wide) : RsI ws base wide s (p + 1) acc := ⟨h.ca, h.k, fun r hr => (h.hi r hr).imp (fun z => ⟨z.1, by
  rw [show ((p + 1 : Nat) : Int) = (p : Int) + 1 by omega, Int.add_mul]
  omega⟩) id⟩
theorem RsI.join {ws : List Wt} {base wide : Int} {s : Str} {p : Nat} {acc : List Rn} (h : RsI ws base wide s p acc) (w : 1 ≤ wide) (hs : s ∈ ws.map (·.1)) (hp : p < 8) : RsI ws base wide s (p + 1) (join acc (s, base + (p : Int) * wide, base + (p : Int) * wide + wide)) := by
  have e1 : base + ((p + 1 : Nat) : Int) * wide = base + (p : Int) * wide + wide := by
    rw [show ((p + 1 : Nat) : Int) = (p : Int) + 1 by omega, Int.add_mul]
    omega
  have vk : ∀ x, acc.getLast? = some x → Vk x (s, base + (p : Int) * wide, base + (p : Int) * wide + wide) := fun x hx => (h.hi x (List.mem_of_getLast? hx)).imp id id
  obtain ⟨j1, j2⟩ := join_push (r := (s, base + (p : Int) * wide, base + (p : Int) * wide + wide)) vk (by show base + (p : Int) * wide < base + (p : Int) * wide + wide; omega)
  have wk : ∀ x, acc.getLast? = some x → Wk x (s, base + (p : Int) * wide, base + (p : Int) * wide + wide) := fun x hx => by
    have f := h.ca.2 x (List.mem_of_getLast? hx)
    rcases vk x hx with ⟨a, b⟩ | z
    · exact .inl ⟨a, by have b : x.2.2 ≤ base + (p : Int) * wide := b; show x.2.1 ≤ base + (p : Int) * wide; omega⟩
    · exact .inr z
  obtain ⟨c1, _, _⟩ := push_ok h.ca wk (by show base + (p : Int) * wide < base + (p : Int) * wide + wide; omega)
  refine ⟨by rw [j1]; exact c1, fun r hr => ?_, fun r hr => ?_⟩
  · rcases join_mem hr with z | rfl | ⟨l, hl, a, b, rfl⟩
    · exact h.k r z
    · exact ⟨hs, p, p + 1, by omega, by omega, rfl, e1.symm⟩
    · obtain ⟨_, p', q', pq, q8, l1, l2⟩ := h.k l hl
      refine ⟨hs, p', p + 1, ?_, by omega, l1, e1.symm⟩
      have f := h.ca.2 l hl
      have b : l.2.2 = base + (p : Int) * wide := b
      rw [l1, b] at f
      have f : (p' : Int) * wide < (p : Int) * wide := by omega
      have := Int.lt_of_mul_lt_mul_right f (by omega)
      omega
  · rcases join_mem hr with z | rfl | ⟨l, hl, a, b, rfl⟩
    · exact (h.more w).hi r z
    · exact .inl ⟨rfl, Int.le_of_eq e1.symm⟩
    · exact .inl ⟨rfl, Int.le_of_eq e1.symm⟩
def spFieldF : Sp := fun vs H Q _ => ∃ (f c : Addr) (n : Int), vs = [.ref f] ∧ Fd H f c n ∧ n ≤ 900000 ∧
  ∀ (t : Addr) (base wide : Int) (H' : Hp), Fd H' f c (n + 3) → But f H H' → H t = none → FlAt H' t base wide → FlOk base wide → Q (.ref t) H'
/-! deeds -/
def DdF (ws : List Wt) (E : List Ed) (base wide : Int) : Dd → Prop
  | .mv a b rs => (a, b) ∈ E ∧ RsF ws base wide rs
  | .bag a b n => (a, b) ∈ E ∧ a ≠ gNone ∧ 1 ≤ n ∧ n ≤ 1000000000
  | .rd m rs => NmF m ∧ RsF ws base wide rs
  | .ct a n => (∃ b, (b, a) ∈ E) ∧ 0 ≤ n ∧ n ≤ 8
  | .vd m => NmF m
def spDeedF : Sp := fun vs H Q _ => ∃ (f c o d L B : Addr) (n : Int) (ws : List Wt) (E : List Ed) (base wide : Int) (w : Str) (ps qs : List Addr) (ns ms : List Nm), vs = [.ref f, .ref o, .ref d, .str w, .ref L, .ref B] ∧ Fd H f c n ∧ n ≤ 880000 ∧ OfAt H o ws E ∧ OfOk1 ws E ∧ FlAt H d base wide ∧ FlOk base wide ∧
  H L = some (.lst (ps.map V.ref)) ∧ L ≠ f ∧ Nms H ps ns ∧ ns.length ≤ 40 ∧ (∀ e ∈ ns, NmF e) ∧ H B = some (.lst (qs.map V.ref)) ∧ B ≠ f ∧ Nms H qs ms ∧ ms.length ≤ 40 ∧ (∀ e ∈ ms, NmF e) ∧
  ∀ (t : Addr) (dd : Dd) (H' : Hp), Fd H' f c (n + 20) → But f H H' → H t = none → DdAt H' t dd → DdF ws E base wide dd → Q (.ref t) H'
def spBookG : Sp := fun vs H Q _ => ∃ (f c o d : Addr) (m : Nat) (n : Int) (ws : List Wt) (E : List Ed) (base wide : Int), vs = [.ref f, .ref o, .ref d, .int m] ∧ Fd H f c n ∧ n ≤ 800000 ∧ OfAt H o ws E ∧ OfOk1 ws E ∧ FlAt H d base wide ∧ FlOk base wide ∧ m ≤ 40 ∧
  ∀ (t : Addr) (gs : List Pg) (H' : Hp), Fd H' f c (n + 2000) → But f H H' → H t = none → BkF H' t gs → gs.length ≤ m → (gs.map (·.1)).Nodup → (∀ g ∈ gs, NmF g.1 ∧ DdF ws E base wide g.2) → (gs.map (·.1)).Pairwise nmLe → Q (.ref t) H'
theorem cut_two (xs : List V) (a b : Nat) (h : a ≤ xs.length) : cutV xs (some (a : Int)) (some (b : Int)) = (xs.drop a).take (b - a) := by
  unfold cutV
  rw [HT.sIx_nat, HT.sIx_nat, Nat.min_eq_left h]
  rcases Nat.le_total b xs.length with k | k
  · rw [Nat.min_eq_left k]
  · rw [Nat.min_eq_right k, List.take_of_length_le (by rw [List.length_drop]; exact Nat.le_refl _), List.take_of_length_le (by rw [List.length_drop]; omega)]
def sqO (b : Bool) (xs : List V) : HO := if b = true then .lst xs else .tup xs
theorem SqB.of {b : Bool} {K : PySem.W.Frag} {H : Hp} {a : Addr} {xs : List V} (h : H a = some (sqO b xs)) : SqB b K H a xs := by
  cases b
  · exact SqT.of h
  · exact SqL.of h
theorem SqB.or {b : Bool} {K : PySem.W.Frag} {H : Hp} {a : Addr} {xs : List V} (h : SqB b K H a xs) : SqL K H a xs ∨ SqT K H a xs := by
  cases b
  · exact .inr h
  · exact .inl h
theorem ixa_of {b : Bool} {K : PySem.W.Frag} {H : Hp} {a : Addr} {xs : List V} {i : Int} {x : V} {Q : VK} (h : SqB b K H a xs) (e : atI xs i = some x) (q : Q x H) : rIxA K (.ref a) (.int i) H Q := by
  cases b
  · exact .inr ⟨a, _, _, _, rfl, rfl, h, e, q⟩
  · exact .inl ⟨a, _, _, _, rfl, rfl, h, e, q⟩
def nmQ : Nm := (8, 8, (("q" : String) : Str))
theorem nmQ_ok : NmF nmQ := ⟨by decide, by decide, by decide, by decide, by decide +kernel, by decide +kernel⟩
def gMenuF : List Str := [("move" : String), ("move" : String), ("move" : String), ("bag" : String), ("read" : String), ("move" : String), ("bag" : String), ("read" : String), ("move" : String), ("count" : String), ("void" : String)]
/-! rows as the law tells them -/
def S5At (H : Hp) (p : Addr) (s : Stp) : Prop := ∃ a b u : Addr, H p = some (.tup [.ref a, .ref b, .str s.2.1, .str s.2.2.1, .ref u]) ∧ H a = some (.tup (nmV s.1)) ∧ H b = some (.tup (nmV s.2.2.2.1)) ∧ RnsT H u s.2.2.2.2
abbrev S5s (H : Hp) (ps : List Addr) (ss : List Stp) : Prop := Paired (S5At H) ps ss
theorem S5At.tk {H H' : Hp} {p : Addr} {s : Stp} (t : Tk H H') (h : S5At H p s) : S5At H' p s := by
  obtain ⟨a, b, u, h1, h2, h3, h4⟩ := h
  exact ⟨a, b, u, t _ _ h1, t _ _ h2, t _ _ h3, h4.tk t⟩
theorem S5s.tk {H H' : Hp} {ps : List Addr} {ss : List Stp} (t : Tk H H') (h : S5s H ps ss) : S5s H' ps ss := paired_imp (fun _ _ => S5At.tk t) h
def s5D (s : Stp) : PyData := .tuple [nmD s.1, nmD s.2.2.2.1, .str s.2.1, .str s.2.2.1, .tuple (s.2.2.2.2.map rnD)]
theorem S5s.dp {K : PySem.W.Frag} {H : Hp} : ∀ {ps : List Addr} {ss : List Stp}, S5s H ps ss → DpAll K H (ps.map V.ref) (ss.map s5D)
  | _, _, .nil => .nil
  | _, _, .cons ⟨a, b, u, h1, h2, h3, us, h4, h5, _⟩ r => .cons (.tup (SqT.of h1) (.cons (nmD_dp h2) (.cons (nmD_dp h3) (.cons (.str _) (.cons (.str _) (.cons (.tup (SqT.of h4) (prd_all h5)) .nil)))))) (S5s.dp r)
def cstp (gs : List Pg) (g : Pg) : List Stp := if standS gs g = wCd then stp gs g else []
theorem cstp_all (gs : List Pg) : ∀ l : List Pg, l.flatMap (cstp gs) = (l.filter fun g => decide (standS gs g = wCd)).flatMap (stp gs)
  | [] => rfl
  | g :: l => by
    rw [List.flatMap_cons, cstp_all gs l, List.filter_cons]
    unfold cstp
    by_cases c : standS gs g = wCd
    · rw [if_pos c, if_pos (decide_eq_true c), List.flatMap_cons]
    · rw [if_neg c, if_neg (fun z => c (of_decide_eq_true z))]
      rfl
theorem cstp_rows (gs : List Pg) : gs.flatMap (cstp gs) = rowsP gs := cstp_all gs gs
theorem cstp_len (gs : List Pg) : ∀ l : List Pg, (l.flatMap (cstp gs)).length ≤ l.length
  | [] => Nat.le_refl _
  | g :: l => by
    rw [List.flatMap_cons, List.length_append, List.length_cons]
    have := cstp_len gs l
    have z : (cstp gs g).length ≤ 1 := by
      unfold cstp
      split
      · exact stp_len gs g
      · exact Nat.zero_le _
    omega
def voidL (gs : List Pg) : List Nm := gs.flatMap fun g => voidOf g.2
theorem voidL_mem {gs : List Pg} {n : Nm} : n ∈ voidL gs ↔ n ∈ voids gs := by
  rw [voids_mem, voidL, List.mem_flatMap]
theorem voidOf_len (d : Dd) : (voidOf d).length ≤ 1 := by cases d <;> simp [voidOf]
theorem voidL_len : ∀ gs : List Pg, (voidL gs).length ≤ gs.length
  | [] => Nat.le_refl _
  | g :: gs => by
    show ((g :: gs).flatMap _).length ≤ _
    rw [List.flatMap_cons, List.length_append, List.length_cons]
    have := voidL_len gs
    have := voidOf_len g.2
    unfold voidL at *
    omega
theorem cstp_mv {gs : List Pg} {nm : Nm} {a b : Str} {rs : List Rn} : cstp gs (nm, .mv a b rs) = if nm ∈ voids gs then [] else [(nm, a, b, nm, rs)] := by
  unfold cstp standS
  rw [if_neg (show wOf (.mv a b rs) ≠ wVoid by show wMove ≠ wVoid; decide +kernel)]
  by_cases c : nm ∈ voids gs
  · rw [if_pos c, if_pos c, if_neg (show (("voided" : String) : Str) ≠ wCd by decide +kernel)]
  · rw [if_neg c, if_neg c]
    exact if_pos rfl
theorem cstp_rd {gs : List Pg} {nm m : Nm} {rs : List Rn} : cstp gs (nm, .rd m rs) = if nm ∈ voids gs then [] else if cbB gs m = true then [(m, (abN gs m).1, (abN gs m).2, nm, rs)] else [] := by
  unfold cstp standS
  rw [if_neg (show wOf (.rd m rs) ≠ wVoid by show wRead ≠ wVoid; decide +kernel)]
  by_cases c : nm ∈ voids gs
  · rw [if_pos c, if_pos c, if_neg (show (("voided" : String) : Str) ≠ wCd by decide +kernel)]
  · rw [if_neg c, if_neg c]
    show (if (if cbB gs m = true then (("counted" : String) : Str) else (("waiting" : String) : Str)) = wCd then _ else _) = _
    by_cases k : cbB gs m = true
    · rw [if_pos k, if_pos k]
      exact if_pos rfl
    · rw [if_neg k, if_neg k]
      exact if_neg (show (("waiting" : String) : Str) ≠ wCd by decide +kernel)
theorem cstp_else {gs : List Pg} {g : Pg} (h : stp gs g = []) : cstp gs g = [] := by
  unfold cstp
  split
  · exact h
  · rfl
theorem s5_alike (ss : List Stp) : PySem.W.Sortable (ss.map s5D) := by
  refine Or.inl fun d hd => ?_
  obtain ⟨a, _, rfl⟩ := List.mem_map.mp hd
  exact ⟨_, _, rfl⟩
def spToldF : Sp := fun vs H Q _ => ∃ (b : Addr) (gs : List Pg), vs = [.ref b] ∧ BkF H b gs ∧ gs.length ≤ 100 ∧ (gs.map (·.1)).Nodup ∧
  ∀ (l : Addr) (ps : List Addr) (H' : Hp), Same H H' → H l = none → H' l = some (.lst (ps.map V.ref)) → S5s H' ps (sortS (rowsP gs)) → Q (.ref l) H'
theorem lexLt_app2 (O : PyProof.Rows.KeyOrd) : ∀ {xs ys s t : List O.α}, xs.length = ys.length → xs ≠ ys → PyProof.Rows.lexLt O (xs ++ s) (ys ++ t) = PyProof.Rows.lexLt O xs ys
  | [], [], _, _, _, n => absurd rfl n
  | x :: xs, y :: ys, s, t, l, n => by
    show (O.blt x y || (!O.blt y x && PyProof.Rows.lexLt O (xs ++ s) (ys ++ t))) = (O.blt x y || (!O.blt y x && PyProof.Rows.lexLt O xs ys))
    cases h1 : O.blt x y with
    | true => rfl
    | false =>
      cases h2 : O.blt y x with
      | true => rfl
      | false =>
        have e := O.total x y h1 h2
        subst e
        rw [lexLt_app2 O (by simpa using l) fun z => n (by rw [z])]
theorem nmD_toks2 (n m : Nm) : (PySem.W.keyToks (nmD n)).length = (PySem.W.keyToks (nmD m)).length ∧ (n ≠ m → PySem.W.keyToks (nmD n) ≠ PySem.W.keyToks (nmD m)) := by
  obtain ⟨n1, n2, n3⟩ := n
  obtain ⟨m1, m2, m3⟩ := m
  refine ⟨by simp [nmD, PySem.W.keyToks, PySem.W.keyToksAll], fun ne h => ne ?_⟩
  simp only [nmD, PySem.W.keyToks, PySem.W.keyToksAll, List.cons_append, List.nil_append, List.cons.injEq, Sum.inl.injEq, Sum.inr.injEq, true_and, and_true] at h
  obtain ⟨rfl, rfl, h⟩ := h
  rw [PySem.W.str_of_cps h]
def pToks (y : Stp) : List (Int ⊕ List Nat) := Sum.inl 1 :: (PySem.W.keyToks (nmD y.1) ++ (Sum.inl 1 :: PySem.W.keyToks (nmD y.2.2.2.1)))
theorem s5_le {a b : Stp} (n : a.2.2.2.1 ≠ b.2.2.2.1) : PySem.W.dataLe false s5D a b = PySem.W.dataLe false keyS a b := by
  obtain ⟨l1, _⟩ := nmD_toks2 b.1 a.1
  obtain ⟨l2, ne2⟩ := nmD_toks2 b.2.2.2.1 a.2.2.2.1
  have ne2 := ne2 (Ne.symm n)
  have len : (pToks b).length = (pToks a).length := by
    unfold pToks
    simp [l1, l2]
  have ne : pToks b ≠ pToks a := fun h => by
    unfold pToks at h
    injection h with _ h
    obtain ⟨_, h⟩ := List.append_inj h l1
    injection h with _ h
    exact ne2 h
  have e1 : ∀ y : Stp, PySem.W.keyToks (s5D y) = pToks y ++ PySem.W.keyToksAll [.str y.2.1, .str y.2.2.1, .tuple (y.2.2.2.2.map rnD)] := fun y => by
    simp [s5D, pToks, PySem.W.keyToks, PySem.W.keyToksAll]
  have e2 : ∀ y : Stp, PySem.W.keyToks (keyS y) = pToks y ++ [Sum.inl 0] := fun y => by
    simp [keyS, pToks, PySem.W.keyToks, PySem.W.keyToksAll]
  show (!PyProof.Rows.lexLt PyProof.Rows.itemOrd (PySem.W.keyToks (s5D b)) (PySem.W.keyToks (s5D a))) = (!PyProof.Rows.lexLt PyProof.Rows.itemOrd (PySem.W.keyToks (keyS b)) (PySem.W.keyToks (keyS a)))
  rw [e1, e1, e2, e2, lexLt_app2 _ len ne, lexLt_app2 _ len ne]
theorem s5_sort {l : List Stp} (one : ∀ x ∈ l, ∀ y ∈ l, x.2.2.2.1 = y.2.2.2.1 → x = y) : l.mergeSort (PySem.W.dataLe false s5D) = sortS l := by
  have T := PySem.W.sortLe_total (PyProof.Rows.listOrd PyProof.Rows.itemOrd) false fun s => PySem.W.keyToks (s5D s)
  have T2 := PySem.W.sortLe_total (PyProof.Rows.listOrd PyProof.Rows.itemOrd) false fun s => PySem.W.keyToks (keyS s)
  have h2 := List.pairwise_mergeSort (le := PySem.W.dataLe false s5D) T.trans (fun a b => Bool.or_eq_true_iff.mpr (T.total a b)) l
  have pm := List.mergeSort_perm l (PySem.W.dataLe false s5D)
  refine sortS_uniq pm (h2.imp_of_mem fun {a b} ha hb k => ?_) fun x hx y hy => one x (pm.mem_iff.mp hx) y (pm.mem_iff.mp hy)
  by_cases c : a.2.2.2.1 = b.2.2.2.1
  · rw [one a (pm.mem_iff.mp ha) b (pm.mem_iff.mp hb) c]
    rcases T2.total b b with z | z <;> exact z
  · rw [← s5_le c]
    exact k
theorem rns_alike2 : ∀ a b : List Rn, PySem.W.alikeAll (a.map rnD) (b.map rnD) = true
  | [], b => by cases b <;> simp [PySem.W.alikeAll]
  | x :: a, [] => by simp [PySem.W.alikeAll]
  | x :: a, y :: b => by
    have z := rns_alike2 a b
    rw [List.map_cons, List.map_cons]
    simp [PySem.W.alikeAll, PySem.W.alike, rnD, z]
theorem s5_alikes (ss : List Stp) : PySem.W.AllAlike (ss.map s5D) := by
  intro d hd e he
  obtain ⟨a, _, rfl⟩ := List.mem_map.mp hd
  obtain ⟨b, _, rfl⟩ := List.mem_map.mp he
  simp [s5D, nmD, PySem.W.alike, PySem.W.alikeAll, rns_alike2]
theorem s5_depth (ss : List Stp) : ∀ d ∈ ss.map s5D, d.depth ≤ 60 := by
  intro d hd
  obtain ⟨a, _, rfl⟩ := List.mem_map.mp hd
  have d2 : ∀ E : List Rn, PyData.depthAll (E.map rnD) ≤ 3 := fun E => by
    induction E with
    | nil => simp [PyData.depthAll]
    | cons s l ih => rw [List.map_cons]; simp only [PyData.depthAll, rnD, PyData.depth] at *; omega
  have := d2 a.2.2.2.2
  simp only [s5D, nmD, PyData.depth, PyData.depthAll]
  omega
def spOfF : Sp := fun vs H Q _ => ∃ (u t : Addr) (rs : List Rn) (s : Str) (n : Int), vs = [.ref u, .ref t] ∧ RnsT H u rs ∧ NtAt H t s n ∧ ∀ H', Same H H' → Q (.bl (hasR rs s n)) H'
def spRowsF : Sp := fun vs H Q _ => ∃ (l t : Addr) (ps : List Addr) (ss : List Stp) (s : Str) (n : Int), vs = [.ref l, .ref t] ∧ H l = some (.lst (ps.map V.ref)) ∧ S5s H ps ss ∧ ss.length ≤ 1000 ∧ NtAt H t s n ∧
  ∀ (r : Addr) (qs : List Addr) (H' : Hp), Same H H' → H r = none → H' r = some (.lst (qs.map V.ref)) → S5s H' qs (ss.filter (chose s n)) → Q (.ref r) H'
theorem SqT.fz {K : PySem.W.Frag} {H : Hp} {a : Addr} {o : Obj} {xs : List V} (h : H a = some (.frz o (.tup xs))) : SqT K H a xs := .inl (.inr ⟨o, h⟩)
theorem inV_bls (xs : List Bool) : inV (.bl true) (xs.map V.bl) = xs.any id := by
  unfold inV
  rw [List.any_map]
  congr 1
  funext b
  cases b <;> rfl
theorem flat_bls (xs : List Bool) : (xs.map V.bl).all flatV = true := by
  rw [List.all_map, List.all_eq_true]
  exact fun _ _ => rfl
/-! notes of a field -/
def NtF (e : Str × Int) : Prop := NmOk e.1 ∧ -1 ≤ e.2 ∧ e.2 ≤ 1000000000
def spNotesF : Sp := fun vs H Q _ => ∃ (f c o d : Addr) (n : Int) (ws : List Wt) (E : List Ed) (base wide : Int), vs = [.ref f, .ref o, .ref d] ∧ Fd H f c n ∧ n ≤ 900000 ∧ OfAt H o ws E ∧ OfOk1 ws E ∧ FlAt H d base wide ∧ FlOk base wide ∧
  ∀ (l : Addr) (ps : List Addr) (es : List (Str × Int)) (H' : Hp), Fd H' f c (n + 40) → But f H H' → H l = none → H' l = some (.lst (ps.map V.ref)) → NtsE H' ps es → es.length ≤ 50 → 0 < es.length → (∀ e ∈ es, NtF e) → Q (.ref l) H'
def spChosenF : Sp := fun vs H Q _ => ∃ (f c l : Addr) (m : Nat) (n : Int) (ps : List Addr) (es : List (Str × Int)), vs = [.ref f, .ref l, .int m] ∧ Fd H f c n ∧ n ≤ 900000 ∧ m ≤ 100 ∧ H l = some (.lst (ps.map V.ref)) ∧ l ≠ f ∧ NtsE H ps es ∧ es.length ≤ 100 ∧ (∀ e ∈ es, NtF e) ∧
  ∀ (k : Addr) (qs : List Addr) (fs : List (Str × Int)) (H' : Hp), Fd H' f c (n + 100) → But f H H' → H k = none → H' k = some (.lst (qs.map V.ref)) → NtsE H' qs fs → fs.length ≤ 100 → (∀ e ∈ fs, NtF e) → Q (.ref k) H'
theorem paired_erase {α β : Type} {F : α → β → Prop} : ∀ {as : List α} {bs : List β} (i : Nat), Paired F as bs → Paired F (as.eraseIdx i) (bs.eraseIdx i)
  | _, _, _, .nil => .nil
  | _, _, 0, .cons _ b => b
  | _, _, i + 1, .cons a b => .cons a (paired_erase i b)
theorem q_ok : NmOk (("q" : String) : Str) := ⟨by decide +kernel, by decide +kernel⟩
theorem aaa_ok : NmOk (("aaa" : String) : Str) := ⟨by decide +kernel, by decide +kernel⟩
theorem erase_map {α β : Type} (f : α → β) : ∀ (l : List α) (i : Nat), (l.map f).eraseIdx i = (l.eraseIdx i).map f
  | [], _ => rfl
  | _ :: _, 0 => rfl
  | x :: l, i + 1 => by
    show f x :: (l.map f).eraseIdx i = f x :: (l.eraseIdx i).map f
    rw [erase_map f l i]
theorem paired_cat2 {α β : Type} {F : α → β → Prop} : ∀ {as cs : List α} {bs ds : List β}, Paired F as bs → Paired F cs ds → Paired F (as ++ cs) (bs ++ ds)
  | _, _, _, _, .nil, h => h
  | _, _, _, _, .cons a b, h => .cons a (paired_cat2 b h)
theorem NeX.same {H H' : Hp} (s : Same H H') : NeX H H' := fun a o _ e => s a o e
theorem NeX.trans {H H1 H2 : Hp} (a : NeX H H1) (b : NeX H1 H2) : NeX H H2 := fun x o n e => b x o n (a x o n e)
theorem rows_in {ws : List Wt} {E : List Ed} {base wide : Int} {gs : List Pg} (nd : (gs.map (·.1)).Nodup) (h : ∀ g ∈ gs, DdF ws E base wide g.2) {x : Stp} (hx : x ∈ rowsP gs) : (x.2.1, x.2.2.1) ∈ E ∧ RsF ws base wide x.2.2.2.2 := by
  obtain ⟨g, hg, k⟩ := List.mem_flatMap.mp hx
  have hg2 := List.mem_filter.mp hg
  have hd := h g hg2.1
  obtain ⟨nm, dd⟩ := g
  cases dd with
  | mv a b rs =>
    rw [List.mem_singleton.mp k]
    exact hd
  | rd m rs =>
    have e : x = (m, (abN gs m).1, (abN gs m).2, nm, rs) := List.mem_singleton.mp k
    have st : standS gs (nm, .rd m rs) = wCd := of_decide_eq_true hg2.2
    have cs : cstp gs (nm, .rd m rs) = [(m, (abN gs m).1, (abN gs m).2, nm, rs)] := by
      unfold cstp
      rw [if_pos st]
      rfl
    rw [cstp_rd] at cs
    by_cases c1 : nm ∈ voids gs
    · rw [if_pos c1] at cs
      exact nomatch cs
    · rw [if_neg c1] at cs
      by_cases c2 : cbB gs m = true
      · obtain ⟨⟨n', d'⟩, h1, h2, h3, _⟩ := cbB_iff.mp c2
        have h2 : n' = m := h2
        subst h2
        cases d' with
        | bag a b q =>
          have e2 : abN gs n' = (a, b) := abN_of nd h1
          rw [e, e2]
          exact ⟨(h _ h1).1, hd.2⟩
        | mv a b rs => exact nomatch h3
        | rd m rs => exact nomatch h3
        | ct a n => exact nomatch h3
        | vd m => exact nomatch h3
      · rw [if_neg c2] at cs
        exact nomatch cs
  | bag a b n => exact nomatch k
  | ct a n => exact nomatch k
  | vd m => exact nomatch k
def spRightF (P : Addr) : Sp := fun vs H Q _ => ∃ (o b N : Addr) (ws : List Wt) (E : List Ed) (base wide : Int) (gs : List Pg) (ns : List Addr) (es : List (Str × Int)), vs = [.ref o, .ref b, .ref N] ∧ OfAt H o ws E ∧ OfOk ws E ∧ BkF H b gs ∧ gs.length ≤ 100 ∧ (gs.map (·.1)).Nodup ∧ (∀ g ∈ gs, DdF ws E base wide g.2) ∧
  H N = some (.lst (ns.map V.ref)) ∧ NtsE H ns es ∧ es.length ≤ 100 ∧ TabL H P qSteps ∧ ∀ H', But P H H' → TabL H' P qSteps → Q (.bl true) H'
theorem beg_at {L : List Stp} {i : Nat} (h : i ≤ L.length) : ((gNone :: L.map (·.2.2.1)).map V.str)[i]? = some (.str (begAt L i)) := by
  unfold begAt
  cases i with
  | zero => rfl
  | succ j =>
    rw [if_pos (Nat.succ_pos _), Nat.add_sub_cancel, List.map_cons, List.getElem?_cons_succ, List.getElem?_map, List.getElem?_map, List.getElem?_eq_getElem (by omega)]
    rfl
theorem end_at {L : List Stp} {i : Nat} (h : i ≤ L.length) : ((L.map (·.2.1)).map V.str ++ [V.non])[i]? = some (endV (endAt L i)) := by
  unfold endAt
  rcases Nat.lt_or_ge i L.length with z | z
  · rw [List.getElem?_append_left (by rw [List.length_map, List.length_map]; exact z), List.getElem?_map, List.getElem?_map, List.getElem?_eq_getElem z]
    rfl
  · have e : i = L.length := by omega
    subst e
    rw [List.getElem?_append_right (by rw [List.length_map, List.length_map]; exact Nat.le_refl _), List.length_map, List.length_map, Nat.sub_self, List.getElem?_eq_none (Nat.le_refl _)]
    rfl
theorem beg_in {L : List Stp} {E : List Ed} (h : ∀ x ∈ L, (x.2.1, x.2.2.1) ∈ E) (i : Nat) : plc E (begAt L i) := by
  unfold begAt
  split
  · cases e : L[i - 1]? with
    | none => exact .inl rfl
    | some x => exact .inr ⟨_, h x (List.mem_of_getElem? e), .inr rfl⟩
  · exact .inl rfl
theorem TabL.butD {H H' : Hp} {f c P : Addr} {n : Int} {q : Str} (hf : Fd H f c n) (b : But f H H') (h : TabL H P q) : TabL H' P q := by
  obtain ⟨zs, hz⟩ := hf.at
  exact h.stay fun a φ e => b _ _ (ne_of e hz fun z => nomatch z) e
/-! ### how big the books of offices are as data -/
structure OkdAll (n c : Nat) (ds : List PyData) : Prop where
  fine : fineAll ds = true
  plain : PyData.plainAll ds = true
  dep : PyData.depthAll ds ≤ n
  cost : costAll ds ≤ c
theorem OkdAll.nil {n : Nat} : OkdAll n 0 [] := ⟨rfl, rfl, by simp [PyData.depthAll], Nat.le_refl _⟩
theorem OkdAll.cons {n a b : Nat} {d : PyData} {ds : List PyData} (h : Okd n a d) (k : OkdAll n b ds) : OkdAll n (a + 2 + b) (d :: ds) := by
  refine ⟨?_, ?_, ?_, ?_⟩
  · unfold fineAll
    rw [h.fine, k.fine]
    rfl
  · simp only [PyData.plainAll, h.plain, k.plain, Bool.and_self]
  · simp only [PyData.depthAll]
    exact Nat.max_le.mpr ⟨h.dep, k.dep⟩
  · have z1 := h.cost
    have z2 := k.cost
    show Pn.cost d + 2 + costAll ds ≤ a + 2 + b
    omega
theorem OkdAll.of {n c : Nat} {ds : List PyData} (h : ∀ d ∈ ds, Okd n c d) : OkdAll n ((c + 2) * ds.length) ds := by
  obtain ⟨a1, a2, a3, a4⟩ := okd_all h
  exact ⟨a1, a2, a3, a4⟩
theorem OkdAll.tup {n c : Nat} {ds : List PyData} (h : OkdAll n c ds) : Okd (n + 1) (c + 3) (.tuple ds) := by
  refine ⟨h.fine, by simp only [PyData.plain]; exact h.plain, ?_, ?_⟩
  · have z := h.dep
    simp only [PyData.depth]
    omega
  · have z := h.cost
    show costAll ds + 3 ≤ c + 3
    omega
theorem OkdAll.lst {n c : Nat} {ds : List PyData} (h : OkdAll n c ds) : Okd (n + 1) (c + 3) (.list ds) := by
  refine ⟨h.fine, by simp only [PyData.plain]; exact h.plain, ?_, ?_⟩
  · have z := h.dep
    simp only [PyData.depth]
    omega
  · have z := h.cost
    show costAll ds + 3 ≤ c + 3
    omega
theorem okd_nmF {n : Nm} (h : NmF n) : Okd 2 4200 (nmD n) := by
  have z := OkdAll.tup (.cons (okd_int (i := n.1) (by have := h.1; omega) (by have := h.2.1; omega)) (.cons (okd_int (i := n.2.1) (by have := h.2.2.1; omega) (by have := h.2.2.2.1; omega)) (.cons (okd_str h.2.2.2.2) .nil)))
  exact Okd.mono z (Nat.le_refl _) (by decide)
theorem rkF_in {ws : List Wt} {base wide : Int} {r : Rn} (fl : FlOk base wide) (h : RkF ws base wide r) : 0 ≤ r.2.1 ∧ r.2.1 < r.2.2 ∧ r.2.2 ≤ 1000000000 := by
  obtain ⟨_, p, q, pq, q8, e1, e2⟩ := h
  have w := fl.w1
  have t := fl.top
  have b := fl.b0
  have z1 : (q : Int) * wide ≤ 8 * wide := Int.mul_le_mul_of_nonneg_right (by omega) (by omega)
  have z2 : 0 ≤ (p : Int) * wide := Int.mul_nonneg (by omega) (by omega)
  have z3 : (p : Int) * wide < (q : Int) * wide := Int.mul_lt_mul_of_pos_right (by omega) (by omega)
  omega
theorem okd_rnF {ws : List Wt} {base wide : Int} {r : Rn} (ok : ∀ w ∈ ws, WtOk w) (fl : FlOk base wide) (h : RkF ws base wide r) : Okd 2 4200 (rnD r) := by
  obtain ⟨h0, h1, h2⟩ := rkF_in fl h
  have hs : NmOk r.1 := by
    obtain ⟨w, hw, e⟩ := List.mem_map.mp h.1
    rw [← e]
    exact (ok w hw).1
  have z := OkdAll.tup (.cons (okd_str hs) (.cons (okd_int (i := r.2.1) (by omega) (by omega)) (.cons (okd_int (i := r.2.2) (by omega) (by omega)) .nil)))
  exact Okd.mono z (Nat.le_refl _) (by decide)
theorem okd_rsF {ws : List Wt} {base wide : Int} {rs : List Rn} (ok : ∀ w ∈ ws, WtOk w) (fl : FlOk base wide) (h : RsF ws base wide rs) : Okd 3 68000 (.tuple (rs.map rnD)) := by
  have z := OkdAll.tup (OkdAll.of (n := 2) (c := 4200) (ds := rs.map rnD) fun d hd => by
    obtain ⟨r, hr, rfl⟩ := List.mem_map.mp hd
    exact okd_rnF ok fl (h.k r hr))
  refine Okd.mono z (Nat.le_refl _) ?_
  have := h.len
  rw [List.length_map]
  omega
def ddF : Dd → PyData
  | .mv a b rs => .tuple [.str wMove, .str a, .str b, .tuple (rs.map rnD)]
  | .bag a b n => .tuple [.str wBag, .str a, .str b, .int n]
  | .rd m rs => .tuple [.str wRead, nmD m, .tuple (rs.map rnD)]
  | .ct a n => .tuple [.str wCount, .str a, .int n]
  | .vd m => .tuple [.str wVoid, nmD m]
theorem rns_dpF {K : PySem.W.Frag} {H : Hp} {u : Addr} {rs : List Rn} (h : RnsT H u rs) : Dp K H (.ref u) (.tuple (rs.map rnD)) := by
  obtain ⟨ps, h1, h2, _⟩ := h
  exact .tup (SqT.of h1) (prd_all h2)
theorem DdAt.dpF {K : PySem.W.Frag} {H : Hp} {t : Addr} : ∀ {d : Dd}, DdAt H t d → Dp K H (.ref t) (ddF d)
  | .mv a b rs, ⟨u, h1, h2⟩ => .tup (SqT.of h1) (.cons (.str _) (.cons (.str _) (.cons (.str _) (.cons (rns_dpF h2) .nil))))
  | .bag a b n, h => .tup (SqT.of h) (.cons (.str _) (.cons (.str _) (.cons (.str _) (.cons (.int _) .nil))))
  | .rd m rs, ⟨q, u, h1, hq, h2⟩ => .tup (SqT.of h1) (.cons (.str _) (.cons (nmD_dp hq) (.cons (rns_dpF h2) .nil)))
  | .ct a n, h => .tup (SqT.of h) (.cons (.str _) (.cons (.str _) (.cons (.int _) .nil)))
  | .vd m, ⟨q, h1, hq⟩ => .tup (SqT.of h1) (.cons (.str _) (.cons (nmD_dp hq) .nil))
theorem word_okd {w : Str} (h : NmOk w) : Okd 3 90 (.str w) := (okd_str h).mono (by decide) (Nat.le_refl _)
theorem okd_ddF {ws : List Wt} {E : List Ed} {base wide : Int} (ok : OfOk ws E) (fl : FlOk base wide) : ∀ {d : Dd}, DdF ws E base wide d → Okd 4 73000 (ddF d)
  | .mv a b rs, h => Okd.mono (OkdAll.tup (.cons (word_okd ⟨by decide +kernel, by decide +kernel⟩) (.cons (word_okd (ok.ed _ h.1).1) (.cons (word_okd (ok.ed _ h.1).2.1) (.cons (okd_rsF ok.wt fl h.2) .nil))))) (Nat.le_refl _) (by decide)
  | .bag a b n, h => Okd.mono (OkdAll.tup (n := 3) (.cons (word_okd ⟨by decide +kernel, by decide +kernel⟩) (.cons (word_okd (ok.ed _ h.1).1) (.cons (word_okd (ok.ed _ h.1).2.1) (.cons ((okd_int (i := n) (by have := h.2.2.1; omega) (by have := h.2.2.2; omega)).mono (by decide) (Nat.le_refl _)) .nil))))) (Nat.le_refl _) (by decide)
  | .rd m rs, h => Okd.mono (OkdAll.tup (.cons (word_okd ⟨by decide +kernel, by decide +kernel⟩) (.cons ((okd_nmF h.1).mono (by decide) (Nat.le_refl _)) (.cons (okd_rsF ok.wt fl h.2) .nil)))) (Nat.le_refl _) (by decide)
  | .ct a n, h => Okd.mono (OkdAll.tup (n := 3) (.cons (word_okd ⟨by decide +kernel, by decide +kernel⟩) (.cons (word_okd (by obtain ⟨⟨b, hb⟩, _⟩ := h; exact (ok.ed _ hb).2.1)) (.cons ((okd_int (i := n) (by have := h.2.1; omega) (by have := h.2.2; omega)).mono (by decide) (Nat.le_refl _)) .nil)))) (Nat.le_refl _) (by decide)
  | .vd m, h => Okd.mono (OkdAll.tup (n := 3) (.cons (word_okd ⟨by decide +kernel, by decide +kernel⟩) (.cons ((okd_nmF h).mono (by decide) (Nat.le_refl _)) .nil))) (Nat.le_refl _) (by decide)
def pgF (g : Pg) : PyData := .tuple [nmD g.1, ddF g.2]
def bkF (gs : List Pg) : PyData := .tuple (gs.map pgF)
theorem pgs_dpF {K : PySem.W.Frag} {H : Hp} : ∀ {ps : List Addr} {gs : List Pg}, Pgs H ps gs → DpAll K H (ps.map V.ref) (gs.map pgF)
  | _, _, .nil => .nil
  | _, _, .cons ⟨a, t, h1, h2, h3⟩ r => .cons (.tup (SqT.of h1) (.cons (nmD_dp h2) (.cons h3.dpF .nil))) (pgs_dpF r)
theorem BkF.dpF {K : PySem.W.Frag} {H : Hp} {b : Addr} {gs : List Pg} (h : BkF H b gs) : Dp K H (.ref b) (bkF gs) := by
  obtain ⟨ps, o, h1, _, h2⟩ := h
  exact .tup (SqT.fz h1) (pgs_dpF h2)
theorem okd_bkF {ws : List Wt} {E : List Ed} {base wide : Int} {gs : List Pg} (ok : OfOk ws E) (fl : FlOk base wide) (h : ∀ g ∈ gs, NmF g.1 ∧ DdF ws E base wide g.2) : Okd 6 (77210 * gs.length + 3) (bkF gs) := by
  have z := OkdAll.tup (OkdAll.of (n := 5) (c := 77208) (ds := gs.map pgF) fun d hd => by
    obtain ⟨g, hg, rfl⟩ := List.mem_map.mp hd
    exact Okd.mono (OkdAll.tup (n := 4) (.cons ((okd_nmF (h g hg).1).mono (by decide) (Nat.le_refl _)) (.cons (okd_ddF ok fl (h g hg).2) .nil))) (Nat.le_refl _) (by decide))
  rw [List.length_map] at z
  exact z
theorem okd_ofF {ws : List Wt} {E : List Ed} (ok : OfOk ws E) : Okd 4 20000 (ofD ws E) := by
  obtain ⟨a, b⟩ := of_fine ok
  refine ⟨a, ?_, ?_, b⟩
  · have e1 : ∀ l : List Wt, PyData.plainAll (l.map wtD) = true := fun l => by
      induction l with
      | nil => rfl
      | cons x l ih => rw [List.map_cons]; simp only [PyData.plainAll, ih, wtD, PyData.plain, Bool.and_self]
    simp only [ofD, PyData.plain, PyData.plainAll, e1, ed_plain, Bool.and_self]
  · have d1 : ∀ l : List Wt, PyData.depthAll (l.map wtD) ≤ 2 := fun l => by
      induction l with
      | nil => simp [PyData.depthAll]
      | cons x l ih => rw [List.map_cons]; simp only [PyData.depthAll, wtD, PyData.depth] at *; omega
    have d2 : ∀ l : List Ed, PyData.depthAll (l.map edD) ≤ 2 := fun l => by
      induction l with
      | nil => simp [PyData.depthAll]
      | cons x l ih => rw [List.map_cons]; simp only [PyData.depthAll, edD, PyData.depth] at *; omega
    have := d1 ws
    have := d2 E
    simp only [ofD, PyData.depth, PyData.depthAll]
    omega
def ntD (e : Str × Int) : PyData := .tuple [.str e.1, .int e.2]
theorem NtsE.dpF {K : PySem.W.Frag} {H : Hp} : ∀ {ps : List Addr} {es : List (Str × Int)}, NtsE H ps es → DpAll K H (ps.map V.ref) (es.map ntD)
  | _, _, .nil => .nil
  | _, _, .cons h r => .cons (.tup (SqT.of h) (.cons (.str _) (.cons (.int _) .nil))) (NtsE.dpF r)
theorem okd_ntsF {es : List (Str × Int)} (h : ∀ e ∈ es, NtF e) : OkdAll 2 (2200 * es.length) (es.map ntD) := by
  have z := OkdAll.of (n := 2) (c := 2198) (ds := es.map ntD) fun d hd => by
    obtain ⟨e, he, rfl⟩ := List.mem_map.mp hd
    obtain ⟨h1, h2, h3⟩ := h e he
    exact Okd.mono (OkdAll.tup (.cons (okd_str h1) (.cons (okd_int (i := e.2) (by omega) (by omega)) .nil))) (Nat.le_refl _) (by decide)
  rw [List.length_map] at z
  exact z
theorem Okd.showF {n c : Nat} {d : PyData} (h : Okd n c d) (hn : n ≤ 60) (hc : c ≤ 16000000) : d.showable = true ∧ d.hasDict = false ∧ d.depth ≤ 60 ∧ d.shown.length ≤ sizeLine := by
  obtain ⟨a, b⟩ := fine_show _ h.fine
  exact ⟨a, b, Nat.le_trans h.dep hn, Nat.le_trans (shown_cost _ h.fine) (Nat.le_trans h.cost (Nat.le_trans hc (by decide)))⟩
theorem BkF.keep {H H' : Hp} {b : Addr} {gs : List Pg} (k : ∀ a o, (∀ xs, o ≠ .lst xs) → H a = some o → H' a = some o) (h : BkF H b gs) : BkF H' b gs := by
  obtain ⟨ps, o, h1, t, h2⟩ := h
  exact ⟨ps, o, k _ _ (fun xs z => nomatch z) h1, t, h2.tk fun a xs e => k _ _ (fun xs z => nomatch z) e⟩
theorem BkF.butD {H H' : Hp} {f c b : Addr} {n : Int} {gs : List Pg} (hf : Fd H f c n) (x : But f H H') (h : BkF H b gs) : BkF H' b gs := by
  obtain ⟨zs, hz⟩ := hf.at
  exact h.keep fun a o n e => x a o (fun z => by rw [z, hz] at e; exact n _ (Option.some.inj e).symm) e
theorem BkF.put {H : Hp} {l b : Addr} {xs : List V} {o : HO} {gs : List Pg} (hl : H l = some (.lst xs)) (h : BkF H b gs) : BkF (upd H l o) b gs :=
  h.keep fun a u n e => (upd_ne fun z => by rw [z, hl] at e; exact n _ (Option.some.inj e).symm).trans e
def BkP (ws : List Wt) (E : List Ed) (base wide : Int) (m : Nat) (H : Hp) (b : Addr) (gs : List Pg) : Prop := BkF H b gs ∧ gs.length ≤ m ∧ (gs.map (·.1)).Nodup ∧ (∀ g ∈ gs, NmF g.1 ∧ DdF ws E base wide g.2) ∧ (gs.map (·.1)).Pairwise nmLe
theorem paired_two {α β : Type} {F : α → β → Prop} : ∀ {as : List α} {bs : List β}, Paired F as bs → bs.length = 2 → ∃ a1 a2 b1 b2, as = [a1, a2] ∧ bs = [b1, b2] ∧ F a1 b1 ∧ F a2 b2
  | _, _, .cons h (.cons h2 .nil), _ => ⟨_, _, _, _, rfl, rfl, h, h2⟩
  | _, _, .nil, l => nomatch l
  | _, _, .cons _ .nil, l => nomatch l
  | _, _, .cons _ (.cons _ (.cons _ _)), l => by simp at l
/-! ### list.extend(a tuple) -/
theorem extend_tup {a b : Addr} {us ws : Array Value} {n m : Nat} {dd : Option Addr} {sl : Array (Option Value)} (h0 : ¬(!us.isEmpty && Builtin.List.listTooLong (us.size + ws.size)) = true) (h1 : us.size ≤ sizeLine) (h2 : us.size + ws.size ≤ sizeLine + 1) :
    Meets (Builtin.«list.extend» ⟨[.ref a, .ref b], []⟩) fun _ R s => s.heap.get? a = some { cls := .type "list", dict := none, data := .seq us n, slots := #[] } ∧ s.heap.get? b = some { cls := .type "tuple", dict := dd, data := .seq ws m, slots := sl } ∧
      R (.ok (.ret Value.none)) { s with heap := s.heap.update a (Obj.mapSeq (· ++ ws)), toks := s.toks } := by
  refine .of_wp fun prog w A R s h => ?_
  rcases s with ⟨hp, gg, dr, tk, os⟩
  rcases h with ⟨ga, gb, q⟩
  have k1 := AutoSeq1.idx_int
  have k2 := AutoSeq1.sub_tuple_tuple
  have k3 := AutoSeq1.sub_list_list
  have k4 := AutoSeq1.sub_tuple_list
  have k5 := AutoSeq1.sub_list_tuple
  have zz : (us ++ ws).size ≤ sizeLine + 1 := by rw [Array.size_append]; exact h2
  wp_walk using (wpAny_updateSeq ga rfl (hz := h1) (_hz' := zz)), AutoSeq1.wpAny_loadPart' ga, AutoSeq1.wpAny_loadPart' gb
  exact ⟨_, rfl, q⟩
def rExtT (K : PySem.W.Frag) : V → List V → Hp → VK → Prop := fun x vs H Q => ∃ l b xs zs, x = .ref l ∧ vs = [.ref b] ∧ H l = some (.lst xs) ∧ SqT K H b zs ∧ xs.length + zs.length ≤ sizeLine ∧ Q .non (upd H l (.lst (xs ++ zs)))
theorem mt_extT {X : Cx} : MtM X "list.extend" (rExtT X.K) := by
  intro pins s σ H x vs v us Q I rx rv h
  obtain ⟨l, b, xs, zs, rfl, rfl, hH, hB, hz, q⟩ := h
  cases rx
  obtain ⟨u, rfl, ru⟩ := rv.one
  cases ru
  obtain ⟨z, its, n, r, hl, e⟩ := I.lstM hH
  obtain ⟨its2, r2, ⟨o2, e2, hc2, n2, hd2⟩, z2⟩ := I.tuple hB
  have hl2 := r2.length
  obtain ⟨cls, dd, dat, sl⟩ := o2
  have hc2 : cls = .type "tuple" := hc2
  have hd2 : dat = .seq its2.toArray n2 := hd2
  subst hc2 hd2
  have hsz : its.toArray.size + its2.toArray.size ≤ sizeLine := by rw [List.size_toArray, List.size_toArray]; omega
  have hlong : ¬ (!its.toArray.isEmpty && Builtin.List.listTooLong (its.toArray.size + its2.toArray.size)) = true := by
    rw [notLongL hsz, Bool.and_false]
    exact Bool.false_ne_true
  refine call_meets F.slot_list_extend ⟨_, e, rfl⟩ F.entry_list_extend (F.args_list_extend_2 _ _)
    (extend_tup hlong (by rw [List.size_toArray]; omega) (by omega)) ⟨e, e2, ?_⟩
  refine ⟨.non, _, I.lset (its' := its ++ its2) hH e (by simp) (r.append r2) ?_, rfl, q⟩
  rw [List.length_append]
  omega
/-! ### a set display of one written text, found.add(text), by SXO: sorted(..) of it stays known -/
section
variable {P : Program} {w : World} {A : Around} {E : Value → Shared → Prop} {s : Shared} {a : Addr} {S : Key → Prop} {n : Nat}
theorem SX.typeIs {s : Shared} (R : SX w s.heap a S n) : Shared.TypeIs s (.ref a) "set" := by
  obtain ⟨o, es, ep, t, ⟨q1, q2, q3⟩, _⟩ := R
  exact ⟨o, q1, q2.1⟩
theorem SX.noDict {s : Shared} (R : SX w s.heap a S n) : ∀ b, Value.ref a = .ref b → ∃ ob, s.heap.get? b = some ob ∧ ob.dict = none := fun b e => by
  injection e with e
  subst e
  obtain ⟨o, es, ep, t, ⟨q1, q2, q3⟩, _⟩ := R
  exact ⟨o, q1, q2.2.1⟩
theorem sx_add_call {k : Key} {v : Value} {Q : Value → Shared → Prop} (R : SX w s.heap a S n) (room : n + 1 < scanBound) (hk : keyIs k v = true)
    (fin : ∀ h' m, Heap.SameBut a s.heap h' → m ≤ n + 1 → SX w h' a (fun j => S j ∨ j = k) m → Q .none { s with heap := h', toks := s.toks + 1 }) :
    wpAny (model P w) A (call (.builtin "set.add") [.ref a, v]) Q E s := by
  refine wpAny_call_entry F.slot_set_add R.typeIs F.entry_set_add ?_ (F.args_set_add_2 _ _)
  unfold Builtin.«set.add» Builtin.Frozenset.oneOther
  simp only [List.isEmpty_nil, bind_assoc]
  unfold Builtin.Frozenset.addrOf setAdd
  refine wpAny_bind (wpAny_pure ?_)
  try dsimp only
  refine wpAny_bind (wpAny_pure ?_)
  try dsimp only
  refine wpAny_bind ?_
  refine wpAny_holding ?_
  refine wpAny_bind ((mixKind P w).pyHash (k := k) hk ?_)
  refine sx_add (s := { s with toks := s.toks + 1 }) R room hk fun h' m sb hm R' b => ?_
  show wpAny _ _ (ret Value.none) _ _ _
  exact wpAny_pure ⟨_, rfl, fin h' m sb hm R'⟩
theorem set_one {t : Sem Value} {x : Str} {b : Bool} {Q : Value → Shared → Prop} (ht : ∀ (s1 : Shared) (Q1 : Value → Shared → Prop), (∀ k tk, Q1 (.str x k) { s1 with toks := tk }) → wpAny (model P w) A t Q1 E s1)
    (fin : ∀ h' tk m, m ≤ 1 → SX w h' s.heap.objs.size (fun j => j = .inr x) m → (∀ b o, s.heap.get? b = some o → h'.get? b = some o) → Q (.ref s.heap.objs.size) { s with heap := h', toks := tk }) :
    wpAny (model P w) A (setDisplay .oneByOne b [(false, t)]) Q E s := by
  unfold setDisplay
  try dsimp only
  rw [if_neg (by decide)]
  refine wpAny_bind (wpAny_newSet_raw fun led hled => ?_)
  subst hled
  have at1 : (s.heap.push { cls := .type "set", dict := none, data := .set #[] 0 (.fresh 0 0 (!w.params.followText "set-order")) }).get? s.heap.objs.size = some { cls := .type "set", dict := none, data := .set #[] 0 (.fresh 0 0 (!w.params.followText "set-order")) } := Heap.get?_push_size _ rfl
  have R0 : SX w _ s.heap.objs.size _ 0 := sx_new (ks := []) at1
  have k0 : ∀ b o, s.heap.get? b = some o → (s.heap.push { cls := .type "set", dict := none, data := .set #[] 0 (.fresh 0 0 (!w.params.followText "set-order")) }).get? b = some o := fun b o e => Heap.get?_push_of_some _ e
  generalize s.heap.push { cls := .type "set", dict := none, data := .set #[] 0 (.fresh 0 0 (!w.params.followText "set-order")) } = h1 at *
  refine wpAny_bind (wpAny_holding ?_)
  show wpAny _ _ (evalAll [t] >>= _) _ _ _
  unfold evalAll
  refine wpAny_bind (wpAny_bind (ht _ _ fun k tk => ?_))
  unfold evalAll
  refine wpAny_bind (wpAny_holding (wpAny_pure ?_))
  refine wpAny_pure ?_
  refine wpAny_bind (wpAny_holding ?_)
  rw [List.forIn_cons]
  refine wpAny_bind (wpAny_bind ?_)
  refine wpAny_bind ?_
  unfold setAdd
  refine wpAny_holding ?_
  refine wpAny_bind ((mixKind P w).pyHash (k := .inr x) (kV_is (P := P) (w := w) (k := .inr x) (u := .str x k) ⟨k, rfl⟩) ?_)
  refine sx_add (k := .inr x) R0 (by decide) (kV_is (P := P) (w := w) (k := .inr x) (u := .str x k) ⟨k, rfl⟩) fun h' m sb hm R' b => ?_
  have R2 : SX w h' s.heap.objs.size (fun j => j = .inr x) m := R'.like fun j => by simp
  have kk : ∀ b o, s.heap.get? b = some o → h'.get? b = some o := fun b o e => by
    rw [sb.2 b (fun z => Nat.lt_irrefl _ (z ▸ Heap.lt_size e))]
    exact k0 b o e
  have fin2 := fin h' (tk + 1) m (by omega) R2 kk
  repeat (first | exact fin2 | refine wpAny_pure ?_ | refine wpAny_bind ?_ | rw [List.forIn_nil] | rw [if_neg (by decide)])
end
section
variable {X : Cx}
/-- {'text'} -/
def tSet1 (w : World) (x : Str) : TE := fun _ H Q => ∀ p c o, H p = none → c ≤ 1 → o = SXO w p (fun j => j = .inr x) c → Q (.ref p) (upd H p o)
theorem pe_set1 {x : Str} {j : Nat} {pos cpos : Pos} (hcd : PySem.W.kdsCode X.K X.env.code = true) : PE X (.Set [.Constant (.str x) j cpos] 0 pos) (tSet1 X.w x) := by
  refine ⟨fun pins s σ H Q I h => ?_⟩
  rw [arm_eval_Set]
  refine wpAny_bind (wpAny_standAt ?_)
  refine wpAny_bind (PySem.W.kds_main I.kIn hcd fun b => ?_)
  have er : displayRoad 0 [Expr.Constant (.str x) j cpos] = .oneByOne := rfl
  rw [er]
  show wpAny _ _ (setDisplay .oneByOne b [(false, do let v ← eval (.Constant (.str x) j cpos) X.env; standAt pos; pure v)]) _ _ _
  refine set_one (x := x) (fun s1 Q1 h1 => ?_) fun h' tk m hm R keep => ?_
  · refine wpAny_bind (Calls.Constant_str ?_)
    exact wpAny_bind (wpAny_standAt (wpAny_pure (h1 _ _)))
  · exact ⟨.ref _, upd H s.heap.objs.size (SXO X.w s.heap.objs.size (fun j => j = .inr x) m), I.laid (t' := tk) keep (Nat.le_refl _) (sxo_new R), rfl, h _ _ _ (I.hok.fresh (Nat.le_refl _)) hm rfl⟩
/-- found.add(k) -/
def rSAddX (w : World) : V → List V → Hp → VK → Prop := fun x xs H Q => ∃ (a : Addr) (k : Key) (S : Key → Prop) (n : Nat), x = V.ref a ∧ xs = [kV k] ∧ H a = some (SXO w a S n) ∧ n ≤ 4000 ∧
  ∀ m o, m ≤ n + 1 → o = SXO w a (fun j => S j ∨ j = k) m → Q .non (upd H a o)
theorem mt_saddX : MtR X "set.add" (rSAddX X.w) := by
  intro pins s σ H x xs v us Q I rx rxs h
  obtain ⟨a, k, S, n, rfl, rfl, ha, room, q⟩ := h
  cases rx
  cases rxs with
  | cons ry rt =>
    cases rt
    have R : SX X.w s.heap a S n := (I.hok a _ ha).1
    refine sx_add_call R (show n + 1 < 4096 by omega) (kV_is (P := X.prog) (w := X.w) ry) fun h' m sb hm new => ?_
    have he : ∃ u, h'.get? a = some u := by
      have ⟨o, _, _, _, ho, _⟩ := new
      exact ⟨o, ho.1⟩
    exact ⟨.non, upd H a (SXO X.w a (fun j => S j ∨ j = k) m), I.write (e := a) (t' := s.toks + 1) (by rw [ha]; trivial) (.inl rfl) (fun b u hb hu => (sb.2 b hb).trans hu) he (sxo_new new), rfl, q m _ hm rfl⟩
def tSAddX (w : World) (to : TE) (t : TA) : TE := fun σ H Q => to σ H fun x H1 => (∃ a S n, x = V.ref a ∧ H1 a = some (SXO w a S n)) ∧ t σ H1 fun xs H2 => rSAddX w x xs H2 Q
variable {o e : Expr} {es : List Expr} {to : TE} {t : TA} {apos cpos : Pos}
theorem pe_saddX (ho : PE X o to) (ha : PA X (e :: es) t)
    (hbase : attributeBase o "add" X.env (eval o X.env) = eval o X.env := by rfl)
    (hfew : ((backTo cpos (starEach (e :: es) X.env)).all (fun x => !x.1) && (backToKw cpos (keywordEach [] X.env)).all (fun x => x.1.isSome)
      && decide ((e :: es).length + ([] : List Keyword).length + (if ([] : List Keyword).isEmpty then 0 else 1) < 30)) = true := by rfl)
    (hline : (apos.endLine == cpos.line) = true := by rfl) (hs : starEach (e :: es) X.env = (false, eval e X.env) :: starEach es X.env := by rfl) (hplain : (backTo cpos (starEach es X.env)).any (·.1) = false := by rfl) :
    PE X (.Call (.Attribute o "add" apos) (e :: es) [] cpos) (tSAddX X.w to t) := by
  refine ⟨fun pins s σ H Q I h => ?_⟩
  refine wpAny_Call_method_late hbase hfew hline rfl (thn (ho.run pins s σ H _ I h) fun v s1 ⟨x, H1, I1, r1, ty, q1⟩ => ?_)
  obtain ⟨a, S, n, rfl, hka⟩ := ty
  have hS : SX X.w s1.heap a S n := (I1.hok a _ hka).1
  cases r1
  refine ⟨"set", "set.add", F.plainAttrs_set, F.slot_set_add, F.type_set_add, hS.typeIs, hS.noDict, ?_⟩
  have hA := ha.run cpos pins s1 σ H1 _ I1 q1
  rw [hs] at hA ⊢
  refine Calls.callWith_builtin (by show (false || (backTo cpos (starEach es X.env)).any (·.1)) = false; rw [hplain] <;> rfl) (Calls.evalArgs_plain ?_)
  exact thn hA fun us s2 ⟨vs, H2, I2, r2, q2⟩ => mt_saddX pins s2 σ H2 (.ref a) vs (.ref a) us Q I2 rfl r2 q2
/-- a def whose code object is the module's -/
theorem okC {Pr : Program} {w : World} {K : PySem.W.Frag} {mg : Str → Option Value} {base : Heap} {x qual : Str} {st : Stmt} {f : Addr} {fd : FuncData} {N ps : List Str} {k : Nat} {sp : Sp} (F : Fun K x qual st f fd) (S : FnScope N ps (defScope st)) (len : ∀ vs H Q E, sp vs H Q E → vs.length = ps.length)
    (hbody : ∀ (cdv : Value) (A : Around) (outer : List Env) (s : Shared) (H : Hp) (vs : List V) (Q : VK) (E : XK), Room k (A.deeper (envOfC qual (defScope st) s.heap.objs.size f cdv)) → PySem.W.kdsCode K cdv = true → sp vs H Q E →
      ∃ t, PSs (cxOf CX0 Pr w K mg base N qual (defScope st) f cdv A outer s H E).nox (defBody st) t ∧ t { nx := fun _ H' => Q .non H', rt := Q } (start N vs) H) : FnOk Pr w K mg base CX0 (k + 1) f fd ps sp := by
  obtain ⟨oc, od, kV, doc, pm, an, cdv, ct, osl, rfl, lk, hcd⟩ := F.ex
  refine fn_of lk hcd S len fun A outer s H vs Q E hr hsp => ?_
  obtain ⟨t, h, q⟩ := hbody cdv A outer s H vs Q E hr (kdsCode_of hcd) hsp
  exact ⟨t, h.nox, q⟩
end
/-! ### enumerate(tuple), is not True -/
set_option maxHeartbeats 1000000 in
theorem meets_enumB {v : Value} {o : Obj} {H : Heap → Prop} (B : Begins v o H) :
    Meets (Builtin.«enumerate.__new__» ⟨[.type "enumerate", v], []⟩) (fun _ R s => H s.heap ∧
      R (.ok (.ret (.ref (s.heap.push o).objs.size))) { s with heap := (s.heap.push o).push { cls := .type "enumerate", data := .fields #[.none, .bool false, .ref s.heap.objs.size, rawInt 0, .none, .none] } }) :=
  .of_wp fun prog w A R s h => by
    obtain ⟨hp, g, d, tk, os⟩ := s; obtain ⟨h1, h⟩ := h
    have hsub := sub_enumerate
    have q1 : ∀ {A' : Around} {E : Value → Shared → Prop} {Q : Value → Shared → Prop}, Q (.ref hp.objs.size) ⟨hp.push o, g, d, tk, os⟩ → wpAny (model prog w) A' (pyIter v) Q E ⟨hp, g, d, tk, os⟩ :=
      fun q => B.iter prog w _ _ ⟨hp, g, d, tk, os⟩ _ h1 q
    wp_walk using q1
    refine wpAny_stack_any fun st => wpAny_pure ?_
    split
    · rename_i c _ _ _ _ _
      cases (c == Value.type "enumerate")
      · wp_walk using q1
        exact ⟨_, rfl, h⟩
      · wp_walk using q1
        exact ⟨_, rfl, h⟩
    · wp_walk using q1
      exact ⟨_, rfl, h⟩
theorem enum_at {prog : Program} {w : World} {A : Around} {E : Value → Shared → Prop} {s : Shared} {v : Value} {o : Obj} {H : Heap → Prop} {Q : Value → Shared → Prop} (B : Begins v o H) (h1 : H s.heap)
    (h : ∀ h', IsEnum h' (s.heap.objs.size + 1) s.heap.objs.size 0 .none → h'.get? s.heap.objs.size = some o → h'.objs.size = s.heap.objs.size + 2 →
      (∀ b o, s.heap.get? b = some o → h'.get? b = some o) → Q (.ref (s.heap.objs.size + 1)) { s with heap := h' }) :
    wpAny (model prog w) A (call (.type "enumerate") [v]) Q E s := by
  refine callType_new F.called_enumerate (by decide) (F.typeCall_enumerate_1 _) (F.newCall_enumerate_1 _) (fun obj => F.args_object_init_2 obj _) F.entry_enumerate_new (meets_enumB B) ⟨h1, ?_⟩
  have hz : (s.heap.push o).objs.size = s.heap.objs.size + 1 := Heap.size_push ..
  show _ ∧ _
  rw [hz]
  have he : IsEnum ((s.heap.push o).push { cls := .type "enumerate", data := .fields #[.none, .bool false, .ref s.heap.objs.size, rawInt 0, .none, .none] }) (s.heap.objs.size + 1) s.heap.objs.size 0 .none := by
    have := Heap.get?_push_size (s.heap.push o) (o := { cls := .type "enumerate", data := .fields #[.none, .bool false, .ref s.heap.objs.size, rawInt 0, .none, .none] }) rfl
    rw [hz] at this; exact this
  refine ⟨⟨_, he, rfl⟩, h _ he (Heap.get?_push_of_some _ (Heap.get?_push_size _ B.free)) (by rw [Heap.size_push, hz]) fun b o x => Heap.get?_push_of_some _ (Heap.get?_push_of_some _ x)⟩
/-- the tuple at a, each item in a new pair -/
def IteT (K : PySem.W.Frag) (a : Addr) : It :=
  ⟨fun i H => ∃ (xs : List V) (x : V), SqT K H a xs ∧ xs[i]? = some x, fun i H v H' => ∃ T x, v = .ref T ∧ H T = none ∧ H' = upd H T (.tup [.int (i : Nat), x]) ∧ ∀ xs, SqT K H a xs → xs[i]? = some x, fun i H => ∃ xs : List V, SqT K H a xs ∧ xs.length ≤ i⟩
theorem turn_enumT {P : Program} {w : World} {K : PySem.W.Frag} {elts : List Expr} {kk : Nat} {tpos : Pos} (a e it : Addr) :
    Turn P w K (.Tuple elts kk tpos) (IteT K a) [e, it] e (fun i h => (∃ old, IsEnum h e it ((i : Nat) : Int) old) ∧ h.IsTupleIter it a i ∧ e ≠ it ∧ a ≠ it ∧ a ≠ e) where
  mem := by simp
  obj := fun i h st b hb => by
    obtain ⟨⟨old, he⟩, ⟨o, ho, hc, hd⟩, _⟩ := st
    have e' : b = e ∨ b = it := by simpa using hb
    rcases e' with z | z
    · rw [z]; exact ⟨_, he, fun v q => nomatch q⟩
    · rw [z]; exact ⟨o, ho, fun v q => by rw [hd] at q; cases q⟩
  keep := fun i h h' st k => let ⟨⟨old, he⟩, hi, hne⟩ := st; ⟨⟨old, k e (by simp) _ he⟩, hi.at fun o q => k it (by simp) o q, hne⟩
  item := by
    intro X hP hw hK hc i pins s σ H E I hf st hg
    subst hP hw hK
    obtain ⟨⟨old, he⟩, hit, hne, hai, hae⟩ := st
    obtain ⟨xs, x, hq, hx⟩ := hg
    obtain ⟨its, rv, p, hz⟩ := I.tuple hq
    obtain ⟨u, hu, ru⟩ := rv.get hx
    have hel : e < s.heap.objs.size := Heap.lt_size he
    have hil : it < s.heap.objs.size := by obtain ⟨_, q, _⟩ := hit; exact Heap.lt_size q
    have hu2 := hu
    refine wpAny_pyNext_enum_itemD (Draws.tuple (A := X.A.in1) (by simp [I.ok.hd hc]) it a hai its.toArray) he ⟨hit, p⟩ (by simpa using (List.getElem?_eq_some_iff.mp hu).1) hne (by simp [hne, Ne.symm hae]) fun y h' tk py ho st' hT hsz hk => ?_
    obtain rfl : y = u := by
      have py : its.toArray[i]? = some y := py
      rw [List.getElem?_toArray, hu2] at py
      exact (Option.some.inj py).symm
    refine ⟨_, rfl, wpAny_letOwnedTupleGo_enum (s := { s with heap := h', toks := tk + 1 }) ho fun h'' he' sb => ?_⟩
    have hT2 : h''.get? s.heap.objs.size = some { cls := .type "tuple", data := .seq #[.int i tk, y] } := (sb.2 _ (Nat.ne_of_gt hel)).trans hT
    have new : ObjOk X.prog X.w (upd H s.heap.objs.size (.tup [.int (i : Nat), x])) h'' s.heap.objs.size (.tup [.int (i : Nat), x]) :=
      ⟨by show 2 ≤ sizeLine; decide, [.int i tk, y], .cons ⟨_, rfl⟩ (.cons ru .nil), ⟨_, hT2, rfl, _, rfl⟩⟩
    have I1 : Inv X pins σ (upd H s.heap.objs.size (.tup [.int (i : Nat), x])) { s with heap := h'', toks := tk + 1 } :=
      I.turnedNew (ch := [e, it]) (fun b ob hb q => (sb.2 b (fun z => hb (by simp [z]))).trans (hk b ob (fun z => hb (by simp [z])) (fun z => hb (by simp [z])) q)) hf (Nat.le_refl _) new
    refine ⟨.ref s.heap.objs.size, _, I1, rfl, ⟨_, x, rfl, I.hok.fresh (Nat.le_refl _), rfl, fun ys hy => by rw [I.tuple_inj hy hq]; exact hx⟩, ⟨⟨y, ?_⟩, st'.1.at fun o q => (sb.2 it (Ne.symm hne)).trans q, hne, hai, hae⟩, fun b hb => ?_⟩
    · have e1 : ((i + 1 : Nat) : Int) = (i : Int) + 1 := by omega
      rw [e1]; exact he'
    · have hb' : b < s.heap.objs.size := by
        have e' : b = e ∨ b = it := by simpa using hb
        rcases e' with z | z
        · rw [z]; exact hel
        · rw [z]; exact hil
      rw [upd_ne (Nat.ne_of_lt hb')]
      exact (hf b hb).1
  done := by
    intro X hP hw hK hc i pins s σ H E I hf st hg
    subst hP hw hK
    obtain ⟨⟨old, he⟩, hit, hne, hai, hae⟩ := st
    obtain ⟨xs, hq, hx⟩ := hg
    obtain ⟨its, rv, p, hz⟩ := I.tuple hq
    obtain ⟨f0, f1, f2, f3, f4, f5⟩ := hf it (by simp)
    have hl := rv.length
    have D2 : Draws X.prog X.w X.A.in1 it [it, a] i (fun _ _ => True) (fun j h => (h.IsTupleIter it a j ∧ h.IsTuple a its.toArray) ∧ i ≤ j) :=
      ⟨fun _ _ st => let ⟨o, ho, _⟩ := st.1.1; ⟨o, ho⟩, fun _ _ _ st hk => ⟨⟨st.1.1.at fun o e => hk it (by simp) o e, st.1.2.at fun o e => hk a (by simp) o e⟩, st.2⟩,
        fun j s Q E hj st hQ => absurd st.2 (by omega), fun s Q E st hE => PySem.wpAny_nextOf_tuple_end (by simp [I.ok.hd hc]) st.1.1 st.1.2 (by simp; omega) hE⟩
    exact wpAny_pyNext_enum_endD D2 he ⟨⟨hit, p⟩, Nat.le_refl _⟩ fun h' eb => ⟨rfl, I.turned (t' := s.toks) (fun b o hb q => eb b o hb q) f0 f1 f3 f4 f5⟩
  self := fun A i s Q E st h => let ⟨⟨_, he⟩, _⟩ := st; wpAny_pyIter_enum he h
def iEnumT (K : PySem.W.Frag) (ta : TA) : TI := fun σ H R => ta σ H fun vs H1 => ∃ a xs, vs = [.ref a] ∧ SqT K H1 a xs ∧ R (IteT K a) H1
theorem pi_enumT {X : Cx} {e : Expr} {ta : TA} {p pos tpos : Pos} {elts : List Expr} {kk : Nat} (hg : Gl X "enumerate") (hm : X.mg "enumerate" = none) (ha : PA X [e] ta) (hs : starEach [e] X.env = [(false, eval e X.env)] := by rfl) :
    PI X (.Tuple elts kk tpos) (.Call (.Name "enumerate" p) [e] [] pos) (iEnumT X.K ta) := by
  refine ⟨fun pins s σ H R I h => ?_⟩
  refine Call_ (ld_blt I hg hm boot_enumerate (PyProof.Rows.callWith_type1 (thn (ha.run pos pins s σ H _ I h) fun us s1 ⟨vs, H1, I1, r1, q1⟩ => ?_) hs rfl))
  obtain ⟨a, xs, ex, hq, q⟩ := q1
  subst ex
  cases r1 with
  | cons r rr =>
    cases rr
    cases r
    obtain ⟨its, rv, p', hz⟩ := I1.tuple hq
    have la : a < s1.heap.objs.size := by obtain ⟨_, z, _⟩ := p'; exact Heap.lt_size z
    refine enum_at (begins_tuple a its.toArray) p' fun h' he ho hsz hk => wpAny_pyIter_enum he ?_
    have I2 : Inv X pins σ H1 { s1 with heap := h' } := I1.kept (t' := s1.toks) hk
    refine ⟨s1.heap.objs.size + 1, [s1.heap.objs.size + 1, s1.heap.objs.size], _, _, H1, rfl, I2, turn_enumT a (s1.heap.objs.size + 1) s1.heap.objs.size, ⟨⟨.none, he⟩, ⟨_, ho, rfl, rfl⟩, Nat.succ_ne_self _, Nat.ne_of_lt la, Nat.ne_of_lt (Nat.lt_succ_of_lt la)⟩, fun b hb => ?_, q⟩
    have e' : b = s1.heap.objs.size + 1 ∨ b = s1.heap.objs.size := by simpa using hb
    have hle : s1.heap.objs.size ≤ b := by
      rcases e' with z | z
      · rw [z]; exact Nat.le_add_right _ _
      · rw [z]; exact Nat.le_refl _
    exact I1.fpOk hle (I1.hok.fresh hle)
theorem walk_enumT {K : PySem.W.Frag} {a : Addr} {xs : List V} : Walk (IteT K a) xs.length (fun H => SqT K H a xs) (YPair (fun i => some (.int (i : Nat))) (fun i => xs[i]?)) := by
  refine ⟨fun i _ hi q => ⟨xs, xs[i], q, by simp [hi]⟩, fun _ q => ⟨xs, q, Nat.le_refl _⟩, fun i H v H' _ q y => ?_⟩
  obtain ⟨T, x, h1, h2, h3, h4⟩ := y
  exact ⟨T, .int (i : Nat), x, h1, h2, h3, rfl, h4 xs q⟩
/-- is not True -/
theorem op_notTrue {X : Cx} : OpR X (compareOp .IsNot) (fun x y H Q => ∃ b, x = .bl b ∧ y = .bl true ∧ Q (.bl (!b)) H) := by
  intro pins s σ H x y v u Q I rx ry h
  obtain ⟨b, rfl, rfl, q⟩ := h
  cases rx
  cases ry
  refine isnot_bool (fin_bl I q ?_)
  cases b <;> rfl
/-! ### places, sets of places, cuts (k38, k39) -/
theorem tab_but {H H' : Hp} {f c P : Addr} {n : Int} (hf : Fd H f c n) (b : But f H H') (h : H P = some (TabO P)) : H' P = some (TabO P) := by
  obtain ⟨zs, hz⟩ := hf.at
  exact b P _ (ne_of h hz (fun z => by unfold TabO at z; exact nomatch z)) h
def Tabs (H : Hp) (ts : List Addr) : Prop := ∀ t ∈ ts, H t = some (TabO t)
theorem Tabs.same {H H' : Hp} {ts : List Addr} (s : Same H H') (h : Tabs H ts) : Tabs H' ts := fun t ht => s _ _ (h t ht)
def spRises (P : Addr) : Sp := fun vs H Q _ => ∃ (t : Addr) (ys : List Str), vs = [.ref t] ∧ H t = some (.tup (ys.map V.str)) ∧ ys.Pairwise sl ∧ ys.length ≤ 40 ∧ H P = some (TabO P) ∧ ∀ H', Same H H' → Q (.bl true) H'
def spPlOf : Sp := fun vs H Q _ => ∃ (o : Addr) (ws : List Wt) (E : List Ed), vs = [.ref o] ∧ OfAt H o ws E ∧ E.length ≤ 16 ∧
  ∀ (t : Addr) (pl : List Str) (H' : Hp), Same H H' → H t = none → H' t = some (.tup (pl.map V.str)) → pl.Pairwise sl → (∀ y, y ∈ pl ↔ plc E y) → pl.length ≤ 33 → Q (.ref t) H'
def spIsSet (P1 P2 : Addr) : Sp := fun vs H Q _ => ∃ (o t : Addr) (ws : List Wt) (E : List Ed) (ys : List Str), vs = [.ref o, .ref t] ∧ OfAt H o ws E ∧ E.length ≤ 16 ∧ H t = some (.tup (ys.map V.str)) ∧ ys.Pairwise sl ∧ ys.length ≤ 40 ∧ (∀ y ∈ ys, plc E y) ∧
  H P1 = some (TabO P1) ∧ H P2 = some (TabO P2) ∧ ∀ H', Same H H' → Q (.bl true) H'
def Shut (E : List Ed) (ys : List Str) : Prop := ∀ e ∈ E, e.1 ∈ ys → e.2 ∈ ys
def spLetsCut (P1 P2 : Addr) : Sp := fun vs H Q _ => ∃ (o t : Addr) (x y : Str) (ws : List Wt) (E : List Ed) (ys : List Str), vs = [.ref o, .str x, .str y, .ref t] ∧ OfAt H o ws E ∧ E.length ≤ 16 ∧ H t = some (.tup (ys.map V.str)) ∧ ys.Pairwise sl ∧ ys.length ≤ 40 ∧ (∀ y ∈ ys, plc E y) ∧
  Shut E ys ∧ x ∈ ys ∧ y ∉ ys ∧ H P1 = some (TabO P1) ∧ H P2 = some (TabO P2) ∧ ∀ H', Same H H' → Q (.bl true) H'
def CutV (H : Hp) (E : List Ed) (x y : Str) (v : V) : Prop := (v = .non ∧ ∃ n, Wlk E n x y) ∨ ∃ (t : Addr) (ys : List Str), v = .ref t ∧ H t = some (.tup (ys.map V.str)) ∧ ys.Pairwise sl ∧ (∀ z, z ∈ ys ↔ ∃ n, Wlk E n x z) ∧ ys.length ≤ 17 ∧ y ∉ ys
def spCutOf : Sp := fun vs H Q _ => ∃ (o : Addr) (x y : Str) (ws : List Wt) (E : List Ed), vs = [.ref o, .str x, .str y] ∧ OfAt H o ws E ∧ E.length ≤ 16 ∧ ∀ (v : V) (H' : Hp), Same H H' → CutV H' E x y v → Q v H'
def spIsCut : Sp := fun vs H Q _ => ∃ (o l t : Addr) (x y : Str) (ws : List Wt) (E : List Ed) (pl ys : List Str), vs = [.ref o, .ref l, .str x, .str y, .ref t] ∧ OfAt H o ws E ∧ OfOk ws E ∧ H l = some (.lst (pl.map V.str)) ∧ pl.Pairwise sl ∧ (∀ y, y ∈ pl ↔ plc E y) ∧ pl.length ≤ 33 ∧
  H t = some (.tup (ys.map V.str)) ∧ ys.Pairwise sl ∧ ys.length ≤ 40 ∧ (∀ y ∈ ys, plc E y) ∧ Shut E ys ∧ x ∈ ys ∧ y ∉ ys ∧ ∀ H', Same H H' → Q (.bl true) H'
def spRightC (P1 P2 : Addr) : Sp := fun vs H Q _ => ∃ (o : Addr) (ws : List Wt) (E : List Ed), vs = [.ref o] ∧ OfAt H o ws E ∧ OfOk ws E ∧ H P1 = some (TabO P1) ∧ H P2 = some (TabO P2) ∧ ∀ H', Same H H' → Q (.bl true) H'
def strsL (xs : List Str) : PyData := .list (xs.map .str)
theorem strs_dpL {K : PySem.W.Frag} {H : Hp} {t : Addr} {xs : List Str} (h : SqL K H t (xs.map V.str)) : Dp K H (.ref t) (strsL xs) := by
  refine .lst h ?_
  clear h
  induction xs with
  | nil => exact .nil
  | cons x l ih => exact .cons (.str x) ih
theorem strs_plainL (xs : List Str) : (strsL xs).plain = true := by
  show PyData.plainAll (xs.map .str) = true
  induction xs with
  | nil => rfl
  | cons x l ih =>
    rw [List.map_cons]
    simp only [PyData.plainAll, ih, PyData.plain, Bool.and_self]
theorem strs_eqvs : ∀ a b : List Str, PyData.eqvAll (a.map .str) (b.map .str) = decide (a = b)
  | [], [] => rfl
  | [], b :: bs => rfl
  | a :: as, [] => rfl
  | a :: as, b :: bs => by
    simp only [List.map_cons, PyData.eqvAll, PyData.eqv, strs_eqvs as bs]
    rw [Bool.eq_iff_iff]
    simp
theorem strs_depL (xs : List Str) : (strsL xs).depth ≤ 60 := by
  have z : PyData.depthAll (xs.map .str) ≤ 3 := by
    induction xs with
    | nil => simp [PyData.depthAll]
    | cons s l ih => rw [List.map_cons]; simp only [PyData.depthAll, PyData.depth] at *; omega
  simp only [strsL, PyData.depth]
  omega
theorem strs_eqvL (a : List Str) : PyData.eqv (strsL a) (strsL a) = true := by
  show PyData.eqvAll (a.map .str) (a.map .str) = true
  rw [strs_eqvs]
  exact decide_eq_true rfl
theorem plc_few {E : List Ed} {ys : List Str} (h : E.length ≤ 16) (up : ys.Pairwise sl) (p : ∀ y ∈ ys, plc E y) : ys.length ≤ 33 := by
  have nd : ys.Nodup := up.imp fun {a b} h => fun z => by
    subst z
    exact sl_irr _ h
  have z := sub_len (m := gNone :: (E.map (·.1) ++ E.map (·.2))) nd fun v hv => by
    rcases p v hv with rfl | ⟨e, he, rfl | rfl⟩
    · exact List.mem_cons_self
    · exact List.mem_cons_of_mem _ (List.mem_append_left _ (List.mem_map.mpr ⟨e, he, rfl⟩))
    · exact List.mem_cons_of_mem _ (List.mem_append_right _ (List.mem_map.mpr ⟨e, he, rfl⟩))
  rw [List.length_cons, List.length_append, List.length_map, List.length_map] at z
  omega
theorem wlk_shut {E : List Ed} {x : Str} {ys : List Str} (m : ∀ z, z ∈ ys ↔ ∃ n, Wlk E n x z) : Shut E ys := fun e he h => by
  obtain ⟨n, w⟩ := (m _).mp h
  exact (m _).mpr ⟨n + 1, e.1, w, he⟩
theorem wlk_plc {E : List Ed} {x y : Str} {n : Nat} (hx : plc E x) (h : Wlk E n x y) : plc E y := by
  cases n with
  | zero =>
    cases (show x = y from h)
    exact hx
  | succ n =>
    obtain ⟨z, _, k⟩ := h
    exact .inr ⟨(z, y), k, .inr rfl⟩
/-! ### names in their order -/
def nmLt (a b : Nm) : Bool := PySem.W.dataLt (nmD a) (nmD b)
def rLtN (K : PySem.W.Frag) : R2 := fun x y H Q => ∃ (a b : Addr) (n m : Nm), x = .ref a ∧ y = .ref b ∧ SqT K H a (nmV n) ∧ SqT K H b (nmV m) ∧ Q (.bl (nmLt n m)) H
theorem nmD_dpq {K : PySem.W.Frag} {H : Hp} {a : Addr} {n : Nm} (h : SqT K H a (nmV n)) : Dp K H (.ref a) (nmD n) := .tup h (.cons (.int _) (.cons (.int _) (.cons (.str _) .nil)))
theorem op_ltN {X : Cx} {k : Nat} (hr : Room k X.A) : OpR X (compareOp .Lt) (rLtN X.K) := by
  intro pins s σ H x y v u Q I rx ry h
  obtain ⟨a, b, p, q, rfl, rfl, ha, hb, q'⟩ := h
  have un := hr.un
  obtain ⟨as, r1⟩ := Dp.reads I (nmD p) (.ref a) _ (nmD_dpq ha) rx
  obtain ⟨bs, r2⟩ := Dp.reads I (nmD q) (.ref b) _ (nmD_dpq hb) ry
  refine PySem.W.lt_data r1 r2 (by simp [nmD, PySem.W.alike, PySem.W.alikeAll]) nofun ?_ ⟨.bl _, H, I, rfl, q'⟩
  simp only [nmD, PyData.depth, PyData.depthAll]
  omega
theorem nmLt_le (a b : Nm) : PySem.W.dataLe false nmD a b = !nmLt b a := rfl
theorem nmLt_is (a b : Nm) : nmLt a b = (PyProof.Rows.listOrd PyProof.Rows.itemOrd).blt (PySem.W.keyToks (nmD a)) (PySem.W.keyToks (nmD b)) := rfl
theorem nmLt_irr (a : Nm) : nmLt a a = false := by
  rw [nmLt_is]
  exact (PyProof.Rows.listOrd PyProof.Rows.itemOrd).irrefl _
theorem nmLt_tr {a b c : Nm} (h : nmLt a b = true) (k : nmLt b c = true) : nmLt a c = true := by
  rw [nmLt_is] at *
  exact (PyProof.Rows.listOrd PyProof.Rows.itemOrd).trans _ _ _ h k
theorem nmLt_tot {a b : Nm} (h : nmLt a b = false) (k : nmLt b a = false) : a = b := by
  rw [nmLt_is] at *
  by_cases c : a = b
  · exact c
  · exact absurd ((PyProof.Rows.listOrd PyProof.Rows.itemOrd).total _ _ h k) ((nmD_toks2 a b).2 c)
/-! ### false notes: steps by themselves and in pairs -/
def RchT (H : Hp) (E : List Ed) (x : Str) (t : Addr) : Prop := ∃ ys : List Str, H t = some (.tup (ys.map V.str)) ∧ ys.Pairwise sl ∧ ys.length ≤ 17 ∧ ∀ y, y ∈ ys ↔ ∃ n, Wlk E n x y
theorem RchT.tk {H H' : Hp} {E : List Ed} {x : Str} {t : Addr} (k : Tk H H') (h : RchT H E x t) : RchT H' E x t := by
  obtain ⟨ys, h1, h2⟩ := h
  exact ⟨ys, k _ _ h1, h2⟩
def RchD (H : Hp) (D : Addr) (E : List Ed) : Prop := ∃ kvs : List (Key × V), H D = some (.dK kvs) ∧ ∀ x, plc E x → ∃ t, valV kvs (Sum.inr x) = some (.ref t) ∧ RchT H E x t
theorem RchD.nx {H H' : Hp} {D : Addr} {E : List Ed} (s : NeX H H') (h : RchD H D E) : RchD H' D E := by
  obtain ⟨kvs, h1, h2⟩ := h
  exact ⟨kvs, s _ _ (fun φ z => nomatch z) h1, fun x hx => (h2 x hx).imp fun t k => ⟨k.1, k.2.tk s.tk⟩⟩
def spAllR : Sp := fun vs H Q _ => ∃ (o : Addr) (ws : List Wt) (E : List Ed), vs = [.ref o] ∧ OfAt H o ws E ∧ E.length ≤ 16 ∧
  ∀ (D : Addr) (H' : Hp), Same H H' → H D = none → RchD H' D E → Q (.ref D) H'
/-- a step, with its runs or without -/
def SxAt (H : Hp) (p : Addr) (s : Stp) : Prop := ∃ (a b : Addr) (r : List V), H p = some (.tup (.ref a :: .str s.2.1 :: .str s.2.2.1 :: .ref b :: r)) ∧ H a = some (.tup (nmV s.1)) ∧ H b = some (.tup (nmV s.2.2.2.1))
theorem StAt.sx {H : Hp} {p : Addr} {s : Stp} (h : StAt H p s) : SxAt H p s := by
  obtain ⟨a, b, u, h1, h2, h3, _⟩ := h
  exact ⟨a, b, [.ref u], h1, h2, h3⟩
theorem S4At.sx {H : Hp} {p : Addr} {s : Stp} (h : S4At H p s) : SxAt H p s := by
  obtain ⟨a, b, h1, h2, h3⟩ := h
  exact ⟨a, b, [], h1, h2, h3⟩
theorem SxAt.tk {H H' : Hp} {p : Addr} {s : Stp} (t : Tk H H') (h : SxAt H p s) : SxAt H' p s := by
  obtain ⟨a, b, r, h1, h2, h3⟩ := h
  exact ⟨a, b, r, t _ _ h1, t _ _ h2, t _ _ h3⟩
theorem ix2s (x y z : V) (r : List V) : atI (x :: y :: z :: r) 2 = some z := atI_nat (j := 2) rfl
theorem ix3s (x y z w : V) (r : List V) : atI (x :: y :: z :: w :: r) 3 = some w := atI_nat (j := 3) rfl
def spIsBt : Sp := fun vs H Q _ => ∃ (a b c : Addr) (n m k : Nm), vs = [.ref a, .ref b, .ref c] ∧ H a = some (.tup (nmV n)) ∧ H b = some (.tup (nmV m)) ∧ H c = some (.tup (nmV k)) ∧ Q (.bl (nmLt m n && nmLt n k)) H
def earlyB (x : Stp) : Bool := nmLt x.2.2.2.1 x.1
def spIsEa : Sp := fun vs H Q _ => ∃ (p : Addr) (x : Stp), vs = [.ref p] ∧ SxAt H p x ∧ Q (.bl (earlyB x)) H
def sealB (x y : Stp) : Bool := decide (y.1 = x.1) || ((nmLt x.1 y.1 && nmLt y.1 x.2.2.2.1) || (nmLt x.1 y.2.2.2.1 && nmLt y.2.2.2.1 x.2.2.2.1))
def spInSeal : Sp := fun vs H Q _ => ∃ (p q : Addr) (x y : Stp), vs = [.ref p, .ref q] ∧ SxAt H p x ∧ SxAt H q y ∧ ∀ H', Same H H' → Q (.bl (sealB x y)) H'
def gEarly : Str := (("early" : String) : Str)
def gRoad : Str := (("road" : String) : Str)
def gSeal : Str := (("seal" : String) : Str)
def rch (E : List Ed) (x y : Str) : Prop := ∃ n, Wlk E n x y
/-- what lone_paper tells -/
def LonV (H : Hp) (E : List Ed) (x : Stp) (v : V) : Prop :=
  (earlyB x = true ∧ ∃ t b, v = .ref t ∧ H t = some (.tup [.str gEarly, .ref b]) ∧ H b = some (.tup (nmV x.2.2.2.1))) ∨
  (earlyB x = false ∧ ¬ rch E gNone x.2.1 ∧ ∃ t b r, v = .ref t ∧ H t = some (.tup [.str gRoad, .non, .ref b, .ref r]) ∧ H b = some (.tup (nmV x.2.2.2.1)) ∧ RchT H E gNone r) ∨
  (earlyB x = false ∧ rch E gNone x.2.1 ∧ v = .non)
def spLone : Sp := fun vs H Q _ => ∃ (D p : Addr) (E : List Ed) (x : Stp), vs = [.ref D, .ref p] ∧ RchD H D E ∧ SxAt H p x ∧ ∀ (v : V) (H' : Hp), Same H H' → LonV H' E x v → Q v H'
def PaiV (H : Hp) (E : List Ed) (x y : Stp) (v : V) : Prop :=
  (sealB x y = true ∧ ∃ t a b, v = .ref t ∧ H t = some (.tup [.str gSeal, .ref a, .ref b]) ∧ H a = some (.tup (nmV x.2.2.2.1)) ∧ H b = some (.tup (nmV y.2.2.2.1))) ∨
  (sealB x y = false ∧ ¬ rch E x.2.2.1 y.2.1 ∧ ∃ t a b r, v = .ref t ∧ H t = some (.tup [.str gRoad, .ref a, .ref b, .ref r]) ∧ H a = some (.tup (nmV x.2.2.2.1)) ∧ H b = some (.tup (nmV y.2.2.2.1)) ∧ RchT H E x.2.2.1 r) ∨
  (sealB x y = false ∧ rch E x.2.2.1 y.2.1 ∧ v = .non)
def spPair : Sp := fun vs H Q _ => ∃ (D p q : Addr) (E : List Ed) (x y : Stp), vs = [.ref D, .ref p, .ref q] ∧ RchD H D E ∧ plc E x.2.2.1 ∧ SxAt H p x ∧ SxAt H q y ∧ ∀ (v : V) (H' : Hp), Same H H' → PaiV H' E x y v → Q v H'
/-- a step that is wrong by itself; two that don't go together -/
def Lone (E : List Ed) (x : Stp) : Prop := earlyB x = true ∨ ¬ rch E gNone x.2.1
def PairF (E : List Ed) (x y : Stp) : Prop := sealB x y = true ∨ ¬ rch E x.2.2.1 y.2.1
def GoodN (E : List Ed) (L : List Stp) (s : Str) (n : Int) : Prop := (∀ x ∈ L, chose s n x = true → ¬ Lone E x) ∧ L.Pairwise fun x y => chose s n x = true → chose s n y = true → ¬ PairF E x y
theorem LonV.iff {H : Hp} {E : List Ed} {x : Stp} {v : V} (h : LonV H E x v) : (v = .non ∧ ¬ Lone E x) ∨ (∃ t, v = .ref t) ∧ Lone E x := by
  rcases h with ⟨h1, t, b, h2, _⟩ | ⟨h1, h2, t, b, r, h3, _⟩ | ⟨h1, h2, h3⟩
  · exact .inr ⟨⟨t, h2⟩, .inl h1⟩
  · exact .inr ⟨⟨t, h3⟩, .inr h2⟩
  · refine .inl ⟨h3, fun z => ?_⟩
    rcases z with z | z
    · rw [h1] at z
      exact nomatch z
    · exact z h2
theorem PaiV.iff {H : Hp} {E : List Ed} {x y : Stp} {v : V} (h : PaiV H E x y v) : (v = .non ∧ ¬ PairF E x y) ∨ (∃ t, v = .ref t) ∧ PairF E x y := by
  rcases h with ⟨h1, t, a, b, h2, _⟩ | ⟨h1, h2, t, a, b, r, h3, _⟩ | ⟨h1, h2, h3⟩
  · exact .inr ⟨⟨t, h2⟩, .inl h1⟩
  · exact .inr ⟨⟨t, h3⟩, .inr h2⟩
  · refine .inl ⟨h3, fun z => ?_⟩
    rcases z with z | z
    · rw [h1] at z
      exact nomatch z
    · exact z h2
/-- one step more -/
theorem GoodN.snoc {E : List Ed} {L : List Stp} {y : Stp} {s : Str} {n : Int} : GoodN E (L ++ [y]) s n ↔ GoodN E L s n ∧ (chose s n y = true → ¬ Lone E y) ∧ ∀ x ∈ L, chose s n x = true → chose s n y = true → ¬ PairF E x y := by
  unfold GoodN
  rw [List.pairwise_append]
  constructor
  · rintro ⟨h1, h2, _, h4⟩
    exact ⟨⟨fun x hx => h1 x (List.mem_append_left _ hx), h2⟩, h1 y (List.mem_append_right _ List.mem_cons_self), fun x hx => h4 x hx y List.mem_cons_self⟩
  · rintro ⟨⟨h1, h2⟩, h3, h4⟩
    refine ⟨fun x hx => ?_, h2, List.pairwise_singleton _ _, fun x hx z hz => ?_⟩
    · rcases List.mem_append.mp hx with hx | hx
      · exact h1 x hx
      · rw [List.mem_singleton.mp hx]
        exact h3
    · rw [List.mem_singleton.mp hz]
      exact h4 x hx
theorem has_chose {x : Stp} {s : Str} {n : Int} : has x.2.2.2.2 s n ↔ chose s n x = true := by
  unfold chose hasR has
  rw [List.any_eq_true]
  constructor
  · rintro ⟨r, hr, a, b, c⟩
    exact ⟨r, hr, by simp [a, b, c]⟩
  · rintro ⟨r, hr, z⟩
    rw [Bool.and_eq_true, Bool.and_eq_true, decide_eq_true_eq, decide_eq_true_eq, decide_eq_true_eq] at z
    exact ⟨r, hr, z⟩
/-! the law's look -/
def RightN (E : List Ed) (M : List Stp) : Prop := ∀ i x, M[i]? = some x → rch E (begAt M i) x.2.1 ∧ earlyB x = false ∧ ∀ y ∈ M, y.2.2.2.1 ≠ x.2.2.2.1 → ¬ (y.1 = x.1 ∨ (nmLt x.1 y.1 = true ∧ nmLt y.1 x.2.2.2.1 = true))
theorem rch.trans {E : List Ed} {x y z : Str} (h : rch E x y) (k : rch E y z) : rch E x z := by
  obtain ⟨n, h⟩ := h
  obtain ⟨m, k⟩ := k
  exact ⟨n + m, wlk_app h k⟩
theorem rch.edge {E : List Ed} {x y : Str} (h : (x, y) ∈ E) : rch E x y := ⟨1, x, rfl, h⟩
theorem keyS_mo {a b : Stp} (h : PySem.W.dataLe false keyS a b = true) : nmLt b.1 a.1 = false := by
  by_cases c : b.1 = a.1
  · rw [c]
    exact nmLt_irr _
  obtain ⟨l1, ne⟩ := nmD_toks2 b.1 a.1
  have ne := ne c
  have e2 : ∀ y : Stp, PySem.W.keyToks (keyS y) = (Sum.inl 1 :: PySem.W.keyToks (nmD y.1)) ++ (Sum.inl 1 :: (PySem.W.keyToks (nmD y.2.2.2.1) ++ [Sum.inl 0])) := fun y => by
    simp [keyS, PySem.W.keyToks, PySem.W.keyToksAll]
  have h : (!PyProof.Rows.lexLt PyProof.Rows.itemOrd (PySem.W.keyToks (keyS b)) (PySem.W.keyToks (keyS a))) = true := h
  rw [e2, e2, lexLt_app2 _ (by simp [l1]) (by simpa using ne)] at h
  have h : (!(PyProof.Rows.itemOrd.blt (Sum.inl 1) (Sum.inl 1) || (!PyProof.Rows.itemOrd.blt (Sum.inl 1) (Sum.inl 1) && PyProof.Rows.lexLt PyProof.Rows.itemOrd (PySem.W.keyToks (nmD b.1)) (PySem.W.keyToks (nmD a.1))))) = true := h
  rw [PyProof.Rows.itemOrd.irrefl] at h
  have h : (!PyProof.Rows.lexLt PyProof.Rows.itemOrd (PySem.W.keyToks (nmD b.1)) (PySem.W.keyToks (nmD a.1))) = true := by simpa using h
  show PyProof.Rows.lexLt PyProof.Rows.itemOrd (PySem.W.keyToks (nmD b.1)) (PySem.W.keyToks (nmD a.1)) = false
  simpa using h
theorem nmLt_le_lt {a b c : Nm} (h : nmLt b a = false) (k : nmLt b c = true) : nmLt a c = true := by
  cases e : nmLt a b with
  | true => exact nmLt_tr e k
  | false =>
    rw [nmLt_tot e h]
    exact k
theorem nmLt_lt_le {a b c : Nm} (h : nmLt a b = true) (k : nmLt c b = false) : nmLt a c = true := by
  cases e : nmLt b c with
  | true => exact nmLt_tr h e
  | false =>
    rw [← nmLt_tot e k]
    exact h
theorem beg_zero (M : List Stp) : begAt M 0 = gNone := rfl
theorem beg_succ {M : List Stp} {i : Nat} {x : Stp} (h : M[i]? = some x) : begAt M (i + 1) = x.2.2.1 := by
  unfold begAt
  rw [if_pos (Nat.succ_pos _), Nat.add_sub_cancel, h]
  rfl
theorem right_iff {E : List Ed} {M : List Stp} (srt : M.Pairwise fun a b => PySem.W.dataLe false keyS a b = true) (one : ∀ x ∈ M, ∀ y ∈ M, x.2.2.2.1 = y.2.2.2.1 → x = y) (nd : M.Nodup) (ed : ∀ x ∈ M, (x.2.1, x.2.2.1) ∈ E) :
    RightN E M ↔ (∀ x ∈ M, ¬ Lone E x) ∧ M.Pairwise fun x y => ¬ PairF E x y := by
  constructor
  · intro R
    have step : ∀ (i : Nat) (x : Stp), M[i]? = some x → ∀ (d : Nat) (y : Stp), M[i + d + 1]? = some y → rch E x.2.2.1 y.2.1 := fun i x hx d => by
      induction d with
      | zero =>
        intro y hy
        have z := (R (i + 1) y hy).1
        rw [beg_succ hx] at z
        exact z
      | succ d ih =>
        intro y hy
        have hd : i + d + 1 < M.length := by
          have := (List.getElem?_eq_some_iff.mp hy).1
          omega
        have hw : M[i + d + 1]? = some M[i + d + 1] := List.getElem?_eq_getElem hd
        have z := (R (i + (d + 1) + 1) y hy).1
        rw [show i + (d + 1) + 1 = (i + d + 1) + 1 by omega, beg_succ hw] at z
        exact (ih _ hw).trans ((rch.edge (ed _ (List.getElem_mem hd))).trans z)
    have first : ∀ (i : Nat) (x : Stp), M[i]? = some x → rch E gNone x.2.1 := fun i x hx => by
      cases i with
      | zero => exact (R 0 x hx).1
      | succ j =>
        have h0 : 0 < M.length := by
          have := (List.getElem?_eq_some_iff.mp hx).1
          omega
        have hw : M[0]? = some M[0] := List.getElem?_eq_getElem h0
        have z := step 0 _ hw j x (by rw [Nat.zero_add]; exact hx)
        exact ((R 0 _ hw).1).trans ((rch.edge (ed _ (List.getElem_mem h0))).trans z)
    refine ⟨fun x hx z => ?_, ?_⟩
    · obtain ⟨i, hi⟩ := List.mem_iff_getElem?.mp hx
      rcases z with z | z
      · rw [(R i x hi).2.1] at z
        exact nomatch z
      · exact z (first i x hi)
    · refine List.pairwise_iff_getElem.mpr fun i j hi hj ij z => ?_
      have gi : M[i]? = some M[i] := List.getElem?_eq_getElem hi
      have gj : M[j]? = some M[j] := List.getElem?_eq_getElem hj
      have mo := keyS_mo (List.pairwise_iff_getElem.mp srt i j hi hj ij)
      have ne : M[j].2.2.2.1 ≠ M[i].2.2.2.1 := fun e => by
        have e := one _ (List.getElem_mem hj) _ (List.getElem_mem hi) e
        exact List.pairwise_iff_getElem.mp nd i j hi hj ij e.symm
      have no := (R i _ gi).2.2 _ (List.getElem_mem hj) ne
      have ear := (R j _ gj).2.1
      rcases z with z | z
      · unfold sealB at z
        rw [Bool.or_eq_true, Bool.or_eq_true, Bool.and_eq_true, Bool.and_eq_true, decide_eq_true_eq] at z
        rcases z with z | ⟨z1, z2⟩ | ⟨z1, z2⟩
        · exact no (.inl z)
        · exact no (.inr ⟨z1, z2⟩)
        · by_cases c : M[j].1 = M[i].1
          · exact no (.inl c)
          · refine no (.inr ⟨?_, nmLt_le_lt ear z2⟩)
            cases e : nmLt M[i].1 M[j].1 with
            | true => rfl
            | false => exact absurd (nmLt_tot mo e) c
      · obtain ⟨d, rfl⟩ : ∃ d, j = i + d + 1 := ⟨j - i - 1, by omega⟩
        exact z (step i _ gi d _ gj)
  · rintro ⟨lo, pw⟩ i x hx
    have xm := List.mem_of_getElem? hx
    obtain ⟨hi, ex⟩ := List.getElem?_eq_some_iff.mp hx
    refine ⟨?_, ?_, fun y hy ne z => ?_⟩
    · cases i with
      | zero =>
        rw [beg_zero]
        exact Classical.byContradiction fun k => lo x xm (.inr k)
      | succ j =>
        have hj : j < M.length := by omega
        have hw : M[j]? = some M[j] := List.getElem?_eq_getElem hj
        rw [beg_succ hw]
        refine Classical.byContradiction fun k => List.pairwise_iff_getElem.mp pw j (j + 1) hj hi (by omega) (.inr ?_)
        rw [ex]
        exact k
    · cases e : earlyB x with
      | false => rfl
      | true => exact absurd (.inl e) (lo x xm)
    · obtain ⟨j, hy⟩ := List.mem_iff_getElem?.mp hy
      obtain ⟨hj, ey⟩ := List.getElem?_eq_some_iff.mp hy
      rcases Nat.lt_trichotomy i j with lt | eq | gt
      · refine List.pairwise_iff_getElem.mp pw i j hi hj lt (.inl ?_)
        rw [ex, ey]
        unfold sealB
        rw [Bool.or_eq_true, Bool.or_eq_true, Bool.and_eq_true, decide_eq_true_eq]
        exact z.imp id .inl
      · subst eq
        exact ne (by rw [← ey, ex])
      · have mo := keyS_mo (List.pairwise_iff_getElem.mp srt j i hj hi gt)
        rw [ex, ey] at mo
        rcases z with z | ⟨z1, _⟩
        · refine List.pairwise_iff_getElem.mp pw j i hj hi gt (.inl ?_)
          rw [ex, ey]
          unfold sealB
          rw [Bool.or_eq_true, decide_eq_true_eq]
          exact .inl z.symm
        · rw [z1] at mo
          exact nomatch mo
theorem good_filter {E : List Ed} {L : List Stp} {s : Str} {n : Int} : GoodN E L s n ↔ (∀ x ∈ L.filter (chose s n), ¬ Lone E x) ∧ (L.filter (chose s n)).Pairwise fun x y => ¬ PairF E x y := by
  unfold GoodN
  rw [List.pairwise_filter]
  refine and_congr ?_ Iff.rfl
  constructor
  · intro h x hx
    obtain ⟨a, b⟩ := List.mem_filter.mp hx
    exact h x a b
  · intro h x hx c
    exact h x (List.mem_filter.mpr ⟨hx, c⟩)
/-- all notes of one part are alike -/
theorem part_hasR {ws : List Wt} {base wide : Int} {rs : List Rn} (fl : FlOk base wide) (h : RsF ws base wide rs) {s : Str} {p : Nat} {n : Int} (h0 : base + (p : Int) * wide ≤ n) (h1 : n < base + (p : Int) * wide + wide) : hasR rs s n = hasR rs s (base + (p : Int) * wide) := by
  have w := fl.w1
  unfold hasR
  rw [Bool.eq_iff_iff, List.any_eq_true, List.any_eq_true]
  have key : ∀ r ∈ rs, (r.2.1 ≤ n ∧ n < r.2.2 ↔ r.2.1 ≤ base + (p : Int) * wide ∧ base + (p : Int) * wide < r.2.2) := fun r hr => by
    obtain ⟨_, a, b, ab, b8, e1, e2⟩ := h.k r hr
    rw [e1, e2]
    have m1 : ∀ x y : Int, x ≤ y → x * wide ≤ y * wide := fun x y k => Int.mul_le_mul_of_nonneg_right k (by omega)
    have s1 : ∀ x : Int, (x + 1) * wide = x * wide + wide := fun x => by rw [Int.add_mul, Int.one_mul]
    constructor
    · rintro ⟨k1, k2⟩
      constructor
      · rcases (show (p : Int) < a ∨ (a : Int) ≤ p by omega) with z | z
        · have := m1 ((p : Int) + 1) a (by omega)
          rw [s1] at this
          omega
        · have := m1 a p z
          omega
      · rcases (show (p : Int) < b ∨ (b : Int) ≤ p by omega) with z | z
        · have := m1 ((p : Int) + 1) b (by omega)
          rw [s1] at this
          omega
        · have := m1 b p z
          omega
    · rintro ⟨k1, k2⟩
      refine ⟨by omega, ?_⟩
      rcases (show (p : Int) < b ∨ (b : Int) ≤ p by omega) with z | z
      · have := m1 ((p : Int) + 1) b (by omega)
        rw [s1] at this
        omega
      · have := m1 b p z
        omega
  constructor
  · rintro ⟨r, hr, z⟩
    rw [Bool.and_eq_true, Bool.and_eq_true, decide_eq_true_eq, decide_eq_true_eq, decide_eq_true_eq] at z
    obtain ⟨k1, k2⟩ := (key r hr).mp z.2
    exact ⟨r, hr, by simp [z.1, k1, k2]⟩
  · rintro ⟨r, hr, z⟩
    rw [Bool.and_eq_true, Bool.and_eq_true, decide_eq_true_eq, decide_eq_true_eq, decide_eq_true_eq] at z
    obtain ⟨k1, k2⟩ := (key r hr).mpr z.2
    exact ⟨r, hr, by simp [z.1, k1, k2]⟩
theorem part_of {ws : List Wt} {base wide : Int} {rs : List Rn} (fl : FlOk base wide) (h : RsF ws base wide rs) {s : Str} {n : Int} (k : hasR rs s n = true) : s ∈ ws.map (·.1) ∧ ∃ p : Nat, p < 8 ∧ base + (p : Int) * wide ≤ n ∧ n < base + (p : Int) * wide + wide := by
  have w := fl.w1
  obtain ⟨r, hr, z⟩ := List.any_eq_true.mp k
  rw [Bool.and_eq_true, Bool.and_eq_true, decide_eq_true_eq, decide_eq_true_eq, decide_eq_true_eq] at z
  obtain ⟨i, a, b, ab, b8, e1, e2⟩ := h.k r hr
  obtain ⟨z1, z2, z3⟩ := z
  refine ⟨z1 ▸ i, ((n - base) / wide).toNat, ?_⟩
  rw [e1] at z2
  rw [e2] at z3
  have a0 : 0 ≤ (a : Int) * wide := Int.mul_nonneg (by omega) (by omega)
  have q0 : 0 ≤ (n - base) / wide := Int.ediv_nonneg (by omega) (by omega)
  have q1 := Int.ediv_mul_le (n - base) (show wide ≠ 0 by omega)
  have q2 := Int.lt_ediv_add_one_mul_self (n - base) (show 0 < wide by omega)
  have qe : ((((n - base) / wide).toNat : Nat) : Int) = (n - base) / wide := by omega
  have e : ((n - base) / wide + 1) * wide = (n - base) / wide * wide + wide := by rw [Int.add_mul, Int.one_mul]
  rw [qe]
  have m1 : (b : Int) * wide ≤ 8 * wide := Int.mul_le_mul_of_nonneg_right (by omega) (by omega)
  have lt8 : (n - base) / wide < 8 := by
    refine Int.lt_of_mul_lt_mul_right (a := wide) ?_ (by omega)
    omega
  exact ⟨by omega, by omega, by omega⟩
def BadTo (E : List Ed) (L : List Stp) (y : Stp) (j : Nat) (s : Str) (n : Int) : Prop := ¬ GoodN E L s n ∨ (chose s n y = true ∧ Lone E y) ∨ ∃ x ∈ L.take j, chose s n x = true ∧ chose s n y = true ∧ PairF E x y
theorem bad_all {E : List Ed} {L : List Stp} {y : Stp} {s : Str} {n : Int} : ¬ GoodN E (L ++ [y]) s n ↔ BadTo E L y L.length s n := by
  unfold BadTo
  rw [GoodN.snoc, List.take_length]
  constructor
  · intro h
    by_cases a : GoodN E L s n
    · by_cases b : chose s n y = true ∧ Lone E y
      · exact .inr (.inl b)
      · refine .inr (.inr (Classical.byContradiction fun c => h ⟨a, fun k l => b ⟨k, l⟩, fun x hx k1 k2 k3 => c ⟨x, hx, k1, k2, k3⟩⟩))
    · exact .inl a
  · rintro (h | ⟨h1, h2⟩ | ⟨x, hx, h1, h2, h3⟩) ⟨k1, k2, k3⟩
    · exact h k1
    · exact k2 h1 h2
    · exact k3 x hx h1 h2 h3
theorem BadTo.zero {E : List Ed} {L : List Stp} {y : Stp} {s : Str} {n : Int} : BadTo E L y 0 s n ↔ ¬ GoodN E L s n ∨ (chose s n y = true ∧ Lone E y) := by
  unfold BadTo
  rw [List.take_zero]
  constructor
  · rintro (h | h | ⟨x, hx, _⟩)
    · exact .inl h
    · exact .inr h
    · exact nomatch hx
  · rintro (h | h)
    · exact .inl h
    · exact .inr (.inl h)
theorem BadTo.succ {E : List Ed} {L : List Stp} {y x : Stp} {j : Nat} {s : Str} {n : Int} (h : L[j]? = some x) : BadTo E L y (j + 1) s n ↔ BadTo E L y j s n ∨ (chose s n x = true ∧ chose s n y = true ∧ PairF E x y) := by
  obtain ⟨hj, e⟩ := List.getElem?_eq_some_iff.mp h
  unfold BadTo
  rw [List.take_succ_eq_append_getElem hj, e]
  constructor
  · rintro (k | k | ⟨z, hz, k⟩)
    · exact .inl (.inl k)
    · exact .inl (.inr (.inl k))
    · rcases List.mem_append.mp hz with hz | hz
      · exact .inl (.inr (.inr ⟨z, hz, k⟩))
      · rw [List.mem_singleton.mp hz] at k
        exact .inr k
  · rintro ((k | k | ⟨z, hz, k⟩) | k)
    · exact .inl k
    · exact .inr (.inl k)
    · exact .inr (.inr ⟨z, List.mem_append_left _ hz, k⟩)
    · exact .inr (.inr ⟨x, List.mem_append_right _ List.mem_cons_self, k⟩)
def spFals (P : Addr) : Sp := fun vs H Q _ => ∃ (o b : Addr) (ws : List Wt) (E : List Ed) (base wide : Int) (gs : List Pg), vs = [.ref o, .ref b] ∧ OfAt H o ws E ∧ E.length ≤ 16 ∧ BkF H b gs ∧ gs.length ≤ 40 ∧ (gs.map (·.1)).Nodup ∧ (∀ g ∈ gs, DdF ws E base wide g.2) ∧ TabL H P qSteps ∧
  ∀ (u : Addr) (qs : List Addr) (R : List Rn) (H' : Hp), But P H H' → TabL H' P qSteps → H u = none → H' u = some (.tup (qs.map V.ref)) → Prd H' qs R → Canon R → (∀ s n, has R s n ↔ ¬ GoodN E (sortS (rowsP gs)) s n) → Q (.ref u) H'
def spRightR : Sp := fun vs H Q _ => ∃ (A l : Addr) (E : List Ed) (kvs : List (List Key × V)) (d : Ap) (ps : List Addr) (M : List Stp), vs = [.ref A, .ref l] ∧ H A = some (.dT kvs) ∧ apOf d kvs ∧ FwOk E (plc E) (plc E) d ∧ H l = some (.lst (ps.map V.ref)) ∧ S5s H ps M ∧ M.length ≤ 100 ∧ (∀ x ∈ M, (x.2.1, x.2.2.1) ∈ E) ∧
  ∀ (b : Bool) (H' : Hp), Same H H' → (b = true ↔ RightN E M) → Q (.bl b) H'
def spDueF : Sp := fun vs H Q _ => ∃ (o d b : Addr) (ws : List Wt) (E : List Ed) (base wide : Int) (gs : List Pg), vs = [.ref o, .ref d, .ref b] ∧ OfAt H o ws E ∧ OfOk1 ws E ∧ FlAt H d base wide ∧ FlOk base wide ∧ BkF H b gs ∧ gs.length ≤ 40 ∧ (gs.map (·.1)).Nodup ∧ (∀ g ∈ gs, DdF ws E base wide g.2) ∧
  ∀ (u : Addr) (qs : List Addr) (R : List Rn) (H' : Hp), Same H H' → H u = none → H' u = some (.tup (qs.map V.ref)) → Prd H' qs R → R.length ≤ 40 → (∀ r ∈ R, RkF ws base wide r) → Canon R → (∀ s n, has R s n ↔ ¬ GoodN E (sortS (rowsP gs)) s n) → Q (.ref u) H'
theorem rowsP_ndN {bs : List Pg} (nd : (bs.map (·.1)).Nodup) : (rowsP bs).Nodup := by
  have z : ∀ l : List Pg, ((l.flatMap (stp bs)).map fun s => s.2.2.2.1).Sublist (l.map (·.1)) := fun l => by
    induction l with
    | nil => exact List.Sublist.slnil
    | cons g l ih =>
      rw [List.flatMap_cons, List.map_append, List.map_cons]
      have l1 := stp_len bs g
      match e : stp bs g with
      | [] => exact ih.cons _
      | [x] =>
        have en : x.2.2.2.1 = g.1 := stp_nm (by rw [e]; exact List.mem_cons_self)
        show (x.2.2.2.1 :: _).Sublist _
        rw [en]
        exact ih.cons_cons _
      | _ :: _ :: _ => rw [e] at l1; simp at l1
  have nn : ((rowsP bs).map fun s => s.2.2.2.1).Nodup := List.Nodup.sublist ((z _).trans (List.Sublist.map _ List.filter_sublist)) nd
  exact (List.pairwise_map.mp nn).imp fun {a b} h e => h (by rw [e])
theorem sortS_sorted (l : List Stp) : (sortS l).Pairwise fun a b => PySem.W.dataLe false keyS a b = true := by
  have T := PySem.W.sortLe_total (PyProof.Rows.listOrd PyProof.Rows.itemOrd) false fun s => PySem.W.keyToks (keyS s)
  exact List.pairwise_mergeSort (le := PySem.W.dataLe false keyS) T.trans (fun a b => Bool.or_eq_true_iff.mpr (T.total a b)) l
theorem chose_part {ws : List Wt} {base wide : Int} (fl : FlOk base wide) {L : List Stp} (h : ∀ x ∈ L, RsF ws base wide x.2.2.2.2) {s : Str} {p : Nat} {n : Int} (h0 : base + (p : Int) * wide ≤ n) (h1 : n < base + (p : Int) * wide + wide) : L.filter (chose s n) = L.filter (chose s (base + (p : Int) * wide)) :=
  List.filter_congr fun x hx => part_hasR fl (h x hx) h0 h1
theorem due_iff {ws : List Wt} {E : List Ed} {base wide : Int} (fl : FlOk base wide) {L : List Stp} (h : ∀ x ∈ L, (x.2.1, x.2.2.1) ∈ E ∧ RsF ws base wide x.2.2.2.2) (srt : L.Pairwise fun a b => PySem.W.dataLe false keyS a b = true) (one : ∀ x ∈ L, ∀ y ∈ L, x.2.2.2.1 = y.2.2.2.1 → x = y) (nd : L.Nodup) {s : Str} {n : Int} :
    (s ∈ ws.map (·.1) ∧ ∃ p : Nat, p < 8 ∧ (base + (p : Int) * wide ≤ n ∧ n < base + (p : Int) * wide + wide) ∧ ¬ RightN E (L.filter (chose s (base + (p : Int) * wide)))) ↔ ¬ GoodN E L s n := by
  have eq : ∀ (s : Str) (n : Int), RightN E (L.filter (chose s n)) ↔ GoodN E L s n := fun s n => by
    rw [good_filter]
    exact right_iff (srt.filter _) (fun x hx y hy => one x (List.mem_filter.mp hx).1 y (List.mem_filter.mp hy).1) (nd.filter _) fun x hx => (h x (List.mem_filter.mp hx).1).1
  constructor
  · rintro ⟨hs, p, p8, ⟨a, b⟩, k⟩
    rw [← eq, chose_part fl (fun x hx => (h x hx).2) a b]
    exact k
  · intro k
    by_cases c : ∃ x ∈ L, chose s n x = true
    · obtain ⟨x, hx, cx⟩ := c
      obtain ⟨i, p, p8, a, b⟩ := part_of fl (h x hx).2 cx
      refine ⟨i, p, p8, ⟨a, b⟩, ?_⟩
      rw [← chose_part fl (fun x hx => (h x hx).2) a b, eq]
      exact k
    · refine (k ⟨fun x hx cx => (c ⟨x, hx, cx⟩).elim, ?_⟩).elim
      refine List.Pairwise.imp_of_mem (R := fun _ _ => True) (fun {a b} ha _ _ ca => (c ⟨a, ha, ca⟩).elim) ?_
      exact List.pairwise_of_forall fun _ _ => trivial
theorem RsI.joinH {ws : List Wt} {base wide : Int} {s : Str} {p : Nat} {acc : List Rn} (h : RsI ws base wide s p acc) (w : 1 ≤ wide) (s' : Str) (n : Int) : has (Pn.join acc (s, base + (p : Int) * wide, base + (p : Int) * wide + wide)) s' n ↔ has acc s' n ∨ (s = s' ∧ base + (p : Int) * wide ≤ n ∧ n < base + (p : Int) * wide + wide) := by
  have vk : ∀ x, acc.getLast? = some x → Vk x (s, base + (p : Int) * wide, base + (p : Int) * wide + wide) := fun x hx => (h.hi x (List.mem_of_getLast? hx)).imp id id
  obtain ⟨j1, j2⟩ := join_push (r := (s, base + (p : Int) * wide, base + (p : Int) * wide + wide)) vk (by show base + (p : Int) * wide < base + (p : Int) * wide + wide; omega)
  have wk : ∀ x, acc.getLast? = some x → Wk x (s, base + (p : Int) * wide, base + (p : Int) * wide + wide) := fun x hx => by
    have f := h.ca.2 x (List.mem_of_getLast? hx)
    rcases vk x hx with ⟨a, b⟩ | z
    · exact .inl ⟨a, by have b : x.2.2 ≤ base + (p : Int) * wide := b; show x.2.1 ≤ base + (p : Int) * wide; omega⟩
    · exact .inr z
  obtain ⟨_, hh, _⟩ := push_ok h.ca wk (by show base + (p : Int) * wide < base + (p : Int) * wide + wide; omega)
  rw [j1]
  exact hh s' n
/-- is in part p -/
def inP (base wide : Int) (p : Nat) (n : Int) : Prop := base + (p : Int) * wide ≤ n ∧ n < base + (p : Int) * wide + wide
def DueTo (base wide : Int) (xs : List Str) (bad : Str → Nat → Prop) (s : Str) (n : Int) : Prop := s ∈ xs ∧ ∃ p : Nat, p < 8 ∧ inP base wide p n ∧ bad s p
theorem okd_rnsF {ws : List Wt} {base wide : Int} {R : List Rn} (ok : ∀ w ∈ ws, WtOk w) (fl : FlOk base wide) (h : ∀ r ∈ R, RkF ws base wide r) (l : R.length ≤ 40) : Okd 3 200000 (.tuple (R.map rnD)) := by
  have z := OkdAll.tup (OkdAll.of (n := 2) (c := 4200) (ds := R.map rnD) fun d hd => by
    obtain ⟨r, hr, rfl⟩ := List.mem_map.mp hd
    exact okd_rnF ok fl (h r hr))
  refine Okd.mono z (Nat.le_refl _) ?_
  rw [List.length_map]
  omega
theorem due_inner {ws : List Wt} {base wide : Int} (w : 1 ≤ wide) {s : Str} (hs : s ∈ ws.map (·.1)) (bad : Nat → Prop) {acc0 : List Rn} (h0 : RsI ws base wide s 0 acc0) : ∀ j : Nat, j ≤ 8 → ∃ acc, RsI ws base wide s j acc ∧ acc.length ≤ acc0.length + j ∧ ∀ s' n', has acc s' n' ↔ has acc0 s' n' ∨ (s' = s ∧ ∃ p : Nat, p < j ∧ inP base wide p n' ∧ bad p)
  | 0, _ => ⟨acc0, h0, Nat.le_refl _, fun s' n' => ⟨.inl, fun z => z.elim id fun k => by obtain ⟨_, p, hp, _⟩ := k; exact absurd hp (Nat.not_lt_zero _)⟩⟩
  | j + 1, hj => by
    obtain ⟨acc, ri, le, ha⟩ := due_inner w hs bad h0 j (by omega)
    by_cases b : bad j
    · refine ⟨join acc (s, base + (j : Int) * wide, base + (j : Int) * wide + wide), ri.join w hs (by omega), ?_, fun s' n' => ?_⟩
      · have := join_len acc (s, base + (j : Int) * wide, base + (j : Int) * wide + wide)
        omega
      · rw [ri.joinH w, ha]
        constructor
        · rintro ((k | ⟨e, p, hp, k⟩) | ⟨e, k⟩)
          · exact .inl k
          · exact .inr ⟨e, p, by omega, k⟩
          · exact .inr ⟨e.symm, j, by omega, k, b⟩
        · rintro (k | ⟨e, p, hp, k1, k2⟩)
          · exact .inl (.inl k)
          · rcases Nat.lt_or_ge p j with z | z
            · exact .inl (.inr ⟨e, p, z, k1, k2⟩)
            · rw [show p = j by omega] at k1
              exact .inr ⟨e.symm, k1⟩
    · refine ⟨acc, ri.more w, by omega, fun s' n' => (ha s' n').trans (or_congr Iff.rfl (and_congr_right fun _ => ⟨fun ⟨p, hp, k⟩ => ⟨p, by omega, k⟩, fun ⟨p, hp, k1, k2⟩ => ⟨p, ?_, k1, k2⟩⟩))⟩
      rcases Nat.lt_or_ge p j with z | z
      · exact z
      · rw [show p = j by omega] at k2
        exact (b k2).elim
theorem due_outer {ws : List Wt} {base wide : Int} (w : 1 ≤ wide) (xup : (ws.map (·.1)).Pairwise sl) (bad : Str → Nat → Prop) : ∀ i : Nat, i ≤ ws.length → ∃ acc : List Rn, Canon acc ∧ (∀ r ∈ acc, RkF ws base wide r) ∧ (∀ r ∈ acc, ∀ j t, i ≤ j → (ws.map (·.1))[j]? = some t → sl r.1 t) ∧ acc.length ≤ 8 * i ∧ ∀ s' n', has acc s' n' ↔ DueTo base wide ((ws.take i).map (·.1)) bad s' n'
  | 0, _ => ⟨[], canon_nil, (fun _ h => nomatch h), (fun _ h => nomatch h), Nat.le_refl _, fun s' n' => ⟨fun z => (has_nil _ _ z).elim, fun z => nomatch z.1⟩⟩
  | i + 1, hi => by
    obtain ⟨acc, ca, k, up, le, ha⟩ := due_outer w xup bad i (by omega)
    have hi2 : i < (ws.map (·.1)).length := by rw [List.length_map]; omega
    have hs : (ws.map (·.1))[i]? = some (ws.map (·.1))[i] := List.getElem?_eq_getElem hi2
    have ri0 : RsI ws base wide (ws.map (·.1))[i] 0 acc := ⟨ca, k, fun r hr => .inr (up r hr i _ (Nat.le_refl _) hs)⟩
    obtain ⟨acc2, ri7, le2, ha7⟩ := due_inner w (List.getElem_mem hi2) (bad (ws.map (·.1))[i]) ri0 8 (Nat.le_refl _)
    refine ⟨acc2, ri7.ca, ri7.k, fun r hr j t hj ht => ?_, by omega, fun s' n' => ?_⟩
    · obtain ⟨hj2, et⟩ := List.getElem?_eq_some_iff.mp ht
      have stt : sl (ws.map (·.1))[i] t := by
        rw [← et]
        exact List.pairwise_iff_getElem.mp xup i j hi2 hj2 (by omega)
      rcases ri7.hi r hr with ⟨z, _⟩ | z
      · rw [z]
        exact stt
      · exact sl_tr z stt
    · have e1 : (ws.take (i + 1)).map (·.1) = (ws.take i).map (·.1) ++ [(ws.map (·.1))[i]] := by
        rw [List.take_succ_eq_append_getElem (by omega), List.map_append, List.getElem_map]
        rfl
      rw [ha7, ha, e1]
      unfold DueTo
      constructor
      · rintro (⟨k1, k2⟩ | ⟨k1, k2⟩)
        · exact ⟨List.mem_append_left _ k1, k2⟩
        · rw [k1]
          exact ⟨List.mem_append_right _ List.mem_cons_self, k2⟩
      · rintro ⟨k1, k2⟩
        rcases List.mem_append.mp k1 with k1 | k1
        · exact .inl ⟨k1, k2⟩
        · have e : s' = (ws.map (·.1))[i] := List.mem_singleton.mp k1
          rw [e] at k2
          exact .inr ⟨e, k2⟩
/-- the RUNS of all false notes -/
theorem due_ex {ws : List Wt} {E : List Ed} {base wide : Int} (ok : OfOk1 ws E) (fl : FlOk base wide) {gs : List Pg} (nd : (gs.map (·.1)).Nodup) (dok : ∀ g ∈ gs, DdF ws E base wide g.2) : ∃ R : List Rn, R.length ≤ 40 ∧ (∀ r ∈ R, RkF ws base wide r) ∧ Canon R ∧ ∀ s n, has R s n ↔ ¬ GoodN E (sortS (rowsP gs)) s n := by
  have rin := fun x hx => rows_in nd dok (x := x) hx
  have sin : ∀ x ∈ sortS (rowsP gs), (x.2.1, x.2.2.1) ∈ E ∧ RsF ws base wide x.2.2.2.2 := fun x hx => rin x (List.mem_mergeSort.mp hx)
  have dif := fun s n => due_iff (E := E) fl sin (sortS_sorted _) (fun x hx y hy => rows_one nd (List.mem_mergeSort.mp hx) (List.mem_mergeSort.mp hy)) ((List.mergeSort_perm _ _).nodup_iff.mpr (rowsP_ndN nd)) (s := s) (n := n)
  obtain ⟨okO, e0, k0, k00, nms⟩ := ok
  have w4 := okO.lw
  obtain ⟨acc, ca, k, _, le, ha⟩ := due_outer fl.w1 (by rw [nms]; exact gser_up _) (fun s p => ¬ RightN E ((sortS (rowsP gs)).filter (chose s (base + (p : Int) * wide)))) ws.length (Nat.le_refl _)
  refine ⟨acc, by omega, k, ca, fun s n => ?_⟩
  rw [ha, ← dif, List.take_length]
  rfl
/-! ### k03: how many notes, where one is, the k-th -/
def cnt (r : Rn) : Int := r.2.2 - r.2.1
def cntL (rs : List Rn) : Int := (rs.map cnt).sum
theorem cntL_cons (r : Rn) (rs : List Rn) : cntL (r :: rs) = cnt r + cntL rs := by
  unfold cntL
  rw [List.map_cons, List.sum_cons]
theorem cntL_app (a b : List Rn) : cntL (a ++ b) = cntL a + cntL b := by
  unfold cntL
  rw [List.map_append, List.sum_append]
theorem cntL_nn : ∀ {rs : List Rn}, Full rs → 0 ≤ cntL rs
  | [], _ => Int.le_refl _
  | r :: rs, h => by
    have h1 := h r List.mem_cons_self
    have h2 := cntL_nn (rs := rs) fun x hx => h x (List.mem_cons_of_mem _ hx)
    rw [cntL_cons]
    unfold cnt
    omega
theorem cntL_hi : ∀ {rs : List Rn}, (∀ r ∈ rs, RnOk r) → cntL rs ≤ 1000000000 * rs.length
  | [], _ => Int.le_refl _
  | r :: rs, h => by
    obtain ⟨h1, h3, h4⟩ := h r List.mem_cons_self
    have h2 := cntL_hi (rs := rs) fun x hx => h x (List.mem_cons_of_mem _ hx)
    rw [cntL_cons, List.length_cons]
    unfold cnt
    omega
def spMany (K : PySem.W.Frag) (P : Addr) : Sp := fun vs H Q _ => ∃ (a : Addr) (rs : List Rn), vs = [.ref a] ∧ TpAt K H a rs ∧ rs.length ≤ 3000 ∧ (∀ r ∈ rs, RnOk r) ∧ H P = some (TabO P) ∧
  ∀ H', Same H H' → Q (.int (cntL rs)) H'
theorem range_sum {α : Type} (f : α → Int) (xs : List α) : ((((List.range xs.length).filter fun _ => true).map fun i => (xs[i]?).elim 0 f)).sum = (xs.map f).sum := by
  have e : ((List.range xs.length).filter fun _ => true) = List.range xs.length := List.filter_eq_self.mpr fun _ _ => rfl
  rw [e]
  congr 1
  apply List.ext_getElem?
  intro i
  rw [List.getElem?_map, List.getElem?_map]
  by_cases h : i < xs.length
  · rw [List.getElem?_range h, List.getElem?_eq_getElem h]
    simp [h]
  · rw [List.getElem?_eq_none (by simpa using h), List.getElem?_eq_none (by omega)]
    rfl
theorem cntL_take {rs : List Rn} {i : Nat} {r : Rn} (h : rs[i]? = some r) : cntL (rs.take (i + 1)) = cntL (rs.take i) + cnt r := by
  obtain ⟨hi, e⟩ := List.getElem?_eq_some_iff.mp h
  rw [List.take_succ_eq_append_getElem hi, cntL_app, e]
  unfold cntL
  simp
theorem canon_mem {rs : List Rn} (h : Canon rs) {r : Rn} (hr : r ∈ rs) : ¬ has rs r.1 (r.2.1 - 1) ∧ ¬ has rs r.1 r.2.2 := by
  obtain ⟨a, b, rfl⟩ := List.append_of_mem hr
  have f := h.2 r hr
  obtain ⟨pa, pb, pc⟩ := List.pairwise_append.mp h.1
  have pb := (List.pairwise_cons.mp pb).1
  have key : ∀ n, n < r.2.1 → r.2.1 - 1 ≤ n ∨ False → True := fun _ _ _ => trivial
  have far : ∀ x ∈ a ++ r :: b, x.1 = r.1 → (x = r ∨ x.2.2 < r.2.1 ∨ r.2.2 < x.2.1) := fun x hx e => by
    rcases List.mem_append.mp hx with hx | hx
    · rcases (apart_iff _ _).mp (pc x hx r List.mem_cons_self) with ⟨_, z⟩ | z
      · exact .inr (.inl z)
      · rw [e] at z
        exact (sl_irr _ z).elim
    · rcases List.mem_cons.mp hx with hx | hx
      · exact .inl hx
      · rcases (apart_iff _ _).mp (pb x hx) with ⟨_, z⟩ | z
        · exact .inr (.inr z)
        · rw [e] at z
          exact (sl_irr _ z).elim
  constructor
  · rintro ⟨x, hx, e, h1, h2⟩
    rcases far x hx e with rfl | z | z
    · omega
    · omega
    · omega
  · rintro ⟨x, hx, e, h1, h2⟩
    have fx := h.2 x hx
    rcases far x hx e with rfl | z | z
    · omega
    · omega
    · omega
/-! counting -/
def card (M : Nat) (S : List Str) (P : Str → Nat → Bool) : Nat := (S.map fun s => (List.range M).countP (P s)).sum
theorem card_eq {M : Nat} {S : List Str} {P Q : Str → Nat → Bool} (h : ∀ s n, P s n = Q s n) : card M S P = card M S Q := by
  have e : P = Q := funext fun s => funext fun n => h s n
  rw [e]
theorem countP_or (l : List Nat) (P Q : Nat → Bool) : l.countP (fun n => P n || Q n) + l.countP (fun n => P n && Q n) = l.countP P + l.countP Q := by
  induction l with
  | nil => rfl
  | cons x l ih =>
    simp only [List.countP_cons]
    cases P x <;> cases Q x <;> simp <;> omega
theorem card_or (M : Nat) (S : List Str) (P Q : Str → Nat → Bool) : card M S (fun s n => P s n || Q s n) + card M S (fun s n => P s n && Q s n) = card M S P + card M S Q := by
  unfold card
  induction S with
  | nil => rfl
  | cons s S ih =>
    rw [List.map_cons, List.sum_cons, List.map_cons, List.sum_cons, List.map_cons, List.sum_cons, List.map_cons, List.sum_cons]
    have := countP_or (List.range M) (P s) (Q s)
    dsimp only at ih this ⊢
    omega
theorem countP_none (l : List Nat) : l.countP (fun _ => false) = 0 := by
  induction l with
  | nil => rfl
  | cons x l ih => simp [List.countP_cons, ih]
theorem card_none (M : Nat) (S : List Str) : card M S (fun _ _ => false) = 0 := by
  unfold card
  induction S with
  | nil => rfl
  | cons s S ih =>
    rw [List.map_cons, List.sum_cons]
    have := countP_none (List.range M)
    dsimp only at ih this ⊢
    omega
theorem range_countP : ∀ (M lo hi : Nat), lo ≤ hi → hi ≤ M → (List.range M).countP (fun n => decide (lo ≤ n) && decide (n < hi)) = hi - lo
  | 0, lo, hi, h1, h2 => by
    have : hi = 0 := by omega
    subst this
    simp
  | M + 1, lo, hi, h1, h2 => by
    rw [List.range_succ, List.countP_append, List.countP_singleton]
    by_cases c : hi ≤ M
    · rw [range_countP M lo hi h1 c]
      have : (decide (lo ≤ M) && decide (M < hi)) = false := by simp; omega
      rw [this]
      rfl
    · have e : hi = M + 1 := by omega
      subst e
      by_cases d : lo ≤ M
      · have ih := range_countP M lo M d (Nat.le_refl _)
        have e2 : (List.range M).countP (fun n => decide (lo ≤ n) && decide (n < M + 1)) = (List.range M).countP (fun n => decide (lo ≤ n) && decide (n < M)) := by
          refine List.countP_congr fun n hn => ?_
          have := List.mem_range.mp hn
          simp
          omega
        rw [e2, ih]
        have : (decide (lo ≤ M) && decide (M < M + 1)) = true := by simp [d]
        rw [this]
        show M - lo + 1 = M + 1 - lo
        omega
      · have e3 : lo = M + 1 := by omega
        subst e3
        have e2 : (List.range M).countP (fun n => decide (M + 1 ≤ n) && decide (n < M + 1)) = 0 := by
          rw [List.countP_eq_zero]
          intro n hn
          have := List.mem_range.mp hn
          simp
          try omega
        rw [e2]
        have : (decide (M + 1 ≤ M) && decide (M < M + 1)) = false := by simp
        rw [this]
        simp
def hasN (rs : List Rn) (s : Str) (n : Nat) : Bool := hasB rs s n
theorem card_run {M : Nat} (hM : 1000000000 ≤ M) {S : List Str} (nd : S.Nodup) {r : Rn} (hs : r.1 ∈ S) (ok : RnOk r) : (card M S (hasN [r]) : Int) = cnt r := by
  obtain ⟨o1, o2, o3⟩ := ok
  have e : ∀ s, (List.range M).countP (hasN [r] s) = if r.1 = s then (r.2.2.toNat - r.2.1.toNat) else 0 := fun s => by
    by_cases c : r.1 = s
    · rw [if_pos c, ← range_countP M r.2.1.toNat r.2.2.toNat (by omega) (by omega)]
      refine List.countP_congr fun n _ => ?_
      unfold hasN hasB
      simp [c]
      try omega
    · rw [if_neg c, List.countP_eq_zero]
      intro n _
      unfold hasN hasB
      simp [c]
  have f : card M S (hasN [r]) = r.2.2.toNat - r.2.1.toNat := by
    unfold card
    induction S with
    | nil => exact nomatch hs
    | cons s S ih =>
      rw [List.nodup_cons] at nd
      rw [List.map_cons, List.sum_cons, e]
      by_cases c : r.1 = s
      · rw [if_pos c]
        have z : (S.map fun s => (List.range M).countP (hasN [r] s)).sum = 0 := by
          have : ∀ x ∈ S, (List.range M).countP (hasN [r] x) = 0 := fun x hx => by
            rw [e, if_neg]
            intro z
            exact nd.1 (by rw [← c, z]; exact hx)
          clear ih hs
          induction S with
          | nil => rfl
          | cons y S ih2 =>
            rw [List.map_cons, List.sum_cons, this y List.mem_cons_self, Nat.zero_add]
            exact ih2 ⟨fun z => nd.1 (List.mem_cons_of_mem _ z), (List.nodup_cons.mp nd.2).2⟩ fun x hx => this x (List.mem_cons_of_mem _ hx)
        rw [z]
        rfl
      · rw [if_neg c, Nat.zero_add]
        rcases List.mem_cons.mp hs with h | h
        · exact (c h).elim
        · exact ih nd.2 h
  rw [f]
  unfold cnt
  omega
theorem card_cnt {M : Nat} (hM : 1000000000 ≤ M) {S : List Str} (nd : S.Nodup) : ∀ {rs : List Rn}, Canon rs → (∀ r ∈ rs, RnOk r ∧ r.1 ∈ S) → (card M S (hasN rs) : Int) = cntL rs
  | [], _, _ => by
    have e : card M S (hasN []) = card M S (fun _ _ => false) := rfl
    rw [e, card_none]
    rfl
  | r :: rs, h, ok => by
    have ih := card_cnt hM nd h.tail fun x hx => ok x (List.mem_cons_of_mem _ hx)
    have one := card_run hM nd (ok r List.mem_cons_self).2 (ok r List.mem_cons_self).1
    have z := card_or M S (hasN [r]) (hasN rs)
    have e1 : card M S (fun s n => hasN [r] s n || hasN rs s n) = card M S (hasN (r :: rs)) := card_eq fun s n => by
      unfold hasN hasB
      simp
    have e2 : card M S (fun s n => hasN [r] s n && hasN rs s n) = card M S (fun _ _ => false) := card_eq fun s n => by
      rw [Bool.and_eq_false_iff]
      by_cases c : hasN rs s n = true
      · left
        have k := (hasB_iff rs s n).mp c
        have q := canon_first h k
        unfold hasN hasB
        simp only [List.any_cons, List.any_nil, Bool.or_false, Bool.and_eq_false_iff, decide_eq_false_iff_not]
        rcases q with ⟨q1, q2⟩ | q
        · right
          right
          omega
        · left
          intro z
          rw [z] at q
          exact sl_irr _ q
      · right
        simpa using c
    rw [e1, e2, card_none] at z
    rw [cntL_cons]
    omega
/-! ### k45: gaps; runs of whole parts of a field, counted by parts -/
structure OnP (xs : List Str) (base wide : Int) (rs : List Rn) : Prop where
  ca : Canon rs
  cn : ∀ s n, has rs s n → s ∈ xs ∧ ∃ p : Nat, p < 8 ∧ inP base wide p n
  fl : ∀ s n m (p : Nat), p < 8 → inP base wide p n → inP base wide p m → has rs s n → has rs s m
theorem OnP.nil {xs : List Str} {base wide : Int} : OnP xs base wide [] := ⟨canon_nil, fun s n h => absurd h (has_nil s n), fun s n _ _ _ _ _ h => absurd h (has_nil s n)⟩
theorem OnP.of {ws : List Wt} {base wide : Int} {rs : List Rn} (fl : FlOk base wide) (h : RsF ws base wide rs) : OnP (ws.map (·.1)) base wide rs := by
  have e : ∀ s n, has rs s n ↔ hasR rs s n = true := fun s n => (hasB_iff rs s n).symm
  refine ⟨h.ca, fun s n k => ?_, fun s n m p _ h1 h2 k => ?_⟩
  · obtain ⟨a, p, p8, h1, h2⟩ := part_of fl h ((e s n).mp k)
    exact ⟨a, p, p8, h1, h2⟩
  · rw [e, part_hasR fl h h2.1 h2.2, ← part_hasR fl h h1.1 h1.2, ← e]
    exact k
theorem OnP.op {xs : List Str} {base wide : Int} {a b c : List Rn} (ha : OnP xs base wide a) (hb : OnP xs base wide b) (hc : Canon c) (F : Prop → Prop → Prop) (e : ∀ s n, has c s n ↔ F (has a s n) (has b s n)) (no : ¬ F False False) : OnP xs base wide c := by
  refine ⟨hc, fun s n k => ?_, fun s n m p p8 h1 h2 k => ?_⟩
  · have k := (e s n).mp k
    by_cases z1 : has a s n
    · exact ha.cn s n z1
    · by_cases z2 : has b s n
      · exact hb.cn s n z2
      · rw [eq_false z1, eq_false z2] at k
        exact absurd k no
  · have z1 : has a s n = has a s m := propext ⟨ha.fl s n m p p8 h1 h2, ha.fl s m n p p8 h2 h1⟩
    have z2 : has b s n = has b s m := propext ⟨hb.fl s n m p p8 h1 h2, hb.fl s m n p p8 h2 h1⟩
    rw [e, ← z1, ← z2, ← e]
    exact k
section
variable {xs : List Str} {base wide : Int} {a b : List Rn}
theorem OnP.tog (ha : OnP xs base wide a) (hb : OnP xs base wide b) : OnP xs base wide (togL a b) ∧ ∀ s n, has (togL a b) s n ↔ has a s n ∨ has b s n := by
  have z := runsOf_ok (rs := a ++ b) (fun r hr => (List.mem_append.mp hr).elim (ha.ca.2 r) (hb.ca.2 r))
  have e : ∀ s n, has (togL a b) s n ↔ has a s n ∨ has b s n := fun s n => (z.2 s n).trans (has_app _ _ _ _)
  exact ⟨ha.op hb z.1 Or e (by simp), e⟩
theorem OnP.both (ha : OnP xs base wide a) (hb : OnP xs base wide b) : OnP xs base wide (bothL a b) ∧ ∀ s n, has (bothL a b) s n ↔ has a s n ∧ has b s n := by
  have z := both_ok _ _ ha.ca hb.ca
  exact ⟨ha.op hb z.1 And z.2 (by simp), z.2⟩
theorem OnP.less (ha : OnP xs base wide a) (hb : OnP xs base wide b) : OnP xs base wide (lessL a b) ∧ ∀ s n, has (lessL a b) s n ↔ has a s n ∧ ¬ has b s n := by
  have z := less_ok _ _ ha.ca hb.ca
  exact ⟨ha.op hb z.1 (fun p q => p ∧ ¬ q) z.2.2 (by simp), z.2.2⟩
end
theorem OnP.run {xs : List Str} {base wide : Int} {rs : List Rn} (w : 1 ≤ wide) (h : OnP xs base wide rs) {r : Rn} (hr : r ∈ rs) : r.1 ∈ xs ∧ ∃ p q : Nat, p < q ∧ q ≤ 8 ∧ r.2.1 = base + (p : Int) * wide ∧ r.2.2 = base + (q : Int) * wide := by
  obtain ⟨n1, n2⟩ := canon_mem h.ca hr
  have f := h.ca.2 r hr
  have h1 : has rs r.1 r.2.1 := ⟨r, hr, rfl, Int.le_refl _, f⟩
  have h2 : has rs r.1 (r.2.2 - 1) := ⟨r, hr, rfl, by omega, by omega⟩
  obtain ⟨i, p, p8, a1, a2⟩ := h.cn _ _ h1
  obtain ⟨_, q, q8, b1, b2⟩ := h.cn _ _ h2
  have e1 : r.2.1 = base + (p : Int) * wide := by
    refine Classical.byContradiction fun z => n1 (h.fl _ r.2.1 _ p p8 ⟨a1, a2⟩ ⟨by omega, by omega⟩ h1)
  have e0 : ((q + 1 : Nat) : Int) * wide = (q : Int) * wide + wide := by
    rw [show ((q + 1 : Nat) : Int) = (q : Int) + 1 by omega, Int.add_mul, Int.one_mul]
  have e2 : r.2.2 = base + ((q + 1 : Nat) : Int) * wide := by
    refine Classical.byContradiction fun z => n2 (h.fl _ (r.2.2 - 1) _ q q8 ⟨b1, b2⟩ ⟨by omega, by omega⟩ h2)
  refine ⟨i, p, q + 1, ?_, by omega, e1, e2⟩
  rw [e1, e2] at f
  have f : (p : Int) * wide < ((q + 1 : Nat) : Int) * wide := by omega
  have := Int.lt_of_mul_lt_mul_right f (by omega)
  omega
theorem OnP.ok {xs : List Str} {base wide : Int} {rs : List Rn} (fl : FlOk base wide) (h : OnP xs base wide rs) {r : Rn} (hr : r ∈ rs) : RnOk r ∧ r.1 ∈ xs := by
  have w := fl.w1
  have t := fl.top
  have b0 := fl.b0
  obtain ⟨i, p, q, pq, q8, e1, e2⟩ := h.run w hr
  have f := h.ca.2 r hr
  have m1 : (q : Int) * wide ≤ 8 * wide := Int.mul_le_mul_of_nonneg_right (by omega) (by omega)
  have m0 : 0 ≤ (p : Int) * wide := Int.mul_nonneg (by omega) (by omega)
  exact ⟨⟨by omega, f, by omega⟩, i⟩
theorem canon_nd : ∀ {rs : List Rn}, Canon rs → (rs.map fun r => (r.1, r.2.1)).Nodup
  | [], _ => List.nodup_nil
  | x :: rs, h => by
    rw [List.map_cons, List.nodup_cons]
    refine ⟨fun z => ?_, canon_nd h.tail⟩
    obtain ⟨y, hy, e⟩ := List.mem_map.mp z
    have e1 : y.1 = x.1 := (Prod.mk.inj e).1
    have e2 : y.2.1 = x.2.1 := (Prod.mk.inj e).2
    have fx := h.2 x List.mem_cons_self
    rcases (apart_iff x y).mp ((List.pairwise_cons.mp h.1).1 y hy) with ⟨_, l⟩ | l
    · omega
    · rw [e1] at l
      exact sl_irr _ l
theorem OnP.len {xs : List Str} {base wide : Int} {rs : List Rn} (w : 1 ≤ wide) (h : OnP xs base wide rs) : rs.length ≤ 8 * xs.length := by
  have z := sub_len (m := xs.flatMap fun x => (List.range 8).map fun (k : Nat) => (x, base + (k : Int) * wide)) (canon_nd h.ca) fun p hp => by
    obtain ⟨r, hr, rfl⟩ := List.mem_map.mp hp
    obtain ⟨i, p, q, pq, q8, e1, e2⟩ := h.run w hr
    exact List.mem_flatMap.mpr ⟨r.1, i, List.mem_map.mpr ⟨p, List.mem_range.mpr (by omega), Prod.ext rfl e1.symm⟩⟩
  have l : (xs.flatMap fun x => (List.range 8).map fun (k : Nat) => (x, base + (k : Int) * wide)).length = 8 * xs.length := by
    clear z h
    induction xs with
    | nil => rfl
    | cons x xs ih => rw [List.flatMap_cons, List.length_append, ih, List.length_map, List.length_range, List.length_cons]; omega
  rw [List.length_map, l] at z
  exact z
/-! counting by parts -/
theorem part_count {M B W : Nat} {P Q : Nat → Bool} (top : B + 8 * W ≤ M) (h1 : ∀ n, P n = true → ∃ p, p < 8 ∧ B + p * W ≤ n ∧ n < B + p * W + W) (h2 : ∀ p, p < 8 → ∀ n, B + p * W ≤ n → n < B + p * W + W → P n = Q p) :
    (List.range M).countP P = W * (List.range 8).countP Q := by
  have key : ∀ k, k ≤ 8 → (List.range M).countP (fun n => P n && decide (n < B + k * W)) = W * (List.range k).countP Q := by
    intro k
    induction k with
    | zero =>
      intro _
      have e : (fun n => P n && decide (n < B + 0 * W)) = fun _ => false := funext fun n => by
        cases hp : P n with
        | false => rfl
        | true =>
          obtain ⟨p, _, a, _⟩ := h1 n hp
          have : ¬ n < B + 0 * W := by
            rw [Nat.zero_mul]
            have := Nat.zero_le (p * W)
            omega
          exact decide_eq_false this
      rw [e, countP_none]
      simp
    | succ k ih =>
      intro k8
      have ih := ih (by omega)
      have sw : (k + 1) * W = k * W + W := Nat.succ_mul k W
      have le : (k + 1) * W ≤ 8 * W := Nat.mul_le_mul_right W k8
      have z := countP_or (List.range M) (fun n => P n && decide (n < B + k * W)) (fun n => Q k && (decide (B + k * W ≤ n) && decide (n < B + k * W + W)))
      have e1 : (fun n => (P n && decide (n < B + k * W)) || (Q k && (decide (B + k * W ≤ n) && decide (n < B + k * W + W)))) = fun n => P n && decide (n < B + (k + 1) * W) := funext fun n => by
        by_cases c1 : n < B + k * W
        · have c2 : n < B + (k + 1) * W := by omega
          have c3 : ¬ B + k * W ≤ n := by omega
          simp [c1, c2, c3]
        · by_cases c2 : n < B + (k + 1) * W
          · have c3 : B + k * W ≤ n := by omega
            have c4 : n < B + k * W + W := by omega
            have := h2 k (by omega) n c3 c4
            simp [c1, c2, c3, c4, this]
          · have c4 : ¬ n < B + k * W + W := by omega
            simp [c1, c2, c4]
      have e2 : (fun n => (P n && decide (n < B + k * W)) && (Q k && (decide (B + k * W ≤ n) && decide (n < B + k * W + W)))) = fun _ => false := funext fun n => by
        by_cases c1 : n < B + k * W
        · have c3 : ¬ B + k * W ≤ n := by omega
          simp [c3]
        · simp [c1]
      rw [e1, e2, countP_none, ih, Nat.add_zero] at z
      rw [z, List.range_succ, List.countP_append, Nat.mul_add]
      congr 1
      cases q : Q k with
      | true =>
        simp only [Bool.true_and]
        rw [range_countP M (B + k * W) (B + k * W + W) (by omega) (by omega)]
        simp [List.countP_cons, q]
      | false =>
        simp only [Bool.false_and]
        rw [countP_none]
        simp [List.countP_cons, q]
  have z := key 8 (Nat.le_refl _)
  rw [← z]
  congr 1
  funext n
  cases hp : P n with
  | false => rfl
  | true =>
    obtain ⟨p, p8, _, b⟩ := h1 n hp
    have : (p + 1) * W ≤ 8 * W := Nat.mul_le_mul_right W p8
    have sw : (p + 1) * W = p * W + W := Nat.succ_mul p W
    have : n < B + 8 * W := by omega
    simp [this]
/-- how many parts of the field runs hold -/
def cp (xs : List Str) (base wide : Int) (rs : List Rn) : Nat := card 8 xs fun s p => hasB rs s (base + (p : Int) * wide)
theorem OnP.many {xs : List Str} {base wide : Int} {rs : List Rn} (fl : FlOk base wide) (nd : xs.Nodup) (h : OnP xs base wide rs) : cntL rs = wide * (cp xs base wide rs : Nat) := by
  have w := fl.w1
  have t := fl.top
  have b0 := fl.b0
  obtain ⟨M, hM⟩ : ∃ M : Nat, M = 1000000000 := ⟨_, rfl⟩
  rw [← card_cnt (M := M) (by omega) nd h.ca fun r hr => h.ok fl hr]
  obtain ⟨B, rfl⟩ : ∃ B : Nat, base = (B : Int) := ⟨base.toNat, by omega⟩
  obtain ⟨W, rfl⟩ : ∃ W : Nat, wide = (W : Int) := ⟨wide.toNat, by omega⟩
  rw [← Int.natCast_mul]
  congr 1
  unfold cp card
  have each : ∀ s, (List.range M).countP (hasN rs s) = W * (List.range 8).countP (fun p : Nat => hasB rs s ((B : Int) + (p : Int) * W)) := fun s => by
    refine part_count (M := M) (B := B) (W := W) (by omega) (fun n hn => ?_) (fun p p8 n l1 l2 => ?_)
    · obtain ⟨_, p, p8, k1, k2⟩ := h.cn s n ((hasB_iff rs s n).mp hn)
      refine ⟨p, p8, ?_, ?_⟩
      · have := Int.natCast_mul p W
        omega
      · have := Int.natCast_mul p W
        omega
    · have m := Int.natCast_mul p W
      rw [Bool.eq_iff_iff]
      show hasB rs s n = true ↔ _
      rw [hasB_iff, hasB_iff]
      have i1 : inP (B : Int) W p n := ⟨by omega, by omega⟩
      have i2 : inP (B : Int) W p ((B : Int) + (p : Int) * W) := ⟨by omega, by omega⟩
      exact ⟨h.fl s _ _ p p8 i1 i2, h.fl s _ _ p p8 i2 i1⟩
  rw [show (fun s => (List.range M).countP (hasN rs s)) = _ from funext each]
  clear each nd h t hM
  induction xs with
  | nil => rfl
  | cons x xs ih => rw [List.map_cons, List.sum_cons, List.map_cons, List.sum_cons, ih, Nat.mul_add]
/-! gaps of a chain -/
def begOf : Option Str → Str
  | none => gNone
  | some e => e
def lastO (M : List Stp) : Option Str := (M.getLast?).map fun x => x.2.2.1
def gp1 (e : Ed) (b : Str) (x : Stp) : Nat := if e.1 = b ∧ e.2 = x.2.1 ∧ e.1 ≠ e.2 then 1 else 0
def gpAt (e : Ed) (M : List Stp) (i : Nat) : Nat := (M[i]?).elim 0 fun x => gp1 e (begAt M i) x
def gpc (e : Ed) (M : List Stp) : Nat := ((List.range M.length).map (gpAt e M)).sum
theorem gpT {e : Ed} {M : List Stp} {i : Nat} {x : Stp} (h : M[i]? = some x) : ((List.range (i + 1)).map (gpAt e M)).sum = ((List.range i).map (gpAt e M)).sum + gp1 e (begAt M i) x := by
  rw [List.range_succ, List.map_append, List.sum_append]
  unfold gpAt
  simp [h]
theorem beg_last (M : List Stp) (y : Stp) : begAt (M ++ [y]) M.length = begOf (lastO M) := by
  rcases nil_or_snoc M with rfl | ⟨i, l, rfl⟩
  · rfl
  · unfold begAt lastO
    rw [if_pos (by simp), List.getLast?_append, List.length_append, List.length_singleton, Nat.add_sub_cancel, List.append_assoc, List.getElem?_append_right (Nat.le_refl _), Nat.sub_self]
    rfl
theorem beg_pre {M : List Stp} (y : Stp) {i : Nat} (h : i ≤ M.length) : begAt (M ++ [y]) i = begAt M i := by
  unfold begAt
  by_cases c : 0 < i
  · rw [if_pos c, if_pos c, List.getElem?_append_left (by omega)]
  · rw [if_neg c, if_neg c]
theorem gpc_snoc (e : Ed) (M : List Stp) (y : Stp) : gpc e (M ++ [y]) = gpc e M + gp1 e (begOf (lastO M)) y := by
  unfold gpc
  have l : (M ++ [y])[M.length]? = some y := by simp
  rw [List.length_append, List.length_singleton, gpT l, beg_last]
  congr 2
  refine List.map_congr_left fun i hi => ?_
  have hi := List.mem_range.mp hi
  unfold gpAt
  rw [List.getElem?_append_left hi, beg_pre y (Nat.le_of_lt hi)]
theorem gpc_nil (e : Ed) : gpc e [] = 0 := rfl
theorem gp1_le (e : Ed) (b : Str) (x : Stp) : gp1 e b x ≤ 1 := by
  unfold gp1
  split <;> omega
theorem gpc_le (e : Ed) : ∀ M : List Stp, gpc e M ≤ M.length := fun M => by
  unfold gpc
  have z : ∀ l : List Nat, (l.map (gpAt e M)).sum ≤ l.length := fun l => by
    induction l with
    | nil => exact Nat.le_refl _
    | cons a l ih =>
      rw [List.map_cons, List.sum_cons, List.length_cons]
      have : gpAt e M a ≤ 1 := by
        unfold gpAt
        cases M[a]? with
        | none => exact Nat.zero_le _
        | some x => exact gp1_le e _ x
      omega
  have := z (List.range M.length)
  rw [List.length_range] at this
  exact this
/-! sums over the parts of a field -/
def cells (xs : List Str) (F : Str → Nat → Nat) : Nat := (xs.map fun s => ((List.range 8).map (F s)).sum).sum
theorem sum_addN {α : Type} (l : List α) (f g : α → Nat) : (l.map fun x => f x + g x).sum = (l.map f).sum + (l.map g).sum := by
  induction l with
  | nil => rfl
  | cons x l ih =>
    simp only [List.map_cons, List.sum_cons, ih]
    omega
theorem cells_add (xs : List Str) (F G : Str → Nat → Nat) : cells xs (fun s p => F s p + G s p) = cells xs F + cells xs G := by
  unfold cells
  rw [← sum_addN]
  congr 1
  refine List.map_congr_left fun s _ => ?_
  exact sum_addN _ _ _
theorem cells_congr (xs : List Str) {F G : Str → Nat → Nat} (h : ∀ s p, s ∈ xs → p < 8 → F s p = G s p) : cells xs F = cells xs G := by
  unfold cells
  congr 1
  refine List.map_congr_left fun s hs => ?_
  congr 1
  exact List.map_congr_left fun p hp => h s p hs (List.mem_range.mp hp)
theorem count_sum (l : List Nat) (P : Nat → Bool) : l.countP P = (l.map fun p => if P p = true then 1 else 0).sum := by
  induction l with
  | nil => rfl
  | cons x l ih => rw [List.countP_cons, List.map_cons, List.sum_cons, ih, Nat.add_comm]
theorem card_cells (xs : List Str) (P : Str → Nat → Bool) : card 8 xs P = cells xs fun s p => if P s p = true then 1 else 0 := by
  unfold card cells
  congr 1
  exact List.map_congr_left fun s _ => count_sum _ _
theorem cells_le {xs : List Str} {F : Str → Nat → Nat} {k : Nat} (h : ∀ s p, F s p ≤ k) : cells xs F ≤ xs.length * (8 * k) := by
  unfold cells
  have z : ∀ s (l : List Nat), (l.map (F s)).sum ≤ l.length * k := fun s l => by
    induction l with
    | nil => simp
    | cons a l ih =>
      rw [List.map_cons, List.sum_cons, List.length_cons, Nat.add_mul]
      have := h s a
      omega
  induction xs with
  | nil => simp
  | cons s xs ih =>
    rw [List.map_cons, List.sum_cons, List.length_cons, Nat.add_mul]
    have := z s (List.range 8)
    rw [List.length_range] at this
    omega
/-! the chains of a part as steps come -/
abbrev chn (base wide : Int) (L : List Stp) (s : Str) (p : Nat) : List Stp := L.filter (chose s (base + (p : Int) * wide))
def gapT (xs : List Str) (base wide : Int) (L : List Stp) (e : Ed) : Nat := cells xs fun s p => gpc e (chn base wide L s p)
def gapW (xs : List Str) (base wide : Int) (L : List Stp) (y : Stp) (W : Option Str → Bool) (e : Ed) : Nat :=
  cells xs fun s p => if chose s (base + (p : Int) * wide) y = true ∧ W (lastO (chn base wide L s p)) = true then gp1 e (begOf (lastO (chn base wide L s p))) y else 0
theorem gapT_snoc (xs : List Str) (base wide : Int) (L : List Stp) (y : Stp) (e : Ed) : gapT xs base wide (L ++ [y]) e = gapT xs base wide L e + gapW xs base wide L y (fun _ => true) e := by
  unfold gapT gapW
  rw [← cells_add]
  refine cells_congr xs fun s p _ _ => ?_
  unfold chn
  rw [List.filter_append, List.filter_cons, List.filter_nil]
  cases c : chose s (base + (p : Int) * wide) y with
  | false => simp
  | true =>
    rw [if_pos rfl, if_pos (show true = true ∧ (fun _ : Option Str => true) (lastO (L.filter (chose s (base + (p : Int) * wide)))) = true from ⟨rfl, rfl⟩)]
    exact gpc_snoc _ _ _
theorem gapW_none (xs : List Str) (base wide : Int) (L : List Stp) (y : Stp) (e : Ed) : gapW xs base wide L y (fun _ => false) e = 0 := by
  unfold gapW
  have := cells_le (xs := xs) (F := fun s p => if chose s (base + (p : Int) * wide) y = true ∧ (fun _ => false) (lastO (chn base wide L s p)) = true then gp1 e (begOf (lastO (chn base wide L s p))) y else 0) (k := 0) fun s p => by simp
  omega
theorem gapW_end {xs : List Str} {base wide : Int} {L : List Stp} {y : Stp} {W : Option Str → Bool} (e : Ed) (h : ∀ s p, s ∈ xs → p < 8 → W (lastO (chn base wide L s p)) = true) : gapW xs base wide L y W e = gapW xs base wide L y (fun _ => true) e := by
  unfold gapW
  exact cells_congr xs fun s p hs hp => by rw [h s p hs hp]
theorem gapW_more {xs : List Str} {base wide : Int} {L : List Stp} {y : Stp} {W : Option Str → Bool} {k : Option Str} (nk : W k = false) (e : Ed) :
    gapW xs base wide L y (fun o => W o || decide (o = k)) e = gapW xs base wide L y W e + if e = (begOf k, y.2.1) ∧ e.1 ≠ e.2 then card 8 xs (fun s p => chose s (base + (p : Int) * wide) y && decide (lastO (chn base wide L s p) = k)) else 0 := by
  have e1 : (if e = (begOf k, y.2.1) ∧ e.1 ≠ e.2 then card 8 xs (fun s p => chose s (base + (p : Int) * wide) y && decide (lastO (chn base wide L s p) = k)) else 0) = cells xs fun s p => if chose s (base + (p : Int) * wide) y = true ∧ lastO (chn base wide L s p) = k ∧ e = (begOf k, y.2.1) ∧ e.1 ≠ e.2 then 1 else 0 := by
    by_cases c : e = (begOf k, y.2.1) ∧ e.1 ≠ e.2
    · rw [if_pos c, card_cells]
      exact cells_congr xs fun s p _ _ => by
        simp only [Bool.and_eq_true, decide_eq_true_eq]
        by_cases z : chose s (base + (p : Int) * wide) y = true ∧ lastO (chn base wide L s p) = k
        · rw [if_pos z, if_pos ⟨z.1, z.2, c⟩]
        · rw [if_neg z, if_neg fun w => z ⟨w.1, w.2.1⟩]
    · rw [if_neg c]
      have := cells_le (xs := xs) (F := fun s p => if chose s (base + (p : Int) * wide) y = true ∧ lastO (chn base wide L s p) = k ∧ e = (begOf k, y.2.1) ∧ e.1 ≠ e.2 then 1 else 0) (k := 0) fun s p => by rw [if_neg fun z => c z.2.2]; exact Nat.le_refl _
      omega
  rw [e1]
  unfold gapW
  rw [← cells_add]
  refine cells_congr xs fun s p _ _ => ?_
  generalize lastO (chn base wide L s p) = o
  by_cases c : chose s (base + (p : Int) * wide) y = true
  · by_cases d : o = k
    · subst d
      have e2 : gp1 e (begOf o) y = if e = (begOf o, y.2.1) ∧ e.1 ≠ e.2 then 1 else 0 := by
        unfold gp1
        congr 1
        obtain ⟨e1, e2⟩ := e
        simp [and_assoc]
      simp [c, nk, e2]
    · simp [c, d]
  · simp [c]
/-! a dict of gaps -/
structure GapD (kvs : List (List Key × V)) (es : List Ed) (f : Ed → Int) : Prop where
  ky : KeyL edK kvs es
  nd : es.Nodup
  up : ∀ e, e ∈ es ↔ 0 < f e
  nn : ∀ e, 0 ≤ f e
  vl : ∀ e, valV kvs (edK e) = if 0 < f e then some (.int (f e)) else none
def addE (f : Ed → Int) (e : Ed) (m : Int) : Ed → Int := fun x => if x = e ∧ x.1 ≠ x.2 then f x + m else f x
theorem GapD.nil : GapD [] [] fun _ => 0 := ⟨rfl, List.nodup_nil, fun e => ⟨fun h => (nomatch h), fun h => absurd h (Int.lt_irrefl _)⟩, fun _ => Int.le_refl _, fun e => rfl⟩
theorem GapD.put {kvs : List (List Key × V)} {es : List Ed} {f : Ed → Int} (h : GapD kvs es f) {e : Ed} {m : Int} (ne : e.1 ≠ e.2) (m0 : 0 < m) : ∃ es', GapD (putK kvs (edK e) (.int (f e + m))) es' (addE f e m) := by
  have fe : addE f e m e = f e + m := if_pos ⟨rfl, ne⟩
  have fo : ∀ x, x ≠ e → addE f e m x = f x := fun x n => if_neg fun z => n z.1
  have n0 := h.nn e
  have hk := h.ky.put (fun a b => edK_inj) e (.int (f e + m))
  have nn : ∀ x, 0 ≤ addE f e m x := fun x => by
    by_cases d : x = e
    · subst d
      rw [fe]
      omega
    · rw [fo x d]
      exact h.nn x
  have vl : ∀ x, valV (putK kvs (edK e) (.int (f e + m))) (edK x) = if 0 < addE f e m x then some (.int (addE f e m x)) else none := fun x => by
    rw [valV_put]
    by_cases d : x = e
    · subst d
      rw [if_pos rfl, fe, if_pos (by omega)]
    · rw [if_neg fun z => d (edK_inj z), fo x d]
      exact h.vl x
  by_cases c : e ∈ es
  · rw [if_pos c] at hk
    refine ⟨es, hk, h.nd, fun x => ?_, nn, vl⟩
    by_cases d : x = e
    · subst d
      rw [fe]
      exact ⟨fun _ => by omega, fun _ => c⟩
    · rw [fo x d]
      exact h.up x
  · rw [if_neg c] at hk
    refine ⟨es ++ [e], hk, ?_, fun x => ?_, nn, vl⟩
    · rw [List.nodup_append]
      exact ⟨h.nd, by simp, fun a ha b hb z => c (by rw [← List.mem_singleton.mp hb, ← z]; exact ha)⟩
    · rw [List.mem_append, List.mem_singleton]
      by_cases d : x = e
      · subst d
        rw [fe]
        exact ⟨fun _ => by omega, fun _ => .inr rfl⟩
      · rw [fo x d, ← h.up x]
        exact ⟨fun z => z.elim id fun z => absurd z d, .inl⟩
theorem GapD.get {kvs : List (List Key × V)} {es : List Ed} {f : Ed → Int} (h : GapD kvs es f) (e : Ed) : (valV kvs (edK e)).getD (.int 0) = .int (f e) := by
  rw [h.vl]
  by_cases c : 0 < f e
  · rw [if_pos c]
    rfl
  · rw [if_neg c]
    have := h.nn e
    rw [show f e = 0 by omega]
    rfl
theorem GapD.cong {kvs : List (List Key × V)} {es : List Ed} {f g : Ed → Int} (h : GapD kvs es f) (e : ∀ x, f x = g x) : GapD kvs es g := by
  rw [← show f = g from funext e]
  exact h
/-! pairs of words in their order -/
theorem edD_toks {a b : Ed} (h : PySem.W.keyToks (edD a) = PySem.W.keyToks (edD b)) : a = b := by
  obtain ⟨a1, a2⟩ := a
  obtain ⟨b1, b2⟩ := b
  simp only [edD, PySem.W.keyToks, PySem.W.keyToksAll, List.cons_append, List.nil_append, List.cons.injEq, Sum.inl.injEq, Sum.inr.injEq, true_and, and_true] at h
  obtain ⟨h1, h2⟩ := h
  rw [PySem.W.str_of_cps h1, PySem.W.str_of_cps h2]
def sortE (es : List Ed) : List Ed := es.mergeSort (PySem.W.dataLe false edD)
theorem sortE_uniq {a b : List Ed} (ha : a.Nodup) (hb : b.Nodup) (h : ∀ e, e ∈ a ↔ e ∈ b) : sortE a = sortE b := by
  have p : a.Perm b := (List.perm_ext_iff_of_nodup ha hb).mpr h
  have T := PySem.W.sortLe_total (PyProof.Rows.listOrd PyProof.Rows.itemOrd) false fun s => PySem.W.keyToks (edD s)
  have srt := fun l => List.pairwise_mergeSort (le := PySem.W.dataLe false edD) T.trans (fun a b => Bool.or_eq_true_iff.mpr (T.total a b)) l
  have q : (sortE a).Perm (sortE b) := (List.mergeSort_perm a _).trans (p.trans (List.mergeSort_perm b _).symm)
  refine q.eq_of_pairwise (le := fun a b => PySem.W.dataLe false edD a b = true) (fun x y _ _ h1 h2 => ?_) (srt a) (srt b)
  have k1 : (PyProof.Rows.listOrd PyProof.Rows.itemOrd).blt (PySem.W.keyToks (edD y)) (PySem.W.keyToks (edD x)) = false := by
    have z : (!(PyProof.Rows.listOrd PyProof.Rows.itemOrd).blt (PySem.W.keyToks (edD y)) (PySem.W.keyToks (edD x))) = true := h1
    simpa using z
  have k2 : (PyProof.Rows.listOrd PyProof.Rows.itemOrd).blt (PySem.W.keyToks (edD x)) (PySem.W.keyToks (edD y)) = false := by
    have z : (!(PyProof.Rows.listOrd PyProof.Rows.itemOrd).blt (PySem.W.keyToks (edD x)) (PySem.W.keyToks (edD y))) = true := h2
    simpa using z
  exact edD_toks ((PyProof.Rows.listOrd PyProof.Rows.itemOrd).total _ _ k2 k1)
/-! promises -/
def spAddGap : Sp := fun vs H Q _ => ∃ (f : Addr) (a b : Str) (m : Int) (kvs : List (List Key × V)) (es : List Ed) (φ : Ed → Int), vs = [.ref f, .str a, .str b, .int m] ∧ H f = some (.dT kvs) ∧ GapD kvs es φ ∧ 0 ≤ m ∧ kvs.length ≤ 90000 ∧
  ∀ (kvs' : List (List Key × V)) (es' : List Ed) (H' : Hp), But f H H' → H' f = some (.dT kvs') → GapD kvs' es' (addE φ (a, b) m) → kvs'.length ≤ kvs.length + 1 → Q .non H'
def G3s (H : Hp) (qs : List Addr) (es : List Ed) (φ : Ed → Int) : Prop := Paired (fun p e => H p = some (.tup [.str e.1, .str e.2, .int (φ e)])) qs es
def gapF (ws : List Wt) (base wide : Int) (L : List Stp) : Ed → Int := fun e => wide * ((gapT (ws.map (·.1)) base wide L e : Nat) : Int)
def spGaps (P Pm : Addr) : Sp := fun vs H Q _ => ∃ (b : Addr) (ws : List Wt) (E : List Ed) (base wide : Int) (gs : List Pg), vs = [.ref b] ∧ FlOk base wide ∧ (ws.map (·.1)).Nodup ∧ ws.length ≤ 8 ∧ BkF H b gs ∧ gs.length ≤ 40 ∧ (gs.map (·.1)).Nodup ∧ (∀ g ∈ gs, DdF ws E base wide g.2) ∧ TabL H P qSteps ∧ H Pm = some (TabO Pm) ∧ Pm ≠ P ∧
  ∀ (u : Addr) (qs : List Addr) (es : List Ed) (H' : Hp), But P H H' → TabL H' P qSteps → H u = none → H' u = some (.tup (qs.map V.ref)) → es.Nodup → (∀ e, e ∈ es ↔ 0 < gapF ws base wide (sortS (rowsP gs)) e) → G3s H' qs (sortE es) (gapF ws base wide (sortS (rowsP gs))) → Q (.ref u) H'
def spDueG : Sp := fun vs H Q _ => ∃ (o d b : Addr) (ws : List Wt) (E : List Ed) (base wide : Int) (gs : List Pg), vs = [.ref o, .ref d, .ref b] ∧ OfAt H o ws E ∧ OfOk1 ws E ∧ FlAt H d base wide ∧ FlOk base wide ∧ BkF H b gs ∧ gs.length ≤ 40 ∧ (gs.map (·.1)).Nodup ∧ (∀ g ∈ gs, DdF ws E base wide g.2) ∧
  ∀ (u : Addr) (qs : List Addr) (es : List Ed) (H' : Hp), Same H H' → H u = none → H' u = some (.tup (qs.map V.ref)) → es.Nodup → es.length ≤ 2000 → (∀ e, e ∈ es ↔ 0 < gapF ws base wide (sortS (rowsP gs)) e) → G3s H' qs (sortE es) (gapF ws base wide (sortS (rowsP gs))) → Q (.ref u) H'
theorem addE_zero {φ : Ed → Int} {e x : Ed} : φ x = addE φ e 0 x := by
  unfold addE
  split
  · omega
  · rfl
theorem addE_same {φ : Ed → Int} {e x : Ed} {m : Int} (h : e.1 = e.2) : φ x = addE φ e m x := by
  unfold addE
  rw [if_neg]
  rintro ⟨rfl, n⟩
  exact n h
/-! ### what is told at each place -/
def Bt2 (f t : Addr) (H H' : Hp) : Prop := ∀ a o, a ≠ f → a ≠ t → H a = some o → H' a = some o
theorem Bt2.trans {f t : Addr} {H H1 H2 : Hp} (h : Bt2 f t H H1) (k : Bt2 f t H1 H2) : Bt2 f t H H2 := fun a o n m e => k a o n m (h a o n m e)
theorem Bt2.same {f t : Addr} {H H1 : Hp} (h : Same H H1) : Bt2 f t H H1 := fun a o _ _ e => h a o e
theorem Bt2.f {f t : Addr} {H H1 : Hp} (h : But f H H1) : Bt2 f t H H1 := fun a o n _ e => h a o n e
theorem Bt2.t {f t : Addr} {H H1 : Hp} (h : But t H H1) : Bt2 f t H H1 := fun a o _ n e => h a o n e
theorem RnsT.tp {K : PySem.W.Frag} {H : Hp} {u : Addr} {rs : List Rn} (h : RnsT H u rs) : TpAt K H u rs := by
  obtain ⟨ps, a, b, _⟩ := h
  exact ⟨ps, SqT.of a, b⟩
structure ToldD (H : Hp) (kt : List (Key × V)) (ks : List Str) (xs : List Str) (base wide : Int) (R : Str → Str → Int → Prop) : Prop where
  ky : kt.map (·.1) = ks.map Sum.inr
  nd : ks.Nodup
  vl : ∀ k ∈ ks, ∃ t rs, valV kt (Sum.inr k) = some (.ref t) ∧ RnsT H t rs ∧ OnP xs base wide rs ∧ ∀ s n, has rs s n ↔ R k s n
section
variable {H H' : Hp} {kt : List (Key × V)} {ks xs : List Str} {base wide : Int} {R R' : Str → Str → Int → Prop}
theorem ToldD.tk (h : ToldD H kt ks xs base wide R) (t : Tk H H') : ToldD H' kt ks xs base wide R := ⟨h.ky, h.nd, fun k hk => by
  obtain ⟨u, rs, a, b, c, d⟩ := h.vl k hk
  exact ⟨u, rs, a, b.tk t, c, d⟩⟩
theorem ToldD.cong (h : ToldD H kt ks xs base wide R) (e : ∀ k ∈ ks, ∀ s n, R k s n ↔ R' k s n) : ToldD H kt ks xs base wide R' := ⟨h.ky, h.nd, fun k hk => by
  obtain ⟨u, rs, a, b, c, d⟩ := h.vl k hk
  exact ⟨u, rs, a, b, c, fun s n => (d s n).trans (e k hk s n)⟩⟩
theorem ToldD.len (h : ToldD H kt ks xs base wide R) : kt.length = ks.length := by
  have z := congrArg List.length h.ky
  rw [List.length_map, List.length_map] at z
  exact z
theorem ToldD.put (h : ToldD H kt ks xs base wide R) {k : Str} {t : Addr} {rs : List Rn} (ht : RnsT H t rs) (ho : OnP xs base wide rs) (hv : ∀ s n, has rs s n ↔ R' k s n) (e : ∀ j ∈ ks, j ≠ k → ∀ s n, R j s n ↔ R' j s n) :
    ∃ ks', ToldD H (putK kt (Sum.inr k : Key) (.ref t)) ks' xs base wide R' ∧ (∀ j, j ∈ ks' ↔ j ∈ ks ∨ j = k) ∧ ks'.length ≤ ks.length + 1 ∧ (k ∈ ks → ks' = ks) := by
  have pk := put_keys kt (Sum.inr k : Key) (.ref t)
  have mk : (Sum.inr k : Key) ∈ kt.map (·.1) ↔ k ∈ ks := by
    rw [h.ky, List.mem_map]
    exact ⟨fun ⟨x, hx, e⟩ => by rw [← Sum.inr.inj e]; exact hx, fun z => ⟨k, z, rfl⟩⟩
  have vl : ∀ j, j ∈ ks ∨ j = k → ∃ t' rs, valV (putK kt (Sum.inr k : Key) (.ref t)) (Sum.inr j) = some (.ref t') ∧ RnsT H t' rs ∧ OnP xs base wide rs ∧ ∀ s n, has rs s n ↔ R' j s n := fun j hj => by
    by_cases c : j = k
    · subst c
      exact ⟨t, rs, by rw [valV_put, if_pos rfl], ht, ho, hv⟩
    · obtain ⟨u, rs', a, b, c', d⟩ := h.vl j (hj.resolve_right c)
      exact ⟨u, rs', by rw [valV_put, if_neg fun z => c (Sum.inr.inj z)]; exact a, b, c', fun s n => (d s n).trans (e j (hj.resolve_right c) c s n)⟩
  by_cases c : k ∈ ks
  · rw [if_pos (mk.mpr c)] at pk
    exact ⟨ks, ⟨pk.trans h.ky, h.nd, fun j hj => vl j (.inl hj)⟩, fun j => ⟨.inl, fun z => z.elim id fun z => z ▸ c⟩, Nat.le_succ _, fun _ => rfl⟩
  · rw [if_neg fun z => c (mk.mp z), h.ky] at pk
    refine ⟨ks ++ [k], ⟨by rw [pk, List.map_append]; rfl, ?_, fun j hj => vl j ?_⟩, fun j => by rw [List.mem_append, List.mem_singleton], by rw [List.length_append]; exact Nat.le_refl _, fun z => absurd z c⟩
    · rw [List.nodup_append]
      exact ⟨h.nd, by simp, fun a ha b hb z => c (by rw [← List.mem_singleton.mp hb, ← z]; exact ha)⟩
    · rwa [List.mem_append, List.mem_singleton] at hj
end
theorem lastO_snoc (L : List Stp) (y : Stp) (s : Str) (n : Int) : lastO ((L ++ [y]).filter (chose s n)) = if chose s n y = true then some y.2.2.1 else lastO (L.filter (chose s n)) := by
  rw [List.filter_append, List.filter_cons, List.filter_nil]
  cases c : chose s n y with
  | true => simp [lastO]
  | false => simp [lastO]
theorem lastO_in {L : List Stp} {s : Str} {n : Int} {k : Str} (h : lastO (L.filter (chose s n)) = some k) : ∃ x ∈ L, x.2.2.1 = k := by
  obtain ⟨x, hx, e⟩ := Option.map_eq_some_iff.mp h
  exact ⟨x, (List.mem_filter.mp (List.mem_of_getLast? hx)).1, e⟩
def wKs (ks : List Str) : Option Str → Bool
  | none => false
  | some k => decide (k ∈ ks)
theorem wKs_more {ks : List Str} {j : Nat} {k : Str} (h : ks[j]? = some k) (o : Option Str) : wKs (ks.take (j + 1)) o = (wKs (ks.take j) o || decide (o = some k)) := by
  obtain ⟨hj, e⟩ := List.getElem?_eq_some_iff.mp h
  cases o with
  | none => rfl
  | some x =>
    unfold wKs
    rw [List.take_succ_eq_append_getElem hj, e, Bool.eq_iff_iff, Bool.or_eq_true, decide_eq_true_eq, decide_eq_true_eq, decide_eq_true_eq, List.mem_append, List.mem_singleton]
    exact or_congr Iff.rfl ⟨fun z => by rw [z], fun z => Option.some.inj z⟩
theorem wKs_new {ks : List Str} (nd : ks.Nodup) {j : Nat} {k : Str} (h : ks[j]? = some k) : wKs (ks.take j) (some k) = false := by
  obtain ⟨hj, e⟩ := List.getElem?_eq_some_iff.mp h
  unfold wKs
  rw [decide_eq_false_iff_not]
  intro z
  have nd' : (ks.take (j + 1)).Nodup := List.Sublist.nodup (List.take_sublist _ _) nd
  rw [List.take_succ_eq_append_getElem hj, e, List.nodup_append] at nd'
  exact nd'.2.2 k z k List.mem_cons_self rfl
/-- counted parts: those of a step whose last end is this one -/
theorem card_has {xs : List Str} {base wide : Int} {rs : List Rn} {P : Str → Nat → Bool} (h : ∀ s (p : Nat), has rs s (base + (p : Int) * wide) ↔ P s p = true) : card 8 xs P = cp xs base wide rs := card_eq fun s p => by
  rw [Bool.eq_iff_iff, hasB_iff]
  exact (h s p).symm
/-- the gaps after one more place -/
theorem gap_more {φ : Ed → Int} {xs : List Str} {base wide : Int} {L : List Stp} {y : Stp} {W : Option Str → Bool} {k : Option Str} (nk : W k = false) {rs : List Rn} (hr : ∀ s n, has rs s n ↔ has y.2.2.2.2 s n ∧ lastO (L.filter (chose s n)) = k)
    (hφ : ∀ e, φ e = wide * ((gapT xs base wide L e + gapW xs base wide L y W e : Nat) : Int)) (e : Ed) : addE φ (begOf k, y.2.1) (wide * (cp xs base wide rs : Nat)) e = wide * ((gapT xs base wide L e + gapW xs base wide L y (fun o => W o || decide (o = k)) e : Nat) : Int) := by
  rw [gapW_more nk, card_has (rs := rs) fun s p => by rw [hr, has_chose, Bool.and_eq_true, decide_eq_true_eq]]
  unfold addE
  rw [hφ]
  by_cases c : e = (begOf k, y.2.1) ∧ e.1 ≠ e.2
  · rw [if_pos c, if_pos c, ← Int.mul_add]
    congr 1
    omega
  · rw [if_neg c, if_neg c]
    rfl
theorem keys_rds2 {H : Hp} : ∀ {as : List Addr} {es : List Ed}, KeysAt H as (es.map edK) → Rds H as es
  | [], [], _ => .nil
  | a :: as, e :: es, .cons h t => .cons h (keys_rds2 t)
theorem cells_zero {xs : List Str} {F : Str → Nat → Nat} (h : ∀ s p, F s p = 0) : cells xs F = 0 := by
  have := cells_le (xs := xs) (F := F) (k := 0) fun s p => Nat.le_of_eq (h s p)
  omega
theorem gapT_nil (xs : List Str) (base wide : Int) (e : Ed) : gapT xs base wide [] e = 0 := cells_zero fun _ _ => rfl
theorem gapF_nil (ws : List Wt) (base wide : Int) (e : Ed) : (0 : Int) = gapF ws base wide [] e := by
  unfold gapF
  rw [gapT_nil]
  exact (Int.mul_zero _).symm
theorem val_out {kt : List (Key × V)} {ks : List Str} (ky : kt.map (·.1) = ks.map Sum.inr) {k : Str} (h : k ∉ ks) : valV kt (Sum.inr k : Key) = none := by
  cases e : valV kt (Sum.inr k : Key) with
  | none => rfl
  | some v =>
    have z : (kt.any fun kv => decide (kv.1 = (Sum.inr k : Key))) = true := by
      rw [valV_any, e]
      rfl
    obtain ⟨kv, h1, h2⟩ := List.any_eq_true.mp z
    have m : (Sum.inr k : Key) ∈ kt.map (·.1) := List.mem_map.mpr ⟨kv, h1, of_decide_eq_true h2⟩
    rw [ky] at m
    obtain ⟨x, hx, ex⟩ := List.mem_map.mp m
    exact absurd (Sum.inr.inj ex ▸ hx) h
theorem last_told {Lp : List Stp} {y : Stp} {s : Str} {n : Int} {k : Str} : lastO ((Lp ++ [y]).filter (chose s n)) = some k ↔ (lastO (Lp.filter (chose s n)) = some k ∧ ¬ has y.2.2.2.2 s n) ∨ (k = y.2.2.1 ∧ has y.2.2.2.2 s n) := by
  rw [lastO_snoc, has_chose]
  by_cases c : chose s n y = true
  · rw [if_pos c]
    exact ⟨fun z => .inr ⟨(Option.some.inj z).symm, c⟩, fun z => z.elim (fun z => absurd c z.2) fun z => by rw [z.1]⟩
  · rw [if_neg c]
    exact ⟨fun z => .inl ⟨z, c⟩, fun z => z.elim And.left fun z => absurd z.2 c⟩
theorem gapF_snoc {ws : List Wt} {base wide : Int} {Lp : List Stp} {y : Stp} {ks : List Str} (h : ∀ x ∈ Lp, x.2.2.1 ∈ ks) (e : Ed) : wide * ((gapT (ws.map (·.1)) base wide Lp e + gapW (ws.map (·.1)) base wide Lp y (fun o => wKs ks o || decide (o = none)) e : Nat) : Int) = gapF ws base wide (Lp ++ [y]) e := by
  unfold gapF
  rw [gapT_snoc, gapW_end (W := fun o => wKs ks o || decide (o = none)) e fun s p _ _ => ?_]
  cases o : lastO (chn base wide Lp s p) with
  | none => simp
  | some k =>
    obtain ⟨x, hx, ex⟩ := lastO_in o
    have := h x hx
    rw [ex] at this
    unfold wKs
    simp [this]
/-! ### the law's gaps -/
theorem cells_take {xs : List Str} {i : Nat} {s : Str} (F : Str → Nat → Nat) (h : xs[i]? = some s) : cells (xs.take (i + 1)) F = cells (xs.take i) F + ((List.range 8).map (F s)).sum := by
  obtain ⟨hi, e⟩ := List.getElem?_eq_some_iff.mp h
  unfold cells
  rw [List.take_succ_eq_append_getElem hi, e, List.map_append, List.sum_append]
  simp
theorem gp_add {φ : Ed → Int} {a : Str} {x : Stp} {wide : Int} (e : Ed) : addE φ (a, x.2.1) wide e = φ e + wide * ((gp1 e a x : Nat) : Int) := by
  unfold addE gp1
  obtain ⟨e1, e2⟩ := e
  by_cases c : ((e1, e2) : Ed) = (a, x.2.1) ∧ e1 ≠ e2
  · have h1 : e1 = a := congrArg Prod.fst c.1
    have h2 : e2 = x.2.1 := congrArg Prod.snd c.1
    rw [if_pos c, if_pos ⟨h1, h2, c.2⟩]
    simp
  · rw [if_neg c, if_neg fun z => c ⟨Prod.ext z.1 z.2.1, z.2.2⟩]
    simp
theorem gp_same {a : Str} {x : Stp} (h : a = x.2.1) (e : Ed) : gp1 e a x = 0 := by
  unfold gp1
  rw [if_neg]
  rintro ⟨h1, h2, h3⟩
  exact h3 (by rw [h1, h2, h])
/-- what the law has told after i series, j parts and k steps -/
def gapP (ws : List Wt) (base wide : Int) (L : List Stp) (i : Nat) (s : Str) (j : Nat) (M : List Stp) (k : Nat) : Ed → Int := fun e =>
  wide * ((cells ((ws.map (·.1)).take i) (fun s p => gpc e (chn base wide L s p)) + ((List.range j).map fun p => gpc e (chn base wide L s p)).sum + ((List.range k).map (gpAt e M)).sum : Nat) : Int)
section
variable {ws : List Wt} {base wide : Int} {L M : List Stp} {i j k : Nat} {s : Str} {e : Ed}
theorem gapP_start : (0 : Int) = gapP ws base wide L 0 s 0 M 0 e := by
  unfold gapP cells
  simp
theorem gapP_zero (s' : Str) (M' : List Stp) : gapP ws base wide L i s 0 M 0 e = gapP ws base wide L i s' 0 M' 0 e := rfl
theorem gapP_m (M' : List Stp) : gapP ws base wide L i s j M 0 e = gapP ws base wide L i s j M' 0 e := rfl
theorem gapP_k {x : Stp} (h : M[k]? = some x) : gapP ws base wide L i s j M (k + 1) e = gapP ws base wide L i s j M k e + wide * ((gp1 e (begAt M k) x : Nat) : Int) := by
  unfold gapP
  rw [gpT h, ← Int.mul_add]
  congr 1
  omega
theorem gapP_j (M' : List Stp) (h : M = chn base wide L s j) : gapP ws base wide L i s j M M.length e = gapP ws base wide L i s (j + 1) M' 0 e := by
  unfold gapP
  rw [List.range_succ (n := j), List.map_append, List.sum_append]
  subst h
  unfold gpc
  congr 1
  simp
  omega
theorem gapP_i (s' : Str) (M' : List Stp) (h : (ws.map (·.1))[i]? = some s) : gapP ws base wide L i s 8 M 0 e = gapP ws base wide L (i + 1) s' 0 M' 0 e := by
  unfold gapP
  rw [cells_take _ h]
  simp
theorem gapP_end : gapP ws base wide L ws.length s 0 M 0 e = gapF ws base wide L e := by
  unfold gapP gapF gapT
  rw [← List.length_map (f := fun w : Wt => w.1) (as := ws), List.take_length]
  simp
end
/-! ### gaps as data -/
theorem sum_pos_ex {α : Type} {l : List α} {f : α → Nat} (h : 0 < (l.map f).sum) : ∃ x ∈ l, 0 < f x := by
  induction l with
  | nil => exact absurd h (Nat.lt_irrefl 0)
  | cons a l ih =>
    rw [List.map_cons, List.sum_cons] at h
    by_cases c : 0 < f a
    · exact ⟨a, List.mem_cons_self, c⟩
    · obtain ⟨x, hx, k⟩ := ih (by omega)
      exact ⟨x, List.mem_cons_of_mem _ hx, k⟩
theorem gap_ends {ws : List Wt} {E : List Ed} {base wide : Int} {gs : List Pg} (w : 1 ≤ wide) (nd : (gs.map (·.1)).Nodup) (dok : ∀ g ∈ gs, DdF ws E base wide g.2) {e : Ed} (h : 0 < gapF ws base wide (sortS (rowsP gs)) e) : (e.1 = gNone ∨ ∃ b, (b, e.1) ∈ E) ∧ ∃ b, (e.2, b) ∈ E := by
  have h1 : 0 < gapT (ws.map (·.1)) base wide (sortS (rowsP gs)) e := by
    refine Nat.pos_of_ne_zero fun z => ?_
    unfold gapF at h
    rw [z] at h
    simp at h
  obtain ⟨s, _, h2⟩ := sum_pos_ex h1
  obtain ⟨p, _, h3⟩ := sum_pos_ex h2
  obtain ⟨i, _, h4⟩ := sum_pos_ex h3
  have ein : ∀ {j : Nat} {x : Stp}, (chn base wide (sortS (rowsP gs)) s p)[j]? = some x → (x.2.1, x.2.2.1) ∈ E := fun hx => (rows_in nd dok (List.mem_mergeSort.mp (List.mem_filter.mp (List.mem_of_getElem? hx)).1)).1
  generalize chn base wide (sortS (rowsP gs)) s p = M at *
  unfold gpAt at h4
  cases hx : M[i]? with
  | none =>
    rw [hx] at h4
    exact absurd h4 (Nat.lt_irrefl 0)
  | some x =>
    rw [hx] at h4
    have h5 : 0 < gp1 e (begAt M i) x := h4
    unfold gp1 at h5
    split at h5
    · rename_i c
      refine ⟨?_, x.2.2.1, by rw [c.2.1]; exact ein hx⟩
      rw [c.1]
      unfold begAt
      split
      · cases hy : M[i - 1]? with
        | none => exact .inl rfl
        | some y => exact .inr ⟨y.2.1, ein hy⟩
      · exact .inl rfl
    · exact absurd h5 (Nat.lt_irrefl 0)
theorem gapF_le {ws : List Wt} {base wide : Int} {L : List Stp} {e : Ed} (fl : FlOk base wide) (w4 : ws.length ≤ 4) (l : L.length ≤ 40) : gapF ws base wide L e ≤ 1000000000000 ∧ 0 ≤ gapF ws base wide L e := by
  have z := cells_le (xs := ws.map (·.1)) (F := fun s p => gpc e (chn base wide L s p)) (k := 40) fun s p => Nat.le_trans (gpc_le e _) (Nat.le_trans (List.length_filter_le _ _) l)
  rw [List.length_map] at z
  have w1 := fl.w1
  have t := fl.top
  have b0 := fl.b0
  have y : gapT (ws.map (·.1)) base wide L e ≤ 1280 := Nat.le_trans z (by omega)
  unfold gapF
  generalize gapT (ws.map (·.1)) base wide L e = g at y
  have m : wide * (g : Int) ≤ wide * 1280 := Int.mul_le_mul_of_nonneg_left (by omega) (by omega)
  exact ⟨by omega, Int.mul_nonneg (by omega) (by omega)⟩
def g3D (φ : Ed → Int) (e : Ed) : PyData := .tuple [.str e.1, .str e.2, .int (φ e)]
theorem G3s.dp {K : PySem.W.Frag} {H : Hp} {φ : Ed → Int} : ∀ {qs : List Addr} {es : List Ed}, G3s H qs es φ → DpAll K H (qs.map V.ref) (es.map (g3D φ))
  | _, _, .nil => .nil
  | _, _, .cons h r => .cons (.tup (SqT.of h) (.cons (.str _) (.cons (.str _) (.cons (.int _) .nil)))) (G3s.dp r)
theorem okd_g3 {ws : List Wt} {E : List Ed} {base wide : Int} {gs : List Pg} {es : List Ed} (ok : OfOk ws E) (fl : FlOk base wide) (nd : (gs.map (·.1)).Nodup) (dok : ∀ g ∈ gs, DdF ws E base wide g.2) (gl : gs.length ≤ 40) (h : ∀ e ∈ es, 0 < gapF ws base wide (sortS (rowsP gs)) e) (l : es.length ≤ 2000) : Okd 3 6000000 (.tuple (es.map (g3D (gapF ws base wide (sortS (rowsP gs)))))) := by
  have sl9 : (sortS (rowsP gs)).length ≤ 40 := by
    unfold sortS
    rw [List.length_mergeSort]
    exact Nat.le_trans (rowsP_len (Nat.le_refl _)) gl
  have z := OkdAll.tup (OkdAll.of (n := 2) (c := 2200) (ds := es.map (g3D (gapF ws base wide (sortS (rowsP gs))))) fun d hd => by
    obtain ⟨e, he, rfl⟩ := List.mem_map.mp hd
    obtain ⟨k1, b, k2⟩ := gap_ends fl.w1 nd dok (h e he)
    have n1 : NmOk e.1 := k1.elim (fun z => z ▸ ⟨by decide +kernel, by decide +kernel⟩) fun ⟨b, hb⟩ => (ok.ed _ hb).2.1
    have n2 : NmOk e.2 := (ok.ed _ k2).1
    obtain ⟨g1, g2⟩ := gapF_le (ws := ws) (L := sortS (rowsP gs)) (e := e) fl ok.lw sl9
    exact Okd.mono (OkdAll.tup (.cons (okd_str n1) (.cons (okd_str n2) (.cons (okd_int (by omega) (by omega)) .nil)))) (Nat.le_refl _) (by decide))
  rw [List.length_map] at z
  exact z.mono (Nat.le_refl _) (by omega)
theorem sortE_in {es : List Ed} {e : Ed} : e ∈ sortE es ↔ e ∈ es := List.mem_mergeSort
theorem sortE_len (es : List Ed) : (sortE es).length = es.length := List.length_mergeSort es
theorem bkF_none {H : Hp} {p : Addr} {o : Obj} (h : H p = some (.frz o (.tup []))) (t : Tpl o) : BkF H p [] := ⟨[], o, h, t, .nil⟩
/-! tables: one of generator expressions, the others of lambdas -/
def LM (a : Addr) : Addr → Bool := fun t => !decide (t = a)
theorem hoLM_c {a P : Addr} (h : P ≠ a) : hoT (LM a) P = TabC P [] := by
  unfold hoT LM
  simp [h]
theorem hoLM_o {a : Addr} : hoT (LM a) a = TabO a := by
  unfold hoT LM
  simp
theorem endLM_c {a P : Addr} {H : Hp} {q : Str} (h : P ≠ a) (t : TabL H P q) : endT (LM a) H P := by
  unfold endT LM
  simp [h]
  obtain ⟨C, e, _⟩ := t
  exact ⟨C, e⟩
theorem endLM_o {a : Addr} {H : Hp} (t : H a = some (TabO a)) : endT (LM a) H a := by
  unfold endT LM
  simp [t]
theorem tabO_butD {H H' : Hp} {f c P : Addr} {n : Int} (hf : Fd H f c n) (x : But f H H') (h : H P = some (TabO P)) : H' P = some (TabO P) := by
  obtain ⟨zs, hz⟩ := hf.at
  exact x _ _ (fun z => by rw [z, hz] at h; cases h) h
theorem gser_nd (k : Nat) : (gSer.take k).Nodup := by
  have z := gser_up k
  generalize gSer.take k = l at z
  refine List.Pairwise.imp (R := sl) (S := fun a b => a ≠ b) ?_ z
  intro a b h e
  rw [e] at h
  exact sl_irr _ h
theorem gap_few {ws : List Wt} {E : List Ed} {base wide : Int} {gs : List Pg} {es : List Ed} (ok : OfOk ws E) (fl : FlOk base wide) (nd : (gs.map (·.1)).Nodup) (dok : ∀ g ∈ gs, DdF ws E base wide g.2) (ne : es.Nodup) (h : ∀ e ∈ es, 0 < gapF ws base wide (sortS (rowsP gs)) e) : es.length ≤ 2000 := by
  have z := sub_len (m := (gNone :: E.map (·.2)).flatMap fun a => (E.map (·.1)).map fun b => (a, b)) ne fun e he => by
    obtain ⟨k1, b, k2⟩ := gap_ends fl.w1 nd dok (h e he)
    refine List.mem_flatMap.mpr ⟨e.1, ?_, List.mem_map.mpr ⟨e.2, List.mem_map.mpr ⟨_, k2, rfl⟩, rfl⟩⟩
    rcases k1 with k | ⟨b, hb⟩
    · rw [k]
      exact List.mem_cons_self
    · exact List.mem_cons_of_mem _ (List.mem_map.mpr ⟨_, hb, rfl⟩)
  have l : ∀ (as : List Str), (as.flatMap fun a => (E.map (·.1)).map fun b => ((a, b) : Ed)).length = as.length * E.length := fun as => by
    induction as with
    | nil => simp
    | cons a as ih => rw [List.flatMap_cons, List.length_append, ih, List.length_map, List.length_map, List.length_cons, Nat.add_mul]; omega
  rw [l, List.length_cons, List.length_map] at z
  have e16 := ok.le
  have : (E.length + 1) * E.length ≤ 17 * 16 := Nat.mul_le_mul (by omega) e16
  omega
def top (i : Nat) : Stmt := PySem.Challenge.pw_pressnotes_k45_gaps_told.main.body.getD i (.Pass ⟨0, 0, 0, 0⟩)
abbrev s_is_apart : Stmt := top 1
abbrev s_runs_of : Stmt := top 2
abbrev s_many_in : Stmt := top 3
abbrev s_named_by_voids : Stmt := top 5
abbrev s_counted_bags : Stmt := top 6
abbrev s_standing_of : Stmt := top 7
abbrev s_pages_that_are : Stmt := top 8
abbrev s_counted_pages : Stmt := top 9
abbrev s_all_steps : Stmt := top 11
abbrev s_together : Stmt := top 13
abbrev s_both : Stmt := top 14
abbrev s_less : Stmt := top 15
abbrev s_what_is_left : Stmt := top 16
abbrev s_add_gap : Stmt := top 18
abbrev s_gaps : Stmt := top 19
abbrev s_ltape : Stmt := top 21
abbrev s_ldraw : Stmt := top 22
abbrev s_loffice : Stmt := top 23
abbrev s_lnames : Stmt := top 24
abbrev s_lruns : Stmt := top 25
abbrev s_lfield : Stmt := top 26
abbrev s_ldeed : Stmt := top 27
abbrev s_lbook : Stmt := top 28
abbrev s_ltold : Stmt := top 29
abbrev s_lof : Stmt := top 30
abbrev s_lrows : Stmt := top 31
abbrev s_ldue : Stmt := top 32
abbrev s_law : Stmt := top 33
theorem sc_is_apart : FnScope ["run", "later"] ["run", "later"] (defScope s_is_apart) := ⟨rfl, rfl, rfl, by decide +kernel, rfl, by decide +kernel, by decide +kernel⟩
theorem sc_runs_of : FnScope ["some", "found", "run", "series", "low", "high"] ["some"] (defScope s_runs_of) := ⟨rfl, rfl, rfl, by decide +kernel, rfl, by decide +kernel, by decide +kernel⟩
theorem sc_many_in : FnScope ["runs", "series", "low", "high"] ["runs"] (defScope s_many_in) := ⟨rfl, rfl, rfl, by decide +kernel, rfl, by decide +kernel, by decide +kernel⟩
theorem sc_named_by_voids : FnScope ["book", "name", "deed"] ["book"] (defScope s_named_by_voids) := ⟨rfl, rfl, rfl, by decide +kernel, rfl, by decide +kernel, by decide +kernel⟩
theorem sc_counted_bags : FnScope ["book", "gone", "name", "deed"] ["book"] (defScope s_counted_bags) := ⟨rfl, rfl, rfl, by decide +kernel, rfl, by decide +kernel, by decide +kernel⟩
theorem sc_standing_of : FnScope ["page", "gone", "bags", "name", "deed"] ["page", "gone", "bags"] (defScope s_standing_of) := ⟨rfl, rfl, rfl, by decide +kernel, rfl, by decide +kernel, by decide +kernel⟩
theorem sc_pages_that_are : FnScope ["book", "standing", "gone", "bags", "page"] ["book", "standing"] (defScope s_pages_that_are) := ⟨rfl, rfl, rfl, by decide +kernel, rfl, by decide +kernel, by decide +kernel⟩
theorem sc_counted_pages : FnScope ["book"] ["book"] (defScope s_counted_pages) := ⟨rfl, rfl, rfl, by decide +kernel, rfl, by decide +kernel, by decide +kernel⟩
theorem sc_all_steps : FnScope ["book", "bags", "found", "name", "deed", "bag"] ["book"] (defScope s_all_steps) := ⟨rfl, rfl, rfl, by decide +kernel, rfl, by decide +kernel, by decide +kernel⟩
theorem sc_together : FnScope ["one", "other"] ["one", "other"] (defScope s_together) := ⟨rfl, rfl, rfl, by decide +kernel, rfl, by decide +kernel, by decide +kernel⟩
theorem sc_both : FnScope ["one", "other", "found", "at", "beside", "series", "low", "high", "name", "start", "end"] ["one", "other"] (defScope s_both) := ⟨rfl, rfl, rfl, by decide +kernel, rfl, by decide +kernel, by decide +kernel⟩
theorem sc_less : FnScope ["one", "other", "found", "at", "run", "series", "low", "high"] ["one", "other"] (defScope s_less) := ⟨rfl, rfl, rfl, by decide +kernel, rfl, by decide +kernel, by decide +kernel⟩
theorem sc_what_is_left : FnScope ["run", "other", "at", "series", "low", "high", "left"] ["run", "other", "at"] (defScope s_what_is_left) := ⟨rfl, rfl, rfl, by decide +kernel, rfl, by decide +kernel, by decide +kernel⟩
theorem sc_add_gap : FnScope ["found", "one", "other", "many"] ["found", "one", "other", "many"] (defScope s_add_gap) := ⟨rfl, rfl, rfl, by decide +kernel, rfl, by decide +kernel, by decide +kernel⟩
theorem sc_gaps : FnScope ["book", "found", "told_at", "moment", "start", "end", "name", "runs", "fresh", "place", "one", "other"] ["book"] (defScope s_gaps) := ⟨rfl, rfl, rfl, by decide +kernel, rfl, by decide +kernel, by decide +kernel⟩
theorem sc_ltape : FnScope ["_law_script"] ["_law_script"] (defScope s_ltape) := ⟨rfl, rfl, rfl, by decide +kernel, rfl, by decide +kernel, by decide +kernel⟩
theorem sc_ldraw : FnScope ["_law_tape_here", "_law_many", "_law_found", "_law_at", "_law_cell", "_law_mixed"] ["_law_tape_here", "_law_many"] (defScope s_ldraw) := ⟨rfl, rfl, rfl, by decide +kernel, rfl, by decide +kernel, by decide +kernel⟩
theorem sc_loffice : FnScope ["_law_tape_here", "_law_words", "_law_many", "_law_first", "_law_step", "_law_places", "_law_k", "_law_roads", "_law_one", "_law_other", "_law_worths"] ["_law_tape_here"] (defScope s_loffice) := ⟨rfl, rfl, rfl, by decide +kernel, rfl, by decide +kernel, by decide +kernel⟩
theorem sc_lnames : FnScope ["_law_tape_here", "_law_many", "_law_found", "_law_k", "_law_day", "_law_number", "_law_name"] ["_law_tape_here", "_law_many"] (defScope s_lnames) := ⟨rfl, rfl, rfl, by decide +kernel, rfl, by decide +kernel, by decide +kernel⟩
theorem sc_lruns : FnScope ["_law_tape_here", "_law_office_here", "_law_field_here", "_law_base", "_law_wide", "_law_found", "_law_some", "_law_one", "_law_worth", "_law_at", "_law_series", "_law_bits", "_law_p", "_law_begin"] ["_law_tape_here", "_law_office_here", "_law_field_here"] (defScope s_lruns) := ⟨rfl, rfl, rfl, by decide +kernel, rfl, by decide +kernel, by decide +kernel⟩
theorem sc_lfield : FnScope ["_law_tape_here", "_law_wide", "_law_most"] ["_law_tape_here"] (defScope s_lfield) := ⟨rfl, rfl, rfl, by decide +kernel, rfl, by decide +kernel, by decide +kernel⟩
theorem sc_ldeed : FnScope ["_law_tape_here", "_law_office_here", "_law_field_here", "_law_word", "_law_names_here", "_law_bags", "_law_roads", "_law_road", "_law_one", "_law_other", "_law_some"] ["_law_tape_here", "_law_office_here", "_law_field_here", "_law_word", "_law_names_here", "_law_bags"] (defScope s_ldeed) := ⟨rfl, rfl, rfl, by decide +kernel, rfl, by decide +kernel, by decide +kernel⟩
theorem sc_lbook : FnScope ["_law_tape_here", "_law_office_here", "_law_field_here", "_law_many", "_law_names_here", "_law_menu", "_law_words", "_law_name", "_law_bags", "_law_word", "_law_pages"] ["_law_tape_here", "_law_office_here", "_law_field_here", "_law_many"] (defScope s_lbook) := ⟨rfl, rfl, rfl, by decide +kernel, rfl, by decide +kernel, by decide +kernel⟩
theorem sc_ltold : FnScope ["_law_book_here", "_law_deeds", "_law_gone", "_law_name", "_law_deed_here", "_law_found", "_law_bag"] ["_law_book_here"] (defScope s_ltold) := ⟨rfl, rfl, rfl, by decide +kernel, rfl, by decide +kernel, by decide +kernel⟩
theorem sc_lof : FnScope ["_law_runs_here", "_law_note", "_law_series", "_law_first", "_law_last"] ["_law_runs_here", "_law_note"] (defScope s_lof) := ⟨rfl, rfl, rfl, by decide +kernel, rfl, by decide +kernel, by decide +kernel⟩
theorem sc_lrows : FnScope ["_law_told_here", "_law_note", "_law_row"] ["_law_told_here", "_law_note"] (defScope s_lrows) := ⟨rfl, rfl, rfl, by decide +kernel, rfl, by decide +kernel, by decide +kernel⟩
theorem sc_ldue : FnScope ["_law_office_here", "_law_field_here", "_law_book_here", "_law_base", "_law_wide", "_law_told_here", "_law_found", "_law_series", "_law_worth", "_law_p", "_law_rows_here", "_law_ends", "_law_row", "_law_end", "_law_one", "_law_other"] ["_law_office_here", "_law_field_here", "_law_book_here"] (defScope s_ldue) := ⟨rfl, rfl, rfl, by decide +kernel, rfl, by decide +kernel, by decide +kernel⟩
theorem sc_law : FnScope ["_law_script", "_law_tape_here", "_law_many", "_law_office_here", "_law_field_here", "_law_books", "_law_k", "_law_kept", "_law_book_here"] ["_law_script"] (defScope s_law) := ⟨rfl, rfl, rfl, by decide +kernel, rfl, by decide +kernel, by decide +kernel⟩
structure Txt (mg : Str → Option Value) (f_is_apart f_runs_of f_many_in f_named_by_voids f_counted_bags f_standing_of f_pages_that_are f_counted_pages f_all_steps f_together f_both f_less f_what_is_left f_add_gap f_gaps f_ltape f_ldraw f_loffice f_lnames f_lruns f_lfield f_ldeed f_lbook f_ltold f_lof f_lrows f_ldue f_law : Addr) : Prop where
  m_is_apart : mg "is_apart" = some (.ref f_is_apart)
  m_runs_of : mg "runs_of" = some (.ref f_runs_of)
  m_many_in : mg "many_in" = some (.ref f_many_in)
  m_named_by_voids : mg "named_by_voids" = some (.ref f_named_by_voids)
  m_counted_bags : mg "counted_bags" = some (.ref f_counted_bags)
  m_standing_of : mg "standing_of" = some (.ref f_standing_of)
  m_pages_that_are : mg "pages_that_are" = some (.ref f_pages_that_are)
  m_counted_pages : mg "counted_pages" = some (.ref f_counted_pages)
  m_all_steps : mg "all_steps" = some (.ref f_all_steps)
  m_together : mg "together" = some (.ref f_together)
  m_both : mg "both" = some (.ref f_both)
  m_less : mg "less" = some (.ref f_less)
  m_what_is_left : mg "what_is_left" = some (.ref f_what_is_left)
  m_add_gap : mg "add_gap" = some (.ref f_add_gap)
  m_gaps : mg "gaps" = some (.ref f_gaps)
  m_ltape : mg "_law_tape" = some (.ref f_ltape)
  m_ldraw : mg "_law_draw" = some (.ref f_ldraw)
  m_loffice : mg "_law_office" = some (.ref f_loffice)
  m_lnames : mg "_law_names" = some (.ref f_lnames)
  m_lruns : mg "_law_runs" = some (.ref f_lruns)
  m_lfield : mg "_law_field" = some (.ref f_lfield)
  m_ldeed : mg "_law_deed" = some (.ref f_ldeed)
  m_lbook : mg "_law_book" = some (.ref f_lbook)
  m_ltold : mg "_law_told" = some (.ref f_ltold)
  m_lof : mg "_law_of" = some (.ref f_lof)
  m_lrows : mg "_law_rows" = some (.ref f_lrows)
  m_ldue : mg "_law_due" = some (.ref f_ldue)
  m_law : mg "law" = some (.ref f_law)
  len : mg "len" = none
  range : mg "range" = none
  sorted : mg "sorted" = none
  tuple : mg "tuple" = none
  int : mg "int" = none
  list : mg "list" = none
  dict : mg "dict" = none
  min : mg "min" = none
  max : mg "max" = none
  zip : mg "zip" = none
  repr : mg "repr" = none
  sum : mg "sum" = none
section
variable {P : Program} {w : World} {K : PySem.W.Frag} {mg : Str → Option Value} {base : Heap} {f_is_apart f_runs_of f_many_in f_named_by_voids f_counted_bags f_standing_of f_pages_that_are f_counted_pages f_all_steps f_together f_both f_less f_what_is_left f_add_gap f_gaps f_ltape f_ldraw f_loffice f_lnames f_lruns f_lfield f_ldeed f_lbook f_ltold f_lof f_lrows f_ldue f_law c_all_steps P_all_steps c_many_in P_many_in : Addr} {d_is_apart d_runs_of d_many_in d_named_by_voids d_counted_bags d_standing_of d_pages_that_are d_counted_pages d_all_steps d_together d_both d_less d_what_is_left d_add_gap d_gaps d_ltape d_ldraw d_loffice d_lnames d_lruns d_lfield d_ldeed d_lbook d_ltold d_lof d_lrows d_ldue d_law : FuncData}
theorem ok_is_apart (F : Fun K "is_apart" "is_apart" s_is_apart f_is_apart d_is_apart) (T : Txt mg f_is_apart f_runs_of f_many_in f_named_by_voids f_counted_bags f_standing_of f_pages_that_are f_counted_pages f_all_steps f_together f_both f_less f_what_is_left f_add_gap f_gaps f_ltape f_ldraw f_loffice f_lnames f_lruns f_lfield f_ldeed f_lbook f_ltold f_lof f_lrows f_ldue f_law) :
    FnOk P w K mg base CX0 (1) f_is_apart d_is_apart ["run", "later"] spApart := by
  refine F.ok sc_is_apart (fun vs H Q E h => ?_) (fun cdv A outer s H vs Q E hr h => ?_)

  · obtain ⟨p, q, a, b, rfl, _⟩ := h
    rfl
  obtain ⟨p, q, a, b, rfl, h1, h2, z⟩ := h
  refine ⟨_, (pss_cons (ps_if (pt_cmpR op_eq (pe_ix ix_tup (pv 0) pe_int (fun _ _ => rfl)) (pe_ix ix_tup (pv 1) pe_int (fun _ _ => rfl)) (nomark _))
  (pss_one (ps_ret (pe_cmpR op_lt (pe_ix ix_tup (pv 0) pe_int (fun _ _ => rfl)) (pe_ix ix_tup (pv 1) pe_int (fun _ _ => rfl)) (nomark _))))
  pss_nil)
  (pss_one (ps_ret (pe_cmpR op_lt_str (pe_ix ix_tup (pv 0) pe_int (fun _ _ => rfl)) (pe_ix ix_tup (pv 1) pe_int (fun _ _ => rfl)) (nomark _))))), ?_⟩
  refine ⟨_, rfl, p, _, _, _, rfl, rfl, SqT.of h1, rfl, _, rfl, q, _, _, _, rfl, rfl, SqT.of h2, rfl, rfl, _, rfl, ?_⟩
  refine ite2 (fun c => ?_) (fun c => ?_)
  · have e : a.1 = b.1 := V.str.inj (of_decide_eq_true c)
    have z2 : Q (.bl (decide (a.2.2 < b.2.1))) H := by
      unfold apart at z
      rw [if_pos e] at z
      exact z
    exact ⟨_, rfl, p, _, _, _, rfl, rfl, SqT.of h1, rfl, _, rfl, q, _, _, _, rfl, rfl, SqT.of h2, rfl, _, _, rfl, rfl, z2⟩
  · have e : ¬ a.1 = b.1 := fun k => c (decide_eq_true (congrArg V.str k))
    have z2 : Q (.bl (decide (a.1.cps.toList < b.1.cps.toList))) H := by
      unfold apart at z
      rw [if_neg e] at z
      exact z
    exact ⟨_, rfl, p, _, _, _, rfl, rfl, SqT.of h1, rfl, _, rfl, q, _, _, _, rfl, rfl, SqT.of h2, rfl, _, _, rfl, rfl, z2⟩

theorem ok_runs_of (F : Fun K "runs_of" "runs_of" s_runs_of f_runs_of d_runs_of) (T : Txt mg f_is_apart f_runs_of f_many_in f_named_by_voids f_counted_bags f_standing_of f_pages_that_are f_counted_pages f_all_steps f_together f_both f_less f_what_is_left f_add_gap f_gaps f_ltape f_ldraw f_loffice f_lnames f_lruns f_lfield f_ldeed f_lbook f_ltold f_lof f_lrows f_ldue f_law)
    (F_is_apart : Fun K "is_apart" "is_apart" s_is_apart f_is_apart d_is_apart) (b_is_apart : Binds K d_is_apart ["run", "later"] []) (G_is_apart : FnOk P w K mg base CX0 (1) f_is_apart d_is_apart ["run", "later"] spApart) :
    FnOk P w K mg base CX0 (2) f_runs_of d_runs_of ["some"] (spRunsOf K) := by
  refine F.ok sc_runs_of (fun vs H Q E h => ?_) (fun cdv A outer s H vs Q E hr h => ?_)

  · obtain ⟨a, ps, rs, rfl, _⟩ := h
    rfl
  obtain ⟨a, ps, rs, rfl, hs, hp, hz, q⟩ := h
  refine ⟨_, (pss_cons (ps_set (i := 1) sc_runs_of.nd rfl (.inl rfl) (pe_lst pa_nil))
  (pss_cons (ps_for PassesOwn.never rfl (pi_list (pe_callB (cr_sortedD hr) (by rfl) T.sorted (by decide +kernel) (pa_cons (pv 0) pa_nil))) (pg_name (i := 2) sc_runs_of.nd rfl (.inl rfl))
  (pss_one (ps_if (PW.pt (pw_and (pt_truth (pv 1) (by intro _; rfl)) (pw_and1 (pt_not (pt_val (pe_call G_is_apart hr (by rfl) T.m_is_apart F_is_apart.kp b_is_apart .nil pass0 (pa_cons (pe_ix ix_list (pv 1) (pe_un un_neg pe_int) (fun _ _ => rfl)) (pa_cons (pv 2) pa_nil))))))))
  (pss_cons (ps_asg (pe_ix ix_list (pv 1) (pe_un un_neg pe_int) (fun _ _ => rfl)) (pg_tup rfl (pgs_cons (pg_name (i := 3) sc_runs_of.nd rfl (.inl rfl)) (pgs_cons (pg_name (i := 4) sc_runs_of.nd rfl (.inl rfl)) (pgs_cons (pg_name (i := 5) sc_runs_of.nd rfl (.inl rfl)) pgs_nil)))))
  (pss_one (ps_asg (pe_tup (pa_cons (pv 3) (pa_cons (pv 4) (pa_cons (pe_callB (call_max2 rfl) (by rfl) T.max (by decide +kernel) (pa_cons (pv 5) (pa_cons (pe_ix ix_tup (pv 2) pe_int (fun _ _ => rfl)) pa_nil))) pa_nil)))) (pg_sub (pv 1) (pe_un un_neg pe_int) set_list))))
  (pss_one (ps_expr (pe_bm PySem.F.plainAttrs_list PySem.F.slot_list_append PySem.F.type_list_append mt_append (pv 1) (pa_cons (pv 2) pa_nil)))))))
  (pss_one (ps_ret (pe_callTy call_tuple_of (by rfl) T.tuple (by decide +kernel) (pa_cons (pv 1) pa_nil)))))), ?_⟩
  refine ⟨(show 0 ≤ sizeLine by decide), fun l hl => ?_⟩
  have S1 : Same H (upd H l (.lst [])) := same_new hl _
  have hp1 := Prd.same S1 hp
  obtain ⟨qs, e1, hq⟩ := sort_rn hp1
  refine ⟨_, rfl, a, _, _, rfl, SqL.sm S1 hs, Prd.dp hp1, rn_alike rs, rn_sortable rs, rn_depth rs, fun b hb => ?_⟩
  rw [e1]
  have lb : l ≠ b := ne_of_none upd_same hb
  have S2 := same_new hb (.lst (qs.map V.ref))
  have hql : qs.length = rs.length := by
    rw [hq.len, List.length_mergeSort]
  refine ⟨b, rfl, ⟨_, SqL.of upd_same⟩, for_list (K := K) (a := b) (xs := qs.map V.ref) (fun i σ H' => ∃ (fs : List Addr) (v6 v3 v4 v5 : Option V), σ = [some (.ref a), some (.ref l), v6, v3, v4, v5] ∧
    H' l = some (.lst (fs.map V.ref)) ∧ Prd H' fs (merge ((rs.mergeSort rnLe).take i)) ∧ H' b = some (.lst (qs.map V.ref)) ∧ Same H H' ∧ Prd H' qs (rs.mergeSort rnLe)) ?_ ?_ ?_ ?_⟩
  · exact ⟨[], none, none, none, none, rfl, (upd_ne lb).trans upd_same, .nil, upd_same, S1.trans S2, Prd.same S2 hq⟩
  · rintro i σ H' _ ⟨_, _, _, _, _, _, _, _, h4, _⟩
    exact SqL.of h4
  · rintro i x σ H' hx ⟨fs, v6, v3, v4, v5, rfl, h1, h2, h3, S3, h5⟩
    obtain ⟨p, hp, rfl⟩ : ∃ p, qs[i]? = some p ∧ x = V.ref p := by
      rw [List.getElem?_map] at hx
      cases e : qs[i]? with
      | none => rw [e] at hx; cases hx
      | some p => rw [e] at hx; exact ⟨p, rfl, (Option.some.inj hx).symm⟩
    obtain ⟨r, hr1, hr2⟩ := Prd.get h5 hp
    have mm := merge_more hr1
    have flen : fs.length ≤ 100000 := by
      have z := h2.len
      have z2 := merge_len ((rs.mergeSort rnLe).take i)
      rw [List.length_take, List.length_mergeSort] at z2
      omega
    have fin : ∀ (Hx : Hp) (v3' v4' v5' : Option V) (fs' : List Addr), Same H' Hx → Prd Hx fs' (push (merge ((rs.mergeSort rnLe).take i)) r) → ∃ (fs : List Addr) (v6 v3 v4 v5 : Option V), [some (V.ref a), some (.ref l), some (.ref p), v3', v4', v5'] = [some (.ref a), some (.ref l), v6, v3, v4, v5] ∧
        (upd Hx l (.lst (fs'.map V.ref))) l = some (.lst (fs.map V.ref)) ∧ Prd (upd Hx l (.lst (fs'.map V.ref))) fs (merge ((rs.mergeSort rnLe).take (i + 1))) ∧ (upd Hx l (.lst (fs'.map V.ref))) b = some (.lst (qs.map V.ref)) ∧ Same H (upd Hx l (.lst (fs'.map V.ref))) ∧ Prd (upd Hx l (.lst (fs'.map V.ref))) qs (rs.mergeSort rnLe) := fun Hx v3' v4' v5' fs' sx hh => by
      have keepP : ∀ (o : HO) {qs' : List Addr} {rs' : List Rn}, Prd Hx qs' rs' → Prd (upd Hx l o) qs' rs' := fun o qs' rs' hh => Prd.keep (fun p0 hp0 o0 ho0 => by
        obtain ⟨r0, _, e0⟩ := Prd.mem hh hp0
        rw [upd_ne (ne_of e0 (sx _ _ h1) (fun z => nomatch z))]
        exact ho0) hh
      refine ⟨fs', _, _, _, _, rfl, upd_same, by rw [mm]; exact keepP _ hh, (upd_ne (Ne.symm lb)).trans (sx _ _ h3), fun z u hz => ?_, keepP _ (Prd.same sx h5)⟩
      rw [upd_ne (ne_of_none hz hl)]
      exact sx _ _ (S3 _ _ hz)
    refine ⟨_, rfl, !(fs.map V.ref).isEmpty, .inl ⟨_, SqL.of h1, rfl⟩, ?_⟩
    rcases nil_or_snoc fs with rfl | ⟨fi, la, rfl⟩
    · refine iteF ?_
      refine ⟨_, rfl, .inl ⟨rfl, _, SqL.of h1⟩, _, rfl, l, _, _, rfl, rfl, h1, (show 0 < sizeLine by decide), ?_⟩
      have e0 : merge ((rs.mergeSort rnLe).take i) = [] := List.eq_nil_of_length_eq_zero (by rw [← h2.len]; rfl)
      exact fin H' _ _ _ [p] (Same.refl _) (by rw [e0]; exact Prd.one hr2)
    · obtain ⟨ts, lr, e2, hi2, hla⟩ := Prd.snoc h2
      rw [List.map_append, List.map_singleton] at h1
      have ne : (!((fi ++ [la]).map V.ref).isEmpty) = true := by simp
      rw [ne]
      refine iteT ?_
      refine ⟨_, rfl, 1, rfl, l, _, _, _, rfl, rfl, SqL.of h1, atI_last _ _, _, rfl, la, p, lr, r, rfl, hla, hr2, _, rfl, ?_⟩
      cases ap : apart lr r with
      | true =>
        refine iteF ?_
        refine ⟨_, rfl, .inl ⟨rfl, _, SqL.of h1⟩, _, rfl, l, _, _, rfl, rfl, h1, ?_, ?_⟩
        · rw [List.length_append, List.length_map, List.length_singleton]
          rw [List.length_append, List.length_singleton] at flen
          exact Nat.lt_of_le_of_lt flen (show 100000 < sizeLine by decide)
        · have z := fin H' v3 v4 v5 (fi ++ [la] ++ [p]) (Same.refl _) (by rw [e2, push_snoc, ap]; exact Prd.app (Prd.app hi2 (Prd.one hla)) (Prd.one hr2))
          rw [List.map_append, List.map_append] at z
          exact z
      | false =>
        refine iteT ?_
        refine ⟨_, rfl, 1, rfl, l, _, _, _, rfl, rfl, SqL.of h1, atI_last _ _, la, _, rfl, SqT.of hla, rfl, _, _, rfl, _, _, rfl, _, _, rfl, rfl, ?_⟩
        refine ⟨_, rfl, _, rfl, _, rfl, _, rfl, p, _, _, _, rfl, rfl, SqT.of hr2, rfl, _, _, rfl, (show 3 ≤ sizeLine by decide), fun t ht => ?_⟩
        have sx := same_new ht (.tup (rnV (lr.1, lr.2.1, if r.2.2 > lr.2.2 then r.2.2 else lr.2.2)))
        refine ⟨_, rfl, 1, rfl, l, _, _, fi.length, rfl, rfl, sx _ _ h1, ?_, ?_⟩
        · rw [List.length_append, List.length_map, List.length_singleton]
          exact ix_last _
        · have z := fin _ (some (.str lr.1)) (some (.int lr.2.1)) (some (.int lr.2.2)) (fi ++ [t]) sx (by rw [e2, push_snoc, ap]; exact Prd.app (Prd.same sx hi2) (Prd.one upd_same))
          have e3 : (fi.map V.ref ++ [V.ref la]).set fi.length (.ref t) = (fi ++ [t]).map V.ref := by
            rw [List.set_append_right _ _ (by rw [List.length_map]; exact Nat.le_refl _), List.length_map, Nat.sub_self, List.map_append]
            rfl
          rw [e3]
          exact z
  · rintro σ H' ⟨fs, v6, v3, v4, v5, rfl, h1, h2, h3, S3, h5⟩
    refine ⟨_, rfl, l, _, rfl, .inl ⟨SqL.of h1, fun t ht => ?_⟩⟩
    rw [List.length_map, List.take_of_length_le (by rw [List.length_mergeSort]; omega)] at h2
    exact q t fs _ (S3.trans (same_new ht _)) (S3.free ht) upd_same (Prd.same (same_new ht _) h2)

theorem ok_many_in (F : Fun K "many_in" "many_in" s_many_in f_many_in d_many_in) (T : Txt mg f_is_apart f_runs_of f_many_in f_named_by_voids f_counted_bags f_standing_of f_pages_that_are f_counted_pages f_all_steps f_together f_both f_less f_what_is_left f_add_gap f_gaps f_ltape f_ldraw f_loffice f_lnames f_lruns f_lfield f_ldeed f_lbook f_ltold f_lof f_lrows f_ldue f_law)
    (hc_many_in : d_many_in.code = .ref c_many_in) (TB_many_in : GxR.TabB base mg c_many_in P_many_in) :
    FnOk P w K mg base CX0 (2) f_many_in d_many_in ["runs"] (spMany K P_many_in) := by
  refine okT F hc_many_in sc_many_in (fun vs H Q E h => ?_) (fun A outer s H vs Q E hr h => ?_)

  · obtain ⟨a, rs, rfl, _⟩ := h
    rfl
  obtain ⟨a, rs, rfl, ⟨qs, ha, hp⟩, hl, ok, ht, q⟩ := h
  refine ⟨_, (pss_one (ps_ret (pe_sumG (own := [("series", 1), ("low", 2), ("high", 3)]) (g := (gTup K 3 (gCons (gName 1) (gCons (gName 2) (gCons (gName 3) gNil))))) hr (by rfl) T.sum sc_many_in.nd TB_many_in rfl (pi_tup (pv 0)) (blkOk_by (own := [("series", 1), ("low", 2), ("high", 3)]) (N := ["runs", "series", "low", "high"]) (sc := defScope s_many_in) (by decide +kernel)) (by decide +kernel) (fun _ _ _ _ _ => (pg_tup rfl (pgs_cons (pg_name (i := 1) sc_many_in.nd rfl (.inl rfl)) (pgs_cons (pg_name (i := 2) sc_many_in.nd rfl (.inl rfl)) (pgs_cons (pg_name (i := 3) sc_many_in.nd rfl (.inl rfl)) pgs_nil))))) (fun _ _ _ _ _ => pts_nil) (fun _ _ _ _ _ => (pe_op op_sub (pv 3) (pv 2)))))), ?_⟩
  have el : (qs.map V.ref).length = rs.length := by rw [List.length_map, hp.len]
  refine ⟨_, rfl, a, rfl, ⟨_, ha⟩, ht, (qs.map V.ref).length, fun _ => true, (fun i => .int ((rs[i]?).elim 0 cnt)), (fun _ H' => Same H H'), gx_it (walk_tup (K := K) (a := a) (xs := qs.map V.ref)) _ (Same.refl _) (fun i H' _ s => SqT.sm s ha) ?_ ⟨fun i => (rs[i]?).elim 0 cnt, 1000000000, rfl, ?_, fun i _ => ?_, fun H' s => ?_⟩⟩
  · rintro i x H1 H2 hi s ⟨rfl, hx⟩
    obtain ⟨u, hu, rfl⟩ : ∃ u, qs[i]? = some u ∧ x = V.ref u := by
      rw [List.getElem?_map] at hx
      cases e : qs[i]? with
      | none => rw [e] at hx; cases hx
      | some p => rw [e] at hx; exact ⟨p, rfl, (Option.some.inj hx).symm⟩
    obtain ⟨r, hr, hr2⟩ := Prd.get hp hu
    refine ⟨u, _, rfl, SqT.of (s _ _ hr2), rfl, _, _, rfl, _, _, rfl, _, _, rfl, rfl, rfl, rfl, ?_⟩
    refine ⟨_, rfl, _, rfl, _, _, rfl, rfl, ?_, s⟩
    rw [hr]
    rfl
  · rw [el]
    omega
  · show ((rs[i]?).elim 0 cnt).natAbs ≤ 1000000000
    cases e : rs[i]? with
    | none => exact Nat.zero_le _
    | some r =>
      obtain ⟨o1, o2, o3⟩ := ok r (List.mem_of_getElem? e)
      show (cnt r).natAbs ≤ 1000000000
      unfold cnt
      omega
  · have e : (((List.range (qs.map V.ref).length).filter fun _ => true).map fun i => (rs[i]?).elim 0 cnt).sum = cntL rs := by
      rw [el]
      exact range_sum cnt rs
    rw [e]
    exact q H' s

theorem ok_named_by_voids (F : Fun K "named_by_voids" "named_by_voids" s_named_by_voids f_named_by_voids d_named_by_voids) (T : Txt mg f_is_apart f_runs_of f_many_in f_named_by_voids f_counted_bags f_standing_of f_pages_that_are f_counted_pages f_all_steps f_together f_both f_less f_what_is_left f_add_gap f_gaps f_ltape f_ldraw f_loffice f_lnames f_lruns f_lfield f_ldeed f_lbook f_ltold f_lof f_lrows f_ldue f_law) :
    FnOk P w K mg base CX0 (1) f_named_by_voids d_named_by_voids ["book"] spGoneY := by
  refine F.ok sc_named_by_voids (fun vs H Q E h => ?_) (fun cdv A outer s H vs Q E hr h => ?_)

  · obtain ⟨b, gs, rfl, _⟩ := h
    rfl
  obtain ⟨b, gs, rfl, ⟨ps, hb, pgs⟩, lg, q⟩ := h
  refine ⟨_, (pss_one (ps_ret (pe_dcT (own := [("name", 1), ("deed", 2)]) (g := (gTup K 2 (gCons (gName 1) (gCons (gName 2) gNil)))) (un_of hr) (by rfl) sc_named_by_voids.nd (pi_tup (pv 0)) (blkOk_by (own := [("name", 1), ("deed", 2)]) (N := ["book", "name", "deed"]) (sc := defScope s_named_by_voids) (by decide +kernel)) (fun _ _ _ _ _ => (pg_tup rfl (pgs_cons (pg_name (i := 1) sc_named_by_voids.nd rfl (.inl rfl)) (pgs_cons (pg_name (i := 2) sc_named_by_voids.nd rfl (.inl rfl)) pgs_nil)))) (fun _ _ _ _ _ => (pts_one (pt_cmpR op_eq (pe_ix (show IxR _ (rIxT K) from ix_tup) (pv 2) pe_int (fun _ _ => rfl)) pe_str (nomark _)))) (fun _ _ _ _ _ => (pe_ix (show IxR _ (rIxT K) from ix_tup) (pv 2) pe_int (fun _ _ => rfl))) (fun _ _ _ _ _ => pe_bl)))), ?_⟩
  have pl := pgs.len
  refine ⟨_, rfl, b, rfl, ⟨_, .inl hb⟩, fun D hD => ?_⟩
  refine dcT_tup (K := K) (a := b) (xs := ps.map V.ref) (fun i H' => ∃ kvs, Same H H' ∧ H' D = some (.dT kvs) ∧ goneIs (voids (gs.take i)) kvs ∧ kvs.length ≤ i) ⟨[], same_new hD _, upd_same, fun n => rfl, Nat.le_refl _⟩ (fun i H' _ h => by obtain ⟨_, S, _⟩ := h; exact .inl (Rd.sm S hb)) ?_ ?_
  · rintro i y H1 hy ⟨kvs, S1, hD1, go, kl⟩
    obtain ⟨u, hu, rfl⟩ : ∃ u, ps[i]? = some u ∧ y = V.ref u := by
      rw [List.getElem?_map] at hy
      cases e : ps[i]? with
      | none => rw [e] at hy; cases hy
      | some p => rw [e] at hy; exact ⟨p, rfl, (Option.some.inj hy).symm⟩
    obtain ⟨g, hg, na, dt, at1, at2, at3⟩ := Pgs.get pgs hu
    have hi := (List.getElem?_eq_some_iff.mp hg).1
    obtain ⟨r, hd⟩ := at3.head
    refine ⟨u, _, rfl, SqT.of (S1 _ _ at1), rfl, _, _, rfl, _, _, rfl, rfl, rfl, ?_⟩
    refine ⟨_, rfl, dt, _, _, _, rfl, rfl, SqT.of (S1 _ _ hd), ix0 _ _, rfl, _, rfl, ?_⟩
    refine ite2 (fun c1 => ?_) (fun c1 => ?_)
    · have c1 : wOf g.2 = wVoid := V.str.inj (of_decide_eq_true c1)
      obtain ⟨m, em⟩ := wOf_void c1
      obtain ⟨qn, r2, h2, h3⟩ := at3.nm (m := m) (by rw [em]; rfl)
      refine ⟨_, rfl, dt, _, _, _, rfl, rfl, SqT.of (S1 _ _ h2), ix1 _ _ _, kvs, nmKey m, qn, rfl, S1 _ _ h3, hD1, Nat.lt_of_le_of_lt (show _ ≤ 1000 by omega) (by decide), _, same_mut S1 hD, upd_same, fun n => ?_, Nat.le_trans (putK_le _ _ _) (by omega)⟩
      rw [val_nm, go n]
      have z := voids_take hg n
      rw [em] at z
      have z : n ∈ voids (gs.take (i + 1)) ↔ n ∈ voids (gs.take i) ∨ n = m := z.trans (or_congr Iff.rfl List.mem_singleton)
      by_cases cn : n = m
      · rw [if_pos cn, if_pos (z.mpr (.inr cn))]
      · rw [if_neg cn]
        by_cases cv : n ∈ voids (gs.take i)
        · rw [if_pos cv, if_pos (z.mpr (.inl cv))]
        · rw [if_neg cv, if_neg (fun k => (z.mp k).elim cv cn)]
    · have c1 : wOf g.2 ≠ wVoid := fun z => c1 (decide_eq_true (congrArg V.str z))
      refine ⟨kvs, S1, hD1, fun n => ?_, by omega⟩
      rw [go n]
      have z := voids_take hg n
      have e : voidOf g.2 = [] := by
        cases eg : g.2 with
        | vd m => exact absurd (by rw [eg]; rfl) c1
        | mv => rfl
        | bag => rfl
        | rd => rfl
        | ct => rfl
      rw [e] at z
      by_cases cv : n ∈ voids (gs.take i)
      · rw [if_pos cv, if_pos (z.mpr (.inl cv))]
      · rw [if_neg cv, if_neg (fun k => (z.mp k).elim cv (fun k => nomatch k))]
  · rintro H1 ⟨kvs, S1, hD1, go, kl⟩
    rw [List.length_map, pl, List.take_length] at go
    exact q D kvs H1 S1 hD hD1 go

theorem ok_counted_bags (F : Fun K "counted_bags" "counted_bags" s_counted_bags f_counted_bags d_counted_bags) (T : Txt mg f_is_apart f_runs_of f_many_in f_named_by_voids f_counted_bags f_standing_of f_pages_that_are f_counted_pages f_all_steps f_together f_both f_less f_what_is_left f_add_gap f_gaps f_ltape f_ldraw f_loffice f_lnames f_lruns f_lfield f_ldeed f_lbook f_ltold f_lof f_lrows f_ldue f_law)
    (F_named_by_voids : Fun K "named_by_voids" "named_by_voids" s_named_by_voids f_named_by_voids d_named_by_voids) (b_named_by_voids : Binds K d_named_by_voids ["book"] []) (G_named_by_voids : FnOk P w K mg base CX0 (1) f_named_by_voids d_named_by_voids ["book"] spGoneY) :
    FnOk P w K mg base CX0 (2) f_counted_bags d_counted_bags ["book"] spBagsY := by
  refine F.ok sc_counted_bags (fun vs H Q E h => ?_) (fun cdv A outer s H vs Q E hr h => ?_)

  · obtain ⟨b, gs, rfl, _⟩ := h
    rfl
  obtain ⟨b, gs, rfl, bk, lg, q⟩ := h
  refine ⟨_, (pss_cons (ps_set (i := 1) sc_counted_bags.nd rfl (.inr rfl) (pe_call G_named_by_voids hr (by rfl) T.m_named_by_voids F_named_by_voids.kp b_named_by_voids .nil pass0 (pa_cons (pv 0) pa_nil)))
  (pss_one (ps_ret (pe_dcT (own := [("name", 2), ("deed", 3)]) (g := (gTup K 2 (gCons (gName 2) (gCons (gName 3) gNil)))) (un_of hr) (by rfl) sc_counted_bags.nd (pi_tup (pv 0)) (blkOk_by (own := [("name", 2), ("deed", 3)]) (N := ["book", "gone", "name", "deed"]) (sc := defScope s_counted_bags) (by decide +kernel)) (fun _ _ _ _ _ => (pg_tup rfl (pgs_cons (pg_name (i := 2) sc_counted_bags.nd rfl (.inl rfl)) (pgs_cons (pg_name (i := 3) sc_counted_bags.nd rfl (.inl rfl)) pgs_nil)))) (fun _ _ _ _ _ => (pts_one (PW.pt (pw_and (pt_cmpR op_eq (pe_ix (show IxR _ (rIxT K) from ix_tup) (pv 3) pe_int (fun _ _ => rfl)) pe_str (nomark _)) (pw_and1 (pt_cmp (pc_dnotin (hu_of hr) (pv 2) (pv 1)))))))) (fun _ _ _ _ _ => (pv 2)) (fun _ _ _ _ _ => (pv 3)))))), ?_⟩
  refine ⟨_, rfl, b, gs, rfl, bk, lg, fun G kg H0 S0 nG hG go => ?_⟩
  obtain ⟨ps, hb, pgs⟩ := bk.same S0
  have pl := pgs.len
  refine ⟨_, rfl, b, rfl, ⟨_, .inl hb⟩, fun D hD => ?_⟩
  refine dcT_tup (K := K) (a := b) (xs := ps.map V.ref) (fun i H' => ∃ kvs, Same H0 H' ∧ H' D = some (.dT kvs) ∧ bagsIs H' (voids gs) (gs.take i) kvs ∧ kvs.length ≤ i) ⟨[], same_new hD _, upd_same, fun n => .inr ⟨fun g hg => (by rw [List.take_zero] at hg; exact nomatch hg), rfl⟩, Nat.le_refl _⟩ (fun i H' _ h => by obtain ⟨_, S, _⟩ := h; exact .inl (Rd.sm S hb)) ?_ ?_
  · rintro i y H1 hy ⟨kvs, S1, hD1, bi, kl⟩
    obtain ⟨u, hu, rfl⟩ : ∃ u, ps[i]? = some u ∧ y = V.ref u := by
      rw [List.getElem?_map] at hy
      cases e : ps[i]? with
      | none => rw [e] at hy; cases hy
      | some p => rw [e] at hy; exact ⟨p, rfl, (Option.some.inj hy).symm⟩
    obtain ⟨g, hg, na, dt, at1, at2, at3⟩ := Pgs.get pgs hu
    obtain ⟨hi, eg⟩ := List.getElem?_eq_some_iff.mp hg
    obtain ⟨r, hd⟩ := at3.head
    have tk1 : gs.take (i + 1) = gs.take i ++ [g] := by rw [List.take_succ_eq_append_getElem hi, eg]
    have non : ∀ {Hx : Hp}, Tk H1 Hx → (isBag g.2 = true → g.1 ∈ voids gs) → bagsIs Hx (voids gs) (gs.take (i + 1)) kvs := fun {Hx} t no n => by
      rw [tk1]
      rcases (bi.tk t) n with ⟨g', a, rest⟩ | ⟨a, e⟩
      · exact .inl ⟨g', List.mem_append_left _ a, rest⟩
      · refine .inr ⟨fun g' hg' e1 e2 => ?_, e⟩
        rcases List.mem_append.mp hg' with z | z
        · exact a g' z e1 e2
        · cases List.mem_singleton.mp z
          rw [← e1]
          exact no e2
    refine ⟨u, _, rfl, SqT.of (S1 _ _ at1), rfl, _, _, rfl, _, _, rfl, rfl, rfl, ?_⟩
    refine ⟨_, rfl, dt, _, _, _, rfl, rfl, SqT.of (S1 _ _ hd), ix0 _ _, rfl, _, rfl, ?_⟩
    refine ite2 (fun c1 => ?_) (fun c1 => ?_)
    · have c1 : wOf g.2 = wBag := V.str.inj (of_decide_eq_true c1)
      have dg : DGet H1 G (.ref na) (valV kg (nmKey g.1)) := DGet.t (S1 _ _ hG) (S1 _ _ at2)
      refine ⟨_, rfl, _, rfl, G, _, rfl, dg, _, rfl, ?_⟩
      rw [go g.1]
      by_cases cv : g.1 ∈ voids gs
      · rw [if_pos cv]
        exact ⟨kvs, S1, hD1, non (Tk.refl _) fun _ => cv, by omega⟩
      · rw [if_neg cv]
        refine ⟨_, rfl, _, rfl, kvs, nmKey g.1, na, rfl, S1 _ _ at2, hD1, Nat.lt_of_le_of_lt (show _ ≤ 1000 by omega) (by decide), _, same_mut S1 hD, upd_same, fun n => ?_, Nat.le_trans (putK_le _ _ _) (by omega)⟩
        have tD : Tk H1 (upd H1 D (.dT (putK kvs (nmKey g.1) (.ref dt)))) := fun p xs h => by
          rw [upd_ne (ne_of h hD1 (fun z => nomatch z))]
          exact h
        rw [val_nm, tk1]
        by_cases cn : n = g.1
        · rw [if_pos cn]
          exact .inl ⟨g, List.mem_append_right _ List.mem_cons_self, cn.symm, wOf_bag.mp c1, cn ▸ cv, dt, rfl, (at3.tk (Tk.same S1)).tk tD⟩
        · rw [if_neg cn]
          rcases (bi.tk tD) n with ⟨g', a, rest⟩ | ⟨a, e⟩
          · exact .inl ⟨g', List.mem_append_left _ a, rest⟩
          · refine .inr ⟨fun g' hg' e1 e2 => ?_, e⟩
            rcases List.mem_append.mp hg' with z | z
            · exact a g' z e1 e2
            · cases List.mem_singleton.mp z
              exact (cn e1.symm).elim
    · have c1 : wOf g.2 ≠ wBag := fun z => c1 (decide_eq_true (congrArg V.str z))
      exact ⟨kvs, S1, hD1, non (Tk.refl _) fun e => (c1 (wOf_bag.mpr e)).elim, by omega⟩
  · rintro H1 ⟨kvs, S1, hD1, bi, kl⟩
    rw [List.length_map, pl, List.take_length] at bi
    exact q D kvs H1 (S0.trans S1) (S0.free hD) hD1 bi

theorem ok_standing_of (F : Fun K "standing_of" "standing_of" s_standing_of f_standing_of d_standing_of) (T : Txt mg f_is_apart f_runs_of f_many_in f_named_by_voids f_counted_bags f_standing_of f_pages_that_are f_counted_pages f_all_steps f_together f_both f_less f_what_is_left f_add_gap f_gaps f_ltape f_ldraw f_loffice f_lnames f_lruns f_lfield f_ldeed f_lbook f_ltold f_lof f_lrows f_ldue f_law) :
    FnOk P w K mg base CX0 (1) f_standing_of d_standing_of ["page", "gone", "bags"] spStand := by
  refine F.ok sc_standing_of (fun vs H Q E h => ?_) (fun cdv A outer s H vs Q E hr h => ?_)

  · obtain ⟨p, d1, d2, g, gs, k1, k2, rfl, _⟩ := h
    rfl
  obtain ⟨p, d1, d2, g, gs, k1, k2, rfl, ⟨na, dt, at1, at2, at3⟩, h1, go, h2, bi, q⟩ := h
  refine ⟨_, (pss_cons (ps_asg (pv 0) (pg_tup rfl (pgs_cons (pg_name (i := 3) sc_standing_of.nd rfl (.inl rfl)) (pgs_cons (pg_name (i := 4) sc_standing_of.nd rfl (.inl rfl)) pgs_nil))))
  (pss_cons (ps_if (pt_cmpR op_eq (pe_ix ix_tup (pv 4) pe_int (fun _ _ => rfl)) pe_str (nomark _))
  (pss_one (ps_ret pe_str))
  pss_nil)
  (pss_cons (ps_if (pt_cmp (pc_din (hu_of hr) (pv 3) (pv 1)))
  (pss_one (ps_ret pe_str))
  pss_nil)
  (pss_cons (ps_if (PW.pt (pw_and (pt_cmpR op_eq (pe_ix ix_tup (pv 4) pe_int (fun _ _ => rfl)) pe_str (nomark _)) (pw_and1 (pt_cmp (pc_dnotin (hu_of hr) (pe_ix ix_tup (pv 4) pe_int (fun _ _ => rfl)) (pv 2))))))
  (pss_one (ps_ret pe_str))
  pss_nil)
  (pss_one (ps_ret pe_str)))))), ?_⟩
  obtain ⟨r, hd⟩ := at3.head
  refine ⟨_, rfl, p, _, rfl, SqT.of at1, rfl, _, _, rfl, _, _, rfl, rfl, ?_⟩
  refine ⟨_, rfl, dt, _, _, _, rfl, rfl, SqT.of hd, ix0 _ _, rfl, _, rfl, ?_⟩
  refine ite2 (fun c1 => ?_) (fun c1 => ?_)
  · have c1 : wOf g.2 = wVoid := V.str.inj (of_decide_eq_true c1)
    have z := q H (Same.refl _)
    unfold standS at z
    rw [if_pos c1] at z
    exact z
  have c1 : wOf g.2 ≠ wVoid := fun z => c1 (decide_eq_true (congrArg V.str z))
  have dg : DGet H d1 (.ref na) (valV k1 (nmKey g.1)) := DGet.t h1 at2
  refine ⟨_, rfl, _, rfl, d1, _, rfl, dg, _, rfl, ?_⟩
  rw [go g.1]
  by_cases cv : g.1 ∈ voids gs
  · rw [if_pos cv]
    have z := q H (Same.refl _)
    unfold standS at z
    rw [if_neg c1, if_pos cv] at z
    exact z
  rw [if_neg cv]
  have z := q H (Same.refl _)
  unfold standS at z
  rw [if_neg c1, if_neg cv] at z
  refine ⟨_, rfl, dt, _, _, _, rfl, rfl, SqT.of hd, ix0 _ _, rfl, _, rfl, ?_⟩
  refine ite2 (fun c2 => ?_) (fun c2 => ?_)
  · have c2 : wOf g.2 = wRead := V.str.inj (of_decide_eq_true c2)
    obtain ⟨m, rs, em⟩ := wOf_read c2
    obtain ⟨qn, r2, h5, h6⟩ := at3.nm (m := m) (by rw [em]; rfl)
    have dg2 : DGet H d2 (.ref qn) (valV k2 (nmKey m)) := DGet.t h2 h6
    refine ⟨_, rfl, dt, _, _, _, rfl, rfl, SqT.of h5, ix1 _ _ _, _, rfl, d2, _, rfl, dg2, _, rfl, ?_⟩
    rw [bags_some bi m]
    rw [em] at z
    have z : Q (.str (if cbB gs m = true then (("counted" : String) : Str) else (("waiting" : String) : Str))) H := z
    cases cc : cbB gs m with
    | true =>
      rw [cc] at z
      exact z
    | false =>
      rw [cc] at z
      exact z
  · have c2 : wOf g.2 ≠ wRead := fun z => c2 (decide_eq_true (congrArg V.str z))
    cases eg : g.2 with
    | rd m rs => exact absurd (by rw [eg]; rfl) c2
    | vd m => rw [eg] at z; exact z
    | mv a b rs => rw [eg] at z; exact z
    | bag a b k => rw [eg] at z; exact z
    | ct a k => rw [eg] at z; exact z

theorem ok_pages_that_are (F : Fun K "pages_that_are" "pages_that_are" s_pages_that_are f_pages_that_are d_pages_that_are) (T : Txt mg f_is_apart f_runs_of f_many_in f_named_by_voids f_counted_bags f_standing_of f_pages_that_are f_counted_pages f_all_steps f_together f_both f_less f_what_is_left f_add_gap f_gaps f_ltape f_ldraw f_loffice f_lnames f_lruns f_lfield f_ldeed f_lbook f_ltold f_lof f_lrows f_ldue f_law)
    (F_named_by_voids : Fun K "named_by_voids" "named_by_voids" s_named_by_voids f_named_by_voids d_named_by_voids) (b_named_by_voids : Binds K d_named_by_voids ["book"] []) (G_named_by_voids : FnOk P w K mg base CX0 (2) f_named_by_voids d_named_by_voids ["book"] spGoneY)
    (F_counted_bags : Fun K "counted_bags" "counted_bags" s_counted_bags f_counted_bags d_counted_bags) (b_counted_bags : Binds K d_counted_bags ["book"] []) (G_counted_bags : FnOk P w K mg base CX0 (2) f_counted_bags d_counted_bags ["book"] spBagsY)
    (F_standing_of : Fun K "standing_of" "standing_of" s_standing_of f_standing_of d_standing_of) (b_standing_of : Binds K d_standing_of ["page", "gone", "bags"] []) (G_standing_of : FnOk P w K mg base CX0 (2) f_standing_of d_standing_of ["page", "gone", "bags"] spStand) :
    FnOk P w K mg base CX0 (3) f_pages_that_are d_pages_that_are ["book", "standing"] spThatY := by
  refine F.ok sc_pages_that_are (fun vs H Q E h => ?_) (fun cdv A outer s H vs Q E hr h => ?_)

  · obtain ⟨b, wd, gs, rfl, _⟩ := h
    rfl
  obtain ⟨b, wd, gs, rfl, bk, lg, q⟩ := h
  refine ⟨_, (pss_cons (ps_set (i := 2) sc_pages_that_are.nd rfl (.inr rfl) (pe_call G_named_by_voids hr (by rfl) T.m_named_by_voids F_named_by_voids.kp b_named_by_voids .nil pass0 (pa_cons (pv 0) pa_nil)))
  (pss_cons (ps_set (i := 3) sc_pages_that_are.nd rfl (.inr rfl) (pe_call G_counted_bags hr (by rfl) T.m_counted_bags F_counted_bags.kp b_counted_bags .nil pass0 (pa_cons (pv 0) pa_nil)))
  (pss_one (ps_ret (pe_lc (own := [("page", 4)]) (g := (gName 4)) (by rfl) sc_pages_that_are.nd (pi_tup (pv 0)) (blkOk_by (own := [("page", 4)]) (N := ["book", "standing", "gone", "bags", "page"]) (sc := defScope s_pages_that_are) (by decide +kernel)) (fun _ _ _ _ _ => (pg_name (i := 4) sc_pages_that_are.nd rfl (.inl rfl))) (fun _ _ _ _ _ => (pts_one (pt_cmpR op_eq (pe_call G_standing_of hr (by rfl) T.m_standing_of F_standing_of.kp b_standing_of .nil pass0 (pa_cons (pv 4) (pa_cons (pv 2) (pa_cons (pv 3) pa_nil)))) (pv 1) (nomark _)))) (fun _ _ _ _ _ => (pv 4))))))), ?_⟩
  refine ⟨_, rfl, b, gs, rfl, bk, lg, fun G kg H1 S1 nG hG go => ?_⟩
  refine ⟨_, rfl, b, gs, rfl, bk.same S1, lg, fun B kb H2 S2 nB hB bi => ?_⟩
  have S12 := S1.trans S2
  obtain ⟨ps, hb, pgs⟩ := bk.same S12
  have pl := pgs.len
  refine ⟨_, rfl, b, rfl, ⟨_, .inl hb⟩, fun D hD => ?_⟩
  refine lc_tup (K := K) (a := b) (xs := ps.map V.ref) (fun i H' => ∃ qs : List Addr, Same H2 H' ∧ H' D = some (.lst (qs.map V.ref)) ∧ Pgs H' qs ((gs.take i).filter fun g => decide (standS gs g = wd))) ⟨[], same_new hD _, upd_same, .nil⟩ (fun i H' _ h => by obtain ⟨_, S, _⟩ := h; exact .inl (Rd.sm S hb)) ?_ ?_
  · rintro i y H3 hy ⟨qs, S3, hD3, pq⟩
    obtain ⟨u, hu, rfl⟩ : ∃ u, ps[i]? = some u ∧ y = V.ref u := by
      rw [List.getElem?_map] at hy
      cases e : ps[i]? with
      | none => rw [e] at hy; cases hy
      | some p => rw [e] at hy; exact ⟨p, rfl, (Option.some.inj hy).symm⟩
    obtain ⟨g, hg, na, dt, at1, at2, at3⟩ := Pgs.get pgs hu
    obtain ⟨hi, eg⟩ := List.getElem?_eq_some_iff.mp hg
    have more : (gs.take (i + 1)).filter (fun g => decide (standS gs g = wd)) = (gs.take i).filter (fun g => decide (standS gs g = wd)) ++ if decide (standS gs g = wd) = true then [g] else [] := by
      rw [List.take_succ_eq_append_getElem hi, List.filter_append, eg]
      congr 1
      by_cases cz : standS gs g = wd <;> simp [cz]
    have pga : PgAt H2 u g := ⟨na, dt, at1, at2, at3⟩
    have ql := pq.len
    have fl : ((gs.take i).filter fun g => decide (standS gs g = wd)).length ≤ i := Nat.le_trans (List.length_filter_le _ _) (List.length_take_le _ _)
    refine ⟨rfl, _, rfl, _, rfl, _, rfl, u, G, B, g, gs, kg, kb, rfl, pga.tk (Tk.same S3), (S2.trans S3) _ _ hG, go, S3 _ _ hB, bi.tk (Tk.same S3), fun H4 S4 => ?_⟩
    have S34 := S3.trans S4
    refine ⟨_, rfl, rfl, _, rfl, ?_⟩
    refine ite2 (fun c1 => ?_) (fun c1 => ?_)
    · have c1 : standS gs g = wd := V.str.inj (of_decide_eq_true c1)
      rw [if_pos (decide_eq_true c1)] at more
      have hD4 := S4 _ _ hD3
      refine ⟨_, rfl, _, hD4, ?_, qs ++ [u], same_mut S34 hD, ?_, ?_⟩
      · rw [List.length_map, ql]
        exact Nat.lt_of_le_of_lt (show _ ≤ 1000 by omega) (by decide)
      · rw [upd_same, List.map_append]
        rfl
      · rw [more]
        exact ((pq.tk (Tk.same S4)).app (Pgs.mk1 (pga.tk (Tk.same S34)))).tk (Tk.put hD4)
    · have c1 : ¬ standS gs g = wd := fun z => c1 (decide_eq_true (congrArg V.str z))
      rw [if_neg (by rw [decide_eq_true_eq]; exact c1), List.append_nil] at more
      exact ⟨qs, S34, S4 _ _ hD3, by rw [more]; exact pq.tk (Tk.same S4)⟩
  · rintro H3 ⟨qs, S3, hD3, pq⟩
    rw [List.length_map, pl, List.take_length] at pq
    exact q D qs H3 (S12.trans S3) (S12.free hD) hD3 pq

theorem ok_counted_pages (F : Fun K "counted_pages" "counted_pages" s_counted_pages f_counted_pages d_counted_pages) (T : Txt mg f_is_apart f_runs_of f_many_in f_named_by_voids f_counted_bags f_standing_of f_pages_that_are f_counted_pages f_all_steps f_together f_both f_less f_what_is_left f_add_gap f_gaps f_ltape f_ldraw f_loffice f_lnames f_lruns f_lfield f_ldeed f_lbook f_ltold f_lof f_lrows f_ldue f_law)
    (F_pages_that_are : Fun K "pages_that_are" "pages_that_are" s_pages_that_are f_pages_that_are d_pages_that_are) (b_pages_that_are : Binds K d_pages_that_are ["book", "standing"] []) (G_pages_that_are : FnOk P w K mg base CX0 (3) f_pages_that_are d_pages_that_are ["book", "standing"] spThatY) :
    FnOk P w K mg base CX0 (4) f_counted_pages d_counted_pages ["book"] (spThatOfY (("counted" : String) : Str)) := by
  refine F.ok sc_counted_pages (fun vs H Q E h => ?_) (fun cdv A outer s H vs Q E hr h => ?_)

  · obtain ⟨b, gs, rfl, _⟩ := h
    rfl
  obtain ⟨b, gs, rfl, bk, lg, q⟩ := h
  refine ⟨_, (pss_one (ps_ret (pe_call G_pages_that_are hr (by rfl) T.m_pages_that_are F_pages_that_are.kp b_pages_that_are .nil pass0 (pa_cons (pv 0) (pa_cons pe_str pa_nil))))), ?_⟩
  exact ⟨_, rfl, b, _, gs, rfl, bk, lg, q⟩

theorem ok_all_steps (F : Fun K "all_steps" "all_steps" s_all_steps f_all_steps d_all_steps) (T : Txt mg f_is_apart f_runs_of f_many_in f_named_by_voids f_counted_bags f_standing_of f_pages_that_are f_counted_pages f_all_steps f_together f_both f_less f_what_is_left f_add_gap f_gaps f_ltape f_ldraw f_loffice f_lnames f_lruns f_lfield f_ldeed f_lbook f_ltold f_lof f_lrows f_ldue f_law)
    (F_counted_bags : Fun K "counted_bags" "counted_bags" s_counted_bags f_counted_bags d_counted_bags) (b_counted_bags : Binds K d_counted_bags ["book"] []) (G_counted_bags : FnOk P w K mg base CX0 (4) f_counted_bags d_counted_bags ["book"] spBagsY)
    (F_counted_pages : Fun K "counted_pages" "counted_pages" s_counted_pages f_counted_pages d_counted_pages) (b_counted_pages : Binds K d_counted_pages ["book"] []) (G_counted_pages : FnOk P w K mg base CX0 (4) f_counted_pages d_counted_pages ["book"] (spThatOfY (("counted" : String) : Str)))
    (hc_all_steps : d_all_steps.code = .ref c_all_steps) (TB_all_steps : GxR.TabB base mg c_all_steps P_all_steps) :
    FnOk P w K mg base CX0 (6) f_all_steps d_all_steps ["book"] (spAllSY P_all_steps) := by
  refine okT F hc_all_steps sc_all_steps (fun vs H Q E h => ?_) (fun A outer s H vs Q E hr h => ?_)

  · obtain ⟨b, bs, rfl, _⟩ := h
    rfl
  obtain ⟨b, bs, rfl, bk, bl, nd, hT, q⟩ := h
  refine ⟨_, (pss_cons (ps_set (i := 1) sc_all_steps.nd rfl (.inl rfl) (pe_call G_counted_bags (hr.mono (by decide)) (by rfl) T.m_counted_bags F_counted_bags.kp b_counted_bags .nil pass0 (pa_cons (pv 0) pa_nil)))
  (pss_cons (ps_set (i := 2) sc_all_steps.nd rfl (.inl rfl) (pe_lst pa_nil))
  (pss_cons (ps_for PassesOwn.never rfl (pi_list (pe_call G_counted_pages (hr.mono (by decide)) (by rfl) T.m_counted_pages F_counted_pages.kp b_counted_pages .nil pass0 (pa_cons (pv 0) pa_nil))) (pg_tup rfl (pgs_cons (pg_name (i := 3) sc_all_steps.nd rfl (.inl rfl)) (pgs_cons (pg_name (i := 4) sc_all_steps.nd rfl (.inl rfl)) pgs_nil)))
  (pss_one (ps_if (pt_cmpR op_eq (pe_ix ix_tup (pv 4) pe_int (fun _ _ => rfl)) pe_str (nomark _))
  (pss_one (ps_expr (pe_bm PySem.F.plainAttrs_list PySem.F.slot_list_append PySem.F.type_list_append mt_append (pv 2) (pa_cons (pe_tup (pa_cons (pv 3) (pa_cons (pe_ix ix_tup (pv 4) pe_int (fun _ _ => rfl)) (pa_cons (pe_ix ix_tup (pv 4) pe_int (fun _ _ => rfl)) (pa_cons (pv 3) (pa_cons (pe_ix ix_tup (pv 4) pe_int (fun _ _ => rfl)) pa_nil)))))) pa_nil))))
  (pss_one (ps_if (pt_cmpR op_eq (pe_ix ix_tup (pv 4) pe_int (fun _ _ => rfl)) pe_str (nomark _))
  (pss_cons (ps_set (i := 5) sc_all_steps.nd rfl (.inl rfl) (pe_dget (hu_of hr) (pv 1) (pe_ix ix_tup (pv 4) pe_int (fun _ _ => rfl)) (fun _ _ => rfl)))
  (pss_one (ps_expr (pe_bm PySem.F.plainAttrs_list PySem.F.slot_list_append PySem.F.type_list_append mt_append (pv 2) (pa_cons (pe_tup (pa_cons (pe_ix ix_tup (pv 4) pe_int (fun _ _ => rfl)) (pa_cons (pe_ix ix_tup (pv 5) pe_int (fun _ _ => rfl)) (pa_cons (pe_ix ix_tup (pv 5) pe_int (fun _ _ => rfl)) (pa_cons (pv 3) (pa_cons (pe_ix ix_tup (pv 4) pe_int (fun _ _ => rfl)) pa_nil)))))) pa_nil)))))
  pss_nil)))))
  (pss_one (ps_ret (pe_sortK hr (by rfl) T.sorted TB_all_steps rfl (pa_cons (pv 2) pa_nil) (key2 (by decide) (by decide) (by decide)) (by rfl) (by rfl) (by rfl) (by rfl) (by decide) (by rfl) (fun _ _ _ _ _ _ => rfl))))))), ?_⟩
  refine ⟨_, rfl, b, bs, rfl, bk, bl, fun B kb H1 S1 nB hB bi => ?_⟩
  refine ⟨by decide, fun D nD => ?_⟩
  have N2 := same_new nD (.lst [])
  have S2 := S1.trans N2
  refine ⟨_, rfl, b, bs, rfl, bk.same S2, bl, fun l qs H3 S3 nl hl pq => ?_⟩
  have lD : l ≠ D := fun z => by rw [z, upd_same] at nl; cases nl
  have hT3 := hT.same (S2.trans S3)
  have pq : Pgs H3 qs (thatL bs wCd) := pq
  have pl := pq.len
  have tl : (thatL bs wCd).length ≤ 1000 := Nat.le_trans (List.length_filter_le _ _) bl
  have bi3 : bagsIs H3 (voids bs) bs kb := bi.tk (Tk.same (N2.trans S3))
  refine ⟨l, rfl, ⟨_, SqL.of hl⟩, ?_⟩
  refine for_list (K := K) (a := l) (xs := qs.map V.ref) (fun i σ H' => ∃ (ps : List Addr) (v3 v4 v5 : Option V), σ = [some (.ref b), some (.ref B), some (.ref D), v3, v4, v5] ∧ Same H1 H' ∧ H' l = some (.lst (qs.map V.ref)) ∧ Tk H3 H' ∧ H' D = some (.lst (ps.map V.ref)) ∧ Sts H' ps (((thatL bs wCd).take i).flatMap (stp bs))) ⟨[], none, none, none, rfl, N2.trans S3, hl, Tk.refl _, S3 _ _ upd_same, .nil⟩ (fun i σ H' _ h => by obtain ⟨_, _, _, _, _, _, h, _⟩ := h; exact SqL.of h) ?_ ?_
  · rintro i y σ H4 hy ⟨ps, v3, v4, v5, rfl, S4, hl4, tk4, hD4, st4⟩
    obtain ⟨u, hu, rfl⟩ : ∃ u, qs[i]? = some u ∧ y = V.ref u := by
      rw [List.getElem?_map] at hy
      cases e : qs[i]? with
      | none => rw [e] at hy; cases hy
      | some p => rw [e] at hy; exact ⟨p, rfl, (Option.some.inj hy).symm⟩
    obtain ⟨g, hg, pga⟩ := Pgs.get pq hu
    obtain ⟨hi, eg⟩ := List.getElem?_eq_some_iff.mp hg
    have gmem : g ∈ thatL bs wCd := List.mem_of_getElem? hg
    obtain ⟨na, td, p1, p2, p3⟩ := id (pga.tk tk4)
    have more : ((thatL bs wCd).take (i + 1)).flatMap (stp bs) = ((thatL bs wCd).take i).flatMap (stp bs) ++ stp bs g := by
      rw [List.take_succ_eq_append_getElem hi, eg, List.flatMap_append]
      simp
    have len : ps.length ≤ 1000 := by
      rw [paired_len st4]
      have z : ∀ l : List Pg, (l.flatMap (stp bs)).length ≤ l.length := fun l => by
        induction l with
        | nil => exact Nat.le_refl _
        | cons a l ih =>
          rw [List.flatMap_cons, List.length_append, List.length_cons]
          have := stp_len bs a
          omega
      exact Nat.le_trans (z _) (Nat.le_trans (List.length_take_le _ _) (by omega))
    have lenS : ∀ xs : List V, xs.length = ps.length → xs.length < sizeLine := fun xs e => by
      rw [e]
      exact Nat.lt_of_le_of_lt len (by decide)
    have w1 : ∀ {x y : Str}, x ≠ y → ¬ decide (V.str x = V.str y) = true := fun n z => n (V.str.inj (of_decide_eq_true z))
    obtain ⟨nm, dd⟩ := g
    refine ⟨u, _, rfl, SqT.of p1, rfl, _, _, rfl, _, _, rfl, rfl, ?_⟩
    have put : ∀ (tu : Addr) (x : Stp) (xs : List V), H4 tu = none → StAt (upd H4 tu (.tup xs)) tu x → stp bs (nm, dd) = [x] → ∀ va vb vc : Option V, ∃ (ps' : List Addr) (v3 v4 v5 : Option V), [some (V.ref b), some (V.ref B), some (V.ref D), va, vb, vc] = [some (.ref b), some (.ref B), some (.ref D), v3, v4, v5] ∧ Same H1 (upd (upd H4 tu (.tup xs)) D (.lst (ps.map V.ref ++ [V.ref tu]))) ∧ upd (upd H4 tu (.tup xs)) D (.lst (ps.map V.ref ++ [V.ref tu])) l = some (.lst (qs.map V.ref)) ∧ Tk H3 (upd (upd H4 tu (.tup xs)) D (.lst (ps.map V.ref ++ [V.ref tu]))) ∧ upd (upd H4 tu (.tup xs)) D (.lst (ps.map V.ref ++ [V.ref tu])) D = some (.lst (ps'.map V.ref)) ∧ Sts (upd (upd H4 tu (.tup xs)) D (.lst (ps.map V.ref ++ [V.ref tu]))) ps' (((thatL bs wCd).take (i + 1)).flatMap (stp bs)) := fun tu x xs ntu sx ex va vb vc => by
      have Nu := same_new ntu (.tup xs)
      have hDu := Nu _ _ hD4
      have tD : Tk (upd H4 tu (.tup xs)) (upd (upd H4 tu (.tup xs)) D (.lst (ps.map V.ref ++ [V.ref tu]))) := Tk.put hDu
      refine ⟨ps ++ [tu], va, vb, vc, rfl, same_mut (S4.trans Nu) nD, (upd_ne lD).trans (Nu _ _ hl4), tk4.trans ((Tk.same Nu).trans tD), by rw [upd_same, List.map_append]; rfl, ?_⟩
      rw [more, ex]
      exact Sts.tk tD (paired_snoc (Sts.tk (Tk.same Nu) st4) sx)
    cases dd with
    | mv a c rs =>
      obtain ⟨ru, h1, h2⟩ := p3
      refine ⟨_, rfl, td, _, _, _, rfl, rfl, SqT.of h1, rfl, rfl, _, rfl, ?_⟩
      refine ite2 (fun _ => ?_) (fun c => absurd (decide_eq_true rfl) c)
      refine ⟨_, rfl, .inl ⟨rfl, _, SqL.of hD4⟩, _, rfl, _, rfl, td, _, _, _, rfl, rfl, SqT.of h1, rfl, _, rfl, td, _, _, _, rfl, rfl, SqT.of h1, rfl, _, rfl, _, rfl, td, _, _, _, rfl, rfl, SqT.of h1, rfl, (show 5 ≤ sizeLine by decide), fun tu ntu => ?_⟩
      have Nu := same_new ntu (.tup [.ref na, .str a, .str c, .ref na, .ref ru])
      exact ⟨D, _, _, rfl, rfl, Nu _ _ hD4, lenS _ (List.length_map _), put tu (nm, a, c, nm, rs) _ ntu ⟨na, na, ru, upd_same, Nu _ _ p2, Nu _ _ p2, h2.tk (Tk.same Nu)⟩ rfl _ _ _⟩
    | rd m rs =>
      obtain ⟨qn, ru, h1, h3, h2⟩ := p3
      refine ⟨_, rfl, td, _, _, _, rfl, rfl, SqT.of h1, rfl, rfl, _, rfl, ?_⟩
      refine ite2 (fun c => absurd c (w1 (by decide +kernel))) (fun _ => ?_)
      refine ⟨_, rfl, td, _, _, _, rfl, rfl, SqT.of h1, rfl, rfl, _, rfl, ?_⟩
      refine ite2 (fun _ => ?_) (fun c => absurd (decide_eq_true rfl) c)
      have st : standS bs (nm, .rd m rs) = wCd := by
        have z := (List.mem_filter.mp gmem).2
        exact of_decide_eq_true z
      have cb : cbB bs m = true := by
        unfold standS at st
        rw [if_neg (show wOf (.rd m rs) ≠ wVoid by show wRead ≠ wVoid; decide +kernel)] at st
        by_cases cv : nm ∈ voids bs
        · rw [if_pos cv] at st
          exact absurd st (by decide +kernel)
        · rw [if_neg cv] at st
          by_cases cc : cbB bs m = true
          · exact cc
          · exfalso
            have st : (if cbB bs m = true then (("counted" : String) : Str) else (("waiting" : String) : Str)) = wCd := st
            rw [if_neg cc] at st
            exact absurd st (by decide +kernel)
      rcases bi3 m with ⟨g', a1, a2, a3, a4, ut, a5, a6⟩ | ⟨no, e⟩
      · obtain ⟨n2, d2⟩ := g'
        cases d2 with
        | bag ba bb bn =>
          have hb4 : H4 ut = some (.tup [.str wBag, .str ba, .str bb, .int bn]) := tk4 _ _ a6
          have dg : DGet H4 B (.ref qn) (some (.ref ut)) := by
            rw [← a5]
            exact DGet.t (k := nmKey m) (S4 _ _ hB) h3
          have ab : abN bs m = (ba, bb) := by
            have z := abN_of nd a1
            have a2 : n2 = m := a2
            subst a2
            exact z
          refine ⟨_, rfl, _, rfl, td, _, _, _, rfl, rfl, SqT.of h1, rfl, B, _, rfl, dg, _, rfl, ?_⟩
          refine ⟨.inl ⟨rfl, _, SqL.of hD4⟩, _, rfl, td, _, _, _, rfl, rfl, SqT.of h1, rfl, _, rfl, ut, _, _, _, rfl, rfl, SqT.of hb4, rfl, _, rfl, ut, _, _, _, rfl, rfl, SqT.of hb4, rfl, _, rfl, _, rfl, td, _, _, _, rfl, rfl, SqT.of h1, rfl, (show 5 ≤ sizeLine by decide), fun tu ntu => ?_⟩
          have Nu := same_new ntu (.tup [.ref qn, .str ba, .str bb, .ref na, .ref ru])
          exact ⟨D, _, _, rfl, rfl, Nu _ _ hD4, lenS _ (List.length_map _), put tu (m, ba, bb, nm, rs) _ ntu ⟨qn, na, ru, upd_same, Nu _ _ h3, Nu _ _ p2, h2.tk (Tk.same Nu)⟩ (by show [(m, (abN bs m).1, (abN bs m).2, nm, rs)] = _; rw [ab]) _ _ _⟩
        | mv => exact nomatch a3
        | rd => exact nomatch a3
        | ct => exact nomatch a3
        | vd => exact nomatch a3
      · have z := bags_some bi3 m
        rw [e, cb] at z
        exact nomatch z
    | bag a c k =>
      have z := put
      refine ⟨_, rfl, td, _, _, _, rfl, rfl, SqT.of p3, rfl, rfl, _, rfl, ite2 (fun c => absurd c (w1 (by decide +kernel))) fun _ => ⟨_, rfl, td, _, _, _, rfl, rfl, SqT.of p3, rfl, rfl, _, rfl, ite2 (fun c => absurd c (w1 (by decide +kernel))) fun _ => ?_⟩⟩
      exact ⟨ps, _, _, _, rfl, S4, hl4, tk4, hD4, by rw [more]; exact (List.append_nil _).symm ▸ st4⟩
    | ct a k =>
      refine ⟨_, rfl, td, _, _, _, rfl, rfl, SqT.of p3, rfl, rfl, _, rfl, ite2 (fun c => absurd c (w1 (by decide +kernel))) fun _ => ⟨_, rfl, td, _, _, _, rfl, rfl, SqT.of p3, rfl, rfl, _, rfl, ite2 (fun c => absurd c (w1 (by decide +kernel))) fun _ => ?_⟩⟩
      exact ⟨ps, _, _, _, rfl, S4, hl4, tk4, hD4, by rw [more]; exact (List.append_nil _).symm ▸ st4⟩
    | vd m =>
      obtain ⟨qn, h1, h2⟩ := p3
      refine ⟨_, rfl, td, _, _, _, rfl, rfl, SqT.of h1, rfl, rfl, _, rfl, ite2 (fun c => absurd c (w1 (by decide +kernel))) fun _ => ⟨_, rfl, td, _, _, _, rfl, rfl, SqT.of h1, rfl, rfl, _, rfl, ite2 (fun c => absurd c (w1 (by decide +kernel))) fun _ => ?_⟩⟩
      exact ⟨ps, _, _, _, rfl, S4, hl4, tk4, hD4, by rw [more]; exact (List.append_nil _).symm ▸ st4⟩
  · rintro σ H4 ⟨ps, v3, v4, v5, rfl, S4, hl4, tk4, hD4, st4⟩
    have e0 : (qs.map V.ref).length = (thatL bs wCd).length := by rw [List.length_map]; exact pl
    rw [e0, List.take_length] at st4
    obtain ⟨f1, f2, f3⟩ := keyS_fit (rowsP bs)
    have T4 := S1.trans S4
    refine ⟨_, rfl, D, _, _, rfl, SqL.of hD4, hT.same T4, keyd_sts st4, f1, f2, f3, fun p H5 b5 hT5 np hp5 => ?_⟩
    obtain ⟨φ, hPx⟩ := (hT.same T4).at
    obtain ⟨rs, e1, e2⟩ := sort_paired (F := fun p g => StAt H5 p g) keyS (st4.tk (Tk.of_but hPx b5))
    rw [e1] at hp5
    exact q p rs H5 ((But.of_same T4).trans b5) hT5 (T4.free np) hp5 e2

theorem ok_together (F : Fun K "together" "together" s_together f_together d_together) (T : Txt mg f_is_apart f_runs_of f_many_in f_named_by_voids f_counted_bags f_standing_of f_pages_that_are f_counted_pages f_all_steps f_together f_both f_less f_what_is_left f_add_gap f_gaps f_ltape f_ldraw f_loffice f_lnames f_lruns f_lfield f_ldeed f_lbook f_ltold f_lof f_lrows f_ldue f_law)
    (F_runs_of : Fun K "runs_of" "runs_of" s_runs_of f_runs_of d_runs_of) (b_runs_of : Binds K d_runs_of ["some"] []) (G_runs_of : FnOk P w K mg base CX0 (2) f_runs_of d_runs_of ["some"] (spRunsOf K)) :
    FnOk P w K mg base CX0 (3) f_together d_together ["one", "other"] (spTwo K togL) := by
  refine F.ok sc_together (fun vs H Q E h => ?_) (fun cdv A outer s H vs Q E hr h => ?_)

  · obtain ⟨a, b, rs, ts, rfl, _⟩ := h
    rfl
  obtain ⟨a, b, rs, ts, rfl, ⟨qs, h1, h2⟩, ⟨ps, k1, k2⟩, l1, l2, q⟩ := h
  refine ⟨_, (pss_one (ps_ret (pe_call G_runs_of hr (by rfl) T.m_runs_of F_runs_of.kp b_runs_of .nil pass0 (pa_cons (pe_op op_cat (pe_callTy call_list_of (by rfl) T.list (by decide +kernel) (pa_cons (pv 0) pa_nil)) (pe_callTy call_list_of (by rfl) T.list (by decide +kernel) (pa_cons (pv 1) pa_nil))) pa_nil)))), ?_⟩
  refine ⟨_, rfl, a, _, rfl, .inr h1, fun x1 n1 => ?_⟩
  have N1 := same_new n1 (.lst (qs.map V.ref))
  refine ⟨_, rfl, b, _, rfl, .inr (SqT.sm N1 k1), fun x2 n2 => ?_⟩
  have N2 := same_new n2 (.lst (ps.map V.ref))
  have e1 := h2.len
  have e2 := k2.len
  refine ⟨x1, x2, _, _, rfl, rfl, N2 _ _ upd_same, upd_same, ?_, fun x3 n3 => ?_⟩
  · rw [List.length_map, List.length_map]
    exact Nat.le_trans (show _ ≤ 10000 by omega) (by decide)
  have N3 := same_new n3 (.lst (qs.map V.ref ++ ps.map V.ref))
  have N := N1.trans (N2.trans N3)
  refine ⟨x3, qs ++ ps, rs ++ ts, rfl, by rw [List.map_append]; exact SqL.of upd_same, Prd.app (Prd.same N h2) (Prd.same N k2), by rw [List.length_append]; omega, fun t us H4 S4 n4 h4 g4 => ?_⟩
  exact q t us H4 (N.trans S4) (N.free n4) h4 g4

theorem ok_both (F : Fun K "both" "both" s_both f_both d_both) (T : Txt mg f_is_apart f_runs_of f_many_in f_named_by_voids f_counted_bags f_standing_of f_pages_that_are f_counted_pages f_all_steps f_together f_both f_less f_what_is_left f_add_gap f_gaps f_ltape f_ldraw f_loffice f_lnames f_lruns f_lfield f_ldeed f_lbook f_ltold f_lof f_lrows f_ldue f_law) :
    FnOk P w K mg base CX0 (1) f_both d_both ["one", "other"] (spTwo K bothL) := by
  refine F.ok sc_both (fun vs H Q E h => ?_) (fun cdv A outer s H vs Q E hr h => ?_)

  · obtain ⟨a, b, rs, ts, rfl, _⟩ := h
    rfl
  obtain ⟨a, b, rs, ts, rfl, ⟨qs, h1, h2⟩, ⟨ps, k1, k2⟩, l1, l2, q⟩ := h
  refine ⟨_, (pss_cons (ps_set (i := 2) sc_both.nd rfl (.inl rfl) (pe_lst pa_nil))
  (pss_cons (ps_set (i := 3) sc_both.nd rfl (.inl rfl) pe_int)
  (pss_cons (ps_set (i := 4) sc_both.nd rfl (.inl rfl) pe_int)
  (pss_cons (ps_while PassesOwn.never (PW.pt (pw_and (pt_cmpR op_lt (pv 3) (pe_callB call_len_seq (by rfl) T.len (by decide +kernel) (pa_cons (pv 0) pa_nil)) (nomark _)) (pw_and1 (pt_cmpR op_lt (pv 4) (pe_callB call_len_seq (by rfl) T.len (by decide +kernel) (pa_cons (pv 1) pa_nil)) (nomark _)))))
  (pss_cons (ps_asg (pe_ix ix_tup (pv 0) (pv 3) (fun _ _ => rfl)) (pg_tup rfl (pgs_cons (pg_name (i := 5) sc_both.nd rfl (.inl rfl)) (pgs_cons (pg_name (i := 6) sc_both.nd rfl (.inl rfl)) (pgs_cons (pg_name (i := 7) sc_both.nd rfl (.inl rfl)) pgs_nil)))))
  (pss_cons (ps_asg (pe_ix ix_tup (pv 1) (pv 4) (fun _ _ => rfl)) (pg_tup rfl (pgs_cons (pg_name (i := 8) sc_both.nd rfl (.inl rfl)) (pgs_cons (pg_name (i := 9) sc_both.nd rfl (.inl rfl)) (pgs_cons (pg_name (i := 10) sc_both.nd rfl (.inl rfl)) pgs_nil)))))
  (C8.pss_cut (ps_if (PW.pt (pw_and (pt_cmpR op_eq (pv 5) (pv 8) (nomark _)) (pw_and1 (pt_cmpR op_lt (pe_callB (call_max2 rfl) (by rfl) T.max (by decide +kernel) (pa_cons (pv 6) (pa_cons (pv 9) pa_nil))) (pe_callB (call_min2 rfl) (by rfl) T.min (by decide +kernel) (pa_cons (pv 7) (pa_cons (pv 10) pa_nil))) (nomark _)))))
  (pss_one (ps_expr (pe_bm PySem.F.plainAttrs_list PySem.F.slot_list_append PySem.F.type_list_append mt_append (pv 2) (pa_cons (pe_tup (pa_cons (pv 5) (pa_cons (pe_callB (call_max2 rfl) (by rfl) T.max (by decide +kernel) (pa_cons (pv 6) (pa_cons (pv 9) pa_nil))) (pa_cons (pe_callB (call_min2 rfl) (by rfl) T.min (by decide +kernel) (pa_cons (pv 7) (pa_cons (pv 10) pa_nil))) pa_nil)))) pa_nil))))
  pss_nil)
  (pss_one (ps_if (pt_cmpR (op_leP hr) (pe_tup (pa_cons (pv 5) (pa_cons (pv 7) pa_nil))) (pe_tup (pa_cons (pv 8) (pa_cons (pv 10) pa_nil))) (nomark _))
  (pss_one (ps_aug (i := 3) sc_both.nd rfl (.inl rfl) pe_int ip_add))
  (pss_one (ps_aug (i := 4) sc_both.nd rfl (.inl rfl) pe_int ip_add))))))))
  (pss_one (ps_ret (pe_callTy call_tuple_of (by rfl) T.tuple (by decide +kernel) (pa_cons (pv 2) pa_nil)))))))), ?_⟩
  have e1 := h2.len
  have e2 := k2.len
  have bl := both_len rs ts
  refine ⟨(show 0 ≤ sizeLine by decide), fun F hF => ?_⟩
  refine ⟨fun m σ H' => ∃ (i j : Nat) (fs : List Addr) (M : List Rn) (v5 v6 v7 v8 v9 v10 : Option V), σ = [some (.ref a), some (.ref b), some (.ref F), some (.int i), some (.int j), v5, v6, v7, v8, v9, v10] ∧ m = (rs.length - i) + (ts.length - j) ∧ Same H H' ∧ H' F = some (.lst (fs.map V.ref)) ∧ Prd H' fs M ∧ M ++ bothL (rs.drop i) (ts.drop j) = bothL rs ts,
    ⟨_, 0, 0, [], [], _, _, _, _, _, _, rfl, rfl, same_new hF _, upd_same, .nil, rfl⟩, ?_⟩
  rintro m σ H1 ⟨i, j, fs, M, v5, v6, v7, v8, v9, v10, rfl, rfl, S1, hF1, hp1, eM⟩
  have fin : ∀ L : List Rn, bothL (rs.drop i) (ts.drop j) = [] → ∀ t, H1 t = none → Q (.ref t) (upd H1 t (.tup (fs.map V.ref))) := fun _ e t ht => by
    rw [e, List.append_nil] at eM
    exact q t fs _ (S1.trans (same_new ht _)) (S1.free ht) upd_same (by rw [← eM]; exact Prd.same (same_new ht _) hp1)
  have q1 := SqT.sm S1 h1
  have q2 := SqT.sm S1 k1
  refine ⟨_, rfl, _, rfl, a, _, rfl, .inr q1, _, _, rfl, rfl, _, rfl, ?_⟩
  refine ite2 (fun c1 => ?_) (fun c1 => ?_)
  · have c1 := of_decide_eq_true c1
    rw [List.length_map, e1] at c1
    refine ⟨_, rfl, _, rfl, b, _, rfl, .inr q2, _, _, rfl, rfl, _, rfl, ?_⟩
    refine ite2 (fun c2 => ?_) (fun c2 => ?_)
    · have c2 := of_decide_eq_true c2
      rw [List.length_map, e2] at c2
      obtain ⟨p, x, at1, ex, hx⟩ := tp_at h2 (k := i) (by omega)
      obtain ⟨p', y, at2, ey, hy⟩ := tp_at k2 (k := j) (by omega)
      have d1 := drop_at ex
      have d2 := drop_at ey
      rw [d1, d2, both_cons] at eM
      refine ⟨fun σ' H' => ∃ m', m' < (rs.length - i) + (ts.length - j) ∧ ∃ (i j : Nat) (fs : List Addr) (M : List Rn) (v5 v6 v7 v8 v9 v10 : Option V), σ' = [some (.ref a), some (.ref b), some (.ref F), some (.int i), some (.int j), v5, v6, v7, v8, v9, v10] ∧ m' = (rs.length - i) + (ts.length - j) ∧ Same H H' ∧ H' F = some (.lst (fs.map V.ref)) ∧ Prd H' fs M ∧ M ++ bothL (rs.drop i) (ts.drop j) = bothL rs ts, fun σ' H' h => h, ?_⟩
      refine ⟨_, rfl, _, rfl, a, _, _, _, rfl, rfl, q1, at1, p, _, rfl, SqT.of (S1 _ _ hx), rfl, _, _, rfl, _, _, rfl, _, _, rfl, rfl, ?_⟩
      refine ⟨_, rfl, _, rfl, b, _, _, _, rfl, rfl, q2, at2, p', _, rfl, SqT.of (S1 _ _ hy), rfl, _, _, rfl, _, _, rfl, _, _, rfl, rfl, ?_⟩
      refine ⟨fun σ' H' => ∃ fs : List Addr, σ' = [some (.ref a), some (.ref b), some (.ref F), some (.int i), some (.int j), some (.str x.1), some (.int x.2.1), some (.int x.2.2), some (.str y.1), some (.int y.2.1), some (.int y.2.2)] ∧ Same H H' ∧ H' F = some (.lst (fs.map V.ref)) ∧ Prd H' fs (M ++ meet x y), ?_, ?_⟩
      · have none_ : ¬ (x.1 = y.1 ∧ mx x.2.1 y.2.1 < mn x.2.2 y.2.2) → Prd H1 fs (M ++ meet x y) := fun c => by
          have e : meet x y = [] := if_neg c
          rw [e, List.append_nil]
          exact hp1
        refine ⟨_, rfl, _, rfl, rfl, _, rfl, ?_⟩
        refine ite2 (fun c3 => ?_) (fun c3 => ?_)
        · refine ⟨_, rfl, _, rfl, _, _, rfl, _, rfl, _, rfl, _, _, rfl, _, _, rfl, rfl, _, rfl, ?_⟩
          refine ite2 (fun c4 => ?_) (fun c4 => ?_)
          · have c5 : x.1 = y.1 ∧ mx x.2.1 y.2.1 < mn x.2.2 y.2.2 := ⟨V.str.inj (of_decide_eq_true c3), of_decide_eq_true c4⟩
            have e : meet x y = [(x.1, mx x.2.1 y.2.1, mn x.2.2 y.2.2)] := if_pos c5
            refine ⟨_, rfl, .inl ⟨rfl, _, SqL.of hF1⟩, _, rfl, _, rfl, _, rfl, _, _, rfl, _, rfl, _, rfl, _, _, rfl, (show 3 ≤ sizeLine by decide), fun t ht => ?_⟩
            have nx := same_new ht (.tup (rnV (x.1, mx x.2.1 y.2.1, mn x.2.2 y.2.2)))
            refine ⟨F, _, _, rfl, rfl, nx _ _ hF1, ?_, fs ++ [t], rfl, same_mut (S1.trans nx) hF, ?_, ?_⟩
            · rw [List.length_map, hp1.len]
              have z := congrArg List.length eM
              rw [List.length_append] at z
              exact Nat.lt_of_le_of_lt (show _ ≤ 10000 by omega) (by decide)
            · rw [upd_same, List.map_append]
              rfl
            · rw [e]
              exact Prd.put (nx _ _ hF1) (Prd.app (Prd.same nx hp1) (Prd.one upd_same))
          · exact ⟨fs, rfl, S1, hF1, none_ fun z => c4 (decide_eq_true z.2)⟩
        · exact ⟨fs, rfl, S1, hF1, none_ fun z => c3 (decide_eq_true (congrArg V.str z.1))⟩
      · rintro σ' H2 ⟨gs, rfl, S2, hF2, hp2⟩
        refine ⟨_, rfl, _, rfl, (show 2 ≤ sizeLine by decide), fun t1 n1 => ⟨_, rfl, _, rfl, (show 2 ≤ sizeLine by decide), fun t2 n2 => ?_⟩⟩
        have N1 := same_new n1 (.tup [.str x.1, .int x.2.2])
        have N2 := same_new n2 (.tup [.str y.1, .int y.2.2])
        have N := N1.trans N2
        refine ⟨t1, t2, _, _, _, _, rfl, rfl, SqT.of (N2 _ _ upd_same), SqT.of upd_same, _, rfl, ?_⟩
        refine ite2 (fun c3 => ?_) (fun c3 => ?_)
        · rw [if_pos c3] at eM
          refine ⟨_, rfl, _, _, rfl, rfl, _, ?_, i + 1, j, gs, M ++ meet x y, _, _, _, _, _, _, rfl, rfl, S2.trans N, N _ _ hF2, Prd.same N hp2, ?_⟩
          · omega
          · rw [d2, List.append_assoc]
            exact eM
        · rw [if_neg c3] at eM
          refine ⟨_, rfl, _, _, rfl, rfl, _, ?_, i, j + 1, gs, M ++ meet x y, _, _, _, _, _, _, rfl, rfl, S2.trans N, N _ _ hF2, Prd.same N hp2, ?_⟩
          · omega
          · rw [d1, List.append_assoc]
            exact eM
    · have c3 : ts.length ≤ j := by
        rw [decide_eq_true_eq, List.length_map, e2] at c2
        omega
      refine ⟨_, rfl, F, _, rfl, .inl ⟨SqL.of hF1, fin [] (by rw [drop_end c3, both_nil2])⟩⟩
  · have c3 : rs.length ≤ i := by
      rw [decide_eq_true_eq, List.length_map, e1] at c1
      omega
    refine ⟨_, rfl, F, _, rfl, .inl ⟨SqL.of hF1, fin [] (by rw [drop_end c3, both_nil])⟩⟩

theorem ok_what_is_left (F : Fun K "what_is_left" "what_is_left" s_what_is_left f_what_is_left d_what_is_left) (T : Txt mg f_is_apart f_runs_of f_many_in f_named_by_voids f_counted_bags f_standing_of f_pages_that_are f_counted_pages f_all_steps f_together f_both f_less f_what_is_left f_add_gap f_gaps f_ltape f_ldraw f_loffice f_lnames f_lruns f_lfield f_ldeed f_lbook f_ltold f_lof f_lrows f_ldue f_law) :
    FnOk P w K mg base CX0 (1) f_what_is_left d_what_is_left ["run", "other", "at"] (spLeft K) := by
  refine F.ok sc_what_is_left (fun vs H Q E h => ?_) (fun cdv A outer s H vs Q E hr h => ?_)

  · obtain ⟨x, b, k, r, ts, rfl, _⟩ := h
    rfl
  obtain ⟨x, b, k, r, ts, rfl, hx, ⟨ps, k1, k2⟩, l2, kl, q⟩ := h
  refine ⟨_, (pss_cons (ps_asg (pv 0) (pg_tup rfl (pgs_cons (pg_name (i := 3) sc_what_is_left.nd rfl (.inl rfl)) (pgs_cons (pg_name (i := 4) sc_what_is_left.nd rfl (.inl rfl)) (pgs_cons (pg_name (i := 5) sc_what_is_left.nd rfl (.inl rfl)) pgs_nil)))))
  (pss_cons (ps_set (i := 6) sc_what_is_left.nd rfl (.inl rfl) (pe_lst pa_nil))
  (C8.pss_cut (ps_while PassesOwn.never (PW.pt (pw_and (pt_cmpR op_lt (pv 2) (pe_callB call_len_seq (by rfl) T.len (by decide +kernel) (pa_cons (pv 1) pa_nil)) (nomark _)) (pw_and (pt_cmpR op_eq (pe_ix ix_tup (pe_ix ix_tup (pv 1) (pv 2) (fun _ _ => rfl)) pe_int (fun _ _ => rfl)) (pv 3) (nomark _)) (pw_and1 (pt_cmpR op_lt (pe_ix ix_tup (pe_ix ix_tup (pv 1) (pv 2) (fun _ _ => rfl)) pe_int (fun _ _ => rfl)) (pv 5) (nomark _))))))
  (C8.pss_cut (ps_if (pt_cmpR op_lt (pv 4) (pe_ix ix_tup (pe_ix ix_tup (pv 1) (pv 2) (fun _ _ => rfl)) pe_int (fun _ _ => rfl)) (nomark _))
  (pss_one (ps_expr (pe_bm PySem.F.plainAttrs_list PySem.F.slot_list_append PySem.F.type_list_append mt_append (pv 6) (pa_cons (pe_tup (pa_cons (pv 3) (pa_cons (pv 4) (pa_cons (pe_ix ix_tup (pe_ix ix_tup (pv 1) (pv 2) (fun _ _ => rfl)) pe_int (fun _ _ => rfl)) pa_nil)))) pa_nil))))
  pss_nil)
  (pss_cons (ps_set (i := 4) sc_what_is_left.nd rfl (.inl rfl) (pe_ix ix_tup (pe_ix ix_tup (pv 1) (pv 2) (fun _ _ => rfl)) pe_int (fun _ _ => rfl)))
  (pss_one (ps_aug (i := 2) sc_what_is_left.nd rfl (.inl rfl) pe_int ip_add)))))
  (pss_cons (ps_if (pt_cmpR op_lt (pv 4) (pv 5) (nomark _))
  (pss_one (ps_expr (pe_bm PySem.F.plainAttrs_list PySem.F.slot_list_append PySem.F.type_list_append mt_append (pv 6) (pa_cons (pe_tup (pa_cons (pv 3) (pa_cons (pv 4) (pa_cons (pv 5) pa_nil)))) pa_nil))))
  pss_nil)
  (pss_one (ps_ret (pv 6))))))), ?_⟩
  have e2 := k2.len
  refine ⟨_, rfl, x, _, rfl, SqT.of hx, rfl, _, _, rfl, _, _, rfl, _, _, rfl, rfl, ?_⟩
  refine ⟨(show 0 ≤ sizeLine by decide), fun F hF => ?_⟩
  have ll := left_len r.1 r.2.2 (ts.drop k) r.2.1
  rw [List.length_drop] at ll
  refine ⟨fun σ H' => ∃ (j : Nat) (lo : Int) (fs : List Addr) (M : List Rn), σ = [some (.ref x), some (.ref b), some (.int j), some (.str r.1), some (.int lo), some (.int r.2.2), some (.ref F)] ∧ Same H H' ∧ H' F = some (.lst (fs.map V.ref)) ∧ Prd H' fs M ∧ M ++ tailL r.1 lo r.2.2 = leftL r.1 r.2.2 r.2.1 (ts.drop k), ?_, ?_⟩
  · refine ⟨fun m σ H' => ∃ (j : Nat) (lo : Int) (fs : List Addr) (M : List Rn), σ = [some (.ref x), some (.ref b), some (.int j), some (.str r.1), some (.int lo), some (.int r.2.2), some (.ref F)] ∧ m = ts.length - j ∧ Same H H' ∧ H' F = some (.lst (fs.map V.ref)) ∧ Prd H' fs M ∧ M ++ leftL r.1 r.2.2 lo (ts.drop j) = leftL r.1 r.2.2 r.2.1 (ts.drop k),
      ⟨_, k, r.2.1, [], [], rfl, rfl, same_new hF _, upd_same, .nil, rfl⟩, ?_⟩
    rintro m σ H1 ⟨j, lo, fs, M, rfl, rfl, S1, hF1, hp1, eM⟩
    have q2 := SqT.sm S1 k1
    have flen2 : (fs.map V.ref).length < sizeLine := by
      have z := congrArg List.length eM
      rw [List.length_append] at z
      rw [List.length_map, hp1.len]
      exact Nat.lt_trans (show _ < 10000 by omega) (by decide)
    refine ⟨_, rfl, _, rfl, b, _, rfl, .inr q2, _, _, rfl, rfl, _, rfl, ?_⟩
    refine ite2 (fun c1 => ?_) (fun c1 => ?_)
    · have c1 := of_decide_eq_true c1
      rw [List.length_map, e2] at c1
      obtain ⟨p, o, at1, eo, ho⟩ := tp_at k2 (k := j) (by omega)
      have ho1 := SqT.of (K := K) (S1 _ _ ho)
      have d1 := drop_at eo
      rw [d1] at eM
      refine ⟨_, rfl, _, rfl, b, _, _, _, rfl, rfl, q2, at1, p, _, _, _, rfl, rfl, ho1, rfl, _, rfl, rfl, _, rfl, ?_⟩
      refine ite2 (fun c2 => ?_) (fun c2 => ?_)
      · refine ⟨_, rfl, _, rfl, b, _, _, _, rfl, rfl, q2, at1, p, _, _, _, rfl, rfl, ho1, rfl, _, rfl, _, _, rfl, rfl, _, rfl, ?_⟩
        refine ite2 (fun c3 => ?_) (fun c3 => ?_)
        · have c4 : o.1 = r.1 ∧ o.2.1 < r.2.2 := ⟨V.str.inj (of_decide_eq_true c2), of_decide_eq_true c3⟩
          have el : leftL r.1 r.2.2 lo (o :: ts.drop (j + 1)) = tailL r.1 lo o.2.1 ++ leftL r.1 r.2.2 o.2.2 (ts.drop (j + 1)) := if_pos c4
          rw [el] at eM
          refine ⟨fun σ' H' => ∃ m', m' < ts.length - j ∧ ∃ (j : Nat) (lo : Int) (fs : List Addr) (M : List Rn), σ' = [some (.ref x), some (.ref b), some (.int j), some (.str r.1), some (.int lo), some (.int r.2.2), some (.ref F)] ∧ m' = ts.length - j ∧ Same H H' ∧ H' F = some (.lst (fs.map V.ref)) ∧ Prd H' fs M ∧ M ++ leftL r.1 r.2.2 lo (ts.drop j) = leftL r.1 r.2.2 r.2.1 (ts.drop k), fun σ' H' h => h, ?_⟩
          refine ⟨fun σ' H' => ∃ fs : List Addr, σ' = [some (.ref x), some (.ref b), some (.int j), some (.str r.1), some (.int lo), some (.int r.2.2), some (.ref F)] ∧ Same H H' ∧ H' F = some (.lst (fs.map V.ref)) ∧ Prd H' fs (M ++ tailL r.1 lo o.2.1) ∧ H' p = some (.tup (rnV o)) ∧ SqT K H' b (ps.map V.ref), ?_, ?_⟩
          · refine ⟨_, rfl, _, rfl, _, rfl, b, _, _, _, rfl, rfl, q2, at1, p, _, _, _, rfl, rfl, ho1, rfl, _, _, rfl, rfl, _, rfl, ?_⟩
            refine ite2 (fun c5 => ?_) (fun c5 => ?_)
            · have e : tailL r.1 lo o.2.1 = [(r.1, lo, o.2.1)] := if_pos (of_decide_eq_true c5)
              refine ⟨_, rfl, .inl ⟨rfl, _, SqL.of hF1⟩, _, rfl, _, rfl, _, rfl, _, rfl, b, _, _, _, rfl, rfl, q2, at1, p, _, _, _, rfl, rfl, ho1, rfl, (show 3 ≤ sizeLine by decide), fun t ht => ?_⟩
              have nx := same_new ht (.tup (rnV (r.1, lo, o.2.1)))
              refine ⟨F, _, _, rfl, rfl, nx _ _ hF1, flen2, fs ++ [t], rfl, same_mut (S1.trans nx) hF, ?_, ?_, ?_, SqT.sm (same_mut (S1.trans nx) hF) k1⟩
              · rw [upd_same, List.map_append]
                rfl
              · rw [e]
                exact Prd.put (nx _ _ hF1) (Prd.app (Prd.same nx hp1) (Prd.one upd_same))
              · exact (same_mut (S1.trans nx) hF) _ _ ho
            · have e : tailL r.1 lo o.2.1 = [] := if_neg fun z => c5 (decide_eq_true z)
              exact ⟨fs, rfl, S1, hF1, by rw [e, List.append_nil]; exact hp1, S1 _ _ ho, q2⟩
          · rintro σ' H2 ⟨gs, rfl, S2, hF2, hp2, ho2, q3⟩
            refine ⟨_, rfl, _, rfl, b, _, _, _, rfl, rfl, q3, at1, p, _, _, _, rfl, rfl, SqT.of ho2, rfl, ?_⟩
            refine ⟨_, rfl, _, _, rfl, rfl, _, ?_, j + 1, o.2.2, gs, M ++ tailL r.1 lo o.2.1, rfl, rfl, S2, hF2, hp2, ?_⟩
            · omega
            · rw [List.append_assoc]
              exact eM
        · have el : leftL r.1 r.2.2 lo (o :: ts.drop (j + 1)) = tailL r.1 lo r.2.2 := if_neg fun z => c3 (decide_eq_true z.2)
          rw [el] at eM
          exact ⟨j, lo, fs, M, rfl, S1, hF1, hp1, eM⟩
      · have el : leftL r.1 r.2.2 lo (o :: ts.drop (j + 1)) = tailL r.1 lo r.2.2 := if_neg fun z => c2 (decide_eq_true (congrArg V.str z.1))
        rw [el] at eM
        exact ⟨j, lo, fs, M, rfl, S1, hF1, hp1, eM⟩
    · have c3 : ts.length ≤ j := by
        rw [decide_eq_true_eq, List.length_map, e2] at c1
        omega
      rw [drop_end c3] at eM
      exact ⟨j, lo, fs, M, rfl, S1, hF1, hp1, eM⟩
  · rintro σ H1 ⟨j, lo, fs, M, rfl, S1, hF1, hp1, eM⟩
    refine ⟨_, rfl, _, rfl, _, _, rfl, rfl, _, rfl, ?_⟩
    refine ite2 (fun c1 => ?_) (fun c1 => ?_)
    · have e : tailL r.1 lo r.2.2 = [(r.1, lo, r.2.2)] := if_pos (of_decide_eq_true c1)
      rw [e] at eM
      refine ⟨_, rfl, .inl ⟨rfl, _, SqL.of hF1⟩, _, rfl, _, rfl, _, rfl, (show 3 ≤ sizeLine by decide), fun t ht => ?_⟩
      have nx := same_new ht (.tup (rnV (r.1, lo, r.2.2)))
      refine ⟨F, _, _, rfl, rfl, nx _ _ hF1, ?_, _, rfl, ?_⟩
      · have z := congrArg List.length eM
        rw [List.length_append] at z
        rw [List.length_map, hp1.len]
        exact Nat.lt_trans (show _ < 10000 by omega) (by decide)
      · refine q F (fs ++ [t]) _ (same_mut (S1.trans nx) hF) hF ?_ ?_
        · rw [upd_same, List.map_append]
          rfl
        · rw [← eM]
          exact Prd.put (nx _ _ hF1) (Prd.app (Prd.same nx hp1) (Prd.one upd_same))
    · have e : tailL r.1 lo r.2.2 = [] := if_neg fun z => c1 (decide_eq_true z)
      rw [e, List.append_nil] at eM
      exact ⟨_, rfl, q F fs H1 S1 hF hF1 (by rw [← eM]; exact hp1)⟩

theorem ok_less (F : Fun K "less" "less" s_less f_less d_less) (T : Txt mg f_is_apart f_runs_of f_many_in f_named_by_voids f_counted_bags f_standing_of f_pages_that_are f_counted_pages f_all_steps f_together f_both f_less f_what_is_left f_add_gap f_gaps f_ltape f_ldraw f_loffice f_lnames f_lruns f_lfield f_ldeed f_lbook f_ltold f_lof f_lrows f_ldue f_law)
    (F_what_is_left : Fun K "what_is_left" "what_is_left" s_what_is_left f_what_is_left d_what_is_left) (b_what_is_left : Binds K d_what_is_left ["run", "other", "at"] []) (G_what_is_left : FnOk P w K mg base CX0 (1) f_what_is_left d_what_is_left ["run", "other", "at"] (spLeft K)) :
    FnOk P w K mg base CX0 (2) f_less d_less ["one", "other"] (spTwo K lessL) := by
  refine F.ok sc_less (fun vs H Q E h => ?_) (fun cdv A outer s H vs Q E hr h => ?_)

  · obtain ⟨a, b, rs, ts, rfl, _⟩ := h
    rfl
  obtain ⟨a, b, rs, ts, rfl, ⟨qs, h1, h2⟩, ⟨ps, k1, k2⟩, l1, l2, q⟩ := h
  refine ⟨_, (pss_cons (ps_set (i := 2) sc_less.nd rfl (.inl rfl) (pe_lst pa_nil))
  (pss_cons (ps_set (i := 3) sc_less.nd rfl (.inl rfl) pe_int)
  (pss_cons (ps_for PassesOwn.never rfl (pi_tup (pv 0)) (pg_name (i := 4) sc_less.nd rfl (.inl rfl))
  (pss_cons (ps_asg (pv 4) (pg_tup rfl (pgs_cons (pg_name (i := 5) sc_less.nd rfl (.inl rfl)) (pgs_cons (pg_name (i := 6) sc_less.nd rfl (.inl rfl)) (pgs_cons (pg_name (i := 7) sc_less.nd rfl (.inl rfl)) pgs_nil)))))
  (C8.pss_cut (ps_while PassesOwn.never (PW.pt (pw_and (pt_cmpR op_lt (pv 3) (pe_callB call_len_seq (by rfl) T.len (by decide +kernel) (pa_cons (pv 1) pa_nil)) (nomark _)) (pw_and1 (pt_cmpR (op_leP hr) (pe_tup (pa_cons (pe_ix ix_tup (pe_ix ix_tup (pv 1) (pv 3) (fun _ _ => rfl)) pe_int (fun _ _ => rfl)) (pa_cons (pe_ix ix_tup (pe_ix ix_tup (pv 1) (pv 3) (fun _ _ => rfl)) pe_int (fun _ _ => rfl)) pa_nil))) (pe_tup (pa_cons (pv 5) (pa_cons (pv 6) pa_nil))) (nomark _)))))
  (pss_one (ps_aug (i := 3) sc_less.nd rfl (.inl rfl) pe_int ip_add)))
  (pss_one (ps_expr (pe_bm PySem.F.plainAttrs_list PySem.F.slot_list_extend PySem.F.type_list_extend mt_extend (pv 2) (pa_cons (pe_call G_what_is_left hr (by rfl) T.m_what_is_left F_what_is_left.kp b_what_is_left .nil pass0 (pa_cons (pv 4) (pa_cons (pv 1) (pa_cons (pv 3) pa_nil)))) pa_nil)))))))
  (pss_one (ps_ret (pe_callTy call_tuple_of (by rfl) T.tuple (by decide +kernel) (pa_cons (pv 2) pa_nil))))))), ?_⟩
  have e1 := h2.len
  have e2 := k2.len
  have ll := less_len rs ts
  have lm : rs.length * (ts.length + 1) ≤ 3000 * 3001 := Nat.mul_le_mul l1 (by omega)
  refine ⟨(show 0 ≤ sizeLine by decide), fun F hF => ?_⟩
  refine ⟨_, rfl, a, rfl, ⟨_, SqT.sm (same_new hF _) h1⟩, ?_⟩
  refine for_tup (K := K) (a := a) (xs := qs.map V.ref) (fun i σ H' => ∃ (k : Nat) (fs : List Addr) (M : List Rn) (v4 v5 v6 v7 : Option V), σ = [some (.ref a), some (.ref b), some (.ref F), some (.int k), v4, v5, v6, v7] ∧ Same H H' ∧ H' F = some (.lst (fs.map V.ref)) ∧ Prd H' fs M ∧ k ≤ ts.length ∧ M ++ lessL (rs.drop i) (ts.drop k) = lessL rs ts) ?_ ?_ ?_ ?_
  · exact ⟨0, [], [], _, _, _, _, rfl, same_new hF _, upd_same, .nil, Nat.zero_le _, rfl⟩
  · rintro i σ H' _ ⟨_, _, _, _, _, _, _, _, S, _⟩
    exact SqT.sm S h1
  · rintro i y σ H1 hy ⟨k, fs, M, v4, v5, v6, v7, rfl, S1, hF1, hp1, kl, eM⟩
    obtain ⟨u, hu, rfl⟩ : ∃ u, qs[i]? = some u ∧ y = V.ref u := by
      rw [List.getElem?_map] at hy
      cases e : qs[i]? with
      | none => rw [e] at hy; cases hy
      | some p => rw [e] at hy; exact ⟨p, rfl, (Option.some.inj hy).symm⟩
    obtain ⟨x, hx1, hx2⟩ := Prd.get h2 hu
    have d1 := drop_at hx1
    rw [d1] at eM
    have eM : M ++ (leftL x.1 x.2.2 x.2.1 (skipL x.1 x.2.1 (ts.drop k)) ++ lessL (rs.drop (i + 1)) (skipL x.1 x.2.1 (ts.drop k))) = lessL rs ts := eM
    refine ⟨_, rfl, u, _, rfl, SqT.of (S1 _ _ hx2), rfl, _, _, rfl, _, _, rfl, _, _, rfl, rfl, ?_⟩
    refine ⟨fun σ H' => ∃ k' : Nat, σ = [some (.ref a), some (.ref b), some (.ref F), some (.int k'), some (.ref u), some (.str x.1), some (.int x.2.1), some (.int x.2.2)] ∧ Same H1 H' ∧ k' ≤ ts.length ∧ ts.drop k' = skipL x.1 x.2.1 (ts.drop k), ?_, ?_⟩
    · refine ⟨fun m σ H' => ∃ k' : Nat, σ = [some (.ref a), some (.ref b), some (.ref F), some (.int k'), some (.ref u), some (.str x.1), some (.int x.2.1), some (.int x.2.2)] ∧ m = ts.length - k' ∧ Same H1 H' ∧ k' ≤ ts.length ∧ skipL x.1 x.2.1 (ts.drop k') = skipL x.1 x.2.1 (ts.drop k), ⟨_, k, rfl, rfl, Same.refl _, kl, rfl⟩, ?_⟩
      rintro m σ H2 ⟨j, rfl, rfl, S2, jl, eS⟩
      have q2 := SqT.sm (S1.trans S2) k1
      refine ⟨_, rfl, _, rfl, b, _, rfl, .inr q2, _, _, rfl, rfl, _, rfl, ?_⟩
      refine ite2 (fun c1 => ?_) (fun c1 => ?_)
      · have c1 := of_decide_eq_true c1
        rw [List.length_map, e2] at c1
        obtain ⟨p, o, at1, eo, ho⟩ := tp_at k2 (k := j) (by omega)
        have ho1 := (S1.trans S2) _ _ ho
        have d2 := drop_at eo
        refine ⟨_, rfl, _, rfl, b, _, _, _, rfl, rfl, q2, at1, p, _, _, _, rfl, rfl, SqT.of ho1, rfl, _, rfl, _, rfl, b, _, _, _, rfl, rfl, q2, at1, p, _, _, _, rfl, rfl, SqT.of ho1, rfl, (show 2 ≤ sizeLine by decide), fun t1 n1 => ⟨_, rfl, _, rfl, (show 2 ≤ sizeLine by decide), fun t2 n2 => ?_⟩⟩
        have N1 := same_new n1 (.tup [.str o.1, .int o.2.2])
        have N2 := same_new n2 (.tup [.str x.1, .int x.2.1])
        have N := N1.trans N2
        refine ⟨t1, t2, _, _, _, _, rfl, rfl, SqT.of (N2 _ _ upd_same), SqT.of upd_same, _, rfl, ?_⟩
        rw [d2] at eS
        refine ite2 (fun c3 => ?_) (fun c3 => ?_)
        · have es : skipL x.1 x.2.1 (o :: ts.drop (j + 1)) = skipL x.1 x.2.1 (ts.drop (j + 1)) := by
            unfold skipL
            rw [List.dropWhile_cons, if_pos c3]
          rw [es] at eS
          refine ⟨fun σ' H' => ∃ m', m' < ts.length - j ∧ ∃ k' : Nat, σ' = [some (.ref a), some (.ref b), some (.ref F), some (.int k'), some (.ref u), some (.str x.1), some (.int x.2.1), some (.int x.2.2)] ∧ m' = ts.length - k' ∧ Same H1 H' ∧ k' ≤ ts.length ∧ skipL x.1 x.2.1 (ts.drop k') = skipL x.1 x.2.1 (ts.drop k), fun σ' H' h => h, ?_⟩
          exact ⟨_, rfl, _, _, rfl, rfl, _, (show ts.length - (j + 1) < ts.length - j by omega), j + 1, rfl, rfl, S2.trans N, (by omega), eS⟩
        · have es : skipL x.1 x.2.1 (o :: ts.drop (j + 1)) = o :: ts.drop (j + 1) := by
            unfold skipL
            rw [List.dropWhile_cons, if_neg c3]
          rw [es, ← d2] at eS
          exact ⟨j, rfl, S2.trans N, jl, eS⟩
      · have c3 : ts.length ≤ j := by
          rw [decide_eq_true_eq, List.length_map, e2] at c1
          omega
        rw [drop_end c3] at eS
        exact ⟨j, rfl, S2, jl, by rw [drop_end c3]; exact eS⟩
    · rintro σ H2 ⟨j, rfl, S2, jl, eS⟩
      rw [← eS] at eM
      have S12 := S1.trans S2
      refine ⟨_, rfl, .inl ⟨rfl, _, SqL.of (S2 _ _ hF1)⟩, _, rfl, _, rfl, _, rfl, u, b, j, x, ts, rfl, S12 _ _ hx2, ⟨ps, SqT.sm S12 k1, Prd.same S12 k2⟩, l2, jl, fun t gs H3 S3 n3 h3 g3 => ?_⟩
      have hF3 := S3 _ _ (S2 _ _ hF1)
      have S23 := S2.trans S3
      refine ⟨F, t, _, _, rfl, rfl, hF3, h3, ?_, j, fs ++ gs, M ++ leftL x.1 x.2.2 x.2.1 (ts.drop j), _, _, _, _, rfl, same_mut (S1.trans S23) hF, ?_, ?_, jl, ?_⟩
      · rw [List.length_map, List.length_map, hp1.len, g3.len]
        have z := congrArg List.length eM
        rw [List.length_append, List.length_append] at z
        exact Nat.le_trans (show _ ≤ 10000000 by omega) (by decide)
      · rw [upd_same, List.map_append]
      · exact Prd.put hF3 (Prd.app (Prd.same S23 hp1) g3)
      · rw [List.append_assoc]
        exact eM
  · rintro σ H1 ⟨k, fs, M, v4, v5, v6, v7, rfl, S1, hF1, hp1, kl, eM⟩
    rw [List.length_map, e1, drop_end (Nat.le_refl _)] at eM
    have eM : M ++ [] = lessL rs ts := eM
    rw [List.append_nil] at eM
    refine ⟨_, rfl, F, _, rfl, .inl ⟨SqL.of hF1, fun t ht => ?_⟩⟩
    exact q t fs _ (S1.trans (same_new ht _)) (S1.free ht) upd_same (by rw [← eM]; exact Prd.same (same_new ht _) hp1)

theorem ok_add_gap (F : Fun K "add_gap" "add_gap" s_add_gap f_add_gap d_add_gap) (T : Txt mg f_is_apart f_runs_of f_many_in f_named_by_voids f_counted_bags f_standing_of f_pages_that_are f_counted_pages f_all_steps f_together f_both f_less f_what_is_left f_add_gap f_gaps f_ltape f_ldraw f_loffice f_lnames f_lruns f_lfield f_ldeed f_lbook f_ltold f_lof f_lrows f_ldue f_law) :
    FnOk P w K mg base CX0 (1) f_add_gap d_add_gap ["found", "one", "other", "many"] spAddGap := by
  refine F.ok sc_add_gap (fun vs H Q E h => ?_) (fun cdv A outer s H vs Q E hr h => ?_)

  · obtain ⟨f, a, b, m, kvs, es, φ, rfl, _⟩ := h
    rfl
  obtain ⟨f, a, b, m, kvs, es, φ, rfl, hf, gd, m0, kl, q⟩ := h
  refine ⟨_, (pss_one (ps_if (PW.pt (pw_and (pt_cmpR op_ne (pv 1) (pv 2) (nomark _)) (pw_and1 (pt_cmpR op_gt (pv 3) pe_int (nomark _)))))
  (pss_one (ps_dput (hu_of hr) (pv 0) (pe_tup (pa_cons (pv 1) (pa_cons (pv 2) pa_nil))) (pe_op op_add (pe_dget2 (hu_of hr) (pv 0) (pe_tup (pa_cons (pv 1) (pa_cons (pv 2) pa_nil))) pe_int ⟨rfl, rfl, rfl, rfl⟩) (pv 3)) rfl))
  pss_nil)), ?_⟩
  refine ⟨_, rfl, _, rfl, rfl, _, rfl, ite2 (fun c => ?_) (fun c => ?_)⟩
  · have ne : a ≠ b := fun z => by
      subst z
      simp at c
    refine ⟨_, rfl, _, _, rfl, rfl, _, rfl, ite2 (fun c2 => ?_) (fun c2 => ?_)⟩
    · have mp : 0 < m := of_decide_eq_true c2
      obtain ⟨es', gd'⟩ := gd.put (e := (a, b)) ne mp
      have g0 := gd.get (a, b)
      refine ⟨_, rfl, f, rfl, .inr ⟨_, .inl hf⟩, _, rfl, _, rfl, (show 2 ≤ sizeLine by decide), fun t ht => ?_⟩
      have Nt := same_new ht (.tup [.str a, .str b])
      have dg : DGet (upd H t (.tup [.str a, .str b])) f (.ref t) (valV kvs (edK (a, b))) := DGet.t (k := edK (a, b)) (Nt _ _ hf) upd_same
      refine ⟨_, dg, ?_⟩
      rw [g0]
      refine ⟨_, rfl, _, _, rfl, rfl, ?_⟩
      refine ⟨_, rfl, _, rfl, _, rfl, (show 2 ≤ sizeLine by decide), fun t2 ht2 => ?_⟩
      have Nt2 := same_new ht2 (.tup [.str a, .str b])
      have N2 := Nt.trans Nt2
      refine ⟨f, _, rfl, DPut.t (k := edK (a, b)) (N2 _ _ hf) upd_same (Nat.lt_of_le_of_lt kl (by decide)), ?_⟩
      exact q _ _ _ (fun x o n e => (upd_ne n).trans (N2 _ _ e)) upd_same gd' (length_putK _ _ _)
    · have me : m = 0 := by
        have : ¬ 0 < m := fun z => c2 (decide_eq_true z)
        omega
      subst me
      exact q kvs es H (But.refl _ _) hf (gd.cong fun x => addE_zero) (by omega)
  · have e : a = b := by
      by_cases z : a = b
      · exact z
      · exact absurd (by simp [z]) c
    subst e
    exact q kvs es H (But.refl _ _) hf (gd.cong fun x => addE_same rfl) (by omega)

theorem ok_gaps (F : Fun K "gaps" "gaps" s_gaps f_gaps d_gaps) (T : Txt mg f_is_apart f_runs_of f_many_in f_named_by_voids f_counted_bags f_standing_of f_pages_that_are f_counted_pages f_all_steps f_together f_both f_less f_what_is_left f_add_gap f_gaps f_ltape f_ldraw f_loffice f_lnames f_lruns f_lfield f_ldeed f_lbook f_ltold f_lof f_lrows f_ldue f_law)
    (F_all_steps : Fun K "all_steps" "all_steps" s_all_steps f_all_steps d_all_steps) (b_all_steps : Binds K d_all_steps ["book"] []) (G_all_steps : FnOk P w K mg base CX0 (7) f_all_steps d_all_steps ["book"] (spAllSY P_all_steps))
    (F_add_gap : Fun K "add_gap" "add_gap" s_add_gap f_add_gap d_add_gap) (b_add_gap : Binds K d_add_gap ["found", "one", "other", "many"] []) (G_add_gap : FnOk P w K mg base CX0 (7) f_add_gap d_add_gap ["found", "one", "other", "many"] spAddGap)
    (F_many_in : Fun K "many_in" "many_in" s_many_in f_many_in d_many_in) (b_many_in : Binds K d_many_in ["runs"] []) (G_many_in : FnOk P w K mg base CX0 (7) f_many_in d_many_in ["runs"] (spMany K P_many_in))
    (F_both : Fun K "both" "both" s_both f_both d_both) (b_both : Binds K d_both ["one", "other"] []) (G_both : FnOk P w K mg base CX0 (7) f_both d_both ["one", "other"] (spTwo K bothL))
    (F_less : Fun K "less" "less" s_less f_less d_less) (b_less : Binds K d_less ["one", "other"] []) (G_less : FnOk P w K mg base CX0 (7) f_less d_less ["one", "other"] (spTwo K lessL))
    (F_together : Fun K "together" "together" s_together f_together d_together) (b_together : Binds K d_together ["one", "other"] []) (G_together : FnOk P w K mg base CX0 (7) f_together d_together ["one", "other"] (spTwo K togL)) :
    FnOk P w K mg base CX0 (8) f_gaps d_gaps ["book"] (spGaps P_all_steps P_many_in) := by
  refine F.ok sc_gaps (fun vs H Q E h => ?_) (fun cdv A outer s H vs Q E hr h => ?_)

  · obtain ⟨b, ws, E1, base, wide, gs, rfl, _⟩ := h
    rfl
  obtain ⟨b, ws, E1, base, wide, gs, rfl, fl, wnd, wl, bf, bl, nd, dok, hT, hM, nMP, q⟩ := h
  refine ⟨_, (pss_cons (ps_set (i := 1) sc_gaps.nd rfl (.inr rfl) pe_dnewT)
  (pss_cons (ps_set (i := 2) sc_gaps.nd rfl (.inl rfl) pe_dnewK)
  (pss_cons (ps_for PassesOwn.never rfl (pi_list (pe_call G_all_steps hr (by rfl) T.m_all_steps F_all_steps.kp b_all_steps .nil pass0 (pa_cons (pv 0) pa_nil))) (pg_tup rfl (pgs_cons (pg_name (i := 3) sc_gaps.nd rfl (.inl rfl)) (pgs_cons (pg_name (i := 4) sc_gaps.nd rfl (.inl rfl)) (pgs_cons (pg_name (i := 5) sc_gaps.nd rfl (.inl rfl)) (pgs_cons (pg_name (i := 6) sc_gaps.nd rfl (.inl rfl)) (pgs_cons (pg_name (i := 7) sc_gaps.nd rfl (.inl rfl)) pgs_nil))))))
  (pss_cons (ps_set (i := 8) sc_gaps.nd rfl (.inl rfl) (pv 7))
  (pss_cons (ps_for PassesOwn.never rfl (pi_list (pe_callTy (call_listD rfl) (by rfl) T.list (by decide +kernel) (pa_cons (pv 2) pa_nil))) (pg_name (i := 9) sc_gaps.nd rfl (.inl rfl))
  (pss_cons (ps_expr (pe_call G_add_gap hr (by rfl) T.m_add_gap F_add_gap.kp b_add_gap .nil pass0 (pa_cons (pv 1) (pa_cons (pv 9) (pa_cons (pv 4) (pa_cons (pe_call G_many_in hr (by rfl) T.m_many_in F_many_in.kp b_many_in .nil pass0 (pa_cons (pe_call G_both hr (by rfl) T.m_both F_both.kp b_both .nil pass0 (pa_cons (pe_dget (hu_of hr) (pv 2) (pv 9) (fun _ _ => rfl)) (pa_cons (pv 7) pa_nil))) pa_nil)) pa_nil))))))
  (pss_cons (ps_set (i := 8) sc_gaps.nd rfl (.inl rfl) (pe_call G_less hr (by rfl) T.m_less F_less.kp b_less .nil pass0 (pa_cons (pv 8) (pa_cons (pe_dget (hu_of hr) (pv 2) (pv 9) (fun _ _ => rfl)) pa_nil))))
  (pss_one (ps_dput (hu_of hr) (pv 2) (pv 9) (pe_call G_less hr (by rfl) T.m_less F_less.kp b_less .nil pass0 (pa_cons (pe_dget (hu_of hr) (pv 2) (pv 9) (fun _ _ => rfl)) (pa_cons (pv 7) pa_nil))) rfl)))))
  (pss_cons (ps_expr (pe_call G_add_gap hr (by rfl) T.m_add_gap F_add_gap.kp b_add_gap .nil pass0 (pa_cons (pv 1) (pa_cons pe_str (pa_cons (pv 4) (pa_cons (pe_call G_many_in hr (by rfl) T.m_many_in F_many_in.kp b_many_in .nil pass0 (pa_cons (pv 8) pa_nil)) pa_nil))))))
  (pss_one (ps_dput (hu_of hr) (pv 2) (pv 5) (pe_call G_together hr (by rfl) T.m_together F_together.kp b_together .nil pass0 (pa_cons (pe_dget2 (hu_of hr) (pv 2) (pv 5) (pe_tup pa_nil) ⟨rfl, rfl, rfl, rfl⟩) (pa_cons (pv 7) pa_nil))) rfl))))))
  (pss_one (ps_ret (pe_callTy call_tuple_of (by rfl) T.tuple (by decide +kernel) (pa_cons (pe_lc (own := [("one", 10), ("other", 11)]) (g := (gTup K 2 (gCons (gName 10) (gCons (gName 11) gNil)))) (by rfl) sc_gaps.nd (pi_list (pe_callB (cr_sortDT hr rfl) (by rfl) T.sorted (by decide +kernel) (pa_cons (pv 1) pa_nil))) (blkOk_by (own := [("one", 10), ("other", 11)]) (N := ["book", "found", "told_at", "moment", "start", "end", "name", "runs", "fresh", "place", "one", "other"]) (sc := defScope s_gaps) (by decide +kernel)) (fun _ _ _ _ _ => (pg_tup rfl (pgs_cons (pg_name (i := 10) sc_gaps.nd rfl (.inl rfl)) (pgs_cons (pg_name (i := 11) sc_gaps.nd rfl (.inl rfl)) pgs_nil)))) (fun _ _ _ _ _ => pts_nil) (fun _ _ _ _ _ => (pe_tup (pa_cons (pv 10) (pa_cons (pv 11) (pa_cons (pe_dget (hu_of hr) (pv 1) (pe_tup (pa_cons (pv 10) (pa_cons (pv 11) pa_nil))) (fun _ _ => rfl)) pa_nil)))))) pa_nil))))))), ?_⟩
  intro F hF
  have NF := same_new hF (.dT [])
  intro T nT
  have NT := same_new nT (.dK [])
  have N2 := NF.trans NT
  have FT : F ≠ T := fun z => by rw [← z, upd_same] at nT; cases nT
  have w1 := fl.w1
  refine ⟨_, rfl, b, gs, rfl, BkF.y (bf.same N2), by omega, nd, hT.same N2, fun l ps H3 B3 T3 nl hl st => ?_⟩
  have nPF : F ≠ P_all_steps := by
    obtain ⟨φ, hP⟩ := hT.at
    intro z
    rw [← z, hF] at hP
    cases hP
  have nPT : T ≠ P_all_steps := by
    obtain ⟨φ, hP⟩ := (hT.same NF).at
    intro z
    rw [← z, nT] at hP
    cases hP
  have hF3 : H3 F = some (.dT []) := B3 _ _ nPF (NT _ _ upd_same)
  have hT3 : H3 T = some (.dK []) := B3 _ _ nPT upd_same
  have hM3 : H3 P_many_in = some (TabO P_many_in) := B3 _ _ nMP (N2 _ _ hM)
  have rin := fun x hx => rows_in nd dok (x := x) hx
  have sin : ∀ x ∈ sortS (rowsP gs), OnP (ws.map (·.1)) base wide x.2.2.2.2 := fun x hx => .of fl (rin x (List.mem_mergeSort.mp hx)).2
  have sl9 : (sortS (rowsP gs)).length ≤ 40 := by
    unfold sortS
    rw [List.length_mergeSort]
    exact Nat.le_trans (rowsP_len (Nat.le_refl _)) bl
  generalize hL : sortS (rowsP gs) = L at *
  have lenO : ∀ {rs : List Rn}, OnP (ws.map (·.1)) base wide rs → rs.length ≤ 64 := fun h => by
    have := h.len w1
    rw [List.length_map] at this
    omega
  have pl := paired_len st
  have tk2 : ∀ {Ha Hb : Hp}, Bt2 F T Ha Hb → (∃ k, Ha F = some (.dT k)) → (∃ k, Ha T = some (.dK k)) → Tk Ha Hb := fun hb ⟨k1, e1⟩ ⟨k2, e2⟩ a xs e => hb a _ (ne_of e e1 fun z => nomatch z) (ne_of e e2 fun z => nomatch z) e
  refine ⟨l, rfl, ⟨_, SqL.of hl⟩, ?_⟩
  refine for_list (K := K) (a := l) (xs := ps.map V.ref) (fun i σ H' => ∃ (kvs : List (List Key × V)) (es : List Ed) (kt : List (Key × V)) (ks : List Str) (v3 v4 v5 v6 v7 v8 v9 : Option V), σ = [some (.ref b), some (.ref F), some (.ref T), v3, v4, v5, v6, v7, v8, v9, none, none] ∧ Bt2 F T H3 H' ∧ H' F = some (.dT kvs) ∧ GapD kvs es (gapF ws base wide (L.take i)) ∧ kvs.length ≤ 41 * i ∧ H' T = some (.dK kt) ∧ ToldD H' kt ks (ws.map (·.1)) base wide (fun k s n => lastO ((L.take i).filter (chose s n)) = some k) ∧ (∀ x ∈ L.take i, x.2.2.1 ∈ ks) ∧ ks.length ≤ i) ⟨[], [], [], [], none, none, none, none, none, none, none, rfl, fun a o _ _ e => e, hF3, GapD.nil.cong fun x => ?_, Nat.zero_le _, hT3, ⟨rfl, List.nodup_nil, fun k h => nomatch h⟩, (fun x h => nomatch h), Nat.zero_le _⟩ (fun i σ H' _ h => ?_) ?_ ?_
  · rw [List.take_zero]
    exact gapF_nil ws base wide x
  · obtain ⟨_, _, _, _, _, _, _, _, _, _, _, _, B, _⟩ := h
    exact SqL.of (B _ _ (ne_of hl hF3 fun z => nomatch z) (ne_of hl hT3 fun z => nomatch z) hl)
  · rintro i x σ H4 hx ⟨kvs, es, kt, ks, v3, v4, v5, v6, v7, v8, v9, rfl, B4, hF4, gd4, kl4, hT4, td4, in4, ksl4⟩
    obtain ⟨u, hu, rfl⟩ : ∃ u, ps[i]? = some u ∧ x = V.ref u := by
      rw [List.getElem?_map] at hx
      cases e : ps[i]? with
      | none => rw [e] at hx; cases hx
      | some p => rw [e] at hx; exact ⟨p, rfl, (Option.some.inj hx).symm⟩
    obtain ⟨y, hy, sy⟩ := paired_get st hu
    obtain ⟨hi2, ey⟩ := List.getElem?_eq_some_iff.mp hy
    have yO := sin y (List.mem_of_getElem? hy)
    have Tk34 := tk2 B4 ⟨_, hF3⟩ ⟨_, hT3⟩
    obtain ⟨na, nb, ru, k1, k2, k3, k4⟩ := sy.tk Tk34
    refine ⟨u, _, rfl, SqT.of k1, rfl, _, _, rfl, _, _, rfl, _, _, rfl, _, _, rfl, _, _, rfl, rfl, ?_⟩
    refine ⟨_, rfl, _, rfl, ?_⟩
    have eL : (kt.map fun kv => kV kv.1) = ks.map V.str := by
      have z := congrArg (List.map kV) td4.ky
      rw [List.map_map, List.map_map] at z
      exact z
    refine ⟨T, _, rfl, .inl hT4, fun LT nLT => ?_⟩
    rw [eL]
    have NL := same_new nLT (.lst (ks.map V.str))
    have hLT : upd H4 LT (.lst (ks.map V.str)) LT = some (.lst (ks.map V.str)) := upd_same
    have hF5 := NL _ _ hF4
    have hT5 := NL _ _ hT4
    have td5 := td4.tk (Tk.same NL)
    have k45 := k4.tk (Tk.same NL)
    have k15 := NL _ _ k1
    have k25 := NL _ _ k2
    have k35 := NL _ _ k3
    have B5 := B4.trans (Bt2.same (f := F) (t := T) NL)
    have hM5 := B5 _ _ (ne_of hM3 hF3 fun z => nomatch z) (ne_of hM3 hT3 fun z => nomatch z) hM3
    generalize hH5 : upd H4 LT (.lst (ks.map V.str)) = H5 at *
    refine ⟨LT, rfl, ⟨_, SqL.of hLT⟩, ?_⟩
    have more : L.take (i + 1) = L.take i ++ [y] := by rw [List.take_succ_eq_append_getElem hi2, ey]
    have gd5 : GapD kvs es (fun e => wide * ((gapT (ws.map (·.1)) base wide (L.take i) e : Nat) : Int)) := gd4
    generalize hLp : L.take i = Lp at *
    refine for_list (K := K) (a := LT) (xs := ks.map V.str) (fun j σ H' => ∃ (kvs : List (List Key × V)) (es : List Ed) (kt : List (Key × V)) (uf : Addr) (rf : List Rn) (v9 : Option V), σ = [some (.ref b), some (.ref F), some (.ref T), some (.ref na), some (.str y.2.1), some (.str y.2.2.1), some (.ref nb), some (.ref ru), some (.ref uf), v9, none, none] ∧ Bt2 F T H5 H' ∧ H' F = some (.dT kvs) ∧ GapD kvs es (fun e => wide * ((gapT (ws.map (·.1)) base wide Lp e + gapW (ws.map (·.1)) base wide Lp y (wKs (ks.take j)) e : Nat) : Int)) ∧ kvs.length ≤ 41 * i + j ∧ H' T = some (.dK kt) ∧ ToldD H' kt ks (ws.map (·.1)) base wide (fun k s n => lastO (Lp.filter (chose s n)) = some k ∧ (k ∈ ks.take j → ¬ has y.2.2.2.2 s n)) ∧ RnsT H' uf rf ∧ OnP (ws.map (·.1)) base wide rf ∧ ∀ s n, has rf s n ↔ has y.2.2.2.2 s n ∧ ∀ k ∈ ks.take j, lastO (Lp.filter (chose s n)) ≠ some k) ⟨kvs, es, kt, ru, y.2.2.2.2, v9, rfl, fun a o _ _ e => e, hF5, gd5.cong fun x => ?_, by omega, hT5, td5.cong fun k _ s n => ?_, k45, yO, fun s n => ?_⟩ (fun j σ H' _ h => ?_) ?_ ?_
    · show _ = wide * ((_ + gapW (ws.map (·.1)) base wide Lp y (wKs (ks.take 0)) x : Nat) : Int)
      have e0 : wKs (ks.take 0) = fun _ => false := funext fun o => by
        cases o with
        | none => rfl
        | some k =>
          unfold wKs
          simp
      rw [e0, gapW_none, Nat.add_zero]
    · exact ⟨fun z => ⟨z, fun h => nomatch h⟩, And.left⟩
    · exact ⟨fun z => ⟨z, fun k h => nomatch h⟩, And.left⟩
    · obtain ⟨_, _, _, _, _, _, _, B, _⟩ := h
      exact SqL.of (B _ _ (ne_of hLT hF5 fun z => nomatch z) (ne_of hLT hT5 fun z => nomatch z) hLT)
    · rintro j x σ H6 hx ⟨kvs6, es6, kt6, uf, rf, v9', rfl, B6, hF6, gd6, kl6, hT6, td6, rf6, of6, hf6⟩
      obtain ⟨k, hk, rfl⟩ : ∃ k, (ks)[j]? = some k ∧ x = V.str k := by
        rw [List.getElem?_map] at hx
        cases e' : (ks)[j]? with
        | none => rw [e'] at hx; cases hx
        | some p => rw [e'] at hx; exact ⟨p, rfl, (Option.some.inj hx).symm⟩
      have hj2 := (List.getElem?_eq_some_iff.mp hk).1
      have T56 := tk2 B6 ⟨_, hF5⟩ ⟨_, hT5⟩
      have k46 := k45.tk T56
      obtain ⟨t, rt, vt, ht, ot, et⟩ := td6.vl k (List.mem_of_getElem? hk)
      have dg : DGet H6 T (.str k) (some (.ref t)) := by
        rw [← vt]
        exact DGet.k (k := Sum.inr k) hT6
      obtain ⟨bo, be⟩ := ot.both yO
      have nk := wKs_new td4.nd hk
      have kn : k ∉ ks.take j := of_decide_eq_false nk
      refine ⟨_, rfl, _, rfl, _, rfl, ?_⟩
      refine ⟨_, rfl, _, rfl, T, _, rfl, dg, _, rfl, t, ru, rt, y.2.2.2.2, rfl, ht.tp, k46.tp, Nat.le_trans (lenO ot) (by decide), Nat.le_trans (lenO yO) (by decide), fun tb qb H7 S7 ntb htb pb => ?_⟩
      have mn := bo.many fl wnd
      have bl0 := lenO bo
      have m7 : H7 P_many_in = some (TabO P_many_in) := S7 _ _ (B6 _ _ (ne_of hM5 hF5 fun z => nomatch z) (ne_of hM5 hT5 fun z => nomatch z) hM5)
      refine ⟨tb, _, rfl, ⟨qb, SqT.of htb, pb⟩, Nat.le_trans bl0 (by decide), fun r hr => (bo.ok fl hr).1, m7, fun H8 S8 => ?_⟩
      have S68 := S7.trans S8
      have m0 : 0 ≤ cntL (bothL rt y.2.2.2.2) := by
        rw [mn]
        exact Int.mul_nonneg (by omega) (by omega)
      refine ⟨F, k, y.2.1, _, kvs6, es6, _, rfl, S68 _ _ hF6, gd6, m0, by omega, fun kvs9 es9 H9 B9 hF9 gd9 kl9 => ?_⟩
      have B69 := (Bt2.same (f := F) (t := T) S68).trans (Bt2.f B9)
      have T69 := tk2 B69 ⟨_, hF6⟩ ⟨_, hT6⟩
      have hT9 := B9 _ _ FT.symm (S68 _ _ hT6)
      have ht9 := ht.tk T69
      have dg9 : DGet H9 T (.str k) (some (.ref t)) := by
        rw [← vt]
        exact DGet.k (k := Sum.inr k) hT9
      have gd9' : GapD kvs9 es9 (fun e => wide * ((gapT (ws.map (·.1)) base wide Lp e + gapW (ws.map (·.1)) base wide Lp y (wKs (ks.take (j + 1))) e : Nat) : Int)) := by
        refine gd9.cong fun e => ?_
        rw [mn, show wKs (ks.take (j + 1)) = fun o => wKs (ks.take j) o || decide (o = some k) from funext fun o => wKs_more hk o]
        exact gap_more nk (fun s n => by rw [be, et]; exact ⟨fun z => ⟨z.2, z.1.1⟩, fun z => ⟨⟨z.2, fun w => absurd w kn⟩, z.1⟩⟩) (fun _ => rfl) e
      clear gd9 gd6
      have rf9 := rf6.tk T69
      obtain ⟨fo, fe⟩ := of6.less ot
      refine ⟨_, rfl, _, rfl, _, rfl, T, _, rfl, dg9, uf, t, rf, rt, rfl, rf9.tp, ht9.tp, Nat.le_trans (lenO of6) (by decide), Nat.le_trans (lenO ot) (by decide), fun tf qf H10 S10 ntf htf pf => ?_⟩
      have ht10 := ht9.tk (Tk.same S10)
      have k410 := (k46.tk T69).tk (Tk.same S10)
      have dg10 : DGet H10 T (.str k) (some (.ref t)) := by
        rw [← vt]
        exact DGet.k (k := Sum.inr k) (S10 _ _ hT9)
      obtain ⟨lo, le⟩ := ot.less yO
      refine ⟨_, rfl, _, rfl, T, _, rfl, dg10, _, rfl, t, ru, rt, y.2.2.2.2, rfl, ht10.tp, k410.tp, Nat.le_trans (lenO ot) (by decide), Nat.le_trans (lenO yO) (by decide), fun tl ql H11 S11 ntl htl plq => ?_⟩
      have T911 := (Tk.same S10).trans (Tk.same S11)
      have hT11 := S11 _ _ (S10 _ _ hT9)
      have hF11 := S11 _ _ (S10 _ _ hF9)
      have td11 := td6.tk (T69.trans T911)
      have rl : RnsT H11 tl (lessL rt y.2.2.2.2) := ⟨ql, htl, plq, Nat.le_trans (lenO lo) (by decide)⟩
      have rf11 : RnsT H11 tf (lessL rf rt) := RnsT.tk (Tk.same S11) ⟨qf, htf, pf, Nat.le_trans (lenO fo) (by decide)⟩
      have tkm : ∀ x, x ∈ ks.take (j + 1) ↔ x ∈ ks.take j ∨ x = k := fun x => by
        obtain ⟨q1, q2⟩ := List.getElem?_eq_some_iff.mp hk
        rw [List.take_succ_eq_append_getElem q1, q2, List.mem_append, List.mem_singleton]
      have TT : Tk H11 (upd H11 T (.dK (putK kt6 (Sum.inr k) (.ref tl)))) := fun a xs e => (upd_ne (ne_of e hT11 fun z => nomatch z)).trans e
      obtain ⟨ks', td', mem', kl', kin⟩ := td11.put (k := k) (t := tl) (R' := (fun k s n => lastO (Lp.filter (chose s n)) = some k ∧ (k ∈ ks.take (j + 1) → ¬ has y.2.2.2.2 s n))) rl lo (fun s n => by
        rw [le, et]
        exact ⟨fun z => ⟨z.1.1, fun _ => z.2⟩, fun z => ⟨⟨z.1, fun w => absurd w kn⟩, z.2 ((tkm k).mpr (.inr rfl))⟩⟩) fun x _ nx s n => and_congr_right fun _ => by rw [tkm]; exact ⟨fun z w => z (w.resolve_right nx), fun z w => z (.inl w)⟩
      cases kin (List.mem_of_getElem? hk)
      refine ⟨_, rfl, _, rfl, T, _, rfl, DPut.k (k := Sum.inr k) hT11 (by rw [td6.len]; exact Nat.lt_of_le_of_lt (show _ ≤ 100 by omega) (by decide)), ?_⟩
      have B11 : Bt2 F T H5 (upd H11 T (.dK (putK kt6 (Sum.inr k) (.ref tl)))) := fun a o n m e => (upd_ne m).trans (S11 _ _ (S10 _ _ (B69 _ _ n m (B6 _ _ n m e))))
      refine ⟨kvs9, es9, _, tf, lessL rf rt, _, rfl, B11, (upd_ne FT).trans hF11, gd9', by omega, upd_same, td'.tk TT, rf11.tk TT, fo, fun s n => ?_⟩
      rw [fe, hf6, et]
      constructor
      · rintro ⟨⟨z1, z2⟩, z3⟩
        refine ⟨z1, fun x hx => ?_⟩
        rcases (tkm x).mp hx with w | rfl
        · exact z2 x w
        · exact fun w => z3 ⟨w, fun h => absurd h kn⟩
      · rintro ⟨z1, z2⟩
        exact ⟨⟨z1, fun x hx => z2 x ((tkm x).mpr (.inl hx))⟩, fun w => z2 k ((tkm k).mpr (.inr rfl)) w.1⟩
    · rintro σ H6 ⟨kvs6, es6, kt6, uf, rf, v9', rfl, B6, hF6, gd6, kl6, hT6, td6, rf6, of6, hf6⟩
      have eT : ks.take (ks.map V.str).length = ks := by rw [List.length_map, List.take_length]
      rw [eT] at gd6 td6 hf6
      rw [List.length_map] at kl6
      have T56 := tk2 B6 ⟨_, hF5⟩ ⟨_, hT5⟩
      have k46 := k45.tk T56
      have hM6 := B6 _ _ (ne_of hM5 hF5 fun z => nomatch z) (ne_of hM5 hT5 fun z => nomatch z) hM5
      have mn := of6.many fl wnd
      have m0 : 0 ≤ cntL rf := by
        rw [mn]
        exact Int.mul_nonneg (by omega) (by omega)
      refine ⟨_, rfl, _, rfl, _, rfl, uf, rf, rfl, rf6.tp, Nat.le_trans (lenO of6) (by decide), fun r hr => (of6.ok fl hr).1, hM6, fun H8 S8 => ?_⟩
      refine ⟨F, gNone, y.2.1, _, kvs6, es6, _, rfl, S8 _ _ hF6, gd6, m0, by omega, fun kvs9 es9 H9 B9 hF9 gd9 kl9 => ?_⟩
      have B69 := (Bt2.same (f := F) (t := T) S8).trans (Bt2.f B9)
      have T69 := tk2 B69 ⟨_, hF6⟩ ⟨_, hT6⟩
      have hT9 := B9 _ _ FT.symm (S8 _ _ hT6)
      have gd9' : GapD kvs9 es9 (gapF ws base wide (L.take (i + 1))) := by
        refine gd9.cong fun e => ?_
        rw [mn, more, ← gapF_snoc in4]
        exact gap_more (k := none) rfl (fun s n => by
          rw [hf6]
          refine and_congr_right fun _ => ⟨fun z => ?_, fun z k _ => by rw [z]; exact fun w => nomatch w⟩
          cases o : lastO (Lp.filter (chose s n)) with
          | none => rfl
          | some k =>
            obtain ⟨x, hx, ex⟩ := lastO_in o
            exact absurd o (z k (ex ▸ in4 x hx))) (fun _ => rfl) e
      clear gd9 gd6
      refine ⟨_, rfl, T, rfl, .inl ⟨_, .inl hT9⟩, _, rfl, (show 0 ≤ sizeLine by decide), fun tz htz => ?_⟩
      have Nz := same_new htz (.tup [])
      have dgz : DGet (upd H9 tz (.tup [])) T (.str y.2.2.1) (valV kt6 (Sum.inr y.2.2.1)) := DGet.k (k := Sum.inr y.2.2.1) (Nz _ _ hT9)
      refine ⟨_, dgz, ?_⟩
      have Tz := Tk.trans T69 (Tk.same Nz)
      have old : ∃ t rs, (valV kt6 (Sum.inr y.2.2.1 : Key)).getD (.ref tz) = .ref t ∧ RnsT (upd H9 tz (.tup [])) t rs ∧ OnP (ws.map (·.1)) base wide rs ∧ ∀ s n, has rs s n ↔ lastO (Lp.filter (chose s n)) = some y.2.2.1 ∧ ¬ has y.2.2.2.2 s n := by
        by_cases c : y.2.2.1 ∈ ks
        · obtain ⟨t, rs, a, b', c', d⟩ := td6.vl _ c
          exact ⟨t, rs, by rw [a]; rfl, b'.tk Tz, c', fun s n => (d s n).trans (and_congr_right fun _ => ⟨fun z => z c, fun z _ => z⟩)⟩
        · refine ⟨tz, [], by rw [val_out td6.ky c]; rfl, ⟨[], upd_same, .nil, Nat.zero_le _⟩, .nil, fun s n => ⟨fun z => absurd z (has_nil s n), fun z => ?_⟩⟩
          obtain ⟨x, hx, ex⟩ := lastO_in z.1
          exact absurd (ex ▸ in4 x hx) c
      obtain ⟨t, rt, vt, ht, ot, et⟩ := old
      rw [vt]
      obtain ⟨to, te⟩ := ot.tog yO
      refine ⟨_, rfl, t, ru, rt, y.2.2.2.2, rfl, ht.tp, (k46.tk Tz).tp, Nat.le_trans (lenO ot) (by decide), Nat.le_trans (lenO yO) (by decide), fun tl ql H11 S11 ntl htl plq => ?_⟩
      have T911 := (Tk.same Nz).trans (Tk.same S11)
      have hT11 := S11 _ _ (Nz _ _ hT9)
      have hF11 := S11 _ _ (Nz _ _ hF9)
      have td11 := td6.tk (T69.trans T911)
      have rl : RnsT H11 tl (togL rt y.2.2.2.2) := ⟨ql, htl, plq, Nat.le_trans (lenO to) (by decide)⟩
      have TT : Tk H11 (upd H11 T (.dK (putK kt6 (Sum.inr y.2.2.1) (.ref tl)))) := fun a xs e => (upd_ne (ne_of e hT11 fun z => nomatch z)).trans e
      obtain ⟨ks', td', mem', kl', _⟩ := td11.put (k := y.2.2.1) (t := tl) (R' := (fun k s n => lastO ((L.take (i + 1)).filter (chose s n)) = some k)) rl to (fun s n => by
        show _ ↔ lastO ((L.take (i + 1)).filter (chose s n)) = some y.2.2.1
        rw [te, et, more, last_told]
        exact or_congr Iff.rfl ⟨fun z => ⟨rfl, z⟩, And.right⟩) fun x hx nx s n => by
        show _ ↔ lastO ((L.take (i + 1)).filter (chose s n)) = some x
        rw [more, last_told]
        exact ⟨fun z => .inl ⟨z.1, z.2 hx⟩, fun z => z.elim (fun z => ⟨z.1, fun _ => z.2⟩) fun z => absurd z.1 nx⟩
      refine ⟨_, rfl, _, rfl, T, _, rfl, DPut.k (k := Sum.inr y.2.2.1) hT11 (by rw [td6.len]; exact Nat.lt_of_le_of_lt (show _ ≤ 100 by omega) (by decide)), ?_⟩
      have B11 : Bt2 F T H3 (upd H11 T (.dK (putK kt6 (Sum.inr y.2.2.1) (.ref tl)))) := fun a o n m e => (upd_ne m).trans (S11 _ _ (Nz _ _ (B69 _ _ n m (B6 _ _ n m (B5 _ _ n m e)))))
      refine ⟨kvs9, es9, _, ks', _, _, _, _, _, _, _, rfl, B11, (upd_ne FT).trans hF11, gd9', by omega, upd_same, td'.tk TT, fun x hx => ?_, by omega⟩
      rw [more, List.mem_append, List.mem_singleton] at hx
      exact (mem' _).mpr (hx.imp (in4 x) fun z => by rw [z])
  rintro σ H4 ⟨kvs, es, kt, ks, v3, v4, v5, v6, v7, v8, v9, rfl, B4, hF4, gd4, kl4, hT4, td4, in4, ksl4⟩
  have eT : L.take (ps.map V.ref).length = L := by rw [List.length_map, pl, List.take_length]
  rw [eT] at gd4
  rw [List.length_map, pl] at kl4
  have e0 : (kvs.map (·.1)).map keyD = es.map edD := by
    rw [show kvs.map (·.1) = es.map edK from gd4.ky, List.map_map]
    rfl
  refine ⟨_, rfl, F, kvs, rfl, hF4, by omega, by rw [e0]; exact eds_alike es, by rw [e0]; exact eds_sortable es, fun as lr ka nlr => ?_⟩
  rw [e0]
  rw [show kvs.map (·.1) = es.map edK from gd4.ky] at ka
  have N5 := same_new nlr (.lst (sortD (as.map V.ref) (es.map edD)))
  have rds := Rds.tk (Tk.same N5) (keys_rds2 ka)
  obtain ⟨rs, e1, e2⟩ := sort_paired (F := fun p e => upd H4 lr (.lst (sortD (as.map V.ref) (es.map edD))) p = some (.tup (edV e))) edD rds
  have hlr : upd H4 lr (.lst (sortD (as.map V.ref) (es.map edD))) lr = some (.lst (rs.map V.ref)) := by rw [upd_same, e1]
  have hF5 := N5 _ _ hF4
  have B5 : Bt2 F T H3 (upd H4 lr (.lst (sortD (as.map V.ref) (es.map edD)))) := B4.trans (.same N5)
  generalize upd H4 lr (.lst (sortD (as.map V.ref) (es.map edD))) = H5 at *
  have e2 : Paired (fun p e => H5 p = some (.tup (edV e))) rs (sortE es) := e2
  have rl := paired_len e2
  have el : (sortE es).length ≤ 2000 := by
    unfold sortE
    rw [List.length_mergeSort, ← gd4.ky.len]
    omega
  refine ⟨lr, rfl, ⟨_, SqL.of hlr⟩, fun D hD => ?_⟩
  refine lc_list (K := K) (a := lr) (xs := rs.map V.ref) (fun j H' => ∃ ds : List Addr, Same H5 H' ∧ H' D = some (.lst (ds.map V.ref)) ∧ G3s H' ds ((sortE es).take j) (gapF ws base wide L)) ⟨[], same_new hD _, upd_same, .nil⟩ (fun j H' _ h => by obtain ⟨_, S, _⟩ := h; exact SqL.of (S _ _ hlr)) ?_ ?_
  · rintro j x H6 hx ⟨ds, S6, hD6, g6⟩
    obtain ⟨u, hu, rfl⟩ : ∃ u, rs[j]? = some u ∧ x = V.ref u := by
      rw [List.getElem?_map] at hx
      cases e : rs[j]? with
      | none => rw [e] at hx; cases hx
      | some p => rw [e] at hx; exact ⟨p, rfl, (Option.some.inj hx).symm⟩
    obtain ⟨e, he, ha⟩ := paired_get e2 hu
    obtain ⟨hj, ee⟩ := List.getElem?_eq_some_iff.mp he
    refine ⟨u, _, rfl, SqT.of (S6 _ _ ha), rfl, _, _, rfl, _, _, rfl, rfl, rfl, ?_⟩
    have ein : e ∈ es := List.mem_mergeSort.mp (List.mem_of_getElem? he)
    refine ⟨_, rfl, _, rfl, _, rfl, _, rfl, _, rfl, (show 2 ≤ sizeLine by decide), fun tk htk => ?_⟩
    have Nk := same_new htk (.tup [.str e.1, .str e.2])
    have dg : DGet (upd H6 tk (.tup [.str e.1, .str e.2])) F (.ref tk) (some (.int (gapF ws base wide L e))) := by
      have z := DGet.t (k := edK e) (Nk _ _ (S6 _ _ hF5)) (b := tk) upd_same
      rw [gd4.vl, if_pos ((gd4.up e).mp ein)] at z
      exact z
    refine ⟨F, _, rfl, dg, (show 3 ≤ sizeLine by decide), fun t ht => ?_⟩
    have Nt := same_new ht (.tup [.str e.1, .str e.2, .int (gapF ws base wide L e)])
    have hDt := Nt _ _ (Nk _ _ hD6)
    have SS := (S6.trans Nk).trans Nt
    refine ⟨_, hDt, ?_, ds ++ [t], same_mut SS hD, ?_, ?_⟩
    · have := paired_len g6
      rw [List.length_map, this]
      exact Nat.lt_of_le_of_lt (Nat.le_trans (List.length_take_le' _ _) el) (by decide)
    · rw [upd_same, List.map_append]
      rfl
    · rw [List.take_succ_eq_append_getElem hj, ee]
      have tD : Tk (upd (upd H6 tk (.tup [.str e.1, .str e.2])) t (.tup [.str e.1, .str e.2, .int (gapF ws base wide L e)])) (upd (upd (upd H6 tk (.tup [.str e.1, .str e.2])) t (.tup [.str e.1, .str e.2, .int (gapF ws base wide L e)])) D (.lst (ds.map V.ref ++ [V.ref t]))) := Tk.put hDt
      exact paired_snoc (paired_imp (fun p x hp => tD _ _ (Nt _ _ (Nk _ _ hp))) g6) (tD _ _ upd_same)
  · rintro H6 ⟨ds, S6, hD6, g6⟩
    rw [List.length_map, rl, List.take_length] at g6
    refine ⟨D, _, rfl, .inl ⟨SqL.of hD6, fun t ht => ?_⟩⟩
    have Nt := same_new ht (.tup (ds.map V.ref))
    have B7 : Bt2 F T H3 (upd H6 t (.tup (ds.map V.ref))) := B5.trans (.same (S6.trans Nt))
    have BB : But P_all_steps H (upd H6 t (.tup (ds.map V.ref))) := fun a o n e => B7 _ _ (ne_of_none e hF) (ne_of_none (NF _ _ e) nT) (B3 _ _ n (N2 _ _ e))
    have TT : TabL (upd H6 t (.tup (ds.map V.ref))) P_all_steps qSteps := T3.stay fun a φ e => B7 _ _ (ne_of e hF3 fun z => nomatch z) (ne_of e hT3 fun z => nomatch z) e
    have nn : H t = none := by
      cases e : H t with
      | none => rfl
      | some o =>
        by_cases c : t = P_all_steps
        · obtain ⟨φ, hP⟩ := T3.at
          have z := (B5.trans (.same S6)) _ _ (ne_of hP hF3 fun z => nomatch z) (ne_of hP hT3 fun z => nomatch z) hP
          rw [← c, ht] at z
          cases z
        · have z := (B5.trans (.same S6)) _ _ (ne_of_none e hF) (ne_of_none (NF _ _ e) nT) (B3 _ _ c (N2 _ _ e))
          rw [ht] at z
          cases z
    exact q t ds es _ BB TT nn upd_same gd4.nd gd4.up (paired_imp (fun p x hp => Nt _ _ hp) g6)

theorem ok_ltape (F : Fun K "_law_tape" "_law_tape" s_ltape f_ltape d_ltape) (T : Txt mg f_is_apart f_runs_of f_many_in f_named_by_voids f_counted_bags f_standing_of f_pages_that_are f_counted_pages f_all_steps f_together f_both f_less f_what_is_left f_add_gap f_gaps f_ltape f_ldraw f_loffice f_lnames f_lruns f_lfield f_ldeed f_lbook f_ltold f_lof f_lrows f_ldue f_law) :
    FnOk P w K mg base CX0 (1) f_ltape d_ltape ["_law_script"] (spFeed K) := by
  refine F.ok sc_ltape (fun vs H Q E h => ?_) (fun cdv A outer s H vs Q E hr h => ?_)

  · obtain ⟨a, ns, rfl, _⟩ := h
    rfl
  obtain ⟨a, ns, rfl, hs, q⟩ := h
  refine ⟨_, (pss_one (ps_ret (pe_lst (pa_cons (pe_slice sl_list (pv 0) po_none (po_some pe_int)) (pa_cons pe_int (pa_cons pe_int pa_nil)))))), ?_⟩
  refine ⟨_, rfl, _, rfl, a, _, rfl, hs, fun c hc => ?_⟩
  have e : cutV (ns.map V.int) none (some 63) = (ns.take 63).map V.int := (cut_take _ 63).trans (List.map_take).symm
  refine ⟨(show 3 ≤ sizeLine by decide), fun f hf => ?_⟩
  have hcf : c ≠ f := ne_of_none upd_same hf
  refine q f c _ (free_of hf) ((same_new hc _).trans (same_new hf _)) ⟨ns.take 63, 0, 0, upd_same, (upd_ne hcf).trans (by rw [upd_same, e]), List.length_take_le .., Int.le_refl _, Int.le_refl _⟩

theorem ok_ldraw (F : Fun K "_law_draw" "_law_draw" s_ldraw f_ldraw d_ldraw) (T : Txt mg f_is_apart f_runs_of f_many_in f_named_by_voids f_counted_bags f_standing_of f_pages_that_are f_counted_pages f_all_steps f_together f_both f_less f_what_is_left f_add_gap f_gaps f_ltape f_ldraw f_loffice f_lnames f_lruns f_lfield f_ldeed f_lbook f_ltold f_lof f_lrows f_ldue f_law) :
    FnOk P w K mg base CX0 (1) f_ldraw d_ldraw ["_law_tape_here", "_law_many"] spDrawT := by
  refine F.ok sc_ldraw (fun vs H Q E h => ?_) (fun cdv A outer s H vs Q E hr h => ?_)

  · obtain ⟨f, c, m, n, rfl, _⟩ := h
    rfl
  obtain ⟨f, c, m, n, rfl, ⟨cells, at_, g, hf, hc, h63, h0, hn⟩, hn2, hm0, hm1, q0⟩ := h
  refine ⟨_, (pss_cons (ps_if (pt_cmpR op_gt (pe_ix ix_list (pv 0) pe_int (fun _ _ => rfl)) pe_int (nomark _))
  (pss_cons (ps_set (i := 2) sc_ldraw.nd rfl (.inl rfl) (pe_op op_modN (pe_ix ix_list (pv 0) pe_int (fun _ _ => rfl)) (pv 1)))
  (pss_cons (ps_asg (pe_op op_fdivN (pe_ix ix_list (pv 0) pe_int (fun _ _ => rfl)) (pv 1)) (pg_sub (pv 0) pe_int set_list))
  (pss_one (ps_ret (pv 2)))))
  pss_nil)
  (pss_cons (ps_set (i := 3) sc_ldraw.nd rfl (.inl rfl) (pe_ix ix_list (pv 0) pe_int (fun _ _ => rfl)))
  (pss_cons (ps_asg (pe_op op_add (pv 3) pe_int) (pg_sub (pv 0) pe_int set_list))
  (pss_cons (ps_set (i := 4) sc_ldraw.nd rfl (.inl rfl) (pe_ifExp (pt_cmpR (op_neP hr) (pe_ix ix_list (pv 0) pe_int (fun _ _ => rfl)) (pe_lst pa_nil) (nomark _)) (pe_ix ix_list (pe_ix ix_list (pv 0) pe_int (fun _ _ => rfl)) (pe_op op_modN (pv 3) (pe_callB call_len_seq (by rfl) T.len (by decide +kernel) (pa_cons (pe_ix ix_list (pv 0) pe_int (fun _ _ => rfl)) pa_nil))) (fun _ _ => rfl)) pe_int))
  (pss_cons (ps_if (PW.pt (pw_and (pt_cmpR op_ge (pv 4) (pe_op op_pow pe_int pe_int) (nomark _)) (pw_and1 (pt_cmpR op_lt (pv 3) (pe_callB call_len_seq (by rfl) T.len (by decide +kernel) (pa_cons (pe_ix ix_list (pv 0) pe_int (fun _ _ => rfl)) pa_nil)) (nomark _)))))
  (pss_cons (ps_asg (pe_op op_fdivN (pv 4) (pv 1)) (pg_sub (pv 0) pe_int set_list))
  (pss_one (ps_ret (pe_op op_modN (pv 4) (pv 1)))))
  pss_nil)
  (pss_cons (ps_set (i := 5) sc_ldraw.nd rfl (.inl rfl) (pe_op op_modN (pe_op op_mul (pe_op op_add (pe_op op_add (pe_op op_add (pe_op op_modN (pv 4) pe_int) (pe_op op_mul (pe_op op_mul pe_int (pv 3)) (pv 3))) (pe_op op_mul pe_int (pv 3))) pe_int) pe_int) pe_int))
  (pss_one (ps_ret (pe_op op_modN (pe_op op_fdivN (pe_op op_modN (pe_op op_mul (pe_op op_add (pv 5) (pe_op op_mul pe_int (pv 3))) pe_int) pe_int) pe_int) (pv 1)))))))))), ?_⟩
  have hcf : c ≠ f := fd_ne hf hc
  refine ⟨_, rfl, f, _, _, _, rfl, rfl, SqL.of hf, rfl, _, _, rfl, rfl, _, rfl, ?_⟩
  refine ite2 (fun cg => ?_) (fun cg => ?_)
  · refine ⟨_, rfl, f, _, _, _, rfl, rfl, SqL.of hf, rfl, _, rfl, _, _, rfl, rfl, by omega, ?_⟩
    refine ⟨_, rfl, f, _, _, _, rfl, rfl, SqL.of hf, rfl, _, rfl, _, _, rfl, rfl, ⟨by omega, by omega⟩, ?_⟩
    refine ⟨_, rfl, f, _, _, 2, rfl, rfl, hf, rfl, ?_⟩
    refine ⟨_, rfl, ?_⟩
    exact q0 _ _ (mod_lo _ _ hm0) (mod_hi _ _ hm0) ⟨cells, at_, _, upd_same, (upd_ne hcf).trans hc, h63, h0, by omega⟩ But.feed
  refine ⟨_, rfl, f, _, _, _, rfl, rfl, SqL.of hf, rfl, ?_⟩
  refine ⟨_, rfl, _, _, rfl, rfl, ?_⟩
  refine ⟨_, rfl, f, _, _, 1, rfl, rfl, hf, rfl, ?_⟩
  generalize hG : upd H f (HO.lst ([V.ref c, V.int at_, V.int g].set 1 ((fun i j => V.int (i + j)) at_ 1))) = G
  have hfG : G f = some (.lst [.ref c, .int (at_ + 1), .int g]) := by rw [← hG]; exact upd_same
  have hcG : G c = some (.lst (cells.map V.int)) := by rw [← hG]; exact (upd_ne hcf).trans hc
  have BG : But f H G := by rw [← hG]; exact But.feed
  refine ⟨_, rfl, f, _, _, _, rfl, rfl, SqL.of hfG, rfl, (show 0 ≤ sizeLine by decide), fun e ne => ?_⟩
  have NE := same_new ne (.lst [])
  have hf1 := NE _ _ hfG
  have hc1 := NE _ _ hcG
  have he1 : upd G e (.lst []) e = some (.lst []) := upd_same
  have B1 : But f H (upd G e (.lst [])) := BG.trans (But.of_same NE)
  generalize upd G e (HO.lst []) = H1 at *
  have q : ∀ (d : Int) (Hx : Hp), 0 ≤ d → d < m → Hx = H1 → Q (.int d) Hx := fun d Hx h1 h2 h3 => by
    subst h3
    exact q0 d _ h1 h2 ⟨cells, at_ + 1, g, hf1, hc1, h63, by omega, by omega⟩ B1
  have q2 : ∀ (d g' : Int), 0 ≤ d → d < m → True → Q (.int d) (upd H1 f (.lst [.ref c, .int (at_ + 1), .int g'])) := fun d g' h1 h2 _ => q0 d _ h1 h2 ⟨cells, at_ + 1, g', upd_same, (upd_ne hcf).trans hc1, h63, by omega, by omega⟩ (B1.trans But.feed)
  refine ⟨.list (cells.map .int), .list [], .lst (SqL.of hc1) (ints_all' cells), .lst (SqL.of he1) .nil, ints_plain cells, rfl, ints_depth cells, _, rfl, ?_⟩
  refine ite2 (fun c1 => ?_) (fun c1 => ?_)
  · have hl : 0 < cells.length := by
      cases cells with
      | nil => exact absurd c1 (by decide)
      | cons x l => exact Nat.succ_pos _
    obtain ⟨cell, hcell⟩ := at_mod at_ hl
    refine ⟨_, rfl, f, _, _, _, rfl, rfl, SqL.of hf1, rfl, _, rfl, _, rfl, f, _, _, _, rfl, rfl, SqL.of hf1, rfl, c, _, rfl, .inl (SqL.of hc1), _, _, rfl, rfl, ?_, c, _, _, _, rfl, rfl, SqL.of hc1, hcell, ?_⟩
    · rw [List.length_map]
      omega
    refine ⟨_, rfl, _, _, rfl, rfl, ⟨by decide, by decide, by decide⟩, _, _, rfl, rfl, _, rfl, ?_⟩
    refine ite2 (fun c2 => ?_) (fun c2 => ?_)
    · refine ⟨_, rfl, _, rfl, f, _, _, _, rfl, rfl, SqL.of hf1, rfl, c, _, rfl, .inl (SqL.of hc1), _, _, rfl, rfl, _, rfl, ?_⟩
      refine ite2 (fun c3 => ?_) (fun c3 => ?_)
      · refine ⟨_, rfl, _, rfl, _, _, rfl, rfl, ⟨by omega, by omega⟩, ?_⟩
        refine ⟨_, rfl, f, _, _, 2, rfl, rfl, hf1, rfl, ?_⟩
        refine ⟨_, rfl, _, rfl, _, _, rfl, rfl, by omega, ?_⟩
        exact q2 _ _ (mod_lo _ _ hm0) (mod_hi _ _ hm0) trivial
      ·
        refine ⟨_, rfl, _, _, rfl, rfl, (by show (_ : Int) ≠ 0; decide), _, rfl, _, _, rfl, rfl, .inl ⟨by decide, by decide⟩, _, rfl, _, _, rfl, rfl, .inl ⟨by omega, by omega⟩, _, _, rfl, rfl, _, rfl, _, _, rfl, rfl, .inl ⟨by decide, by decide⟩, _, _, rfl, rfl, _, _, rfl, rfl, _, _, rfl, rfl, .inr ⟨by decide, by decide⟩, _, _, rfl, rfl, (by show (_ : Int) ≠ 0; decide), ?_⟩
        refine ⟨_, rfl, _, rfl, _, _, rfl, rfl, .inl ⟨by decide, by decide⟩, _, _, rfl, rfl, _, _, rfl, rfl, .inr ⟨by decide, by decide⟩, _, _, rfl, rfl, (by show (_ : Int) ≠ 0; decide), _, _, rfl, rfl, ⟨by decide, by decide⟩, _, rfl, _, _, rfl, rfl, by omega, ?_⟩
        exact q _ _ (mod_lo _ _ hm0) (mod_hi _ _ hm0) rfl
    ·
      refine ⟨_, rfl, _, _, rfl, rfl, (by show (_ : Int) ≠ 0; decide), _, rfl, _, _, rfl, rfl, .inl ⟨by decide, by decide⟩, _, rfl, _, _, rfl, rfl, .inl ⟨by omega, by omega⟩, _, _, rfl, rfl, _, rfl, _, _, rfl, rfl, .inl ⟨by decide, by decide⟩, _, _, rfl, rfl, _, _, rfl, rfl, _, _, rfl, rfl, .inr ⟨by decide, by decide⟩, _, _, rfl, rfl, (by show (_ : Int) ≠ 0; decide), ?_⟩
      refine ⟨_, rfl, _, rfl, _, _, rfl, rfl, .inl ⟨by decide, by decide⟩, _, _, rfl, rfl, _, _, rfl, rfl, .inr ⟨by decide, by decide⟩, _, _, rfl, rfl, (by show (_ : Int) ≠ 0; decide), _, _, rfl, rfl, ⟨by decide, by decide⟩, _, rfl, _, _, rfl, rfl, by omega, ?_⟩
      exact q _ _ (mod_lo _ _ hm0) (mod_hi _ _ hm0) rfl
  ·
    refine ⟨_, rfl, _, _, rfl, rfl, ⟨by decide, by decide, by decide⟩, _, _, rfl, rfl, _, rfl, ?_⟩
    refine ite2 (fun c2 => ?_) (fun c2 => ?_)
    · refine ⟨_, rfl, _, rfl, f, _, _, _, rfl, rfl, SqL.of hf1, rfl, c, _, rfl, .inl (SqL.of hc1), _, _, rfl, rfl, _, rfl, ?_⟩
      refine ite2 (fun c3 => ?_) (fun c3 => ?_)
      · refine ⟨_, rfl, _, rfl, _, _, rfl, rfl, ⟨by omega, by omega⟩, ?_⟩
        refine ⟨_, rfl, f, _, _, 2, rfl, rfl, hf1, rfl, ?_⟩
        refine ⟨_, rfl, _, rfl, _, _, rfl, rfl, by omega, ?_⟩
        exact q2 _ _ (mod_lo _ _ hm0) (mod_hi _ _ hm0) trivial
      ·
        refine ⟨_, rfl, _, _, rfl, rfl, (by show (_ : Int) ≠ 0; decide), _, rfl, _, _, rfl, rfl, .inl ⟨by decide, by decide⟩, _, rfl, _, _, rfl, rfl, .inl ⟨by omega, by omega⟩, _, _, rfl, rfl, _, rfl, _, _, rfl, rfl, .inl ⟨by decide, by decide⟩, _, _, rfl, rfl, _, _, rfl, rfl, _, _, rfl, rfl, .inr ⟨by decide, by decide⟩, _, _, rfl, rfl, (by show (_ : Int) ≠ 0; decide), ?_⟩
        refine ⟨_, rfl, _, rfl, _, _, rfl, rfl, .inl ⟨by decide, by decide⟩, _, _, rfl, rfl, _, _, rfl, rfl, .inr ⟨by decide, by decide⟩, _, _, rfl, rfl, (by show (_ : Int) ≠ 0; decide), _, _, rfl, rfl, ⟨by decide, by decide⟩, _, rfl, _, _, rfl, rfl, by omega, ?_⟩
        exact q _ _ (mod_lo _ _ hm0) (mod_hi _ _ hm0) rfl
    ·
      refine ⟨_, rfl, _, _, rfl, rfl, (by show (_ : Int) ≠ 0; decide), _, rfl, _, _, rfl, rfl, .inl ⟨by decide, by decide⟩, _, rfl, _, _, rfl, rfl, .inl ⟨by omega, by omega⟩, _, _, rfl, rfl, _, rfl, _, _, rfl, rfl, .inl ⟨by decide, by decide⟩, _, _, rfl, rfl, _, _, rfl, rfl, _, _, rfl, rfl, .inr ⟨by decide, by decide⟩, _, _, rfl, rfl, (by show (_ : Int) ≠ 0; decide), ?_⟩
      refine ⟨_, rfl, _, rfl, _, _, rfl, rfl, .inl ⟨by decide, by decide⟩, _, _, rfl, rfl, _, _, rfl, rfl, .inr ⟨by decide, by decide⟩, _, _, rfl, rfl, (by show (_ : Int) ≠ 0; decide), _, _, rfl, rfl, ⟨by decide, by decide⟩, _, rfl, _, _, rfl, rfl, by omega, ?_⟩
      exact q _ _ (mod_lo _ _ hm0) (mod_hi _ _ hm0) rfl

theorem ok_loffice (F : Fun K "_law_office" "_law_office" s_loffice f_loffice d_loffice) (T : Txt mg f_is_apart f_runs_of f_many_in f_named_by_voids f_counted_bags f_standing_of f_pages_that_are f_counted_pages f_all_steps f_together f_both f_less f_what_is_left f_add_gap f_gaps f_ltape f_ldraw f_loffice f_lnames f_lruns f_lfield f_ldeed f_lbook f_ltold f_lof f_lrows f_ldue f_law)
    (F_ldraw : Fun K "_law_draw" "_law_draw" s_ldraw f_ldraw d_ldraw) (b_ldraw : Binds K d_ldraw ["_law_tape_here", "_law_many"] []) (G_ldraw : FnOk P w K mg base CX0 (1) f_ldraw d_ldraw ["_law_tape_here", "_law_many"] spDrawT) :
    FnOk P w K mg base CX0 (2) f_loffice d_loffice ["_law_tape_here"] spOffice1 := by
  refine F.ok sc_loffice (fun vs H Q E h => ?_) (fun cdv A outer s H vs Q E hr h => ?_)

  · obtain ⟨f, c, n, rfl, _⟩ := h
    rfl
  obtain ⟨f, c, n, rfl, hf, hn, q⟩ := h
  refine ⟨_, (pss_cons (ps_set (i := 1) sc_loffice.nd rfl (.inr rfl) (pe_lst (pa_cons pe_str (pa_cons pe_str (pa_cons pe_str (pa_cons pe_str (pa_cons pe_str (pa_cons pe_str (pa_cons pe_str (pa_cons pe_str (pa_cons pe_str (pa_cons pe_str pa_nil))))))))))))
  (pss_cons (ps_set (i := 2) sc_loffice.nd rfl (.inl rfl) (pe_ix ix_list (pe_lst (pa_cons pe_int (pa_cons pe_int (pa_cons pe_int (pa_cons pe_int (pa_cons pe_int (pa_cons pe_int (pa_cons pe_int (pa_cons pe_int pa_nil))))))))) (pe_call G_ldraw hr (by rfl) T.m_ldraw F_ldraw.kp b_ldraw .nil pass0 (pa_cons (pv 0) (pa_cons pe_int pa_nil))) (fun _ _ => rfl)))
  (pss_cons (ps_set (i := 3) sc_loffice.nd rfl (.inr rfl) (pe_call G_ldraw hr (by rfl) T.m_ldraw F_ldraw.kp b_ldraw .nil pass0 (pa_cons (pv 0) (pa_cons pe_int pa_nil))))
  (pss_cons (ps_set (i := 4) sc_loffice.nd rfl (.inr rfl) (pe_ix ix_list (pe_lst (pa_cons pe_int (pa_cons pe_int (pa_cons pe_int (pa_cons pe_int pa_nil))))) (pe_call G_ldraw hr (by rfl) T.m_ldraw F_ldraw.kp b_ldraw .nil pass0 (pa_cons (pv 0) (pa_cons pe_int pa_nil))) (fun _ _ => rfl)))
  (pss_cons (ps_setLc (i := 5) (own := [("_law_k", 6)]) (g := (gName 6)) (by rfl) sc_loffice.nd rfl rfl (sw_true rfl rfl rfl (by decide +kernel)) (pi_range1 (by rfl) T.range (pa_cons (pv 2) pa_nil)) (blkOk_by (own := [("_law_k", 6)]) (N := ["_law_tape_here", "_law_words", "_law_many", "_law_first", "_law_step", "_law_places", "_law_k", "_law_roads", "_law_one", "_law_other", "_law_worths"]) (sc := defScope s_loffice) (by decide +kernel)) (fun _ _ _ _ _ => (pg_name (i := 6) sc_loffice.nd rfl (.inl rfl))) (fun _ _ _ _ _ => pts_nil) (fun _ _ _ _ _ => (pe_ix (show IxR _ (rIxL K) from ix_list) (pv 1) (pe_op op_modN (pe_op op_add (pv 3) (pe_op op_mul (pv 4) (pv 6))) pe_int) (fun _ _ => rfl))))
  (pss_cons (ps_set (i := 7) sc_loffice.nd rfl (.inl rfl) (pe_lst pa_nil))
  (pss_cons (ps_for PassesOwn.never rfl (pi_range1 (by rfl) T.range (pa_cons (pe_op op_add pe_int (pe_call G_ldraw hr (by rfl) T.m_ldraw F_ldraw.kp b_ldraw .nil pass0 (pa_cons (pv 0) (pa_cons pe_int pa_nil)))) pa_nil)) (pg_name (i := 6) sc_loffice.nd rfl (.inl rfl))
  (pss_cons (ps_set (i := 8) sc_loffice.nd rfl (.inr rfl) (pe_ix ix_list (pe_op op_cat (pe_lst (pa_cons pe_str pa_nil)) (pv 5)) (pe_call G_ldraw hr (by rfl) T.m_ldraw F_ldraw.kp b_ldraw .nil pass0 (pa_cons (pv 0) (pa_cons (pe_op op_add (pv 2) pe_int) pa_nil))) (fun _ _ => rfl)))
  (pss_cons (ps_set (i := 9) sc_loffice.nd rfl (.inl rfl) (pe_ix ix_list (pv 5) (pe_call G_ldraw hr (by rfl) T.m_ldraw F_ldraw.kp b_ldraw .nil pass0 (pa_cons (pv 0) (pa_cons (pv 2) pa_nil))) (fun _ _ => rfl)))
  (pss_one (ps_if (PW.pt (pw_and (pt_cmpR op_ne (pv 8) (pv 9) (nomark _)) (pw_and1 (pt_cmpR (op_notinLP hr) (pe_tup (pa_cons (pv 8) (pa_cons (pv 9) pa_nil))) (pv 7) (by rfl)))))
  (pss_one (ps_expr (pe_bm PySem.F.plainAttrs_list PySem.F.slot_list_append PySem.F.type_list_append mt_append (pv 7) (pa_cons (pe_tup (pa_cons (pv 8) (pa_cons (pv 9) pa_nil))) pa_nil))))
  pss_nil)))))
  (C8.pss_cut (ps_if (pt_cmpR (op_eqP hr) (pv 7) (pe_lst pa_nil) (nomark _))
  (pss_one (ps_expr (pe_bm PySem.F.plainAttrs_list PySem.F.slot_list_append PySem.F.type_list_append mt_append (pv 7) (pa_cons (pe_tup (pa_cons pe_str (pa_cons (pe_ix ix_list (pv 5) pe_int (fun _ _ => rfl)) pa_nil))) pa_nil))))
  pss_nil)
  (C8.pss_cut (ps_if (pt_cmpR op_eq (pe_call G_ldraw hr (by rfl) T.m_ldraw F_ldraw.kp b_ldraw .nil pass0 (pa_cons (pv 0) (pa_cons pe_int pa_nil))) pe_int (nomark _))
  (pss_cons (ps_set (i := 7) sc_loffice.nd rfl (.inl rfl) (pe_lst pa_nil))
  (pss_cons (ps_for PassesOwn.never rfl (pi_list (pe_op op_cat (pe_lst (pa_cons pe_str pa_nil)) (pv 5))) (pg_name (i := 8) sc_loffice.nd rfl (.inr rfl))
  (pss_one (ps_expr (pe_bm PySem.F.plainAttrs_list PySem.F.slot_list_extend PySem.F.type_list_extend mt_extend (pv 7) (pa_cons (pe_lc (own := [("_law_other", 9)]) (g := (gName 9)) (by rfl) sc_loffice.nd (pi_list (pv 5)) (blkOk_by (own := [("_law_other", 9)]) (N := ["_law_tape_here", "_law_words", "_law_many", "_law_first", "_law_step", "_law_places", "_law_k", "_law_roads", "_law_one", "_law_other", "_law_worths"]) (sc := defScope s_loffice) (by decide +kernel)) (fun _ _ _ _ _ => (pg_name (i := 9) sc_loffice.nd rfl (.inl rfl))) (fun _ _ _ _ _ => (pts_one (pt_cmpR op_ne (pv 9) (pv 8) (nomark _)))) (fun _ _ _ _ _ => (pe_tup (pa_cons (pv 8) (pa_cons (pv 9) pa_nil))))) pa_nil)))))
  (pss_one (ps_set (i := 7) sc_loffice.nd rfl (.inl rfl) (pe_slice sl_list (pv 7) po_none (po_some pe_int))))))
  pss_nil)
  (pss_cons (ps_set (i := 10) sc_loffice.nd rfl (.inl rfl) (pe_lst pa_nil))
  (pss_cons (ps_for PassesOwn.never rfl (pi_list (pe_slice sl_list (pe_lst (pa_cons pe_str (pa_cons pe_str (pa_cons pe_str (pa_cons pe_str pa_nil))))) po_none (po_some (pe_op op_add pe_int (pe_call G_ldraw hr (by rfl) T.m_ldraw F_ldraw.kp b_ldraw .nil pass0 (pa_cons (pv 0) (pa_cons pe_int pa_nil))))))) (pg_name (i := 8) sc_loffice.nd rfl (.inr rfl))
  (pss_one (ps_expr (pe_bm PySem.F.plainAttrs_list PySem.F.slot_list_append PySem.F.type_list_append mt_append (pv 10) (pa_cons (pe_tup (pa_cons (pv 8) (pa_cons (pe_ix ix_list (pe_lst (pa_cons pe_int (pa_cons pe_int (pa_cons pe_int (pa_cons (pe_op op_add pe_int (pe_call G_ldraw hr (by rfl) T.m_ldraw F_ldraw.kp b_ldraw .nil pass0 (pa_cons (pv 0) (pa_cons pe_int pa_nil)))) pa_nil))))) (pe_call G_ldraw hr (by rfl) T.m_ldraw F_ldraw.kp b_ldraw .nil pass0 (pa_cons (pv 0) (pa_cons pe_int pa_nil))) (fun _ _ => rfl)) pa_nil))) pa_nil)))))
  (pss_one (ps_ret (pe_tup (pa_cons (pe_callTy call_tuple_of (by rfl) T.tuple (by decide +kernel) (pa_cons (pv 10) pa_nil)) (pa_cons (pe_callTy call_tuple_of (by rfl) T.tuple (by decide +kernel) (pa_cons (pe_callB (cr_sortedD hr) (by rfl) T.sorted (by decide +kernel) (pa_cons (pv 7) pa_nil)) pa_nil)) pa_nil)))))))))))))))), ?_⟩
  refine ⟨(show 10 ≤ sizeLine by decide), fun W hW => ?_⟩
  have fW := hf.new (o := .lst (gWords.map V.str)) hW
  have neW := hf.ne hW
  have B0 : But f H (upd H W (.lst (gWords.map V.str))) := But.new hW
  have hW1 : upd H W (.lst (gWords.map V.str)) W = some (.lst (gWords.map V.str)) := upd_same
  change tSeq _ _ _ _ (upd H W (.lst (gWords.map V.str)))
  generalize upd H W (.lst (gWords.map V.str)) = H0 at *
  refine ⟨(show 8 ≤ sizeLine by decide), fun la hla => ?_⟩
  refine ⟨_, rfl, f, c, 8, n, rfl, fW.new hla, by omega, by decide, by decide, fun d1 H1 d10 d11 hf1 b1 => ?_⟩
  obtain ⟨m, m0, m1, am⟩ := few8 d10 d11
  have hla1 := b1 _ _ ((fW.ne hla).1) upd_same
  refine ⟨la, _, _, _, rfl, rfl, SqL.of hla1, am, ?_⟩
  refine ⟨_, rfl, f, c, 10, n + 1, rfl, hf1, by omega, by decide, by decide, fun d2 H2 d20 d21 hf2 b2 => ?_⟩
  refine ⟨(show 4 ≤ sizeLine by decide), fun lb hlb => ?_⟩
  refine ⟨_, rfl, f, c, 4, n + 1 + 1, rfl, hf2.new hlb, by omega, by decide, by decide, fun d3 H3 d30 d31 hf3 b3 => ?_⟩
  obtain ⟨st, st0, st1, ast⟩ := few4 d30 d31
  have hlb1 := b3 _ _ ((hf2.ne hlb).1) upd_same
  refine ⟨lb, _, _, _, rfl, rfl, SqL.of hlb1, ast, ?_⟩
  have B3 : But f H H3 := B0.trans ((But.new hla).trans (b1.trans (b2.trans ((But.new hlb).trans b3))))
  have hW3 : H3 W = some (.lst (gWords.map V.str)) := ((But.new hla).trans (b1.trans (b2.trans ((But.new hlb).trans b3)))) _ _ neW.1 hW1
  clear hla1 hlb1 am ast b1 b2 b3 hf1 hf2 B0
  refine ⟨_, rfl, m, rfl, by omega, by omega, fun D hD => ?_⟩
  have neD := hf3.ne hD
  refine lc_range (lo := 0) (n := m.toNat) (fun i H' => ∃ xs : List Str, Same H3 H' ∧ H' D = some (.lst (xs.map V.str)) ∧ xs.length = i ∧ ∀ x ∈ xs, x ∈ gWords) ⟨[], same_new hD _, upd_same, rfl, fun _ h => nomatch h⟩ ?_ ?_
  · rintro i H' hi ⟨xs, S, hD', len, ok⟩
    have w0 := mod_lo (d2 + st * (0 + (i : Int))) 10 (by decide)
    have w1 := mod_hi (d2 + st * (0 + (i : Int))) 10 (by decide)
    obtain ⟨nm, nm1, nm2⟩ := pick_str (xs := gWords) w0 w1
    refine ⟨rfl, _, rfl, _, rfl, _, rfl, _, rfl, _, _, rfl, rfl, .inl ⟨by omega, by omega⟩, _, _, rfl, rfl, _, _, rfl, rfl, (by show (10 : Int) ≠ 0; decide), W, _, _, _, rfl, rfl, SqL.of (S _ _ hW3), nm2, _, hD', ?_, xs ++ [nm], same_mut S hD, ?_, ?_, fun y hy => ?_⟩
    · rw [List.length_map, len]
      exact Nat.lt_of_lt_of_le (show _ < 100 by omega) (by decide)
    · rw [upd_same, List.map_append]
      rfl
    · rw [List.length_append, List.length_singleton, len]
    · rcases List.mem_append.mp hy with hy | hy
      · exact ok y hy
      · rw [List.mem_singleton.mp hy]
        exact nm1
  rintro H4 ⟨xs, S4, hD4, len, okx⟩
  have hf4 := hf3.same S4
  have B4 : But f H H4 := B3.trans (But.of_same S4)
  clear S4 hf3 hW3 B3 hD
  have xl : (xs.length : Int) = m := by omega
  generalize hH5 : H4 = H5 at *
  clear hH5
  refine ⟨(show 0 ≤ sizeLine by decide), fun R hR => ?_⟩
  refine ⟨_, rfl, f, c, 16, n + 1 + 1 + 1, rfl, hf4.new hR, by omega, by decide, by decide, fun d4 H6 d40 d41 hf6 b6 => ⟨_, _, rfl, rfl, 1 + d4, rfl, by omega, by omega, ?_⟩⟩
  have neR := hf4.ne hR
  have B6 : But f H5 H6 := (But.new hR).trans b6
  refine for_range (lo := 0) (n := (1 + d4).toNat) (fun i σ H' => ∃ (ps : List Addr) (es : List Ed) (v6 v8 v9 v10 : Option V), σ = [some (.ref f), some (.ref W), some (.int m), some (.int d2), some (.int st), some (.ref D), v6, some (.ref R), v8, v9, v10] ∧ Fd H' f c (n + 4 + 2 * i) ∧ But f H5 H' ∧ H' R = some (.lst (ps.map V.ref)) ∧ Rds H' ps es ∧ es.length ≤ i ∧ ∀ e ∈ es, EdOk e) ?_ ?_ ?_
  · exact ⟨[], [], none, none, none, none, rfl, hf6.mono (by omega), B6, b6 _ _ neR.1 upd_same, .nil, Nat.le_refl _, fun _ h => nomatch h⟩
  · rintro i σ H7 hi ⟨ps, es, v6, v8, v9, v10, rfl, hf7, B7, hR7, rd7, le7, ok7⟩
    have rl := rd7.len
    refine ⟨(show 1 ≤ sizeLine by decide), fun p1 hp1 => ?_⟩
    have Np1 := same_new hp1 (.lst [.str gNone])
    have hD7 := B7 _ _ neD.1 hD4
    refine ⟨_, rfl, p1, D, _, _, rfl, rfl, upd_same, Np1 _ _ hD7, ?_, fun p2 hp2 => ?_⟩
    · rw [List.length_map]
      exact Nat.le_trans (show 1 + xs.length ≤ 100 by omega) (by decide)
    have Np2 := same_new hp2 (.lst ([.str gNone] ++ xs.map V.str))
    have N12 := Np1.trans Np2
    have fd12 := hf7.same N12
    have ne2 := (hf7.same Np1).ne hp2
    refine ⟨_, rfl, _, rfl, _, _, rfl, rfl, f, c, m + 1, _, rfl, fd12, by omega, by omega, by omega, fun e1 H8 e10 e11 hf8 b8 => ?_⟩
    obtain ⟨one, one1, one2⟩ := pick_str (xs := gNone :: xs) (d := e1) e10 (by rw [List.length_map, List.length_cons]; omega)
    refine ⟨p2, _, _, _, rfl, rfl, SqL.of (b8 _ _ ne2.1 upd_same), one2, ?_⟩
    have B8 : But f H5 H8 := B7.trans ((But.of_same N12).trans b8)
    have hR8 := b8 _ _ neR.1 (N12 _ _ hR7)
    have rd8 := (rd7.same N12).but fd12 b8
    have hD8 := B8 _ _ neD.1 hD4
    refine ⟨_, rfl, _, rfl, _, rfl, f, c, m, _, rfl, hf8, by omega, by omega, by omega, fun e2 H9 e20 e21 hf9 b9 => ?_⟩
    obtain ⟨oth, oth1, oth2⟩ := pick_str (xs := xs) (d := e2) e20 (by rw [List.length_map]; omega)
    have B9 := B8.trans b9
    have hR9 := b9 _ _ neR.1 hR8
    have rd9 := rd8.but hf8 b9
    have hD9 := B9 _ _ neD.1 hD4
    refine ⟨D, _, _, _, rfl, rfl, SqL.of hD9, oth2, ?_⟩
    have ok1 : NmOk one := by
      rcases List.mem_cons.mp one1 with rfl | z
      · exact gn_ok
      · exact (gw_ok _ (okx _ z)).1
    have ok2 : NmOk oth := (gw_ok _ (okx _ oth1)).1
    refine ⟨_, rfl, _, rfl, rfl, _, rfl, ?_⟩
    refine ite2 (fun c1 => ?_) (fun c1 => ?_)
    · have c1 : one ≠ oth := fun z => by
        rw [z] at c1
        simp at c1
      refine ⟨_, rfl, _, rfl, (show 2 ≤ sizeLine by decide), fun u hu => ?_⟩
      have Nu := same_new hu (.tup [.str one, .str oth])
      have hR10 := Nu _ _ hR9
      have rd10 := rd9.same Nu
      have fd10 := hf9.same Nu
      refine ⟨_, rfl, edD (one, oth), es.map edD, .tup (SqT.of upd_same) (.cons (.str _) (.cons (.str _) .nil)), .lst (SqL.of hR10) rd10.dp, rfl, ed_plain _, ed_dep _, _, rfl, ?_⟩
      refine ite2 (fun c2 => ?_) (fun c2 => ?_)
      · refine ⟨_, rfl, .inl ⟨rfl, _, SqL.of hR10⟩, _, rfl, _, rfl, (show 2 ≤ sizeLine by decide), fun t ht => ?_⟩
        have Nt := same_new ht (.tup [.str one, .str oth])
        have hR11 := Nt _ _ hR10
        refine ⟨R, _, _, rfl, rfl, hR11, ?_, ?_⟩
        · rw [List.length_map, rl]
          exact Nat.lt_of_le_of_lt (show _ ≤ 100 by omega) (by decide)
        refine ⟨ps ++ [t], es ++ [(one, oth)], _, _, _, _, rfl, ((fd10.same Nt).upd neR).mono (by omega), ((B9.trans (But.of_same (Nu.trans Nt))).mut hR), ?_, ?_, ?_, fun e he => ?_⟩
        · rw [upd_same, List.map_append]
          rfl
        · exact Rds.put hR11 ((rd10.same Nt).app (Rds.mk1 upd_same))
        · rw [List.length_append, List.length_singleton]
          omega
        · rcases List.mem_append.mp he with he | he
          · exact ok7 e he
          · rw [List.mem_singleton.mp he]
            exact ⟨ok1, ok2, c1⟩
      · exact ⟨ps, es, _, _, _, _, rfl, fd10.mono (by omega), B9.trans (But.of_same Nu), hR10, rd10, by omega, ok7⟩
    · exact ⟨ps, es, _, _, _, _, rfl, hf9.mono (by omega), B9, hR9, rd9, by omega, ok7⟩
  rintro σ H7 ⟨ps, es, v6, v8, v9, v10, rfl, hf7, B7, hR7, rd7, le7, ok7⟩
  have hx0 : ∃ x0, x0 ∈ xs ∧ atI (xs.map V.str) ((0 : Nat) : Int) = some (.str x0) := by
    obtain ⟨y, y1, y2⟩ := pick_str (xs := xs) (d := ((0 : Nat) : Int)) (by decide) (by rw [List.length_map]; omega)
    exact ⟨y, y1, y2⟩
  obtain ⟨x0, x01, x02⟩ := hx0
  refine ⟨fun σ H' => ∃ (R : Addr) (ps : List Addr) (es : List Ed) (v6 v8 v9 v10 : Option V), σ = [some (.ref f), some (.ref W), some (.int m), some (.int d2), some (.int st), some (.ref D), v6, some (.ref R), v8, v9, v10] ∧ Fd H' f c (n + 40) ∧ But f H5 H' ∧ H' R = some (.lst (ps.map V.ref)) ∧ R ≠ f ∧ R ≠ c ∧ H5 R = none ∧ Rds H' ps es ∧ es.length ≤ 16 ∧ (∀ e ∈ es, EdOk e) ∧ 0 < es.length, ?_, ?_⟩
  · have hD7 := B7 _ _ neD.1 hD4
    refine ⟨_, rfl, (show 0 ≤ sizeLine by decide), fun e0 he0 => ?_⟩
    have Nz := same_new he0 (.lst [])
    have hR8 := Nz _ _ hR7
    have rd8 := rd7.same Nz
    refine ⟨.list (es.map edD), .list [], .lst (SqL.of hR8) rd8.dp, .lst (SqL.of upd_same) .nil, ed_plain _, rfl, eds_depth _, _, rfl, ?_⟩
    refine ite2 (fun c1 => ?_) (fun c1 => ?_)
    · have es0 : es = [] := by
        cases es with
        | nil => rfl
        | cons x l => exact absurd c1 (by simp [PyData.eqv, PyData.eqvAll])
      have rl := rd7.len
      have ps0 : ps = [] := by
        cases ps with
        | nil => rfl
        | cons x l => rw [es0] at rl; cases rl
      subst es0 ps0
      refine ⟨_, rfl, .inl ⟨rfl, _, SqL.of hR8⟩, _, rfl, D, _, _, _, rfl, rfl, SqL.of (Nz _ _ hD7), x02, (show 2 ≤ sizeLine by decide), fun t ht => ?_⟩
      have Nt := same_new ht (.tup [.str gNone, .str x0])
      have hR9 := Nt _ _ hR8
      refine ⟨R, _, _, rfl, rfl, hR9, (show 0 < sizeLine by decide), ?_⟩
      refine ⟨R, [t], [(gNone, x0)], _, _, _, _, rfl, (((hf7.same Nz).same Nt).upd neR).mono (by omega), ((B7.trans (But.of_same (Nz.trans Nt))).mut hR), upd_same, neR.1, neR.2, hR, ?_, (show 1 ≤ 16 by decide), fun e he => ?_, Nat.succ_pos _⟩
      · exact Rds.put hR9 (Rds.mk1 upd_same)
      · rw [List.mem_singleton.mp he]
        exact ⟨gn_ok, (gw_ok _ (okx _ x01)).1, Ne.symm (gw_ok _ (okx _ x01)).2⟩
    · refine ⟨R, ps, es, _, _, _, _, rfl, (hf7.same Nz).mono (by omega), B7.trans (But.of_same Nz), hR8, neR.1, neR.2, hR, rd8, by omega, ok7, ?_⟩
      cases es with
      | nil => exact absurd rfl c1
      | cons x l => exact Nat.succ_pos _
  clear rd7 ok7 hR7 hf7 B7 le7 hR neR hf6 b6 B6
  rintro σ H7 ⟨R, ps, es, v6, v8, v9, v10, rfl, hf7, B7, hR7, Rf, Rc, R5, rd7, le7, ok7, pos7⟩
  refine ⟨fun σ H' => ∃ (R : Addr) (ps : List Addr) (es : List Ed) (v6 v8 v9 v10 : Option V), σ = [some (.ref f), some (.ref W), some (.int m), some (.int d2), some (.int st), some (.ref D), v6, some (.ref R), v8, v9, v10] ∧ Fd H' f c (n + 42) ∧ But f H5 H' ∧ H' R = some (.lst (ps.map V.ref)) ∧ R ≠ f ∧ R ≠ c ∧ H5 R = none ∧ Rds H' ps es ∧ es.length ≤ 16 ∧ (∀ e ∈ es, EdOk e) ∧ 0 < es.length, ?_, ?_⟩
  · refine ⟨_, rfl, f, c, 2, _, rfl, hf7, by omega, by decide, by decide, fun e1 H8 e10 e11 hf8 b8 => ?_⟩
    have B8 := B7.trans b8
    have hR8 := b8 _ _ Rf hR7
    have rd8 := rd7.but hf7 b8
    refine ⟨rfl, _, rfl, ?_⟩
    refine ite2 (fun c1 => ?_) (fun c1 => ?_)
    · have hD8 := B8 _ _ neD.1 hD4
      refine ⟨(show 0 ≤ sizeLine by decide), fun Z hZ => ?_⟩
      have NZ := same_new hZ (.lst [])
      have fZ := hf8.same NZ
      have neZ := hf8.ne hZ
      have Z5 := B8.back hf8 hZ
      have BZ := B8.trans (But.of_same NZ (f := f))
      have hZ0 : upd H8 Z (.lst []) Z = some (.lst []) := upd_same
      have hDZ := NZ _ _ hD8
      generalize upd H8 Z (HO.lst []) = HZ at *
      refine ⟨(show 1 ≤ sizeLine by decide), fun p1 hp1 => ?_⟩
      have Np1 := same_new hp1 (.lst [.str gNone])
      refine ⟨_, rfl, p1, D, _, _, rfl, rfl, upd_same, Np1 _ _ hDZ, ?_, fun p2 hp2 => ?_⟩
      · rw [List.length_map]
        exact Nat.le_trans (show 1 + xs.length ≤ 100 by omega) (by decide)
      have Np2 := same_new hp2 (.lst ([.str gNone] ++ xs.map V.str))
      have N12 := Np1.trans Np2
      have hp20 : upd (upd HZ p1 (.lst [.str gNone])) p2 (.lst ([.str gNone] ++ xs.map V.str)) p2 = some (.lst ((gNone :: xs).map V.str)) := upd_same
      have Z2 : Z ≠ p2 := ne_of_none (Np1 _ _ hZ0) hp2
      refine ⟨p2, rfl, ⟨_, SqL.of upd_same⟩, ?_⟩
      refine for_list (K := K) (a := p2) (xs := (gNone :: xs).map V.str) (fun i σ H' => ∃ (ps : List Addr) (es : List Ed) (v6 v8 v9 v10 : Option V), σ = [some (.ref f), some (.ref W), some (.int m), some (.int d2), some (.int st), some (.ref D), v6, some (.ref Z), v8, v9, v10] ∧ Fd H' f c (n + 42) ∧ But f H5 H' ∧ H' Z = some (.lst (ps.map V.ref)) ∧ H' p2 = some (.lst ((gNone :: xs).map V.str)) ∧ Rds H' ps es ∧ es.length ≤ 8 * i ∧ (∀ e ∈ es, EdOk e) ∧ (0 < i → 0 < es.length)) ?_ ?_ ?_ ?_
      · exact ⟨[], [], _, _, _, _, rfl, (fZ.same N12).mono (by omega), BZ.trans (But.of_same N12), N12 _ _ hZ0, hp20, .nil, Nat.le_refl _, (fun _ h => nomatch h), fun z => absurd z (Nat.lt_irrefl _)⟩
      · rintro i σ H' _ ⟨_, _, _, _, _, _, _, _, _, _, h, _⟩
        exact SqL.of h
      · rintro i y σ H9 hy ⟨ps, es, v6, v8, v9, v10, rfl, hf9, B9, hZ9, hp9, rd9, le9, ok9, pos9⟩
        obtain ⟨one, hone, rfl⟩ : ∃ one, (gNone :: xs)[i]? = some one ∧ y = V.str one := by
          rw [List.getElem?_map] at hy
          cases e' : (gNone :: xs)[i]? with
          | none => rw [e'] at hy; cases hy
          | some p => rw [e'] at hy; exact ⟨p, rfl, (Option.some.inj hy).symm⟩
        have hi9 := (List.getElem?_eq_some_iff.mp hone).1
        rw [List.length_cons] at hi9
        have ok1 : NmOk one := by
          rcases List.mem_cons.mp (List.mem_of_getElem? hone) with rfl | z
          · exact gn_ok
          · exact (gw_ok _ (okx _ z)).1
        have hD9 := B9 _ _ neD.1 hD4
        have rl := rd9.len
        refine ⟨_, rfl, .inl ⟨rfl, _, SqL.of hZ9⟩, _, rfl, D, rfl, ⟨_, SqL.of hD9⟩, fun C hC => ?_⟩
        have ZC : Z ≠ C := ne_of_none hZ9 hC
        refine lc_list (K := K) (a := D) (xs := xs.map V.str) (fun j H' => ∃ (qs : List Addr) (ts : List Ed), Same H9 H' ∧ H' C = some (.lst (qs.map V.ref)) ∧ Rds H' qs ts ∧ ts.length ≤ j ∧ (∀ e ∈ ts, EdOk e) ∧ (one = gNone → ts.length = j)) ⟨[], [], same_new hC _, upd_same, .nil, Nat.le_refl _, (fun _ h => nomatch h), fun _ => rfl⟩ (fun j H' _ h => by obtain ⟨_, _, S, _⟩ := h; exact SqL.of (S _ _ hD9)) ?_ ?_
        · rintro j z H10 hz ⟨qs, ts, S10, hC10, rd10, le10, ok10, all10⟩
          obtain ⟨oth, hoth, rfl⟩ : ∃ oth, (xs)[j]? = some oth ∧ z = V.str oth := by
            rw [List.getElem?_map] at hz
            cases e' : (xs)[j]? with
            | none => rw [e'] at hz; cases hz
            | some p => rw [e'] at hz; exact ⟨p, rfl, (Option.some.inj hz).symm⟩
          have hj := (List.getElem?_eq_some_iff.mp hoth).1
          have ql := rd10.len
          refine ⟨rfl, _, rfl, _, rfl, rfl, _, rfl, ?_⟩
          refine ite2 (fun c2 => ?_) (fun c2 => ?_)
          · have c2 : one ≠ oth := fun z => by
              rw [z] at c2
              simp at c2
            refine ⟨_, rfl, _, rfl, (show 2 ≤ sizeLine by decide), fun t ht => ?_⟩
            have Nt := same_new ht (.tup [.str one, .str oth])
            have hC11 := Nt _ _ hC10
            refine ⟨_, hC11, ?_, qs ++ [t], ts ++ [(one, oth)], same_mut (S10.trans Nt) hC, ?_, ?_, ?_, fun e he => ?_, fun z => by rw [List.length_append, List.length_singleton, all10 z]⟩
            · rw [List.length_map, ql]
              exact Nat.lt_of_le_of_lt (show _ ≤ 100 by omega) (by decide)
            · rw [upd_same, List.map_append]
              rfl
            · exact Rds.put hC11 ((rd10.same Nt).app (Rds.mk1 upd_same))
            · rw [List.length_append, List.length_singleton]
              omega
            · rcases List.mem_append.mp he with he | he
              · exact ok10 e he
              · rw [List.mem_singleton.mp he]
                exact ⟨ok1, (gw_ok _ (okx _ (List.mem_of_getElem? hoth))).1, c2⟩
          · exact ⟨qs, ts, S10, hC10, rd10, by omega, ok10, fun z => (c2 (by
              have w : ¬ V.str oth = V.str one := fun k => (gw_ok _ (okx _ (List.mem_of_getElem? hoth))).2 ((V.str.inj k).trans z)
              show (!decide (V.str oth = V.str one)) = true
              simp [w])).elim⟩
        · rintro H10 ⟨qs, ts, S10, hC10, rd10, le10, ok10, all10⟩
          have ql := rd10.len
          rw [List.length_map] at le10
          have hZ10 := S10 _ _ hZ9
          refine ⟨Z, C, _, _, rfl, rfl, hZ10, hC10, ?_, ps ++ qs, es ++ ts, _, _, _, _, rfl, (hf9.same S10).upd neZ, (B9.trans (But.of_same S10)).mut Z5, ?_, (upd_ne (Ne.symm Z2)).trans (S10 _ _ hp9), ?_, ?_, fun e he => ?_, fun _ => ?_⟩
          · rw [List.length_map, List.length_map, rl, ql]
            exact Nat.le_trans (show _ ≤ 1000 by omega) (by decide)
          · rw [upd_same, List.map_append]
          · exact Rds.put hZ10 ((rd9.same S10).app rd10)
          · rw [List.length_append]
            omega
          · rcases List.mem_append.mp he with he | he
            · exact ok9 e he
            · exact ok10 e he
          · rw [List.length_append]
            by_cases z : 0 < i
            · have := pos9 z
              omega
            · have i0 : i = 0 := by omega
              subst i0
              have eo : one = gNone := by
                have z : some gNone = some one := hone
                exact (Option.some.inj z).symm
              have := all10 eo
              rw [List.length_map] at this
              omega
      · rintro σ H9 ⟨ps, es, v6, v8, v9, v10, rfl, hf9, B9, hZ9, hp9, rd9, le9, ok9, pos9⟩
        refine ⟨_, rfl, _, rfl, Z, _, rfl, SqL.of hZ9, fun Y hY => ?_⟩
        have NY := same_new hY (.lst (cutV (ps.map V.ref) none (some 16)))
        have neY := hf9.ne hY
        have e16 : cutV (ps.map V.ref) none (some 16) = (ps.take 16).map V.ref := (cut_take _ 16).trans (List.map_take).symm
        refine ⟨Y, ps.take 16, es.take 16, _, _, _, _, rfl, hf9.same NY, B9.trans (But.of_same NY), by rw [upd_same, e16], neY.1, neY.2, B9.back hf9 hY, (rd9.same NY).take 16, List.length_take_le _ _, fun e he => ok9 e (List.mem_of_mem_take he), by rw [List.length_take]; have := pos9 (by rw [List.length_map, List.length_cons]; exact Nat.succ_pos _); omega⟩
    · exact ⟨R, ps, es, _, _, _, _, rfl, hf8.mono (by omega), B8, hR8, Rf, Rc, R5, rd8, le7, ok7, pos7⟩
  clear rd7 ok7 hR7 hf7 B7 le7 Rf Rc R5
  rintro σ H7 ⟨R, ps, es, v6, v8, v9, v10, rfl, hf7, B7, hR7, Rf, Rc, R5, rd7, le7, ok7, pos7⟩
  refine ⟨(show 0 ≤ sizeLine by decide), fun Q2 hQ2 => ?_⟩
  have N1 := same_new hQ2 (.lst [])
  have neQ := hf7.ne hQ2
  have fd1 := hf7.same N1
  refine ⟨(show 4 ≤ sizeLine by decide), fun l0 hl0 => ?_⟩
  have N2 := same_new hl0 (.lst (gSer.map V.str))
  have fd2 := fd1.same N2
  have nel := fd1.ne hl0
  refine ⟨_, rfl, f, c, 4, _, rfl, fd2, by omega, by decide, by decide, fun d5 H8 d50 d51 hf8 b8 => ⟨_, _, rfl, rfl, _, rfl, l0, _, rfl, SqL.of (b8 _ _ nel.1 upd_same), fun l1 hl1 => ?_⟩⟩
  obtain ⟨k5, hk5⟩ : ∃ k : Nat, 1 + d5 = (k : Int) := ⟨(1 + d5).toNat, by omega⟩
  have ecut : cutV (gSer.map V.str) none (some (1 + d5)) = (gSer.take k5).map V.str := by
    rw [hk5]
    exact (cut_take _ k5).trans (List.map_take).symm
  have N3 := same_new hl1 (.lst (cutV (gSer.map V.str) none (some (1 + d5))))
  have hl10 : upd H8 l1 (.lst (cutV (gSer.map V.str) none (some (1 + d5)))) l1 = some (.lst ((gSer.take k5).map V.str)) := by rw [upd_same, ecut]
  have B9 : But f H7 (upd H8 l1 (.lst (cutV (gSer.map V.str) none (some (1 + d5))))) := (But.of_same (N1.trans N2)).trans (b8.trans (But.of_same N3))
  have fd9 := hf8.same N3
  have hQ9 := N3 _ _ (b8 _ _ neQ.1 (N2 _ _ (upd_same (H := H7) (a := Q2) (o := .lst []))))
  have nel1 := hf8.ne hl1
  have Ql1 : Q2 ≠ l1 := ne_of_none (b8 _ _ neQ.1 (N2 _ _ (upd_same (H := H7) (a := Q2) (o := .lst [])))) hl1
  refine ⟨l1, rfl, ⟨_, SqL.of hl10⟩, ?_⟩
  refine for_list (K := K) (a := l1) (xs := (gSer.take k5).map V.str) (fun i σ H' => ∃ (qs : List Addr) (ws : List Wt) (v6 v8 v9 : Option V), σ = [some (.ref f), some (.ref W), some (.int m), some (.int d2), some (.int st), some (.ref D), v6, some (.ref R), v8, v9, some (.ref Q2)] ∧ Fd H' f c (n + 50 + 2 * i) ∧ But f H7 H' ∧ H' Q2 = some (.lst (qs.map V.ref)) ∧ H' l1 = some (.lst ((gSer.take k5).map V.str)) ∧ Wts H' qs ws ∧ ws.length ≤ i ∧ (∀ w ∈ ws, WtOk w) ∧ ws.map (·.1) = (gSer.take k5).take i) ?_ ?_ ?_ ?_
  · exact ⟨[], [], _, _, _, rfl, fd9.mono (by omega), B9, hQ9, hl10, .nil, Nat.le_refl _, (fun _ h => nomatch h), rfl⟩
  · rintro i σ H' _ ⟨_, _, _, _, _, _, _, _, _, h, _⟩
    exact SqL.of h
  · rintro i y σ H10 hy ⟨qs, ws, v6, v8, v9, rfl, hf10, B10, hQ10, hl10', wt10, le10, ok10, nm10⟩
    obtain ⟨one, hone, rfl⟩ : ∃ one, (gSer.take k5)[i]? = some one ∧ y = V.str one := by
      rw [List.getElem?_map] at hy
      cases e' : (gSer.take k5)[i]? with
      | none => rw [e'] at hy; cases hy
      | some p => rw [e'] at hy; exact ⟨p, rfl, (Option.some.inj hy).symm⟩
    have hi := (List.getElem?_eq_some_iff.mp hone).1
    have hi4 : i < 4 := Nat.lt_of_lt_of_le hi (Nat.le_trans (List.length_take_le' _ _) (show 4 ≤ 4 by decide))
    have ok1 := gs_ok one (List.mem_of_mem_take (List.mem_of_getElem? hone))
    have wl := wt10.len
    refine ⟨_, rfl, .inl ⟨rfl, _, SqL.of hQ10⟩, _, rfl, _, rfl, f, c, 1000, _, rfl, hf10, by omega, by decide, by decide, fun e1 H11 e10 e11 hf11 b11 => ⟨_, _, rfl, rfl, (show 4 ≤ sizeLine by decide), fun lq hlq => ?_⟩⟩
    have Nq := same_new hlq (.lst [.int 1, .int 5, .int 1000000, .int (1 + e1)])
    have fdq := hf11.same Nq
    have neq := hf11.ne hlq
    refine ⟨_, rfl, f, c, 4, _, rfl, fdq, by omega, by decide, by decide, fun e2 H12 e20 e21 hf12 b12 => ?_⟩
    obtain ⟨wv, wv0, wv1, wva⟩ := fewW e20 e21 e10 e11
    have B12 : But f H10 H12 := b11.trans ((But.of_same Nq).trans b12)
    have hQ12 := B12 _ _ neQ.1 hQ10
    have wt12 := wt10.but hf10 B12
    refine ⟨lq, _, _, _, rfl, rfl, SqL.of (b12 _ _ neq.1 upd_same), wva, (show 2 ≤ sizeLine by decide), fun t ht => ?_⟩
    have Nt := same_new ht (.tup [.str one, .int wv])
    have hQ13 := Nt _ _ hQ12
    refine ⟨Q2, _, _, rfl, rfl, hQ13, ?_, ?_⟩
    · rw [List.length_map, wl]
      exact Nat.lt_of_le_of_lt (show _ ≤ 100 by omega) (by decide)
    refine ⟨qs ++ [t], ws ++ [(one, wv)], _, _, _, rfl, ((hf12.same Nt).upd neQ).mono (by omega), ((B10.trans (B12.trans (But.of_same Nt))).mut hQ2), ?_, (upd_ne (Ne.symm Ql1)).trans (Nt _ _ (B12 _ _ nel1.1 hl10')), ?_, ?_, fun e he => ?_, by rw [List.map_append, nm10, List.take_succ_eq_append_getElem hi, (List.getElem?_eq_some_iff.mp hone).2]; rfl⟩
    · rw [upd_same, List.map_append]
      rfl
    · exact Wts.put hQ13 ((wt12.same Nt).app (Wts.mk1 upd_same))
    · rw [List.length_append, List.length_singleton]
      omega
    · rcases List.mem_append.mp he with he | he
      · exact ok10 e he
      · rw [List.mem_singleton.mp he]
        exact ⟨ok1, wv0, wv1⟩
  rintro σ H10 ⟨qs, ws, v6, v8, v9, rfl, hf10, B10, hQ10, _, wt10, le10, ok10, nm10⟩
  have lk : ((gSer.take k5).map V.str).length ≤ 4 := by
    rw [List.length_map]
    exact List.length_take_le' _ _
  have hR10 := B10 _ _ Rf hR7
  have rd10 := rd7.but hf7 B10
  have B5 : But f H H10 := B4.trans (B7.trans B10)
  refine ⟨_, rfl, Q2, _, rfl, .inl ⟨SqL.of hQ10, fun t1 ht1 => ?_⟩⟩
  have M1 := same_new ht1 (.tup (qs.map V.ref))
  refine ⟨_, rfl, R, _, es.map edD, rfl, SqL.of (M1 _ _ hR10), (rd10.same M1).dp, eds_alike _, eds_sortable _, eds_flat _, fun s1 hs1 => ?_⟩
  obtain ⟨rs, fs, so1, so2, so3, so4⟩ := sort_ed (rd10.same M1)
  rw [so1]
  have M2 := same_new hs1 (.lst (rs.map V.ref))
  refine ⟨s1, _, rfl, .inl ⟨SqL.of upd_same, fun t2 ht2 => ?_⟩⟩
  have M3 := same_new ht2 (.tup (rs.map V.ref))
  refine ⟨(show 2 ≤ sizeLine by decide), fun o ho => ?_⟩
  have M4 := same_new ho (.tup [.ref t1, .ref t2])
  have M34 := M3.trans M4
  have M24 := M2.trans M34
  have M14 := M1.trans M24
  have o0 : H10 o = none := free_of (free_of (free_of ho))
  refine q o ws fs _ ((hf10.same M14).mono (by omega)) (B5.trans (But.of_same M14)) (B5.back hf10 o0) ?_ ?_
  · exact ⟨t1, t2, qs, rs, upd_same, M24 _ _ upd_same, M4 _ _ upd_same, wt10.same M14, so2.same M24⟩
  · rw [List.length_map, List.take_length] at nm10
    exact ⟨⟨by omega, fun e he => ok7 e (so4 e he), by omega, ok10⟩, by omega, k5, by omega, nm10⟩

theorem ok_lnames (F : Fun K "_law_names" "_law_names" s_lnames f_lnames d_lnames) (T : Txt mg f_is_apart f_runs_of f_many_in f_named_by_voids f_counted_bags f_standing_of f_pages_that_are f_counted_pages f_all_steps f_together f_both f_less f_what_is_left f_add_gap f_gaps f_ltape f_ldraw f_loffice f_lnames f_lruns f_lfield f_ldeed f_lbook f_ltold f_lof f_lrows f_ldue f_law)
    (F_ldraw : Fun K "_law_draw" "_law_draw" s_ldraw f_ldraw d_ldraw) (b_ldraw : Binds K d_ldraw ["_law_tape_here", "_law_many"] []) (G_ldraw : FnOk P w K mg base CX0 (1) f_ldraw d_ldraw ["_law_tape_here", "_law_many"] spDrawT) :
    FnOk P w K mg base CX0 (2) f_lnames d_lnames ["_law_tape_here", "_law_many"] spNamesF := by
  refine F.ok sc_lnames (fun vs H Q E h => ?_) (fun cdv A outer s H vs Q E hr h => ?_)

  · obtain ⟨f, c, m, n, rfl, _⟩ := h
    rfl
  obtain ⟨f, c, m, n, rfl, hf, hn, hm, q⟩ := h
  refine ⟨_, (pss_cons (ps_set (i := 2) sc_lnames.nd rfl (.inl rfl) (pe_lst pa_nil))
  (pss_cons (ps_for PassesOwn.never rfl (pi_range1 (by rfl) T.range (pa_cons (pv 1) pa_nil)) (pg_name (i := 3) sc_lnames.nd rfl (.inl rfl))
  (pss_cons (ps_set (i := 4) sc_lnames.nd rfl (.inl rfl) (pe_ix ix_list (pe_lst (pa_cons (pe_call G_ldraw hr (by rfl) T.m_ldraw F_ldraw.kp b_ldraw .nil pass0 (pa_cons (pv 0) (pa_cons pe_int pa_nil))) (pa_cons pe_int (pa_cons pe_int (pa_cons (pe_call G_ldraw hr (by rfl) T.m_ldraw F_ldraw.kp b_ldraw .nil pass0 (pa_cons (pv 0) (pa_cons pe_int pa_nil))) pa_nil))))) (pe_call G_ldraw hr (by rfl) T.m_ldraw F_ldraw.kp b_ldraw .nil pass0 (pa_cons (pv 0) (pa_cons pe_int pa_nil))) (fun _ _ => rfl)))
  (pss_cons (ps_set (i := 5) sc_lnames.nd rfl (.inl rfl) (pe_ix ix_list (pe_lst (pa_cons pe_int (pa_cons (pe_call G_ldraw hr (by rfl) T.m_ldraw F_ldraw.kp b_ldraw .nil pass0 (pa_cons (pv 0) (pa_cons pe_int pa_nil))) (pa_cons pe_int pa_nil)))) (pe_call G_ldraw hr (by rfl) T.m_ldraw F_ldraw.kp b_ldraw .nil pass0 (pa_cons (pv 0) (pa_cons pe_int pa_nil))) (fun _ _ => rfl)))
  (pss_cons (ps_set (i := 6) sc_lnames.nd rfl (.inl rfl) (pe_tup (pa_cons (pv 4) (pa_cons (pv 5) (pa_cons (pe_ix ix_list (pe_lst (pa_cons pe_str (pa_cons pe_str (pa_cons pe_str pa_nil)))) (pe_call G_ldraw hr (by rfl) T.m_ldraw F_ldraw.kp b_ldraw .nil pass0 (pa_cons (pv 0) (pa_cons pe_int pa_nil))) (fun _ _ => rfl)) pa_nil)))))
  (pss_one (ps_if (pt_cmpR (op_notinLP hr) (pv 6) (pv 2) (by rfl))
  (pss_one (ps_expr (pe_bm PySem.F.plainAttrs_list PySem.F.slot_list_append PySem.F.type_list_append mt_append (pv 2) (pa_cons (pv 6) pa_nil))))
  pss_nil))))))
  (pss_one (ps_ret (pe_callB (cr_sortedD hr) (by rfl) T.sorted (by decide +kernel) (pa_cons (pv 2) pa_nil)))))), ?_⟩
  refine ⟨(show 0 ≤ sizeLine by decide), fun R hR => ?_⟩
  have NR := same_new hR (.lst [])
  have neR := hf.ne hR
  refine ⟨_, rfl, m, rfl, by omega, by omega, ?_⟩
  refine for_range (lo := 0) (n := (m : Int).toNat) (fun i σ H' => ∃ (ps : List Addr) (ns : List Nm) (v3 v4 v5 v6 : Option V), σ = [some (.ref f), some (.int m), some (.ref R), v3, v4, v5, v6] ∧ Fd H' f c (n + 6 * i) ∧ But f H H' ∧ H' R = some (.lst (ps.map V.ref)) ∧ Nms H' ps ns ∧ ns.length ≤ i ∧ ns.Nodup ∧ ∀ e ∈ ns, NmF e) ?_ ?_ ?_
  · exact ⟨[], [], none, none, none, none, rfl, (hf.same NR).mono (by omega), But.of_same NR, upd_same, .nil, Nat.le_refl _, List.nodup_nil, fun _ h => nomatch h⟩
  · rintro i σ H1 hi ⟨ps, ns, v3, v4, v5, v6, rfl, hf1, B1, hR1, nm1, len, nd, ok⟩
    refine ⟨_, rfl, f, c, 6, _, rfl, hf1, by omega, by decide, by decide, fun e1 H2 e10 e11 hf2 b2 => ?_⟩
    refine ⟨_, rfl, f, c, 100000, _, rfl, hf2, by omega, by decide, by decide, fun e2 H3 e20 e21 hf3 b3 => ⟨(show 4 ≤ sizeLine by decide), fun la hla => ?_⟩⟩
    refine ⟨_, rfl, f, c, 4, _, rfl, hf3.new hla, by omega, by decide, by decide, fun e3 H4 e30 e31 hf4 b4 => ?_⟩
    obtain ⟨day, d0, d1, dat⟩ := fewD e30 e31 e10 e11 e20 e21
    refine ⟨la, _, _, _, rfl, rfl, SqL.of (b4 _ _ ((hf3.ne hla).1) upd_same), dat, ?_⟩
    have B4 : But f H H4 := B1.trans (b2.trans (b3.trans ((But.new hla).trans b4)))
    have hR4 := (b2.trans (b3.trans ((But.new hla).trans b4))) _ _ neR.1 hR1
    have nm4 := nm1.tk (Tk.butD hf1 (b2.trans (b3.trans ((But.new hla).trans b4))))
    clear dat b4 hf3
    refine ⟨_, rfl, f, c, 3, _, rfl, hf4, by omega, by decide, by decide, fun e4 H5 e40 e41 hf5 b5 => ⟨(show 3 ≤ sizeLine by decide), fun lb hlb => ?_⟩⟩
    refine ⟨_, rfl, f, c, 3, _, rfl, hf5.new hlb, by omega, by decide, by decide, fun e5 H6 e50 e51 hf6 b6 => ?_⟩
    obtain ⟨num, m0, m1, mat⟩ := fewM e50 e51 e40 e41
    refine ⟨lb, _, _, _, rfl, rfl, SqL.of (b6 _ _ ((hf5.ne hlb).1) upd_same), mat, ?_⟩
    have b56 : But f H4 H6 := b5.trans ((But.new hlb).trans b6)
    refine ⟨_, rfl, _, rfl, (show 3 ≤ sizeLine by decide), fun lc hlc => ?_⟩
    refine ⟨_, rfl, f, c, 3, _, rfl, hf6.new hlc, by omega, by decide, by decide, fun e6 H7 e60 e61 hf7 b7 => ?_⟩
    obtain ⟨hand, ha1, ha2⟩ := pick_str (xs := gHands) (d := e6) e60 e61
    refine ⟨lc, _, _, _, rfl, rfl, SqL.of (b7 _ _ ((hf6.ne hlc).1) upd_same), ha2, (show 3 ≤ sizeLine by decide), fun u hu => ?_⟩
    have b47 : But f H4 H7 := b56.trans ((But.new hlc).trans b7)
    have Nu := same_new hu (.tup [.int day, .int num, .str hand])
    have hR7 := Nu _ _ (b47 _ _ neR.1 hR4)
    have nm7 := (nm4.tk (Tk.butD hf4 b47)).tk (Tk.same Nu)
    have B7 := (B4.trans b47).trans (But.of_same Nu (f := f))
    have hf8 := hf7.same Nu
    have pl := nm1.len
    refine ⟨_, rfl, _, rfl, nmD (day, num, hand), ns.map nmD, .tup (SqT.of upd_same) (.cons (.int _) (.cons (.int _) (.cons (.str _) .nil))), .lst (SqL.of hR7) nm7.dp, rfl, nms_plain _, nm_dep _, ?_⟩
    rw [nm_any]
    refine ⟨_, rfl, ?_⟩
    refine ite2 (fun c1 => ?_) (fun c1 => ?_)
    · have c1 : (day, num, hand) ∉ ns := fun z => by simp [z] at c1
      refine ⟨_, rfl, .inl ⟨rfl, _, SqL.of hR7⟩, _, rfl, ?_⟩
      refine ⟨R, _, _, rfl, rfl, hR7, ?_, ps ++ [u], ns ++ [(day, num, hand)], _, _, _, _, rfl, (hf8.upd neR).mono (by omega), B7.mut hR, ?_, ?_, ?_, ?_, fun e he => ?_⟩
      · rw [List.length_map, pl]
        exact Nat.lt_of_le_of_lt (show _ ≤ 100 by omega) (by decide)
      · rw [upd_same, List.map_append]
        rfl
      · exact (nm7.app (Nms.mk1 upd_same)).tk (Tk.put hR7)
      · rw [List.length_append, List.length_singleton]
        omega
      · refine List.nodup_append.mpr ⟨nd, (by simp), fun a ha b hb => ?_⟩
        rw [List.mem_singleton.mp hb]
        rintro rfl
        exact c1 ha
      · rcases List.mem_append.mp he with he | he
        · exact ok e he
        · rw [List.mem_singleton.mp he]
          exact ⟨d0, d1, m0, m1, gh_ok _ ha1⟩
    · exact ⟨ps, ns, _, _, _, _, rfl, hf8.mono (by omega), B7, hR7, nm7, by omega, nd, ok⟩
  rintro σ H1 ⟨ps, ns, v3, v4, v5, v6, rfl, hf1, B1, hR1, nm1, len, nd, ok⟩
  refine ⟨_, rfl, R, _, ns.map nmD, rfl, SqL.of hR1, nm1.dp, nms_alike _, nms_sortable _, fun d hd => ?_, fun s hs => ?_⟩
  · obtain ⟨a, _, rfl⟩ := List.mem_map.mp hd
    exact Nat.le_trans (nm_dep a) (by decide)
  obtain ⟨rs, e1, e2⟩ := sort_paired (F := fun p (g : Nm) => H1 p = some (.tup (nmV g))) nmD nm1
  rw [e1]
  have Ns := same_new hs (.lst (rs.map V.ref))
  refine q s rs (ns.mergeSort (PySem.W.dataLe false nmD)) _ ((hf1.same Ns).mono (by omega)) (B1.trans (But.of_same Ns)) (B1.back hf1 hs) upd_same (Nms.tk (Tk.same Ns) e2) ?_ ?_ (fun e he => ok e (List.mem_mergeSort.mp he)) (nms_sorted ns)
  · rw [List.length_mergeSort]
    omega
  · exact (List.mergeSort_perm _ _).nodup_iff.mpr nd

theorem ok_lruns (F : Fun K "_law_runs" "_law_runs" s_lruns f_lruns d_lruns) (T : Txt mg f_is_apart f_runs_of f_many_in f_named_by_voids f_counted_bags f_standing_of f_pages_that_are f_counted_pages f_all_steps f_together f_both f_less f_what_is_left f_add_gap f_gaps f_ltape f_ldraw f_loffice f_lnames f_lruns f_lfield f_ldeed f_lbook f_ltold f_lof f_lrows f_ldue f_law)
    (F_ldraw : Fun K "_law_draw" "_law_draw" s_ldraw f_ldraw d_ldraw) (b_ldraw : Binds K d_ldraw ["_law_tape_here", "_law_many"] []) (G_ldraw : FnOk P w K mg base CX0 (1) f_ldraw d_ldraw ["_law_tape_here", "_law_many"] spDrawT) :
    FnOk P w K mg base CX0 (2) f_lruns d_lruns ["_law_tape_here", "_law_office_here", "_law_field_here"] spRunsF := by
  refine F.ok sc_lruns (fun vs H Q E h => ?_) (fun cdv A outer s H vs Q E hr h => ?_)

  · obtain ⟨f, c, o, d, n, ws, E1, base, wide, rfl, _⟩ := h
    rfl
  obtain ⟨f, c, o, d, n, ws, E1, base, wide, rfl, hf, hn, hof, okE, hd, ok, q⟩ := h
  refine ⟨_, (pss_cons (ps_asg (pv 2) (pg_tup rfl (pgs_cons (pg_name (i := 3) sc_lruns.nd rfl (.inl rfl)) (pgs_cons (pg_name (i := 4) sc_lruns.nd rfl (.inl rfl)) pgs_nil))))
  (pss_cons (ps_set (i := 5) sc_lruns.nd rfl (.inl rfl) (pe_lst pa_nil))
  (pss_cons (ps_setLc (i := 6) (own := [("_law_one", 7), ("_law_worth", 8)]) (g := (gTup K 2 (gCons (gName 7) (gCons (gName 8) gNil)))) (by rfl) sc_lruns.nd rfl rfl (sw_true rfl rfl rfl (by decide +kernel)) (pi_tup (pe_ix ix_tup (pv 1) pe_int (fun _ _ => rfl))) (blkOk_by (own := [("_law_one", 7), ("_law_worth", 8)]) (N := ["_law_tape_here", "_law_office_here", "_law_field_here", "_law_base", "_law_wide", "_law_found", "_law_some", "_law_one", "_law_worth", "_law_at", "_law_series", "_law_bits", "_law_p", "_law_begin"]) (sc := defScope s_lruns) (by decide +kernel)) (fun _ _ _ _ _ => (pg_tup rfl (pgs_cons (pg_name (i := 7) sc_lruns.nd rfl (.inl rfl)) (pgs_cons (pg_name (i := 8) sc_lruns.nd rfl (.inl rfl)) pgs_nil)))) (fun _ _ _ _ _ => pts_nil) (fun _ _ _ _ _ => (pv 7)))
  (pss_cons (ps_set (i := 9) sc_lruns.nd rfl (.inl rfl) (pe_call G_ldraw hr (by rfl) T.m_ldraw F_ldraw.kp b_ldraw .nil pass0 (pa_cons (pv 0) (pa_cons (pe_callB call_len_seq (by rfl) T.len (by decide +kernel) (pa_cons (pv 6) pa_nil)) pa_nil))))
  (pss_cons (ps_for PassesOwn.never rfl (pi_list (pe_slice sl_list (pv 6) (po_some (pv 9)) (po_some (pe_op op_add (pe_op op_add (pv 9) pe_int) (pe_callTy call_int1 (by rfl) T.int (by decide +kernel) (pa_cons (pe_cmpR op_eq (pe_call G_ldraw hr (by rfl) T.m_ldraw F_ldraw.kp b_ldraw .nil pass0 (pa_cons (pv 0) (pa_cons pe_int pa_nil))) pe_int (nomark _)) pa_nil)))))) (pg_name (i := 10) sc_lruns.nd rfl (.inl rfl))
  (pss_cons (ps_set (i := 11) sc_lruns.nd rfl (.inl rfl) (pe_op op_add pe_int (pe_call G_ldraw hr (by rfl) T.m_ldraw F_ldraw.kp b_ldraw .nil pass0 (pa_cons (pv 0) (pa_cons pe_int pa_nil)))))
  (pss_one (ps_for PassesOwn.never rfl (pi_range1 (by rfl) T.range (pa_cons pe_int pa_nil)) (pg_name (i := 12) sc_lruns.nd rfl (.inl rfl))
  (pss_cons (ps_set (i := 13) sc_lruns.nd rfl (.inl rfl) (pe_op op_add (pv 3) (pe_op op_mul (pv 12) (pv 4))))
  (pss_cons (ps_if (PW.pt (pw_and (pt_cmpR op_eq (pe_op op_modN (pv 11) pe_int) pe_int (nomark _)) (pw_and (pt_cmpR (op_neP hr) (pv 5) (pe_lst pa_nil) (nomark _)) (pw_and (pt_cmpR op_eq (pe_ix ix_tup (pe_ix ix_list (pv 5) (pe_un un_neg pe_int) (fun _ _ => rfl)) pe_int (fun _ _ => rfl)) (pv 10) (nomark _)) (pw_and1 (pt_cmpR op_eq (pe_ix ix_tup (pe_ix ix_list (pv 5) (pe_un un_neg pe_int) (fun _ _ => rfl)) pe_int (fun _ _ => rfl)) (pv 13) (nomark _)))))))
  (pss_one (ps_asg (pe_tup (pa_cons (pv 10) (pa_cons (pe_ix ix_tup (pe_ix ix_list (pv 5) (pe_un un_neg pe_int) (fun _ _ => rfl)) pe_int (fun _ _ => rfl)) (pa_cons (pe_op op_add (pv 13) (pv 4)) pa_nil)))) (pg_sub (pv 5) (pe_un un_neg pe_int) set_list)))
  (pss_one (ps_if (pt_cmpR op_eq (pe_op op_modN (pv 11) pe_int) pe_int (nomark _))
  (pss_one (ps_expr (pe_bm PySem.F.plainAttrs_list PySem.F.slot_list_append PySem.F.type_list_append mt_append (pv 5) (pa_cons (pe_tup (pa_cons (pv 10) (pa_cons (pv 13) (pa_cons (pe_op op_add (pv 13) (pv 4)) pa_nil)))) pa_nil))))
  pss_nil)))
  (pss_one (ps_set (i := 11) sc_lruns.nd rfl (.inl rfl) (pe_op op_fdivN (pv 11) pe_int)))))))))
  (pss_one (ps_ret (pe_callTy call_tuple_of (by rfl) T.tuple (by decide +kernel) (pa_cons (pv 5) pa_nil))))))))), ?_⟩
  obtain ⟨w', r', wp, rp, ho, hw, hrr, hws, hrd⟩ := id hof
  obtain ⟨okO, e0, k0, k00, nms⟩ := okE
  have wl := hws.len
  have w4 := okO.lw
  refine ⟨_, rfl, d, _, rfl, SqT.of hd, rfl, _, _, rfl, _, _, rfl, rfl, ?_⟩
  refine ⟨(show 0 ≤ sizeLine by decide), fun R hR => ?_⟩
  have NR := same_new hR (.lst [])
  have neR := hf.ne hR
  have hw1 := NR _ _ hw
  refine ⟨_, rfl, o, _, _, _, rfl, rfl, SqT.of (NR _ _ ho), rfl, w', rfl, ⟨_, SqT.of hw1⟩, fun S hS => ?_⟩
  refine lc_tup (K := K) (a := w') (xs := wp.map V.ref) (fun i H' => Same (upd H R (.lst [])) H' ∧ H' S = some (.lst (((ws.take i).map (·.1)).map V.str))) ⟨same_new hS _, upd_same⟩ (fun i H' _ h => SqT.of (h.1 _ _ hw1)) ?_ ?_
  · rintro i y H1 hy ⟨S1, hS1⟩
    obtain ⟨u, hu, rfl⟩ : ∃ u, wp[i]? = some u ∧ y = V.ref u := by
      rw [List.getElem?_map] at hy
      cases e : wp[i]? with
      | none => rw [e] at hy; cases hy
      | some p => rw [e] at hy; exact ⟨p, rfl, (Option.some.inj hy).symm⟩
    obtain ⟨e, he1, he2⟩ := Wts.get hws hu
    obtain ⟨hi, ee⟩ := List.getElem?_eq_some_iff.mp he1
    refine ⟨u, _, rfl, SqT.of ((NR.trans S1) _ _ he2), rfl, _, _, rfl, _, _, rfl, rfl, rfl, _, rfl, _, hS1, ?_, same_mut S1 hS, ?_⟩
    · rw [List.length_map, List.length_map, List.length_take]
      exact Nat.lt_of_le_of_lt (show _ ≤ 100 by omega) (by decide)
    · rw [upd_same, List.take_succ_eq_append_getElem hi, List.map_append, List.map_append, ee]
      rfl
  rintro H1 ⟨S1, hS1⟩
  rw [List.length_map, wl, List.take_length] at hS1
  have hf1 := hf.same (NR.trans S1)
  have neS := (hf.same NR).ne hS
  have xl : (ws.map (·.1)).length = ws.length := List.length_map _
  have w0 : 0 < ws.length := by
    rw [← xl, nms, List.length_take]
    show 0 < min k0 4
    omega
  have xup : (ws.map (·.1)).Pairwise sl := by rw [nms]; exact gser_up _
  generalize hxs : ws.map (·.1) = xs at *
  have B1 : But f H H1 := But.of_same (NR.trans S1)
  have hR1 := S1 _ _ (upd_same (H := H) (a := R) (o := .lst []))
  have SR : S ≠ R := Ne.symm (ne_of_none (upd_same (H := H) (a := R) (o := .lst [])) hS)
  refine ⟨_, rfl, _, rfl, S, _, rfl, .inl (SqL.of hS1), f, c, _, n, rfl, hf1, by omega, by rw [List.length_map]; omega, by rw [List.length_map]; omega, fun at_ H2 a0 a1 hf2 b2 => ?_⟩
  rw [List.length_map] at a1
  have hS2 := b2 _ _ neS.1 hS1
  have hR2 := b2 _ _ neR.1 hR1
  have B2 := B1.trans b2
  obtain ⟨a, rfl⟩ : ∃ a : Nat, at_ = a := ⟨at_.toNat, by omega⟩
  refine ⟨_, rfl, _, rfl, _, rfl, _, rfl, _, _, rfl, rfl, _, rfl, f, c, 4, _, rfl, hf2, by omega, by decide, by decide, fun e1 H3 e10 e11 hf3 b3 => ⟨rfl, .inr ⟨_, rfl, _, _, rfl, rfl, _, rfl, ?_⟩⟩⟩
  obtain ⟨b, hb, hb2⟩ : ∃ b : Nat, ((a : Int) + 1 + (if decide (V.int e1 = V.int 0) = true then (1 : Int) else 0)) = (b : Int) ∧ b ≤ a + 2 := by
    by_cases z : decide (V.int e1 = V.int 0) = true
    · rw [if_pos z]
      exact ⟨a + 2, by omega, Nat.le_refl _⟩
    · rw [if_neg z]
      exact ⟨a + 1, by omega, by omega⟩
  have hS3 := b3 _ _ neS.1 hS2
  have hR3 := b3 _ _ neR.1 hR2
  have B3 := B2.trans b3
  refine ⟨S, _, rfl, SqL.of hS3, fun T0 hT0 => ?_⟩
  have NT := same_new hT0 (.lst (cutV (xs.map V.str) (some (a : Int)) (some ((a : Int) + 1 + (if decide (V.int e1 = V.int 0) = true then (1 : Int) else 0)))))
  have hT1 : upd H3 T0 (.lst (cutV (xs.map V.str) (some (a : Int)) (some ((a : Int) + 1 + (if decide (V.int e1 = V.int 0) = true then (1 : Int) else 0))))) T0 = some (.lst (((xs.drop a).take (b - a)).map V.str)) := by
    rw [upd_same, hb, cut_two _ _ _ (by rw [List.length_map]; omega), ← List.map_drop, ← List.map_take]
  have yup : ((xs.drop a).take (b - a)).Pairwise sl := xup.sublist ((List.take_sublist _ _).trans (List.drop_sublist _ _))
  have ysub : ∀ y ∈ (xs.drop a).take (b - a), y ∈ xs := fun y hy => ((List.take_sublist _ _).trans (List.drop_sublist _ _)).subset hy
  have ylen : ((xs.drop a).take (b - a)).length ≤ 2 := by
    rw [List.length_take]
    omega
  have neT := hf3.ne hT0
  have TR : T0 ≠ R := fun z => by rw [z, hR3] at hT0; cases hT0
  have hf4 := hf3.same NT
  have hR4 := NT _ _ hR3
  have B4 := B3.trans (But.of_same NT (f := f))
  generalize (xs.drop a).take (b - a) = ys at *
  generalize upd H3 T0 (.lst (cutV (xs.map V.str) (some (a : Int)) (some ((a : Int) + 1 + (if decide (V.int e1 = V.int 0) = true then (1 : Int) else 0))))) = H4 at *
  generalize (a : Int) = at_ at *
  refine ⟨T0, rfl, ⟨_, SqL.of hT1⟩, ?_⟩
  refine for_list (K := K) (a := T0) (xs := ys.map V.str) (fun i σ H' => ∃ (fs : List Addr) (acc : List Rn) (v7 v8 v10 v11 v12 v13 : Option V), σ = [some (.ref f), some (.ref o), some (.ref d), some (.int base), some (.int wide), some (.ref R), some (.ref S), v7, v8, some (.int at_), v10, v11, v12, v13] ∧ Fd H' f c (n + 2 + 2 * i) ∧ But f H H' ∧ H' R = some (.lst (fs.map V.ref)) ∧ H' T0 = some (.lst (ys.map V.str)) ∧ Prd H' fs acc ∧ Canon acc ∧ (∀ r ∈ acc, RkF ws base wide r) ∧ (∀ r ∈ acc, ∀ j t, i ≤ j → ys[j]? = some t → sl r.1 t) ∧ acc.length ≤ 8 * i) ?_ ?_ ?_ ?_
  · exact ⟨[], [], _, _, none, none, none, none, rfl, hf4.mono (by omega), B4, hR4, hT1, .nil, canon_nil, (fun _ h => nomatch h), (fun _ h => nomatch h), Nat.le_refl _⟩
  · rintro i σ H' _ ⟨_, _, _, _, _, _, _, _, _, _, _, _, h, _⟩
    exact SqL.of h
  · rintro i y σ H5 hy ⟨fs, acc, w7, w8, v10, v11, v12, v13, rfl, hf5, B5, hR5, hT5, pr5, ca5, k5, up5, le5⟩
    obtain ⟨s, hs, rfl⟩ : ∃ s, (ys)[i]? = some s ∧ y = V.str s := by
      rw [List.getElem?_map] at hy
      cases e' : (ys)[i]? with
      | none => rw [e'] at hy; cases hy
      | some p => rw [e'] at hy; exact ⟨p, rfl, (Option.some.inj hy).symm⟩
    obtain ⟨hi, es⟩ := List.getElem?_eq_some_iff.mp hs
    have ins : s ∈ ws.map (·.1) := by
      rw [hxs]
      exact ysub s (List.mem_of_getElem? hs)
    refine ⟨_, rfl, f, c, 255, _, rfl, hf5, by omega, by decide, by decide, fun e2 H6 e20 e21 hf6 b6 => ⟨_, _, rfl, rfl, ?_⟩⟩
    have B6 := B5.trans b6
    have hR6 := b6 _ _ neR.1 hR5
    have hT6 := b6 _ _ neT.1 hT5
    have pr6 := pr5.tk (Tk.butD hf5 b6)
    have ri0 : RsI ws base wide s 0 acc := ⟨ca5, k5, fun r hr => .inr (up5 r hr i s (Nat.le_refl _) hs)⟩
    refine ⟨8, rfl, by decide, by decide, ?_⟩
    refine for_range (lo := 0) (n := 8) (fun j σ H' => ∃ (fs : List Addr) (acc : List Rn) (b2 : Int) (v7 v8 v12 v13 : Option V), σ = [some (.ref f), some (.ref o), some (.ref d), some (.int base), some (.int wide), some (.ref R), some (.ref S), v7, v8, some (.int at_), some (.str s), some (.int b2), v12, v13] ∧ Fd H' f c (n + 2 + 2 * i + 1) ∧ But f H H' ∧ H' R = some (.lst (fs.map V.ref)) ∧ H' T0 = some (.lst (ys.map V.str)) ∧ Prd H' fs acc ∧ RsI ws base wide s j acc ∧ acc.length ≤ 8 * i + j) ?_ ?_ ?_
    · exact ⟨fs, acc, _, _, _, _, _, rfl, hf6, B6, hR6, hT6, pr6, ri0, by omega⟩
    · clear hf5 B5 hR5 hT5 pr5 ca5 k5 up5 le5 ri0 pr6 hR6 hT6 B6
      rintro j σ H5 hj ⟨fs, acc, bits, w7, w8, v12, v13, rfl, hf5, B5, hR5, hT5, pr5, ri, le5⟩
      have ej : (0 + (j : Int)) = (j : Int) := Int.zero_add _
      refine ⟨_, rfl, _, rfl, _, rfl, _, _, rfl, rfl, .inl ⟨by omega, by omega⟩, _, _, rfl, rfl, ?_⟩
      refine ⟨_, rfl, _, _, rfl, rfl, (by show (2 : Int) ≠ 0; decide), rfl, _, rfl, ?_⟩
      refine ite2 (fun c1 => ?_) (fun c1 => ?_)
      · refine ⟨_, rfl, (show 0 ≤ sizeLine by decide), fun z0 hz0 => ?_⟩
        have Nz := same_new hz0 (.lst [])
        have hR6 := Nz _ _ hR5
        have hT6 := Nz _ _ hT5
        have pr6 := Prd.same Nz pr5
        have hf6 := hf5.same Nz
        have B6 := B5.trans (But.of_same Nz (f := f))
        have e6 : upd H5 z0 (.lst []) z0 = some (.lst []) := upd_same
        refine ⟨.list (acc.map rnD), .list [], .lst (SqL.of hR6) (prd_all pr6), .lst (SqL.of e6) .nil, rn_plainL acc, rfl, rn_depthL acc, _, rfl, ?_⟩
        generalize upd H5 z0 (.lst []) = H6 at *
        have fin : ∀ (Hx : Hp) (fs' : List Addr) (acc' : List Rn) (b' : Int), Same H6 Hx → Prd Hx fs' acc' → RsI ws base wide s (j + 1) acc' → acc'.length ≤ 8 * i + j + 1 → ∃ (fs : List Addr) (acc : List Rn) (b2 : Int) (v7 v8 v12 v13 : Option V), [some (V.ref f), some (.ref o), some (.ref d), some (.int base), some (.int wide), some (.ref R), some (.ref S), w7, w8, some (.int at_), some (.str s), some (.int b'), some (.int (0 + (j : Int))), some (.int (base + (0 + (j : Int)) * wide))] = [some (V.ref f), some (.ref o), some (.ref d), some (.int base), some (.int wide), some (.ref R), some (.ref S), v7, v8, some (.int at_), some (.str s), some (.int b2), v12, v13] ∧ Fd (upd Hx R (.lst (fs'.map V.ref))) f c (n + 2 + 2 * i + 1) ∧ But f H (upd Hx R (.lst (fs'.map V.ref))) ∧ upd Hx R (.lst (fs'.map V.ref)) R = some (.lst (fs.map V.ref)) ∧ upd Hx R (.lst (fs'.map V.ref)) T0 = some (.lst (ys.map V.str)) ∧ Prd (upd Hx R (.lst (fs'.map V.ref))) fs acc ∧ RsI ws base wide s (j + 1) acc ∧ acc.length ≤ 8 * i + (j + 1) := fun Hx fs' acc' b' sx hh ri le => by
          refine ⟨fs', acc', b', _, _, _, _, rfl, (hf6.same sx).upd neR, (B6.trans (But.of_same sx)).mut hR, upd_same, (upd_ne TR).trans (sx _ _ hT6), Prd.put (sx _ _ hR6) hh, ri, by omega⟩
        have rj := ri.join ok.w1 ins (show j < 8 from hj)
        rw [← ej] at rj
        have flen : (fs.map V.ref).length < sizeLine := by
          rw [List.length_map, pr5.len]
          exact Nat.lt_of_le_of_lt (show _ ≤ 100 by omega) (by decide)
        rcases nil_or_snoc fs with rfl | ⟨fi, la, rfl⟩
        · have eX : acc = [] := List.eq_nil_of_length_eq_zero (by rw [← pr5.len]; rfl)
          have jn : join acc (s, base + (0 + (j : Int)) * wide, base + (0 + (j : Int)) * wide + wide) = acc ++ [(s, base + (0 + (j : Int)) * wide, base + (0 + (j : Int)) * wide + wide)] := by
            rw [eX]
            rfl
          refine ite2 (fun z => absurd z (by rw [eX]; simp [PyData.eqv, PyData.eqvAll])) (fun _ => ?_)
          refine iteF ?_
          generalize ([] : List Addr) = fs at *
          refine ⟨_, rfl, _, _, rfl, rfl, (by show (2 : Int) ≠ 0; decide), rfl, _, rfl, ite2 (fun _ => ?_) (fun z => absurd c1 z)⟩
          refine ⟨_, rfl, .inl ⟨rfl, _, SqL.of hR6⟩, _, rfl, _, rfl, _, rfl, _, rfl, _, _, rfl, rfl, (show 3 ≤ sizeLine by decide), fun t ht => ?_⟩
          have nx := same_new ht (.tup (rnV (s, base + (0 + (j : Int)) * wide, base + (0 + (j : Int)) * wide + wide)))
          refine ⟨R, _, _, rfl, rfl, nx _ _ hR6, flen, ?_⟩
          refine ⟨_, rfl, _, _, rfl, rfl, ⟨by decide, by decide⟩, ?_⟩
          have z := fin _ (fs ++ [t]) (acc ++ [(s, base + (0 + (j : Int)) * wide, base + (0 + (j : Int)) * wide + wide)]) (bits.fdiv 2) nx (Prd.app (Prd.same nx pr6) (Prd.one upd_same)) (by rw [← jn]; exact rj) (by rw [List.length_append, List.length_singleton]; omega)
          rw [List.map_append] at z
          exact z
        · obtain ⟨ts, lr, e2', hi2, hla⟩ := Prd.snoc pr6
          have hR7 : H6 R = some (.lst (fi.map V.ref ++ [V.ref la])) := by
            rw [hR6, List.map_append]
            rfl
          refine ite2 (fun _ => ?_) (fun z => absurd (by rw [e2']; cases ts <;> simp [PyData.eqv, PyData.eqvAll]) z)
          refine ⟨_, rfl, 1, rfl, R, _, _, _, rfl, rfl, SqL.of hR7, atI_last _ _, la, _, _, _, rfl, rfl, SqT.of hla, rfl, _, rfl, rfl, _, rfl, ?_⟩
          refine ite2 (fun c2 => ?_) (fun c2 => ?_)
          · have d2 : lr.1 = s := V.str.inj (of_decide_eq_true c2)
            refine ⟨_, rfl, 1, rfl, R, _, _, _, rfl, rfl, SqL.of hR7, atI_last _ _, la, _, _, _, rfl, rfl, SqT.of hla, rfl, _, rfl, rfl, _, rfl, ?_⟩
            refine ite2 (fun c3 => ?_) (fun c3 => ?_)
            · have d3 : lr.2.2 = base + (0 + (j : Int)) * wide := V.int.inj (of_decide_eq_true c3)
              have jn : join acc (s, base + (0 + (j : Int)) * wide, base + (0 + (j : Int)) * wide + wide) = ts ++ [(s, lr.2.1, base + (0 + (j : Int)) * wide + wide)] := by
                rw [e2', join_snoc, if_pos ⟨d2, d3⟩]
              refine ⟨_, rfl, _, rfl, 1, rfl, R, _, _, _, rfl, rfl, SqL.of hR7, atI_last _ _, la, _, _, _, rfl, rfl, SqT.of hla, rfl, _, rfl, _, rfl, _, _, rfl, rfl, (show 3 ≤ sizeLine by decide), fun t ht => ?_⟩
              have nx := same_new ht (.tup (rnV (s, lr.2.1, base + (0 + (j : Int)) * wide + wide)))
              refine ⟨_, rfl, 1, rfl, R, _, _, fi.length, rfl, rfl, nx _ _ hR7, ?_, ?_⟩
              · rw [List.length_append, List.length_map, List.length_singleton]
                exact ix_last _
              · have e3 : (fi.map V.ref ++ [V.ref la]).set fi.length (.ref t) = (fi ++ [t]).map V.ref := by
                  rw [List.set_append_right _ _ (by rw [List.length_map]; exact Nat.le_refl _), List.length_map, Nat.sub_self, List.map_append]
                  rfl
                rw [e3]
                refine ⟨_, rfl, _, _, rfl, rfl, ⟨by decide, by decide⟩, ?_⟩
                exact fin _ (fi ++ [t]) (ts ++ [(s, lr.2.1, base + (0 + (j : Int)) * wide + wide)]) (bits.fdiv 2) nx (Prd.app (Prd.same nx hi2) (Prd.one upd_same)) (by rw [← jn]; exact rj) (by rw [e2', List.length_append, List.length_singleton] at le5; rw [List.length_append, List.length_singleton]; omega)
            · have jn : join acc (s, base + (0 + (j : Int)) * wide, base + (0 + (j : Int)) * wide + wide) = acc ++ [(s, base + (0 + (j : Int)) * wide, base + (0 + (j : Int)) * wide + wide)] := by
                rw [e2', join_snoc, if_neg (fun z => c3 (decide_eq_true (congrArg V.int z.2)))]
              generalize fi ++ [la] = fs at *
              refine ⟨_, rfl, _, _, rfl, rfl, (by show (2 : Int) ≠ 0; decide), rfl, _, rfl, ite2 (fun _ => ?_) (fun z => absurd c1 z)⟩
              refine ⟨_, rfl, .inl ⟨rfl, _, SqL.of hR6⟩, _, rfl, _, rfl, _, rfl, _, rfl, _, _, rfl, rfl, (show 3 ≤ sizeLine by decide), fun t ht => ?_⟩
              have nx := same_new ht (.tup (rnV (s, base + (0 + (j : Int)) * wide, base + (0 + (j : Int)) * wide + wide)))
              refine ⟨R, _, _, rfl, rfl, nx _ _ hR6, flen, ?_⟩
              refine ⟨_, rfl, _, _, rfl, rfl, ⟨by decide, by decide⟩, ?_⟩
              have z := fin _ (fs ++ [t]) (acc ++ [(s, base + (0 + (j : Int)) * wide, base + (0 + (j : Int)) * wide + wide)]) (bits.fdiv 2) nx (Prd.app (Prd.same nx pr6) (Prd.one upd_same)) (by rw [← jn]; exact rj) (by rw [List.length_append, List.length_singleton]; omega)
              rw [List.map_append] at z
              exact z
          · have jn : join acc (s, base + (0 + (j : Int)) * wide, base + (0 + (j : Int)) * wide + wide) = acc ++ [(s, base + (0 + (j : Int)) * wide, base + (0 + (j : Int)) * wide + wide)] := by
              rw [e2', join_snoc, if_neg (fun z => c2 (decide_eq_true (congrArg V.str z.1)))]
            refine iteF ?_
            generalize fi ++ [la] = fs at *
            refine ⟨_, rfl, _, _, rfl, rfl, (by show (2 : Int) ≠ 0; decide), rfl, _, rfl, ite2 (fun _ => ?_) (fun z => absurd c1 z)⟩
            refine ⟨_, rfl, .inl ⟨rfl, _, SqL.of hR6⟩, _, rfl, _, rfl, _, rfl, _, rfl, _, _, rfl, rfl, (show 3 ≤ sizeLine by decide), fun t ht => ?_⟩
            have nx := same_new ht (.tup (rnV (s, base + (0 + (j : Int)) * wide, base + (0 + (j : Int)) * wide + wide)))
            refine ⟨R, _, _, rfl, rfl, nx _ _ hR6, flen, ?_⟩
            refine ⟨_, rfl, _, _, rfl, rfl, ⟨by decide, by decide⟩, ?_⟩
            have z := fin _ (fs ++ [t]) (acc ++ [(s, base + (0 + (j : Int)) * wide, base + (0 + (j : Int)) * wide + wide)]) (bits.fdiv 2) nx (Prd.app (Prd.same nx pr6) (Prd.one upd_same)) (by rw [← jn]; exact rj) (by rw [List.length_append, List.length_singleton]; omega)
            rw [List.map_append] at z
            exact z
      · refine iteF ?_
        refine ⟨_, rfl, _, _, rfl, rfl, (by show (2 : Int) ≠ 0; decide), rfl, _, rfl, ite2 (fun z => absurd z c1) (fun _ => ?_)⟩
        refine ⟨_, rfl, _, _, rfl, rfl, ⟨by decide, by decide⟩, ?_⟩
        exact ⟨fs, acc, _, _, _, _, _, rfl, hf5, B5, hR5, hT5, pr5, ri.more ok.w1, by omega⟩
    · rintro σ H7 ⟨fs, acc, bits, w7, w8, v12, v13, rfl, hf7, B7, hR7, hT7, pr7, ri7, le7⟩
      refine ⟨fs, acc, _, _, _, _, _, _, rfl, hf7.mono (by omega), B7, hR7, hT7, pr7, ri7.ca, ri7.k, fun r hr j t hj ht => ?_, by omega⟩
      obtain ⟨hj2, et⟩ := List.getElem?_eq_some_iff.mp ht
      have st : sl s t := by
        rw [← es, ← et]
        exact List.pairwise_iff_getElem.mp yup i j hi hj2 (by omega)
      rcases ri7.hi r hr with ⟨z, _⟩ | z
      · rw [z]
        exact st
      · exact sl_tr z st
  rintro σ H5 ⟨fs, acc, w7, w8, v10, v11, v12, v13, rfl, hf5, B5, hR5, hT5, pr5, ca5, k5, up5, le5⟩
  rw [List.length_map] at le5 hf5
  refine ⟨_, rfl, R, _, rfl, .inl ⟨SqL.of hR5, fun t ht => ?_⟩⟩
  have Nt := same_new ht (.tup (fs.map V.ref))
  exact q t acc _ ((hf5.same Nt).mono (by omega)) (B5.trans (But.of_same Nt)) (B5.back hf5 ht) ⟨fs, upd_same, pr5.tk (Tk.same Nt), by omega⟩ ⟨ca5, k5, by omega⟩

theorem ok_lfield (F : Fun K "_law_field" "_law_field" s_lfield f_lfield d_lfield) (T : Txt mg f_is_apart f_runs_of f_many_in f_named_by_voids f_counted_bags f_standing_of f_pages_that_are f_counted_pages f_all_steps f_together f_both f_less f_what_is_left f_add_gap f_gaps f_ltape f_ldraw f_loffice f_lnames f_lruns f_lfield f_ldeed f_lbook f_ltold f_lof f_lrows f_ldue f_law)
    (F_ldraw : Fun K "_law_draw" "_law_draw" s_ldraw f_ldraw d_ldraw) (b_ldraw : Binds K d_ldraw ["_law_tape_here", "_law_many"] []) (G_ldraw : FnOk P w K mg base CX0 (1) f_ldraw d_ldraw ["_law_tape_here", "_law_many"] spDrawT) :
    FnOk P w K mg base CX0 (2) f_lfield d_lfield ["_law_tape_here"] spFieldF := by
  refine F.ok sc_lfield (fun vs H Q E h => ?_) (fun cdv A outer s H vs Q E hr h => ?_)

  · obtain ⟨f, c, n, rfl, _⟩ := h
    rfl
  obtain ⟨f, c, n, rfl, hf, hn, q⟩ := h
  refine ⟨_, (pss_cons (ps_set (i := 1) sc_lfield.nd rfl (.inl rfl) (pe_ix ix_list (pe_lst (pa_cons pe_int (pa_cons pe_int (pa_cons pe_int (pa_cons (pe_op op_pow pe_int pe_int) (pa_cons pe_int (pa_cons pe_int pa_nil))))))) (pe_call G_ldraw hr (by rfl) T.m_ldraw F_ldraw.kp b_ldraw .nil pass0 (pa_cons (pv 0) (pa_cons pe_int pa_nil))) (fun _ _ => rfl)))
  (pss_cons (ps_set (i := 2) sc_lfield.nd rfl (.inl rfl) (pe_op op_sub (pe_op op_pow pe_int pe_int) (pe_op op_mul pe_int (pv 1))))
  (pss_one (ps_ret (pe_tup (pa_cons (pe_op op_modN (pe_ix ix_list (pe_lst (pa_cons pe_int (pa_cons pe_int (pa_cons (pv 2) (pa_cons (pe_call G_ldraw hr (by rfl) T.m_ldraw F_ldraw.kp b_ldraw .nil pass0 (pa_cons (pv 0) (pa_cons pe_int pa_nil))) pa_nil))))) (pe_call G_ldraw hr (by rfl) T.m_ldraw F_ldraw.kp b_ldraw .nil pass0 (pa_cons (pv 0) (pa_cons pe_int pa_nil))) (fun _ _ => rfl)) (pe_op op_add (pv 2) pe_int)) (pa_cons (pv 1) pa_nil))))))), ?_⟩
  refine ⟨_, _, rfl, rfl, ⟨by decide, by decide, by decide⟩, (show 6 ≤ sizeLine by decide), fun la hla => ?_⟩
  refine ⟨_, rfl, f, c, 6, _, rfl, hf.new hla, by omega, by decide, by decide, fun e1 H1 e10 e11 hf1 b1 => ?_⟩
  obtain ⟨wide, w0, w1, wat⟩ : ∃ k : Int, 1 ≤ k ∧ k ≤ 100000000 ∧ atI [V.int 1, .int 1, .int 3, .int (10 ^ (8 : Int).toNat), .int 12345678, .int 1] e1 = some (.int k) := by
    rcases (show e1 = 0 ∨ e1 = 1 ∨ e1 = 2 ∨ e1 = 3 ∨ e1 = 4 ∨ e1 = 5 by omega) with rfl | rfl | rfl | rfl | rfl | rfl <;> exact ⟨_, by decide, by decide, rfl⟩
  refine ⟨la, _, _, _, rfl, rfl, SqL.of (b1 _ _ ((hf.ne hla).1) upd_same), wat, ?_⟩
  have B1 : But f H H1 := (But.new hla).trans b1
  refine ⟨_, _, rfl, rfl, ⟨by decide, by decide, by decide⟩, _, rfl, _, _, rfl, rfl, .inl ⟨by decide, by decide⟩, _, _, rfl, rfl, ?_⟩
  refine ⟨_, rfl, _, rfl, f, c, 1000, _, rfl, hf1, by omega, by decide, by decide, fun e2 H2 e20 e21 hf2 b2 => ⟨(show 4 ≤ sizeLine by decide), fun lb hlb => ?_⟩⟩
  refine ⟨_, rfl, f, c, 4, _, rfl, hf2.new hlb, by omega, by decide, by decide, fun e3 H3 e30 e31 hf3 b3 => ?_⟩
  obtain ⟨bb, b0', bat⟩ : ∃ k : Int, 0 ≤ k ∧ atI [V.int 0, .int 5, .int (10 ^ (9 : Int).toNat - 8 * wide), .int e2] e3 = some (.int k) := by
    rcases (show e3 = 0 ∨ e3 = 1 ∨ e3 = 2 ∨ e3 = 3 by omega) with rfl | rfl | rfl | rfl
    · exact ⟨_, by decide, rfl⟩
    · exact ⟨_, by decide, rfl⟩
    · exact ⟨_, by show 0 ≤ (10 : Int) ^ 9 - 8 * wide; omega, rfl⟩
    · exact ⟨_, e20, rfl⟩
  refine ⟨lb, _, _, _, rfl, rfl, SqL.of (b3 _ _ ((hf2.ne hlb).1) upd_same), bat, ?_⟩
  have e9 : (10 : Int) ^ (9 : Int).toNat = 1000000000 := rfl
  rw [e9]
  have pos : 0 < 1000000000 - 8 * wide + 1 := by omega
  refine ⟨_, rfl, _, _, rfl, rfl, _, _, rfl, rfl, ?_⟩
  refine ⟨by omega, _, rfl, (show 2 ≤ sizeLine by decide), fun t ht => ?_⟩
  have Nt := same_new ht (.tup [.int (bb.fmod (1000000000 - 8 * wide + 1)), .int wide])
  have B3 := B1.trans (b2.trans ((But.new hlb).trans b3))
  refine q t _ wide _ ((hf3.same Nt).mono (by omega)) (B3.trans (But.of_same Nt)) (B3.back hf3 ht) upd_same ⟨mod_lo _ _ pos, w0, ?_⟩
  have := mod_hi bb _ pos
  omega

theorem ok_ldeed (F : Fun K "_law_deed" "_law_deed" s_ldeed f_ldeed d_ldeed) (T : Txt mg f_is_apart f_runs_of f_many_in f_named_by_voids f_counted_bags f_standing_of f_pages_that_are f_counted_pages f_all_steps f_together f_both f_less f_what_is_left f_add_gap f_gaps f_ltape f_ldraw f_loffice f_lnames f_lruns f_lfield f_ldeed f_lbook f_ltold f_lof f_lrows f_ldue f_law)
    (F_ldraw : Fun K "_law_draw" "_law_draw" s_ldraw f_ldraw d_ldraw) (b_ldraw : Binds K d_ldraw ["_law_tape_here", "_law_many"] []) (G_ldraw : FnOk P w K mg base CX0 (2) f_ldraw d_ldraw ["_law_tape_here", "_law_many"] spDrawT)
    (F_lruns : Fun K "_law_runs" "_law_runs" s_lruns f_lruns d_lruns) (b_lruns : Binds K d_lruns ["_law_tape_here", "_law_office_here", "_law_field_here"] []) (G_lruns : FnOk P w K mg base CX0 (2) f_lruns d_lruns ["_law_tape_here", "_law_office_here", "_law_field_here"] spRunsF) :
    FnOk P w K mg base CX0 (3) f_ldeed d_ldeed ["_law_tape_here", "_law_office_here", "_law_field_here", "_law_word", "_law_names_here", "_law_bags"] spDeedF := by
  refine F.ok sc_ldeed (fun vs H Q E h => ?_) (fun cdv A outer s H vs Q E hr h => ?_)

  · obtain ⟨f, c, o, d, L, B, n, ws, E1, base, wide, w, ps, qs, ns, ms, rfl, _⟩ := h
    rfl
  obtain ⟨f, c, o, d, L, B, n, ws, E1, base, wide, w, ps, qs, ns, ms, rfl, hf, hn, hof, okE, hd, ok, hL, Lf, nm, nl, nok, hB, Bf, mm, ml, mok, q⟩ := h
  refine ⟨_, (pss_cons (ps_set (i := 6) sc_ldeed.nd rfl (.inl rfl) (pe_ix ix_tup (pv 1) pe_int (fun _ _ => rfl)))
  (C8.pss_cut (ps_if (pt_cmpR op_eq (pv 3) pe_str (nomark _))
  (pss_cons (ps_set (i := 6) sc_ldeed.nd rfl (.inl rfl) (pe_orL (pe_lc (own := [("_law_road", 7)]) (g := (gName 7)) (by rfl) sc_ldeed.nd (pi_seq (pv 6)) (blkOk_by (own := [("_law_road", 7)]) (N := ["_law_tape_here", "_law_office_here", "_law_field_here", "_law_word", "_law_names_here", "_law_bags", "_law_roads", "_law_road", "_law_one", "_law_other", "_law_some"]) (sc := defScope s_ldeed) (by decide +kernel)) (fun _ _ _ _ _ => (pg_name (i := 7) sc_ldeed.nd rfl (.inl rfl))) (fun _ _ _ _ _ => (pts_one (pt_cmpR op_ne (pe_ix (show IxR _ (rIxT K) from ix_tup) (pv 7) pe_int (fun _ _ => rfl)) pe_str (nomark _)))) (fun _ _ _ _ _ => (pv 7))) (pv 6)))
  (pss_one (ps_set (i := 3) sc_ldeed.nd rfl (.inl rfl) (pe_ifExp (pt_cmpR op_ne (pe_ix ix_tup (pe_ix ix_any (pv 6) pe_int (fun _ _ => rfl)) pe_int (fun _ _ => rfl)) pe_str (nomark _)) pe_str pe_str))))
  pss_nil)
  (pss_cons (ps_asg (pe_ix ix_any (pv 6) (pe_call G_ldraw hr (by rfl) T.m_ldraw F_ldraw.kp b_ldraw .nil pass0 (pa_cons (pv 0) (pa_cons (pe_callB call_len_seq (by rfl) T.len (by decide +kernel) (pa_cons (pv 6) pa_nil)) pa_nil))) (fun _ _ => rfl)) (pg_tup rfl (pgs_cons (pg_name (i := 8) sc_ldeed.nd rfl (.inl rfl)) (pgs_cons (pg_name (i := 9) sc_ldeed.nd rfl (.inl rfl)) pgs_nil))))
  (pss_cons (ps_if (pt_cmpR op_eq (pv 3) pe_str (nomark _))
  (pss_one (ps_ret (pe_tup (pa_cons pe_str (pa_cons (pv 8) (pa_cons (pv 9) (pa_cons (pe_call G_lruns hr (by rfl) T.m_lruns F_lruns.kp b_lruns .nil pass0 (pa_cons (pv 0) (pa_cons (pv 1) (pa_cons (pv 2) pa_nil)))) pa_nil)))))))
  pss_nil)
  (pss_cons (ps_if (pt_cmpR op_eq (pv 3) pe_str (nomark _))
  (pss_one (ps_ret (pe_tup (pa_cons pe_str (pa_cons (pv 8) (pa_cons (pv 9) (pa_cons (pe_ix ix_list (pe_lst (pa_cons pe_int (pa_cons pe_int (pa_cons pe_int (pa_cons (pe_op op_add pe_int (pe_call G_ldraw hr (by rfl) T.m_ldraw F_ldraw.kp b_ldraw .nil pass0 (pa_cons (pv 0) (pa_cons pe_int pa_nil)))) pa_nil))))) (pe_call G_ldraw hr (by rfl) T.m_ldraw F_ldraw.kp b_ldraw .nil pass0 (pa_cons (pv 0) (pa_cons pe_int pa_nil))) (fun _ _ => rfl)) pa_nil)))))))
  pss_nil)
  (pss_cons (ps_if (pt_cmpR op_eq (pv 3) pe_str (nomark _))
  (C8.pss_cut (ps_set (i := 10) sc_ldeed.nd rfl (.inl rfl) (pe_ifExp (PW.pt (pw_and (pt_cmpR (op_neP hr) (pv 5) (pe_lst pa_nil) (nomark _)) (pw_and1 (pt_cmpR op_gt (pe_call G_ldraw hr (by rfl) T.m_ldraw F_ldraw.kp b_ldraw .nil pass0 (pa_cons (pv 0) (pa_cons pe_int pa_nil))) pe_int (nomark _))))) (pv 5) (pe_op op_cat (pv 4) (pe_lst (pa_cons (pe_tup (pa_cons pe_int (pa_cons pe_int (pa_cons pe_str pa_nil)))) pa_nil)))))
  (pss_one (ps_ret (pe_tup (pa_cons pe_str (pa_cons (pe_ix ix_list (pv 10) (pe_call G_ldraw hr (by rfl) T.m_ldraw F_ldraw.kp b_ldraw .nil pass0 (pa_cons (pv 0) (pa_cons (pe_callB call_len_seq (by rfl) T.len (by decide +kernel) (pa_cons (pv 10) pa_nil)) pa_nil))) (fun _ _ => rfl)) (pa_cons (pe_call G_lruns hr (by rfl) T.m_lruns F_lruns.kp b_lruns .nil pass0 (pa_cons (pv 0) (pa_cons (pv 1) (pa_cons (pv 2) pa_nil)))) pa_nil)))))))
  pss_nil)
  (pss_cons (ps_if (pt_cmpR op_eq (pv 3) pe_str (nomark _))
  (pss_cons (ps_set (i := 10) sc_ldeed.nd rfl (.inl rfl) (pe_op op_cat (pv 4) (pe_lst (pa_cons (pe_tup (pa_cons pe_int (pa_cons pe_int (pa_cons pe_str pa_nil)))) pa_nil))))
  (pss_one (ps_ret (pe_tup (pa_cons pe_str (pa_cons (pe_ix ix_list (pv 10) (pe_call G_ldraw hr (by rfl) T.m_ldraw F_ldraw.kp b_ldraw .nil pass0 (pa_cons (pv 0) (pa_cons (pe_callB call_len_seq (by rfl) T.len (by decide +kernel) (pa_cons (pv 10) pa_nil)) pa_nil))) (fun _ _ => rfl)) pa_nil))))))
  pss_nil)
  (pss_one (ps_ret (pe_tup (pa_cons pe_str (pa_cons (pv 9) (pa_cons (pe_call G_ldraw hr (by rfl) T.m_ldraw F_ldraw.kp b_ldraw .nil pass0 (pa_cons (pv 0) (pa_cons pe_int pa_nil))) pa_nil))))))))))))), ?_⟩
  obtain ⟨w', r', wp, rp, ho, hw, hrr, hws, hrd⟩ := id hof
  obtain ⟨okO, e0, k0, k00, nms⟩ := id okE
  have rl := hrd.len
  have e16 := okO.le
  have rf : r' ≠ f := by
    obtain ⟨zs, hz⟩ := hf.at
    exact ne_of hrr hz fun z => nomatch z
  refine ⟨_, rfl, o, _, _, _, rfl, rfl, SqT.of ho, rfl, ?_⟩
  refine ⟨fun σ H' => ∃ (w2 : Str) (RD : Addr) (b : Bool) (us : List Addr) (es : List Ed) (v7 : Option V), σ = [some (.ref f), some (.ref o), some (.ref d), some (.str w2), some (.ref L), some (.ref B), some (.ref RD), v7, none, none, none] ∧ Same H H' ∧ H' RD = some (sqO b (us.map V.ref)) ∧ RD ≠ f ∧ Rds H' us es ∧ 0 < es.length ∧ es.length ≤ 16 ∧ (∀ e ∈ es, e ∈ E1) ∧ (w2 = wBag → ∀ e ∈ es, e.1 ≠ gNone), ?_, ?_⟩
  · refine ⟨_, rfl, rfl, _, rfl, ?_⟩
    refine ite2 (fun c1 => ?_) (fun c1 => ?_)
    · refine ⟨false, _, rfl, r', rfl, ⟨_, SqT.of hrr⟩, fun D hD => ?_⟩
      refine lc_it (walk_seq (b := false) (K := K) (a := r') (xs := rp.map V.ref)) (fun i H' => ∃ us : List Addr, Same H H' ∧ H' D = some (.lst (us.map V.ref)) ∧ Rds H' us ((E1.take i).filter fun e => !decide (e.1 = gNone))) ⟨[], same_new hD _, upd_same, .nil⟩ (fun i H' _ h => by obtain ⟨_, S, _⟩ := h; exact SqT.of (S _ _ hrr)) ?_ ?_
      · rintro i y H3 H3' hi0 ⟨us, S3, hD3, rq⟩ ⟨rfl, hy⟩
        obtain ⟨u, hu, rfl⟩ : ∃ u, rp[i]? = some u ∧ y = V.ref u := by
          rw [List.getElem?_map] at hy
          cases e : rp[i]? with
          | none => rw [e] at hy; cases hy
          | some p => rw [e] at hy; exact ⟨p, rfl, (Option.some.inj hy).symm⟩
        obtain ⟨e, he1, he2⟩ := Rds.get hrd hu
        obtain ⟨hi, ee⟩ := List.getElem?_eq_some_iff.mp he1
        have ql := rq.len
        have fl : ((E1.take i).filter fun e => !decide (e.1 = gNone)).length ≤ i := Nat.le_trans (List.length_filter_le _ _) (List.length_take_le _ _)
        have more : (E1.take (i + 1)).filter (fun e => !decide (e.1 = gNone)) = (E1.take i).filter (fun e => !decide (e.1 = gNone)) ++ if (!decide (e.1 = gNone)) = true then [e] else [] := by
          rw [List.take_succ_eq_append_getElem hi, List.filter_append, ee]
          congr 1
          by_cases cz : e.1 = gNone <;> simp [cz]
        refine ⟨rfl, _, rfl, u, _, _, _, rfl, rfl, SqT.of (S3 _ _ he2), rfl, rfl, _, rfl, ?_⟩
        refine ite2 (fun cz => ?_) (fun cz => ?_)
        · have cz : (!decide (e.1 = gNone)) = true := by
            by_cases z : e.1 = gNone
            · rw [z] at cz
              simp [gNone] at cz
            · simp [z]
          rw [if_pos cz] at more
          refine ⟨_, rfl, _, hD3, ?_, us ++ [u], same_mut S3 hD, ?_, ?_⟩
          · rw [List.length_map, ql]
            exact Nat.lt_of_le_of_lt (show _ ≤ 1000 by omega) (by decide)
          · rw [upd_same, List.map_append]
            rfl
          · rw [more]
            exact (rq.app (Rds.mk1 (S3 _ _ he2))).tk (Tk.put hD3)
        · have cz : ¬ (!decide (e.1 = gNone)) = true := by
            by_cases z : e.1 = gNone
            · simp [z]
            · exact (cz (by
                have : V.str e.1 ≠ V.str gNone := fun k => z (V.str.inj k)
                show (!decide (V.str e.1 = V.str gNone)) = true
                simp [this])).elim
          rw [if_neg cz, List.append_nil] at more
          exact ⟨us, S3, hD3, by rw [more]; exact rq⟩
      rintro H3 ⟨us, S3, hD3, rq⟩
      rw [List.length_map, rl, List.take_length] at rq
      have ul := rq.len
      have fm : ∀ e ∈ E1.filter (fun e => !decide (e.1 = gNone)), e ∈ E1 ∧ e.1 ≠ gNone := fun e he => by
        obtain ⟨a, b⟩ := List.mem_filter.mp he
        exact ⟨a, by simpa using b⟩
      have fle : (E1.filter (fun e => !decide (e.1 = gNone))).length ≤ E1.length := List.length_filter_le _ _
      have fall : E1.filter (fun e => !decide (e.1 = gNone)) = [] → ∀ e ∈ E1, e.1 = gNone := fun z e he => by
        by_cases k : e.1 = gNone
        · exact k
        · have : e ∈ E1.filter (fun e => !decide (e.1 = gNone)) := List.mem_filter.mpr ⟨he, by simp [k]⟩
          rw [z] at this
          exact nomatch this
      generalize E1.filter (fun e => !decide (e.1 = gNone)) = es at *
      refine ⟨D, _, rfl, SqL.of hD3, fun ne => ?_, fun em => ?_⟩
      · cases es with
        | nil => exact absurd (List.map_eq_nil_iff.mpr (List.eq_nil_of_length_eq_zero ul)) ne
        | cons e0' es' =>
        cases us with
        | nil => exact absurd rfl ne
        | cons u0 us' =>
        obtain ⟨h0, ht⟩ : H3 u0 = some (.tup (edV e0')) ∧ Rds H3 us' es' := by
          cases rq with
          | cons a b => exact ⟨a, b⟩
        refine ⟨_, rfl, .inl ⟨D, _, _, _, rfl, rfl, SqL.of hD3, ix0 _ _, u0, _, _, _, rfl, rfl, SqT.of h0, ix0 _ _, rfl, _, rfl, ?_⟩⟩
        refine ite2 (fun c2 => ?_) (fun c2 => ?_)
        · exact ⟨wBag, D, true, u0 :: us', e0' :: es', _, rfl, S3, hD3, (hf.ne hD).1, rq, Nat.succ_pos _, by omega, fun e he => (fm e he).1, fun _ e he => (fm e he).2⟩
        · exact (c2 (by
            have : V.str e0'.1 ≠ V.str gNone := fun k => (fm e0' List.mem_cons_self).2 (V.str.inj k)
            show (!decide (V.str e0'.1 = V.str gNone)) = true
            simp [this])).elim
      · have es0 : es = [] := by
          have := List.map_eq_nil_iff.mp em
          rw [this] at ul
          exact List.eq_nil_of_length_eq_zero ul.symm
        cases E1 with
        | nil => exact absurd e0 (Nat.lt_irrefl _)
        | cons e0' es' =>
        cases rp with
        | nil => exact nomatch rl
        | cons u0 us' =>
        obtain ⟨h0, ht⟩ : H u0 = some (.tup (edV e0')) ∧ Rds H us' es' := by
          cases hrd with
          | cons a b => exact ⟨a, b⟩
        refine ⟨_, rfl, _, rfl, .inr ⟨r', _, _, _, rfl, rfl, SqT.of (S3 _ _ hrr), ix0 _ _, u0, _, _, _, rfl, rfl, SqT.of (S3 _ _ h0), ix0 _ _, rfl, _, rfl, ?_⟩⟩
        refine ite2 (fun c2 => ?_) (fun c2 => ?_)
        · have := fall es0 e0' List.mem_cons_self
          simp [edV, this, gNone] at c2
        · exact ⟨wMove, r', false, u0 :: us', e0' :: es', _, rfl, S3, S3 _ _ hrr, rf, hrd.same S3, Nat.succ_pos _, e16, fun e he => he, fun z => absurd z (by decide +kernel)⟩
    · have c1 : w ≠ wBag := fun z => c1 (decide_eq_true (congrArg V.str z))
      exact ⟨w, r', false, rp, E1, none, rfl, Same.refl _, hrr, rf, hrd, e0, e16, fun e h => h, fun z => absurd z c1⟩
  rintro σ H1 ⟨w2, RD, b, us, es, v7, rfl, S1, hRD, RDf, rd1, es0, es16, esub, ebag⟩
  have hf1 := hf.same S1
  have B1 : But f H H1 := But.of_same S1
  have ul := rd1.len
  refine ⟨_, rfl, _, rfl, _, rfl, RD, _, rfl, (SqB.of hRD).or, f, c, _, _, rfl, hf1, by omega, by rw [List.length_map]; omega, by rw [List.length_map]; omega, fun d1 H2 d10 d11 hf2 b2 => ?_⟩
  have rd2 := rd1.tk (Tk.butD hf1 b2)
  obtain ⟨p, ed, hed, pat, hp⟩ := pick_ed rd2 d10 d11
  have B2 := B1.trans b2
  have edE : (ed.1, ed.2) ∈ E1 := esub ed hed
  have hof2 := hof.but hf B2
  have hd2 := Tk.butD hf B2 _ _ hd
  refine ixa_of (SqB.of (b2 _ _ RDf hRD)) pat ⟨p, _, rfl, SqT.of hp, rfl, _, _, rfl, _, _, rfl, rfl, ?_⟩
  refine ⟨_, rfl, rfl, _, rfl, ite2 (fun c1 => ?_) (fun c1 => ?_)⟩
  · refine ⟨_, rfl, _, rfl, _, rfl, _, rfl, _, rfl, f, c, o, d, _, ws, E1, base, wide, rfl, hf2, by omega, hof2, okE, hd2, ok, fun u rs H3 hf3 b3 nu ru rok => ⟨(show 4 ≤ sizeLine by decide), fun t ht => ?_⟩⟩
    have Nt := same_new ht (.tup [.str wMove, .str ed.1, .str ed.2, .ref u])
    have B3 := B2.trans b3
    exact q t (.mv ed.1 ed.2 rs) _ ((hf3.same Nt).mono (by omega)) (B3.trans (But.of_same Nt)) (B3.back hf3 ht) ⟨u, upd_same, ru.tk (Tk.same Nt)⟩ ⟨edE, rok⟩
  refine ⟨_, rfl, rfl, _, rfl, ite2 (fun c2 => ?_) (fun c2 => ?_)⟩
  · have c2 : w2 = wBag := V.str.inj (of_decide_eq_true c2)
    refine ⟨_, rfl, _, rfl, _, rfl, f, c, 9, _, rfl, hf2, by omega, by decide, by decide, fun e1 H3 e10 e11 hf3 b3 => ⟨_, _, rfl, rfl, (show 4 ≤ sizeLine by decide), fun lq hlq => ?_⟩⟩
    refine ⟨_, rfl, f, c, 4, _, rfl, hf3.new hlq, by omega, by decide, by decide, fun e2 H4 e20 e21 hf4 b4 => ?_⟩
    obtain ⟨k, k0', k1, kat⟩ : ∃ k : Int, 1 ≤ k ∧ k ≤ 1000000000 ∧ atI [V.int 1, .int 2, .int 1000000000, .int (1 + e1)] e2 = some (.int k) := by
      rcases (show e2 = 0 ∨ e2 = 1 ∨ e2 = 2 ∨ e2 = 3 by omega) with rfl | rfl | rfl | rfl
      · exact ⟨1, by decide, by decide, rfl⟩
      · exact ⟨2, by decide, by decide, rfl⟩
      · exact ⟨1000000000, by decide, by decide, rfl⟩
      · exact ⟨1 + e1, by omega, by omega, rfl⟩
    refine ⟨lq, _, _, _, rfl, rfl, SqL.of (b4 _ _ (hf3.ne hlq).1 upd_same), kat, (show 4 ≤ sizeLine by decide), fun t ht => ?_⟩
    have Nt := same_new ht (.tup [.str wBag, .str ed.1, .str ed.2, .int k])
    have B4 := B2.trans (b3.trans ((But.new hlq).trans b4))
    exact q t (.bag ed.1 ed.2 k) _ ((hf4.same Nt).mono (by omega)) (B4.trans (But.of_same Nt)) (B4.back hf4 ht) upd_same ⟨edE, ebag c2 ed hed, k0', k1⟩
  have hL2 := B2 _ _ Lf hL
  have hB2 := B2 _ _ Bf hB
  have nm2 := nm.tk (Tk.butD hf B2)
  have mm2 := mm.tk (Tk.butD hf B2)
  have pl := nm.len
  have ql := mm.len
  refine ⟨_, rfl, rfl, _, rfl, ite2 (fun c3 => ?_) (fun c3 => ?_)⟩
  · refine ⟨fun σ H' => ∃ (X : Addr) (xs : List Addr) (es2 : List Nm), σ = [some (.ref f), some (.ref o), some (.ref d), some (.str w2), some (.ref L), some (.ref B), some (.ref RD), v7, some (.str ed.1), some (.str ed.2), some (.ref X)] ∧ Fd H' f c (n + 2) ∧ But f H2 H' ∧ H' X = some (.lst (xs.map V.ref)) ∧ X ≠ f ∧ Nms H' xs es2 ∧ 0 < es2.length ∧ es2.length ≤ 41 ∧ ∀ e ∈ es2, NmF e, ?_, ?_⟩
    · refine ⟨_, rfl, (show 0 ≤ sizeLine by decide), fun z0 hz0 => ?_⟩
      have Nz := same_new hz0 (.lst [])
      have e6 : upd H2 z0 (.lst []) z0 = some (.lst []) := upd_same
      refine ⟨.list (ms.map nmD), .list [], .lst (SqL.of (Nz _ _ hB2)) (mm2.tk (Tk.same Nz)).dp, .lst (SqL.of e6) .nil, nms_plain _, rfl, nms_depth _, _, rfl, ?_⟩
      refine ite2 (fun c4 => ?_) (fun c4 => ?_)
      · refine ⟨_, rfl, f, c, 5, _, rfl, hf2.same Nz, by omega, by decide, by decide, fun e1 H3 e10 e11 hf3 b3 => ⟨_, _, rfl, rfl, _, rfl, ite2 (fun c5 => ?_) (fun c5 => ?_)⟩⟩
        · have b23 : But f H2 H3 := (But.of_same Nz).trans b3
          refine ⟨_, rfl, B, qs, ms, rfl, hf3.mono (by omega), b23, b23 _ _ Bf hB2, Bf, mm2.tk (Tk.butD hf2 b23), ?_, by omega, mok⟩
          cases ms with
          | nil => exact absurd c4 (by simp [PyData.eqv, PyData.eqvAll])
          | cons x l => exact Nat.succ_pos _
        · have b23 : But f H2 H3 := (But.of_same Nz).trans b3
          have hLx := b23 _ _ Lf hL2
          have nmx := nm2.tk (Tk.butD hf2 b23)
          refine ⟨_, rfl, (show 3 ≤ sizeLine by decide), fun ta hta => ⟨(show 1 ≤ sizeLine by decide), fun lb hlb => ?_⟩⟩
          have Na := same_new hta (.tup (nmV nmQ))
          have Nb := same_new hlb (.lst [.ref ta])
          refine ⟨L, lb, _, _, rfl, rfl, (Na.trans Nb) _ _ hLx, upd_same, ?_, fun p hp => ?_⟩
          · rw [List.length_map]
            exact Nat.le_trans (show ps.length + 1 ≤ 1000 by omega) (by decide)
          have Np := same_new hp (.lst (ps.map V.ref ++ [.ref ta]))
          have Nab := Na.trans (Nb.trans Np)
          have nep := ((hf3.same Na).same Nb).ne hp
          refine ⟨p, ps ++ [ta], ns ++ [nmQ], rfl, (hf3.same Nab).mono (by omega), b23.trans (But.of_same Nab), ?_, nep.1, ?_, ?_, ?_, fun e he => ?_⟩
          · rw [upd_same, List.map_append]
            rfl
          · exact (nmx.tk (Tk.same Nab)).app (Nms.mk1 ((Nb.trans Np) _ _ upd_same))
          · rw [List.length_append, List.length_singleton]
            omega
          · rw [List.length_append, List.length_singleton]
            omega
          · rcases List.mem_append.mp he with he | he
            · exact nok e he
            · rw [List.mem_singleton.mp he]
              exact nmQ_ok
      · refine iteF ?_
        have hfz := hf2.same Nz
        have Bz : But f H2 (upd H2 z0 (.lst [])) := But.of_same Nz
        have hLx := Bz _ _ Lf hL2
        have nmx := nm2.tk (Tk.butD hf2 Bz)
        refine ⟨_, rfl, (show 3 ≤ sizeLine by decide), fun ta hta => ⟨(show 1 ≤ sizeLine by decide), fun lb hlb => ?_⟩⟩
        have Na := same_new hta (.tup (nmV nmQ))
        have Nb := same_new hlb (.lst [.ref ta])
        refine ⟨L, lb, _, _, rfl, rfl, (Na.trans Nb) _ _ hLx, upd_same, ?_, fun p hp => ?_⟩
        · rw [List.length_map]
          exact Nat.le_trans (show ps.length + 1 ≤ 1000 by omega) (by decide)
        have Np := same_new hp (.lst (ps.map V.ref ++ [.ref ta]))
        have Nab := Na.trans (Nb.trans Np)
        have nep := ((hfz.same Na).same Nb).ne hp
        refine ⟨p, ps ++ [ta], ns ++ [nmQ], rfl, (hfz.same Nab).mono (by omega), Bz.trans (But.of_same Nab), ?_, nep.1, ?_, ?_, ?_, fun e he => ?_⟩
        · rw [upd_same, List.map_append]
          rfl
        · exact (nmx.tk (Tk.same Nab)).app (Nms.mk1 ((Nb.trans Np) _ _ upd_same))
        · rw [List.length_append, List.length_singleton]
          omega
        · rw [List.length_append, List.length_singleton]
          omega
        · rcases List.mem_append.mp he with he | he
          · exact nok e he
          · rw [List.mem_singleton.mp he]
            exact nmQ_ok
    rintro σ H3 ⟨X, xs, es2, rfl, hf3, b3, hX, Xf, nx3, xp, xl, xok⟩
    have xlen := nx3.len
    refine ⟨_, rfl, _, rfl, _, rfl, X, _, rfl, .inl (SqL.of hX), f, c, _, _, rfl, hf3, by omega, by rw [List.length_map]; omega, by rw [List.length_map]; omega, fun d2 H4 d20 d21 hf4 b4 => ?_⟩
    have nx4 := nx3.tk (Tk.butD hf3 b4)
    obtain ⟨pm, m, hm, pat2, hpm⟩ := pick_nm nx4 d20 d21
    have B4 := B2.trans (b3.trans b4)
    refine ⟨X, _, _, _, rfl, rfl, SqL.of (b4 _ _ Xf hX), pat2, ?_⟩
    refine ⟨_, rfl, _, rfl, _, rfl, f, c, o, d, _, ws, E1, base, wide, rfl, hf4, by omega, hof.but hf B4, okE, Tk.butD hf B4 _ _ hd, ok, fun u rs H5 hf5 b5 nu ru rok => ⟨(show 3 ≤ sizeLine by decide), fun t ht => ?_⟩⟩
    have Nt := same_new ht (.tup [.str wRead, .ref pm, .ref u])
    have B5 := B4.trans b5
    exact q t (.rd m rs) _ ((hf5.same Nt).mono (by omega)) (B5.trans (But.of_same Nt)) (B5.back hf5 ht) ⟨pm, u, upd_same, Nt _ _ (Tk.butD hf4 b5 _ _ hpm), ru.tk (Tk.same Nt)⟩ ⟨xok m hm, rok⟩
  refine ⟨_, rfl, rfl, _, rfl, ite2 (fun c4 => ?_) (fun c4 => ?_)⟩
  ·
    have hLx := hL2
    refine ⟨_, rfl, (show 3 ≤ sizeLine by decide), fun ta hta => ⟨(show 1 ≤ sizeLine by decide), fun lb hlb => ?_⟩⟩
    have Na := same_new hta (.tup (nmV nmQ))
    have Nb := same_new hlb (.lst [.ref ta])
    refine ⟨L, lb, _, _, rfl, rfl, (Na.trans Nb) _ _ hLx, upd_same, ?_, fun p hp => ?_⟩
    · rw [List.length_map]
      exact Nat.le_trans (show ps.length + 1 ≤ 1000 by omega) (by decide)
    have Np := same_new hp (.lst (ps.map V.ref ++ [.ref ta]))
    have Nab := Na.trans (Nb.trans Np)
    have nep := ((hf2.same Na).same Nb).ne hp
    have hp9 : upd (upd (upd H2 ta (.tup (nmV nmQ))) lb (.lst [.ref ta])) p (.lst (ps.map V.ref ++ [.ref ta])) p = some (.lst ((ps ++ [ta]).map V.ref)) := by
      rw [upd_same, List.map_append]
      rfl
    have nm9 := (nm2.tk (Tk.same Nab)).app (Nms.mk1 (e := nmQ) ((Nb.trans Np) _ _ upd_same))
    have hf9 := hf2.same Nab
    have ok9 : ∀ e ∈ ns ++ [nmQ], NmF e := fun e he => by
      rcases List.mem_append.mp he with he | he
      · exact nok e he
      · rw [List.mem_singleton.mp he]
        exact nmQ_ok
    refine ⟨_, rfl, _, rfl, _, rfl, p, _, rfl, .inl (SqL.of hp9), f, c, _, _, rfl, hf9, by omega, ?_, ?_, fun d2 H4 d20 d21 hf4 b4 => ?_⟩
    · rw [List.length_map, List.length_append, List.length_singleton]
      omega
    · rw [List.length_map, List.length_append, List.length_singleton]
      omega
    have nx4 := nm9.tk (Tk.butD hf9 b4)
    obtain ⟨pm, m, hm, pat2, hpm⟩ := pick_nm nx4 d20 d21
    have B4 := B2.trans ((But.of_same Nab).trans b4)
    refine ⟨p, _, _, _, rfl, rfl, SqL.of (b4 _ _ nep.1 hp9), pat2, (show 2 ≤ sizeLine by decide), fun t ht => ?_⟩
    have Nt := same_new ht (.tup [.str wVoid, .ref pm])
    exact q t (.vd m) _ ((hf4.same Nt).mono (by omega)) (B4.trans (But.of_same Nt)) (B4.back hf4 ht) ⟨pm, upd_same, Nt _ _ hpm⟩ (ok9 m hm)
  refine ⟨_, rfl, _, rfl, f, c, 9, _, rfl, hf2, by omega, by decide, by decide, fun e1 H3 e10 e11 hf3 b3 => ⟨(show 3 ≤ sizeLine by decide), fun t ht => ?_⟩⟩
  have Nt := same_new ht (.tup [.str wCount, .str ed.2, .int e1])
  have B3 := B2.trans b3
  exact q t (.ct ed.2 e1) _ ((hf3.same Nt).mono (by omega)) (B3.trans (But.of_same Nt)) (B3.back hf3 ht) upd_same ⟨⟨ed.1, edE⟩, e10, by omega⟩

theorem ok_lbook (F : Fun K "_law_book" "_law_book" s_lbook f_lbook d_lbook) (T : Txt mg f_is_apart f_runs_of f_many_in f_named_by_voids f_counted_bags f_standing_of f_pages_that_are f_counted_pages f_all_steps f_together f_both f_less f_what_is_left f_add_gap f_gaps f_ltape f_ldraw f_loffice f_lnames f_lruns f_lfield f_ldeed f_lbook f_ltold f_lof f_lrows f_ldue f_law)
    (F_ldraw : Fun K "_law_draw" "_law_draw" s_ldraw f_ldraw d_ldraw) (b_ldraw : Binds K d_ldraw ["_law_tape_here", "_law_many"] []) (G_ldraw : FnOk P w K mg base CX0 (3) f_ldraw d_ldraw ["_law_tape_here", "_law_many"] spDrawT)
    (F_lnames : Fun K "_law_names" "_law_names" s_lnames f_lnames d_lnames) (b_lnames : Binds K d_lnames ["_law_tape_here", "_law_many"] []) (G_lnames : FnOk P w K mg base CX0 (3) f_lnames d_lnames ["_law_tape_here", "_law_many"] spNamesF)
    (F_ldeed : Fun K "_law_deed" "_law_deed" s_ldeed f_ldeed d_ldeed) (b_ldeed : Binds K d_ldeed ["_law_tape_here", "_law_office_here", "_law_field_here", "_law_word", "_law_names_here", "_law_bags"] []) (G_ldeed : FnOk P w K mg base CX0 (3) f_ldeed d_ldeed ["_law_tape_here", "_law_office_here", "_law_field_here", "_law_word", "_law_names_here", "_law_bags"] spDeedF) :
    FnOk P w K mg base CX0 (4) f_lbook d_lbook ["_law_tape_here", "_law_office_here", "_law_field_here", "_law_many"] spBookG := by
  refine F.ok sc_lbook (fun vs H Q E h => ?_) (fun cdv A outer s H vs Q E hr h => ?_)

  · obtain ⟨f, c, o, d, m, n, ws, E1, base, wide, rfl, _⟩ := h
    rfl
  obtain ⟨f, c, o, d, m, n, ws, E1, base, wide, rfl, hf, hn, hof, okE, hd, ok, m40, q⟩ := h
  refine ⟨_, (pss_cons (ps_set (i := 4) sc_lbook.nd rfl (.inl rfl) (pe_call G_lnames hr (by rfl) T.m_lnames F_lnames.kp b_lnames .nil pass0 (pa_cons (pv 0) (pa_cons (pv 3) pa_nil))))
  (pss_cons (ps_set (i := 5) sc_lbook.nd rfl (.inr rfl) (pe_lst (pa_cons pe_str (pa_cons pe_str (pa_cons pe_str (pa_cons pe_str (pa_cons pe_str (pa_cons pe_str (pa_cons pe_str (pa_cons pe_str (pa_cons pe_str (pa_cons pe_str (pa_cons pe_str pa_nil)))))))))))))
  (pss_cons (ps_setLc (i := 6) (own := [("_law_name", 7)]) (g := (gName 7)) (by rfl) sc_lbook.nd rfl rfl (sw_true rfl rfl rfl (by decide +kernel)) (pi_list (pv 4)) (blkOk_by (own := [("_law_name", 7)]) (N := ["_law_tape_here", "_law_office_here", "_law_field_here", "_law_many", "_law_names_here", "_law_menu", "_law_words", "_law_name", "_law_bags", "_law_word", "_law_pages"]) (sc := defScope s_lbook) (by decide +kernel)) (fun _ _ _ _ _ => (pg_name (i := 7) sc_lbook.nd rfl (.inl rfl))) (fun _ _ _ _ _ => pts_nil) (fun _ _ _ _ _ => (pe_ix (show IxR _ (rIxL K) from ix_list) (pv 5) (pe_call G_ldraw hr (by rfl) T.m_ldraw F_ldraw.kp b_ldraw .nil pass0 (pa_cons (pv 0) (pa_cons pe_int pa_nil))) (fun _ _ => rfl))))
  (pss_cons (ps_setLc (i := 8) (own := [("_law_name", 7), ("_law_word", 9)]) (g := (gTup K 2 (gCons (gName 7) (gCons (gName 9) gNil)))) (by rfl) sc_lbook.nd rfl rfl (sw_true rfl rfl rfl (by decide +kernel)) (RZ.pi_zipA (by rfl) T.zip (pa_cons (pv 4) (pa_cons (pv 6) pa_nil))) (blkOk_by (own := [("_law_name", 7), ("_law_word", 9)]) (N := ["_law_tape_here", "_law_office_here", "_law_field_here", "_law_many", "_law_names_here", "_law_menu", "_law_words", "_law_name", "_law_bags", "_law_word", "_law_pages"]) (sc := defScope s_lbook) (by decide +kernel)) (fun _ _ _ _ _ => (pg_tup rfl (pgs_cons (pg_name (i := 7) sc_lbook.nd rfl (.inl rfl)) (pgs_cons (pg_name (i := 9) sc_lbook.nd rfl (.inl rfl)) pgs_nil)))) (fun _ _ _ _ _ => (pts_one (pt_cmpR op_eq (pv 9) pe_str (nomark _)))) (fun _ _ _ _ _ => (pv 7)))
  (pss_cons (ps_set (i := 10) sc_lbook.nd rfl (.inl rfl) (pe_lst pa_nil))
  (pss_cons (ps_for PassesOwn.never rfl (RZ.pi_zipA (by rfl) T.zip (pa_cons (pv 4) (pa_cons (pv 6) pa_nil))) (pg_tup rfl (pgs_cons (pg_name (i := 7) sc_lbook.nd rfl (.inl rfl)) (pgs_cons (pg_name (i := 9) sc_lbook.nd rfl (.inl rfl)) pgs_nil)))
  (pss_one (ps_expr (pe_bm PySem.F.plainAttrs_list PySem.F.slot_list_append PySem.F.type_list_append mt_append (pv 10) (pa_cons (pe_tup (pa_cons (pv 7) (pa_cons (pe_call G_ldeed hr (by rfl) T.m_ldeed F_ldeed.kp b_ldeed .nil pass0 (pa_cons (pv 0) (pa_cons (pv 1) (pa_cons (pv 2) (pa_cons (pv 9) (pa_cons (pv 4) (pa_cons (pv 8) pa_nil))))))) pa_nil))) pa_nil)))))
  (pss_one (ps_ret (pe_callTy call_tupleF (by rfl) T.tuple (by decide +kernel) (pa_cons (pv 10) pa_nil)))))))))), ?_⟩
  refine ⟨_, rfl, _, rfl, f, c, m, n, rfl, hf, by omega, m40, fun L ps ns H1 hf1 b1 nL hL nm1 nl nd nok nup => ?_⟩
  have Lf : L ≠ f := by
    obtain ⟨zs, hz⟩ := hf.at
    exact Ne.symm (ne_of_none hz nL)
  have pl := nm1.len
  refine ⟨(show 11 ≤ sizeLine by decide), fun M hM => ?_⟩
  have NM := same_new hM (.lst (gMenuF.map V.str))
  have Mf := (hf1.ne hM).1
  have hM2 : upd H1 M (.lst (gMenuF.map V.str)) M = some (.lst (gMenuF.map V.str)) := upd_same
  have hL2 := NM _ _ hL
  have nm2 := nm1.tk (Tk.same NM)
  have hf2 := hf1.same NM
  have B2 : But f H (upd H1 M (.lst (gMenuF.map V.str))) := b1.trans (But.of_same NM)
  change tSeq _ _ _ _ (upd H1 M (.lst (gMenuF.map V.str)))
  generalize upd H1 M (.lst (gMenuF.map V.str)) = H2 at *
  refine ⟨_, rfl, L, rfl, ⟨_, SqL.of hL2⟩, fun W hW => ?_⟩
  have Wf := (hf2.ne hW).1
  have NW := same_new hW (.lst [])
  refine lc_list (K := K) (a := L) (xs := ps.map V.ref) (fun i H' => ∃ ks : List Str, Fd H' f c (n + 240 + i) ∧ But f H2 H' ∧ H' W = some (.lst (ks.map V.str)) ∧ ks.length = i) ⟨[], (hf2.same NW).mono (by omega), But.of_same NW, upd_same, rfl⟩ (fun i H' _ h => by obtain ⟨_, _, b, _⟩ := h; exact SqL.of (b _ _ Lf hL2)) ?_ ?_
  · rintro i x H3 hx ⟨ks, hf3, b3, hW3, kl⟩
    have hi := (List.getElem?_eq_some_iff.mp hx).1
    rw [List.length_map] at hi
    refine ⟨rfl, _, rfl, _, rfl, f, c, 11, _, rfl, hf3, by omega, by decide, by decide, fun e1 H4 e10 e11 hf4 b4 => ?_⟩
    obtain ⟨k, hk1, hk2⟩ := pick_str (xs := gMenuF) (d := e1) e10 e11
    refine ⟨M, _, _, _, rfl, rfl, SqL.of (b4 _ _ Mf (b3 _ _ Mf hM2)), hk2, _, b4 _ _ Wf hW3, ?_, ks ++ [k], ?_, (b3.trans b4).mut hW, ?_, ?_⟩
    · rw [List.length_map, kl]
      exact Nat.lt_of_le_of_lt (show _ ≤ 100 by omega) (by decide)
    · exact (hf4.upd (hf2.ne hW)).mono (by omega)
    · rw [upd_same, List.map_append]
      rfl
    · rw [List.length_append, List.length_singleton, kl]
  rintro H3 ⟨ks, hf3, b3, hW3, kl⟩
  rw [List.length_map] at kl hf3
  have hL3 := b3 _ _ Lf hL2
  have nm3 := nm2.tk (Tk.butD hf2 b3)
  have WL : W ≠ L := fun z => by rw [z, hL2] at hW; cases hW
  refine ⟨_, rfl, _, rfl, L, W, _, _, rfl, .inl ⟨SqL.of hL3, SqL.of hW3, fun B hB => ?_⟩⟩
  have Bf := (hf3.ne hB).1
  refine lc_it (walk_zip (K := K) (a := L) (b := W) (xs := ps.map V.ref) (ys := ks.map V.str) (n := ps.length) (by rw [List.length_map, List.length_map, kl, Nat.min_self])) (fun i H' => ∃ (us : List Addr) (ms : List Nm), Same H3 H' ∧ H' B = some (.lst (us.map V.ref)) ∧ Nms H' us ms ∧ ms.length ≤ i ∧ ∀ e ∈ ms, e ∈ ns) ⟨[], [], same_new hB _, upd_same, .nil, Nat.le_refl _, fun _ h => nomatch h⟩ (fun i H' _ h => by obtain ⟨_, _, S, _⟩ := h; exact ⟨SqL.of (S _ _ hL3), SqL.of (S _ _ hW3)⟩) ?_ ?_
  · rintro i y H4 H5 hi ⟨us, ms, S4, hB4, mm4, mle, msub⟩ ⟨T0, x0, y0, rfl, hT0, rfl, hx0, hy0⟩
    have hx0 : (ps.map V.ref)[i]? = some x0 := hx0
    have hy0 : (ks.map V.str)[i]? = some y0 := hy0
    obtain ⟨u, hu, rfl⟩ : ∃ u, ps[i]? = some u ∧ x0 = V.ref u := by
      rw [List.getElem?_map] at hx0
      cases e : ps[i]? with
      | none => rw [e] at hx0; cases hx0
      | some p => rw [e] at hx0; exact ⟨p, rfl, (Option.some.inj hx0).symm⟩
    obtain ⟨k, hk, rfl⟩ : ∃ k, (ks)[i]? = some k ∧ y0 = V.str k := by
      rw [List.getElem?_map] at hy0
      cases e' : (ks)[i]? with
      | none => rw [e'] at hy0; cases hy0
      | some p => rw [e'] at hy0; exact ⟨p, rfl, (Option.some.inj hy0).symm⟩
    obtain ⟨e, he1, he2⟩ := Nms.get nm3 hu
    have NT := same_new hT0 (.tup [.ref u, .str k])
    have hB5 := NT _ _ hB4
    have ul := mm4.len
    refine ⟨T0, _, rfl, SqT.of upd_same, rfl, _, _, rfl, _, _, rfl, rfl, rfl, _, rfl, rfl, _, rfl, ?_⟩
    refine ite2 (fun c1 => ?_) (fun c1 => ?_)
    · refine ⟨_, rfl, _, hB5, ?_, us ++ [u], ms ++ [e], same_mut (S4.trans NT) hB, ?_, ?_, ?_, fun z hz => ?_⟩
      · rw [List.length_map, ul]
        exact Nat.lt_of_le_of_lt (show _ ≤ 100 by omega) (by decide)
      · rw [upd_same, List.map_append]
        rfl
      · exact ((mm4.tk (Tk.same NT)).app (Nms.mk1 ((S4.trans NT) _ _ he2))).tk (Tk.put hB5)
      · rw [List.length_append, List.length_singleton]
        omega
      · rcases List.mem_append.mp hz with hz | hz
        · exact msub z hz
        · rw [List.mem_singleton.mp hz]
          exact List.mem_of_getElem? he1
    · exact ⟨us, ms, S4.trans NT, hB5, mm4.tk (Tk.same NT), by omega, msub⟩
  rintro H4 ⟨us, ms, S4, hB4, mm4, mle, msub⟩
  have hf4 := hf3.same S4
  have B4 : But f H H4 := B2.trans (b3.trans (But.of_same S4))
  refine ⟨(show 0 ≤ sizeLine by decide), fun R hR => ?_⟩
  have NR := same_new hR (.lst [])
  have neR := hf4.ne hR
  have R0 : H R = none := B4.back hf4 hR
  have LR : L ≠ R := ne_of_none (S4 _ _ hL3) hR
  have WR : W ≠ R := ne_of_none (S4 _ _ hW3) hR
  have BR : B ≠ R := ne_of_none hB4 hR
  have T4 : Tk H3 H4 := Tk.same S4
  refine ⟨_, rfl, _, rfl, L, W, _, _, rfl, .inl ⟨SqL.of (NR _ _ (S4 _ _ hL3)), SqL.of (NR _ _ (S4 _ _ hW3)), ?_⟩⟩
  refine for_it (walk_zip (K := K) (a := L) (b := W) (xs := ps.map V.ref) (ys := ks.map V.str) (n := ps.length) (by rw [List.length_map, List.length_map, kl, Nat.min_self])) (fun i σ H' => ∃ (qs : List Addr) (gs : List Pg) (v7 v9 : Option V), σ = [some (.ref f), some (.ref o), some (.ref d), some (.int m), some (.ref L), some (.ref M), some (.ref W), v7, some (.ref B), v9, some (.ref R)] ∧ Fd H' f c (n + 300 + 20 * i) ∧ But f H H' ∧ H' L = some (.lst (ps.map V.ref)) ∧ H' W = some (.lst (ks.map V.str)) ∧ H' B = some (.lst (us.map V.ref)) ∧ H' R = some (.lst (qs.map V.ref)) ∧ Tk H4 H' ∧ Pgs H' qs gs ∧ gs.map (·.1) = ns.take i ∧ ∀ g ∈ gs, DdF ws E1 base wide g.2) ⟨[], [], none, none, rfl, (hf4.same NR).mono (by omega), B4.trans (But.of_same NR), NR _ _ (S4 _ _ hL3), NR _ _ (S4 _ _ hW3), NR _ _ hB4, upd_same, Tk.same NR, .nil, rfl, fun _ h => nomatch h⟩ (fun i σ H' _ h => by obtain ⟨_, _, _, _, _, _, _, h1, h2, _⟩ := h; exact ⟨SqL.of h1, SqL.of h2⟩) ?_ ?_
  · rintro i y σ H5 H6 hi ⟨qs, gs, v7, v9, rfl, hf5, B5, hL5, hW5, hB5, hR5, tk5, pg5, gn5, gd5⟩ ⟨T0, x0, y0, rfl, hT0, rfl, hx0, hy0⟩
    have hx0 : (ps.map V.ref)[i]? = some x0 := hx0
    have hy0 : (ks.map V.str)[i]? = some y0 := hy0
    obtain ⟨u, hu, rfl⟩ : ∃ u, ps[i]? = some u ∧ x0 = V.ref u := by
      rw [List.getElem?_map] at hx0
      cases e : ps[i]? with
      | none => rw [e] at hx0; cases hx0
      | some p => rw [e] at hx0; exact ⟨p, rfl, (Option.some.inj hx0).symm⟩
    obtain ⟨k, hk, rfl⟩ : ∃ k, (ks)[i]? = some k ∧ y0 = V.str k := by
      rw [List.getElem?_map] at hy0
      cases e' : (ks)[i]? with
      | none => rw [e'] at hy0; cases hy0
      | some p => rw [e'] at hy0; exact ⟨p, rfl, (Option.some.inj hy0).symm⟩
    obtain ⟨e, he1, he2⟩ := Nms.get ((nm3.tk T4).tk tk5) hu
    obtain ⟨hi2, ee⟩ := List.getElem?_eq_some_iff.mp he1
    have NT := same_new hT0 (.tup [.ref u, .str k])
    have gl : gs.length = i := by
      have := congrArg List.length gn5
      rw [List.length_map, List.length_take] at this
      omega
    have ql := pg5.len
    refine ⟨T0, _, rfl, SqT.of upd_same, rfl, _, _, rfl, _, _, rfl, rfl, ?_⟩
    have hR6 := NT _ _ hR5
    refine ⟨_, rfl, .inl ⟨rfl, _, SqL.of hR6⟩, _, rfl, ?_⟩
    refine ⟨_, rfl, _, rfl, _, rfl, _, rfl, _, rfl, _, rfl, f, c, o, d, L, B, _, ws, E1, base, wide, k, ps, us, ns, ms, rfl, hf5.same NT, by omega, (hof.but hf B5).same NT, okE, NT _ _ (Tk.butD hf B5 _ _ hd), ok, NT _ _ hL5, Lf, ((nm3.tk T4).tk tk5).tk (Tk.same NT), by omega, nok, NT _ _ hB5, Bf, (mm4.tk tk5).tk (Tk.same NT), by omega, fun e he => nok e (msub e he), fun t dd H7 hf7 b7 nt dat dok => ⟨(show 2 ≤ sizeLine by decide), fun pg npg => ?_⟩⟩
    have NP := same_new npg (.tup [.ref u, .ref t])
    have b57 : But f H5 H7 := (But.of_same NT).trans b7
    have hR8 := NP _ _ (b7 _ _ neR.1 hR6)
    have tk57 : Tk H5 (upd H7 pg (.tup [.ref u, .ref t])) := (Tk.butD hf5 b57).trans (Tk.same NP)
    refine ⟨R, _, _, rfl, rfl, hR8, ?_, qs ++ [pg], gs ++ [(e, dd)], _, _, rfl, ((hf7.same NP).upd neR).mono (by omega), (B5.trans (b57.trans (But.of_same NP))).mut R0, ?_, ?_, ?_, ?_, ?_, ?_, ?_, fun z hz => ?_⟩
    · rw [List.length_map, ql]
      exact Nat.lt_of_le_of_lt (show _ ≤ 100 by omega) (by decide)
    · exact (upd_ne LR).trans (NP _ _ (b57 _ _ Lf hL5))
    · exact (upd_ne WR).trans (NP _ _ (b57 _ _ Wf hW5))
    · exact (upd_ne BR).trans (NP _ _ (b57 _ _ Bf hB5))
    · rw [upd_same, List.map_append]
      rfl
    · exact tk5.trans (tk57.trans (Tk.put hR8))
    · exact ((pg5.tk tk57).app (Pgs.mk1 ⟨u, t, upd_same, tk57 _ _ he2, dat.tk (Tk.same NP)⟩)).tk (Tk.put hR8)
    · rw [List.map_append, gn5, List.take_succ_eq_append_getElem hi2, ee]
      rfl
    · rcases List.mem_append.mp hz with hz | hz
      · exact gd5 z hz
      · rw [List.mem_singleton.mp hz]
        exact dok
  rintro σ H5 ⟨qs, gs, v7, v9, rfl, hf5, B5, hL5, hW5, hB5, hR5, tk5, pg5, gn5, gd5⟩
  rw [pl, List.take_length] at gn5
  refine ⟨_, rfl, R, _, rfl, SqL.of hR5, fun t ob nt tp => ?_⟩
  have Nt := same_new nt (.frz ob (.tup (qs.map V.ref)))
  have gl : gs.length = ns.length := by rw [← gn5, List.length_map]
  refine q t gs _ ((hf5.same Nt).mono (by omega)) (B5.trans (But.of_same Nt)) (B5.back hf5 nt) ⟨qs, ob, upd_same, tp, pg5.tk (Tk.same Nt)⟩ (by omega) (by rw [gn5]; exact nd) (fun g hg => ⟨nok _ ?_, gd5 g hg⟩) (by rw [gn5]; exact nup)
  rw [← gn5]
  exact List.mem_map.mpr ⟨g, hg, rfl⟩

theorem ok_ltold (F : Fun K "_law_told" "_law_told" s_ltold f_ltold d_ltold) (T : Txt mg f_is_apart f_runs_of f_many_in f_named_by_voids f_counted_bags f_standing_of f_pages_that_are f_counted_pages f_all_steps f_together f_both f_less f_what_is_left f_add_gap f_gaps f_ltape f_ldraw f_loffice f_lnames f_lruns f_lfield f_ldeed f_lbook f_ltold f_lof f_lrows f_ldue f_law) :
    FnOk P w K mg base CX0 (1) f_ltold d_ltold ["_law_book_here"] spToldF := by
  refine F.ok sc_ltold (fun vs H Q E h => ?_) (fun cdv A outer s H vs Q E hr h => ?_)

  · obtain ⟨b, gs, rfl, _⟩ := h
    rfl
  obtain ⟨b, gs, rfl, bf, bl, nd, q⟩ := h
  refine ⟨_, (pss_cons (ps_set (i := 1) sc_ltold.nd rfl (.inl rfl) (pe_callTy (call_dictTT rfl (hu_of2 hr)) (by rfl) T.dict (by decide +kernel) (pa_cons (pv 0) pa_nil)))
  (pss_cons (ps_setLc (i := 2) (own := [("_law_name", 3), ("_law_deed_here", 4)]) (g := (gTup K 2 (gCons (gName 3) (gCons (gName 4) gNil)))) (by rfl) sc_ltold.nd rfl rfl (sw_true rfl rfl rfl (by decide +kernel)) (pi_tup (pv 0)) (blkOk_by (own := [("_law_name", 3), ("_law_deed_here", 4)]) (N := ["_law_book_here", "_law_deeds", "_law_gone", "_law_name", "_law_deed_here", "_law_found", "_law_bag"]) (sc := defScope s_ltold) (by decide +kernel)) (fun _ _ _ _ _ => (pg_tup rfl (pgs_cons (pg_name (i := 3) sc_ltold.nd rfl (.inl rfl)) (pgs_cons (pg_name (i := 4) sc_ltold.nd rfl (.inl rfl)) pgs_nil)))) (fun _ _ _ _ _ => (pts_one (pt_cmpR op_eq (pe_ix (show IxR _ (rIxT K) from ix_tup) (pv 4) pe_int (fun _ _ => rfl)) pe_str (nomark _)))) (fun _ _ _ _ _ => (pe_ix (show IxR _ (rIxT K) from ix_tup) (pv 4) pe_int (fun _ _ => rfl))))
  (pss_cons (ps_set (i := 5) sc_ltold.nd rfl (.inl rfl) (pe_lst pa_nil))
  (pss_cons (ps_for PassesOwn.never rfl (pi_tup (pv 0)) (pg_tup rfl (pgs_cons (pg_name (i := 3) sc_ltold.nd rfl (.inl rfl)) (pgs_cons (pg_name (i := 4) sc_ltold.nd rfl (.inl rfl)) pgs_nil)))
  (pss_cons (ps_if (PW.pt (pw_and (pt_cmpR op_eq (pe_ix ix_tup (pv 4) pe_int (fun _ _ => rfl)) pe_str (nomark _)) (pw_and1 (pt_cmpR (op_notinLP hr) (pv 3) (pv 2) (by rfl)))))
  (pss_one (ps_expr (pe_bm PySem.F.plainAttrs_list PySem.F.slot_list_append PySem.F.type_list_append mt_append (pv 5) (pa_cons (pe_tup (pa_cons (pv 3) (pa_cons (pv 3) (pa_cons (pe_ix ix_tup (pv 4) pe_int (fun _ _ => rfl)) (pa_cons (pe_ix ix_tup (pv 4) pe_int (fun _ _ => rfl)) (pa_cons (pe_ix ix_tup (pv 4) pe_int (fun _ _ => rfl)) pa_nil)))))) pa_nil))))
  pss_nil)
  (pss_one (ps_if (PW.pt (pw_and (pt_cmpR op_eq (pe_ix ix_tup (pv 4) pe_int (fun _ _ => rfl)) pe_str (nomark _)) (pw_and (pt_cmpR (op_notinLP hr) (pv 3) (pv 2) (by rfl)) (pw_and1 (pt_cmpR (op_notinLP hr) (pe_ix ix_tup (pv 4) pe_int (fun _ _ => rfl)) (pv 2) (by rfl))))))
  (pss_cons (ps_set (i := 6) sc_ltold.nd rfl (.inl rfl) (pe_dget2 (hu_of hr) (pv 1) (pe_ix ix_tup (pv 4) pe_int (fun _ _ => rfl)) (pe_tup (pa_cons pe_str pa_nil)) ⟨rfl, rfl, rfl, rfl⟩))
  (pss_one (ps_if (pt_cmpR op_eq (pe_ix ix_tup (pv 6) pe_int (fun _ _ => rfl)) pe_str (nomark _))
  (pss_one (ps_expr (pe_bm PySem.F.plainAttrs_list PySem.F.slot_list_append PySem.F.type_list_append mt_append (pv 5) (pa_cons (pe_tup (pa_cons (pe_ix ix_tup (pv 4) pe_int (fun _ _ => rfl)) (pa_cons (pv 3) (pa_cons (pe_ix ix_tup (pv 6) pe_int (fun _ _ => rfl)) (pa_cons (pe_ix ix_tup (pv 6) pe_int (fun _ _ => rfl)) (pa_cons (pe_ix ix_tup (pv 4) pe_int (fun _ _ => rfl)) pa_nil)))))) pa_nil))))
  pss_nil)))
  pss_nil))))
  (pss_one (ps_ret (pe_callB (cr_sortedD hr) (by rfl) T.sorted (by decide +kernel) (pa_cons (pv 5) pa_nil)))))))), ?_⟩
  obtain ⟨ps, o, hb, tpl, pg⟩ := id bf
  obtain ⟨xs, x1, x2, x3, x4⟩ := pgs_pairs (K := K) pg
  have pl := pg.len
  refine ⟨_, rfl, b, o, ps, xs, rfl, hb, tpl, x1, x2, fun DD nDD => ?_⟩
  have ND := same_new nDD (.dT (putAll [] xs))
  have hDD1 : upd H DD (.dT (putAll [] xs)) DD = some (.dT (putAll [] xs)) := upd_same
  have vk : ∀ g ∈ gs, ∃ td, valV (putAll [] xs) (nmKey g.1) = some (.ref td) ∧ DdAt H td g.2 := fun g hg => by
    obtain ⟨x, hx, e1, td, e2, dat⟩ := x4 g hg
    have nk : (xs.map (·.1)).Nodup := by rw [x3]; exact keys_nd nd
    exact ⟨td, by rw [(putAll_val (acc := []) (k := nmKey g.1) nk).1 x hx e1, e2], dat⟩
  have vn : ∀ n : Nm, (∀ g ∈ gs, g.1 ≠ n) → valV (putAll [] xs) (nmKey n) = none := fun n hn => by
    have nk : (xs.map (·.1)).Nodup := by rw [x3]; exact keys_nd nd
    rw [(putAll_val (acc := []) (k := nmKey n) nk).2 (fun z => by
      rw [x3] at z
      obtain ⟨g, hg, e⟩ := List.mem_map.mp z
      exact hn g hg (nmKey_inj e))]
    rfl
  generalize hH1 : upd H DD (.dT (putAll [] xs)) = H1 at *
  generalize putAll [] xs = kvs at *
  refine ⟨_, rfl, b, rfl, ⟨_, SqT.fz (ND _ _ hb)⟩, fun G hG => ?_⟩
  refine lc_tup (K := K) (a := b) (xs := ps.map V.ref) (fun i H' => ∃ us : List Addr, Same H1 H' ∧ H' G = some (.lst (us.map V.ref)) ∧ Nms H' us (voidL (gs.take i))) ⟨[], same_new hG _, upd_same, .nil⟩ (fun i H' _ h => by obtain ⟨_, S, _⟩ := h; exact SqT.fz (S _ _ (ND _ _ hb))) ?_ ?_
  · rintro i y H2 hy ⟨us, S2, hG2, nm2⟩
    obtain ⟨u, hu, rfl⟩ : ∃ u, ps[i]? = some u ∧ y = V.ref u := by
      rw [List.getElem?_map] at hy
      cases e : ps[i]? with
      | none => rw [e] at hy; cases hy
      | some p => rw [e] at hy; exact ⟨p, rfl, (Option.some.inj hy).symm⟩
    obtain ⟨g, hg, na, td, p1, p2, p3⟩ := Pgs.get (pg.tk (Tk.same (ND.trans S2))) hu
    obtain ⟨hi, eg⟩ := List.getElem?_eq_some_iff.mp hg
    have more : voidL (gs.take (i + 1)) = voidL (gs.take i) ++ voidOf g.2 := by
      unfold voidL
      rw [List.take_succ_eq_append_getElem hi, eg, List.flatMap_append]
      simp
    have ul := nm2.len
    have vl := voidL_len (gs.take i)
    rw [List.length_take] at vl
    refine ⟨u, _, rfl, SqT.of p1, rfl, _, _, rfl, _, _, rfl, rfl, rfl, ?_⟩
    obtain ⟨nm, dd⟩ := g
    cases dd with
    | mv a c rs =>
      obtain ⟨ru, h1, _⟩ := p3
      refine ⟨_, rfl, td, _, _, _, rfl, rfl, SqT.of h1, ix0 _ _, rfl, _, rfl, ?_⟩
      refine ite2 (fun c => absurd (V.str.inj (of_decide_eq_true c)) (by decide +kernel)) (fun _ => ?_)
      rw [more, show voidOf _ = [] from rfl, List.append_nil]
      exact ⟨us, S2, hG2, nm2⟩
    | bag a c k =>
      refine ⟨_, rfl, td, _, _, _, rfl, rfl, SqT.of p3, ix0 _ _, rfl, _, rfl, ?_⟩
      refine ite2 (fun c => absurd (V.str.inj (of_decide_eq_true c)) (by decide +kernel)) (fun _ => ?_)
      rw [more, show voidOf _ = [] from rfl, List.append_nil]
      exact ⟨us, S2, hG2, nm2⟩
    | rd m rs =>
      obtain ⟨qn, ru, h1, _⟩ := p3
      refine ⟨_, rfl, td, _, _, _, rfl, rfl, SqT.of h1, ix0 _ _, rfl, _, rfl, ?_⟩
      refine ite2 (fun c => absurd (V.str.inj (of_decide_eq_true c)) (by decide +kernel)) (fun _ => ?_)
      rw [more, show voidOf _ = [] from rfl, List.append_nil]
      exact ⟨us, S2, hG2, nm2⟩
    | ct a k =>
      refine ⟨_, rfl, td, _, _, _, rfl, rfl, SqT.of p3, ix0 _ _, rfl, _, rfl, ?_⟩
      refine ite2 (fun c => absurd (V.str.inj (of_decide_eq_true c)) (by decide +kernel)) (fun _ => ?_)
      rw [more, show voidOf _ = [] from rfl, List.append_nil]
      exact ⟨us, S2, hG2, nm2⟩
    | vd m =>
      obtain ⟨qn, h1, h2⟩ := p3
      refine ⟨_, rfl, td, _, _, _, rfl, rfl, SqT.of h1, rfl, rfl, _, rfl, ?_⟩
      refine ite2 (fun _ => ?_) (fun c => absurd (decide_eq_true rfl) c)
      refine ⟨_, rfl, td, _, _, _, rfl, rfl, SqT.of h1, rfl, _, hG2, ?_, us ++ [qn], same_mut S2 hG, ?_, ?_⟩
      · rw [List.length_map, ul]
        exact Nat.lt_of_le_of_lt (show _ ≤ 100 by omega) (by decide)
      · rw [upd_same, List.map_append]
        rfl
      · rw [more]
        exact (nm2.app (Nms.mk1 h2)).tk (Tk.put hG2)
  rintro H2 ⟨us, S2, hG2, nm2⟩
  rw [List.length_map, pl, List.take_length] at nm2
  have vmem : ∀ n : Nm, n ∈ voidL gs ↔ n ∈ voids gs := fun n => voidL_mem
  generalize voidL gs = vs at *
  refine ⟨(show 0 ≤ sizeLine by decide), fun R hR => ?_⟩
  have NR := same_new hR (.lst [])
  have S3 : Same H (upd H2 R (.lst [])) := ND.trans (S2.trans NR)
  have hDD3 := NR _ _ (S2 _ _ hDD1)
  have hG3 := NR _ _ hG2
  have hR3 : upd H2 R (.lst []) R = some (.lst []) := upd_same
  have nm3 := nm2.tk (Tk.same NR)
  have R0 : H R = none := (ND.trans S2).free hR
  have GR : G ≠ R := fun z => by rw [z, hR] at hG2; cases hG2
  have DR : DD ≠ R := fun z => by
    have := S2 _ _ hDD1
    rw [z, hR] at this
    cases this
  generalize upd H2 R (.lst []) = H3 at *
  refine ⟨_, rfl, b, rfl, ⟨_, SqT.fz (S3 _ _ hb)⟩, ?_⟩
  refine for_tup (K := K) (a := b) (xs := ps.map V.ref) (fun i σ H' => ∃ (rs : List Addr) (v3 v4 v6 : Option V), σ = [some (.ref b), some (.ref DD), some (.ref G), v3, v4, some (.ref R), v6] ∧ Same H H' ∧ H' DD = some (.dT kvs) ∧ H' G = some (.lst (us.map V.ref)) ∧ Nms H' us vs ∧ H' R = some (.lst (rs.map V.ref)) ∧ S5s H' rs ((gs.take i).flatMap (cstp gs))) ⟨[], none, none, none, rfl, S3, hDD3, hG3, nm3, hR3, .nil⟩ (fun i σ H' _ h => by obtain ⟨_, _, _, _, _, S, _⟩ := h; exact SqT.fz (S _ _ hb)) ?_ ?_
  · rintro i y σ H4 hy ⟨rs, v3, v4, v6, rfl, S4, hDD4, hG4, nm4, hR4, st4⟩
    obtain ⟨u, hu, rfl⟩ : ∃ u, ps[i]? = some u ∧ y = V.ref u := by
      rw [List.getElem?_map] at hy
      cases e : ps[i]? with
      | none => rw [e] at hy; cases hy
      | some p => rw [e] at hy; exact ⟨p, rfl, (Option.some.inj hy).symm⟩
    obtain ⟨g, hg, na, td, p1, p2, p3⟩ := Pgs.get (pg.tk (Tk.same S4)) hu
    obtain ⟨hi, eg⟩ := List.getElem?_eq_some_iff.mp hg
    have more : (gs.take (i + 1)).flatMap (cstp gs) = (gs.take i).flatMap (cstp gs) ++ cstp gs g := by
      rw [List.take_succ_eq_append_getElem hi, eg, List.flatMap_append]
      simp
    have rl := paired_len st4
    have cl := cstp_len gs (gs.take i)
    rw [List.length_take] at cl
    have lenR : (rs.map V.ref).length < sizeLine := by
      rw [List.length_map, rl]
      exact Nat.lt_of_le_of_lt (show _ ≤ 100 by omega) (by decide)
    have keep : ∀ {Hx : Hp} (w3 w4 w6 : Option V), Same H4 Hx → cstp gs g = [] → ∃ (rs : List Addr) (v3 v4 v6 : Option V), [some (.ref b), some (.ref DD), some (.ref G), w3, w4, some (.ref R), w6] = [some (.ref b), some (.ref DD), some (.ref G), v3, v4, some (.ref R), v6] ∧ Same H Hx ∧ Hx DD = some (.dT kvs) ∧ Hx G = some (.lst (us.map V.ref)) ∧ Nms Hx us vs ∧ Hx R = some (.lst (rs.map V.ref)) ∧ S5s Hx rs ((gs.take (i + 1)).flatMap (cstp gs)) := fun {Hx} w3 w4 w6 sx z => by
      rw [more, z, List.append_nil]
      exact ⟨rs, _, _, _, rfl, S4.trans sx, sx _ _ hDD4, sx _ _ hG4, nm4.tk (Tk.same sx), sx _ _ hR4, S5s.tk (Tk.same sx) st4⟩
    have add : ∀ {Hx : Hp} (w3 w4 w6 : Option V) (tu : Addr) (x : Stp) (xs : List V), Same H4 Hx → Hx tu = none → S5At (upd Hx tu (.tup xs)) tu x → cstp gs g = [x] → ∃ (rs' : List Addr) (v3 v4 v6 : Option V), [some (.ref b), some (.ref DD), some (.ref G), w3, w4, some (.ref R), w6] = [some (.ref b), some (.ref DD), some (.ref G), v3, v4, some (.ref R), v6] ∧ Same H (upd (upd Hx tu (.tup xs)) R (.lst (rs.map V.ref ++ [V.ref tu]))) ∧ upd (upd Hx tu (.tup xs)) R (.lst (rs.map V.ref ++ [V.ref tu])) DD = some (.dT kvs) ∧ upd (upd Hx tu (.tup xs)) R (.lst (rs.map V.ref ++ [V.ref tu])) G = some (.lst (us.map V.ref)) ∧ Nms (upd (upd Hx tu (.tup xs)) R (.lst (rs.map V.ref ++ [V.ref tu]))) us vs ∧ upd (upd Hx tu (.tup xs)) R (.lst (rs.map V.ref ++ [V.ref tu])) R = some (.lst (rs'.map V.ref)) ∧ S5s (upd (upd Hx tu (.tup xs)) R (.lst (rs.map V.ref ++ [V.ref tu]))) rs' ((gs.take (i + 1)).flatMap (cstp gs)) := fun {Hx} w3 w4 w6 tu x xs sx ntu sat z => by
      have Nu := same_new ntu (.tup xs)
      have sy := sx.trans Nu
      have tD : Tk (upd Hx tu (.tup xs)) (upd (upd Hx tu (.tup xs)) R (.lst (rs.map V.ref ++ [V.ref tu]))) := Tk.put (sy _ _ hR4)
      refine ⟨rs ++ [tu], _, _, _, rfl, same_mut (S4.trans sy) R0, (upd_ne DR).trans (sy _ _ hDD4), (upd_ne GR).trans (sy _ _ hG4), (nm4.tk (Tk.same sy)).tk tD, by rw [upd_same, List.map_append]; rfl, ?_⟩
      rw [more, z]
      exact S5s.tk tD (paired_snoc (S5s.tk (Tk.same sy) st4) sat)
    refine ⟨u, _, rfl, SqT.of p1, rfl, _, _, rfl, _, _, rfl, rfl, ?_⟩
    obtain ⟨nm, dd⟩ := g
    cases dd with
    | bag a c k =>
      refine ⟨_, rfl, td, _, _, _, rfl, rfl, SqT.of p3, ix0 _ _, rfl, _, rfl, ?_⟩
      refine ite2 (fun c => absurd (V.str.inj (of_decide_eq_true c)) (by decide +kernel)) (fun _ => iteF ?_)
      refine ⟨_, rfl, td, _, _, _, rfl, rfl, SqT.of p3, ix0 _ _, rfl, _, rfl, ?_⟩
      refine ite2 (fun c => absurd (V.str.inj (of_decide_eq_true c)) (by decide +kernel)) (fun _ => iteF ?_)
      exact keep _ _ _ (Same.refl _) (cstp_else rfl)
    | ct a k =>
      refine ⟨_, rfl, td, _, _, _, rfl, rfl, SqT.of p3, ix0 _ _, rfl, _, rfl, ?_⟩
      refine ite2 (fun c => absurd (V.str.inj (of_decide_eq_true c)) (by decide +kernel)) (fun _ => iteF ?_)
      refine ⟨_, rfl, td, _, _, _, rfl, rfl, SqT.of p3, ix0 _ _, rfl, _, rfl, ?_⟩
      refine ite2 (fun c => absurd (V.str.inj (of_decide_eq_true c)) (by decide +kernel)) (fun _ => iteF ?_)
      exact keep _ _ _ (Same.refl _) (cstp_else rfl)
    | vd m =>
      obtain ⟨qn, h1, h2⟩ := p3
      refine ⟨_, rfl, td, _, _, _, rfl, rfl, SqT.of h1, ix0 _ _, rfl, _, rfl, ?_⟩
      refine ite2 (fun c => absurd (V.str.inj (of_decide_eq_true c)) (by decide +kernel)) (fun _ => iteF ?_)
      refine ⟨_, rfl, td, _, _, _, rfl, rfl, SqT.of h1, ix0 _ _, rfl, _, rfl, ?_⟩
      refine ite2 (fun c => absurd (V.str.inj (of_decide_eq_true c)) (by decide +kernel)) (fun _ => iteF ?_)
      exact keep _ _ _ (Same.refl _) (cstp_else rfl)
    | mv a c rn =>
      obtain ⟨ru, h1, h2⟩ := p3
      refine ⟨_, rfl, td, _, _, _, rfl, rfl, SqT.of h1, rfl, rfl, _, rfl, ?_⟩
      refine ite2 (fun _ => ?_) (fun c => absurd (decide_eq_true rfl) c)
      refine ⟨_, rfl, _, rfl, nmD nm, vs.map nmD, nmD_dp p2, .lst (SqL.of hG4) nm4.dp, rfl, nms_plain _, nm_dep _, ?_⟩
      rw [nm_any]
      refine ⟨_, rfl, ?_⟩
      have sec : ∀ {Hx : Hp}, Same H4 Hx → SqT K Hx td [.str wMove, .str a, .str c, .ref ru] := fun {Hx} sx => SqT.of (sx _ _ h1)
      refine ite2 (fun c1 => ?_) (fun c1 => ?_)
      · have c1 : nm ∉ voids gs := fun z => by
          rw [← vmem] at z
          simp [z] at c1
        refine ⟨_, rfl, .inl ⟨rfl, _, SqL.of hR4⟩, _, rfl, _, rfl, _, rfl, td, _, _, _, rfl, rfl, SqT.of h1, rfl, _, rfl, td, _, _, _, rfl, rfl, SqT.of h1, rfl, _, rfl, td, _, _, _, rfl, rfl, SqT.of h1, rfl, (show 5 ≤ sizeLine by decide), fun tu ntu => ?_⟩
        have Nu := same_new ntu (.tup [.ref na, .ref na, .str a, .str c, .ref ru])
        have td2 : upd (upd H4 tu (.tup [.ref na, .ref na, .str a, .str c, .ref ru])) R (.lst (rs.map V.ref ++ [V.ref tu])) td = some (.tup [.str wMove, .str a, .str c, .ref ru]) := (upd_ne (ne_of h1 hR4 fun z => nomatch z)).trans (Nu _ _ h1)
        refine ⟨R, _, _, rfl, rfl, Nu _ _ hR4, lenR, ?_⟩
        refine ⟨_, rfl, td, _, _, _, rfl, rfl, SqT.of td2, ix0 _ _, rfl, _, rfl, ?_⟩
        refine ite2 (fun c => absurd (V.str.inj (of_decide_eq_true c)) (show wMove ≠ wRead by decide +kernel)) (fun _ => iteF ?_)
        exact add _ _ _ tu (nm, a, c, nm, rn) _ (Same.refl _) ntu ⟨na, na, ru, upd_same, Nu _ _ p2, Nu _ _ p2, h2.tk (Tk.same Nu)⟩ (by rw [cstp_mv, if_neg c1])
      · have c1 : nm ∈ voids gs := by
          rw [← vmem]
          by_cases z : nm ∈ vs
          · exact z
          · exact absurd (by simp [z]) c1
        refine ⟨_, rfl, td, _, _, _, rfl, rfl, SqT.of h1, ix0 _ _, rfl, _, rfl, ?_⟩
        refine ite2 (fun c => absurd (V.str.inj (of_decide_eq_true c)) (show wMove ≠ wRead by decide +kernel)) (fun _ => iteF ?_)
        exact keep _ _ _ (Same.refl _) (by rw [cstp_mv, if_pos c1])
    | rd m rn =>
      obtain ⟨qn, ru, h1, h3, h2⟩ := p3
      refine ⟨_, rfl, td, _, _, _, rfl, rfl, SqT.of h1, rfl, rfl, _, rfl, ?_⟩
      refine ite2 (fun c => absurd (V.str.inj (of_decide_eq_true c)) (by decide +kernel)) (fun _ => iteF ?_)
      refine ⟨_, rfl, td, _, _, _, rfl, rfl, SqT.of h1, rfl, rfl, _, rfl, ?_⟩
      refine ite2 (fun _ => ?_) (fun c => absurd (decide_eq_true rfl) c)
      refine ⟨_, rfl, _, rfl, nmD nm, vs.map nmD, nmD_dp p2, .lst (SqL.of hG4) nm4.dp, rfl, nms_plain _, nm_dep _, ?_⟩
      rw [nm_any]
      refine ⟨_, rfl, ?_⟩
      refine ite2 (fun c1 => ?_) (fun c1 => ?_)
      · have c1 : nm ∉ voids gs := fun z => by
          rw [← vmem] at z
          simp [z] at c1
        refine ⟨_, rfl, td, _, _, _, rfl, rfl, SqT.of h1, rfl, _, rfl, nmD m, vs.map nmD, nmD_dp h3, .lst (SqL.of hG4) nm4.dp, rfl, nms_plain _, nm_dep _, ?_⟩
        rw [nm_any]
        refine ⟨_, rfl, ?_⟩
        refine ite2 (fun c2 => ?_) (fun c2 => ?_)
        · have c2 : m ∉ voids gs := fun z => by
            rw [← vmem] at z
            simp [z] at c2
          refine ⟨_, rfl, DD, rfl, .inr ⟨_, .inl hDD4⟩, _, rfl, td, _, _, _, rfl, rfl, SqT.of h1, rfl, (show 1 ≤ sizeLine by decide), fun z0 hz0 => ?_⟩
          have Nz := same_new hz0 (.tup [.str (Str.ofString "none there")])
          have z00 : upd H4 z0 (.tup [.str (Str.ofString "none there")]) z0 = some (.tup [.str (Str.ofString "none there")]) := upd_same
          have dg : DGet (upd H4 z0 (.tup [.str (Str.ofString "none there")])) DD (.ref qn) (valV kvs (nmKey m)) := DGet.t (Nz _ _ hDD4) (Nz _ _ h3)
          refine ⟨_, dg, ?_⟩
          by_cases ex : ∃ g' ∈ gs, g'.1 = m
          · obtain ⟨g', hg', eg'⟩ := ex
            obtain ⟨tb, vb, db⟩ := vk g' hg'
            rw [eg'] at vb
            rw [vb]
            have db4 := db.tk (Tk.same (S4.trans Nz))
            obtain ⟨m', d'⟩ := g'
            have eg' : m' = m := eg'
            subst eg'
            cases d' with
            | mv a c rs =>
              obtain ⟨ru, h1, _⟩ := db4
              refine ⟨_, rfl, tb, _, _, _, rfl, rfl, SqT.of h1, ix0 _ _, rfl, _, rfl, ?_⟩
              refine ite2 (fun c => absurd (V.str.inj (of_decide_eq_true c)) (by decide +kernel)) (fun _ => ?_)
              refine keep _ _ _ Nz ?_
              rw [cstp_rd, if_neg c1, if_neg fun z => ?_]
              obtain ⟨g2, k1, k2, k3, k4⟩ := cbB_iff.mp z
              obtain ⟨i1, e1⟩ := List.mem_iff_getElem?.mp hg'
              obtain ⟨i2, e2⟩ := List.mem_iff_getElem?.mp k1
              rw [names_nth nd e1 e2 k2.symm] at e1
              rw [e1] at e2
              cases e2
              exact nomatch k3
            | rd m rs =>
              obtain ⟨qn, ru, h1, _⟩ := db4
              refine ⟨_, rfl, tb, _, _, _, rfl, rfl, SqT.of h1, ix0 _ _, rfl, _, rfl, ?_⟩
              refine ite2 (fun c => absurd (V.str.inj (of_decide_eq_true c)) (by decide +kernel)) (fun _ => ?_)
              refine keep _ _ _ Nz ?_
              rw [cstp_rd, if_neg c1, if_neg fun z => ?_]
              obtain ⟨g2, k1, k2, k3, k4⟩ := cbB_iff.mp z
              obtain ⟨i1, e1⟩ := List.mem_iff_getElem?.mp hg'
              obtain ⟨i2, e2⟩ := List.mem_iff_getElem?.mp k1
              rw [names_nth nd e1 e2 k2.symm] at e1
              rw [e1] at e2
              cases e2
              exact nomatch k3
            | ct a k =>
              refine ⟨_, rfl, tb, _, _, _, rfl, rfl, SqT.of db4, ix0 _ _, rfl, _, rfl, ?_⟩
              refine ite2 (fun c => absurd (V.str.inj (of_decide_eq_true c)) (by decide +kernel)) (fun _ => ?_)
              refine keep _ _ _ Nz ?_
              rw [cstp_rd, if_neg c1, if_neg fun z => ?_]
              obtain ⟨g2, k1, k2, k3, k4⟩ := cbB_iff.mp z
              obtain ⟨i1, e1⟩ := List.mem_iff_getElem?.mp hg'
              obtain ⟨i2, e2⟩ := List.mem_iff_getElem?.mp k1
              rw [names_nth nd e1 e2 k2.symm] at e1
              rw [e1] at e2
              cases e2
              exact nomatch k3
            | vd m =>
              obtain ⟨qn, h1, h2⟩ := db4
              refine ⟨_, rfl, tb, _, _, _, rfl, rfl, SqT.of h1, ix0 _ _, rfl, _, rfl, ?_⟩
              refine ite2 (fun c => absurd (V.str.inj (of_decide_eq_true c)) (by decide +kernel)) (fun _ => ?_)
              refine keep _ _ _ Nz ?_
              rw [cstp_rd, if_neg c1, if_neg fun z => ?_]
              obtain ⟨g2, k1, k2, k3, k4⟩ := cbB_iff.mp z
              obtain ⟨i1, e1⟩ := List.mem_iff_getElem?.mp hg'
              obtain ⟨i2, e2⟩ := List.mem_iff_getElem?.mp k1
              rw [names_nth nd e1 e2 k2.symm] at e1
              rw [e1] at e2
              cases e2
              exact nomatch k3

            | bag ba bb bn =>
              refine ⟨_, rfl, tb, _, _, _, rfl, rfl, SqT.of db4, ix0 _ _, rfl, _, rfl, ?_⟩
              refine ite2 (fun _ => ?_) (fun c => absurd (decide_eq_true rfl) c)
              have td5 := Nz _ _ h1
              refine ⟨_, rfl, .inl ⟨rfl, _, SqL.of (Nz _ _ hR4)⟩, _, rfl, td, _, _, _, rfl, rfl, SqT.of td5, rfl, _, rfl, _, rfl, tb, _, _, _, rfl, rfl, SqT.of db4, rfl, _, rfl, tb, _, _, _, rfl, rfl, SqT.of db4, rfl, _, rfl, td, _, _, _, rfl, rfl, SqT.of td5, rfl, (show 5 ≤ sizeLine by decide), fun tu ntu => ?_⟩
              have Nu := same_new ntu (.tup [.ref qn, .ref na, .str ba, .str bb, .ref ru])
              refine ⟨R, _, _, rfl, rfl, Nu _ _ (Nz _ _ hR4), lenR, ?_⟩
              have ab : abN gs m' = (ba, bb) := abN_of nd hg'
              have cb : cbB gs m' = true := cbB_iff.mpr ⟨_, hg', rfl, rfl, c2⟩
              exact add _ _ _ tu (m', ba, bb, nm, rn) _ Nz ntu ⟨qn, na, ru, upd_same, Nu _ _ (Nz _ _ h3), Nu _ _ (Nz _ _ p2), (h2.tk (Tk.same Nz)).tk (Tk.same Nu)⟩ (by rw [cstp_rd, if_neg c1, if_pos cb, ab])
          · rw [vn m fun g hg e => ex ⟨g, hg, e⟩]
            refine ⟨_, rfl, z0, _, _, _, rfl, rfl, SqT.of z00, ix0 _ _, rfl, _, rfl, ?_⟩
            refine ite2 (fun c => absurd (V.str.inj (of_decide_eq_true c)) (by decide +kernel)) (fun _ => ?_)
            refine keep _ _ _ Nz ?_
            rw [cstp_rd, if_neg c1, if_neg fun z => ?_]
            obtain ⟨g2, k1, k2, _⟩ := cbB_iff.mp z
            exact ex ⟨g2, k1, k2⟩
        · have c2 : m ∈ voids gs := by
            rw [← vmem]
            by_cases z : m ∈ vs
            · exact z
            · exact absurd (by simp [z]) c2
          refine keep _ _ _ (Same.refl _) ?_
          rw [cstp_rd, if_neg c1, if_neg fun z => ?_]
          obtain ⟨g', _, e1, _, e3⟩ := cbB_iff.mp z
          exact e3 c2
      · have c1 : nm ∈ voids gs := by
          rw [← vmem]
          by_cases z : nm ∈ vs
          · exact z
          · exact absurd (by simp [z]) c1
        refine iteF ?_
        exact keep _ _ _ (Same.refl _) (by rw [cstp_rd, if_pos c1])
  rintro σ H4 ⟨rs, v3, v4, v6, rfl, S4, hDD4, hG4, nm4, hR4, st4⟩
  rw [List.length_map, pl, List.take_length, cstp_rows] at st4
  refine ⟨_, rfl, R, _, (rowsP gs).map s5D, rfl, SqL.of hR4, S5s.dp st4, s5_alikes _, s5_alike _, s5_depth _, fun s hs => ?_⟩
  obtain ⟨rs2, e1, e2⟩ := sort_paired (F := fun p g => S5At H4 p g) s5D st4
  rw [e1]
  rw [s5_sort fun x hx y hy => rows_one nd hx hy] at e2
  have Ns := same_new hs (.lst (rs2.map V.ref))
  exact q s rs2 _ (S4.trans Ns) (S4.free hs) upd_same (S5s.tk (Tk.same Ns) e2)

theorem ok_lof (F : Fun K "_law_of" "_law_of" s_lof f_lof d_lof) (T : Txt mg f_is_apart f_runs_of f_many_in f_named_by_voids f_counted_bags f_standing_of f_pages_that_are f_counted_pages f_all_steps f_together f_both f_less f_what_is_left f_add_gap f_gaps f_ltape f_ldraw f_loffice f_lnames f_lruns f_lfield f_ldeed f_lbook f_ltold f_lof f_lrows f_ldue f_law) :
    FnOk P w K mg base CX0 (1) f_lof d_lof ["_law_runs_here", "_law_note"] spOfF := by
  refine F.ok sc_lof (fun vs H Q E h => ?_) (fun cdv A outer s H vs Q E hr h => ?_)

  · obtain ⟨a, t, rs, s, n, rfl, _⟩ := h
    rfl
  obtain ⟨a, t, rs, s, n, rfl, ⟨qs, ha, hp, rl⟩, ht, q⟩ := h
  refine ⟨_, (pss_one (ps_ret (pe_cmpR op_in_seq pe_bl (pe_lc (own := [("_law_series", 2), ("_law_first", 3), ("_law_last", 4)]) (g := (gTup K 3 (gCons (gName 2) (gCons (gName 3) (gCons (gName 4) gNil))))) (by rfl) sc_lof.nd (pi_tup (pv 0)) (blkOk_by (own := [("_law_series", 2), ("_law_first", 3), ("_law_last", 4)]) (N := ["_law_runs_here", "_law_note", "_law_series", "_law_first", "_law_last"]) (sc := defScope s_lof) (by decide +kernel)) (fun _ _ _ _ _ => (pg_tup rfl (pgs_cons (pg_name (i := 2) sc_lof.nd rfl (.inl rfl)) (pgs_cons (pg_name (i := 3) sc_lof.nd rfl (.inl rfl)) (pgs_cons (pg_name (i := 4) sc_lof.nd rfl (.inl rfl)) pgs_nil))))) (fun _ _ _ _ _ => pts_nil) (fun _ _ _ _ _ => (pe_and (pe_cmpR op_eq (pv 2) (pe_ix (show IxR _ (rIxT K) from ix_tup) (pv 1) pe_int (fun _ _ => rfl)) (nomark _)) (pe_one (pe_chain op_le op_lt (pv 3) (pe_ix (show IxR _ (rIxT K) from ix_tup) (pv 1) pe_int (fun _ _ => rfl)) (pv 4)))))) (by rfl)))), ?_⟩
  refine ⟨_, rfl, a, rfl, ⟨_, SqT.of ha⟩, fun D hD => ?_⟩
  refine lc_tup (K := K) (a := a) (xs := qs.map V.ref) (fun i H' => Same H H' ∧ H' D = some (.lst (((rs.take i).map (hasF s n)).map V.bl))) ⟨same_new hD _, upd_same⟩ (fun i H' _ h => SqT.of (h.1 _ _ ha)) ?_ ?_
  · rintro i y H1 hy ⟨S1, hD1⟩
    obtain ⟨u, hu, rfl⟩ : ∃ u, qs[i]? = some u ∧ y = V.ref u := by
      rw [List.getElem?_map] at hy
      cases e : qs[i]? with
      | none => rw [e] at hy; cases hy
      | some p => rw [e] at hy; exact ⟨p, rfl, (Option.some.inj hy).symm⟩
    obtain ⟨r, hr, hr2⟩ := Prd.get hp hu
    obtain ⟨hi, er⟩ := List.getElem?_eq_some_iff.mp hr
    have hr1 := S1 _ _ hr2
    have ht1 := S1 _ _ ht
    have put : ∀ b : Bool, b = hasF s n r → ∃ xs, H1 D = some (.lst xs) ∧ xs.length < sizeLine ∧ (Same H (upd H1 D (.lst (xs ++ [.bl b]))) ∧ upd H1 D (.lst (xs ++ [.bl b])) D = some (.lst (((rs.take (i + 1)).map (hasF s n)).map V.bl))) := fun b eb => by
      refine ⟨_, hD1, ?_, same_mut S1 hD, ?_⟩
      · rw [List.length_map, List.length_map]
        exact Nat.lt_of_le_of_lt (Nat.le_trans (List.length_take_le _ _) (show i ≤ 1000 by omega)) (by decide)
      · rw [upd_same, List.take_succ_eq_append_getElem hi, er, eb, List.map_append, List.map_append]
        rfl
    refine ⟨u, _, rfl, SqT.of hr1, rfl, _, _, rfl, _, _, rfl, _, _, rfl, rfl, rfl, ?_⟩
    refine ⟨_, rfl, _, rfl, t, _, _, _, rfl, rfl, SqT.of ht1, rfl, rfl, _, rfl, ?_⟩
    refine ite2 (fun c1 => ?_) (fun c1 => ?_)
    · refine ⟨_, rfl, _, rfl, t, _, _, _, rfl, rfl, SqT.of ht1, rfl, _, _, rfl, rfl, _, rfl, ?_⟩
      refine ite2 (fun c2 => ?_) (fun c2 => ?_)
      · refine ⟨_, rfl, _, _, rfl, rfl, ?_⟩
        exact put _ (by
          unfold hasF
          rw [decide_eq_true (V.str.inj (of_decide_eq_true c1)), decide_eq_true (of_decide_eq_true c2)]
          rfl)
      · exact put _ (by
          unfold hasF
          rw [decide_eq_false (fun z => c2 (decide_eq_true z) : ¬ r.2.1 ≤ n)]
          simp)
    · exact put _ (by
        unfold hasF
        rw [decide_eq_false (fun z => c1 (decide_eq_true (congrArg V.str z)) : ¬ r.1 = s)]
        rfl)
  · rintro H1 ⟨S1, hD1⟩
    rw [List.length_map, hp.len, List.take_length] at hD1
    refine ⟨D, _, rfl, .inl (SqL.of hD1), rfl, flat_bls _, ?_⟩
    have e : (rs.map (hasF s n)).any id = hasR rs s n := by
      unfold hasR
      rw [List.any_map]
      rfl
    rw [inV_bls, e]
    exact q _ S1

theorem ok_lrows (F : Fun K "_law_rows" "_law_rows" s_lrows f_lrows d_lrows) (T : Txt mg f_is_apart f_runs_of f_many_in f_named_by_voids f_counted_bags f_standing_of f_pages_that_are f_counted_pages f_all_steps f_together f_both f_less f_what_is_left f_add_gap f_gaps f_ltape f_ldraw f_loffice f_lnames f_lruns f_lfield f_ldeed f_lbook f_ltold f_lof f_lrows f_ldue f_law)
    (F_lof : Fun K "_law_of" "_law_of" s_lof f_lof d_lof) (b_lof : Binds K d_lof ["_law_runs_here", "_law_note"] []) (G_lof : FnOk P w K mg base CX0 (1) f_lof d_lof ["_law_runs_here", "_law_note"] spOfF) :
    FnOk P w K mg base CX0 (2) f_lrows d_lrows ["_law_told_here", "_law_note"] spRowsF := by
  refine F.ok sc_lrows (fun vs H Q E h => ?_) (fun cdv A outer s H vs Q E hr h => ?_)

  · obtain ⟨l, t, ps, ss, s, n, rfl, _⟩ := h
    rfl
  obtain ⟨l, t, ps, ss, s, n, rfl, hl, st, sl, ht, q⟩ := h
  refine ⟨_, (pss_one (ps_ret (pe_lc (own := [("_law_row", 2)]) (g := (gName 2)) (by rfl) sc_lrows.nd (pi_list (pv 0)) (blkOk_by (own := [("_law_row", 2)]) (N := ["_law_told_here", "_law_note", "_law_row"]) (sc := defScope s_lrows) (by decide +kernel)) (fun _ _ _ _ _ => (pg_name (i := 2) sc_lrows.nd rfl (.inl rfl))) (fun _ _ _ _ _ => (pts_one (pt_val (pe_call G_lof hr (by rfl) T.m_lof F_lof.kp b_lof .nil pass0 (pa_cons (pe_ix (show IxR _ (rIxT K) from ix_tup) (pv 2) pe_int (fun _ _ => rfl)) (pa_cons (pv 1) pa_nil)))))) (fun _ _ _ _ _ => (pv 2))))), ?_⟩
  have ql := paired_len st
  refine ⟨_, rfl, l, rfl, ⟨_, SqL.of hl⟩, fun D nD => ?_⟩
  refine lc_list (K := K) (a := l) (xs := ps.map V.ref) (fun i H' => ∃ qs : List Addr, Same H H' ∧ H' D = some (.lst (qs.map V.ref)) ∧ S5s H' qs ((ss.take i).filter (chose s n))) ⟨[], same_new nD _, upd_same, .nil⟩ (fun i H' _ h => by obtain ⟨_, S, _⟩ := h; exact SqL.of (S _ _ hl)) ?_ ?_
  · rintro i y H3 hy ⟨qs, S3, hD3, st3⟩
    obtain ⟨u, hu, rfl⟩ : ∃ u, ps[i]? = some u ∧ y = V.ref u := by
      rw [List.getElem?_map] at hy
      cases e : ps[i]? with
      | none => rw [e] at hy; cases hy
      | some p => rw [e] at hy; exact ⟨p, rfl, (Option.some.inj hy).symm⟩
    obtain ⟨x, hx, a, b', ru, k1, k2, k3, k4⟩ := paired_get st hu
    have hi := (List.getElem?_eq_some_iff.mp hx).1
    have more : (ss.take (i + 1)).filter (chose s n) = (ss.take i).filter (chose s n) ++ (if chose s n x = true then [x] else []) := by
      obtain ⟨hl', e⟩ := List.getElem?_eq_some_iff.mp hx
      rw [List.take_succ_eq_append_getElem hl', List.filter_append, e]
      congr 1
      by_cases c : chose s n x = true
      · rw [if_pos c]
        simp [c]
      · rw [if_neg c]
        simp [c]
    refine ⟨rfl, _, rfl, u, _, _, _, rfl, rfl, SqT.of (S3 _ _ k1), rfl, _, rfl, ru, t, _, s, n, rfl, k4.tk (Tk.same S3), S3 _ _ ht, fun H4 S4 => ?_⟩
    refine ⟨_, rfl, ?_⟩
    refine ite2 (fun c => ?_) (fun c => ?_)
    · rw [if_pos (show chose s n x = true from c)] at more
      refine ⟨_, rfl, _, S4 _ _ hD3, ?_, qs ++ [u], same_mut (S3.trans S4) nD, ?_, ?_⟩
      · rw [List.length_map, paired_len st3]
        exact Nat.lt_of_le_of_lt (Nat.le_trans (List.length_filter_le _ _) (Nat.le_trans (List.length_take_le _ _) (show i ≤ 1000 by omega))) (by decide)
      · rw [upd_same, List.map_append]
        rfl
      · rw [more]
        have S34 := S3.trans S4
        exact S5s.tk (Tk.put (S4 _ _ hD3)) (paired_snoc (S5s.tk (Tk.same S4) st3) ⟨a, b', ru, S34 _ _ k1, S34 _ _ k2, S34 _ _ k3, k4.tk (Tk.same S34)⟩)
    · rw [if_neg (show ¬ chose s n x = true from c), List.append_nil] at more
      exact ⟨qs, S3.trans S4, S4 _ _ hD3, by rw [more]; exact S5s.tk (Tk.same S4) st3⟩
  · rintro H3 ⟨qs, S3, hD3, st3⟩
    have e0 : (ps.map V.ref).length = ss.length := by rw [List.length_map]; exact ql
    rw [e0, List.take_length] at st3
    exact q D qs H3 S3 nD hD3 st3

theorem ok_ldue (F : Fun K "_law_due" "_law_due" s_ldue f_ldue d_ldue) (T : Txt mg f_is_apart f_runs_of f_many_in f_named_by_voids f_counted_bags f_standing_of f_pages_that_are f_counted_pages f_all_steps f_together f_both f_less f_what_is_left f_add_gap f_gaps f_ltape f_ldraw f_loffice f_lnames f_lruns f_lfield f_ldeed f_lbook f_ltold f_lof f_lrows f_ldue f_law)
    (F_ltold : Fun K "_law_told" "_law_told" s_ltold f_ltold d_ltold) (b_ltold : Binds K d_ltold ["_law_book_here"] []) (G_ltold : FnOk P w K mg base CX0 (2) f_ltold d_ltold ["_law_book_here"] spToldF)
    (F_lrows : Fun K "_law_rows" "_law_rows" s_lrows f_lrows d_lrows) (b_lrows : Binds K d_lrows ["_law_told_here", "_law_note"] []) (G_lrows : FnOk P w K mg base CX0 (2) f_lrows d_lrows ["_law_told_here", "_law_note"] spRowsF) :
    FnOk P w K mg base CX0 (3) f_ldue d_ldue ["_law_office_here", "_law_field_here", "_law_book_here"] spDueG := by
  refine F.ok sc_ldue (fun vs H Q E h => ?_) (fun cdv A outer s H vs Q E hr h => ?_)

  · obtain ⟨o, d, b, ws, E1, base, wide, gs, rfl, _⟩ := h
    rfl
  obtain ⟨o, d, b, ws, E1, base, wide, gs, rfl, hof, okE, hd, ok, bf, bl, nd, dok, q⟩ := h
  refine ⟨_, (pss_cons (ps_asg (pv 1) (pg_tup rfl (pgs_cons (pg_name (i := 3) sc_ldue.nd rfl (.inl rfl)) (pgs_cons (pg_name (i := 4) sc_ldue.nd rfl (.inl rfl)) pgs_nil))))
  (pss_cons (ps_set (i := 5) sc_ldue.nd rfl (.inl rfl) (pe_call G_ltold hr (by rfl) T.m_ltold F_ltold.kp b_ltold .nil pass0 (pa_cons (pv 2) pa_nil)))
  (pss_cons (ps_set (i := 6) sc_ldue.nd rfl (.inr rfl) pe_dnewT)
  (pss_cons (ps_for PassesOwn.never rfl (pi_tup (pe_ix ix_tup (pv 0) pe_int (fun _ _ => rfl))) (pg_tup rfl (pgs_cons (pg_name (i := 7) sc_ldue.nd rfl (.inl rfl)) (pgs_cons (pg_name (i := 8) sc_ldue.nd rfl (.inl rfl)) pgs_nil)))
  (pss_one (ps_for PassesOwn.never rfl (pi_range1 (by rfl) T.range (pa_cons pe_int pa_nil)) (pg_name (i := 9) sc_ldue.nd rfl (.inl rfl))
  (pss_cons (ps_set (i := 10) sc_ldue.nd rfl (.inl rfl) (pe_call G_lrows hr (by rfl) T.m_lrows F_lrows.kp b_lrows .nil pass0 (pa_cons (pv 5) (pa_cons (pe_tup (pa_cons (pv 7) (pa_cons (pe_op op_sub (pe_op op_add (pe_op op_add (pv 3) (pe_op op_mul (pv 9) (pv 4))) (pv 4)) pe_int) pa_nil))) pa_nil))))
  (pss_cons (ps_set (i := 11) sc_ldue.nd rfl (.inl rfl) (pe_op op_cat (pe_lst (pa_cons pe_str pa_nil)) (pe_lc (own := [("_law_row", 12)]) (g := (gName 12)) (by rfl) sc_ldue.nd (pi_list (pv 10)) (blkOk_by (own := [("_law_row", 12)]) (N := ["_law_office_here", "_law_field_here", "_law_book_here", "_law_base", "_law_wide", "_law_told_here", "_law_found", "_law_series", "_law_worth", "_law_p", "_law_rows_here", "_law_ends", "_law_row", "_law_end", "_law_one", "_law_other"]) (sc := defScope s_ldue) (by decide +kernel)) (fun _ _ _ _ _ => (pg_name (i := 12) sc_ldue.nd rfl (.inl rfl))) (fun _ _ _ _ _ => pts_nil) (fun _ _ _ _ _ => (pe_ix (show IxR _ (rIxT K) from ix_tup) (pv 12) pe_int (fun _ _ => rfl))))))
  (pss_one (ps_for PassesOwn.never rfl (RZ.pi_zipA (by rfl) T.zip (pa_cons (pv 11) (pa_cons (pv 10) pa_nil))) (pg_tup rfl (pgs_cons (pg_name (i := 13) sc_ldue.nd rfl (.inl rfl)) (pgs_cons (pg_name (i := 12) sc_ldue.nd rfl (.inl rfl)) pgs_nil)))
  (pss_one (ps_if (pt_cmpR op_ne (pv 13) (pe_ix ix_tup (pv 12) pe_int (fun _ _ => rfl)) (nomark _))
  (pss_one (ps_dput (hu_of hr) (pv 6) (pe_tup (pa_cons (pv 13) (pa_cons (pe_ix ix_tup (pv 12) pe_int (fun _ _ => rfl)) pa_nil))) (pe_op op_add (pe_dget2 (hu_of hr) (pv 6) (pe_tup (pa_cons (pv 13) (pa_cons (pe_ix ix_tup (pv 12) pe_int (fun _ _ => rfl)) pa_nil))) pe_int ⟨rfl, rfl, rfl, rfl⟩) (pv 4)) rfl))
  pss_nil)))))))))
  (pss_one (ps_ret (pe_callTy call_tuple_of (by rfl) T.tuple (by decide +kernel) (pa_cons (pe_lc (own := [("_law_one", 14), ("_law_other", 15)]) (g := (gTup K 2 (gCons (gName 14) (gCons (gName 15) gNil)))) (by rfl) sc_ldue.nd (pi_list (pe_callB (cr_sortDT hr rfl) (by rfl) T.sorted (by decide +kernel) (pa_cons (pv 6) pa_nil))) (blkOk_by (own := [("_law_one", 14), ("_law_other", 15)]) (N := ["_law_office_here", "_law_field_here", "_law_book_here", "_law_base", "_law_wide", "_law_told_here", "_law_found", "_law_series", "_law_worth", "_law_p", "_law_rows_here", "_law_ends", "_law_row", "_law_end", "_law_one", "_law_other"]) (sc := defScope s_ldue) (by decide +kernel)) (fun _ _ _ _ _ => (pg_tup rfl (pgs_cons (pg_name (i := 14) sc_ldue.nd rfl (.inl rfl)) (pgs_cons (pg_name (i := 15) sc_ldue.nd rfl (.inl rfl)) pgs_nil)))) (fun _ _ _ _ _ => pts_nil) (fun _ _ _ _ _ => (pe_tup (pa_cons (pv 14) (pa_cons (pv 15) (pa_cons (pe_dget (hu_of hr) (pv 6) (pe_tup (pa_cons (pv 14) (pa_cons (pv 15) pa_nil))) (fun _ _ => rfl)) pa_nil)))))) pa_nil)))))))), ?_⟩
  obtain ⟨w', r', wp, rp, ho, hw, hrr, hws, hrd⟩ := id hof
  obtain ⟨okO, e0, k0, k00, nms⟩ := okE
  have wl := hws.len
  have w4 := okO.lw
  have w1 := ok.w1
  have xup : (ws.map (·.1)).Pairwise sl := by rw [nms]; exact gser_up _
  refine ⟨_, rfl, d, _, rfl, SqT.of hd, rfl, _, _, rfl, _, _, rfl, rfl, ?_⟩
  refine ⟨_, rfl, b, gs, rfl, bf, by omega, nd, fun TL ts HT ST nTL hTL st => ?_⟩
  intro F hF
  have NF := same_new hF (.dT [])
  have S01 := ST.trans NF
  have rin := fun x hx => rows_in nd dok (x := x) hx
  have sin : ∀ x ∈ sortS (rowsP gs), RsF ws base wide x.2.2.2.2 := fun x hx => (rin x (List.mem_mergeSort.mp hx)).2
  have sl9 : (sortS (rowsP gs)).length ≤ 40 := by
    unfold sortS
    rw [List.length_mergeSort]
    exact Nat.le_trans (rowsP_len (Nat.le_refl _)) bl
  generalize hL : sortS (rowsP gs) = L at *
  have F0 : H F = none := ST.free hF
  have hTL1 := NF _ _ hTL
  have st1 := S5s.tk (Tk.same NF) st
  have hF1 : upd HT F (.dT []) F = some (.dT []) := upd_same
  generalize hH1 : upd HT F (.dT []) = H1 at *
  refine ⟨_, rfl, o, _, _, _, rfl, rfl, SqT.of (S01 _ _ ho), rfl, w', rfl, ⟨_, SqT.of (S01 _ _ hw)⟩, ?_⟩
  have tkF : ∀ {Ha Hb : Hp}, But F Ha Hb → (∃ k, Ha F = some (.dT k)) → Tk Ha Hb := fun hb ⟨k1, e1⟩ a xs e => hb a _ (ne_of e e1 fun z => nomatch z) e
  have lsF : ∀ {Ha Hb : Hp} {a : Addr} {xs : List V}, But F Ha Hb → (∃ k, Ha F = some (.dT k)) → Ha a = some (.lst xs) → Hb a = some (.lst xs) := fun hb ⟨k1, e1⟩ e => hb _ _ (ne_of e e1 fun z => nomatch z) e
  have hw1 := S01 _ _ hw
  have hws1 := Wts.tk (Tk.same S01) hws
  clear hws hof hd bf
  refine for_tup (K := K) (a := w') (xs := wp.map V.ref) (fun i σ H' => ∃ (kvs : List (List Key × V)) (es : List Ed) (v7 v8 v9 v10 v11 v12 v13 : Option V), σ = [some (.ref o), some (.ref d), some (.ref b), some (.int base), some (.int wide), some (.ref TL), some (.ref F), v7, v8, v9, v10, v11, v12, v13, none, none] ∧ But F H1 H' ∧ H' F = some (.dT kvs) ∧ GapD kvs es (gapP ws base wide L i gNone 0 [] 0) ∧ kvs.length ≤ 320 * i) ⟨[], [], none, none, none, none, none, none, none, rfl, But.refl _ _, hF1, GapD.nil.cong fun e => gapP_start, Nat.le_refl _⟩ (fun i σ H' _ h => by obtain ⟨_, _, _, _, _, _, _, _, _, _, B, _⟩ := h; exact SqT.of (tkF B ⟨_, hF1⟩ _ _ hw1)) ?_ ?_
  · rintro i y σ H3 hy ⟨kvs, es, v7, v8, v9, v10, v11, v12, v13, rfl, B3, hF3, gd3, kl3⟩
    obtain ⟨u, hu, rfl⟩ : ∃ u, wp[i]? = some u ∧ y = V.ref u := by
      rw [List.getElem?_map] at hy
      cases e : wp[i]? with
      | none => rw [e] at hy; cases hy
      | some p => rw [e] at hy; exact ⟨p, rfl, (Option.some.inj hy).symm⟩
    have T13 := tkF B3 ⟨_, hF1⟩
    obtain ⟨e, he1, he2⟩ := Wts.get hws1 hu
    obtain ⟨hi, ee⟩ := List.getElem?_eq_some_iff.mp he1
    obtain ⟨s, wv⟩ := e
    have hs : (ws.map (·.1))[i]? = some s := by rw [List.getElem?_map, he1]; rfl
    refine ⟨u, _, rfl, SqT.of (T13 _ _ he2), rfl, _, _, rfl, _, _, rfl, rfl, ?_⟩
    refine ⟨8, rfl, by decide, by decide, ?_⟩
    refine for_range (lo := 0) (n := 8) (fun j σ H' => ∃ (kvs : List (List Key × V)) (es : List Ed) (v9 v10 v11 v12 v13 : Option V), σ = [some (.ref o), some (.ref d), some (.ref b), some (.int base), some (.int wide), some (.ref TL), some (.ref F), some (.str s), some (.int wv), v9, v10, v11, v12, v13, none, none] ∧ But F H1 H' ∧ H' F = some (.dT kvs) ∧ GapD kvs es (gapP ws base wide L i s j [] 0) ∧ kvs.length ≤ 320 * i + 40 * j) ?_ ?_ ?_
    · exact ⟨kvs, es, _, _, _, _, _, rfl, B3, hF3, gd3.cong fun e => gapP_zero s [], by omega⟩
    · clear B3 hF3 gd3 kl3
      rintro j σ H4 hj ⟨kvs, es, v9, v10, v11, v12, v13, rfl, B4, hF4, gd4, kl4⟩
      have ej : (0 + (j : Int)) = (j : Int) := Int.zero_add _
      have T14 := tkF B4 ⟨_, hF1⟩
      refine ⟨_, rfl, _, rfl, _, rfl, ?_⟩
      refine ⟨_, rfl, _, rfl, _, _, rfl, rfl, .inl ⟨by omega, by omega⟩, _, _, rfl, rfl, _, rfl, _, _, rfl, rfl, _, _, rfl, rfl, (show 2 ≤ sizeLine by decide), fun nt hnt => ?_⟩
      have Nn := same_new hnt (.tup [.str s, .int (base + (0 + (j : Int)) * wide + wide - 1)])
      have F4 := lsF B4 ⟨_, hF1⟩ hTL1
      refine ⟨TL, nt, ts, L, s, _, rfl, Nn _ _ F4, S5s.tk (T14.trans (Tk.same Nn)) st1, by omega, upd_same, fun RW rs H5 S5 nRW hRW rst => ?_⟩
      have S45 := Nn.trans S5
      rw [chose_part ok sin (p := j) (by rw [ej]; omega) (by rw [ej]; omega)] at rst
      have B5 : But F H1 H5 := fun a o n e => S45 _ _ (B4 a o n e)
      have hF5 := S45 _ _ hF4
      have rle : (chn base wide L s j).length ≤ 40 := Nat.le_trans (List.length_filter_le _ _) sl9
      have rst : S5s H5 rs (chn base wide L s j) := rst
      generalize hM : chn base wide L s j = M at *
      have rl := paired_len rst
      clear S5 nRW S45 Nn F4 B4 hF4
      refine ⟨(show 1 ≤ sizeLine by decide), fun b0 hb0 => ?_⟩
      have N1 := same_new hb0 (.lst [.str gNone])
      have hb01 : upd H5 b0 (.lst [.str gNone]) b0 = some (.lst [.str gNone]) := upd_same
      have hRW1 := N1 _ _ hRW
      have rst1 := S5s.tk (Tk.same N1) rst
      have hF6 := N1 _ _ hF5
      refine ⟨_, rfl, RW, rfl, ⟨_, SqL.of hRW1⟩, fun D hD => ?_⟩
      refine lc_list (K := K) (a := RW) (xs := rs.map V.ref) (fun j H' => Same (upd H5 b0 (.lst [.str gNone])) H' ∧ H' D = some (.lst (((M.take j).map (·.2.2.1)).map V.str))) ⟨same_new hD _, upd_same⟩ (fun j H' _ h => SqL.of (h.1 _ _ hRW1)) ?_ ?_
      · rintro q z H6 hz ⟨S6, hD6⟩
        obtain ⟨w, hw, rfl⟩ : ∃ w, rs[q]? = some w ∧ z = V.ref w := by
          rw [List.getElem?_map] at hz
          cases e : rs[q]? with
          | none => rw [e] at hz; cases hz
          | some p => rw [e] at hz; exact ⟨p, rfl, (Option.some.inj hz).symm⟩
        obtain ⟨x, hx, a', b', ru, k1, k2, k3, k4⟩ := paired_get rst1 hw
        obtain ⟨hq, ex⟩ := List.getElem?_eq_some_iff.mp hx
        refine ⟨rfl, _, rfl, w, _, _, _, rfl, rfl, SqT.of (S6 _ _ k1), rfl, _, hD6, ?_, same_mut S6 hD, ?_⟩
        · rw [List.length_map, List.length_map, List.length_take]
          exact Nat.lt_of_le_of_lt (show _ ≤ 100 by omega) (by decide)
        · rw [upd_same, List.take_succ_eq_append_getElem hq, List.map_append, List.map_append, ex]
          rfl
      rintro H6 ⟨S6, hD6⟩
      rw [List.length_map, rl, List.take_length] at hD6
      refine ⟨b0, D, _, _, rfl, rfl, S6 _ _ hb01, hD6, ?_, fun BG hBG => ?_⟩
      · rw [List.length_map, List.length_map]
        exact Nat.le_of_lt (Nat.lt_of_le_of_lt (show 1 + M.length ≤ 100 by omega) (by decide))
      have N2 := same_new hBG (.lst ([.str gNone] ++ (M.map (·.2.2.1)).map V.str))
      have hBG1 : upd H6 BG (.lst ([.str gNone] ++ (M.map (·.2.2.1)).map V.str)) BG = some (.lst ((gNone :: M.map (·.2.2.1)).map V.str)) := upd_same
      have S56 := S6.trans N2
      have hRW2 := S56 _ _ hRW1
      have rst2 := S5s.tk (Tk.same S56) rst1
      have hF7 := S56 _ _ hF6
      have B7 : But F H1 (upd H6 BG (.lst ([.str gNone] ++ (M.map (·.2.2.1)).map V.str))) := fun a o n e => S56 _ _ (N1 _ _ (B5 a o n e))
      generalize upd H6 BG (.lst ([.str gNone] ++ (M.map (·.2.2.1)).map V.str)) = H7 at *
      refine ⟨_, rfl, _, rfl, BG, RW, _, _, rfl, .inl ⟨SqL.of hBG1, SqL.of hRW2, ?_⟩⟩
      refine for_it (walk_zip (K := K) (a := BG) (b := RW) (xs := (gNone :: M.map (·.2.2.1)).map V.str) (ys := rs.map V.ref) (n := M.length) (by rw [List.length_map, List.length_map, List.length_cons, List.length_map, rl]; omega)) (fun k σ H' => ∃ (kvs : List (List Key × V)) (es : List Ed) (v12 v13 : Option V), σ = [some (.ref o), some (.ref d), some (.ref b), some (.int base), some (.int wide), some (.ref TL), some (.ref F), some (.str s), some (.int wv), some (.int (0 + (j : Int))), some (.ref RW), some (.ref BG), v12, v13, none, none] ∧ But F H7 H' ∧ H' F = some (.dT kvs) ∧ GapD kvs es (gapP ws base wide L i s j M k) ∧ kvs.length ≤ 320 * i + 40 * j + k) ⟨kvs, es, _, _, rfl, But.refl _ _, hF7, gd4.cong fun e => gapP_m M, by omega⟩ (fun k σ H' _ h => by obtain ⟨_, _, _, _, _, B, _⟩ := h; exact ⟨SqL.of (lsF B ⟨_, hF7⟩ hBG1), SqL.of (lsF B ⟨_, hF7⟩ hRW2)⟩) ?_ ?_
      · clear gd4 kl4
        rintro k y σ H8 H9 hk ⟨kvs, es, v12, v13, rfl, B8, hF8, gd8, kl8⟩ ⟨T0, x0, y0, rfl, hT0, rfl, hx0, hy0⟩
        have hx0 : ((gNone :: M.map (·.2.2.1)).map V.str)[k]? = some x0 := hx0
        have hy0 : (rs.map V.ref)[k]? = some y0 := hy0
        rw [beg_at (Nat.le_of_lt hk)] at hx0
        cases hx0
        obtain ⟨w, hw, rfl⟩ : ∃ w, rs[k]? = some w ∧ y0 = V.ref w := by
          rw [List.getElem?_map] at hy0
          cases e : rs[k]? with
          | none => rw [e] at hy0; cases hy0
          | some p => rw [e] at hy0; exact ⟨p, rfl, (Option.some.inj hy0).symm⟩
        obtain ⟨x, hx, a', b', ru, k1, k2, k3, k4⟩ := paired_get rst2 hw
        have NT := same_new hT0 (.tup [.str (begAt M k), .ref w])
        have T79 := (tkF B8 ⟨_, hF7⟩).trans (Tk.same NT)
        have k19 := T79 _ _ k1
        have hF9 := NT _ _ hF8
        have B9 : But F H7 (upd H8 T0 (.tup [.str (begAt M k), .ref w])) := fun a o n e => NT _ _ (B8 a o n e)
        refine ⟨T0, _, rfl, SqT.of upd_same, rfl, _, _, rfl, _, _, rfl, rfl, ?_⟩
        generalize upd H8 T0 (.tup [.str (begAt M k), .ref w]) = H9 at *
        refine ⟨_, rfl, _, rfl, w, _, _, _, rfl, rfl, SqT.of k19, rfl, rfl, _, rfl, ite2 (fun c => ?_) (fun c => ?_)⟩
        · have ne : begAt M k ≠ x.2.1 := fun z => by
            rw [z] at c
            simp at c
          obtain ⟨es', gd'⟩ := gd8.put (e := (begAt M k, x.2.1)) ne (m := wide) (by omega)
          have g0 := gd8.get (begAt M k, x.2.1)
          refine ⟨_, rfl, F, rfl, .inr ⟨_, .inl hF9⟩, _, rfl, _, rfl, w, _, _, _, rfl, rfl, SqT.of k19, rfl, (show 2 ≤ sizeLine by decide), fun t ht => ?_⟩
          have Nt := same_new ht (.tup [.str (begAt M k), .str x.2.1])
          have dg : DGet (upd H9 t (.tup [.str (begAt M k), .str x.2.1])) F (.ref t) (valV kvs (edK (begAt M k, x.2.1))) := DGet.t (k := edK (begAt M k, x.2.1)) (Nt _ _ hF9) upd_same
          refine ⟨_, dg, ?_⟩
          rw [g0]
          refine ⟨_, rfl, _, _, rfl, rfl, ?_⟩
          refine ⟨_, rfl, _, rfl, _, rfl, w, _, _, _, rfl, rfl, SqT.of (Nt _ _ k19), rfl, (show 2 ≤ sizeLine by decide), fun t2 ht2 => ?_⟩
          have Nt2 := same_new ht2 (.tup [.str (begAt M k), .str x.2.1])
          have N2 := Nt.trans Nt2
          refine ⟨F, _, rfl, DPut.t (k := edK (begAt M k, x.2.1)) (N2 _ _ hF9) upd_same (Nat.lt_of_le_of_lt (show _ ≤ 10000 by omega) (by decide)), ?_⟩
          exact ⟨_, es', _, _, rfl, fun a o n e => (upd_ne n).trans (N2 _ _ (B9 a o n e)), upd_same, gd'.cong fun e' => by rw [gp_add, gapP_k hx], Nat.le_trans (length_putK _ _ _) (by omega)⟩
        · have e : begAt M k = x.2.1 := by
            by_cases z : begAt M k = x.2.1
            · exact z
            · exact absurd (by simp [z]) c
          exact ⟨kvs, es, _, _, rfl, B9, hF9, gd8.cong fun e' => by rw [gapP_k hx, gp_same e]; simp, by omega⟩
      · rintro σ H8 ⟨kvs, es, v12, v13, rfl, B8, hF8, gd8, kl8⟩
        exact ⟨kvs, es, _, _, _, _, _, rfl, fun a o n e => B8 a o n (B7 a o n e), hF8, gd8.cong fun e => gapP_j [] hM.symm, by omega⟩
    · rintro σ H4 ⟨kvs, es, v9, v10, v11, v12, v13, rfl, B4, hF4, gd4, kl4⟩
      exact ⟨kvs, es, _, _, _, _, _, _, _, rfl, B4, hF4, gd4.cong fun e => gapP_i gNone [] hs, by omega⟩
  rintro σ H4 ⟨kvs, es, v7, v8, v9, v10, v11, v12, v13, rfl, B4, hF4, gd4, kl4⟩
  rw [List.length_map, wl] at gd4 kl4
  have gd4 := gd4.cong fun e => gapP_end
  have e0 : (kvs.map (·.1)).map keyD = es.map edD := by
    rw [show kvs.map (·.1) = es.map edK from gd4.ky, List.map_map]
    rfl
  refine ⟨_, rfl, F, kvs, rfl, hF4, by omega, by rw [e0]; exact eds_alike es, by rw [e0]; exact eds_sortable es, fun as lr ka nlr => ?_⟩
  rw [e0]
  rw [show kvs.map (·.1) = es.map edK from gd4.ky] at ka
  have N5 := same_new nlr (.lst (sortD (as.map V.ref) (es.map edD)))
  have rds := Rds.tk (Tk.same N5) (keys_rds2 ka)
  obtain ⟨rs, e1, e2⟩ := sort_paired (F := fun p e => upd H4 lr (.lst (sortD (as.map V.ref) (es.map edD))) p = some (.tup (edV e))) edD rds
  have hlr : upd H4 lr (.lst (sortD (as.map V.ref) (es.map edD))) lr = some (.lst (rs.map V.ref)) := by rw [upd_same, e1]
  have hF5 := N5 _ _ hF4
  have B5 : But F H1 (upd H4 lr (.lst (sortD (as.map V.ref) (es.map edD)))) := fun a o n e => N5 _ _ (B4 a o n e)
  generalize upd H4 lr (.lst (sortD (as.map V.ref) (es.map edD))) = H5 at *
  have e2 : Paired (fun p e => H5 p = some (.tup (edV e))) rs (sortE es) := e2
  have rl := paired_len e2
  have el : (sortE es).length ≤ 2000 := by
    unfold sortE
    rw [List.length_mergeSort, ← gd4.ky.len]
    omega
  refine ⟨lr, rfl, ⟨_, SqL.of hlr⟩, fun D hD => ?_⟩
  refine lc_list (K := K) (a := lr) (xs := rs.map V.ref) (fun j H' => ∃ ds : List Addr, Same H5 H' ∧ H' D = some (.lst (ds.map V.ref)) ∧ G3s H' ds ((sortE es).take j) (gapF ws base wide L)) ⟨[], same_new hD _, upd_same, .nil⟩ (fun j H' _ h => by obtain ⟨_, S, _⟩ := h; exact SqL.of (S _ _ hlr)) ?_ ?_
  · rintro j x H6 hx ⟨ds, S6, hD6, g6⟩
    obtain ⟨u, hu, rfl⟩ : ∃ u, rs[j]? = some u ∧ x = V.ref u := by
      rw [List.getElem?_map] at hx
      cases e : rs[j]? with
      | none => rw [e] at hx; cases hx
      | some p => rw [e] at hx; exact ⟨p, rfl, (Option.some.inj hx).symm⟩
    obtain ⟨e, he, ha⟩ := paired_get e2 hu
    obtain ⟨hj, ee⟩ := List.getElem?_eq_some_iff.mp he
    refine ⟨u, _, rfl, SqT.of (S6 _ _ ha), rfl, _, _, rfl, _, _, rfl, rfl, rfl, ?_⟩
    have ein : e ∈ es := List.mem_mergeSort.mp (List.mem_of_getElem? he)
    refine ⟨_, rfl, _, rfl, _, rfl, _, rfl, _, rfl, (show 2 ≤ sizeLine by decide), fun tk htk => ?_⟩
    have Nk := same_new htk (.tup [.str e.1, .str e.2])
    have dg : DGet (upd H6 tk (.tup [.str e.1, .str e.2])) F (.ref tk) (some (.int (gapF ws base wide L e))) := by
      have z := DGet.t (k := edK e) (Nk _ _ (S6 _ _ hF5)) (b := tk) upd_same
      rw [gd4.vl, if_pos ((gd4.up e).mp ein)] at z
      exact z
    refine ⟨F, _, rfl, dg, (show 3 ≤ sizeLine by decide), fun t ht => ?_⟩
    have Nt := same_new ht (.tup [.str e.1, .str e.2, .int (gapF ws base wide L e)])
    have hDt := Nt _ _ (Nk _ _ hD6)
    have SS := (S6.trans Nk).trans Nt
    refine ⟨_, hDt, ?_, ds ++ [t], same_mut SS hD, ?_, ?_⟩
    · have := paired_len g6
      rw [List.length_map, this]
      exact Nat.lt_of_le_of_lt (Nat.le_trans (List.length_take_le' _ _) el) (by decide)
    · rw [upd_same, List.map_append]
      rfl
    · rw [List.take_succ_eq_append_getElem hj, ee]
      have tD : Tk (upd (upd H6 tk (.tup [.str e.1, .str e.2])) t (.tup [.str e.1, .str e.2, .int (gapF ws base wide L e)])) (upd (upd (upd H6 tk (.tup [.str e.1, .str e.2])) t (.tup [.str e.1, .str e.2, .int (gapF ws base wide L e)])) D (.lst (ds.map V.ref ++ [V.ref t]))) := Tk.put hDt
      exact paired_snoc (paired_imp (fun p x hp => tD _ _ (Nt _ _ (Nk _ _ hp))) g6) (tD _ _ upd_same)
  · rintro H6 ⟨ds, S6, hD6, g6⟩
    rw [List.length_map, rl, List.take_length] at g6
    refine ⟨D, _, rfl, .inl ⟨SqL.of hD6, fun t ht => ?_⟩⟩
    have Nt := same_new ht (.tup (ds.map V.ref))
    have B7 : But F H1 (upd H6 t (.tup (ds.map V.ref))) := fun a o n e => Nt _ _ (S6 _ _ (B5 a o n e))
    have SS : Same H (upd H6 t (.tup (ds.map V.ref))) := fun a o e => B7 a o (ne_of_none e F0) (S01 _ _ e)
    have nn : H t = none := by
      cases e : H t with
      | none => rfl
      | some o =>
        have z := S6 _ _ (B5 t o (ne_of_none e F0) (S01 _ _ e))
        rw [ht] at z
        cases z
    refine q t ds es _ SS nn upd_same gd4.nd ?_ gd4.up (paired_imp (fun p x hp => Nt _ _ hp) g6)
    rw [← gd4.ky.len]
    omega

theorem ok_law (F : Fun K "law" "law" s_law f_law d_law) (T : Txt mg f_is_apart f_runs_of f_many_in f_named_by_voids f_counted_bags f_standing_of f_pages_that_are f_counted_pages f_all_steps f_together f_both f_less f_what_is_left f_add_gap f_gaps f_ltape f_ldraw f_loffice f_lnames f_lruns f_lfield f_ldeed f_lbook f_ltold f_lof f_lrows f_ldue f_law)
    (df1 : P_all_steps ≠ P_many_in)
    (F_ltape : Fun K "_law_tape" "_law_tape" s_ltape f_ltape d_ltape) (b_ltape : Binds K d_ltape ["_law_script"] []) (G_ltape : FnOk P w K mg base CX0 (11) f_ltape d_ltape ["_law_script"] (spFeed K))
    (F_ldraw : Fun K "_law_draw" "_law_draw" s_ldraw f_ldraw d_ldraw) (b_ldraw : Binds K d_ldraw ["_law_tape_here", "_law_many"] []) (G_ldraw : FnOk P w K mg base CX0 (11) f_ldraw d_ldraw ["_law_tape_here", "_law_many"] spDrawT)
    (F_loffice : Fun K "_law_office" "_law_office" s_loffice f_loffice d_loffice) (b_loffice : Binds K d_loffice ["_law_tape_here"] []) (G_loffice : FnOk P w K mg base CX0 (11) f_loffice d_loffice ["_law_tape_here"] spOffice1)
    (F_lfield : Fun K "_law_field" "_law_field" s_lfield f_lfield d_lfield) (b_lfield : Binds K d_lfield ["_law_tape_here"] []) (G_lfield : FnOk P w K mg base CX0 (11) f_lfield d_lfield ["_law_tape_here"] spFieldF)
    (F_lbook : Fun K "_law_book" "_law_book" s_lbook f_lbook d_lbook) (b_lbook : Binds K d_lbook ["_law_tape_here", "_law_office_here", "_law_field_here", "_law_many"] []) (G_lbook : FnOk P w K mg base CX0 (11) f_lbook d_lbook ["_law_tape_here", "_law_office_here", "_law_field_here", "_law_many"] spBookG)
    (F_gaps : Fun K "gaps" "gaps" s_gaps f_gaps d_gaps) (b_gaps : Binds K d_gaps ["book"] []) (G_gaps : FnOk P w K mg base CX0 (11) f_gaps d_gaps ["book"] (spGaps P_all_steps P_many_in))
    (F_ldue : Fun K "_law_due" "_law_due" s_ldue f_ldue d_ldue) (b_ldue : Binds K d_ldue ["_law_office_here", "_law_field_here", "_law_book_here"] []) (G_ldue : FnOk P w K mg base CX0 (11) f_ldue d_ldue ["_law_office_here", "_law_field_here", "_law_book_here"] spDueG) :
    FnG P w K mg base 12 f_law d_law ["_law_script"] (spLawL K (LM P_many_in) [P_all_steps, P_many_in]) := by
  refine okG F sc_law (fun vs H Q E h => ?_) (fun cdv A outer s H vs Q E hr hg h => ?_)

  · obtain ⟨a, ns, rfl, _⟩ := h
    rfl
  obtain ⟨a, ns, rfl, hs, ht, q⟩ := h
  refine ⟨_, (pss_cons (ps_set (i := 1) sc_law.nd rfl (.inr rfl) (pe_call G_ltape hr (by rfl) T.m_ltape F_ltape.kp b_ltape .nil pass0 (pa_cons (pv 0) pa_nil)))
  (C8.pss_cut (ps_set (i := 2) sc_law.nd rfl (.inr rfl) (pe_ifExp (pt_cmpR op_eq (pe_call G_ldraw hr (by rfl) T.m_ldraw F_ldraw.kp b_ldraw .nil pass0 (pa_cons (pv 1) (pa_cons pe_int pa_nil))) pe_int (nomark _)) pe_int (pe_call G_ldraw hr (by rfl) T.m_ldraw F_ldraw.kp b_ldraw .nil pass0 (pa_cons (pv 1) (pa_cons pe_int pa_nil)))))
  (pss_cons (ps_set (i := 3) sc_law.nd rfl (.inr rfl) (pe_call G_loffice hr (by rfl) T.m_loffice F_loffice.kp b_loffice .nil pass0 (pa_cons (pv 1) pa_nil)))
  (pss_cons (ps_set (i := 4) sc_law.nd rfl (.inr rfl) (pe_call G_lfield hr (by rfl) T.m_lfield F_lfield.kp b_lfield .nil pass0 (pa_cons (pv 1) pa_nil)))
  (pss_cons (ps_setLc (i := 5) (own := [("_law_k", 6)]) (g := (gName 6)) (by rfl) sc_law.nd rfl rfl (sw_true rfl rfl rfl (by decide +kernel)) (pi_range1 (by rfl) T.range (pa_cons pe_int pa_nil)) (blkOk_by (own := [("_law_k", 6)]) (N := ["_law_script", "_law_tape_here", "_law_many", "_law_office_here", "_law_field_here", "_law_books", "_law_k", "_law_kept", "_law_book_here"]) (sc := defScope s_law) (by decide +kernel)) (fun _ _ _ _ _ => (pg_name (i := 6) sc_law.nd rfl (.inl rfl))) (fun _ _ _ _ _ => pts_nil) (fun _ _ _ _ _ => (pe_call G_lbook hr (by rfl) T.m_lbook F_lbook.kp b_lbook .nil pass0 (pa_cons (pv 1) (pa_cons (pv 3) (pa_cons (pv 4) (pa_cons (pv 2) pa_nil)))))))
  (pss_cons (ps_set (i := 7) sc_law.nd rfl (.inl rfl) (pe_callB (show CallR _ (.builtin "repr") (rReprD K) from cr_reprD hg hr) (by rfl) T.repr (by decide +kernel) (pa_cons (pv 5) pa_nil)))
  (pss_cons (ps_for PassesOwn.never rfl (pi_tup (pe_tup (pa_cons (pe_ix ix_list (pv 5) pe_int (fun _ _ => rfl)) (pa_cons (pe_ix ix_list (pv 5) pe_int (fun _ _ => rfl)) (pa_cons (pe_ix ix_list (pv 5) pe_int (fun _ _ => rfl)) (pa_cons (pe_tupF pa_nil) pa_nil)))))) (pg_name (i := 8) sc_law.nd rfl (.inl rfl))
  (pss_one (ps_if (pt_cmpR op_ne (pe_callB (show CallR _ (.builtin "repr") (rReprD K) from cr_reprD hg hr) (by rfl) T.repr (by decide +kernel) (pa_cons (pe_call G_gaps hr (by rfl) T.m_gaps F_gaps.kp b_gaps .nil pass0 (pa_cons (pv 8) pa_nil)) pa_nil)) (pe_callB (show CallR _ (.builtin "repr") (rReprD K) from cr_reprD hg hr) (by rfl) T.repr (by decide +kernel) (pa_cons (pe_call G_ldue hr (by rfl) T.m_ldue F_ldue.kp b_ldue .nil pass0 (pa_cons (pv 3) (pa_cons (pv 4) (pa_cons (pv 8) pa_nil)))) pa_nil)) (nomark _))
  (pss_one (ps_ret pe_bl))
  pss_nil)))
  (pss_one (ps_ret (pe_cmpR op_eq (pe_callB (show CallR _ (.builtin "repr") (rReprD K) from cr_reprD hg hr) (by rfl) T.repr (by decide +kernel) (pa_cons (pv 5) pa_nil)) (pv 7) (nomark _))))))))))), ?_⟩
  refine ⟨_, rfl, a, ns, rfl, hs, fun f c H1 nf S1 fd1 => ?_⟩
  have T1 : TabL H P_all_steps qSteps := ⟨[], (ht _ (by simp)).trans (congrArg some (hoLM_c df1)), fun c z => nomatch z⟩
  have T2 := T1.same S1
  have M2 : H1 P_many_in = some (TabO P_many_in) := S1 _ _ ((ht _ (by simp)).trans (congrArg some hoLM_o))
  refine ⟨fun σ H' => ∃ m : Nat, m ≤ 40 ∧ σ = [some (.ref a), some (.ref f), some (.int m), none, none, none, none, none, none] ∧ Fd H' f c 2 ∧ But f H1 H', ?_, ?_⟩
  · refine ⟨_, rfl, f, c, 8, 0, rfl, fd1, by decide, by decide, by decide, fun d1 H2 d10 d11 fd2 b2 => ⟨rfl, _, rfl, ite2 (fun _ => ?_) (fun _ => ?_)⟩⟩
    · exact ⟨40, Nat.le_refl _, rfl, fd2.mono (by decide), b2⟩
    · refine ⟨_, rfl, f, c, 11, _, rfl, fd2, by decide, by decide, by decide, fun d2 H3 d20 d21 fd3 b3 => ?_⟩
      obtain ⟨k, rfl⟩ : ∃ k : Nat, d2 = (k : Int) := ⟨d2.toNat, by omega⟩
      exact ⟨k, by omega, rfl, fd3.mono (by decide), b2.trans b3⟩
  rintro σ H1a ⟨m, m24, rfl, fd1a, b1a⟩
  have T2a := TabL.butD fd1 b1a T2
  have M2a := tabO_butD fd1 b1a M2
  clear T2 T1 M2
  refine ⟨_, rfl, f, c, 2, rfl, fd1a, by decide, fun o ws E1 H2 fd2 b2 no2 of2 ok2 => ?_⟩
  refine ⟨_, rfl, f, c, 2 + 200, rfl, fd2, by decide, fun d base wide H3 fd3 b3 nd3 hd fok => ?_⟩
  have of3 := of2.but fd2 b3
  have T4 : TabL H3 P_all_steps qSteps := TabL.butD fd1a (b2.trans b3) T2a
  have M4 := tabO_butD fd1a (b2.trans b3) M2a
  refine ⟨2, rfl, by decide, by decide, fun BL nBL => ?_⟩
  have NB := same_new nBL (.lst [])
  have neB := fd3.ne nBL
  refine lc_range (lo := 0) (n := 2) (fun i H' => ∃ (bs : List Addr) (gss : List (List Pg)), Fd H' f c (300 + 2100 * i) ∧ But f H3 H' ∧ H' BL = some (.lst (bs.map V.ref)) ∧ Paired (fun b gs => BkP ws E1 base wide 40 H' b gs) bs gss ∧ gss.length = i) ⟨[], [], (fd3.same NB).mono (by omega), But.of_same NB, upd_same, .nil, rfl⟩ ?_ ?_
  · rintro i H4 hi ⟨bs, gss, fd4, b4, hB4, pk4, gl4⟩
    refine ⟨rfl, ?_⟩
    refine ⟨_, rfl, _, rfl, _, rfl, _, rfl, f, c, o, d, m, _, ws, E1, base, wide, rfl, fd4, by omega, of3.but fd3 b4, ok2, Tk.butD fd3 b4 _ _ hd, fok, by omega, fun t gs H6 fd6 b6 nt bk gl nd gok gup => ?_⟩
    have bl4 := paired_len pk4
    refine ⟨_, b6 _ _ neB.1 hB4, ?_, bs ++ [t], gss ++ [gs], (fd6.upd neB).mono (by omega), (b4.trans b6).mut nBL, ?_, ?_, ?_⟩
    · rw [List.length_map, bl4, gl4]
      exact Nat.lt_of_le_of_lt (show _ ≤ 100 by omega) (by decide)
    · rw [upd_same, List.map_append]
      rfl
    · refine paired_snoc (paired_imp (fun b gs h => ⟨(h.1.butD fd4 b6).put (b6 _ _ neB.1 hB4), h.2⟩) pk4) ⟨bk.put (b6 _ _ neB.1 hB4), by omega, nd, gok, gup⟩
    · rw [List.length_append, List.length_singleton, gl4]
  rintro H4 ⟨bs, gss, fd4, b4, hB4, pk4, gl4⟩
  obtain ⟨B1, B2, g1, g2, rfl, rfl, k1, k2⟩ := paired_two pk4 gl4
  clear pk4 gl4
  have of6 := of3.but fd3 b4
  have hd6 := Tk.butD fd3 b4 _ _ hd
  have k16 := k1.1
  have k26 := k2.1
  have hB6 := hB4
  have T6 := TabL.butD fd3 b4 T4
  have M6 := tabO_butD fd3 b4 M4
  clear fd1 fd2 b2 fd3 b3 nBL NB b4 of3 T4 T2a M4 M2a
  have okd : Okd 8 8000000 (.list [bkF g1, bkF g2]) := by
    have o2 := OkdAll.lst (.cons (okd_bkF ok2.1 fok k1.2.2.2.1) (.cons (okd_bkF ok2.1 fok k2.2.2.2.1) .nil))
    have l1 := k1.2.1
    have l2 := k2.2.1
    exact o2.mono (by decide) (by omega)
  obtain ⟨sh1, sh2, sh3, sh4⟩ := okd.showF (by decide) (by decide)
  have pd : ∀ {Hx : Hp}, NeX H4 Hx → Dp K Hx (.ref BL) (.list [bkF g1, bkF g2]) := fun {Hx} x => .lst (SqL.of (x.lst hB6)) (.cons (k16.nx x).dpF (.cons (k26.nx x).dpF .nil))
  generalize hD : (PyData.list [bkF g1, bkF g2]) = D at *
  refine ⟨_, rfl, _, D, rfl, pd (.same (Same.refl _)), sh1, sh2, sh3, sh4, ?_⟩
  refine ⟨_, rfl, BL, _, _, _, rfl, rfl, SqL.of hB6, ix0 _ _, _, rfl, BL, _, _, _, rfl, rfl, SqL.of hB6, ix1 _ _ _, _, rfl, BL, _, _, _, rfl, rfl, SqL.of hB6, ix0 _ _, (show 0 ≤ sizeLine by decide), fun z0 oz nz tz => ?_⟩
  have Nz := same_new nz (.frz oz (.tup []))
  have hz0 : upd H4 z0 (.frz oz (.tup [])) z0 = some (.frz oz (.tup [])) := upd_same
  refine ⟨(show 4 ≤ sizeLine by decide), fun t3 n3 => ?_⟩
  have N3 := same_new n3 (.tup [.ref B1, .ref B2, .ref B1, .ref z0])
  have ht3 : upd (upd H4 z0 (.frz oz (.tup []))) t3 (.tup [.ref B1, .ref B2, .ref B1, .ref z0]) t3 = some (.tup [.ref B1, .ref B2, .ref B1, .ref z0]) := upd_same
  have S8 := Nz.trans N3
  have T8 := T6.same S8
  have hz8 := N3 _ _ hz0
  refine ⟨t3, rfl, ⟨_, SqT.of ht3⟩, ?_⟩
  refine for_tup (K := K) (a := t3) (xs := [.ref B1, .ref B2, .ref B1, .ref z0]) (fun i σ H' => ∃ v9 : Option V, σ = [some (.ref a), some (.ref f), some (.int m), some (.ref o), some (.ref d), some (.ref BL), none, some (.str D.shown), v9] ∧ NeX H4 H' ∧ TabL H' P_all_steps qSteps ∧ H' P_many_in = some (TabO P_many_in) ∧ BkF H' z0 [] ∧ H' t3 = some (.tup [.ref B1, .ref B2, .ref B1, .ref z0])) ⟨none, rfl, .same S8, T8, S8 _ _ M6, bkF_none hz8 tz, ht3⟩ (fun i σ H' _ h => by obtain ⟨_, _, _, _, _, _, h⟩ := h; exact SqT.of h) ?_ ?_
  · rintro i x σ H7 hx ⟨v9, rfl, X7, T7, M7, Z7, ht7⟩
    have cs : ∃ b gs, x = .ref b ∧ BkF H7 b gs ∧ gs.length ≤ 40 ∧ (gs.map (·.1)).Nodup ∧ ∀ g ∈ gs, DdF ws E1 base wide g.2 := by
      match i, hx with
      | 0, hx => exact ⟨B1, g1, (Option.some.inj hx).symm, k16.nx X7, k1.2.1, k1.2.2.1, fun g hg => (k1.2.2.2.1 g hg).2⟩
      | 1, hx => exact ⟨B2, g2, (Option.some.inj hx).symm, k26.nx X7, k2.2.1, k2.2.2.1, fun g hg => (k2.2.2.2.1 g hg).2⟩
      | 2, hx => exact ⟨B1, g1, (Option.some.inj hx).symm, k16.nx X7, k1.2.1, k1.2.2.1, fun g hg => (k1.2.2.2.1 g hg).2⟩
      | 3, hx => exact ⟨z0, [], (Option.some.inj hx).symm, Z7, Nat.zero_le _, List.nodup_nil, fun g hg => nomatch hg⟩
    obtain ⟨b, gs, rfl, bk, bl, nd, dok⟩ := cs
    have w4 := ok2.1.lw
    have nms : (ws.map (·.1)).Nodup := by
      obtain ⟨_, k0, _, e⟩ := ok2.2
      rw [e]
      exact gser_nd _
    refine ⟨_, rfl, b, ws, E1, base, wide, gs, rfl, fok, nms, by omega, bk, bl, nd, dok, T7, M7, df1.symm, fun u qs es H8 B8 T8 nu hu end_ eup eg => ?_⟩
    have X8 := B8.nx T7
    have M8 := B8 _ _ df1.symm M7
    have X78 := X7.trans X8
    have dp1 := G3s.dp (K := K) eg
    have bk8 := bk.nx X8
    have Z8 := Z7.nx X8
    have ht8 := X8.tk _ _ ht7
    by_cases el : es.length ≤ 2000
    · obtain ⟨w1, w2, w3, w4⟩ := (okd_g3 (es := sortE es) ok2.1 fok nd dok bl (fun e he => (eup e).mp (sortE_in.mp he)) (by rw [sortE_len]; exact el)).showF (by decide) (by decide)
      refine ⟨_, _, rfl, .tup (SqT.of hu) dp1, w1, w2, w3, w4, ?_⟩
      refine ⟨_, rfl, _, rfl, _, rfl, o, d, b, ws, E1, base, wide, gs, rfl, of6.tk X78.tk, ok2, X78.tk _ _ hd6, fok, bk8, bl, nd, dok, fun u2 qs2 es2 H9 S9 nu2 hu2 nd2 el2 eup2 eg2 => ?_⟩
      have eE : sortE es = sortE es2 := sortE_uniq end_ nd2 fun e => (eup e).trans (eup2 e).symm
      rw [← eE] at eg2
      refine ⟨_, _, rfl, .tup (SqT.of hu2) (G3s.dp eg2), w1, w2, w3, w4, rfl, _, rfl, iteNS rfl ?_⟩
      exact ⟨_, rfl, X78.trans (.same S9), T8.same S9, S9 _ _ M8, Z8.same S9, S9 _ _ ht8⟩
    · exact absurd (gap_few ok2.1 fok nd dok end_ fun e he => (eup e).mp he) el
  · rintro σ H7 ⟨v9, rfl, X7, T7, M7, Z7, ht7⟩
    refine ⟨_, rfl, _, D, rfl, pd X7, sh1, sh2, sh3, sh4, _, rfl, rfl, ?_⟩
    have e : decide (V.str D.shown = V.str D.shown) = true := decide_eq_true rfl
    rw [e]
    refine q _ fun t htm => ?_
    simp only [List.mem_cons, List.not_mem_nil, or_false] at htm
    rcases htm with rfl | rfl
    · exact endLM_c df1 T7
    · exact endLM_o M7

end
def e_is_apart : He.DefD := ⟨("is_apart", none), "is_apart", "is_apart", defArgs s_is_apart, defBody s_is_apart, defScope s_is_apart, [], []⟩
def e_runs_of : He.DefD := ⟨("runs_of", none), "runs_of", "runs_of", defArgs s_runs_of, defBody s_runs_of, defScope s_runs_of, [], []⟩
def e_many_in : He.DefD := ⟨("many_in", none), "many_in", "many_in", defArgs s_many_in, defBody s_many_in, defScope s_many_in, [], []⟩
def e_named_by_voids : He.DefD := ⟨("named_by_voids", none), "named_by_voids", "named_by_voids", defArgs s_named_by_voids, defBody s_named_by_voids, defScope s_named_by_voids, [], []⟩
def e_counted_bags : He.DefD := ⟨("counted_bags", none), "counted_bags", "counted_bags", defArgs s_counted_bags, defBody s_counted_bags, defScope s_counted_bags, [], []⟩
def e_standing_of : He.DefD := ⟨("standing_of", none), "standing_of", "standing_of", defArgs s_standing_of, defBody s_standing_of, defScope s_standing_of, [], []⟩
def e_pages_that_are : He.DefD := ⟨("pages_that_are", none), "pages_that_are", "pages_that_are", defArgs s_pages_that_are, defBody s_pages_that_are, defScope s_pages_that_are, [], []⟩
def e_counted_pages : He.DefD := ⟨("counted_pages", none), "counted_pages", "counted_pages", defArgs s_counted_pages, defBody s_counted_pages, defScope s_counted_pages, [], []⟩
def e_all_steps : He.DefD := ⟨("all_steps", none), "all_steps", "all_steps", defArgs s_all_steps, defBody s_all_steps, defScope s_all_steps, [], []⟩
def e_together : He.DefD := ⟨("together", none), "together", "together", defArgs s_together, defBody s_together, defScope s_together, [], []⟩
def e_both : He.DefD := ⟨("both", none), "both", "both", defArgs s_both, defBody s_both, defScope s_both, [], []⟩
def e_less : He.DefD := ⟨("less", none), "less", "less", defArgs s_less, defBody s_less, defScope s_less, [], []⟩
def e_what_is_left : He.DefD := ⟨("what_is_left", none), "what_is_left", "what_is_left", defArgs s_what_is_left, defBody s_what_is_left, defScope s_what_is_left, [], []⟩
def e_add_gap : He.DefD := ⟨("add_gap", none), "add_gap", "add_gap", defArgs s_add_gap, defBody s_add_gap, defScope s_add_gap, [], []⟩
def e_gaps : He.DefD := ⟨("gaps", none), "gaps", "gaps", defArgs s_gaps, defBody s_gaps, defScope s_gaps, [], []⟩
def e_ltape : He.DefD := ⟨("_law_tape", none), "_law_tape", "_law_tape", defArgs s_ltape, defBody s_ltape, defScope s_ltape, [], []⟩
def e_ldraw : He.DefD := ⟨("_law_draw", none), "_law_draw", "_law_draw", defArgs s_ldraw, defBody s_ldraw, defScope s_ldraw, [], []⟩
def e_loffice : He.DefD := ⟨("_law_office", none), "_law_office", "_law_office", defArgs s_loffice, defBody s_loffice, defScope s_loffice, [], []⟩
def e_lnames : He.DefD := ⟨("_law_names", none), "_law_names", "_law_names", defArgs s_lnames, defBody s_lnames, defScope s_lnames, [], []⟩
def e_lruns : He.DefD := ⟨("_law_runs", none), "_law_runs", "_law_runs", defArgs s_lruns, defBody s_lruns, defScope s_lruns, [], []⟩
def e_lfield : He.DefD := ⟨("_law_field", none), "_law_field", "_law_field", defArgs s_lfield, defBody s_lfield, defScope s_lfield, [], []⟩
def e_ldeed : He.DefD := ⟨("_law_deed", none), "_law_deed", "_law_deed", defArgs s_ldeed, defBody s_ldeed, defScope s_ldeed, [], []⟩
def e_lbook : He.DefD := ⟨("_law_book", none), "_law_book", "_law_book", defArgs s_lbook, defBody s_lbook, defScope s_lbook, [], []⟩
def e_ltold : He.DefD := ⟨("_law_told", none), "_law_told", "_law_told", defArgs s_ltold, defBody s_ltold, defScope s_ltold, [], []⟩
def e_lof : He.DefD := ⟨("_law_of", none), "_law_of", "_law_of", defArgs s_lof, defBody s_lof, defScope s_lof, [], []⟩
def e_lrows : He.DefD := ⟨("_law_rows", none), "_law_rows", "_law_rows", defArgs s_lrows, defBody s_lrows, defScope s_lrows, [], []⟩
def e_ldue : He.DefD := ⟨("_law_due", none), "_law_due", "_law_due", defArgs s_ldue, defBody s_ldue, defScope s_ldue, [], []⟩
def e_law : He.DefD := ⟨("law", none), "law", "law", defArgs s_law, defBody s_law, defScope s_law, [], []⟩
def fn : List He.DefD := [e_is_apart, e_runs_of, e_many_in, e_named_by_voids, e_counted_bags, e_standing_of, e_pages_that_are, e_counted_pages, e_all_steps, e_together, e_both, e_less, e_what_is_left, e_add_gap, e_gaps, e_ltape, e_ldraw, e_loffice, e_lnames, e_lruns, e_lfield, e_ldeed, e_lbook, e_ltold, e_lof, e_lrows, e_ldue, e_law]
def fa : List He.Fa := [.glo "is_apart", .glo "runs_of", .glo "many_in", .glo "named_by_voids", .glo "counted_bags", .glo "standing_of", .glo "pages_that_are", .glo "counted_pages", .glo "all_steps", .glo "together", .glo "both", .glo "less", .glo "what_is_left", .glo "add_gap", .glo "gaps", .glo "_law_tape", .glo "_law_draw", .glo "_law_office", .glo "_law_names", .glo "_law_runs", .glo "_law_field", .glo "_law_deed", .glo "_law_book", .glo "_law_told", .glo "_law_of", .glo "_law_rows", .glo "_law_due", .glo "law", .free "len", .free "range", .free "sorted", .free "tuple", .free "int", .free "list", .free "dict", .free "min", .free "max", .free "zip", .free "repr", .free "sum"]
abbrev R : PySem.W.OpenRow := PySem.W.OpenLaw.row PySem.Challenge.rw_pressnotes_k45_gaps_told
def tf : List He.Defn := [("all_steps", none), ("many_in", none)]
def exB (K : PySem.W.Frag) : Bool := decide ((He.cT K ("all_steps", none)).2 ≠ (He.cT K ("many_in", none)).2)
abbrev hk : PySem.W.Hook := He.hookX 6 fa fn [] tf exB
def ob (s : PySem.W.SharedT) : He.AlX := He.obsX 6 fa fn [] tf exB (HandSHeadRun.getT s)
theorem ob_eq (s : PySem.W.SharedT) : ob s = hk.obs s.abs := He.obsX_eq (HandSHeadRun.getT_eq s)
def loose : List Str := [("is_apart" : PySem.Str), ("runs_of" : PySem.Str), ("many_in" : PySem.Str), ("named_by_voids" : PySem.Str), ("counted_bags" : PySem.Str), ("standing_of" : PySem.Str), ("pages_that_are" : PySem.Str), ("counted_pages" : PySem.Str), ("all_steps" : PySem.Str), ("together" : PySem.Str), ("both" : PySem.Str), ("less" : PySem.Str), ("what_is_left" : PySem.Str), ("add_gap" : PySem.Str), ("gaps" : PySem.Str), ("_law_tape" : PySem.Str), ("_law_draw" : PySem.Str), ("_law_office" : PySem.Str), ("_law_names" : PySem.Str), ("_law_runs" : PySem.Str), ("_law_field" : PySem.Str), ("_law_deed" : PySem.Str), ("_law_book" : PySem.Str), ("_law_told" : PySem.Str), ("_law_of" : PySem.Str), ("_law_rows" : PySem.Str), ("_law_due" : PySem.Str)]
theorem run (w : World) : HandSHeadRun.RunEq R (PySem.W.view R.prog [33]) hk ob 8000 [("is_apart" : PySem.Str), ("runs_of" : PySem.Str), ("many_in" : PySem.Str), ("named_by_voids" : PySem.Str), ("counted_bags" : PySem.Str), ("standing_of" : PySem.Str), ("pages_that_are" : PySem.Str), ("counted_pages" : PySem.Str), ("all_steps" : PySem.Str), ("together" : PySem.Str), ("both" : PySem.Str), ("less" : PySem.Str), ("what_is_left" : PySem.Str), ("add_gap" : PySem.Str), ("gaps" : PySem.Str), ("_law_tape" : PySem.Str), ("_law_draw" : PySem.Str), ("_law_office" : PySem.Str), ("_law_names" : PySem.Str), ("_law_runs" : PySem.Str), ("_law_field" : PySem.Str), ("_law_deed" : PySem.Str), ("_law_book" : PySem.Str), ("_law_told" : PySem.Str), ("_law_of" : PySem.Str), ("_law_rows" : PySem.Str), ("_law_due" : PySem.Str)] w := by
  intro os
  kernel_rfl
theorem toFun {K : PySem.W.Frag} {x : Str} {st : Stmt} {f : Addr} {fd : FuncData} (F : FunD K x x (defArgs st) (defBody st) (defScope st) [] [] f fd) : Fun K x x st f fd := by
  obtain ⟨oc, od, dV, kV, doc, pm, an, cdv, ct, osl, e, lk, hcd, hd, hk⟩ := F.ex
  have z : dV = .none := by
    rcases hd with h | h
    · exact h.2
    · exact absurd rfl h.1
  subst z
  exact ⟨⟨oc, od, kV, doc, pm, an, cdv, ct, osl, e, lk, hcd⟩, F.kp⟩
theorem facts {w : World} {K : PySem.W.Frag} {h : Heap} {mg : Str → Option Value} {f : Addr} (X : K.In h) (G : h.Ns mainGlobals mg) (hfa : mg ("law" : Str) = some (.ref f)) (c : He.SaysD fa fn K) (df_all_steps_many_in : (He.cT K ("all_steps", none)).2 ≠ (He.cT K ("many_in", none)).2) :
    ∃ fd : FuncData, (∀ (s : Shared) (v : Value), BindsTo s fd ⟨[v], []⟩ [("_law_script", v)]) ∧ ∀ base : Heap, K.In base → base.Ns mainGlobals mg → (∀ p ∈ tf.map (He.cT K), GxR.TabB base mg p.1 p.2) → FnG (PySem.Challenge.rw_pressnotes_k45_gaps_told).prog w K mg base 12 f fd ["_law_script"] (spLawL K (LM (He.cT K ("many_in", none)).2) ((tf.map (He.cT K)).map (·.2))) := by
  obtain ⟨d_is_apart, F0_is_apart⟩ := c.def_ 0 (d := e_is_apart) rfl
  have F_is_apart := toFun (st := s_is_apart) F0_is_apart
  obtain ⟨d_runs_of, F0_runs_of⟩ := c.def_ 1 (d := e_runs_of) rfl
  have F_runs_of := toFun (st := s_runs_of) F0_runs_of
  obtain ⟨d_many_in, F0_many_in⟩ := c.def_ 2 (d := e_many_in) rfl
  have F_many_in := toFun (st := s_many_in) F0_many_in
  obtain ⟨d_named_by_voids, F0_named_by_voids⟩ := c.def_ 3 (d := e_named_by_voids) rfl
  have F_named_by_voids := toFun (st := s_named_by_voids) F0_named_by_voids
  obtain ⟨d_counted_bags, F0_counted_bags⟩ := c.def_ 4 (d := e_counted_bags) rfl
  have F_counted_bags := toFun (st := s_counted_bags) F0_counted_bags
  obtain ⟨d_standing_of, F0_standing_of⟩ := c.def_ 5 (d := e_standing_of) rfl
  have F_standing_of := toFun (st := s_standing_of) F0_standing_of
  obtain ⟨d_pages_that_are, F0_pages_that_are⟩ := c.def_ 6 (d := e_pages_that_are) rfl
  have F_pages_that_are := toFun (st := s_pages_that_are) F0_pages_that_are
  obtain ⟨d_counted_pages, F0_counted_pages⟩ := c.def_ 7 (d := e_counted_pages) rfl
  have F_counted_pages := toFun (st := s_counted_pages) F0_counted_pages
  obtain ⟨d_all_steps, F0_all_steps⟩ := c.def_ 8 (d := e_all_steps) rfl
  have F_all_steps := toFun (st := s_all_steps) F0_all_steps
  obtain ⟨d_together, F0_together⟩ := c.def_ 9 (d := e_together) rfl
  have F_together := toFun (st := s_together) F0_together
  obtain ⟨d_both, F0_both⟩ := c.def_ 10 (d := e_both) rfl
  have F_both := toFun (st := s_both) F0_both
  obtain ⟨d_less, F0_less⟩ := c.def_ 11 (d := e_less) rfl
  have F_less := toFun (st := s_less) F0_less
  obtain ⟨d_what_is_left, F0_what_is_left⟩ := c.def_ 12 (d := e_what_is_left) rfl
  have F_what_is_left := toFun (st := s_what_is_left) F0_what_is_left
  obtain ⟨d_add_gap, F0_add_gap⟩ := c.def_ 13 (d := e_add_gap) rfl
  have F_add_gap := toFun (st := s_add_gap) F0_add_gap
  obtain ⟨d_gaps, F0_gaps⟩ := c.def_ 14 (d := e_gaps) rfl
  have F_gaps := toFun (st := s_gaps) F0_gaps
  obtain ⟨d_ltape, F0_ltape⟩ := c.def_ 15 (d := e_ltape) rfl
  have F_ltape := toFun (st := s_ltape) F0_ltape
  obtain ⟨d_ldraw, F0_ldraw⟩ := c.def_ 16 (d := e_ldraw) rfl
  have F_ldraw := toFun (st := s_ldraw) F0_ldraw
  obtain ⟨d_loffice, F0_loffice⟩ := c.def_ 17 (d := e_loffice) rfl
  have F_loffice := toFun (st := s_loffice) F0_loffice
  obtain ⟨d_lnames, F0_lnames⟩ := c.def_ 18 (d := e_lnames) rfl
  have F_lnames := toFun (st := s_lnames) F0_lnames
  obtain ⟨d_lruns, F0_lruns⟩ := c.def_ 19 (d := e_lruns) rfl
  have F_lruns := toFun (st := s_lruns) F0_lruns
  obtain ⟨d_lfield, F0_lfield⟩ := c.def_ 20 (d := e_lfield) rfl
  have F_lfield := toFun (st := s_lfield) F0_lfield
  obtain ⟨d_ldeed, F0_ldeed⟩ := c.def_ 21 (d := e_ldeed) rfl
  have F_ldeed := toFun (st := s_ldeed) F0_ldeed
  obtain ⟨d_lbook, F0_lbook⟩ := c.def_ 22 (d := e_lbook) rfl
  have F_lbook := toFun (st := s_lbook) F0_lbook
  obtain ⟨d_ltold, F0_ltold⟩ := c.def_ 23 (d := e_ltold) rfl
  have F_ltold := toFun (st := s_ltold) F0_ltold
  obtain ⟨d_lof, F0_lof⟩ := c.def_ 24 (d := e_lof) rfl
  have F_lof := toFun (st := s_lof) F0_lof
  obtain ⟨d_lrows, F0_lrows⟩ := c.def_ 25 (d := e_lrows) rfl
  have F_lrows := toFun (st := s_lrows) F0_lrows
  obtain ⟨d_ldue, F0_ldue⟩ := c.def_ 26 (d := e_ldue) rfl
  have F_ldue := toFun (st := s_ldue) F0_ldue
  obtain ⟨d_law, F0_law⟩ := c.def_ 27 (d := e_law) rfl
  have F_law := toFun (st := s_law) F0_law
  have T : Txt mg _ _ _ _ _ _ _ _ _ _ _ _ _ _ _ _ _ _ _ _ _ _ _ _ _ _ _ _ := ⟨He.glo_ok X G (c.fact 0 (f := .glo "is_apart") rfl), He.glo_ok X G (c.fact 1 (f := .glo "runs_of") rfl), He.glo_ok X G (c.fact 2 (f := .glo "many_in") rfl), He.glo_ok X G (c.fact 3 (f := .glo "named_by_voids") rfl), He.glo_ok X G (c.fact 4 (f := .glo "counted_bags") rfl), He.glo_ok X G (c.fact 5 (f := .glo "standing_of") rfl), He.glo_ok X G (c.fact 6 (f := .glo "pages_that_are") rfl), He.glo_ok X G (c.fact 7 (f := .glo "counted_pages") rfl), He.glo_ok X G (c.fact 8 (f := .glo "all_steps") rfl), He.glo_ok X G (c.fact 9 (f := .glo "together") rfl), He.glo_ok X G (c.fact 10 (f := .glo "both") rfl), He.glo_ok X G (c.fact 11 (f := .glo "less") rfl), He.glo_ok X G (c.fact 12 (f := .glo "what_is_left") rfl), He.glo_ok X G (c.fact 13 (f := .glo "add_gap") rfl), He.glo_ok X G (c.fact 14 (f := .glo "gaps") rfl), He.glo_ok X G (c.fact 15 (f := .glo "_law_tape") rfl), He.glo_ok X G (c.fact 16 (f := .glo "_law_draw") rfl), He.glo_ok X G (c.fact 17 (f := .glo "_law_office") rfl), He.glo_ok X G (c.fact 18 (f := .glo "_law_names") rfl), He.glo_ok X G (c.fact 19 (f := .glo "_law_runs") rfl), He.glo_ok X G (c.fact 20 (f := .glo "_law_field") rfl), He.glo_ok X G (c.fact 21 (f := .glo "_law_deed") rfl), He.glo_ok X G (c.fact 22 (f := .glo "_law_book") rfl), He.glo_ok X G (c.fact 23 (f := .glo "_law_told") rfl), He.glo_ok X G (c.fact 24 (f := .glo "_law_of") rfl), He.glo_ok X G (c.fact 25 (f := .glo "_law_rows") rfl), He.glo_ok X G (c.fact 26 (f := .glo "_law_due") rfl), He.glo_ok X G (c.fact 27 (f := .glo "law") rfl), He.free_ok X G (c.fact 28 (f := .free "len") rfl), He.free_ok X G (c.fact 29 (f := .free "range") rfl), He.free_ok X G (c.fact 30 (f := .free "sorted") rfl), He.free_ok X G (c.fact 31 (f := .free "tuple") rfl), He.free_ok X G (c.fact 32 (f := .free "int") rfl), He.free_ok X G (c.fact 33 (f := .free "list") rfl), He.free_ok X G (c.fact 34 (f := .free "dict") rfl), He.free_ok X G (c.fact 35 (f := .free "min") rfl), He.free_ok X G (c.fact 36 (f := .free "max") rfl), He.free_ok X G (c.fact 37 (f := .free "zip") rfl), He.free_ok X G (c.fact 38 (f := .free "repr") rfl), He.free_ok X G (c.fact 39 (f := .free "sum") rfl)⟩
  have el := hfa.symm.trans T.m_law
  cases el
  have b_is_apart := F_is_apart.binds (ps := ["run", "later"]) fun _ _ _ _ _ _ us hl => match us, hl with | [_, _], _ => rfl
  have b_runs_of := F_runs_of.binds (ps := ["some"]) fun _ _ _ _ _ _ us hl => match us, hl with | [_], _ => rfl
  have b_many_in := F_many_in.binds (ps := ["runs"]) fun _ _ _ _ _ _ us hl => match us, hl with | [_], _ => rfl
  have b_named_by_voids := F_named_by_voids.binds (ps := ["book"]) fun _ _ _ _ _ _ us hl => match us, hl with | [_], _ => rfl
  have b_counted_bags := F_counted_bags.binds (ps := ["book"]) fun _ _ _ _ _ _ us hl => match us, hl with | [_], _ => rfl
  have b_standing_of := F_standing_of.binds (ps := ["page", "gone", "bags"]) fun _ _ _ _ _ _ us hl => match us, hl with | [_, _, _], _ => rfl
  have b_pages_that_are := F_pages_that_are.binds (ps := ["book", "standing"]) fun _ _ _ _ _ _ us hl => match us, hl with | [_, _], _ => rfl
  have b_counted_pages := F_counted_pages.binds (ps := ["book"]) fun _ _ _ _ _ _ us hl => match us, hl with | [_], _ => rfl
  have b_all_steps := F_all_steps.binds (ps := ["book"]) fun _ _ _ _ _ _ us hl => match us, hl with | [_], _ => rfl
  have b_together := F_together.binds (ps := ["one", "other"]) fun _ _ _ _ _ _ us hl => match us, hl with | [_, _], _ => rfl
  have b_both := F_both.binds (ps := ["one", "other"]) fun _ _ _ _ _ _ us hl => match us, hl with | [_, _], _ => rfl
  have b_less := F_less.binds (ps := ["one", "other"]) fun _ _ _ _ _ _ us hl => match us, hl with | [_, _], _ => rfl
  have b_what_is_left := F_what_is_left.binds (ps := ["run", "other", "at"]) fun _ _ _ _ _ _ us hl => match us, hl with | [_, _, _], _ => rfl
  have b_add_gap := F_add_gap.binds (ps := ["found", "one", "other", "many"]) fun _ _ _ _ _ _ us hl => match us, hl with | [_, _, _, _], _ => rfl
  have b_gaps := F_gaps.binds (ps := ["book"]) fun _ _ _ _ _ _ us hl => match us, hl with | [_], _ => rfl
  have b_ltape := F_ltape.binds (ps := ["_law_script"]) fun _ _ _ _ _ _ us hl => match us, hl with | [_], _ => rfl
  have b_ldraw := F_ldraw.binds (ps := ["_law_tape_here", "_law_many"]) fun _ _ _ _ _ _ us hl => match us, hl with | [_, _], _ => rfl
  have b_loffice := F_loffice.binds (ps := ["_law_tape_here"]) fun _ _ _ _ _ _ us hl => match us, hl with | [_], _ => rfl
  have b_lnames := F_lnames.binds (ps := ["_law_tape_here", "_law_many"]) fun _ _ _ _ _ _ us hl => match us, hl with | [_, _], _ => rfl
  have b_lruns := F_lruns.binds (ps := ["_law_tape_here", "_law_office_here", "_law_field_here"]) fun _ _ _ _ _ _ us hl => match us, hl with | [_, _, _], _ => rfl
  have b_lfield := F_lfield.binds (ps := ["_law_tape_here"]) fun _ _ _ _ _ _ us hl => match us, hl with | [_], _ => rfl
  have b_ldeed := F_ldeed.binds (ps := ["_law_tape_here", "_law_office_here", "_law_field_here", "_law_word", "_law_names_here", "_law_bags"]) fun _ _ _ _ _ _ us hl => match us, hl with | [_, _, _, _, _, _], _ => rfl
  have b_lbook := F_lbook.binds (ps := ["_law_tape_here", "_law_office_here", "_law_field_here", "_law_many"]) fun _ _ _ _ _ _ us hl => match us, hl with | [_, _, _, _], _ => rfl
  have b_ltold := F_ltold.binds (ps := ["_law_book_here"]) fun _ _ _ _ _ _ us hl => match us, hl with | [_], _ => rfl
  have b_lof := F_lof.binds (ps := ["_law_runs_here", "_law_note"]) fun _ _ _ _ _ _ us hl => match us, hl with | [_, _], _ => rfl
  have b_lrows := F_lrows.binds (ps := ["_law_told_here", "_law_note"]) fun _ _ _ _ _ _ us hl => match us, hl with | [_, _], _ => rfl
  have b_ldue := F_ldue.binds (ps := ["_law_office_here", "_law_field_here", "_law_book_here"]) fun _ _ _ _ _ _ us hl => match us, hl with | [_, _, _], _ => rfl
  have b_law := F_law.binds (ps := ["_law_script"]) fun _ _ _ _ _ _ us hl => match us, hl with | [_], _ => rfl
  refine ⟨d_law, fun s v => FunD.bindsA (ps := ["_law_script"]) F0_law (fun _ _ _ _ _ _ us hl => match us, hl with | [_], _ => rfl) s [v] rfl, fun base _ _ TBs => ?_⟩
  have hc_all_steps := code_of (p := ("all_steps", none)) F0_all_steps
  have TB_all_steps := TBs (He.cT K ("all_steps", none)) (List.mem_map.mpr ⟨_, by simp [tf], rfl⟩)
  have hc_many_in := code_of (p := ("many_in", none)) F0_many_in
  have TB_many_in := TBs (He.cT K ("many_in", none)) (List.mem_map.mpr ⟨_, by simp [tf], rfl⟩)
  have G_is_apart : FnOk (PySem.Challenge.rw_pressnotes_k45_gaps_told).prog w K mg base CX0 1 _ _ _ _ := ok_is_apart F_is_apart T
  have G_runs_of : FnOk (PySem.Challenge.rw_pressnotes_k45_gaps_told).prog w K mg base CX0 2 _ _ _ _ := ok_runs_of F_runs_of T F_is_apart b_is_apart (G_is_apart.mono (by decide))
  have G_many_in : FnOk (PySem.Challenge.rw_pressnotes_k45_gaps_told).prog w K mg base CX0 2 _ _ _ _ := ok_many_in F_many_in T hc_many_in TB_many_in
  have G_named_by_voids : FnOk (PySem.Challenge.rw_pressnotes_k45_gaps_told).prog w K mg base CX0 1 _ _ _ _ := ok_named_by_voids F_named_by_voids T
  have G_counted_bags : FnOk (PySem.Challenge.rw_pressnotes_k45_gaps_told).prog w K mg base CX0 2 _ _ _ _ := ok_counted_bags F_counted_bags T F_named_by_voids b_named_by_voids (G_named_by_voids.mono (by decide))
  have G_standing_of : FnOk (PySem.Challenge.rw_pressnotes_k45_gaps_told).prog w K mg base CX0 1 _ _ _ _ := ok_standing_of F_standing_of T
  have G_pages_that_are : FnOk (PySem.Challenge.rw_pressnotes_k45_gaps_told).prog w K mg base CX0 3 _ _ _ _ := ok_pages_that_are F_pages_that_are T F_named_by_voids b_named_by_voids (G_named_by_voids.mono (by decide)) F_counted_bags b_counted_bags (G_counted_bags.mono (by decide)) F_standing_of b_standing_of (G_standing_of.mono (by decide))
  have G_counted_pages : FnOk (PySem.Challenge.rw_pressnotes_k45_gaps_told).prog w K mg base CX0 4 _ _ _ _ := ok_counted_pages F_counted_pages T F_pages_that_are b_pages_that_are (G_pages_that_are.mono (by decide))
  have G_all_steps : FnOk (PySem.Challenge.rw_pressnotes_k45_gaps_told).prog w K mg base CX0 6 _ _ _ _ := ok_all_steps F_all_steps T F_counted_bags b_counted_bags (G_counted_bags.mono (by decide)) F_counted_pages b_counted_pages (G_counted_pages.mono (by decide)) hc_all_steps TB_all_steps
  have G_together : FnOk (PySem.Challenge.rw_pressnotes_k45_gaps_told).prog w K mg base CX0 3 _ _ _ _ := ok_together F_together T F_runs_of b_runs_of (G_runs_of.mono (by decide))
  have G_both : FnOk (PySem.Challenge.rw_pressnotes_k45_gaps_told).prog w K mg base CX0 1 _ _ _ _ := ok_both F_both T
  have G_what_is_left : FnOk (PySem.Challenge.rw_pressnotes_k45_gaps_told).prog w K mg base CX0 1 _ _ _ _ := ok_what_is_left F_what_is_left T
  have G_less : FnOk (PySem.Challenge.rw_pressnotes_k45_gaps_told).prog w K mg base CX0 2 _ _ _ _ := ok_less F_less T F_what_is_left b_what_is_left (G_what_is_left.mono (by decide))
  have G_add_gap : FnOk (PySem.Challenge.rw_pressnotes_k45_gaps_told).prog w K mg base CX0 1 _ _ _ _ := ok_add_gap F_add_gap T
  have G_gaps : FnOk (PySem.Challenge.rw_pressnotes_k45_gaps_told).prog w K mg base CX0 8 _ _ _ _ := ok_gaps F_gaps T F_all_steps b_all_steps (G_all_steps.mono (by decide)) F_add_gap b_add_gap (G_add_gap.mono (by decide)) F_many_in b_many_in (G_many_in.mono (by decide)) F_both b_both (G_both.mono (by decide)) F_less b_less (G_less.mono (by decide)) F_together b_together (G_together.mono (by decide))
  have G_ltape : FnOk (PySem.Challenge.rw_pressnotes_k45_gaps_told).prog w K mg base CX0 1 _ _ _ _ := ok_ltape F_ltape T
  have G_ldraw : FnOk (PySem.Challenge.rw_pressnotes_k45_gaps_told).prog w K mg base CX0 1 _ _ _ _ := ok_ldraw F_ldraw T
  have G_loffice : FnOk (PySem.Challenge.rw_pressnotes_k45_gaps_told).prog w K mg base CX0 2 _ _ _ _ := ok_loffice F_loffice T F_ldraw b_ldraw (G_ldraw.mono (by decide))
  have G_lnames : FnOk (PySem.Challenge.rw_pressnotes_k45_gaps_told).prog w K mg base CX0 2 _ _ _ _ := ok_lnames F_lnames T F_ldraw b_ldraw (G_ldraw.mono (by decide))
  have G_lruns : FnOk (PySem.Challenge.rw_pressnotes_k45_gaps_told).prog w K mg base CX0 2 _ _ _ _ := ok_lruns F_lruns T F_ldraw b_ldraw (G_ldraw.mono (by decide))
  have G_lfield : FnOk (PySem.Challenge.rw_pressnotes_k45_gaps_told).prog w K mg base CX0 2 _ _ _ _ := ok_lfield F_lfield T F_ldraw b_ldraw (G_ldraw.mono (by decide))
  have G_ldeed : FnOk (PySem.Challenge.rw_pressnotes_k45_gaps_told).prog w K mg base CX0 3 _ _ _ _ := ok_ldeed F_ldeed T F_ldraw b_ldraw (G_ldraw.mono (by decide)) F_lruns b_lruns (G_lruns.mono (by decide))
  have G_lbook : FnOk (PySem.Challenge.rw_pressnotes_k45_gaps_told).prog w K mg base CX0 4 _ _ _ _ := ok_lbook F_lbook T F_ldraw b_ldraw (G_ldraw.mono (by decide)) F_lnames b_lnames (G_lnames.mono (by decide)) F_ldeed b_ldeed (G_ldeed.mono (by decide))
  have G_ltold : FnOk (PySem.Challenge.rw_pressnotes_k45_gaps_told).prog w K mg base CX0 1 _ _ _ _ := ok_ltold F_ltold T
  have G_lof : FnOk (PySem.Challenge.rw_pressnotes_k45_gaps_told).prog w K mg base CX0 1 _ _ _ _ := ok_lof F_lof T
  have G_lrows : FnOk (PySem.Challenge.rw_pressnotes_k45_gaps_told).prog w K mg base CX0 2 _ _ _ _ := ok_lrows F_lrows T F_lof b_lof (G_lof.mono (by decide))
  have G_ldue : FnOk (PySem.Challenge.rw_pressnotes_k45_gaps_told).prog w K mg base CX0 3 _ _ _ _ := ok_ldue F_ldue T F_ltold b_ltold (G_ltold.mono (by decide)) F_lrows b_lrows (G_lrows.mono (by decide))
  exact ok_law F_law T df_all_steps_many_in F_ltape b_ltape (G_ltape.mono (by decide)) F_ldraw b_ldraw (G_ldraw.mono (by decide)) F_loffice b_loffice (G_loffice.mono (by decide)) F_lfield b_lfield (G_lfield.mono (by decide)) F_lbook b_lbook (G_lbook.mono (by decide)) F_gaps b_gaps (G_gaps.mono (by decide)) F_ldue b_ldue (G_ldue.mono (by decide))

end Pn
open PySem PySem.W PySem.Calls PyProof.Rows
set_option maxRecDepth 100000 in
set_option maxHeartbeats 0 in
theorem PySem.Challenge.cw_pressnotes_k45_gaps_told_holds : PySem.Challenge.rw_pressnotes_k45_gaps_told.Holds := by
  w_on; o_law
  refine HandSHeadRun.head_any (r := OpenLaw.row PySem.Challenge.rw_pressnotes_k45_gaps_told) (q := view (OpenLaw.row PySem.Challenge.rw_pressnotes_k45_gaps_told).prog [33]) (H := Pn.hk) (ob := Pn.ob) (M := 8000) (loose := [("is_apart" : PySem.Str), ("runs_of" : PySem.Str), ("many_in" : PySem.Str), ("named_by_voids" : PySem.Str), ("counted_bags" : PySem.Str), ("standing_of" : PySem.Str), ("pages_that_are" : PySem.Str), ("counted_pages" : PySem.Str), ("all_steps" : PySem.Str), ("together" : PySem.Str), ("both" : PySem.Str), ("less" : PySem.Str), ("what_is_left" : PySem.Str), ("add_gap" : PySem.Str), ("gaps" : PySem.Str), ("_law_tape" : PySem.Str), ("_law_draw" : PySem.Str), ("_law_office" : PySem.Str), ("_law_names" : PySem.Str), ("_law_runs" : PySem.Str), ("_law_field" : PySem.Str), ("_law_deed" : PySem.Str), ("_law_book" : PySem.Str), ("_law_told" : PySem.Str), ("_law_of" : PySem.Str), ("_law_rows" : PySem.Str), ("_law_due" : PySem.Str)]) (d := HandSHeadRun.topDef (OpenLaw.row PySem.Challenge.rw_pressnotes_k45_gaps_told).prog 33) (kwd := []) Pn.ob_eq
    (by kernel_rfl) (fun s => by kernel_rfl) Pn.run (by kernel_rfl) (by kernel_rfl) (by kernel_rfl) (by rfl) (by first | assumption | decide +kernel) (by decide +kernel) ⟨rfl, rfl, rfl, rfl, rfl, by decide +kernel⟩ ?hw ?hc
  case hw => w_witness2
  case hc =>
    refine Pn.walkGL (l := PySem.Challenge.rw_pressnotes_k45_gaps_told) (n := 63) (k := 12) (x := "_law_script") (sp := Pn.spLawL) rfl (by decide) (by kernel_rfl) ⟨rfl, by decide, by decide⟩ ?F (fun K L ts H a ns hl sq tt => ⟨a, ns, rfl, sq, tt, fun _ h => ⟨rfl, h⟩⟩)
    intro w mg fa h Y G hmg0
    obtain ⟨K, KX, c⟩ := Y
    have hmg : mg ("law" : PySem.Str) = some (.ref fa) := by
      have e : (HandSHeadRun.topDef (OpenLaw.row PySem.Challenge.rw_pressnotes_k45_gaps_told).prog 33).name = ("law" : PySem.Str) := by kernel_rfl
      rw [← e]
      exact hmg0
    obtain ⟨fd, hb, hF⟩ := Pn.facts (w := w) KX G hmg c.t.d (of_decide_eq_true c.more)
    refine ⟨K, fd, Pn.tf.map (He.cT K), (Pn.LM (He.cT K ("many_in", none)).2), KX, fun p hp => ?_, fun p hp => ?_, fun p hp => ?_, hb, hF⟩
    · obtain ⟨d, hd, rfl⟩ := List.mem_map.mp hp
      exact c.empty d hd
    · obtain ⟨d, hd, rfl⟩ := List.mem_map.mp hp
      exact c.out d hd
    · obtain ⟨d, hd, rfl⟩ := List.mem_map.mp hp
      exact PySem.W.codeHd_of_K KX (c.hd d hd)
