import PyProof.Rows.All
import Wide.All
import OpenK.AllK
import Wide.FinOn
import HandS.ForMost
import HandS.Strs
import HandS.Sort
import HandS.SortInts
import HandS.IsInst
import HandS.Zip
import HandS.Deep
import HandS.TupLe
import HandS.TupAny
import HandS.Style
import HandS.Walk
import HandS.EndBits
import KE.SortData
import HandS.More
import HandS.Codes
import HandS.Set
import HandS.SetFor
import KE.DataCmp
import KE.DataEq
import HandS.ExcInit
import HandS.ExcField
import HandS.ExcOwn
import HandS.WordsExc
import KE.KExcIs
import HandS.HeadHook1
import HandS.Small
import PyProof.GenQ
import PyProof.CodeObjX
import PyProof.ConsumeS
import HandS.GenOver
import HandS.AnyAll
import KE.KNest
import HandS.Defaults
import HandS.HeadHook2
import HandS.HeadHook3
import HandS.HeadHook4
import KE.KNestM
import HandS.Wide
import HandS.DictComp
import HandS.Lambda
import HandS.SortKw
import KE.SortKeyHeap
import KE.KLam
import KE.KDictDisplayH
import HandS.DictTup
import KE.KDictWalk
import KE.KDictSum
import KE.KDictList
import PyProof.DictTable
import HandS.Rev
import KE.GoesSet
import HandS.SetIn
import HandS.SetKeys
import PyProof.DictMoreH
import KE.KStateDown
import Lean
import HandS.Head0
import HandS.Head1
import HandS.Head2
import HandS.HeadEnd
import PySem.Challenge.RW_pressnotes_k30_balances
set_option Elab.async false
set_option linter.all false
set_option maxRecDepth 100000
set_option maxHeartbeats 4000000
namespace Pn
open PySem PySem.Spec PyProof.Rows L2
/-! ### Rules of our own: text times int, sorted of data, repr of data -/
theorem op_repS {X : Cx} : OpR X (binaryOp .Mult) (fun x y H Q => ∃ (z : Str) (n : Int), x = .str z ∧ y = .int n ∧ MulOk z n ∧ Q (.str (Txt.mul z n)) H) := by
  intro pins s σ H x y v u Q I rx ry h
  obtain ⟨z, n, rfl, rfl, ok, q⟩ := h
  obtain ⟨t, rfl⟩ := rx
  obtain ⟨t2, rfl⟩ := ry
  exact SB.mul ok fun t3 k => ⟨.str _, H, I.tok _, ⟨_, rfl⟩, q⟩
section
variable {X : Cx} {pins : List (Addr × Obj)} {σ : L2.St} {H : Hp} {s : Shared}
theorem each_rel : ∀ {ys : List V} {ds : List PyData} {us : List Value}, DpAll X.K H ys ds → Vals ys us → PySem.W.EachIs (fun (v : Value) (b : V × PyData) => RelV b.1 v) us (ys.zip ds)
  | _, _, _, .nil, .nil => .nil
  | _, _, _, .cons _ d, .cons r t => .cons r (each_rel d t)
theorem each_reads (I : Inv X pins σ H s) : ∀ {ys : List V} {ds : List PyData} {us : List Value}, DpAll X.K H ys ds → Vals ys us →
    PySem.W.EachIs (fun (v : Value) (b : V × PyData) => ∃ as, Reads s.heap v b.2 as) us (ys.zip ds)
  | _, _, _, .nil, .nil => .nil
  | _, _, _, .cons d1 d, .cons r t => .cons (Dp.reads I _ _ _ d1 r) (each_reads I d t)
theorem zip_snd : ∀ {ys : List V} {ds : List PyData}, DpAll X.K H ys ds → (ys.zip ds).map Prod.snd = ds
  | _, _, .nil => rfl
  | _, _, .cons _ d => by rw [List.zip_cons_cons, List.map_cons, zip_snd d]
theorem zip_len : ∀ {ys : List V} {ds : List PyData}, DpAll X.K H ys ds → (ys.zip ds).length = ys.length
  | _, _, .nil => rfl
  | _, _, .cons _ d => by rw [List.zip_cons_cons, List.length_cons, List.length_cons, zip_len d]
theorem vals_each : ∀ {bs : List (V × PyData)} {out : List Value}, PySem.W.EachIs (fun (v : Value) (b : V × PyData) => RelV b.1 v) out bs → Vals (bs.map Prod.fst) out
  | _, _, .nil => .nil
  | _, _, .cons r t => .cons r (vals_each t)
end
/-- what sorted makes of the values ys that read as the data ds -/
def sortD (ys : List V) (ds : List PyData) : List V := ((ys.zip ds).mergeSort (PySem.W.dataLe false Prod.snd)).map Prod.fst
def rSortedD (K : PySem.W.Frag) : List V → Hp → VK → Prop := fun xs H Q => ∃ (a : Addr) (ys : List V) (ds : List PyData), xs = [.ref a] ∧ SqL K H a ys ∧ DpAll K H ys ds ∧
  PySem.W.AllAlike ds ∧ PySem.W.Sortable ds ∧ (∀ d ∈ ds, d.depth ≤ 60) ∧ ∀ p, H p = none → Q (.ref p) (upd H p (.lst (sortD ys ds)))
theorem cr_sortedD {X : Cx} {k : Nat} (hr : Room k X.A) : CallR X (.builtin "sorted") (rSortedD X.K) := by
  intro pins s σ H vs us Q I r h
  obtain ⟨a, ys, ds, rfl, hs, hd, h1, h2, h3, q⟩ := h
  obtain ⟨its, rv, hl, hz⟩ := I.list hs
  rw [Vals.ref1 r]
  have un := hr.un
  refine PySem.W.sorted_data (enc := Prod.snd) (R := fun (v : Value) (b : V × PyData) => RelV b.1 v) (bs := ys.zip ds) hl.isList (each_rel hd rv) (each_reads I hd rv) (by rw [zip_snd hd]; exact h1) (by rw [zip_snd hd]; exact h2) (by rw [zip_len hd]; exact hz)
    (fun b hb => ?_) (fun out ho he => ?_)
  · have z := h3 b.2 (by rw [← zip_snd hd]; exact List.mem_map.mpr ⟨b, hb, rfl⟩)
    omega
  · obtain ⟨ep, he'⟩ := PyProof.Rows.sortedAll_at s.heap its out.toArray
    have rv2 := vals_each he
    have hlen : (sortD ys ds).length ≤ sizeLine := by
      unfold sortD
      rw [List.length_map, List.length_mergeSort, zip_len hd]
      exact hz
    exact ⟨.ref _, upd H (s.heap.objs.size + 1) (.lst (sortD ys ds)), I.laid (t' := s.toks) (fun _ _ => PyProof.Rows.sortedAll_old) (Nat.le_succ _) ⟨hlen, out, ep, rv2, he'⟩, rfl, q _ (I.hok.fresh (Nat.le_succ _))⟩
def rRepr (K : PySem.W.Frag) : List V → Hp → VK → Prop := fun xs H Q => ∃ (a : Addr) (d : PyData), xs = [.ref a] ∧ Dp K H (.ref a) d ∧ d.showable = true ∧ d.hasDict = false ∧ d.depth ≤ 60 ∧ d.shown.length ≤ sizeLine ∧ Q (.str d.shown) H
theorem cr_repr {X : Cx} {k : Nat} (hg : X.A.guards = some []) (hr : Room k X.A) : CallR X (.builtin "repr") (rRepr X.K) := by
  intro pins s σ H vs us Q I r h
  obtain ⟨a, d, rfl, hd, h1, h2, h3, h4, q⟩ := h
  rw [Vals.ref1 r]
  have un := hr.un
  obtain ⟨as, rd⟩ := Dp.reads I d _ _ hd rfl
  exact repr_of_reads' rd h1 (PyData.noDict_hsm h2) hg (by omega) (fun _ _ e => e) (fun h' u tk hk => ⟨.str _, H, I.kept hk, ⟨u, rfl⟩, q⟩) h4
/-- a walk over a range within a comprehension of two fors -/
theorem rng_w {lo : Int} {n : Nat} {H0 : Hp} {B : V → Hp → (Hp → Prop) → Prop} {Qd : Hp → Prop} (Pv : Nat → Hp → Prop) (h0 : Pv 0 H0)
    (hs : ∀ i H, i < n → Pv i H → B (.int (lo + i)) H (Pv (i + 1))) (hd : ∀ H, Pv n H → Qd H) :
    ∃ W : Nat → Nat → Hp → Prop, (∃ m, W 0 m H0) ∧ ∀ i m H, W i m H → ((Itr lo n).stop i H ∧ Qd H) ∨
      ((Itr lo n).go i H ∧ ∃ Nx : Hp → Prop, (∀ H', Nx H' → ∃ m', m' < m ∧ W (i + 1) m' H') ∧ ∀ x H', (Itr lo n).yld i H x H' → B x H' Nx) := by
  refine ⟨fun i m H => m + i = n ∧ Pv i H, ⟨n, rfl, h0⟩, ?_⟩
  rintro i m H ⟨e, p⟩
  by_cases c : i < n
  · refine Or.inr ⟨c, Pv (i + 1), fun H' p' => ⟨m - 1, by omega, by omega, p'⟩, fun x H' y => ?_⟩
    obtain ⟨rfl, rfl⟩ := y
    exact hs i _ c p
  · have z : i = n := by omega
    subst z
    exact Or.inl ⟨Nat.le_refl _, hd H p⟩
/-! a tuple that is known to have no dict (so that its methods can be called) -/
def Tpl (o : Obj) : Prop := o.cls = .type "tuple" ∧ o.dict = none
def tTupF (t : TA) : TE := fun σ H Q => t σ H fun xs H1 => xs.length ≤ sizeLine ∧ ∀ p o, H1 p = none → Tpl o → Q (.ref p) (upd H1 p (.frz o (.tup xs)))
theorem pe_tupF {X : Cx} {es : List Expr} {t : TA} {pos : Pos} {x1} (h : PA X es t) : PE X (.Tuple es x1 pos) (tTupF t) := by
  constructor
  intro pins s σ H Q I hq
  refine wpAny_Tuple_spliced (thn (h.run pos pins s σ H _ I hq) ?_)
  rintro us s1 ⟨xs, H1, I1, r, z, q⟩
  refine ⟨by rw [← r.length]; exact z, ?_⟩
  have new : (s1.heap.push { cls := .type "tuple", data := .seq us.toArray }).get? s1.heap.objs.size = some { cls := .type "tuple", data := .seq us.toArray } := Heap.get?_push_size _ rfl
  exact ⟨.ref s1.heap.objs.size, upd H1 _ (.frz { cls := .type "tuple", data := .seq us.toArray } (.tup xs)), I1.laid (t' := s1.toks) (fun _ _ e => Heap.get?_push_of_some _ e) (Nat.le_refl _) ⟨new, z, us, r, _, new, rfl, _, rfl⟩, rfl,
    q _ _ (I1.hok.fresh (Nat.le_refl _)) ⟨rfl, rfl⟩⟩
def tBMF (r : V → List V → Hp → VK → Prop) (to : TE) (t : TA) : TE := fun σ H Q => to σ H fun x H1 => (∃ p o u, x = .ref p ∧ H1 p = some (.frz o u) ∧ Tpl o) ∧ t σ H1 fun xs H2 => r x xs H2 Q
theorem pe_bmF {X : Cx} {o e : Expr} {es : List Expr} {to : TE} {t : TA} {name : Str} {apos cpos : Pos} {id : String} {r : V → List V → Hp → VK → Prop}
    (pa : PlainAttrs "tuple") (slot : Slot "tuple" name id) (hty : typeOf (.builtin id) = pure (.type "method_descriptor")) (hm : MtR X id r) (ho : PE X o to) (ha : PA X (e :: es) t)
    (hb : attributeBase o name X.env (eval o X.env) = eval o X.env := by rfl)
    (hf : ((backTo cpos (starEach (e :: es) X.env)).all (fun x => !x.1) && (backToKw cpos (keywordEach [] X.env)).all (fun x => x.1.isSome) && decide ((e :: es).length + ([] : List Keyword).length + (if ([] : List Keyword).isEmpty then 0 else 1) < 30)) = true := by rfl)
    (hl : (apos.endLine == cpos.line) = true := by rfl) (hs : starEach (e :: es) X.env = (false, eval e X.env) :: starEach es X.env := by rfl) (hp : (backTo cpos (starEach es X.env)).any (·.1) = false := by rfl) :
    PE X (.Call (.Attribute o name apos) (e :: es) [] cpos) (tBMF r to t) := by
  constructor
  intro pins s σ H Q I h
  refine wpAny_Call_method_late hb hf hl rfl (thn (ho.run pins s σ H _ I h) ?_)
  rintro v s1 ⟨x, H1, I1, r1, ⟨p, ob, u, rfl, hfz, hc, hd⟩, q1⟩
  obtain rfl : v = .ref p := r1
  obtain ⟨at1, _⟩ := I1.hok p _ hfz
  refine ⟨"tuple", id, pa, slot, hty, ⟨ob, at1, hc⟩, fun a e => by cases e; exact ⟨ob, at1, hd⟩, ?_⟩
  have run := ha.run cpos pins s1 σ H1 _ I1 q1
  rw [hs] at run ⊢
  refine Calls.callWith_builtin (by show (false || (backTo cpos (starEach es X.env)).any (·.1)) = false; rw [hp]; rfl) (Calls.evalArgs_plain ?_)
  exact thn run fun us s2 ⟨vs, H2, I2, r2, q2⟩ => hm pins s2 σ H2 (.ref p) vs (.ref p) us Q I2 rfl r2 q2
/-! ### A def that is run where no repr is under way, and a law's end over it -/
structure FnG (P : Program) (w : World) (K : PySem.W.Frag) (mg : Str → Option Value) (base : Heap) (k : Nat) (f : Addr)
    (fd : FuncData) (ps : List Str) (sp : Sp) : Prop where
  len : ∀ vs H Q E, sp vs H Q E → vs.length = ps.length
  run : ∀ (A : Around) (outer : List Env) (s : Shared) (H : Hp) (args : Args) (us : List Value) (vs : List V) (Q : VK) (E : XK),
    Room k A → A.guards = some [] → Env0 P w K mg base A outer s H → BindsTo s fd args (ps.zip us) → Vals vs us → sp vs H Q E →
    codeAny (model P w) A (.call (.ref f) args) (CR CX0 outer P w H s Q E) s
section
variable {P : Program} {w : World} {K : PySem.W.Frag} {mg : Str → Option Value} {base : Heap}
/-- a body's walk, told that no repr is under way -/
theorem okG {x qual : Str} {st : Stmt} {f : Addr} {fd : FuncData} {N ps : List Str} {k : Nat} {sp : Sp}
    (F : Fun K x qual st f fd) (S : FnScope N ps (defScope st)) (hlen : ∀ vs H Q E, sp vs H Q E → vs.length = ps.length)
    (hb : ∀ (cdv : Value) (A : Around) (outer : List Env) (s : Shared) (H : Hp) (vs : List V) (Q : VK) (E : XK),
      Room k (A.deeper (envOfC qual (defScope st) s.heap.objs.size f cdv)) → (A.deeper (envOfC qual (defScope st) s.heap.objs.size f cdv)).guards = some [] →
      sp vs H Q E → ∃ t, PSs (cxOf CX0 P w K mg base N qual (defScope st) f cdv A outer s H E).nox (defBody st) t ∧
        t { nx := fun _ H' => Q .non H', rt := Q } (start N vs) H) : FnG P w K mg base (k + 1) f fd ps sp := by
  obtain ⟨oc, od, kV, doc, pm, an, cdv, ct, osl, rfl, lk, hcd⟩ := F.ex
  refine ⟨hlen, fun A outer s H args us vs Q E room gu e0 bind rel wish => ?_⟩
  have lv := hlen _ _ _ _ wish
  have old : ∀ b o, base.get? b = some o → s.heap.get? b = some o := fun b o e => (e0.bs b o e).1
  have inK : K.In s.heap := e0.mod.kin.keeps old
  refine codeAny_call_function room.depth (inK _ _ lk) rfl S.co S.gen rfl (PySem.W.codeRec_of inK hcd) (bind _ _ _ _ ?_)
  refine wpAny_newFunctionEnv_cells S.kind (fun y hy => ?_) fun env ee s1 x1 => ?_
  · obtain ⟨n, v⟩ := y
    cases S.par n (List.of_mem_zip hy).1 with
    | inl q => exact Or.inl q
    | inr q => exact Or.inr ⟨q, PySem.W.cellsFrom_some _ _ _ (Or.inl q)⟩
  subst ee
  refine ⟨(e0.mod.nolimit.keeps old).keeps x1.toInCall.keep, codeAny_func ?_⟩
  obtain ⟨t, ht, hq⟩ := hb cdv A outer s H vs Q E (room.deeper _) gu wish
  have I0 := inv_start (CX := CX0) (E := E) S room.hd e0 lv rel x1
  refine wpAny_mono (ht.nox.run [] s1 (start N vs) H _ I0 hq) (fun fl s2 hs => ?_) fun _ _ z => z
  cases fl with
  | ret u =>
    obtain ⟨v, σ2, H2, J, rv, q⟩ := hs
    exact ⟨v, H2, J.os, J.bare, J.base, J.hok, rv, q⟩
  | next =>
    obtain ⟨σ2, H2, J, q⟩ := hs
    exact ⟨.non, H2, J.os, J.bare, J.base, J.hok, rfl, q⟩
  | brk => exact hs.choose_spec.choose_spec.2.elim
  | cont => exact hs.choose_spec.choose_spec.2.elim
end
section
variable {P : Program} {w : World} {K : PySem.W.Frag} {mg mb : Str → Option Value} {k : Nat} {fa a : Addr} {fd : FuncData} {x : Str} {sp : Sp} {s1 : Shared} {vs : List Value} {ns : List Int}
/-- what the caller is told of the law's call -/
def Told (s1 : Shared) (r : Result) (s' : Shared) : Prop := r = .ok (.ret (.bool true)) ∧ OldK s1.heap s'.heap ∧ s'.os = s1.os ∧ AllBare s'.gens
theorem told_from (H : Hp) (kin : K.In s1.heap) (glob : s1.heap.Ns mainGlobals mg) (blt : s1.heap.Ns builtinsNs mb) (same : ∀ y : Str, y ≠ "__name__" → mb y = bootBuiltins y) (lim : s1.heap.NoLimit) (bare : s1.gens = #[])
    (obj : s1.heap.get? a = some { cls := .type "list", data := .seq vs.toArray }) (room : Room k callerA)
    (F : ∀ base : Heap, K.In base → base.Ns mainGlobals mg → FnG P w K mg base k fa fd [x] sp) (bind : ∀ (s : Shared) (u : Value), BindsTo s fd ⟨[u], []⟩ [(x, u)])
    (only : Only H) (wish : sp [.ref a] H (fun v _ => v = .bl true) fun _ _ _ => False) (hok : HOk P w H s1.heap) (self : ∀ b u, H b = some u → b = a ∧ K.lookup a = none) :
    codeAny (model P w) callerA (.call (.ref fa) ⟨[.ref a], []⟩) (Told s1) s1 := by
  have free : ∀ b, (b ≠ a ∨ K.lookup a ≠ none) → H b = none := fun b hb => by
    cases e : H b with
    | none => rfl
    | some u =>
      obtain ⟨e1, e2⟩ := self b u e
      cases hb with
      | inl n => exact absurd e1 n
      | inr n => exact absurd e2 n
  have nsB : ∀ {b : Addr} {m : Str → Option Value}, s1.heap.Ns b m → (hidT s1.heap H).Ns b m := by
    rintro b m ⟨o, es, ep, e, d, r⟩
    refine ⟨o, es, ep, hidT_get e (free b (Or.inl fun z => ?_)), d, r⟩
    subst z
    rw [obj] at e
    cases e
    exact nomatch d
  have kinB : K.In (hidT s1.heap H) := fun b o e => by
    refine hidT_get (kin b o e) ?_
    by_cases z : b = a
    · subst z
      exact free b (Or.inr (by rw [e]; exact fun q => nomatch q))
    · exact free b (Or.inl z)
  have limB : (hidT s1.heap H).NoLimit := by
    obtain ⟨mc, h1, h2⟩ := lim
    exact ⟨mc, nsB h1, h2⟩
  have env : Env0 P w K mg (hidT s1.heap H) callerA [] s1 H :=
    { frames := rfl, mod := ⟨kinB, nsB glob, ⟨mb, nsB blt, same⟩, limB⟩, bs := fun _ _ e => of_hidT e, bsz := Nat.le_of_eq (hidT_size _ _), funs := trivial,
      frf := fun b z => (List.not_mem_nil (show b ∈ ([] : List Addr) from z)).elim, hok := hok, bare := .of_eq bare }
  refine codeAny_mono ((F _ kinB (nsB glob)).run callerA [] s1 H ⟨[.ref a], []⟩ [.ref a] [.ref a] _ _ room rfl env (bind s1 _) (.cons rfl .nil) wish) ?_
  rintro (e | fl) s2 h
  · exact (show False from h).elim
  · cases fl with
    | ret u =>
      obtain ⟨v, H2, os2, bare2, un, hok2, rel, q⟩ := h
      have q : v = V.bl true := q
      subst q
      obtain rfl : u = Value.bool true := rel
      refine ⟨rfl, OldK.of_keep fun b o e => ?_, os2, bare2⟩
      cases z : H b with
      | none => exact un.keep b o e z (fun y => List.not_mem_nil (show b ∈ ([] : List Addr) from y)) List.not_mem_nil
      | some u =>
        obtain y | ⟨ob, xs, y⟩ := only b
        · rw [z] at y
          cases y
        · obtain ⟨g1, _⟩ := hok b _ y
          obtain ⟨g2, _⟩ := hok2 b _ (un.frzs b ob _ y)
          rw [e] at g1
          cases g1
          exact g2
    | next => exact h.elim
    | brk => exact h.elim
    | cont => exact h.elim
theorem told_law (kin : K.In s1.heap) (glob : s1.heap.Ns mainGlobals mg) (blt : s1.heap.Ns builtinsNs mb) (same : ∀ y : Str, y ≠ "__name__" → mb y = bootBuiltins y) (lim : s1.heap.NoLimit) (bare : s1.gens = #[])
    (obj : s1.heap.get? a = some { cls := .type "list", data := .seq vs.toArray }) (are : IntsAre vs ns) (long : ns.length ≤ sizeLine) (room : Room k callerA)
    (F : ∀ base : Heap, K.In base → base.Ns mainGlobals mg → FnG P w K mg base k fa fd [x] sp) (bind : ∀ (s : Shared) (u : Value), BindsTo s fd ⟨[u], []⟩ [(x, u)])
    (wish : ∀ H : Hp, SqL K H a (ns.map V.int) → sp [.ref a] H (fun v _ => v = .bl true) fun _ _ _ => False) :
    codeAny (model P w) callerA (.call (.ref fa) ⟨[.ref a], []⟩) (Told s1) s1 := by
  have rv := vals_ints are
  have nl := are.length
  cases hk : K.lookup a with
  | some o =>
    have e := kin a o hk
    rw [obj] at e
    cases e
    have sq : SqL K (fun _ => none) a (ns.map V.int) := Or.inr ⟨_, vs.toArray, _, hk, rfl, rfl, rfl, by rw [List.size_toArray, nl]; exact long, by simpa using rv⟩
    exact told_from (fun _ => none) kin glob blt same lim bare obj room F bind (fun _ => Or.inl rfl) (wish _ sq) (fun _ _ z => nomatch z) fun _ _ z => nomatch z
  | none =>
    have h1 : upd (fun _ => none) a (.frz { cls := .type "list", data := .seq vs.toArray } (.lst (ns.map V.int))) a = some (.frz { cls := .type "list", data := .seq vs.toArray } (.lst (ns.map V.int))) := upd_same
    have at_ : ∀ b u, upd (fun _ => none) a (.frz { cls := .type "list", data := .seq vs.toArray } (.lst (ns.map V.int))) b = some u → b = a ∧ u = .frz { cls := .type "list", data := .seq vs.toArray } (.lst (ns.map V.int)) := fun b u z => by
      by_cases e : b = a
      · subst e
        rw [h1] at z
        exact ⟨rfl, (Option.some.inj z).symm⟩
      · rw [upd_ne e] at z
        exact nomatch z
    refine told_from _ kin glob blt same lim bare obj room F bind (fun b => ?_) (wish _ (Or.inl (Or.inr ⟨_, h1⟩))) (fun b u z => ?_) fun b u z => ⟨(at_ b u z).1, hk⟩
    · by_cases e : b = a
      · rw [e, h1]
        exact Or.inr ⟨_, _, rfl⟩
      · exact Or.inl (upd_ne e)
    · obtain ⟨e1, e2⟩ := at_ b u z
      subst e1
      subst e2
      exact ⟨obj, by rw [List.length_map]; exact long, vs, _, rv, obj⟩
end
/-- a law's end, its def told that no repr is under way -/
theorem walkG {l : PySem.W.OpenLaw} {n k : Nat} {q : Program} {loose : List Str} {XP : (Str → Option Value) → Heap → Prop} {YP : World → Heap → Prop} {d : DefRec} {x : Str} {sp : PySem.W.Frag → Sp}
    (hn : l.most = some n) (hn2 : n ≤ sizeLine) (hdf : d.params.defaults = []) (hr : Room k callerA)
    (F : ∀ (w : World) (mg : Str → Option Value) (fa : Addr) (h : Heap), YP w h → h.Ns mainGlobals mg → mg d.name = some (.ref fa) →
      ∃ (K : PySem.W.Frag) (fd : FuncData), K.In h ∧ (∀ (s : Shared) (u : Value), BindsTo s fd ⟨[u], []⟩ [(x, u)]) ∧
        ∀ base : Heap, K.In base → base.Ns mainGlobals mg → FnG l.prog w K mg base k fa fd [x] (sp K))
    (hsp : ∀ (K : PySem.W.Frag) (H : Hp) (a : Addr) (ns : List Int), ns.length ≤ n → SqL K H a (ns.map V.int) → sp K [.ref a] H (fun v _ => v = .bl true) fun _ _ _ => False) :
    PySem.W.WalkO q loose XP YP l.row.toRowW d [] (fun f vs => PySem.call f vs) := by
  refine Att.attach_call hn hdf fun w s0 s1 mg mb fa o pm cd doc a vs ns G Y ho hd hcd hmg hobj hints hlen hg => ?_
  obtain ⟨K, fd, kin, hb, hF⟩ := F w mg fa _ Y G.T.g hmg
  exact told_law kin G.T.g G.T.b G.T.builtins G.T.nolimit hg hobj hints (Nat.le_trans hlen hn2) hr hF hb fun H sq => hsp K H a ns hlen sq

theorem mod_lo (x y : Int) (h : 0 < y) : 0 ≤ x.fmod y := Int.fmod_nonneg_of_pos _ h
theorem mod_hi (x y : Int) (h : 0 < y) : x.fmod y < y := Int.fmod_lt_of_pos _ h
/-- the feed at f: its cells, a counter of at most n, what is left of a great number -/
def Fd (H : Hp) (f c : Addr) (n : Int) : Prop := ∃ (cells : List Int) (at_ g : Int),
  H f = some (.lst [.ref c, .int at_, .int g]) ∧ H c = some (.lst (cells.map V.int)) ∧ cells.length ≤ 63 ∧ 0 ≤ at_ ∧ at_ ≤ n
theorem fd_ne {H : Hp} {f c : Addr} {cells : List Int} {a g : Int} (hf : H f = some (.lst [.ref c, .int a, .int g])) (hc : H c = some (.lst (cells.map V.int))) : c ≠ f := by
  refine ne_of hc hf fun z => ?_
  have z := HO.lst.inj z
  cases cells with
  | nil => cases z
  | cons x r => rw [List.map_cons] at z; cases z
theorem at_mod {cells : List Int} (a : Int) (h : 0 < cells.length) : ∃ v, atI (cells.map V.int) (a.fmod (((cells.map V.int).length : Nat) : Int)) = some (.int v) := by
  have hp : (0 : Int) < (((cells.map V.int).length : Nat) : Int) := by rw [List.length_map]; omega
  have h1 := mod_lo a _ hp
  have h2 := mod_hi a _ hp
  rw [List.length_map] at h1 h2 ⊢
  obtain ⟨k, hk⟩ : ∃ k : Nat, a.fmod ((cells.length : Nat) : Int) = (k : Int) := ⟨(a.fmod ((cells.length : Nat) : Int)).toNat, by omega⟩
  rw [hk] at h2 ⊢
  have hk2 : k < cells.length := by omega
  exact ⟨cells[k], atI_nat (by rw [List.getElem?_map, List.getElem?_eq_getElem hk2] <;> rfl)⟩
/-- what drawing leaves: all but the feed as it was -/
def But (f : Addr) (H H' : Hp) : Prop := ∀ a o, a ≠ f → H a = some o → H' a = some o
theorem But.refl (f : Addr) (H : Hp) : But f H H := fun _ _ _ h => h
theorem But.trans {f : Addr} {H H1 H2 : Hp} (a : But f H H1) (b : But f H1 H2) : But f H H2 := fun x o n h => b x o n (a x o n h)
theorem But.of_same {f : Addr} {H H' : Hp} (s : Same H H') : But f H H' := fun a o _ h => s a o h
theorem But.new {f : Addr} {H : Hp} {p : Addr} {o : HO} (h : H p = none) : But f H (upd H p o) := fun a u _ e => by
  rw [upd_ne (ne_of_none e h)]; exact e
theorem same_new {H : Hp} {p : Addr} (h : H p = none) (o : HO) : Same H (upd H p o) := fun b u q => by rw [upd_ne (ne_of_none q h)]; exact q
theorem But.feed {f : Addr} {H : Hp} {o : HO} : But f H (upd H f o) := fun a u n e => (upd_ne n).trans e
theorem Fd.mono {H : Hp} {f c : Addr} {n m : Int} (h : Fd H f c n) (l : n ≤ m) : Fd H f c m := by
  obtain ⟨cells, a, g, h1, h2, h3, h4, h5⟩ := h
  exact ⟨cells, a, g, h1, h2, h3, h4, by omega⟩
theorem Fd.same {H H' : Hp} {f c : Addr} {n : Int} (h : Fd H f c n) (s : Same H H') : Fd H' f c n := by
  obtain ⟨cells, a, g, h1, h2, h3⟩ := h
  exact ⟨cells, a, g, s _ _ h1, s _ _ h2, h3⟩
theorem Fd.new {H : Hp} {f c p : Addr} {n : Int} {o : HO} (h : Fd H f c n) (hp : H p = none) : Fd (upd H p o) f c n := h.same (same_new hp o)
theorem Fd.at {H : Hp} {f c : Addr} {n : Int} (h : Fd H f c n) : ∃ xs, H f = some (.lst xs) := by
  obtain ⟨cells, a, g, h1, _⟩ := h
  exact ⟨_, h1⟩
theorem Fd.cell {H : Hp} {f c : Addr} {n : Int} (h : Fd H f c n) : ∃ xs, H c = some (.lst xs) := by
  obtain ⟨cells, a, g, h1, h2, _⟩ := h
  exact ⟨_, h2⟩
theorem Fd.ne {H : Hp} {f c l : Addr} {n : Int} (h : Fd H f c n) (hl : H l = none) : l ≠ f ∧ l ≠ c := by
  obtain ⟨xs, h1⟩ := h.at
  obtain ⟨ys, h2⟩ := h.cell
  exact ⟨Ne.symm (ne_of_none h1 hl), Ne.symm (ne_of_none h2 hl)⟩
theorem Fd.upd {H : Hp} {f c l : Addr} {n : Int} {o : HO} (h : Fd H f c n) (e : l ≠ f ∧ l ≠ c) : Fd (upd H l o) f c n := by
  obtain ⟨cells, a, g, h1, h2, h3⟩ := h
  exact ⟨cells, a, g, (upd_ne (Ne.symm e.1)).trans h1, (upd_ne (Ne.symm e.2)).trans h2, h3⟩
theorem But.mut {f : Addr} {H H' : Hp} {l : Addr} {o : HO} (b : But f H H') (hl : H l = none) : But f H (upd H' l o) := fun a u n e => by
  rw [upd_ne (ne_of_none e hl)]
  exact b a u n e
theorem But.back {f c : Addr} {H H' : Hp} {t : Addr} {n : Int} (b : But f H H') (hf : Fd H' f c n) (ht : H' t = none) : H t = none := by
  cases e : H t with
  | none => rfl
  | some o =>
    have ne : t ≠ f := (hf.ne ht).1
    rw [b t o ne e] at ht
    cases ht
theorem same_mut {H H' : Hp} {l : Addr} {o : HO} (s : Same H H') (hl : H l = none) : Same H (upd H' l o) := fun b u q => by
  rw [upd_ne (ne_of_none q hl)]
  exact s _ _ q
theorem cut_take (xs : List V) (n : Nat) : cutV xs none (some (n : Int)) = xs.take n := by
  unfold cutV
  rw [HT.sIx_nat, HT.sIx_none, List.drop_zero, Nat.sub_zero]
  rw [List.take_eq_take_iff]
  omega
theorem free_of {H : Hp} {a b : Addr} {o : HO} (h : upd H a o b = none) : H b = none := by
  by_cases e : b = a
  · subst e
    rw [upd_same] at h
    cases h
  · rw [upd_ne e] at h
    exact h
def spDraw : Sp := fun vs H Q _ => ∃ (f c : Addr) (m n : Int), vs = [.ref f, .int m] ∧ Fd H f c n ∧ n ≤ 1000000 ∧ 0 < m ∧ m ≤ 1000000000 ∧
  ∀ (d : Int) (H' : Hp), 0 ≤ d → d < m → Fd H' f c (n + 1) → But f H H' → (∀ a, H a = none → H' a = none) → Q (.int d) H'
def spFeed (K : PySem.W.Frag) : Sp := fun vs H Q _ => ∃ (a : Addr) (ns : List Int), vs = [.ref a] ∧ SqL K H a (ns.map V.int) ∧
  ∀ (f c : Addr) (H' : Hp), H f = none → Same H H' → Fd H' f c 0 → Q (.ref f) H'
/-! ### Data that is alike -/
def flatD : PyData → Bool
  | .none => true
  | .bool _ => true
  | .int _ => true
  | .str _ => true
  | _ => false
/-- data of at most n lists or tuples within one another, none of more than 100,000 -/
def Nice : Nat → PyData → Prop
  | 0, d => flatD d = true
  | n + 1, d => flatD d = true ∨ ∃ ds, (d = .list ds ∨ d = .tuple ds) ∧ ds.length ≤ 100000 ∧ ∀ e ∈ ds, Nice n e
theorem Nice.flat {n : Nat} {d : PyData} (h : flatD d = true) : Nice n d := by
  cases n with
  | zero => exact h
  | succ n => exact Or.inl h
theorem kit2 {K : PySem.W.Frag} {t c1 c2 : Value} {b1 b2 : Bool} (h1 : PySem.W.kitOne K t c1 = some b1) (h2 : PySem.W.kitOne K t c2 = some b2) : PySem.W.kitAny K t [c1, c2] = some (b1 || b2) := by
  unfold PySem.W.kitAny PySem.W.kitAny PySem.W.kitAny
  rw [h1, h2]
  cases b1 <;> cases b2 <;> rfl
theorem k_NoneType_tuple {K : PySem.W.Frag} : PySem.W.kitOne K (.type "NoneType") (.type "tuple") = some false := kit_ty (by decide +kernel)
theorem k_NoneType_list {K : PySem.W.Frag} : PySem.W.kitOne K (.type "NoneType") (.type "list") = some false := kit_ty (by decide +kernel)
theorem k_NoneType_bool {K : PySem.W.Frag} : PySem.W.kitOne K (.type "NoneType") (.type "bool") = some false := kit_ty (by decide +kernel)
theorem k_NoneType_str {K : PySem.W.Frag} : PySem.W.kitOne K (.type "NoneType") (.type "str") = some false := kit_ty (by decide +kernel)
theorem k_NoneType_int {K : PySem.W.Frag} : PySem.W.kitOne K (.type "NoneType") (.type "int") = some false := kit_ty (by decide +kernel)
theorem k_bool_tuple {K : PySem.W.Frag} : PySem.W.kitOne K (.type "bool") (.type "tuple") = some false := kit_ty (by decide +kernel)
theorem k_bool_list {K : PySem.W.Frag} : PySem.W.kitOne K (.type "bool") (.type "list") = some false := kit_ty (by decide +kernel)
theorem k_bool_bool {K : PySem.W.Frag} : PySem.W.kitOne K (.type "bool") (.type "bool") = some true := kit_ty (by decide +kernel)
theorem k_bool_str {K : PySem.W.Frag} : PySem.W.kitOne K (.type "bool") (.type "str") = some false := kit_ty (by decide +kernel)
theorem k_bool_int {K : PySem.W.Frag} : PySem.W.kitOne K (.type "bool") (.type "int") = some true := kit_ty (by decide +kernel)
theorem k_int_tuple {K : PySem.W.Frag} : PySem.W.kitOne K (.type "int") (.type "tuple") = some false := kit_ty (by decide +kernel)
theorem k_int_list {K : PySem.W.Frag} : PySem.W.kitOne K (.type "int") (.type "list") = some false := kit_ty (by decide +kernel)
theorem k_int_bool {K : PySem.W.Frag} : PySem.W.kitOne K (.type "int") (.type "bool") = some false := kit_ty (by decide +kernel)
theorem k_int_str {K : PySem.W.Frag} : PySem.W.kitOne K (.type "int") (.type "str") = some false := kit_ty (by decide +kernel)
theorem k_int_int {K : PySem.W.Frag} : PySem.W.kitOne K (.type "int") (.type "int") = some true := kit_ty (by decide +kernel)
theorem k_str_tuple {K : PySem.W.Frag} : PySem.W.kitOne K (.type "str") (.type "tuple") = some false := kit_ty (by decide +kernel)
theorem k_str_list {K : PySem.W.Frag} : PySem.W.kitOne K (.type "str") (.type "list") = some false := kit_ty (by decide +kernel)
theorem k_str_bool {K : PySem.W.Frag} : PySem.W.kitOne K (.type "str") (.type "bool") = some false := kit_ty (by decide +kernel)
theorem k_str_str {K : PySem.W.Frag} : PySem.W.kitOne K (.type "str") (.type "str") = some true := kit_ty (by decide +kernel)
theorem k_str_int {K : PySem.W.Frag} : PySem.W.kitOne K (.type "str") (.type "int") = some false := kit_ty (by decide +kernel)
theorem k_list_tuple {K : PySem.W.Frag} : PySem.W.kitOne K (.type "list") (.type "tuple") = some false := kit_ty (by decide +kernel)
theorem k_list_list {K : PySem.W.Frag} : PySem.W.kitOne K (.type "list") (.type "list") = some true := kit_ty (by decide +kernel)
theorem k_list_bool {K : PySem.W.Frag} : PySem.W.kitOne K (.type "list") (.type "bool") = some false := kit_ty (by decide +kernel)
theorem k_list_str {K : PySem.W.Frag} : PySem.W.kitOne K (.type "list") (.type "str") = some false := kit_ty (by decide +kernel)
theorem k_list_int {K : PySem.W.Frag} : PySem.W.kitOne K (.type "list") (.type "int") = some false := kit_ty (by decide +kernel)
theorem k_tuple_tuple {K : PySem.W.Frag} : PySem.W.kitOne K (.type "tuple") (.type "tuple") = some true := kit_ty (by decide +kernel)
theorem k_tuple_list {K : PySem.W.Frag} : PySem.W.kitOne K (.type "tuple") (.type "list") = some false := kit_ty (by decide +kernel)
theorem k_tuple_bool {K : PySem.W.Frag} : PySem.W.kitOne K (.type "tuple") (.type "bool") = some false := kit_ty (by decide +kernel)
theorem k_tuple_str {K : PySem.W.Frag} : PySem.W.kitOne K (.type "tuple") (.type "str") = some false := kit_ty (by decide +kernel)
theorem k_tuple_int {K : PySem.W.Frag} : PySem.W.kitOne K (.type "tuple") (.type "int") = some false := kit_ty (by decide +kernel)
def tyD : PyData → String
  | .none => "NoneType"
  | .bool _ => "bool"
  | .int _ => "int"
  | .str _ => "str"
  | .list _ => "list"
  | .tuple _ => "tuple"
  | _ => "object"
theorem ty_of {K : PySem.W.Frag} {H : Hp} {v : V} {d : PyData} (h : Dp K H v d) : TyX K H v (.type (tyD d)) := by
  cases h with
  | non => exact .base .non
  | bl b => exact .base (.bl b)
  | int i => exact .base (.int i)
  | str x => exact .base (.str x)
  | lst s _ =>
    rcases s with (e | ⟨o, e⟩) | ⟨o, its, n, e, c, _⟩
    · exact .base (.lst e)
    · exact .base (.frz e)
    · exact .kList e c
  | tup s _ =>
    rcases s with (e | ⟨o, e⟩) | ⟨o, its, n, e, c, _⟩
    · exact .base (.tup e)
    · exact .fTuple e
    · exact .kTuple e c
theorem SqL.sm {K : PySem.W.Frag} {H H' : Hp} {a : Addr} {xs : List V} (e : Same H H') (h : SqL K H a xs) : SqL K H' a xs := e.seq h
theorem SqT.sm {K : PySem.W.Frag} {H H' : Hp} {a : Addr} {xs : List V} (e : Same H H') (h : SqT K H a xs) : SqT K H' a xs := by
  rcases h with (h | ⟨o, h⟩) | h
  · exact Or.inl (Or.inl (e _ _ h))
  · exact Or.inl (Or.inr ⟨o, e _ _ h⟩)
  · exact Or.inr h
mutual
theorem Dp.sm {K : PySem.W.Frag} {H H' : Hp} (e : Same H H') : ∀ {v : V} {d : PyData}, Dp K H v d → Dp K H' v d
  | _, _, .non => .non
  | _, _, .bl b => .bl b
  | _, _, .int i => .int i
  | _, _, .str x => .str x
  | _, _, .lst s a => .lst (SqL.sm e s) (DpAll.sm e a)
  | _, _, .tup s a => .tup (SqT.sm e s) (DpAll.sm e a)
theorem DpAll.sm {K : PySem.W.Frag} {H H' : Hp} (e : Same H H') : ∀ {vs : List V} {ds : List PyData}, DpAll K H vs ds → DpAll K H' vs ds
  | _, _, .nil => .nil
  | _, _, .cons a b => .cons (Dp.sm e a) (DpAll.sm e b)
end
theorem DpAll.len {K : PySem.W.Frag} {H : Hp} : ∀ {vs : List V} {ds : List PyData}, DpAll K H vs ds → vs.length = ds.length
  | _, _, .nil => rfl
  | _, _, .cons _ b => congrArg (· + 1) (DpAll.len b)
theorem DpAll.get {K : PySem.W.Frag} {H : Hp} : ∀ {vs : List V} {ds : List PyData} {i : Nat} {v : V}, DpAll K H vs ds → vs[i]? = some v → ∃ d, ds[i]? = some d ∧ Dp K H v d
  | _, _, 0, _, .cons a _, h => by
    cases h
    exact ⟨_, rfl, a⟩
  | _, _, i + 1, v, .cons _ b, h => DpAll.get (i := i) (v := v) b h
theorem walk_zt {K : PySem.W.Frag} {a b : Addr} {xs ys : List V} (hl : xs.length = ys.length) : Walk (RZ.ItzT K a b) xs.length (fun H => SqT K H a xs ∧ SqT K H b ys) (YPair (fun i => xs[i]?) (fun i => ys[i]?)) := by
  refine ⟨fun i H hi q => ?_, fun H q => ⟨xs, ys, q.1, q.2, Or.inl (Nat.le_refl _)⟩, fun i H v H' hi q y => ?_⟩
  · exact ⟨xs, ys, xs[i], ys[i]'(by omega), q.1, q.2, List.getElem?_eq_getElem hi, List.getElem?_eq_getElem (by omega)⟩
  · obtain ⟨T, x, y, h1, h2, h3, h4, h5⟩ := y
    exact ⟨T, x, y, h1, h2, h3, h4 xs q.1, h5 ys q.2⟩
/-- alike(x, y), x and y the same data -/
def spAlike (K : PySem.W.Frag) : Nat → Sp
  | 0 => fun _ _ _ _ => False
  | n + 1 => fun vs H Q _ => ∃ (x y : V) (d : PyData), vs = [x, y] ∧ Dp K H x d ∧ Dp K H y d ∧ Nice n d ∧ ∀ H', Same H H' → Q (.bl true) H'
theorem alike_none {P : Program} {w : World} {K : PySem.W.Frag} {mg : Str → Option Value} {base : Heap} {k : Nat} {f : Addr} {fd : FuncData} {ps : List Str} : FnOk P w K mg base CX0 k f fd ps (spAlike K 0) :=
  ⟨fun _ _ _ _ h => h.elim, fun _ _ _ _ _ _ _ _ _ _ _ _ _ h => h.elim⟩
/-! ### Printings -/
inductive Wd where | sh | ro | co
  deriving DecidableEq
def Wd.s : Wd → Str
  | .sh => "sheet"
  | .ro => "row"
  | .co => "column"
structure Prt where
  series : Str
  first : Int
  cols : Int
  rows : Int
  sheets : Int
  o1 : Wd
  o2 : Wd
  o3 : Wd
def Prt.size (p : Prt) : Wd → Int
  | .sh => p.sheets
  | .ro => p.rows
  | .co => p.cols
def seatW (s r c : Int) : Wd → Int
  | .sh => s
  | .ro => r
  | .co => c
def Prt.num (p : Prt) (s r c : Int) : Int := p.first + ((seatW s r c p.o1 * p.size p.o2 + seatW s r c p.o2) * p.size p.o3 + seatW s r c p.o3)
structure PrOk (p : Prt) : Prop where
  len : p.series.length ≤ 8
  f0 : 0 ≤ p.first
  c1 : 1 ≤ p.cols
  c2 : p.cols ≤ 12
  r1 : 1 ≤ p.rows
  r2 : p.rows ≤ 12
  s1 : 1 ≤ p.sheets
  s2 : p.sheets ≤ 1000000
  most : p.first + p.cols * p.rows * p.sheets ≤ 1000000000
  d12 : p.o1 ≠ p.o2
  d13 : p.o1 ≠ p.o3
  d23 : p.o2 ≠ p.o3
  chr : (p.series.cps.toList.all fun c => decide (c < 16 ^ 8)) = true
def prV (p : Prt) (t : Addr) : List V := [.str p.series, .int p.first, .int p.cols, .int p.rows, .int p.sheets, .ref t]
def ordV (p : Prt) : List V := [.str p.o1.s, .str p.o2.s, .str p.o3.s]
/-- the printing p stands at a -/
def PrAt (H : Hp) (a : Addr) (p : Prt) : Prop := ∃ t, H a = some (.tup (prV p t)) ∧ ∃ o, H t = some (.frz o (.tup (ordV p))) ∧ Tpl o
theorem PrAt.same {H H' : Hp} {a : Addr} {p : Prt} (h : PrAt H a p) (s : Same H H') : PrAt H' a p := by
  obtain ⟨t, h1, o, h2, h3⟩ := h
  exact ⟨t, s _ _ h1, o, s _ _ h2, h3⟩
theorem PrAt.but {H H' : Hp} {f c a : Addr} {p : Prt} {n : Int} (h : PrAt H a p) (hf : Fd H f c n) (s : But f H H') : PrAt H' a p := by
  obtain ⟨t, h1, o, h2, h3⟩ := h
  obtain ⟨xs, hx⟩ := hf.at
  exact ⟨t, s _ _ (ne_of h1 hx (fun z => nomatch z)) h1, o, s _ _ (ne_of h2 hx (fun z => nomatch z)) h2, h3⟩
theorem sqF {K : PySem.W.Frag} {H : Hp} {a : Addr} {o : Obj} {xs : List V} (h : H a = some (.frz o (.tup xs))) : SqT K H a xs := Or.inl (Or.inr ⟨o, h⟩)
def dictW (f : Wd → Int) : List (Key × V) := [(Sum.inr Wd.sh.s, .int (f .sh)), (Sum.inr Wd.ro.s, .int (f .ro)), (Sum.inr Wd.co.s, .int (f .co))]
def dictC (f : Wd → Int) : List (Key × V) := [(Sum.inr Wd.co.s, .int (f .co)), (Sum.inr Wd.ro.s, .int (f .ro)), (Sum.inr Wd.sh.s, .int (f .sh))]
theorem valW (f : Wd → Int) (u : Wd) : valV (dictW f) (Sum.inr u.s) = some (.int (f u)) := by cases u <;> rfl
theorem valC (f : Wd → Int) (u : Wd) : valV (dictC f) (Sum.inr u.s) = some (.int (f u)) := by cases u <;> rfl
theorem PrOk.size_lo {p : Prt} (h : PrOk p) (u : Wd) : 1 ≤ p.size u := by cases u <;> simp only [Prt.size] <;> first | exact h.s1 | exact h.r1 | exact h.c1
theorem PrOk.size_hi {p : Prt} (h : PrOk p) (u : Wd) : p.size u ≤ 1000000 := by
  have h1 := h.s2; have h2 := h.r2; have h3 := h.c2
  cases u <;> simp only [Prt.size] <;> omega
def spHow (dict : (Wd → Int) → List (Key × V)) : Sp := fun vs H Q _ => ∃ (a : Addr) (p : Prt), vs = [.ref a] ∧ PrAt H a p ∧
  ∀ (d : Addr) (H' : Hp), Same H H' → H' d = some (.dK (dict p.size)) → Q (.ref d) H'
def spNum : Sp := fun vs H Q _ => ∃ (a : Addr) (p : Prt) (s r c : Int), vs = [.ref a, .int s, .int r, .int c] ∧ PrAt H a p ∧ PrOk p ∧
  ∀ (H' : Hp), Same H H' → Q (.int (p.num s r c)) H'
theorem get_dW {H : Hp} {d : Addr} {f : Wd → Int} (h : H d = some (.dK (dictW f))) (u : Wd) : DGet H d (.str u.s) (some (.int (f u))) := by
  have q := DGet.k (k := Sum.inr u.s) h
  rw [valW] at q
  exact q
theorem get_dC {H : Hp} {d : Addr} {f : Wd → Int} (h : H d = some (.dK (dictC f))) (u : Wd) : DGet H d (.str u.s) (some (.int (f u))) := by
  have q := DGet.k (k := Sum.inr u.s) h
  rw [valC] at q
  exact q
theorem Prt.num_eq (p : Prt) (s r c : Int) : p.first + (seatW s r c p.o1 * p.size p.o2 * p.size p.o3 + seatW s r c p.o2 * p.size p.o3 + seatW s r c p.o3) = p.num s r c := by
  unfold Prt.num
  rw [Int.add_mul]
theorem PrOk.big {p : Prt} (ok : PrOk p) (u : Wd) : -(2 ^ 64) < p.size u ∧ p.size u < 2 ^ 64 := by
  have := ok.size_lo u
  have := ok.size_hi u
  constructor <;> omega
/-- what draw and its like leave for the words of an order -/
def spOrder : Sp := fun vs H Q _ => ∃ (f c : Addr) (n : Int), vs = [.ref f] ∧ Fd H f c n ∧ n ≤ 900000 ∧
  ∀ (t : Addr) (o : Obj) (u1 u2 u3 : Wd) (H' : Hp), Tpl o → u1 ≠ u2 → u1 ≠ u3 → u2 ≠ u3 → Fd H' f c (n + 2) → But f H H' → H t = none → H' t = some (.frz o (.tup [.str u1.s, .str u2.s, .str u3.s])) → Q (.ref t) H'
def spPrint : Sp := fun vs H Q _ => ∃ (f c : Addr) (n k : Int), vs = [.ref f, .int k] ∧ Fd H f c n ∧ n ≤ 800000 ∧ (k = 0 ∨ k = 1) ∧
  ∀ (a : Addr) (p : Prt) (H' : Hp), Fd H' f c (n + 20) → But f H H' → PrAt H' a p → PrOk p → (k = 1 → p.cols ≤ 4 ∧ p.rows ≤ 4 ∧ p.sheets ≤ 6) → Q (.ref a) H'
theorem mul_bound {a b : Int} {m n : Int} (a0 : 0 ≤ a) (a1 : a ≤ m) (b0 : 0 ≤ b) (b1 : b ≤ n) : 0 ≤ a * b ∧ a * b ≤ m * n :=
  ⟨Int.mul_nonneg a0 b0, Int.mul_le_mul a1 b1 b0 (Int.le_trans a0 a1)⟩
theorem prod_bound {c r s : Int} (c0 : 0 ≤ c) (c1 : c ≤ 12) (r0 : 0 ≤ r) (r1 : r ≤ 12) (s0 : 0 ≤ s) (s1 : s ≤ 1000000) : 0 ≤ c * r * s ∧ c * r * s ≤ 144000000 := by
  obtain ⟨h1, h2⟩ := mul_bound c0 c1 r0 r1
  obtain ⟨h3, h4⟩ := mul_bound h1 h2 s0 s1
  exact ⟨h3, by omega⟩
def abc : Str := "abcdefghijklmnopqrstuvwxyz"
theorem abc_at (i : Int) (h0 : 0 ≤ i) (h1 : i < 26) : ∃ ch, atI abc.cps.toList i = some ch ∧ ch < 16 ^ 8 := by
  obtain ⟨k, rfl⟩ : ∃ k : Nat, i = (k : Int) := ⟨i.toNat, by omega⟩
  have hk : k < abc.cps.toList.length := by
    have e : abc.cps.toList.length = 26 := by decide +kernel
    omega
  have all : ∀ c ∈ abc.cps.toList, c < 16 ^ 8 := by decide +kernel
  exact ⟨abc.cps.toList[k], atI_nat (List.getElem?_eq_getElem hk), all _ (List.getElem_mem hk)⟩
theorem mul_chr {ch : Nat} (n : Int) (h : ch < 16 ^ 8) : ((Txt.mul ⟨#[ch]⟩ n).cps.toList.all fun c => decide (c < 16 ^ 8)) = true := by
  rw [mul_one_list, List.all_eq_true]
  intro c hc
  rw [List.eq_of_mem_replicate hc]
  exact decide_eq_true h
theorem mul1_ok (ch : Nat) (d : Int) (h0 : 0 ≤ d) (h1 : d < 100) : MulOk ⟨#[ch]⟩ (1 + d) := by
  refine ⟨?_, fun _ _ => ?_, fun _ _ => ?_⟩
  · simp only [Bool.or_eq_false_iff, decide_eq_false_iff_not]
    constructor <;> omega
  · have e : (⟨#[ch]⟩ : Str).length = 1 := rfl
    rw [e]
    have : (1 : Int) ≤ (2 ^ 63 - 1) / (1 + d) := by
      rw [Int.le_ediv_iff_mul_le (by omega)]
      omega
    omega
  · have e : (⟨#[ch]⟩ : Str).length = 1 := rfl
    rw [e, Nat.one_mul]
    unfold Builtin.Str.tooLong
    rw [decide_eq_false_iff_not, sizeLine_eq]
    omega
theorem mul1_len (ch : Nat) (d : Int) (N : Nat) (h : 1 + d ≤ (N : Int)) : (Txt.mul ⟨#[ch]⟩ (1 + d)).length ≤ N := len_mul_one rfl h
def rowNums (p : Prt) (s r : Int) : List Int := (List.range p.cols.toNat).map fun (c : Nat) => p.num s r c
def numsOn (p : Prt) (s : Int) : List Int := (List.range p.rows.toNat).flatMap fun (r : Nat) => rowNums p s r
theorem rowNums_len (p : Prt) (s r : Int) : (rowNums p s r).length = p.cols.toNat := by
  unfold rowNums
  rw [List.length_map, List.length_range]
/-- the numbers ahead of the c-th of row r -/
def numsTo (p : Prt) (s : Int) (r c : Nat) : List Int := ((List.range r).flatMap fun (r : Nat) => rowNums p s r) ++ (List.range c).map fun (c : Nat) => p.num s r c
theorem numsTo_row (p : Prt) (s : Int) (r : Nat) : numsTo p s r p.cols.toNat = numsTo p s (r + 1) 0 := by
  unfold numsTo rowNums
  rw [List.range_succ, List.flatMap_append, List.range_zero, List.map_nil, List.append_nil, List.flatMap_singleton]
theorem numsTo_col (p : Prt) (s : Int) (r c : Nat) : numsTo p s r (c + 1) = numsTo p s r c ++ [p.num s r c] := by
  unfold numsTo
  rw [List.range_succ, List.map_append, List.append_assoc]
  rfl
theorem numsTo_all (p : Prt) (s : Int) : numsTo p s p.rows.toNat 0 = numsOn p s := by
  unfold numsTo numsOn
  rw [List.range_zero, List.map_nil, List.append_nil]
theorem numsTo_len (p : Prt) (s : Int) (r c : Nat) : (numsTo p s r c).length = r * p.cols.toNat + c := by
  unfold numsTo
  rw [List.length_append, List.length_map, List.length_range, List.length_flatMap]
  have e : (List.map (fun (a : Nat) => (rowNums p s a).length) (List.range r)) = List.replicate r p.cols.toNat := by
    apply List.ext_getElem
    · simp
    · intro i h1 h2
      simp [rowNums_len]
  rw [e, List.sum_replicate_nat]
def spNumsOn : Sp := fun vs H Q _ => ∃ (a : Addr) (p : Prt) (s : Int), vs = [.ref a, .int s] ∧ PrAt H a p ∧ PrOk p ∧
  ∀ (l : Addr) (H' : Hp), Same H H' → H l = none → H' l = some (.lst ((numsOn p s).map V.int)) → Q (.ref l) H'
/-! ### Runs -/
abbrev Rn := Str × Int × Int
def rnV (r : Rn) : List V := [.str r.1, .int r.2.1, .int r.2.2]
def rnD (r : Rn) : PyData := .tuple [.str r.1, .int r.2.1, .int r.2.2]
/-- the runs rs stand at the places ps -/
abbrev Prd (H : Hp) (ps : List Addr) (rs : List Rn) : Prop := Paired (fun (p : Addr) (r : Rn) => H p = some (.tup (rnV r))) ps rs
theorem Prd.len {H : Hp} {ps : List Addr} {rs : List Rn} (h : Prd H ps rs) : ps.length = rs.length := Paired.length h
theorem Prd.same {H H' : Hp} (s : Same H H') : ∀ {ps : List Addr} {rs : List Rn}, Prd H ps rs → Prd H' ps rs
  | _, _, .nil => .nil
  | _, _, .cons a b => .cons (s _ _ a) (Prd.same s b)
theorem Prd.get {H : Hp} : ∀ {ps : List Addr} {rs : List Rn} {i : Nat} {p : Addr}, Prd H ps rs → ps[i]? = some p → ∃ r, rs[i]? = some r ∧ H p = some (.tup (rnV r))
  | _, _, 0, _, .cons a _, h => by
    cases h
    exact ⟨_, rfl, a⟩
  | _, _, i + 1, p, .cons _ b, h => Prd.get (i := i) (p := p) b h
theorem Prd.app {H : Hp} : ∀ {ps qs : List Addr} {rs ts : List Rn}, Prd H ps rs → Prd H qs ts → Prd H (ps ++ qs) (rs ++ ts)
  | _, _, _, _, .nil, b => b
  | _, _, _, _, .cons a r, b => .cons a (Prd.app r b)
theorem Prd.mem {H : Hp} : ∀ {ps : List Addr} {rs : List Rn} {p : Addr}, Prd H ps rs → p ∈ ps → ∃ r ∈ rs, H p = some (.tup (rnV r))
  | _, _, p, .cons a b, h => by
    rcases List.mem_cons.mp h with e | e
    · subst e
      exact ⟨_, List.mem_cons_self, a⟩
    · obtain ⟨r, h1, h2⟩ := Prd.mem b e
      exact ⟨r, List.mem_cons_of_mem _ h1, h2⟩
theorem Prd.dp {K : PySem.W.Frag} {H : Hp} : ∀ {ps : List Addr} {rs : List Rn}, Prd H ps rs → DpAll K H (ps.map V.ref) (rs.map rnD)
  | _, _, .nil => .nil
  | _, _, .cons a b => .cons (.tup (SqT.of a) (.cons (.str _) (.cons (.int _) (.cons (.int _) .nil)))) (Prd.dp b)
/-- one run more, its place new or not, all else as it was -/
theorem Prd.keep {H H' : Hp} : ∀ {ps : List Addr} {rs : List Rn}, (∀ p ∈ ps, ∀ o, H p = some o → H' p = some o) → Prd H ps rs → Prd H' ps rs
  | _, _, _, .nil => .nil
  | _, _, k, .cons a b => .cons (k _ List.mem_cons_self _ a) (Prd.keep (fun p hp => k p (List.mem_cons_of_mem _ hp)) b)
def rnLe (a b : Rn) : Bool := PySem.W.dataLe false rnD a b
/-- Python's order of runs -/
def rnLt (a b : Rn) : Prop := a.1.cps.toList < b.1.cps.toList ∨ (a.1 = b.1 ∧ (a.2.1 < b.2.1 ∨ (a.2.1 = b.2.1 ∧ a.2.2 < b.2.2)))
theorem rn_lt (a b : Rn) : PySem.W.dataLt (rnD a) (rnD b) = decide (a.1.cps.toList < b.1.cps.toList ∨ (a.1 = b.1 ∧ (a.2.1 < b.2.1 ∨ (a.2.1 = b.2.1 ∧ a.2.2 < b.2.2)))) := by
  unfold rnD
  rw [PySem.W.dataLt_tuple, PySem.W.dataLt_cons (by simp [PySem.W.alike]), PySem.W.dataLt_cons (by simp [PySem.W.alike]), PySem.W.dataLt_cons (by simp [PySem.W.alike]), PySem.W.dataLt_str, PySem.W.dataLt_int, PySem.W.dataLt_int]
  rw [PyProof.Rows.lex_irrefl]
  simp only [PyData.eqv, beq_iff_eq]
  by_cases h1 : a.1 = b.1
  · have n : ¬ a.1.cps.toList < b.1.cps.toList := by
      rw [h1]
      exact List.lt_irrefl _
    by_cases h2 : a.2.1 = b.2.1
    · by_cases h3 : a.2.2 = b.2.2
      · rw [if_pos h1, if_pos h2, if_pos h3]
        symm
        rw [decide_eq_false_iff_not]
        rintro (h | ⟨_, h | ⟨_, h⟩⟩)
        · exact n h
        · omega
        · omega
      · rw [if_pos h1, if_pos h2, if_neg h3, decide_eq_decide]
        refine ⟨fun h => Or.inr ⟨h1, Or.inr ⟨h2, h⟩⟩, ?_⟩
        rintro (h | ⟨_, h | ⟨_, h⟩⟩)
        · exact absurd h n
        · omega
        · exact h
    · rw [if_pos h1, if_neg h2, decide_eq_decide]
      refine ⟨fun h => Or.inr ⟨h1, Or.inl h⟩, ?_⟩
      rintro (h | ⟨_, h | ⟨h, _⟩⟩)
      · exact absurd h n
      · exact h
      · exact absurd h h2
  · rw [if_neg h1, decide_eq_decide]
    refine ⟨Or.inl, ?_⟩
    rintro (h | ⟨h, _⟩)
    · exact h
    · exact absurd h h1
def apart (a b : Rn) : Bool := if a.1 = b.1 then decide (a.2.2 < b.2.1) else decide (a.1.cps.toList < b.1.cps.toList)
def push (acc : List Rn) (r : Rn) : List Rn := match acc.getLast? with
  | none => [r]
  | some l => if apart l r then acc ++ [r] else acc.dropLast ++ [(l.1, l.2.1, if r.2.2 > l.2.2 then r.2.2 else l.2.2)]
def merge (rs : List Rn) : List Rn := rs.foldl push []
def runsOf (rs : List Rn) : List Rn := merge (rs.mergeSort rnLe)
theorem sort_rn {H : Hp} {ps : List Addr} {rs : List Rn} (h : Prd H ps rs) : ∃ qs : List Addr, sortD (ps.map V.ref) (rs.map rnD) = qs.map V.ref ∧ Prd H qs (rs.mergeSort rnLe) := by
  have hl := h.len
  have e1 : ((ps.map V.ref).zip (rs.map rnD)) = (ps.zip rs).map (fun x => (V.ref x.1, rnD x.2)) := by
    rw [List.zip_map]
    rfl
  refine ⟨((ps.zip rs).mergeSort (fun x y => rnLe x.2 y.2)).map Prod.fst, ?_, ?_⟩
  · unfold sortD
    rw [e1, ← PySem.W.sort_maps (r := fun x y => rnLe x.2 y.2) (fun x : Addr × Rn => (V.ref x.1, rnD x.2)) (fun _ _ _ _ => rfl), List.map_map, List.map_map]
    rfl
  · have e2 : ((ps.zip rs).mergeSort (fun x y => rnLe x.2 y.2)).map Prod.snd = rs.mergeSort rnLe := by
      rw [PySem.W.sort_maps (s := rnLe) Prod.snd (fun _ _ _ _ => rfl), List.map_snd_zip (by omega)]
    rw [← e2]
    have at_ : ∀ x ∈ ps.zip rs, H x.1 = some (.tup (rnV x.2)) := by
      clear e1 e2 hl
      induction h with
      | nil => exact fun x hx => nomatch hx
      | cons a b ih =>
        intro x hx
        rcases List.mem_cons.mp hx with z | z
        · subst z
          exact a
        · exact ih x z
    have all : ∀ l : List (Addr × Rn), (∀ x ∈ l, H x.1 = some (.tup (rnV x.2))) → Prd H (l.map Prod.fst) (l.map Prod.snd) := fun l => by
      induction l with
      | nil => exact fun _ => .nil
      | cons x l ih => exact fun k => .cons (k x List.mem_cons_self) (ih fun y hy => k y (List.mem_cons_of_mem _ hy))
    exact all _ fun x hx => at_ x (List.mem_mergeSort.mp hx)
theorem rn_alike (rs : List Rn) : PySem.W.AllAlike (rs.map rnD) := by
  intro d hd e he
  obtain ⟨a, _, rfl⟩ := List.mem_map.mp hd
  obtain ⟨b, _, rfl⟩ := List.mem_map.mp he
  simp [rnD, PySem.W.alike, PySem.W.alikeAll]
theorem rn_sortable (rs : List Rn) : PySem.W.Sortable (rs.map rnD) := by
  refine Or.inl fun d hd => ?_
  obtain ⟨a, _, rfl⟩ := List.mem_map.mp hd
  exact ⟨_, _, rfl⟩
theorem rn_depth (rs : List Rn) : ∀ d ∈ rs.map rnD, d.depth ≤ 60 := by
  intro d hd
  obtain ⟨a, _, rfl⟩ := List.mem_map.mp hd
  simp [rnD, PyData.depth, PyData.depthAll]
theorem push_len (acc : List Rn) (r : Rn) : (push acc r).length ≤ acc.length + 1 := by
  unfold push
  split
  · simp
  · split
    · simp
    · simp
theorem merge_len (rs : List Rn) : (merge rs).length ≤ rs.length := by
  have all : ∀ (l acc : List Rn), (l.foldl push acc).length ≤ acc.length + l.length := fun l => by
    induction l with
    | nil => intro acc; simp
    | cons r l ih =>
      intro acc
      have h1 := ih (push acc r)
      have h2 := push_len acc r
      rw [List.foldl_cons, List.length_cons]
      omega
  have z := all rs []
  rw [List.length_nil, Nat.zero_add] at z
  exact z
theorem push_snoc (acc : List Rn) (l r : Rn) : push (acc ++ [l]) r = if apart l r then acc ++ [l] ++ [r] else acc ++ [(l.1, l.2.1, if r.2.2 > l.2.2 then r.2.2 else l.2.2)] := by
  unfold push
  rw [List.getLast?_concat]
  simp only [List.dropLast_concat]
theorem Prd.snoc {H : Hp} : ∀ {ps : List Addr} {rs : List Rn} {p : Addr}, Prd H (ps ++ [p]) rs → ∃ ts r, rs = ts ++ [r] ∧ Prd H ps ts ∧ H p = some (.tup (rnV r))
  | [], _, p, h => by
    cases h with
    | cons a b =>
      cases b
      exact ⟨[], _, rfl, .nil, a⟩
  | x :: ps, _, p, h => by
    cases h with
    | cons a b =>
      obtain ⟨ts, r, rfl, h1, h2⟩ := Prd.snoc b
      exact ⟨_ :: ts, r, rfl, .cons a h1, h2⟩
theorem Prd.one {H : Hp} {p : Addr} {r : Rn} (h : H p = some (.tup (rnV r))) : Prd H [p] [r] := .cons h .nil
theorem ix_last (n : Nat) : ixN (n + 1) (-1) = some n := by
  unfold ixN
  rw [if_neg (by omega), if_pos (by omega)]
  exact congrArg some (by omega)
theorem nil_or_snoc {α : Type} (l : List α) : l = [] ∨ ∃ i x, l = i ++ [x] := by
  rcases List.eq_nil_or_concat l with h | ⟨i, x, h⟩
  · exact .inl h
  · exact .inr ⟨i, x, by rw [h, List.concat_eq_append]⟩
theorem merge_more {l : List Rn} {i : Nat} {r : Rn} (h : l[i]? = some r) : merge (l.take (i + 1)) = push (merge (l.take i)) r := by
  unfold merge
  obtain ⟨hi, e⟩ := List.getElem?_eq_some_iff.mp h
  rw [List.take_succ_eq_append_getElem hi, List.foldl_append, e]
  rfl
def spApart : Sp := fun vs H Q _ => ∃ (p q : Addr) (a b : Rn), vs = [.ref p, .ref q] ∧ H p = some (.tup (rnV a)) ∧ H q = some (.tup (rnV b)) ∧ Q (.bl (apart a b)) H
def spRunsOf (K : PySem.W.Frag) : Sp := fun vs H Q _ => ∃ (a : Addr) (ps : List Addr) (rs : List Rn), vs = [.ref a] ∧ SqL K H a (ps.map V.ref) ∧ Prd H ps rs ∧ rs.length ≤ 100000 ∧
  ∀ (t : Addr) (qs : List Addr) (H' : Hp), Same H H' → H t = none → H' t = some (.tup (qs.map V.ref)) → Prd H' qs (runsOf rs) → Q (.ref t) H'
def single (s : Str) (n : Int) : Rn := (s, n, n + 1)
def spRunsNums : Sp := fun vs H Q _ => ∃ (a l : Addr) (p : Prt) (ns : List Int), vs = [.ref a, .ref l] ∧ PrAt H a p ∧ H l = some (.lst (ns.map V.int)) ∧ ns.length ≤ 100000 ∧
  ∀ (t : Addr) (qs : List Addr) (H' : Hp), Same H H' → H t = none → H' t = some (.tup (qs.map V.ref)) → Prd H' qs (runsOf (ns.map (single p.series))) → Q (.ref t) H'
def spSheetRuns : Sp := fun vs H Q _ => ∃ (a : Addr) (p : Prt) (s : Int), vs = [.ref a, .int s] ∧ PrAt H a p ∧ PrOk p ∧
  ∀ (t : Addr) (qs : List Addr) (H' : Hp), Same H H' → H t = none → H' t = some (.tup (qs.map V.ref)) → Prd H' qs (runsOf ((numsOn p s).map (single p.series))) → Q (.ref t) H'
def spPile (f : Prt → Int → Int → Int) : Sp := fun vs H Q _ => ∃ (a : Addr) (p : Prt) (r c : Int), vs = [.ref a, .int r, .int c] ∧ PrAt H a p ∧ PrOk p ∧
  ∀ (t : Addr) (H' : Hp), Same H H' → H t = none → H' t = some (.tup [.int (p.num 0 r c), .int (f p r c), .int p.sheets]) → Q (.ref t) H'
theorem numsOn_len {p : Prt} (ok : PrOk p) (s : Int) : (numsOn p s).length ≤ 144 := by
  rw [← numsTo_all, numsTo_len]
  have h1 := ok.r2
  have h2 := ok.c2
  have : p.rows.toNat * p.cols.toNat ≤ 12 * 12 := Nat.mul_le_mul (by omega) (by omega)
  omega
/-! ### Sheets: numbers on a sheet are unlike; joined they are the runs -/
theorem mixed {x y n c d : Int} (e : x * n + c = y * n + d) (c0 : 0 ≤ c) (c1 : c < n) (d0 : 0 ≤ d) (d1 : d < n) : x = y ∧ c = d := by
  have h1 : (x * n + c) / n = x := by
    rw [Int.add_comm, Int.add_mul_ediv_right _ _ (by omega), Int.ediv_eq_zero_of_lt c0 c1, Int.zero_add]
  have h2 : (y * n + d) / n = y := by
    rw [Int.add_comm, Int.add_mul_ediv_right _ _ (by omega), Int.ediv_eq_zero_of_lt d0 d1, Int.zero_add]
  have h3 : x = y := by rw [← h1, ← h2, e]
  subst h3
  exact ⟨rfl, by omega⟩
theorem cancel {x y n : Int} (e : x * n = y * n) (h : 1 ≤ n) : x = y := Int.eq_of_mul_eq_mul_right (by omega) e
theorem num_inj {p : Prt} (ok : PrOk p) {s r c r' c' : Int} (r0 : 0 ≤ r) (r1 : r < p.rows) (c0 : 0 ≤ c) (c1 : c < p.cols) (r0' : 0 ≤ r') (r1' : r' < p.rows) (c0' : 0 ≤ c') (c1' : c' < p.cols)
    (e : p.num s r c = p.num s r' c') : r = r' ∧ c = c' := by
  obtain ⟨series, first, cols, rows, sheets, o1, o2, o3⟩ := p
  have s1 := ok.s1
  have d12 := ok.d12
  have d13 := ok.d13
  have d23 := ok.d23
  dsimp only at *
  unfold Prt.num at e
  dsimp only at e
  have e := Int.add_left_cancel e
  cases o1 <;> cases o2 <;> cases o3 <;> first | exact absurd rfl d12 | exact absurd rfl d13 | exact absurd rfl d23 | skip
  all_goals simp only [seatW, Prt.size] at e
  · obtain ⟨h1, h2⟩ := mixed e c0 c1 c0' c1'
    exact ⟨by omega, h2⟩
  · obtain ⟨h1, h2⟩ := mixed e r0 r1 r0' r1'
    exact ⟨h2, by omega⟩
  · obtain ⟨h1, h2⟩ := mixed e c0 c1 c0' c1'
    exact ⟨cancel (n := sheets) (by omega) s1, h2⟩
  · have h1 := cancel (x := r * cols + c) (y := r' * cols + c') (n := sheets) (by omega) s1
    exact mixed h1 c0 c1 c0' c1'
  · obtain ⟨h1, h2⟩ := mixed e r0 r1 r0' r1'
    exact ⟨h2, cancel (n := sheets) (by omega) s1⟩
  · have h1 := cancel (x := c * rows + r) (y := c' * rows + r') (n := sheets) (by omega) s1
    obtain ⟨h2, h3⟩ := mixed h1 r0 r1 r0' r1'
    exact ⟨h3, h2⟩
theorem nums_nodup {p : Prt} (ok : PrOk p) (s : Int) : (numsOn p s).Pairwise (· ≠ ·) := by
  unfold numsOn
  rw [List.pairwise_flatMap]
  refine ⟨fun r hr => ?_, ?_⟩
  · unfold rowNums
    rw [List.pairwise_map]
    refine List.Pairwise.imp_of_mem ?_ List.nodup_range
    intro c c' hc hc' ne e
    have h1 := List.mem_range.mp hr
    have h2 := List.mem_range.mp hc
    have h3 := List.mem_range.mp hc'
    have z := num_inj ok (by omega) (by omega) (by omega) (by omega) (by omega) (by omega) (by omega) (by omega) e
    exact ne (by omega)
  · refine List.Pairwise.imp_of_mem ?_ List.nodup_range
    intro r r' hr hr' ne x hx y hy e
    unfold rowNums at hx hy
    obtain ⟨c, hc, rfl⟩ := List.mem_map.mp hx
    obtain ⟨c', hc', rfl⟩ := List.mem_map.mp hy
    have h1 := List.mem_range.mp hr
    have h2 := List.mem_range.mp hr'
    have h3 := List.mem_range.mp hc
    have h4 := List.mem_range.mp hc'
    have z := num_inj ok (by omega) (by omega) (by omega) (by omega) (by omega) (by omega) (by omega) (by omega) e
    exact ne (by omega)
/-- one number more, as the law joins them -/
def step (s : Str) (acc : List Rn) (n : Int) : List Rn := match acc.getLast? with
  | none => [single s n]
  | some l => if l.2.2 = n then acc.dropLast ++ [(s, l.2.1, n + 1)] else acc ++ [single s n]
theorem step_snoc (s : Str) (acc : List Rn) (l : Rn) (n : Int) : step s (acc ++ [l]) n = if l.2.2 = n then acc ++ [(s, l.2.1, n + 1)] else acc ++ [l] ++ [single s n] := by
  unfold step
  rw [List.getLast?_concat]
  simp only [List.dropLast_concat]
theorem push_step {s : Str} {acc : List Rn} {n : Int} (h : ∀ l, acc.getLast? = some l → l.1 = s ∧ l.2.2 ≤ n) : push acc (single s n) = step s acc n := by
  rcases nil_or_snoc acc with rfl | ⟨i, l, rfl⟩
  · rfl
  · obtain ⟨h1, h2⟩ := h l List.getLast?_concat
    rw [push_snoc, step_snoc]
    have e : apart l (single s n) = decide (l.2.2 < n) := if_pos h1
    rw [e]
    by_cases c : l.2.2 = n
    · rw [if_neg (by rw [decide_eq_true_eq]; omega), if_pos c]
      have m : (if (single s n).2.2 > l.2.2 then (single s n).2.2 else l.2.2) = n + 1 := if_pos (show n + 1 > l.2.2 by omega)
      rw [m, h1]
    · rw [if_pos (by rw [decide_eq_true_eq]; omega), if_neg c]
theorem step_last (s : Str) (acc : List Rn) (n : Int) : ∃ i l, step s acc n = i ++ [l] ∧ l.1 = s ∧ l.2.2 = n + 1 := by
  rcases nil_or_snoc acc with rfl | ⟨i, l, rfl⟩
  · exact ⟨[], single s n, rfl, rfl, rfl⟩
  · rw [step_snoc]
    by_cases c : l.2.2 = n
    · rw [if_pos c]
      exact ⟨_, _, rfl, rfl, rfl⟩
    · rw [if_neg c]
      exact ⟨_, _, rfl, rfl, rfl⟩
theorem fold_step (s : Str) : ∀ (ns : List Int) (acc : List Rn), ns.Pairwise (· < ·) → (∀ l, acc.getLast? = some l → l.1 = s ∧ ∀ n ∈ ns, l.2.2 ≤ n) → (ns.map (single s)).foldl push acc = ns.foldl (step s) acc
  | [], _, _, _ => rfl
  | n :: ns, acc, hp, h => by
    have hp := List.pairwise_cons.mp hp
    rw [List.map_cons, List.foldl_cons, List.foldl_cons, push_step (fun l hl => ⟨(h l hl).1, (h l hl).2 n List.mem_cons_self⟩)]
    refine fold_step s ns _ hp.2 fun l hl => ?_
    obtain ⟨i, l', e, h1, h2⟩ := step_last s acc n
    rw [e, List.getLast?_concat] at hl
    cases hl
    refine ⟨h1, fun m hm => ?_⟩
    have := hp.1 m hm
    omega
theorem single_le (s : Str) (a b : Int) : rnLe (single s a) (single s b) = decide (a ≤ b) := by
  show (!PySem.W.dataLt (rnD (single s b)) (rnD (single s a))) = _
  rw [rn_lt]
  have n : ¬ (single s b).1.cps.toList < (single s a).1.cps.toList := List.lt_irrefl _
  by_cases c : b < a
  · rw [decide_eq_true (Or.inr ⟨rfl, Or.inl c⟩), decide_eq_false (by omega)]
    rfl
  · have z : ¬ ((single s b).1.cps.toList < (single s a).1.cps.toList ∨ (single s b).1 = (single s a).1 ∧ ((single s b).2.1 < (single s a).2.1 ∨ (single s b).2.1 = (single s a).2.1 ∧ (single s b).2.2 < (single s a).2.2)) := by
      rintro (h | ⟨_, h | ⟨_, h⟩⟩)
      · exact n h
      · exact c h
      · have h : b + 1 < a + 1 := h
        omega
    rw [decide_eq_false z, decide_eq_true (by omega)]
    rfl
theorem runsOf_singles {s : Str} {ns ms : List Int} (hp : ms.Perm ns) (hs : ms.Pairwise (· ≤ ·)) (hn : ns.Pairwise (· ≠ ·)) : ms.foldl (step s) [] = runsOf (ns.map (single s)) := by
  unfold runsOf merge
  have e1 : (ns.map (single s)).mergeSort rnLe = (ns.mergeSort fun a b => decide (a ≤ b)).map (single s) := (PySem.W.sort_maps (single s) (fun a _ b _ => (single_le s a b).symm)).symm
  have e2 : ms = ns.mergeSort fun a b => decide (a ≤ b) := by
    refine List.Perm.eq_of_pairwise (le := fun a b => a ≤ b) (fun a b _ _ => Int.le_antisymm) hs ?_ (hp.trans (List.mergeSort_perm _ _).symm)
    have z := List.pairwise_mergeSort (le := fun (a b : Int) => decide (a ≤ b)) (fun a b c h1 h2 => by rw [decide_eq_true_eq] at *; omega) (fun a b => by rw [Bool.or_eq_true, decide_eq_true_eq, decide_eq_true_eq]; omega) ns
    exact z.imp fun h => of_decide_eq_true h
  have lt : ms.Pairwise (· < ·) := by
    have hm : ms.Pairwise (· ≠ ·) := (hp.pairwise_iff (fun h => Ne.symm h)).mpr hn
    exact (hs.and hm).imp fun h => by omega
  rw [e1, ← e2]
  exact (fold_step s ms [] lt fun l hl => nomatch hl).symm
theorem step_len (s : Str) (acc : List Rn) (n : Int) : (step s acc n).length ≤ acc.length + 1 := by
  rcases nil_or_snoc acc with rfl | ⟨i, l, rfl⟩
  · exact Nat.le_refl _
  · rw [step_snoc]
    split <;> simp
theorem steps_len (s : Str) (ns : List Int) : (ns.foldl (step s) []).length ≤ ns.length := by
  have all : ∀ (l : List Int) (acc : List Rn), (l.foldl (step s) acc).length ≤ acc.length + l.length := fun l => by
    induction l with
    | nil => intro acc; simp
    | cons r l ih =>
      intro acc
      have h1 := ih (step s acc r)
      have h2 := step_len s acc r
      rw [List.foldl_cons, List.length_cons]
      omega
  have z := all ns []
  rw [List.length_nil, Nat.zero_add] at z
  exact z
theorem steps_more {s : Str} {l : List Int} {i : Nat} {n : Int} (h : l[i]? = some n) : (l.take (i + 1)).foldl (step s) [] = step s ((l.take i).foldl (step s) []) n := by
  obtain ⟨hi, e⟩ := List.getElem?_eq_some_iff.mp h
  rw [List.take_succ_eq_append_getElem hi, List.foldl_append, e]
  rfl
/-- what a pile's numbers grow by, from the sizes of the words behind "sheet" -/
def stepOf (p : Prt) : Int := match p.o1, p.o2, p.o3 with
  | .sh, b, c => 1 * p.size b * p.size c
  | _, .sh, c => 1 * p.size c
  | _, _, _ => 1
theorem step_of {p : Prt} (ok : PrOk p) (r c : Int) : p.num 1 r c - p.num 0 r c = stepOf p := by
  obtain ⟨series, first, cols, rows, sheets, o1, o2, o3⟩ := p
  have d12 := ok.d12
  have d13 := ok.d13
  have d23 := ok.d23
  dsimp only at *
  unfold Prt.num stepOf
  dsimp only
  cases o1 <;> cases o2 <;> cases o3 <;> first | exact absurd rfl d12 | exact absurd rfl d13 | exact absurd rfl d23 | skip
  all_goals simp only [seatW, Prt.size, Int.zero_mul, Int.one_mul, Int.add_mul, Int.zero_add]
  all_goals omega
def strsW (ws : List Wd) : List V := ws.map fun w => V.str w.s
theorem behind {p : Prt} (ok : PrOk p) : ∃ (j : Nat) (bs : List Wd), [p.o1.s, p.o2.s, p.o3.s][j]? = some Wd.sh.s ∧ (∀ m, m < j → [p.o1.s, p.o2.s, p.o3.s][m]? ≠ some Wd.sh.s) ∧
    cutV (ordV p) (some ((j : Int) + 1)) none = strsW bs ∧ bs.foldl (fun x w => x * p.size w) 1 = stepOf p ∧ j < 3 := by
  obtain ⟨series, first, cols, rows, sheets, o1, o2, o3⟩ := p
  have d12 := ok.d12
  have d13 := ok.d13
  have d23 := ok.d23
  dsimp only at *
  cases o1 <;> cases o2 <;> cases o3 <;> first | exact absurd rfl d12 | exact absurd rfl d13 | exact absurd rfl d23 | skip
  · exact ⟨0, [.ro, .co], rfl, fun m hm => absurd hm (Nat.not_lt_zero _), rfl, rfl, by decide⟩
  · exact ⟨0, [.co, .ro], rfl, fun m hm => absurd hm (Nat.not_lt_zero _), rfl, rfl, by decide⟩
  · refine ⟨1, [.co], rfl, fun m hm => ?_, rfl, rfl, by decide⟩
    obtain rfl : m = 0 := by omega
    decide +kernel
  · refine ⟨2, [], rfl, fun m hm => ?_, rfl, rfl, by decide⟩
    rcases (show m = 0 ∨ m = 1 by omega) with rfl | rfl <;> decide +kernel
  · refine ⟨1, [.ro], rfl, fun m hm => ?_, rfl, rfl, by decide⟩
    obtain rfl : m = 0 := by omega
    decide +kernel
  · refine ⟨2, [], rfl, fun m hm => ?_, rfl, rfl, by decide⟩
    rcases (show m = 0 ∨ m = 1 by omega) with rfl | rfl <;> decide +kernel
theorem PrOk.thin1 {p : Prt} (ok : PrOk p) : PrOk { p with sheets := 1 } := by
  have h1 := ok.most
  have h2 : p.cols * p.rows * 1 ≤ p.cols * p.rows * p.sheets := Int.mul_le_mul_of_nonneg_left ok.s1 (Int.mul_nonneg (by have := ok.c1; omega) (by have := ok.r1; omega))
  exact ⟨ok.len, ok.f0, ok.c1, ok.c2, ok.r1, ok.r2, Int.le_refl 1, (show (1 : Int) ≤ 1000000 by decide), by show p.first + p.cols * p.rows * 1 ≤ _; omega, ok.d12, ok.d13, ok.d23, ok.chr⟩
theorem PrOk.thin2 {p : Prt} (ok : PrOk p) : PrOk { p with cols := 1 } := by
  have h1 := ok.most
  have h3 := ok.s1
  have h4 := ok.r1
  have h2 : 1 * p.rows * p.sheets ≤ p.cols * p.rows * p.sheets := Int.mul_le_mul_of_nonneg_right (Int.mul_le_mul_of_nonneg_right ok.c1 (by omega)) (by omega)
  exact ⟨ok.len, ok.f0, Int.le_refl 1, (show (1 : Int) ≤ 12 by decide), ok.r1, ok.r2, ok.s1, ok.s2, by show p.first + 1 * p.rows * p.sheets ≤ _; omega, ok.d12, ok.d13, ok.d23, ok.chr⟩
theorem PrOk.thin3 {p : Prt} (ok : PrOk p) : PrOk { p with rows := 1 } := by
  have h1 := ok.most
  have h3 := ok.s1
  have h4 := ok.c1
  have h2 : p.cols * 1 * p.sheets ≤ p.cols * p.rows * p.sheets := Int.mul_le_mul_of_nonneg_right (Int.mul_le_mul_of_nonneg_left ok.r1 (by omega)) (by omega)
  exact ⟨ok.len, ok.f0, ok.c1, ok.c2, Int.le_refl 1, (show (1 : Int) ≤ 12 by decide), ok.s1, ok.s2, by show p.first + p.cols * 1 * p.sheets ≤ _; omega, ok.d12, ok.d13, ok.d23, ok.chr⟩
/-- right printings at these places -/
def PrsAt (H : Hp) (as : List Addr) (ps : List Prt) : Prop := Paired (fun (a : Addr) (p : Prt) => PrAt H a p ∧ PrOk p) as ps
theorem PrsAt.same {H H' : Hp} (s : Same H H') : ∀ {as : List Addr} {ps : List Prt}, PrsAt H as ps → PrsAt H' as ps
  | _, _, .nil => .nil
  | _, _, .cons a b => .cons ⟨a.1.same s, a.2⟩ (PrsAt.same s b)
theorem PrsAt.but {H H' : Hp} {f c : Addr} {n : Int} (hf : Fd H f c n) (s : But f H H') : ∀ {as : List Addr} {ps : List Prt}, PrsAt H as ps → PrsAt H' as ps
  | _, _, .nil => .nil
  | _, _, .cons a b => .cons ⟨a.1.but hf s, a.2⟩ (PrsAt.but hf s b)
theorem PrsAt.get {H : Hp} : ∀ {as : List Addr} {ps : List Prt} {i : Nat} {a : Addr}, PrsAt H as ps → as[i]? = some a → ∃ p, ps[i]? = some p ∧ PrAt H a p ∧ PrOk p
  | _, _, 0, _, .cons a _, h => by
    cases h
    exact ⟨_, rfl, a.1, a.2⟩
  | _, _, i + 1, a, .cons _ b, h => PrsAt.get (i := i) (a := a) b h
def spPrints : Sp := fun vs H Q _ => ∃ (f c : Addr) (n : Int), vs = [.ref f] ∧ Fd H f c n ∧ n ≤ 700000 ∧
  ∀ (l : Addr) (as : List Addr) (ps : List Prt) (H' : Hp), Fd H' f c (n + 50) → But f H H' → l ≠ f → H' l = some (.lst (as.map V.ref)) → PrsAt H' as ps → as.length = 4 → Q (.ref l) H'
/-! ### How long a repr is -/
mutual
def cost : PyData → Nat
  | .none => 4
  | .bool _ => 5
  | .int _ => 2000
  | .str x => 10 * x.length + 2
  | .list xs => costAll xs + 3
  | .tuple xs => costAll xs + 3
  | .dict _ => 0
def costAll : List PyData → Nat
  | [] => 0
  | x :: xs => cost x + 2 + costAll xs
end
mutual
def fineD : PyData → Bool
  | .none => true
  | .bool _ => true
  | .int i => decide (i.natAbs.log2 < 1920)
  | .str x => x.cps.toList.all fun c => decide (c < 16 ^ 8)
  | .list xs => fineAll xs
  | .tuple xs => fineAll xs
  | .dict _ => false
def fineAll : List PyData → Bool
  | [] => true
  | x :: xs => fineD x && fineAll xs
end
theorem from_len : ∀ (ts : List Str) (k : Nat) (acc : Str), (textFrom k acc ts).length ≤ acc.length + piled ts
  | [], k, acc => by
    unfold textFrom
    exact Nat.le_add_right _ _
  | t :: ts, k, acc => by
    unfold textFrom
    rw [piled_cons]
    have z := from_len ts (k + 1) (acc ++ (if k > 0 then ", " else "" : String) ++ t)
    have e : (((if k > 0 then ", " else "" : String) : Str)).length ≤ 2 := by split <;> decide +kernel
    rw [strLen_append, strLen_append] at z
    omega
theorem tup_len (ts : List Str) : (tupleText ts).length ≤ piled ts + 3 := by
  have e1 : ((("(" : String) : Str)).length = 1 := rfl
  have e3 : (((if ts.length == 1 then ",)" else ")" : String) : Str)).length ≤ 2 := by split <;> decide +kernel
  unfold tupleText
  rw [strLen_append, strLen_append, e1]
  cases ts with
  | nil =>
    have : (Str.join ", " []).length = 0 := rfl
    omega
  | cons t ts =>
    have := join_length_add (t :: ts) (fun z => nomatch z)
    omega
mutual
theorem shown_cost : ∀ d : PyData, fineD d = true → d.shown.length ≤ cost d
  | .none, _ => by decide +kernel
  | .bool b, _ => by cases b <;> decide +kernel
  | .int i, h => by
    have := int_text_len_1921 (of_decide_eq_true h)
    unfold PyData.shown cost
    omega
  | .str x, h => StrLaws.reprText_len x fun c hc => of_decide_eq_true (List.all_eq_true.mp h c hc)
  | .list xs, h => by
    have z := shown_costAll xs h
    have y := from_len (PyData.shownAll xs) 0 "["
    have e : (("[" : String) : Str).length = 1 := rfl
    have e2 : (("]" : String) : Str).length = 1 := rfl
    unfold PyData.shown cost listText
    rw [strLen_append, e2]
    rw [e] at y
    omega
  | .tuple xs, h => by
    have z := shown_costAll xs h
    have y := tup_len (PyData.shownAll xs)
    unfold PyData.shown cost
    omega
theorem shown_costAll : ∀ xs : List PyData, fineAll xs = true → piled (PyData.shownAll xs) ≤ costAll xs
  | [], _ => Nat.zero_le _
  | x :: xs, h => by
    have h := Bool.and_eq_true_iff.mp h
    have z1 := shown_cost x h.1
    have z2 := shown_costAll xs h.2
    unfold PyData.shownAll costAll
    rw [piled_cons]
    omega
end
mutual
theorem fine_show : ∀ d : PyData, fineD d = true → d.showable = true ∧ d.hasDict = false
  | .none, _ => ⟨rfl, rfl⟩
  | .bool b, _ => ⟨rfl, rfl⟩
  | .int i, h => ⟨h, rfl⟩
  | .str x, h => ⟨rfl, rfl⟩
  | .list xs, h => fine_showAll xs h
  | .tuple xs, h => fine_showAll xs h
theorem fine_showAll : ∀ xs : List PyData, fineAll xs = true → PyData.showableAll xs = true ∧ PyData.hasDictAll xs = false
  | [], _ => ⟨rfl, rfl⟩
  | x :: xs, h => by
    have h := Bool.and_eq_true_iff.mp h
    have z1 := fine_show x h.1
    have z2 := fine_showAll xs h.2
    unfold PyData.showableAll PyData.hasDictAll
    rw [z1.1, z1.2, z2.1, z2.2]
    exact ⟨rfl, rfl⟩
end
theorem log_small {n : Nat} (h : n < 2 ^ 64) : n.log2 < 1920 := by
  by_cases z : n = 0
  · subst z
    decide +kernel
  · exact (Nat.log2_lt z).mpr (Nat.lt_of_lt_of_le h (Nat.pow_le_pow_right (by decide) (by decide)))
theorem int_fine {i : Int} (h0 : -1000000000000 ≤ i) (h1 : i ≤ 1000000000000) : fineD (.int i) = true := decide_eq_true (log_small (by omega))
def prD (p : Prt) : PyData := .tuple [.str p.series, .int p.first, .int p.cols, .int p.rows, .int p.sheets, .tuple [.str p.o1.s, .str p.o2.s, .str p.o3.s]]
theorem PrAt.dp {K : PySem.W.Frag} {H : Hp} {a : Addr} {p : Prt} (h : PrAt H a p) : Dp K H (.ref a) (prD p) := by
  obtain ⟨t, h1, o, h2, _⟩ := h
  exact .tup (SqT.of h1) (.cons (.str _) (.cons (.int _) (.cons (.int _) (.cons (.int _) (.cons (.int _) (.cons (.tup (sqF h2) (.cons (.str _) (.cons (.str _) (.cons (.str _) .nil)))) .nil))))))
theorem word_fine (u : Wd) : fineD (.str u.s) = true := by cases u <;> decide +kernel
theorem PrOk.fine {p : Prt} (ok : PrOk p) : fineD (prD p) = true := by
  have h1 := ok.f0; have h2 := ok.c1; have h3 := ok.c2; have h4 := ok.r1; have h5 := ok.r2; have h6 := ok.s1; have h7 := ok.s2; have h8 := ok.most
  have h9 := (prod_bound (c := p.cols) (r := p.rows) (s := p.sheets) (by omega) h3 (by omega) h5 (by omega) h7).1
  show (fineD (.str p.series) && (fineD (.int p.first) && (fineD (.int p.cols) && (fineD (.int p.rows) && (fineD (.int p.sheets) && ((fineD (.str p.o1.s) && (fineD (.str p.o2.s) && (fineD (.str p.o3.s) && true))) && true)))))) = true
  have e0 : fineD (.str p.series) = true := ok.chr
  rw [e0, int_fine (by omega) (by omega), int_fine (by omega) (by omega), int_fine (by omega) (by omega), int_fine (by omega) (by omega), word_fine, word_fine, word_fine]
  rfl
theorem word_cost (u : Wd) : cost (.str u.s) ≤ 62 := by cases u <;> decide +kernel
theorem PrOk.cost {p : Prt} (ok : PrOk p) : cost (prD p) ≤ 9000 := by
  have h := ok.len
  have h1 := word_cost p.o1; have h2 := word_cost p.o2; have h3 := word_cost p.o3
  simp only [prD, Pn.cost, costAll] at *
  omega
theorem PrsAt.dp {K : PySem.W.Frag} {H : Hp} : ∀ {as : List Addr} {ps : List Prt}, PrsAt H as ps → DpAll K H (as.map V.ref) (ps.map prD)
  | _, _, .nil => .nil
  | _, _, .cons a b => .cons a.1.dp (PrsAt.dp b)
theorem PrsAt.fine {H : Hp} : ∀ {as : List Addr} {ps : List Prt}, PrsAt H as ps → fineAll (ps.map prD) = true ∧ costAll (ps.map prD) ≤ 9002 * ps.length ∧ as.length = ps.length
  | _, _, .nil => ⟨rfl, Nat.le_refl _, rfl⟩
  | _, _, .cons (l₂ := l) a b => by
    obtain ⟨z1, z2, z3⟩ := PrsAt.fine b
    have y1 := a.2.fine
    have y2 := a.2.cost
    refine ⟨?_, ?_, congrArg (· + 1) z3⟩
    · rw [List.map_cons]
      unfold fineAll
      rw [y1, z1]
      rfl
    · rw [List.map_cons, List.length_cons]
      unfold costAll
      omega
theorem prs_depth (ps : List Prt) : (PyData.list (ps.map prD)).depth ≤ 60 := by
  have all : ∀ l : List Prt, PyData.depthAll (l.map prD) ≤ 4 := fun l => by
    induction l with
    | nil => simp [PyData.depthAll]
    | cons p l ih =>
      rw [List.map_cons]
      simp only [PyData.depthAll, prD, PyData.depth] at *
      omega
  have z := all ps
  simp only [PyData.depth]
  omega
def rnsD (rs : List Rn) : PyData := .tuple (rs.map rnD)
theorem rns_nice {rs : List Rn} (h : rs.length ≤ 100000) : Nice 2 (rnsD rs) := by
  refine Or.inr ⟨_, Or.inr rfl, by rw [List.length_map]; exact h, fun e he => ?_⟩
  obtain ⟨r, _, rfl⟩ := List.mem_map.mp he
  refine Or.inr ⟨_, Or.inr rfl, (show 3 ≤ 100000 by decide), fun e he => ?_⟩
  rcases List.mem_cons.mp he with rfl | he
  · exact Nice.flat rfl
  rcases List.mem_cons.mp he with rfl | he
  · exact Nice.flat rfl
  rcases List.mem_cons.mp he with rfl | he
  · exact Nice.flat rfl
  · exact nomatch he
theorem runsOf_len (rs : List Rn) : (runsOf rs).length ≤ rs.length := by
  unfold runsOf
  have z := merge_len (rs.mergeSort rnLe)
  rw [List.length_mergeSort] at z
  exact z
theorem prd_dp {K : PySem.W.Frag} {H : Hp} {t : Addr} {qs : List Addr} {rs : List Rn} (h : H t = some (.tup (qs.map V.ref))) (hq : Prd H qs rs) : Dp K H (.ref t) (rnsD rs) := .tup (SqT.of h) (Prd.dp hq)
def intsD (ns : List Int) : PyData := .tuple (ns.map .int)
theorem ints_dp {K : PySem.W.Frag} {H : Hp} {t : Addr} {ns : List Int} (h : H t = some (.tup (ns.map V.int))) : Dp K H (.ref t) (intsD ns) := by
  refine .tup (SqT.of h) ?_
  clear h
  induction ns with
  | nil => exact .nil
  | cons n ns ih => exact .cons (.int n) ih
theorem ints_nice {ns : List Int} (h : ns.length ≤ 100000) : Nice 2 (intsD ns) := by
  refine Or.inr ⟨_, Or.inr rfl, by rw [List.length_map]; exact h, fun e he => ?_⟩
  obtain ⟨r, _, rfl⟩ := List.mem_map.mp he
  exact Nice.flat rfl
def spLaw (K : PySem.W.Frag) : Sp := fun vs H Q _ => ∃ (a : Addr) (ns : List Int), vs = [.ref a] ∧ SqL K H a (ns.map V.int) ∧ ∀ H', Q (.bl true) H'
/-! ### The one writing of a set of notes -/
def sl (a b : Str) : Prop := a.cps.toList < b.cps.toList
theorem sl_irr (a : Str) : ¬ sl a a := List.lt_irrefl _
theorem sl_tr {a b c : Str} (h : sl a b) (k : sl b c) : sl a c := List.lt_trans h k
theorem sl_as {a b : Str} (h : sl a b) (k : sl b a) : False := sl_irr a (sl_tr h k)
theorem sl_tot (a b : Str) : sl a b ∨ a = b ∨ sl b a := by
  by_cases h1 : sl a b
  · exact .inl h1
  by_cases h2 : sl b a
  · exact .inr (.inr h2)
  refine .inr (.inl ?_)
  have e : a.cps.toList = b.cps.toList := List.le_antisymm (List.not_lt.mp h2) (List.not_lt.mp h1)
  cases a
  cases b
  exact congrArg Str.mk (Array.toList_inj.mp e)
def has (rs : List Rn) (s : Str) (n : Int) : Prop := ∃ r ∈ rs, r.1 = s ∧ r.2.1 ≤ n ∧ n < r.2.2
def Full (rs : List Rn) : Prop := ∀ r ∈ rs, r.2.1 < r.2.2
def Canon (rs : List Rn) : Prop := rs.Pairwise (fun a b => apart a b = true) ∧ Full rs
theorem apart_iff (a b : Rn) : apart a b = true ↔ (a.1 = b.1 ∧ a.2.2 < b.2.1) ∨ sl a.1 b.1 := by
  unfold apart
  by_cases e : a.1 = b.1
  · rw [if_pos e, decide_eq_true_eq]
    refine ⟨fun h => .inl ⟨e, h⟩, ?_⟩
    rintro (h | h)
    · exact h.2
    · rw [e] at h
      exact (sl_irr _ h).elim
  · rw [if_neg e, decide_eq_true_eq]
    refine ⟨.inr, ?_⟩
    rintro (h | h)
    · exact absurd h.1 e
    · exact h
theorem apart_tr {a b c : Rn} (h : apart a b = true) (f : b.2.1 < b.2.2) (k : apart b c = true) : apart a c = true := by
  rw [apart_iff] at *
  rcases h with ⟨h1, h2⟩ | h <;> rcases k with ⟨k1, k2⟩ | k
  · exact .inl ⟨h1.trans k1, by omega⟩
  · exact .inr (h1 ▸ k)
  · exact .inr (k1 ▸ h)
  · exact .inr (sl_tr h k)
theorem has_cons (x : Rn) (rs : List Rn) (s : Str) (n : Int) : has (x :: rs) s n ↔ (x.1 = s ∧ x.2.1 ≤ n ∧ n < x.2.2) ∨ has rs s n := by
  unfold has
  constructor
  · rintro ⟨r, h, k⟩
    rcases List.mem_cons.mp h with rfl | h
    · exact .inl k
    · exact .inr ⟨r, h, k⟩
  · rintro (k | ⟨r, h, k⟩)
    · exact ⟨x, List.mem_cons_self, k⟩
    · exact ⟨r, List.mem_cons_of_mem _ h, k⟩
theorem has_nil (s : Str) (n : Int) : ¬ has [] s n := fun ⟨_, h, _⟩ => nomatch h
theorem has_app (a b : List Rn) (s : Str) (n : Int) : has (a ++ b) s n ↔ has a s n ∨ has b s n := by
  unfold has
  constructor
  · rintro ⟨r, h, k⟩
    rcases List.mem_append.mp h with h | h
    · exact .inl ⟨r, h, k⟩
    · exact .inr ⟨r, h, k⟩
  · rintro (⟨r, h, k⟩ | ⟨r, h, k⟩)
    · exact ⟨r, List.mem_append_left _ h, k⟩
    · exact ⟨r, List.mem_append_right _ h, k⟩
/-- all notes behind the first run -/
theorem canon_first {x : Rn} {rs : List Rn} (h : Canon (x :: rs)) {s : Str} {n : Int} (k : has rs s n) : (x.1 = s ∧ x.2.2 < n) ∨ sl x.1 s := by
  obtain ⟨r, hr, rfl, k1, k2⟩ := k
  rcases (apart_iff x r).mp ((List.pairwise_cons.mp h.1).1 r hr) with ⟨e, l⟩ | l
  · exact .inl ⟨e, by omega⟩
  · exact .inr l
theorem Canon.tail {x : Rn} {rs : List Rn} (h : Canon (x :: rs)) : Canon rs := ⟨(List.pairwise_cons.mp h.1).2, fun r hr => h.2 r (List.mem_cons_of_mem _ hr)⟩
theorem canon_uniq : ∀ {a b : List Rn}, Canon a → Canon b → (∀ s n, has a s n ↔ has b s n) → a = b
  | [], [], _, _, _ => rfl
  | [], y :: b, _, hb, h => by
    have z := (h y.1 y.2.1).mpr ⟨y, List.mem_cons_self, rfl, Int.le_refl _, hb.2 y List.mem_cons_self⟩
    exact (has_nil _ _ z).elim
  | x :: a, [], ha, _, h => by
    have z := (h x.1 x.2.1).mp ⟨x, List.mem_cons_self, rfl, Int.le_refl _, ha.2 x List.mem_cons_self⟩
    exact (has_nil _ _ z).elim
  | x :: a, y :: b, ha, hb, h => by
    have fx := ha.2 x List.mem_cons_self
    have fy := hb.2 y List.mem_cons_self
    have lo : ∀ {x y : Rn} {a b : List Rn}, Canon (x :: a) → Canon (y :: b) → (∀ s n, has (x :: a) s n → has (y :: b) s n) → (y.1 = x.1 ∧ y.2.1 ≤ x.2.1) ∨ sl y.1 x.1 := fun {x y a b} ha hb h => by
      have fy := hb.2 y List.mem_cons_self
      rcases (has_cons _ _ _ _).mp (h x.1 x.2.1 ⟨x, List.mem_cons_self, rfl, Int.le_refl _, ha.2 x List.mem_cons_self⟩) with ⟨e, k, _⟩ | k
      · exact .inl ⟨e, k⟩
      · rcases canon_first hb k with ⟨e, k⟩ | k
        · exact .inl ⟨e, by omega⟩
        · exact .inr k
    have l1 := lo ha hb fun s n => (h s n).mp
    have l2 := lo hb ha fun s n => (h s n).mpr
    have e1 : x.1 = y.1 ∧ x.2.1 = y.2.1 := by
      rcases l1 with ⟨e, k⟩ | k <;> rcases l2 with ⟨e', k'⟩ | k'
      · exact ⟨e', by omega⟩
      · exact (sl_irr _ (e ▸ k')).elim
      · exact (sl_irr _ (e' ▸ k)).elim
      · exact (sl_as k k').elim
    have hi : ∀ {x y : Rn} {a b : List Rn}, Canon (x :: a) → Canon (y :: b) → x.1 = y.1 → x.2.1 = y.2.1 → (∀ s n, has (y :: b) s n → has (x :: a) s n) → ¬ x.2.2 < y.2.2 := fun {x y a b} ha hb e1 e2 h lt => by
      have fx := ha.2 x List.mem_cons_self
      rcases (has_cons _ _ _ _).mp (h x.1 x.2.2 ⟨y, List.mem_cons_self, e1.symm, by omega, lt⟩) with ⟨_, _, k⟩ | k
      · omega
      · rcases canon_first ha k with ⟨_, k⟩ | k
        · omega
        · exact sl_irr _ k
    have h1 := hi ha hb e1.1 e1.2 fun s n => (h s n).mpr
    have h2 := hi hb ha e1.1.symm e1.2.symm fun s n => (h s n).mp
    have e : x = y := Prod.ext e1.1 (Prod.ext e1.2 (by omega))
    subst e
    have off : ∀ {l : List Rn}, Canon (x :: l) → ∀ s n, has l s n → ¬ (x.1 = s ∧ x.2.1 ≤ n ∧ n < x.2.2) := fun {l} hl s n k z => by
      rcases canon_first hl k with ⟨_, k⟩ | k
      · omega
      · exact sl_irr _ (z.1 ▸ k)
    refine congrArg (x :: ·) (canon_uniq ha.tail hb.tail fun s n => ⟨fun k => ?_, fun k => ?_⟩)
    · rcases (has_cons _ _ _ _).mp ((h s n).mp ((has_cons _ _ _ _).mpr (.inr k))) with z | z
      · exact (off ha s n k z).elim
      · exact z
    · rcases (has_cons _ _ _ _).mp ((h s n).mpr ((has_cons _ _ _ _).mpr (.inr k))) with z | z
      · exact (off hb s n k z).elim
      · exact z
/-- not ahead of -/
def Wk (a b : Rn) : Prop := (a.1 = b.1 ∧ a.2.1 ≤ b.2.1) ∨ sl a.1 b.1
theorem push_ok {acc : List Rn} {r : Rn} (ha : Canon acc) (hw : ∀ x, acc.getLast? = some x → Wk x r) (f : r.2.1 < r.2.2) :
    Canon (push acc r) ∧ (∀ s n, has (push acc r) s n ↔ has acc s n ∨ (r.1 = s ∧ r.2.1 ≤ n ∧ n < r.2.2)) ∧ ∀ x, (push acc r).getLast? = some x → x.1 = r.1 ∧ x.2.1 ≤ r.2.1 := by
  rcases nil_or_snoc acc with rfl | ⟨i, l, rfl⟩
  · refine ⟨⟨List.pairwise_singleton _ _, fun x hx => ?_⟩, fun s n => ?_, fun x hx => ?_⟩
    · rw [List.mem_singleton.mp hx]
      exact f
    · show has [r] s n ↔ _
      rw [has_cons]
      exact Or.comm
    · cases (Option.some.inj hx)
      exact ⟨rfl, Int.le_refl _⟩
  have w := hw l List.getLast?_concat
  obtain ⟨p1, p2, p3⟩ := List.pairwise_append.mp ha.1
  have fl := ha.2 l (List.mem_append_right _ List.mem_cons_self)
  rw [push_snoc]
  by_cases ap : apart l r = true
  · rw [if_pos ap]
    refine ⟨⟨List.pairwise_append.mpr ⟨ha.1, List.pairwise_singleton _ _, fun x hx y hy => ?_⟩, fun x hx => ?_⟩, fun s n => ?_, fun x hx => ?_⟩
    · rw [List.mem_singleton.mp hy]
      rcases List.mem_append.mp hx with hx | hx
      · exact apart_tr (p3 x hx l List.mem_cons_self) fl ap
      · rw [List.mem_singleton.mp hx]
        exact ap
    · rcases List.mem_append.mp hx with hx | hx
      · exact ha.2 x hx
      · rw [List.mem_singleton.mp hx]
        exact f
    · rw [has_app, has_cons]
      simp only [has_nil, or_false]
    · rw [List.getLast?_concat] at hx
      cases (Option.some.inj hx)
      exact ⟨rfl, Int.le_refl _⟩
  · rw [if_neg ap]
    have na : ¬ ((l.1 = r.1 ∧ l.2.2 < r.2.1) ∨ sl l.1 r.1) := fun z => ap ((apart_iff l r).mpr z)
    have w1 : l.1 = r.1 ∧ l.2.1 ≤ r.2.1 := w.resolve_right fun z => na (.inr z)
    have w2 : r.2.1 ≤ l.2.2 := Int.not_lt.mp fun z => na (.inl ⟨w1.1, z⟩)
    generalize hm : (if r.2.2 > l.2.2 then r.2.2 else l.2.2) = m
    have m1 : m = r.2.2 ∧ l.2.2 < r.2.2 ∨ m = l.2.2 ∧ r.2.2 ≤ l.2.2 := by
      split at hm <;> omega
    refine ⟨⟨List.pairwise_append.mpr ⟨p1, List.pairwise_singleton _ _, fun x hx y hy => ?_⟩, fun x hx => ?_⟩, fun s n => ?_, fun x hx => ?_⟩
    · rw [List.mem_singleton.mp hy]
      have z := p3 x hx l List.mem_cons_self
      rw [apart_iff] at z ⊢
      exact z
    · rcases List.mem_append.mp hx with hx | hx
      · exact ha.2 x (List.mem_append_left _ hx)
      · rw [List.mem_singleton.mp hx]
        show l.2.1 < m
        omega
    · rw [has_app, has_app, has_cons, has_cons]
      simp only [has_nil, or_false]
      rw [or_assoc]
      refine or_congr Iff.rfl ⟨fun ⟨h1, h2, h3⟩ => ?_, ?_⟩
      · by_cases c : n < l.2.2
        · exact .inl ⟨h1, h2, c⟩
        · exact .inr ⟨w1.1 ▸ h1, by omega, by omega⟩
      · rintro (⟨h1, h2, h3⟩ | ⟨h1, h2, h3⟩)
        · exact ⟨h1, h2, show n < m by omega⟩
        · exact ⟨w1.1.trans h1, show l.2.1 ≤ n by omega, show n < m by omega⟩
    · rw [List.getLast?_concat] at hx
      cases (Option.some.inj hx)
      exact w1
theorem fold_ok : ∀ (l acc : List Rn), Canon acc → (∀ x, acc.getLast? = some x → ∀ r ∈ l, Wk x r) → l.Pairwise Wk → Full l →
    Canon (l.foldl push acc) ∧ ∀ s n, has (l.foldl push acc) s n ↔ has acc s n ∨ has l s n
  | [], acc, ha, _, _, _ => ⟨ha, fun s n => by simp only [List.foldl_nil, has_nil, or_false]⟩
  | r :: l, acc, ha, hw, hp, hf => by
    obtain ⟨q1, q2⟩ := List.pairwise_cons.mp hp
    obtain ⟨z1, z2, z3⟩ := push_ok ha (fun x hx => hw x hx r List.mem_cons_self) (hf r List.mem_cons_self)
    obtain ⟨y1, y2⟩ := fold_ok l (push acc r) z1 (fun x hx u hu => by
      obtain ⟨e, k⟩ := z3 x hx
      rcases q1 u hu with ⟨e', k'⟩ | k'
      · exact .inl ⟨e.trans e', by omega⟩
      · exact .inr (e ▸ k')) q2 fun x hx => hf x (List.mem_cons_of_mem _ hx)
    refine ⟨y1, fun s n => ?_⟩
    rw [List.foldl_cons, y2, z2, has_cons, or_assoc]
theorem canon_nil : Canon [] := ⟨List.Pairwise.nil, fun _ h => nomatch h⟩
theorem merge_ok {l : List Rn} (hp : l.Pairwise Wk) (hf : Full l) : Canon (merge l) ∧ ∀ s n, has (merge l) s n ↔ has l s n := by
  obtain ⟨y1, y2⟩ := fold_ok l [] canon_nil (fun x hx => nomatch hx) hp hf
  refine ⟨y1, fun s n => (y2 s n).trans ?_⟩
  simp only [has_nil, false_or]
theorem rnLe_iff (a b : Rn) : rnLe a b = true ↔ sl a.1 b.1 ∨ (a.1 = b.1 ∧ (a.2.1 < b.2.1 ∨ (a.2.1 = b.2.1 ∧ a.2.2 ≤ b.2.2))) := by
  have e : rnLe a b = !PySem.W.dataLt (rnD b) (rnD a) := rfl
  rw [e, rn_lt, Bool.not_eq_true', decide_eq_false_iff_not]
  constructor
  · intro h
    rcases sl_tot a.1 b.1 with k | k | k
    · exact .inl k
    · refine .inr ⟨k, ?_⟩
      by_cases c : a.2.1 < b.2.1
      · exact .inl c
      · refine .inr ⟨?_, ?_⟩
        · by_cases d : b.2.1 < a.2.1
          · exact (h (.inr ⟨k.symm, .inl d⟩)).elim
          · omega
        · by_cases d : b.2.2 < a.2.2
          · by_cases d2 : b.2.1 < a.2.1
            · exact (h (.inr ⟨k.symm, .inl d2⟩)).elim
            · exact (h (.inr ⟨k.symm, .inr ⟨by omega, d⟩⟩)).elim
          · omega
    · exact (h (.inl k)).elim
  · rintro (k | ⟨e, k⟩) (h | ⟨e', h⟩)
    · exact sl_as k h
    · rw [e'] at k
      exact sl_irr _ k
    · have h : sl b.1 a.1 := h
      rw [e] at h
      exact sl_irr _ h
    · omega
theorem sort_Wk (rs : List Rn) : (rs.mergeSort rnLe).Pairwise Wk := by
  have z := List.pairwise_mergeSort (le := rnLe) (fun a b c h1 h2 => ?_) (fun a b => ?_) rs
  · refine z.imp fun {a b} h => ?_
    rcases (rnLe_iff a b).mp h with k | ⟨e, k⟩
    · exact .inr k
    · exact .inl ⟨e, by omega⟩
  · rw [rnLe_iff] at *
    rcases h1 with k | ⟨e, k⟩ <;> rcases h2 with k' | ⟨e', k'⟩
    · exact .inl (sl_tr k k')
    · exact .inl (e' ▸ k)
    · exact .inl (e ▸ k')
    · exact .inr ⟨e.trans e', by omega⟩
  · rw [Bool.or_eq_true, rnLe_iff, rnLe_iff]
    rcases sl_tot a.1 b.1 with k | k | k
    · exact .inl (.inl k)
    · by_cases c : a.2.1 < b.2.1 ∨ a.2.1 = b.2.1 ∧ a.2.2 ≤ b.2.2
      · exact .inl (.inr ⟨k, c⟩)
      · exact .inr (.inr ⟨k.symm, by omega⟩)
    · exact .inr (.inl k)
theorem has_perm {a b : List Rn} (h : ∀ r, r ∈ a ↔ r ∈ b) (s : Str) (n : Int) : has a s n ↔ has b s n :=
  ⟨fun ⟨r, h1, h2⟩ => ⟨r, (h r).mp h1, h2⟩, fun ⟨r, h1, h2⟩ => ⟨r, (h r).mpr h1, h2⟩⟩
theorem runsOf_ok {rs : List Rn} (hf : Full rs) : Canon (runsOf rs) ∧ ∀ s n, has (runsOf rs) s n ↔ has rs s n := by
  obtain ⟨y1, y2⟩ := merge_ok (sort_Wk rs) fun r hr => hf r (List.mem_mergeSort.mp hr)
  exact ⟨y1, fun s n => (y2 s n).trans (has_perm (fun r => List.mem_mergeSort) s n)⟩
theorem runsOf_eq {rs c : List Rn} (hf : Full rs) (hc : Canon c) (h : ∀ s n, has c s n ↔ has rs s n) : runsOf rs = c := by
  obtain ⟨y1, y2⟩ := runsOf_ok hf
  exact canon_uniq y1 hc fun s n => (y2 s n).trans (h s n).symm
/-! pieces joined, as the laws do it -/
def join (acc : List Rn) (r : Rn) : List Rn := match acc.getLast? with
  | none => [r]
  | some l => if l.1 = r.1 ∧ l.2.2 = r.2.1 then acc.dropLast ++ [(r.1, l.2.1, r.2.2)] else acc ++ [r]
theorem join_snoc (acc : List Rn) (l r : Rn) : join (acc ++ [l]) r = if l.1 = r.1 ∧ l.2.2 = r.2.1 then acc ++ [(r.1, l.2.1, r.2.2)] else acc ++ [l] ++ [r] := by
  unfold join
  rw [List.getLast?_concat]
  simp only [List.dropLast_concat]
/-- one behind the other, touching perhaps -/
def Vk (a b : Rn) : Prop := (a.1 = b.1 ∧ a.2.2 ≤ b.2.1) ∨ sl a.1 b.1
theorem join_push {acc : List Rn} {r : Rn} (hw : ∀ x, acc.getLast? = some x → Vk x r) (f : r.2.1 < r.2.2) : join acc r = push acc r ∧ ∀ x, (push acc r).getLast? = some x → x.1 = r.1 ∧ x.2.2 = r.2.2 := by
  rcases nil_or_snoc acc with rfl | ⟨i, l, rfl⟩
  · refine ⟨rfl, fun x hx => ?_⟩
    cases (Option.some.inj hx)
    exact ⟨rfl, rfl⟩
  have w := hw l List.getLast?_concat
  rw [join_snoc, push_snoc]
  by_cases c : l.1 = r.1 ∧ l.2.2 = r.2.1
  · have ap : ¬ apart l r = true := fun z => by
      rcases (apart_iff l r).mp z with ⟨_, z⟩ | z
      · omega
      · exact sl_irr _ (c.1 ▸ z)
    rw [if_pos c, if_neg ap, if_pos (by omega), c.1]
    refine ⟨rfl, fun x hx => ?_⟩
    rw [List.getLast?_concat] at hx
    cases (Option.some.inj hx)
    exact ⟨rfl, rfl⟩
  · have ap : apart l r = true := by
      rw [apart_iff]
      rcases w with ⟨e, k⟩ | k
      · exact .inl ⟨e, by have : l.2.2 ≠ r.2.1 := fun z => c ⟨e, z⟩; omega⟩
      · exact .inr k
    rw [if_neg c, if_pos ap]
    refine ⟨rfl, fun x hx => ?_⟩
    rw [List.getLast?_concat] at hx
    cases (Option.some.inj hx)
    exact ⟨rfl, rfl⟩
theorem fold_join : ∀ (l acc : List Rn), (∀ x, acc.getLast? = some x → ∀ r ∈ l, Vk x r) → l.Pairwise Vk → Full l → l.foldl join acc = l.foldl push acc
  | [], _, _, _, _ => rfl
  | r :: l, acc, hw, hp, hf => by
    obtain ⟨q1, q2⟩ := List.pairwise_cons.mp hp
    obtain ⟨z1, z2⟩ := join_push (fun x hx => hw x hx r List.mem_cons_self) (hf r List.mem_cons_self)
    rw [List.foldl_cons, List.foldl_cons, z1]
    refine fold_join l _ (fun x hx u hu => ?_) q2 fun x hx => hf x (List.mem_cons_of_mem _ hx)
    obtain ⟨e, k⟩ := z2 x hx
    rcases q1 u hu with ⟨e', k'⟩ | k'
    · exact .inl ⟨e.trans e', by omega⟩
    · exact .inr (e ▸ k')
def pcs (cs : List Int) : List (Int × Int) := cs.zip cs.tail
theorem pcs_cons (x y : Int) (l : List Int) : pcs (x :: y :: l) = (x, y) :: pcs (y :: l) := rfl
theorem pcs_len (cs : List Int) : (pcs cs).length ≤ cs.length := by
  unfold pcs
  rw [List.length_zip]
  omega
theorem pcs_in : ∀ {cs : List Int} {p : Int × Int}, p ∈ pcs cs → p.1 ∈ cs ∧ p.2 ∈ cs
  | [], p, h => nomatch h
  | [x], p, h => nomatch h
  | x :: y :: l, p, h => by
    rw [pcs_cons] at h
    rcases List.mem_cons.mp h with rfl | h
    · exact ⟨List.mem_cons_self, List.mem_cons_of_mem _ List.mem_cons_self⟩
    · have z := pcs_in h
      exact ⟨List.mem_cons_of_mem _ z.1, List.mem_cons_of_mem _ z.2⟩
theorem pcs_up : ∀ {cs : List Int}, cs.Pairwise (· < ·) → (pcs cs).Pairwise (fun a b => a.2 ≤ b.1) ∧ ∀ p ∈ pcs cs, p.1 < p.2 ∧ ∀ c ∈ cs, c ≤ p.1 ∨ p.2 ≤ c
  | [], _ => ⟨.nil, fun _ h => nomatch h⟩
  | [x], _ => ⟨.nil, fun _ h => nomatch h⟩
  | x :: y :: l, h => by
    obtain ⟨h1, h2⟩ := List.pairwise_cons.mp h
    obtain ⟨h3, h4⟩ := List.pairwise_cons.mp h2
    obtain ⟨i1, i2⟩ := pcs_up h2
    rw [pcs_cons]
    have le : ∀ c ∈ y :: l, y ≤ c := fun c hc => by
      rcases List.mem_cons.mp hc with rfl | hc
      · exact Int.le_refl _
      · have := h3 c hc
        omega
    refine ⟨List.pairwise_cons.mpr ⟨fun p hp => le _ (pcs_in hp).1, i1⟩, fun p hp => ?_⟩
    rcases List.mem_cons.mp hp with rfl | hp2
    · refine ⟨h1 y List.mem_cons_self, fun c hc => ?_⟩
      rcases List.mem_cons.mp hc with rfl | hc
      · exact .inl (Int.le_refl _)
      · exact .inr (le c hc)
    · obtain ⟨j1, j2⟩ := i2 p hp2
      refine ⟨j1, fun c hc => ?_⟩
      rcases List.mem_cons.mp hc with rfl | hc
      · have := h1 _ (pcs_in hp2).1
        exact .inl (by omega)
      · exact j2 c hc
theorem pcs_at : ∀ {cs : List Int} {a b n : Int}, cs.Pairwise (· < ·) → a ∈ cs → b ∈ cs → a ≤ n → n < b → ∃ p ∈ pcs cs, p.1 ≤ n ∧ n < p.2
  | [], _, _, _, _, h, _, _, _ => nomatch h
  | [x], a, b, n, _, h1, h2, h3, h4 => by
    rw [List.mem_singleton] at h1 h2
    omega
  | x :: y :: l, a, b, n, h, h1, h2, h3, h4 => by
    obtain ⟨g1, g2⟩ := List.pairwise_cons.mp h
    rw [pcs_cons]
    by_cases c : n < y
    · refine ⟨(x, y), List.mem_cons_self, ?_, c⟩
      rcases List.mem_cons.mp h1 with rfl | h1
      · exact h3
      · have := g1 a h1
        show x ≤ n
        omega
    · have hb : b ∈ y :: l := by
        rcases List.mem_cons.mp h2 with rfl | h2
        · have := g1 y List.mem_cons_self
          omega
        · exact h2
      obtain ⟨p, p1, p2⟩ := pcs_at (a := y) g2 List.mem_cons_self hb (by omega) h4
      exact ⟨p, List.mem_cons_of_mem _ p1, p2⟩
/-- the pieces of a series that are good -/
def goods (P : Str → Int → Bool) (s : Str) (ps : List (Int × Int)) : List Rn := (ps.filter fun p => P s p.1).map fun p => (s, p.1, p.2)
def mades (P : Str → Int → Bool) (ns : List Str) (cs : List Int) : List Rn := (ns.flatMap fun s => goods P s (pcs cs)).foldl join []
theorem goods_in {P : Str → Int → Bool} {s : Str} {ps : List (Int × Int)} {r : Rn} : r ∈ goods P s ps ↔ r.1 = s ∧ (r.2.1, r.2.2) ∈ ps ∧ P s r.2.1 = true := by
  unfold goods
  rw [List.mem_map]
  constructor
  · rintro ⟨p, h, rfl⟩
    obtain ⟨h1, h2⟩ := List.mem_filter.mp h
    exact ⟨rfl, h1, h2⟩
  · rintro ⟨h1, h2, h3⟩
    exact ⟨(r.2.1, r.2.2), List.mem_filter.mpr ⟨h2, h3⟩, Prod.ext h1.symm rfl⟩
/-- what is made is the one writing of the notes that P tells -/
theorem mades_ok {P : Str → Int → Bool} {ns : List Str} {cs : List Int} (hn : ns.Pairwise sl) (hc : cs.Pairwise (· < ·))
    (flat : ∀ s p n, p ∈ pcs cs → p.1 ≤ n → n < p.2 → P s n = P s p.1) (only : ∀ s n, P s n = true → s ∈ ns ∧ ∃ p ∈ pcs cs, p.1 ≤ n ∧ n < p.2) :
    Canon (mades P ns cs) ∧ ∀ s n, has (mades P ns cs) s n ↔ P s n = true := by
  obtain ⟨u1, u2⟩ := pcs_up hc
  have full : Full (ns.flatMap fun s => goods P s (pcs cs)) := fun r hr => by
    obtain ⟨s, _, h2⟩ := List.mem_flatMap.mp hr
    exact (u2 _ (goods_in.mp h2).2.1).1
  have pv : (ns.flatMap fun s => goods P s (pcs cs)).Pairwise Vk := by
    rw [List.pairwise_flatMap]
    refine ⟨fun s _ => ?_, hn.imp fun {s s'} h x hx y hy => ?_⟩
    · unfold goods
      rw [List.pairwise_map]
      exact (u1.filter _).imp fun h => .inl ⟨rfl, h⟩
    · refine .inr ?_
      rw [(goods_in.mp hx).1, (goods_in.mp hy).1]
      exact h
  have pw : (ns.flatMap fun s => goods P s (pcs cs)).Pairwise Wk := List.Pairwise.imp_of_mem (fun {a b} ha hb h => by
    rcases h with ⟨e, k⟩ | k
    · have := full a ha
      exact .inl ⟨e, by omega⟩
    · exact .inr k) pv
  obtain ⟨y1, y2⟩ := merge_ok pw full
  have e : mades P ns cs = merge (ns.flatMap fun s => goods P s (pcs cs)) := fold_join _ [] (fun x hx => nomatch hx) pv full
  rw [e]
  refine ⟨y1, fun s n => (y2 s n).trans ⟨?_, fun h => ?_⟩⟩
  · rintro ⟨r, hr, rfl, h1, h2⟩
    obtain ⟨s', _, g⟩ := List.mem_flatMap.mp hr
    obtain ⟨g1, g2, g3⟩ := goods_in.mp g
    subst g1
    rw [flat r.1 (r.2.1, r.2.2) n g2 h1 h2]
    exact g3
  · obtain ⟨h1, p, h2, h3, h4⟩ := only s n h
    refine ⟨(s, p.1, p.2), List.mem_flatMap.mpr ⟨s, h1, goods_in.mpr ⟨rfl, h2, ?_⟩⟩, rfl, h3, h4⟩
    rw [← flat s p n h2 h3 h4]
    exact h
def hasB (rs : List Rn) (s : Str) (n : Int) : Bool := rs.any fun r => decide (r.1 = s) && (decide (r.2.1 ≤ n) && decide (n < r.2.2))
theorem hasB_iff (rs : List Rn) (s : Str) (n : Int) : hasB rs s n = true ↔ has rs s n := by
  unfold hasB has
  rw [List.any_eq_true]
  simp only [Bool.and_eq_true, decide_eq_true_eq]
/-- ends and names of the runs are among those told -/
def Ends (rs : List Rn) (ns : List Str) (cs : List Int) : Prop := ∀ r ∈ rs, r.1 ∈ ns ∧ r.2.1 ∈ cs ∧ r.2.2 ∈ cs
theorem hasB_flat {rs : List Rn} {ns : List Str} {cs : List Int} (he : Ends rs ns cs) (hc : cs.Pairwise (· < ·)) {s : Str} {p : Int × Int} {n : Int} (hp : p ∈ pcs cs) (h1 : p.1 ≤ n) (h2 : n < p.2) : hasB rs s n = hasB rs s p.1 := by
  obtain ⟨u1, u2⟩ := pcs_up hc
  obtain ⟨v1, v2⟩ := u2 p hp
  rw [Bool.eq_iff_iff, hasB_iff, hasB_iff]
  constructor
  · rintro ⟨r, hr, e, k1, k2⟩
    have z1 := v2 _ (he r hr).2.1
    have z2 := v2 _ (he r hr).2.2
    exact ⟨r, hr, e, by omega, by omega⟩
  · rintro ⟨r, hr, e, k1, k2⟩
    have z1 := v2 _ (he r hr).2.1
    have z2 := v2 _ (he r hr).2.2
    exact ⟨r, hr, e, by omega, by omega⟩
theorem hasB_only {rs : List Rn} {ns : List Str} {cs : List Int} (he : Ends rs ns cs) (hc : cs.Pairwise (· < ·)) {s : Str} {n : Int} (h : hasB rs s n = true) : s ∈ ns ∧ ∃ p ∈ pcs cs, p.1 ≤ n ∧ n < p.2 := by
  obtain ⟨r, hr, rfl, k1, k2⟩ := (hasB_iff _ _ _).mp h
  obtain ⟨e1, e2, e3⟩ := he r hr
  exact ⟨e1, pcs_at hc e2 e3 k1 k2⟩
theorem mades_runs {rs : List Rn} {ns : List Str} {cs : List Int} (hf : Full rs) (he : Ends rs ns cs) (hn : ns.Pairwise sl) (hc : cs.Pairwise (· < ·)) : mades (hasB rs) ns cs = runsOf rs := by
  obtain ⟨y1, y2⟩ := mades_ok (P := hasB rs) hn hc (fun s p n h1 h2 h3 => hasB_flat he hc h1 h2 h3) (fun s n h => hasB_only he hc h)
  exact (runsOf_eq hf y1 fun s n => (y2 s n).trans (hasB_iff _ _ _)).symm
theorem runsOf_mems {a b : List Rn} (hf : Full a) (h : ∀ r, r ∈ a ↔ r ∈ b) : runsOf a = runsOf b := by
  have hb : Full b := fun r hr => hf r ((h r).mpr hr)
  obtain ⟨y1, y2⟩ := runsOf_ok hb
  exact runsOf_eq hf y1 fun s n => (y2 s n).trans (has_perm h s n).symm
theorem runsOf_again {a : List Rn} (hf : Full a) : runsOf (runsOf a) = runsOf a := by
  obtain ⟨y1, y2⟩ := runsOf_ok hf
  exact runsOf_eq y1.2 y1 fun s n => Iff.rfl
/-! ### sets of keys (ints, texts), however many: set(list), sorted of a set -/
def kx (e : Int × Value) : Key := match e.2 with
  | .int k _ => .inl k
  | .str x _ => .inr x
  | _ => .inl 0
def Gk (w : World) (e : Int × Value) : Prop := ∃ k, keyIs k e.2 = true ∧ e.1 = keyH w k
theorem kx_of {k : Key} {e : Int × Value} (h : keyIs k e.2 = true) : kx e = k := by
  rcases keyIs_shape h with ⟨i, t, rfl, q⟩ | ⟨x, t, rfl, q⟩ <;> (unfold kx; rw [q])
theorem kx_is {w : World} {e : Int × Value} (g : Gk w e) (k : Key) : keyIs k e.2 = true ↔ kx e = k := by
  refine ⟨kx_of, fun q => ?_⟩
  obtain ⟨k0, h1, _⟩ := g
  rw [kx_of h1] at q
  rw [← q]
  exact h1
/-- at a stands a set of n keys, just those that S tells -/
def SX (w : World) (h : Heap) (a : Addr) (S : Key → Prop) (n : Nat) : Prop := ∃ (o : Obj) (es : Array (Int × Value)) (ep : Nat) (t : SetTable),
  (h.get? a = some o ∧ o.ExactSet ∧ o.data = .set es ep t) ∧ ((∀ e ∈ es.toList, Gk w e) ∧ (es.toList.map kx).Nodup ∧ ∀ k, S k ↔ k ∈ es.toList.map kx) ∧
  (es.size < scanBound ∧ t.fits es.size = true ∧ es.size = n) ∧ Ris t.place.toList ∧ (w.params.followText "set-order" = true ∨ t.led = true)
section
variable {P : Program} {w : World} {A : Around} {E : Value → Shared → Prop} {s : Shared} {a : Addr} {S : Key → Prop} {n : Nat}
theorem SX.keep {h h' : Heap} (R : SX w h a S n) (k : ∀ o, h.get? a = some o → h'.get? a = some o) : SX w h' a S n := by
  obtain ⟨o, es, ep, t, ⟨h1, h2⟩, r⟩ := R
  exact ⟨o, es, ep, t, ⟨k o h1, h2⟩, r⟩
theorem SX.like {h : Heap} {S' : Key → Prop} (R : SX w h a S n) (k : ∀ j, S' j ↔ S j) : SX w h a S' n := by
  have e : S' = S := funext fun j => propext (k j)
  rw [e]
  exact R
theorem gk_all {l : List (Int × Value)} (g : ∀ e ∈ l, Gk w e) : ElemsOf (mixKind P w) l := fun e he => by
  obtain ⟨k, q1, q2⟩ := g e he
  refine ⟨⟨k, q1, q2⟩, ?_⟩
  rcases keyIs_shape q1 with ⟨i, t, _, q⟩ | ⟨x, t, _, q⟩ <;> (rw [q]; rfl)
theorem put_at {h : Heap} {o : Obj} {es es' : Array (Int × Value)} {ep : Nat} {t t' : SetTable} (q1 : h.get? a = some o) (q2 : o.data = .set es ep t) :
    (h.update a (Obj.putSet es' t')).get? a = some { o with data := .set es' (ep + 1) t' } := by
  have z := Heap.get?_update_self (Obj.putSet es' t') q1 (by rw [putSet_of es' t' q2]; rfl)
  exact z.trans (congrArg some (putSet_of es' t' q2))
theorem sx_lay {g : Bool → Sem Unit} (calm : ∀ (b : Bool) (s1 : Shared) (Z : Unit → Shared → Prop), Z () s1 → wpAny (model P w) A (g b) Z E s1)
    {o : Obj} {es fs : Array (Int × Value)} {ep : Nat} {t u : SetTable} {S' : Key → Prop} (q : s.heap.get? a = some o ∧ o.ExactSet ∧ o.data = .set es ep t)
    (keys : (∀ e ∈ fs.toList, Gk w e) ∧ (fs.toList.map kx).Nodup ∧ ∀ k, S' k ↔ k ∈ fs.toList.map kx) (few : fs.size < scanBound) (fit : u.fits fs.size = true) (up : Ris u.place.toList)
    (led : w.params.followText "set-order" = true ∨ u.led = true) {dm : Bool} {Z : Option Bool → Shared → Prop}
    (fin : ∀ h', Heap.SameBut a s.heap h' → SX w h' a S' fs.size → Z (some true) { s with heap := h' }) :
    wpAny (model P w) A (do
      storeSet a fs u
      if (!dm && u.tooFull) = true then do
          g (relayAll u fs (SetTable.grown fs.size)).2.2
          storeSet a (relayAll u fs (SetTable.grown fs.size)).1 (relayAll u fs (SetTable.grown fs.size)).2.1
          pure (some true)
        else pure (some true)) Z E s := by
  obtain ⟨q1, q2, q3⟩ := q
  obtain ⟨k1, k2, k3⟩ := keys
  refine wpAny_bind (wpAny_storeSet_of q1 q3 ?_ (fits_of_scanBound few))
  have at1 := put_at (es' := fs) (t' := u) q1 q3
  have b1 := Heap.SameBut.update s.heap a (Obj.putSet fs u)
  split
  · have p1 := relayAll_perm u fs (SetTable.grown fs.size)
    have p2 := relayAll_fits u fs (SetTable.grown fs.size)
    have p3 := relayAll_ris u fs (SetTable.grown fs.size)
    have p4 := relayAll_led u fs (SetTable.grown fs.size)
    generalize relayAll u fs (SetTable.grown fs.size) = L at p1 p2 p3 p4 ⊢
    obtain ⟨gs, v, gave⟩ := L
    dsimp only at p1 p2 p3 p4 ⊢
    have size : gs.size = fs.size := by rw [← Array.length_toList, p1.length_eq, Array.length_toList]
    have few2 : gs.size < scanBound := by omega
    refine wpAny_bind (calm _ _ _ ?_)
    refine wpAny_bind (wpAny_storeSet_of at1 rfl ?_ (fits_of_scanBound few2))
    have at2 := put_at (es' := gs) (t' := v) at1 rfl
    refine wpAny_pure (fin _ (b1.trans (Heap.SameBut.update _ a _)) ⟨_, gs, _, v, ⟨at2, q2, rfl⟩, ⟨fun e he => k1 e (p1.mem_iff.mp he), (p1.map kx).nodup_iff.mpr k2, fun k => (k3 k).trans (p1.map kx).mem_iff.symm⟩, ⟨few2, p2, size⟩, p3, ?_⟩)
    exact led.imp _root_.id fun z => p4.trans z
  · exact wpAny_pure (fin _ b1 ⟨_, fs, _, u, ⟨at1, q2, rfl⟩, ⟨k1, k2, k3⟩, ⟨few, fit, rfl⟩, up, led⟩)
theorem sx_add {k : Key} {v : Value} {Z : Bool → Shared → Prop} (R : SX w s.heap a S n) (room : n + 1 < scanBound) (hk : keyIs k v = true)
    (fin : ∀ h' m, Heap.SameBut a s.heap h' → m ≤ n + 1 → SX w h' a (fun j => S j ∨ j = k) m → ∀ b, Z b { s with heap := h' }) :
    wpAny (model P w) A (setAddHashed a v (keyH w k)) Z E s := by
  obtain ⟨o, es, ep, t, ⟨q1, q2, q3⟩, ⟨k1, k2, k3⟩, ⟨few, fit, size⟩, up, led⟩ := R
  have scan : v.scannable = true := by
    rcases keyIs_shape hk with ⟨i, t, _, rfl⟩ | ⟨x, t, _, rfl⟩ <;> rfl
  have all : ElemsOf (mixKind P w) es.toList := gk_all k1
  have is' : (mixKind P w).is k v = true := hk
  unfold setAddHashed setAddHashedIn
  refine wpAny_holding (wpAny_bind (wpAny_setState_of q1 q3 fit ?_))
  dsimp only
  rw [byScan_of scan few all]
  simp only [↓reduceIte]
  unfold setAddByScan
  refine wpAny_bind ?_
  refine wpAny_bind (wpAny_rule ?_)
  refine wpAny_bind (wpAny_setScan_of is' q1 q3 fit all ?_)
  have memb : ∀ j, j ∈ es.toList.map kx ↔ ∃ e ∈ es.toList, keyIs j e.2 = true := fun j => by
    rw [List.mem_map]
    exact ⟨fun ⟨e, h1, h2⟩ => ⟨e, h1, (kx_is (k1 e h1) j).mpr h2⟩, fun ⟨e, h1, h2⟩ => ⟨e, h1, (kx_is (k1 e h1) j).mp h2⟩⟩
  cases found : List.findIdx? (fun e => (mixKind P w).is k e.2) es.toList with
  | some j =>
    dsimp only
    obtain ⟨hj, pj, _⟩ := List.findIdx?_eq_some_iff_getElem.mp found
    have inS : S k := (k3 k).mpr ((memb k).mpr ⟨es.toList[j], List.getElem_mem hj, pj⟩)
    refine wpAny_pure (wpAny_pure ?_)
    exact fin s.heap n (Heap.SameBut.refl a s.heap) (Nat.le_succ _) ⟨o, es, ep, t, ⟨q1, q2, q3⟩, ⟨k1, k2, fun i => by rw [← k3 i]; exact ⟨fun z => z.elim _root_.id fun e => e ▸ inS, .inl⟩⟩, ⟨few, fit, size⟩, up, led⟩ _
  | none =>
    dsimp only
    have new : k ∉ es.toList.map kx := fun z => by
      obtain ⟨e, h1, h2⟩ := (memb k).mp z
      have c := List.findIdx?_eq_none_iff.mp found e h1
      have c : keyIs k e.2 = false := c
      rw [h2] at c
      cases c
    have way : ∀ (b : Bool) {s1 : Shared} {Y : Unit → Shared → Prop}, Y () s1 → wpAny (model P w) A (match b with | true => rule "set.scan.the-table-gave-way" | false => pure ()) Y E s1 := fun b s1 Y y => by
      cases b
      · exact wpAny_pure y
      · exact wpAny_rule y
    have p1 := layNew_perm t es (keyH w k) v
    have p2 := layNew_fits t es (keyH w k) v
    have p3 := layNew_ris t es (keyH w k) v up
    have p4 := layNew_led t es (keyH w k) v
    generalize layNew t es (keyH w k) v = L at p1 p2 p3 p4 ⊢
    obtain ⟨fs, u, dm, gave⟩ := L
    dsimp only at p1 p2 p3 p4 ⊢
    rw [Array.toList_push] at p1
    have pc : fs.toList.Perm ((keyH w k, v) :: es.toList) := p1.trans (List.perm_append_singleton _ _)
    have pk : (fs.toList.map kx).Perm (k :: es.toList.map kx) := by
      have z := pc.map kx
      rw [List.map_cons, kx_of (e := (keyH w k, v)) hk] at z
      exact z
    have keys : (∀ e ∈ fs.toList, Gk w e) ∧ (fs.toList.map kx).Nodup ∧ ∀ j, (S j ∨ j = k) ↔ j ∈ fs.toList.map kx := by
      refine ⟨fun e he => ?_, pk.nodup_iff.mpr (List.nodup_cons.mpr ⟨new, k2⟩), fun j => ?_⟩
      · rcases List.mem_cons.mp (pc.mem_iff.mp he) with z | z
        · rw [z]
          exact ⟨k, hk, rfl⟩
        · exact k1 e z
      · rw [k3 j, pk.mem_iff, List.mem_cons]
        exact Or.comm
    have size2 : fs.size = n + 1 := by rw [← Array.length_toList, pc.length_eq, List.length_cons, Array.length_toList, size]
    have few2 : fs.size < scanBound := by omega
    have led2 : w.params.followText "set-order" = true ∨ u.led = true := led.imp _root_.id fun z => p4.trans z
    have fin2 : ∀ h', Heap.SameBut a s.heap h' → SX w h' a (fun j => S j ∨ j = k) fs.size → ∀ b, Z b { s with heap := h' } := fun h' sb r => fin h' _ sb (Nat.le_of_eq size2) r
    refine wpAny_bind (way _ ?_)
    split
    · refine wpAny_bind ?_
      rw [hashByValue_scannable 8 scan]
      refine wpAny_pure ?_
      refine sx_lay ?_ ⟨q1, q2, q3⟩ keys few2 ?_ ?_ ?_ ?_
      · intro b s1 Y y
        cases b
        · exact wpAny_pure y
        · exact wpAny_rule y
      · first | (split <;> first | exact p2 | exact SetTable.fits_plain_off p2) | exact p2
      · first | (split <;> exact p3) | exact p3
      · first | (split <;> exact led2) | exact led2
      · intro h' sb r
        dsimp only
        exact wpAny_pure (fin2 h' sb r _)
    · refine wpAny_bind (wpAny_pure ?_)
      simp only [↓reduceIte]
      refine sx_lay ?_ ⟨q1, q2, q3⟩ keys few2 p2 p3 led2 ?_
      · intro b s1 Y y
        cases b
        · exact wpAny_pure y
        · exact wpAny_rule y
      · intro h' sb r
        dsimp only
        exact wpAny_pure (fin2 h' sb r _)
theorem sx_loop {I : Addr} {fp wr : List Addr} {G : Array GenState → Array GenState → Prop} {n : Nat} {Pv : Nat → Value → Prop} {St : Nat → Shared → Prop} {R : Result → Shared → Prop}
    (W : WalksS P w A.in1 I fp wr G n Pv St) (D : Addr) (hD : D ∉ fp) (ks : List Key) (hn : n = ks.length) (few : ks.length + 1 < scanBound) (are : ∀ i v, Pv i v → ∃ k, ks[i]? = some k ∧ keyIs k v = true) :
    ∀ (m i : Nat) (s : Shared), n - i = m → i ≤ n → St i s → (∃ c, c ≤ i ∧ SX w s.heap D (fun j => j ∈ ks.take i) c) →
      (∀ s' c, Moved (D :: wr) G s s' → c ≤ n → SX w s'.heap D (fun j => j ∈ ks) c → R (.ok (.ret .none)) s') →
      codeAny (model P w) A (.builtin "set.update.loop" ⟨[.ref D, .ref I], []⟩) R s := by
  have notw : D ∉ wr := fun z => hD (W.sub _ z)
  have more : ∀ b ∈ wr, b ∈ D :: wr := fun b hb => List.mem_cons_of_mem _ hb
  intro m
  induction m with
  | zero =>
    intro i s e1 e2 st ⟨c, hc, hS⟩ fin
    obtain rfl : i = n := by omega
    refine codeAny_builtin F.entry_set_update_loop ?_
    rw [Around.under_plainId F.plain_set_update_loop _]
    show wpAny _ A.in1 (pyNext (.ref I) >>= _) _ _ s
    refine wpAny_bind (W.done s _ _ st fun s2 mv => ?_)
    show wpAny _ A.in1 (ret Value.none) _ _ s2
    rw [List.take_of_length_le (l := ks) (i := i) (by omega)] at hS
    exact wpAny_pure (fin s2 c (mv.mono more) hc (hS.keep fun o e => mv.heap D o notw e))
  | succ m ih =>
    intro i s e1 e2 st ⟨c, hc, hS⟩ fin
    have lt : i < n := by omega
    refine codeAny_builtin F.entry_set_update_loop ?_
    rw [Around.under_plainId F.plain_set_update_loop _]
    show wpAny _ A.in1 (pyNext (.ref I) >>= _) _ _ s
    refine wpAny_bind (W.item i s _ _ lt st fun v s2 pv st2 mv => ?_)
    obtain ⟨k, hk, isk⟩ := are i v pv
    have hS2 := hS.keep fun o e => mv.heap D o notw e
    show wpAny _ A.in1 (holding [v] (setAdd D v) >>= _) _ _ s2
    refine wpAny_bind (wpAny_holding ?_)
    unfold setAdd
    refine wpAny_holding ?_
    refine wpAny_bind ((mixKind P w).pyHash (k := k) isk ?_)
    refine sx_add (s := { s2 with toks := s2.toks + 1 }) hS2 (by omega) isk fun h' m2 sb hm hS3 b => ?_
    have hS4 : SX w h' D (fun j => j ∈ ks.take (i + 1)) m2 := hS3.like fun j => by
      rw [List.take_add_one, hk, List.mem_append]
      simp
    refine wpAny_pure ⟨plainId_quiet F.plain_set_update_loop _, ih (i + 1) _ (by omega) lt (W.frame _ s2 _ _ st2 (Nat.le_succ _) fun b hb o e => ?_) ⟨_, (show m2 ≤ i + 1 by omega), hS4⟩ fun s3 c3 mv3 hc3 hS5 => ?_⟩
    · rw [sb.2 b (fun z : b = D => hD (z ▸ hb))]
      exact e
    · refine fin s3 c3 (Moved.trans W.gtrans ((mv.mono more).then_heap (Nat.le_succ _) fun b o hb e => ?_) mv3) hc3 hS5
      rw [sb.2 b (fun z : b = D => hb (by rw [z]; exact List.mem_cons_self))]
      exact e
theorem sx_new {h : Heap} {ks : List Key} (q : h.get? a = some { cls := .type "set", dict := none, data := .set #[] 0 (.fresh 0 0 (!w.params.followText "set-order")) }) : SX w h a (fun j => j ∈ ks.take 0) 0 := by
  refine ⟨_, #[], 0, _, ⟨q, ⟨rfl, rfl, rfl⟩, rfl⟩, ⟨fun e he => by simp at he, by simp, fun k => by simp⟩, ⟨by decide, by rfl, rfl⟩, List.Pairwise.nil, ?_⟩
  show _ ∨ (!w.params.followText "set-order") = true
  cases w.params.followText "set-order"
  · exact .inr rfl
  · exact .inl rfl
set_option maxHeartbeats 3200000 in
theorem sx_call {l : Addr} {items : Array Value} (ks : List Key) {Q : Value → Shared → Prop} (hh : A.handled = none) (hl : s.heap.IsList l items) (len : items.size = ks.length) (are : ∀ (i : Nat) (v : Value), items[i]? = some v → ∃ k, ks[i]? = some k ∧ keyIs k v = true) (few : ks.length + 1 < scanBound)
    (fin : ∀ (h' : Heap) (tk c : Nat), SX w h' s.heap.objs.size (fun j => j ∈ ks) c → c ≤ ks.length → (∀ b o, s.heap.get? b = some o → h'.get? b = some o) → Q (.ref s.heap.objs.size) { s with heap := h', toks := tk }) :
    wpAny (model P w) A (call (.type "set") [.ref l]) Q E s := by
  obtain ⟨c, tl, m1⟩ := F.called_set.mro
  have m2 := F.called_set.made
  have m3 := F.called_set.sub
  refine wpAny_call (codeAny_of_tree ?_)
  show wpAny _ _ (callAny (.type "set") _) _ _ _
  refine wpAny_pure ⟨Code.quiet_builtin _ (by decide +kernel), codeAny_builtin F.entry_type_call ?_⟩
  rw [Around.under_plain (weight_type_call_type "set" [.ref l] []) rfl]
  have m4 := F.called_set.notType
  have m5 := F.called_set.canCreate
  have m6 := F.typeCall_set_1 (.ref l)
  repeat (any_goals (first | assumption | wp_step))
  refine codeAny_mono (code_set_led1 (.ref l) (E := E) (Q₁ := fun obj s1 => obj = .ref s.heap.objs.size ∧ s1 = { s with heap := s.heap.push { cls := .type "set", dict := none, data := .set #[] 0 (.fresh 0 0 (!w.params.followText "set-order")) } }) ⟨rfl, rfl⟩) fun r s1 hr => ?_
  cases r with
  | error e => exact hr
  | ok fl =>
    cases fl with
    | ret obj =>
      obtain ⟨rfl, rfl⟩ := hr
      have atS : (s.heap.push { cls := .type "set", dict := none, data := .set #[] 0 (.fresh 0 0 (!w.params.followText "set-order")) }).get? s.heap.objs.size = some { cls := .type "set", dict := none, data := .set #[] 0 (.fresh 0 0 (!w.params.followText "set-order")) } := Heap.get?_push_size _ rfl
      have tyS : Shared.TypeIs { s with heap := s.heap.push { cls := .type "set", dict := none, data := .set #[] 0 (.fresh 0 0 (!w.params.followText "set-order")) } } (.ref s.heap.objs.size) "set" := ⟨_, atS, rfl⟩
      have m7 := F.called_set.init.lookup
      have m8 := F.called_set.init.bind (.ref s.heap.objs.size)
      repeat (any_goals (first | assumption | wp_step))
      refine codeAny_mono (codeAny_call_builtin (R := wants (fun r s2 => r = .none ∧ ∃ h' tk c, s2 = { s with heap := h', toks := tk } ∧ SX w h' s.heap.objs.size (fun j => j ∈ ks) c ∧ c ≤ ks.length ∧
          (∀ b o, s.heap.get? b = some o → h'.get? b = some o)) E) F.called_set.init.plain F.entry_set_init (check_set_init_1 tyS ?_)) fun r2 s2 hr2 => ?_
      · obtain ⟨ol, o1, o2, nl, o3⟩ := hl
        obtain ⟨ocls, odict, odata, oslots⟩ := ol
        simp only at o2 o3
        subst o2
        subst o3
        have at2 : (s.heap.push { cls := .type "set", dict := none, data := .set #[] 0 (.fresh 0 0 (!w.params.followText "set-order")) }).get? l = some { cls := .type "list", dict := odict, data := .seq items nl, slots := oslots } := Heap.get?_push_of_some _ o1
        have n1 := F.sub_list_set
        have n2 := F.sub_list_frozenset
        have n3 : (Value.type "list" == Value.type "dict") = false := by decide
        have isl : (s.heap.push { cls := .type "set", dict := none, data := .set #[] 0 (.fresh 0 0 (!w.params.followText "set-order")) }).IsList l items := ⟨_, at2, rfl, nl, rfl⟩
        unfold Builtin.«set.__init__» noKeywords Builtin.Frozenset.updateFrom
        generalize hPI : pyIter = PI
        wp_walk
        subst hPI
        refine wpAny_pyIter_list isl ?_
        refine wpAny_bind (wpAny_runValue ?_)
        have lS : l < s.heap.objs.size := Heap.lt_size o1
        have hh3 : A.in1.in1.in1.handled = none := by simp [hh]
        have sz1 : (s.heap.push { cls := .type "set", dict := none, data := .set #[] 0 (.fresh 0 0 (!w.params.followText "set-order")) }).objs.size = s.heap.objs.size + 1 := Heap.size_push ..
        have ne1 : l ≠ (s.heap.push { cls := .type "set", dict := none, data := .set #[] 0 (.fresh 0 0 (!w.params.followText "set-order")) }).objs.size := Nat.ne_of_lt (sz1.symm ▸ Nat.lt_succ_of_lt lS)
        have ne2 : s.heap.objs.size ∉ [(s.heap.push { cls := .type "set", dict := none, data := .set #[] 0 (.fresh 0 0 (!w.params.followText "set-order")) }).objs.size, l] := by
          rw [sz1]
          simp only [List.mem_cons, List.not_mem_nil, or_false, not_or]
          exact ⟨Nat.ne_of_lt (Nat.lt_succ_self _), Nat.ne_of_gt lS⟩
        refine sx_loop ((Walks.list hh3 _ l ne1 items).toS) s.heap.objs.size ne2 ks len few are (items.size - 0) 0 _ (by omega) (Nat.zero_le _) ⟨⟨_, Heap.get?_push_size _ rfl, rfl, rfl⟩, (isl.push _)⟩ ?one ?all
        case one => exact ⟨0, Nat.le_refl 0, sx_new (Heap.get?_push_of_some _ atS)⟩
        case all =>
          intro s3 c3 mv hc hS
          obtain ⟨h', g2, d', tk', os'⟩ := s3
          have eg : g2 = s.gens := mv.gens
          have ed : d' = s.drawn := mv.drawn
          have eo : os' = s.os := mv.os
          subst eg
          subst ed
          subst eo
          show wpAny _ _ _ _ _ _
          refine wpAny_pure ?_
          show wpAny _ _ (ret Value.none) _ _ _
          refine wpAny_pure ⟨rfl, h', tk', c3, rfl, hS, by omega, fun b o e => ?_⟩
          have lt : b < s.heap.objs.size := Heap.lt_size e
          refine mv.heap b o ?_ (Heap.get?_push_of_some _ (Heap.get?_push_of_some _ e))
          rw [sz1]
          simp only [List.mem_cons, List.not_mem_nil, or_false, not_or]
          exact ⟨Nat.ne_of_lt lt, Nat.ne_of_lt (Nat.lt_succ_of_lt lt)⟩
      · cases r2 with
        | error e => exact hr2
        | ok fl2 =>
          cases fl2 with
          | ret r =>
            obtain ⟨rfl, h', tk, c', rfl, z1, z2, z3⟩ := hr2
            repeat (any_goals (first | assumption | wp_step))
            exact fin _ _ _ z1 z2 z3
          | _ => exact hr2.elim
    | _ => exact hr.elim
/-- sorted of a set whose keys are all read as data by enc -/
theorem sx_sorted {enc : Key → PyData} {Q : Value → Shared → Prop} (R : SX w s.heap a S n) (hh : A.handled = none) (all : ∀ k v, S k → keyIs k v = true → ∃ as, ∀ h : Heap, Reads h v (enc k) as ∧ ∀ b, b ∉ as)
    (alk : ∀ k j, S k → S j → PySem.W.alike (enc k) (enc j) = true) (plain : ∀ k, S k → enc k ≠ .none ∧ ∀ xs, enc k ≠ .tuple xs) (un : A.units + 70 < cLine) (dep : ∀ k, (enc k).depth ≤ 60) (line : n ≤ sizeLine)
    (fin : ∀ s' p (out : List Value) (c : Nat) (ks : List Key), (∀ b o, s.heap.get? b = some o → s'.heap.get? b = some o) → s'.gens = s.gens → s'.os = s.os → s.heap.objs.size ≤ p →
      s'.heap.get? p = some (seqObj "list" out.toArray c) → ks.Nodup → (∀ k, k ∈ ks ↔ S k) → ks.length = n → PySem.W.EachIs (fun v k => keyIs k v = true) out (ks.mergeSort (PySem.W.dataLe false enc)) → Q (.ref p) s') :
    wpAny (model P w) A (call (.builtin "sorted") [.ref a]) Q E s := by
  obtain ⟨o, es, ep, t, ⟨q1, q2, q3⟩, ⟨k1, k2, k3⟩, ⟨few, fit, size⟩, up, led⟩ := R
  refine Calls.call_function_entry PyProof.Rows.kind_sorted PyProof.Rows.plain_sorted PyProof.Rows.entry_sorted (PyProof.Rows.args_sorted1 _) ?_
  unfold Builtin.«sorted»
  refine wpAny_bind (m := checkCount "sorted" 1 1 _) (wpAny_pure ?_)
  refine wpAny_bind (collect_set (A := A.in1) hh ⟨o, q1, q2.1, q3⟩ fit few up led fun s1 vs keep big gens os perm => ?_)
  obtain ⟨ks, p1, p2⟩ : ∃ ks : List Key, ks.Perm (es.toList.map kx) ∧ PySem.W.EachIs (fun v k => keyIs k v = true) vs ks := by
    have key : ∀ l : List Value, (∀ v ∈ l, ∃ k, keyIs k v = true) → PySem.W.EachIs (fun v k => keyIs k v = true) l (l.map fun v => kx (0, v)) := fun l => by
      induction l with
      | nil => exact fun _ => .nil
      | cons v l ih =>
        intro h
        obtain ⟨k, hk⟩ := h v List.mem_cons_self
        exact .cons (by show keyIs (kx (0, v)) v = true; rw [kx_of (e := (0, v)) hk]; exact hk) (ih fun u hu => h u (List.mem_cons_of_mem _ hu))
    refine ⟨vs.map fun v => kx (0, v), ?_, key vs fun v hv => ?_⟩
    · have z := perm.map fun v => kx (0, v)
      rw [List.map_map] at z
      exact z
    · obtain ⟨e, he, rfl⟩ := List.mem_map.mp (perm.mem_iff.mp hv)
      obtain ⟨k, g1, _⟩ := k1 e he
      exact ⟨k, g1⟩
  have inS : ∀ k, k ∈ ks ↔ S k := fun k => by rw [p1.mem_iff, ← k3 k]
  have len1 : ks.length = n := by rw [p1.length_eq, List.length_map, Array.length_toList, size]
  have len2 : vs.length = n := by rw [p2.length, len1]
  refine wpAny_bind (wpAny_newList ?_ (by rw [len2]; exact line))
  have at1 : (s1.heap.push (seqObj "list" vs.toArray 0)).get? s1.heap.objs.size = some (seqObj "list" vs.toArray 0) := Heap.get?_push_size _ rfl
  have reads : ∀ h : Heap, PySem.W.EachIs (fun v k => ∃ as, Reads h v (enc k) as ∧ s1.heap.objs.size ∉ as) vs ks := fun h => by
    have go : ∀ {l : List Value} {m : List Key}, PySem.W.EachIs (fun v k => keyIs k v = true) l m → (∀ k ∈ m, S k) → PySem.W.EachIs (fun v k => ∃ as, Reads h v (enc k) as ∧ s1.heap.objs.size ∉ as) l m := fun {l m} e => by
      induction e with
      | nil => exact fun _ => .nil
      | cons r e ih =>
        intro hS
        obtain ⟨as, ha⟩ := all _ _ (hS _ List.mem_cons_self) r
        exact .cons ⟨as, (ha h).1, (ha h).2 _⟩ (ih fun k hk => hS k (List.mem_cons_of_mem _ hk))
    exact go p2 fun k hk => (inS k).mp hk
  refine wpAny_bind (wpAny_holding (PySem.W.list_sort_data (enc := enc) (R := fun v k => keyIs k v = true) at1 p2 (reads _) (fun d hd e he => ?_) (.inr fun d hd => ?_) (by rw [len1]; exact line) (fun k hk => ?_) fun out ho each => ?_))
  · obtain ⟨k, hk, rfl⟩ := List.mem_map.mp hd
    obtain ⟨j, hj, rfl⟩ := List.mem_map.mp he
    exact alk k j ((inS k).mp hk) ((inS j).mp hj)
  · obtain ⟨k, hk, rfl⟩ := List.mem_map.mp hd
    exact plain k ((inS k).mp hk)
  · have := dep k
    show A.units + 1 + 1 + _ < cLine
    omega
  obtain ⟨c, atp⟩ := PyProof.Rows.sortedHeap_at (vs := vs) (out := out.toArray) at1
  refine wpAny_pure ⟨_, rfl, fin _ s1.heap.objs.size out c ks (fun b u e => ?_) gens os big atp (p1.nodup_iff.mpr k2) inS len1 each⟩
  have z := keep b u e
  have lt := Heap.lt_size z
  show (PyProof.Rows.sortedHeap (s1.heap.push (seqObj "list" vs.toArray 0)) s1.heap.objs.size vs out.toArray).get? b = some u
  rw [PyProof.Rows.sortedHeap_old (Nat.ne_of_lt lt) (by rw [size_push']; exact Nat.lt_succ_of_lt lt)]
  exact Heap.get?_push_of_some _ z
end
/-! rules of the hand layer for them -/
def SXO (w : World) (a : Addr) (S : Key → Prop) (n : Nat) : HO := .ext fun h => SX w h a S n
theorem sxo_new {w : World} {P : Program} {H : Hp} {h : Heap} {a : Addr} {S : Key → Prop} {n : Nat} (R : SX w h a S n) : ObjOk P w H h a (SXO w a S n) := by
  have R0 := R
  obtain ⟨o, es, ep, t, ⟨q, _⟩, _⟩ := R0
  exact ⟨R, ⟨o, q⟩, fun _ _ p k => SX.keep p k⟩
theorem vals_at : ∀ {xs : List V} {us : List Value} {i : Nat} {u : Value}, Vals xs us → us[i]? = some u → ∃ x, xs[i]? = some x ∧ RelV x u
  | _, _, 0, _, .cons r _, h => by
    cases h
    exact ⟨_, rfl, r⟩
  | _, _, i + 1, u, .cons _ t, h => vals_at (i := i) (u := u) t h
theorem vals_keys : ∀ {us : List Value} {ks : List Key}, PySem.W.EachIs (fun v k => keyIs k v = true) us ks → Vals (ks.map kV) us
  | _, _, .nil => .nil
  | _, _, .cons r t => by
    refine .cons ?_ (vals_keys t)
    rcases keyIs_shape r with ⟨i, t, rfl, rfl⟩ | ⟨x, t, rfl, rfl⟩
    · exact ⟨t, rfl⟩
    · exact ⟨t, rfl⟩
def encK : Key → PyData
  | .inl i => .int i
  | .inr x => .str x
def leK : Key → Key → Bool := PySem.W.dataLe false encK
section
variable {X : Cx}
def rSetOf (K : PySem.W.Frag) (w : World) : List V → Hp → VK → Prop := fun xs H Q => ∃ (a : Addr) (ks : List Key), xs = [.ref a] ∧ SqL K H a (ks.map kV) ∧ ks.length ≤ 4000 ∧ ∀ p c o, H p = none → c ≤ ks.length → o = SXO w p (fun j => j ∈ ks) c → Q (.ref p) (upd H p o)
theorem cr_setOf (calm : X.calm = true) : CallR X (.type "set") (rSetOf X.K X.w) := by
  intro pins s σ H vs us Q I r h
  obtain ⟨a, ks, rfl, hs, few, q⟩ := h
  obtain ⟨its, rv, hl, _⟩ := I.list hs
  rw [Vals.ref1 r]
  have len : its.toArray.size = ks.length := by
    have z := rv.length
    rw [List.length_map] at z
    rw [List.size_toArray]
    omega
  refine sx_call (A := X.A) ks (I.ok.hd calm) hl.isList len (fun i v hv => ?_) (show ks.length + 1 < 4096 by omega) fun h' tk c hS cc keep => ?_
  · rw [List.getElem?_toArray] at hv
    obtain ⟨x, h1, h2⟩ := vals_at rv hv
    rw [List.getElem?_map] at h1
    cases e : ks[i]? with
    | none => rw [e] at h1; cases h1
    | some k =>
      rw [e] at h1
      cases Option.some.inj h1
      exact ⟨k, rfl, kV_is (P := X.prog) (w := X.w) h2⟩
  · exact ⟨.ref _, upd H s.heap.objs.size (SXO X.w s.heap.objs.size (fun j => j ∈ ks) c), I.laid (t' := tk) keep (Nat.le_refl _) (sxo_new hS), rfl, q _ _ _ (I.hok.fresh (Nat.le_refl _)) cc rfl⟩
theorem sx_rule {k : Nat} (hr : Room k X.A) (calm : X.calm = true) {pins : List (Addr × Obj)} {s : Shared} {σ : L2.St} {H : Hp} {a : Addr} {S : Key → Prop} {n : Nat} {Q : VK} {E : Value → Shared → Prop} (I : Inv X pins σ H s) (ha : H a = some (SXO X.w a S n))
    (kind : (∀ k, S k → ∃ i, k = .inl i) ∨ ∀ k, S k → ∃ x, k = .inr x) (few : n ≤ 4000) (q : ∀ (ks : List Key) (p : Addr), ks.Nodup → (∀ k, k ∈ ks ↔ S k) → ks.length = n → H p = none → Q (.ref p) (upd H p (.lst ((ks.mergeSort leK).map kV)))) :
    wpAny (model X.prog X.w) X.A (call (.builtin "sorted") [.ref a]) (fun v s' => ∃ x H', Inv X pins σ H' s' ∧ RelV x v ∧ Q x H') E s := by
  have R : SX X.w s.heap a S n := (I.hok a _ ha).1
  have un := hr.un
  refine sx_sorted (enc := encK) R (I.ok.hd calm) (fun k v hk hv => ⟨[], fun h => ⟨?_, fun _ z => nomatch z⟩⟩) (fun k j hk hj => ?_) (fun k hk => ?_) (by omega) (fun k => ?_) (Nat.le_trans few (by decide)) fun s' p out c ks keep gens os hp atp nd mem len each => ?_
  · rcases keyIs_shape hv with ⟨i, t, rfl, rfl⟩ | ⟨x, t, rfl, rfl⟩
    · exact .int i t
    · exact .str x t
  · rcases kind with c | c
    · obtain ⟨i, rfl⟩ := c k hk
      obtain ⟨j, rfl⟩ := c j hj
      rfl
    · obtain ⟨i, rfl⟩ := c k hk
      obtain ⟨j, rfl⟩ := c j hj
      rfl
  · cases k <;> exact ⟨nofun, nofun⟩
  · cases k <;> exact Nat.zero_le _
  have rv := vals_keys each
  have hlen : ((ks.mergeSort leK).map kV).length ≤ sizeLine := by
    rw [List.length_map, List.length_mergeSort, len]
    exact Nat.le_trans few (by decide)
  have hn : H p = none := I.hok.fresh hp
  have J : Inv X pins σ (upd H p (.lst ((ks.mergeSort leK).map kV))) { s with heap := s'.heap, gens := s'.gens, drawn := s'.drawn, toks := s'.toks } :=
    I.call (ch := []) (Un.laid keep hp hn) (I.hok.laid keep hp ⟨hlen, out, c, rv, atp⟩) (by rw [gens]; exact I.bare) (fun _ z => nomatch z)
  have e : s' = { s with heap := s'.heap, gens := s'.gens, drawn := s'.drawn, toks := s'.toks } := by
    cases s'
    cases s
    cases os
    rfl
  rw [e]
  exact ⟨.ref p, _, J, rfl, q ks p nd mem len hn⟩
theorem keys_ints : ∀ ks : List Key, (∀ k ∈ ks, ∃ i, k = .inl i) → ∃ ns : List Int, ks = ns.map Sum.inl
  | [], _ => ⟨[], rfl⟩
  | k :: ks, h => by
    obtain ⟨i, rfl⟩ := h k List.mem_cons_self
    obtain ⟨ns, rfl⟩ := keys_ints ks fun j hj => h j (List.mem_cons_of_mem _ hj)
    exact ⟨i :: ns, rfl⟩
theorem keys_strs : ∀ ks : List Key, (∀ k ∈ ks, ∃ i, k = .inr i) → ∃ ns : List Str, ks = ns.map Sum.inr
  | [], _ => ⟨[], rfl⟩
  | k :: ks, h => by
    obtain ⟨i, rfl⟩ := h k List.mem_cons_self
    obtain ⟨ns, rfl⟩ := keys_strs ks fun j hj => h j (List.mem_cons_of_mem _ hj)
    exact ⟨i :: ns, rfl⟩
theorem nodup_of_map {α β : Type} (f : α → β) : ∀ l : List α, (l.map f).Nodup → l.Nodup
  | [], _ => List.nodup_nil
  | x :: l, h => by
    rw [List.map_cons] at h
    obtain ⟨h1, h2⟩ := List.nodup_cons.mp h
    exact List.nodup_cons.mpr ⟨fun z => h1 (List.mem_map.mpr ⟨x, z, rfl⟩), nodup_of_map f l h2⟩
/-- sorted of a set of ints -/
def rSortSI (w : World) : List V → Hp → VK → Prop := fun xs H Q => ∃ (a : Addr) (S : Key → Prop) (n : Nat) (o : HO), xs = [.ref a] ∧ H a = some o ∧ o = SXO w a S n ∧ (∀ k, S k → ∃ i, k = .inl i) ∧ n ≤ 4000 ∧
  ∀ (ns : List Int) (p : Addr), ns.Pairwise (· < ·) → (∀ i, i ∈ ns ↔ S (.inl i)) → ns.length = n → H p = none → Q (.ref p) (upd H p (.lst (ns.map V.int)))
theorem cr_sortSI {k : Nat} (hr : Room k X.A) (calm : X.calm = true) : CallR X (.builtin "sorted") (rSortSI X.w) := by
  intro pins s σ H vs us Q I r h
  obtain ⟨a, S, n, o, rfl, ha, rfl, kind, few, q⟩ := h
  rw [Vals.ref1 r]
  refine sx_rule hr calm I ha (.inl kind) few fun ks p nd mem len hp => ?_
  obtain ⟨ns, rfl⟩ := keys_ints ks fun k hk => kind k ((mem k).mp hk)
  have le : ∀ a b : Int, leK (.inl a) (.inl b) = decide (a ≤ b) := fun a b => congrFun (congrFun (PySem.W.dataLe_int (β := Int) fun x => x) a) b
  have e : (ns.map Sum.inl).mergeSort leK = (ns.mergeSort fun a b => decide (a ≤ b)).map Sum.inl := (PySem.W.sort_maps (s := leK) Sum.inl (fun a _ b _ => (le a b).symm)).symm
  rw [e, List.map_map]
  have nd2 := nodup_of_map Sum.inl ns nd
  have up := List.pairwise_mergeSort (le := fun (a b : Int) => decide (a ≤ b)) (fun a b c h1 h2 => by rw [decide_eq_true_eq] at *; omega) (fun a b => by rw [Bool.or_eq_true, decide_eq_true_eq, decide_eq_true_eq]; omega) ns
  have nd3 : (ns.mergeSort fun a b => decide (a ≤ b)).Nodup := (List.mergeSort_perm ns _).nodup_iff.mpr nd2
  refine q _ p ((up.and nd3).imp fun {a b} h => ?_) (fun i => ?_) ?_ hp
  · have h1 := of_decide_eq_true h.1
    have h2 := h.2
    omega
  · rw [List.mem_mergeSort, ← mem]
    exact ⟨fun z => List.mem_map.mpr ⟨i, z, rfl⟩, fun z => by
      obtain ⟨j, z1, z2⟩ := List.mem_map.mp z
      cases z2
      exact z1⟩
  · rw [List.length_mergeSort, ← len, List.length_map]
/-- sorted of a set of texts -/
def rSortSS (w : World) : List V → Hp → VK → Prop := fun xs H Q => ∃ (a : Addr) (S : Key → Prop) (n : Nat) (o : HO), xs = [.ref a] ∧ H a = some o ∧ o = SXO w a S n ∧ (∀ k, S k → ∃ i, k = .inr i) ∧ n ≤ 4000 ∧
  ∀ (ns : List Str) (p : Addr), ns.Pairwise sl → (∀ i, i ∈ ns ↔ S (.inr i)) → ns.length = n → H p = none → Q (.ref p) (upd H p (.lst (ns.map V.str)))
theorem cr_sortSS {k : Nat} (hr : Room k X.A) (calm : X.calm = true) : CallR X (.builtin "sorted") (rSortSS X.w) := by
  intro pins s σ H vs us Q I r h
  obtain ⟨a, S, n, o, rfl, ha, rfl, kind, few, q⟩ := h
  rw [Vals.ref1 r]
  refine sx_rule hr calm I ha (.inr kind) few fun ks p nd mem len hp => ?_
  obtain ⟨ns, rfl⟩ := keys_strs ks fun k hk => kind k ((mem k).mp hk)
  have le : ∀ a b : Str, leK (.inr a) (.inr b) = decide (a.cps.toList ≤ b.cps.toList) := fun a b => congrFun (congrFun (PySem.W.dataLe_str (β := Str) fun x => x) a) b
  have e : (ns.map Sum.inr).mergeSort leK = (ns.mergeSort fun a b => decide (a.cps.toList ≤ b.cps.toList)).map Sum.inr := (PySem.W.sort_maps (s := leK) Sum.inr (fun a _ b _ => (le a b).symm)).symm
  rw [e, List.map_map]
  have nd2 := nodup_of_map Sum.inr ns nd
  have up := List.pairwise_mergeSort (le := fun (a b : Str) => decide (a.cps.toList ≤ b.cps.toList)) (fun a b c h1 h2 => by rw [decide_eq_true_eq] at *; exact List.le_trans h1 h2) (fun a b => by rw [Bool.or_eq_true, decide_eq_true_eq, decide_eq_true_eq]; exact List.le_total _ _) ns
  have nd3 : (ns.mergeSort fun a b => decide (a.cps.toList ≤ b.cps.toList)).Nodup := (List.mergeSort_perm ns _).nodup_iff.mpr nd2
  refine q _ p ((up.and nd3).imp fun {a b} h => ?_) (fun i => ?_) ?_ hp
  · have h1 := of_decide_eq_true h.1
    rcases sl_tot a b with z | z | z
    · exact z
    · exact absurd z h.2
    · exact absurd z (List.not_lt.mpr h1)
  · rw [List.mem_mergeSort, ← mem]
    exact ⟨fun z => List.mem_map.mpr ⟨i, z, rfl⟩, fun z => by
      obtain ⟨j, z1, z2⟩ := List.mem_map.mp z
      cases z2
      exact z1⟩
  · rw [List.length_mergeSort, ← len, List.length_map]
end
/-! ### lots of runs, in lists or tuples -/
def SqB (b : Bool) (K : PySem.W.Frag) (H : Hp) (a : Addr) (xs : List V) : Prop := if b = true then SqL K H a xs else SqT K H a xs
def Ita (b : Bool) (K : PySem.W.Frag) (a : Addr) : It := if b = true then Itl K a else Itt K a
theorem SqB.sm {b : Bool} {K : PySem.W.Frag} {H H' : Hp} {a : Addr} {xs : List V} (e : Same H H') (h : SqB b K H a xs) : SqB b K H' a xs := by
  cases b
  · exact SqT.sm e h
  · exact SqL.sm e h
/-- a walk over a list or a tuple, whichever is told ahead -/
def iSeq (K : PySem.W.Frag) (tl : TE) : TI := fun σ H R => ∃ b : Bool, tl σ H fun x H1 => ∃ a, x = .ref a ∧ (∃ xs, SqB b K H1 a xs) ∧ R (Ita b K a) H1
theorem pi_seq {X : Cx} {tg l : Expr} {tl : TE} (hl : PE X l tl) : PI X tg l (iSeq X.K tl) := by
  refine ⟨fun pins s σ H R I h => ?_⟩
  obtain ⟨b, h⟩ := h
  cases b
  · exact (pi_tup hl).run pins s σ H R I h
  · exact (pi_list hl).run pins s σ H R I h
theorem walk_seq {b : Bool} {K : PySem.W.Frag} {a : Addr} {xs : List V} : Walk (Ita b K a) xs.length (fun H => SqB b K H a xs) (YAt xs) := by
  cases b
  · exact walk_tup
  · exact walk_list
def NmOk (x : Str) : Prop := x.length ≤ 8 ∧ (x.cps.toList.all fun c => decide (c < 16 ^ 8)) = true
def RnOk (r : Rn) : Prop := 0 ≤ r.2.1 ∧ r.2.1 < r.2.2 ∧ r.2.2 ≤ 1000000000
def spNames : Sp := fun vs H Q _ => ∃ (f c : Addr) (n : Int), vs = [.ref f] ∧ Fd H f c n ∧ n ≤ 900000 ∧
  ∀ (l : Addr) (xs : List Str) (H' : Hp), Fd H' f c (n + 8) → But f H H' → l ≠ f → l ≠ c → H l = none → H' l = some (.lst (xs.map V.str)) → xs.length = 4 → (∀ x ∈ xs, NmOk x) → Q (.ref l) H'
def spAt : Sp := fun vs H Q _ => ∃ (f c : Addr) (m n : Int), vs = [.ref f, .int m] ∧ Fd H f c n ∧ n ≤ 900000 ∧ 0 < m ∧ m ≤ 1000000 ∧
  ∀ (d : Int) (H' : Hp), 0 ≤ d → d ≤ 999999999 → Fd H' f c (n + 4) → But f H H' → (∀ a, H a = none → H' a = none) → Q (.int d) H'
def spRun : Sp := fun vs H Q _ => ∃ (f c l : Addr) (m n : Int) (xs : List Str), vs = [.ref f, .ref l, .int m] ∧ Fd H f c n ∧ n ≤ 800000 ∧ 0 < m ∧ m ≤ 1000000 ∧ H l = some (.lst (xs.map V.str)) ∧ l ≠ f ∧ 0 < xs.length ∧ xs.length ≤ 10 ∧
  ∀ (t : Addr) (r : Rn) (H' : Hp), Fd H' f c (n + 8) → But f H H' → H t = none → H' t = some (.tup (rnV r)) → RnOk r → r.1 ∈ xs → Q (.ref t) H'
def spLot : Sp := fun vs H Q _ => ∃ (f c l : Addr) (m k n : Int) (xs : List Str), vs = [.ref f, .ref l, .int m, .int k] ∧ Fd H f c n ∧ n ≤ 700000 ∧ 0 < m ∧ m ≤ 1000000 ∧ 2 ≤ k ∧ k ≤ 60 ∧ H l = some (.lst (xs.map V.str)) ∧ l ≠ f ∧ 0 < xs.length ∧ xs.length ≤ 10 ∧
  ∀ (t : Addr) (ps : List Addr) (rs : List Rn) (H' : Hp), Fd H' f c (n + 600) → But f H H' → t ≠ f → t ≠ c → H t = none → H' t = some (.lst (ps.map V.ref)) → Prd H' ps rs → rs.length ≤ 60 → (rs.length : Int) ≤ k → (∀ r ∈ rs, RnOk r ∧ r.1 ∈ xs) → Q (.ref t) H'
def spHas (K : PySem.W.Frag) : Sp := fun vs H Q _ => ∃ (b : Bool) (a : Addr) (s : Str) (n : Int) (ps : List Addr) (rs : List Rn), vs = [.ref a, .str s, .int n] ∧ SqB b K H a (ps.map V.ref) ∧ Prd H ps rs ∧ rs.length ≤ 1000 ∧
  ∀ H', Same H H' → Q (.bl (hasB rs s n)) H'
theorem Prd.but {H H' : Hp} {f c : Addr} {n : Int} {ps : List Addr} {rs : List Rn} (hf : Fd H f c n) (b : But f H H') (h : Prd H ps rs) : Prd H' ps rs := by
  obtain ⟨zs, hz⟩ := hf.at
  refine Prd.keep (fun p hp o e => ?_) h
  obtain ⟨r, _, e2⟩ := Prd.mem h hp
  rw [e2] at e
  cases Option.some.inj e
  exact b p _ (ne_of e2 hz (fun z => nomatch z)) e2
theorem Prd.put {H : Hp} {l : Addr} {xs : List V} {o : HO} {ps : List Addr} {rs : List Rn} (hl : H l = some (.lst xs)) (h : Prd H ps rs) : Prd (upd H l o) ps rs := by
  refine Prd.keep (fun p hp u e => ?_) h
  obtain ⟨r, _, e2⟩ := Prd.mem h hp
  rw [upd_ne (ne_of e2 hl (fun z => nomatch z))]
  exact e
theorem pick_str {xs : List Str} {d : Int} (d0 : 0 ≤ d) (d1 : d < (((xs.map V.str).length : Nat) : Int)) : ∃ s ∈ xs, atI (xs.map V.str) d = some (.str s) := by
  rw [List.length_map] at d1
  obtain ⟨k, rfl⟩ : ∃ k : Nat, d = (k : Int) := ⟨d.toNat, by omega⟩
  have hk : k < xs.length := by omega
  exact ⟨xs[k], List.getElem_mem hk, atI_nat (by rw [List.getElem?_map, List.getElem?_eq_getElem hk]; rfl)⟩
theorem pick_ref {ps : List Addr} {rs : List Rn} {H : Hp} {d : Int} (h : Prd H ps rs) (d0 : 0 ≤ d) (d1 : d < (((ps.map V.ref).length : Nat) : Int)) : ∃ p, ∃ r ∈ rs, atI (ps.map V.ref) d = some (.ref p) ∧ H p = some (.tup (rnV r)) := by
  rw [List.length_map] at d1
  obtain ⟨k, rfl⟩ : ∃ k : Nat, d = (k : Int) := ⟨d.toNat, by omega⟩
  have hk : k < ps.length := by omega
  obtain ⟨r, h1, h2⟩ := Prd.get h (List.getElem?_eq_getElem hk)
  exact ⟨ps[k], r, List.mem_of_getElem? h1, atI_nat (by rw [List.getElem?_map, List.getElem?_eq_getElem hk]; rfl), h2⟩
theorem mulk_ok (ch : Nat) (d : Int) (h0 : 0 ≤ d) (h1 : d < 100) : MulOk ⟨#[ch]⟩ d := by
  refine ⟨?_, fun _ hd => ?_, fun _ _ => ?_⟩
  · simp only [Bool.or_eq_false_iff, decide_eq_false_iff_not]
    constructor <;> omega
  · have e : (⟨#[ch]⟩ : Str).length = 1 := rfl
    rw [e]
    by_cases z : d = 0
    · subst z
      first | omega | simp_all
    · have : (1 : Int) ≤ (2 ^ 63 - 1) / d := by
        rw [Int.le_ediv_iff_mul_le (by omega)]
        omega
      omega
  · have e : (⟨#[ch]⟩ : Str).length = 1 := rfl
    rw [e, Nat.one_mul]
    unfold Builtin.Str.tooLong
    rw [decide_eq_false_iff_not, sizeLine_eq]
    omega
theorem mulk_nm {ch : Nat} (d : Int) (h : ch < 16 ^ 8) (h1 : d ≤ 8) : NmOk (Txt.mul ⟨#[ch]⟩ d) := ⟨len_mul_one rfl h1, mul_chr d h⟩
theorem nm_app {a b : Str} {n m : Nat} (ha : a.length ≤ n ∧ (a.cps.toList.all fun c => decide (c < 16 ^ 8)) = true) (hb : b.length ≤ m ∧ (b.cps.toList.all fun c => decide (c < 16 ^ 8)) = true) (h : n + m ≤ 8) : NmOk (a ++ b) := by
  refine ⟨?_, ?_⟩
  · rw [strLen_append]
    omega
  · have e : (a ++ b).cps.toList = a.cps.toList ++ b.cps.toList := Array.toList_append
    rw [e, List.all_append, ha.2, hb.2]
    rfl
theorem nm_sign {ch : Nat} (h : ch < 16 ^ 8) : (⟨#[ch]⟩ : Str).length ≤ 1 ∧ ((⟨#[ch]⟩ : Str).cps.toList.all fun c => decide (c < 16 ^ 8)) = true := ⟨Nat.le_refl 1, by simp [h]⟩
theorem cut_tail (xs : List V) : cutV xs (some 1) none = xs.tail := by
  have e : HT.sIx xs.length 0 (some ((1 : Nat) : Int)) = min 1 xs.length := HT.sIx_nat _ _ _
  have e : HT.sIx xs.length 0 (some 1) = min 1 xs.length := e
  unfold cutV
  rw [e, HT.sIx_none]
  cases xs with
  | nil => rfl
  | cons x r =>
    have z : min 1 (x :: r).length = 1 := by rw [List.length_cons]; omega
    rw [z, List.length_cons]
    show r.take (r.length + 1 - 1) = r
    rw [Nat.add_sub_cancel, List.take_length]
/-- a lot of runs, in a list (b) or a tuple -/
structure Lt where
  b : Bool
  a : Addr
  ps : List Addr
  rs : List Rn
def LtAt (K : PySem.W.Frag) (H : Hp) (x : Lt) : Prop := SqB x.b K H x.a (x.ps.map V.ref) ∧ Prd H x.ps x.rs ∧ x.rs.length ≤ 200
theorem LtAt.same {K : PySem.W.Frag} {H H' : Hp} {x : Lt} (s : Same H H') (h : LtAt K H x) : LtAt K H' x := ⟨SqB.sm s h.1, Prd.same s h.2.1, h.2.2⟩
def allR (ls : List Lt) : List Rn := ls.flatMap fun x => x.rs
theorem allR_more {ls : List Lt} {i : Nat} {x : Lt} (h : ls[i]? = some x) : allR (ls.take (i + 1)) = allR (ls.take i) ++ x.rs := by
  obtain ⟨hi, e⟩ := List.getElem?_eq_some_iff.mp h
  unfold allR
  rw [List.take_succ_eq_append_getElem hi, List.flatMap_append, e, List.flatMap_singleton]
theorem allR_len {K : PySem.W.Frag} {H : Hp} : ∀ {ls : List Lt}, (∀ x ∈ ls, LtAt K H x) → (allR ls).length ≤ 200 * ls.length
  | [], _ => Nat.le_refl _
  | x :: ls, h => by
    have z := allR_len (ls := ls) fun y hy => h y (List.mem_cons_of_mem _ hy)
    have y := (h x List.mem_cons_self).2.2
    unfold allR at *
    rw [List.flatMap_cons, List.length_append, List.length_cons]
    omega
def endsOf (rs : List Rn) : List Int := rs.flatMap fun r => [r.2.1, r.2.2]
theorem endsOf_app (a b : List Rn) : endsOf (a ++ b) = endsOf a ++ endsOf b := List.flatMap_append
theorem endsOf_len : ∀ rs : List Rn, (endsOf rs).length = 2 * rs.length
  | [] => rfl
  | r :: rs => by
    have z := endsOf_len rs
    unfold endsOf at *
    rw [List.flatMap_cons, List.length_append, z, List.length_cons (as := rs)]
    show 2 + 2 * rs.length = 2 * (rs.length + 1)
    omega
theorem ends_of {rs : List Rn} {ns : List Str} {cs : List Int} (h1 : ∀ s, s ∈ ns ↔ s ∈ rs.map (·.1)) (h2 : ∀ i, i ∈ cs ↔ i ∈ endsOf rs) : Ends rs ns cs := fun r hr => by
  refine ⟨(h1 _).mpr (List.mem_map.mpr ⟨r, hr, rfl⟩), (h2 _).mpr ?_, (h2 _).mpr ?_⟩
  · exact List.mem_flatMap.mpr ⟨r, hr, List.mem_cons_self⟩
  · exact List.mem_flatMap.mpr ⟨r, hr, List.mem_cons_of_mem _ List.mem_cons_self⟩
theorem hasB_all (ls : List Lt) (s : Str) (n : Int) : ((ls.map fun x => hasB x.rs s n).any _root_.id) = hasB (allR ls) s n := by
  unfold hasB allR
  rw [List.any_flatMap, List.any_map]
  rfl
theorem goods_more {P : Str → Int → Bool} {s : Str} {ps : List (Int × Int)} {j : Nat} {p : Int × Int} (h : ps[j]? = some p) : goods P s (ps.take (j + 1)) = goods P s (ps.take j) ++ if P s p.1 = true then [(s, p.1, p.2)] else [] := by
  obtain ⟨hj, e⟩ := List.getElem?_eq_some_iff.mp h
  unfold goods
  rw [List.take_succ_eq_append_getElem hj, List.filter_append, List.map_append, e]
  congr 1
  cases hP : P s p.1 <;> simp [hP]
theorem goods_len {P : Str → Int → Bool} {s : Str} (ps : List (Int × Int)) : (goods P s ps).length ≤ ps.length := by
  unfold goods
  rw [List.length_map]
  exact List.length_filter_le _ _
theorem join_len (acc : List Rn) (r : Rn) : (join acc r).length ≤ acc.length + 1 := by
  rcases nil_or_snoc acc with rfl | ⟨i, l, rfl⟩
  · exact Nat.le_refl _
  · rw [join_snoc]
    split
    · rw [List.length_append, List.length_append, List.length_singleton, List.length_singleton]
      omega
    · rw [List.length_append, List.length_append, List.length_singleton, List.length_singleton]
      omega
theorem fold_join_len : ∀ (l acc : List Rn), (l.foldl join acc).length ≤ acc.length + l.length
  | [], acc => Nat.le_refl _
  | r :: l, acc => by
    have z := fold_join_len l (join acc r)
    have y := join_len acc r
    rw [List.foldl_cons, List.length_cons]
    omega
theorem flat_goods_len {P : Str → Int → Bool} (ps : List (Int × Int)) : ∀ ss : List Str, (ss.flatMap fun s => goods P s ps).length ≤ ss.length * ps.length
  | [] => Nat.zero_le _
  | s :: ss => by
    have z := flat_goods_len (P := P) ps ss
    have y := goods_len (P := P) (s := s) ps
    rw [List.flatMap_cons, List.length_append, List.length_cons, Nat.succ_mul]
    omega
theorem pcs_get {cs : List Int} {j : Nat} {x y : Int} (hx : cs[j]? = some x) (hy : cs.tail[j]? = some y) : (pcs cs)[j]? = some (x, y) := by
  unfold pcs
  rw [List.getElem?_zip_eq_some]
  exact ⟨hx, hy⟩
def spMade (K : PySem.W.Frag) : Sp := fun vs H Q _ => ∃ (l : Addr) (ls : List Lt), vs = [.ref l, .str (("some" : String) : Str)] ∧ SqL K H l (ls.map fun x => V.ref x.a) ∧ (∀ x ∈ ls, LtAt K H x) ∧ 0 < ls.length ∧ ls.length ≤ 3 ∧ Full (allR ls) ∧
  ∀ (t : Addr) (qs : List Addr) (H' : Hp), Same H H' → H t = none → H' t = some (.tup (qs.map V.ref)) → Prd H' qs (runsOf (allR ls)) → Q (.ref t) H'
def dictM (a b c : Bool) : List (Key × V) := [(Sum.inr (("some" : String) : Str), .bl a), (Sum.inr (("all" : String) : Str), .bl b), (Sum.inr (("first" : String) : Str), .bl c)]
theorem rn_fine {r : Rn} (h1 : RnOk r) (h2 : NmOk r.1) : fineD (rnD r) = true ∧ cost (rnD r) ≤ 5000 := by
  obtain ⟨a, b, c⟩ := h1
  refine ⟨?_, ?_⟩
  · show (fineD (.str r.1) && (fineD (.int r.2.1) && (fineD (.int r.2.2) && true))) = true
    have e : fineD (.str r.1) = true := h2.2
    rw [e, int_fine (by omega) (by omega), int_fine (by omega) (by omega)]
    rfl
  · have := h2.1
    simp only [rnD, Pn.cost, costAll]
    omega
theorem rns_fine : ∀ rs : List Rn, (∀ r ∈ rs, RnOk r ∧ NmOk r.1) → fineAll (rs.map rnD) = true ∧ costAll (rs.map rnD) ≤ 5002 * rs.length
  | [], _ => ⟨rfl, Nat.le_refl _⟩
  | r :: rs, h => by
    obtain ⟨z1, z2⟩ := rns_fine rs fun x hx => h x (List.mem_cons_of_mem _ hx)
    obtain ⟨y1, y2⟩ := rn_fine (h r List.mem_cons_self).1 (h r List.mem_cons_self).2
    refine ⟨?_, ?_⟩
    · rw [List.map_cons]
      unfold fineAll
      rw [y1, z1]
      rfl
    · rw [List.map_cons, List.length_cons]
      unfold costAll
      omega
theorem rns_depth (rs : List Rn) : PyData.depthAll (rs.map rnD) ≤ 2 := by
  induction rs with
  | nil => simp [PyData.depthAll]
  | cons r l ih =>
    rw [List.map_cons]
    simp only [PyData.depthAll, rnD, PyData.depth] at *
    omega
def lotD (rs : List Rn) : PyData := .list (rs.map rnD)
theorem lot_show {rs : List Rn} (h : ∀ r ∈ rs, RnOk r ∧ NmOk r.1) (hl : rs.length ≤ 60) : (lotD rs).showable = true ∧ (lotD rs).hasDict = false ∧ (lotD rs).depth ≤ 60 ∧ (lotD rs).shown.length ≤ sizeLine := by
  obtain ⟨z1, z2⟩ := rns_fine rs h
  have f : fineD (lotD rs) = true := z1
  have c := shown_cost _ f
  have e : cost (lotD rs) = costAll (rs.map rnD) + 3 := rfl
  have d := rns_depth rs
  obtain ⟨s1, s2⟩ := fine_show _ f
  refine ⟨s1, s2, ?_, Nat.le_trans c (Nat.le_trans (show _ ≤ 1000000 by omega) (by decide))⟩
  simp only [lotD, PyData.depth]
  omega
theorem lot_dp {K : PySem.W.Frag} {H : Hp} {t : Addr} {ps : List Addr} {rs : List Rn} (h : H t = some (.lst (ps.map V.ref))) (hp : Prd H ps rs) : Dp K H (.ref t) (lotD rs) := .lst (SqL.of h) (Prd.dp hp)
theorem Prd.rev {H : Hp} : ∀ {ps : List Addr} {rs : List Rn}, Prd H ps rs → Prd H ps.reverse rs.reverse
  | _, _, .nil => .nil
  | _, _, .cons a b => by
    rw [List.reverse_cons, List.reverse_cons]
    exact Prd.app (Prd.rev b) (Prd.one a)
theorem Prd.take {H : Hp} : ∀ {ps : List Addr} {rs : List Rn} (n : Nat), Prd H ps rs → Prd H (ps.take n) (rs.take n)
  | _, _, 0, _ => .nil
  | _, _, _ + 1, .nil => .nil
  | _, _, n + 1, .cons a b => .cons a (Prd.take n b)
theorem one_lot {K : PySem.W.Frag} {H : Hp} {x : Lt} (h : LtAt K H x) : ∀ y ∈ [x], LtAt K H y := fun y hy => by
  rw [List.mem_singleton.mp hy]
  exact h
theorem all_one (x : Lt) : allR [x] = x.rs := List.flatMap_singleton ..
theorem Nice.up : ∀ {n : Nat} {d : PyData}, Nice n d → Nice (n + 1) d
  | 0, _, h => Or.inl h
  | n + 1, _, h => by
    rcases h with h | ⟨ds, h1, h2, h3⟩
    · exact Or.inl h
    · exact Or.inr ⟨ds, h1, h2, fun e he => Nice.up (h3 e he)⟩
/-! ### both, less: pure, and what they have -/
/-- (a, i) ≤ (b, j) as Python has it -/
def lexLe (a : Str) (i : Int) (b : Str) (j : Int) : Bool := !PySem.W.dataLt (.tuple [.str b, .int j]) (.tuple [.str a, .int i])
theorem lexLe_iff (a : Str) (i : Int) (b : Str) (j : Int) : lexLe a i b j = true ↔ sl a b ∨ (a = b ∧ i ≤ j) := by
  unfold lexLe
  rw [PySem.W.dataLt_pair (by simp [PySem.W.alike]) (by simp [PySem.W.alike]), PySem.W.dataLt_str, PySem.W.dataLt_int]
  simp only [PyData.eqv, beq_iff_eq]
  by_cases e : b = a
  · subst e
    rw [if_pos rfl]
    by_cases e2 : j = i
    · subst e2
      rw [if_pos rfl]
      exact ⟨fun _ => .inr ⟨rfl, Int.le_refl _⟩, fun _ => rfl⟩
    · rw [if_neg e2, Bool.not_eq_true', decide_eq_false_iff_not]
      constructor
      · intro h
        exact .inr ⟨rfl, by omega⟩
      · rintro (h | ⟨_, h⟩)
        · exact (sl_irr _ h).elim
        · omega
  · rw [if_neg e, Bool.not_eq_true', decide_eq_false_iff_not]
    constructor
    · intro h
      rcases sl_tot a b with z | z | z
      · exact .inl z
      · exact absurd z.symm e
      · exact absurd z h
    · rintro (h | ⟨h, _⟩) z
      · exact sl_as h z
      · exact e h.symm
theorem lexLe_not {a : Str} {i : Int} {b : Str} {j : Int} (h : ¬ lexLe a i b j = true) : sl b a ∨ (a = b ∧ j < i) := by
  rw [lexLe_iff] at h
  rcases sl_tot a b with z | z | z
  · exact absurd (.inl z) h
  · exact .inr ⟨z, Int.not_le.mp fun k => h (.inr ⟨z, k⟩)⟩
  · exact .inl z
def mx (a b : Int) : Int := if b > a then b else a
def mn (a b : Int) : Int := if b < a then b else a
theorem mx_is (a b : Int) : (mx a b = a ∧ b ≤ a) ∨ (mx a b = b ∧ a ≤ b) := by
  unfold mx
  split <;> omega
theorem mn_is (a b : Int) : (mn a b = a ∧ a ≤ b) ∨ (mn a b = b ∧ b ≤ a) := by
  unfold mn
  split <;> omega
def meet (x y : Rn) : List Rn := if x.1 = y.1 ∧ mx x.2.1 y.2.1 < mn x.2.2 y.2.2 then [(x.1, mx x.2.1 y.2.1, mn x.2.2 y.2.2)] else []
def bothL : List Rn → List Rn → List Rn
  | x :: a, y :: b => meet x y ++ if lexLe x.1 x.2.2 y.1 y.2.2 = true then bothL a (y :: b) else bothL (x :: a) b
  | [], _ => []
  | _ :: _, [] => []
termination_by a b => a.length + b.length
theorem both_cons (x : Rn) (a : List Rn) (y : Rn) (b : List Rn) : bothL (x :: a) (y :: b) = meet x y ++ if lexLe x.1 x.2.2 y.1 y.2.2 = true then bothL a (y :: b) else bothL (x :: a) b := by
  rw [bothL]
theorem both_nil (b : List Rn) : bothL [] b = [] := by rw [bothL]
theorem both_nil2 (a : List Rn) : bothL a [] = [] := by cases a <;> rw [bothL]
theorem meet_in {x y r : Rn} : r ∈ meet x y ↔ x.1 = y.1 ∧ r.1 = x.1 ∧ r.2.1 = mx x.2.1 y.2.1 ∧ r.2.2 = mn x.2.2 y.2.2 ∧ r.2.1 < r.2.2 := by
  unfold meet
  split
  · rename_i h
    rw [List.mem_singleton]
    constructor
    · rintro rfl
      exact ⟨h.1, rfl, rfl, rfl, h.2⟩
    · rintro ⟨_, h1, h2, h3, _⟩
      exact Prod.ext h1 (Prod.ext h2 h3)
  · rename_i h
    refine ⟨fun z => (nomatch z), ?_⟩
    rintro ⟨h0, h1, h2, h3, h4⟩
    exact (h ⟨h0, by omega⟩).elim
theorem both_in : ∀ (a b : List Rn) (r : Rn), r ∈ bothL a b → ∃ u ∈ a, ∃ v ∈ b, r ∈ meet u v
  | [], b, r, h => by rw [both_nil] at h; exact nomatch h
  | x :: a, [], r, h => by rw [both_nil2] at h; exact nomatch h
  | x :: a, y :: b, r, h => by
    rw [both_cons] at h
    rcases List.mem_append.mp h with h | h
    · exact ⟨x, List.mem_cons_self, y, List.mem_cons_self, h⟩
    · split at h
      · obtain ⟨u, hu, v, hv, z⟩ := both_in a (y :: b) r h
        exact ⟨u, List.mem_cons_of_mem _ hu, v, hv, z⟩
      · obtain ⟨u, hu, v, hv, z⟩ := both_in (x :: a) b r h
        exact ⟨u, hu, v, List.mem_cons_of_mem _ hv, z⟩
termination_by a b => a.length + b.length
theorem meet_apart {x y u v r s : Rn} (hr : r ∈ meet x y) (hs : s ∈ meet u v) (h : apart x u = true ∨ apart y v = true) : apart r s = true := by
  obtain ⟨r0, r1, r2, r3, r4⟩ := meet_in.mp hr
  obtain ⟨s0, s1, s2, s3, s4⟩ := meet_in.mp hs
  have m1 := mx_is u.2.1 v.2.1
  have m2 := mn_is x.2.2 y.2.2
  rw [apart_iff]
  rcases h with h | h
  · rcases (apart_iff _ _).mp h with ⟨e, k⟩ | k
    · exact .inl ⟨r1.trans (e.trans s1.symm), by omega⟩
    · exact .inr (by rw [r1, s1]; exact k)
  · rcases (apart_iff _ _).mp h with ⟨e, k⟩ | k
    · exact .inl ⟨r1.trans (r0.trans (e.trans (s0.symm.trans s1.symm))), by omega⟩
    · exact .inr (by rw [r1, s1, r0, s0]; exact k)
theorem has_one {r : Rn} {l : List Rn} {s : Str} {n : Int} (h : r ∈ l) (k : r.1 = s ∧ r.2.1 ≤ n ∧ n < r.2.2) : has l s n := ⟨r, h, k⟩
theorem meet_has (x y : Rn) (s : Str) (n : Int) : has (meet x y) s n ↔ (x.1 = s ∧ x.2.1 ≤ n ∧ n < x.2.2) ∧ (y.1 = s ∧ y.2.1 ≤ n ∧ n < y.2.2) := by
  have m1 := mx_is x.2.1 y.2.1
  have m2 := mn_is x.2.2 y.2.2
  constructor
  · rintro ⟨r, h, k1, k2, k3⟩
    obtain ⟨r0, r1, r2, r3, r4⟩ := meet_in.mp h
    exact ⟨⟨r1.symm.trans k1, by omega, by omega⟩, ⟨r0.symm.trans (r1.symm.trans k1), by omega, by omega⟩⟩
  · rintro ⟨⟨k1, k2, k3⟩, ⟨j1, j2, j3⟩⟩
    exact ⟨(x.1, mx x.2.1 y.2.1, mn x.2.2 y.2.2), meet_in.mpr ⟨k1.trans j1.symm, rfl, rfl, rfl, by show mx _ _ < mn _ _; omega⟩, k1, by show mx _ _ ≤ n; omega, by show n < mn _ _; omega⟩
theorem both_ok : ∀ (a b : List Rn), Canon a → Canon b → Canon (bothL a b) ∧ ∀ s n, has (bothL a b) s n ↔ has a s n ∧ has b s n
  | [], b, _, _ => by
    rw [both_nil]
    exact ⟨canon_nil, fun s n => ⟨fun h => (has_nil _ _ h).elim, fun h => (has_nil _ _ h.1).elim⟩⟩
  | x :: a, [], _, _ => by
    rw [both_nil2]
    exact ⟨canon_nil, fun s n => ⟨fun h => (has_nil _ _ h).elim, fun h => (has_nil _ _ h.2).elim⟩⟩
  | x :: a, y :: b, ha, hb => by
    rw [both_cons]
    by_cases c : lexLe x.1 x.2.2 y.1 y.2.2 = true
    · rw [if_pos c]
      obtain ⟨i1, i2⟩ := both_ok a (y :: b) ha.tail hb
      rw [lexLe_iff] at c
      refine ⟨⟨List.pairwise_append.mpr ⟨?_, i1.1, fun r hr t ht => ?_⟩, fun r hr => ?_⟩, fun s n => ?_⟩
      · unfold meet
        split
        · exact List.pairwise_singleton _ _
        · exact .nil
      · obtain ⟨u, hu, v, hv, z⟩ := both_in _ _ _ ht
        exact meet_apart hr z (.inl ((List.pairwise_cons.mp ha.1).1 u hu))
      · rcases List.mem_append.mp hr with hr | hr
        · exact (meet_in.mp hr).2.2.2.2
        · exact i1.2 r hr
      · rw [has_app, i2, meet_has, has_cons x a, has_cons y b]
        constructor
        · rintro (⟨h1, h2⟩ | ⟨h1, h2⟩)
          · exact ⟨.inl h1, .inl h2⟩
          · exact ⟨.inr h1, h2⟩
        · rintro ⟨h1 | h1, h2⟩
          · rcases h2 with h2 | h2
            · exact .inl ⟨h1, h2⟩
            · exfalso
              rcases canon_first hb h2 with ⟨e, k⟩ | k
              · rcases c with c | ⟨c1, c2⟩
                · rw [h1.1, e] at c
                  exact sl_irr _ c
                · omega
              · rcases c with c | ⟨c1, c2⟩
                · exact sl_as c (h1.1 ▸ k)
                · rw [← c1, h1.1] at k
                  exact sl_irr _ k
          · exact .inr ⟨h1, h2⟩
    · rw [if_neg c]
      obtain ⟨i1, i2⟩ := both_ok (x :: a) b ha hb.tail
      have c := lexLe_not c
      refine ⟨⟨List.pairwise_append.mpr ⟨?_, i1.1, fun r hr t ht => ?_⟩, fun r hr => ?_⟩, fun s n => ?_⟩
      · unfold meet
        split
        · exact List.pairwise_singleton _ _
        · exact .nil
      · obtain ⟨u, hu, v, hv, z⟩ := both_in _ _ _ ht
        exact meet_apart hr z (.inr ((List.pairwise_cons.mp hb.1).1 v hv))
      · rcases List.mem_append.mp hr with hr | hr
        · exact (meet_in.mp hr).2.2.2.2
        · exact i1.2 r hr
      · rw [has_app, i2, meet_has, has_cons x a, has_cons y b]
        constructor
        · rintro (⟨h1, h2⟩ | ⟨h1, h2⟩)
          · exact ⟨.inl h1, .inl h2⟩
          · exact ⟨h1, .inr h2⟩
        · rintro ⟨h1, h2 | h2⟩
          · rcases h1 with h1 | h1
            · exact .inl ⟨h1, h2⟩
            · exfalso
              rcases canon_first ha h1 with ⟨e, k⟩ | k
              · rcases c with c | ⟨c1, c2⟩
                · rw [h2.1, e] at c
                  exact sl_irr _ c
                · omega
              · rcases c with c | ⟨c1, c2⟩
                · exact sl_as c (h2.1 ▸ k)
                · rw [c1, h2.1] at k
                  exact sl_irr _ k
          · exact .inr ⟨h1, h2⟩
termination_by a b => a.length + b.length
/-! less -/
def tailL (s : Str) (lo hi : Int) : List Rn := if lo < hi then [(s, lo, hi)] else []
def leftL (s : Str) (hi : Int) : Int → List Rn → List Rn
  | lo, [] => tailL s lo hi
  | lo, o :: os => if o.1 = s ∧ o.2.1 < hi then tailL s lo o.2.1 ++ leftL s hi o.2.2 os else tailL s lo hi
def skipL (s : Str) (lo : Int) (b : List Rn) : List Rn := b.dropWhile fun o => lexLe o.1 o.2.2 s lo
def lessL : List Rn → List Rn → List Rn
  | [], _ => []
  | x :: a, b => leftL x.1 x.2.2 x.2.1 (skipL x.1 x.2.1 b) ++ lessL a (skipL x.1 x.2.1 b)
theorem tail_in {s : Str} {lo hi : Int} {r : Rn} : r ∈ tailL s lo hi ↔ r = (s, lo, hi) ∧ lo < hi := by
  unfold tailL
  split
  · rename_i h
    rw [List.mem_singleton]
    exact ⟨fun z => ⟨z, h⟩, fun z => z.1⟩
  · rename_i h
    exact ⟨fun z => (nomatch z), fun z => (h z.2).elim⟩
theorem tail_has (s : Str) (lo hi : Int) (t : Str) (n : Int) : has (tailL s lo hi) t n ↔ t = s ∧ lo ≤ n ∧ n < hi := by
  constructor
  · rintro ⟨r, h, k1, k2, k3⟩
    obtain ⟨rfl, h2⟩ := tail_in.mp h
    exact ⟨k1.symm, k2, k3⟩
  · rintro ⟨rfl, k2, k3⟩
    exact ⟨(t, lo, hi), tail_in.mpr ⟨rfl, by omega⟩, rfl, k2, k3⟩
/-- what stands first isn't all ahead of it -/
def Ahd (s : Str) (lo : Int) (b : List Rn) : Prop := ∀ o os, b = o :: os → sl s o.1 ∨ (o.1 = s ∧ lo < o.2.2)
theorem left_ok : ∀ (b : List Rn) (s : Str) (lo hi : Int), Canon b → Ahd s lo b →
    ((leftL s hi lo b).Pairwise (fun a b => apart a b = true) ∧ ∀ r ∈ leftL s hi lo b, r.1 = s ∧ lo ≤ r.2.1 ∧ r.2.1 < r.2.2 ∧ r.2.2 ≤ hi) ∧ ∀ t n, has (leftL s hi lo b) t n ↔ t = s ∧ lo ≤ n ∧ n < hi ∧ ¬ has b t n
  | [], s, lo, hi, _, _ => by
    refine ⟨⟨?_, fun r hr => ?_⟩, fun t n => ?_⟩
    · show (tailL s lo hi).Pairwise _
      unfold tailL
      split
      · exact List.pairwise_singleton _ _
      · exact .nil
    · obtain ⟨rfl, h⟩ := tail_in.mp hr
      exact ⟨rfl, Int.le_refl _, h, Int.le_refl _⟩
    · show has (tailL s lo hi) t n ↔ _
      rw [tail_has]
      exact ⟨fun ⟨h1, h2, h3⟩ => ⟨h1, h2, h3, has_nil _ _⟩, fun ⟨h1, h2, h3, _⟩ => ⟨h1, h2, h3⟩⟩
  | o :: os, s, lo, hi, hb, hh => by
    have fo := hb.2 o List.mem_cons_self
    unfold leftL
    by_cases c : o.1 = s ∧ o.2.1 < hi
    · rw [if_pos c]
      have lo2 : lo < o.2.2 := by
        rcases hh o os rfl with z | z
        · exact (sl_irr _ (c.1 ▸ z)).elim
        · exact z.2
      obtain ⟨⟨i1, i2⟩, i3⟩ := left_ok os s o.2.2 hi hb.tail (fun p ps e => by
        subst e
        rcases (apart_iff _ _).mp ((List.pairwise_cons.mp hb.1).1 p List.mem_cons_self) with ⟨e, k⟩ | k
        · have := hb.2 p (List.mem_cons_of_mem _ List.mem_cons_self)
          exact .inr ⟨e.symm.trans c.1, by omega⟩
        · exact .inl (c.1 ▸ k))
      refine ⟨⟨List.pairwise_append.mpr ⟨?_, i1, fun x hx y hy => ?_⟩, fun r hr => ?_⟩, fun t n => ?_⟩
      · unfold tailL
        split
        · exact List.pairwise_singleton _ _
        · exact .nil
      · obtain ⟨rfl, h⟩ := tail_in.mp hx
        obtain ⟨j1, j2, j3, j4⟩ := i2 y hy
        rw [apart_iff]
        exact .inl ⟨j1.symm, show o.2.1 < y.2.1 by omega⟩
      · rcases List.mem_append.mp hr with hr | hr
        · obtain ⟨rfl, h⟩ := tail_in.mp hr
          exact ⟨rfl, Int.le_refl _, h, show o.2.1 ≤ hi by omega⟩
        · obtain ⟨j1, j2, j3, j4⟩ := i2 r hr
          exact ⟨j1, by omega, j3, j4⟩
      · rw [has_app, tail_has, i3, has_cons]
        constructor
        · rintro (⟨h1, h2, h3⟩ | ⟨h1, h2, h3, h4⟩)
          · refine ⟨h1, h2, by omega, ?_⟩
            rintro (z | z)
            · omega
            · rcases canon_first hb z with ⟨_, z⟩ | z
              · omega
              · rw [c.1, h1] at z
                exact sl_irr _ z
          · refine ⟨h1, by omega, h3, ?_⟩
            rintro (z | z)
            · omega
            · exact h4 z
        · rintro ⟨h1, h2, h3, h4⟩
          by_cases d : n < o.2.1
          · exact .inl ⟨h1, h2, d⟩
          · refine .inr ⟨h1, ?_, h3, fun z => h4 (.inr z)⟩
            by_cases d2 : n < o.2.2
            · exact (h4 (.inl ⟨c.1.trans h1.symm, by omega, d2⟩)).elim
            · omega
    · rw [if_neg c]
      refine ⟨⟨?_, fun r hr => ?_⟩, fun t n => ?_⟩
      · unfold tailL
        split
        · exact List.pairwise_singleton _ _
        · exact .nil
      · obtain ⟨rfl, h⟩ := tail_in.mp hr
        exact ⟨rfl, Int.le_refl _, h, Int.le_refl _⟩
      · rw [tail_has]
        refine ⟨fun ⟨h1, h2, h3⟩ => ⟨h1, h2, h3, fun z => ?_⟩, fun ⟨h1, h2, h3, _⟩ => ⟨h1, h2, h3⟩⟩
        subst h1
        rcases hh o os rfl with k | ⟨k1, k2⟩
        · rcases (has_cons _ _ _ _).mp z with z | z
          · rw [z.1] at k
            exact sl_irr _ k
          · rcases canon_first hb z with ⟨e, _⟩ | z
            · rw [e] at k
              exact sl_irr _ k
            · exact sl_as k z
        · have k3 : hi ≤ o.2.1 := Int.not_lt.mp fun z => c ⟨k1, z⟩
          rcases (has_cons _ _ _ _).mp z with z | z
          · omega
          · rcases canon_first hb z with ⟨_, z⟩ | z
            · omega
            · rw [k1] at z
              exact sl_irr _ z
theorem canon_drop {b : List Rn} (h : Canon b) (f : Rn → Bool) : Canon (b.dropWhile f) := by
  have z := List.dropWhile_suffix f (l := b)
  exact ⟨h.1.sublist z.sublist, fun r hr => h.2 r (z.subset hr)⟩
theorem skip_ahd (s : Str) (lo : Int) (b : List Rn) : Ahd s lo (skipL s lo b) := fun o os e => by
  have z := List.head?_dropWhile_not (fun o : Rn => lexLe o.1 o.2.2 s lo) b
  unfold skipL at e
  rw [e] at z
  have z : lexLe o.1 o.2.2 s lo = false := z
  exact lexLe_not (by rw [z]; decide)
theorem skip_has : ∀ (b : List Rn) (s : Str) (lo : Int) (t : Str) (n : Int), ((t = s ∧ lo ≤ n) ∨ sl s t) → (has (skipL s lo b) t n ↔ has b t n)
  | [], _, _, _, _, _ => Iff.rfl
  | o :: b, s, lo, t, n, h => by
    unfold skipL
    rw [List.dropWhile_cons]
    split
    · rename_i c
      rw [lexLe_iff] at c
      refine (skip_has b s lo t n h).trans ?_
      rw [has_cons]
      refine ⟨.inr, ?_⟩
      rintro (⟨k1, k2, k3⟩ | k)
      · exfalso
        rcases c with c | ⟨c1, c2⟩ <;> rcases h with ⟨h1, h2⟩ | h
        · rw [k1, h1] at c
          exact sl_irr _ c
        · exact sl_as (k1 ▸ c) h
        · omega
        · rw [← c1, k1] at h
          exact sl_irr _ h
      · exact k
    · exact Iff.rfl
theorem less_ok : ∀ (a b : List Rn), Canon a → Canon b → Canon (lessL a b) ∧ (∀ r ∈ lessL a b, ∃ u ∈ a, r.1 = u.1 ∧ u.2.1 ≤ r.2.1 ∧ r.2.2 ≤ u.2.2) ∧ ∀ s n, has (lessL a b) s n ↔ has a s n ∧ ¬ has b s n
  | [], b, _, _ => ⟨canon_nil, fun _ h => (nomatch h), fun s n => ⟨fun h => (has_nil _ _ h).elim, fun h => (has_nil _ _ h.1).elim⟩⟩
  | x :: a, b, ha, hb => by
    unfold lessL
    have hb2 : Canon (skipL x.1 x.2.1 b) := canon_drop hb _
    obtain ⟨⟨l1, l2⟩, l3⟩ := left_ok (skipL x.1 x.2.1 b) x.1 x.2.1 x.2.2 hb2 (skip_ahd _ _ _)
    obtain ⟨i1, i2, i3⟩ := less_ok a (skipL x.1 x.2.1 b) ha.tail hb2
    have fx := ha.2 x List.mem_cons_self
    refine ⟨⟨List.pairwise_append.mpr ⟨l1, i1.1, fun r hr t ht => ?_⟩, fun r hr => ?_⟩, fun r hr => ?_, fun s n => ?_⟩
    · obtain ⟨j1, j2, j3, j4⟩ := l2 r hr
      obtain ⟨u, hu, k1, k2, k3⟩ := i2 t ht
      rw [apart_iff]
      rcases (apart_iff _ _).mp ((List.pairwise_cons.mp ha.1).1 u hu) with ⟨e, k⟩ | k
      · exact .inl ⟨j1.trans (e.trans k1.symm), by omega⟩
      · exact .inr (by rw [j1, k1]; exact k)
    · rcases List.mem_append.mp hr with hr | hr
      · exact (l2 r hr).2.2.1
      · exact i1.2 r hr
    · rcases List.mem_append.mp hr with hr | hr
      · obtain ⟨j1, j2, j3, j4⟩ := l2 r hr
        exact ⟨x, List.mem_cons_self, j1, j2, j4⟩
      · obtain ⟨u, hu, k⟩ := i2 r hr
        exact ⟨u, List.mem_cons_of_mem _ hu, k⟩
    · rw [has_app, l3, i3, has_cons]
      constructor
      · rintro (⟨h1, h2, h3, h4⟩ | ⟨h1, h2⟩)
        · subst h1
          exact ⟨.inl ⟨rfl, h2, h3⟩, fun z => h4 ((skip_has b _ _ _ _ (.inl ⟨rfl, h2⟩)).mpr z)⟩
        · refine ⟨.inr h1, fun z => h2 ((skip_has b _ _ _ _ ?_).mpr z)⟩
          rcases canon_first ha h1 with ⟨e, k⟩ | k
          · exact .inl ⟨e.symm, by omega⟩
          · exact .inr k
      · rintro ⟨⟨k1, k2, k3⟩ | h1, h2⟩
        · refine .inl ⟨k1.symm, k2, k3, fun z => h2 ((skip_has b _ _ _ _ (.inl ⟨k1.symm, k2⟩)).mp z)⟩
        · refine .inr ⟨h1, fun z => h2 ((skip_has b _ _ _ _ ?_).mp z)⟩
          rcases canon_first ha h1 with ⟨e, k⟩ | k
          · exact .inl ⟨e.symm, by omega⟩
          · exact .inr k
/-! ### rules and promises of together, both, less -/
def rLeP (K : PySem.W.Frag) : R2 := fun x y H Q => ∃ (a b : Addr) (s t : Str) (i j : Int), x = .ref a ∧ y = .ref b ∧ SqT K H a [.str s, .int i] ∧ SqT K H b [.str t, .int j] ∧ Q (.bl (lexLe s i t j)) H
theorem op_leP {X : Cx} {k : Nat} (hr : Room k X.A) : OpR X (compareOp .LtE) (rLeP X.K) := by
  intro pins s σ H x y v u Q I rx ry h
  obtain ⟨a, b, p, q, i, j, rfl, rfl, ha, hb, q'⟩ := h
  have un := hr.un
  obtain ⟨as, r1⟩ := Dp.reads I (.tuple [.str p, .int i]) (.ref a) _ (.tup ha (.cons (.str _) (.cons (.int _) .nil))) rx
  obtain ⟨bs, r2⟩ := Dp.reads I (.tuple [.str q, .int j]) (.ref b) _ (.tup hb (.cons (.str _) (.cons (.int _) .nil))) ry
  refine PySem.W.le_data r1 r2 (by simp [PySem.W.alike, PySem.W.alikeAll]) nofun ?_ ⟨.bl _, H, I, rfl, q'⟩
  simp only [PyData.depth, PyData.depthAll]
  omega
/-- runs in a tuple -/
def TpAt (K : PySem.W.Frag) (H : Hp) (t : Addr) (rs : List Rn) : Prop := ∃ qs : List Addr, SqT K H t (qs.map V.ref) ∧ Prd H qs rs
theorem TpAt.same {K : PySem.W.Frag} {H H' : Hp} {t : Addr} {rs : List Rn} (s : Same H H') (h : TpAt K H t rs) : TpAt K H' t rs := by
  obtain ⟨qs, h1, h2⟩ := h
  exact ⟨qs, SqT.sm s h1, Prd.same s h2⟩
theorem TpAt.of {K : PySem.W.Frag} {H : Hp} {t : Addr} {qs : List Addr} {rs : List Rn} (h : H t = some (.tup (qs.map V.ref))) (k : Prd H qs rs) : TpAt K H t rs := ⟨qs, SqT.of h, k⟩
theorem TpAt.dp {K : PySem.W.Frag} {H : Hp} {t : Addr} {rs : List Rn} (h : TpAt K H t rs) : Dp K H (.ref t) (rnsD rs) := by
  obtain ⟨qs, h1, h2⟩ := h
  exact .tup h1 (Prd.dp h2)
/-- a def of two RUNS that tells RUNS -/
def spTwo (K : PySem.W.Frag) (F : List Rn → List Rn → List Rn) : Sp := fun vs H Q _ => ∃ (a b : Addr) (rs ts : List Rn), vs = [.ref a, .ref b] ∧ TpAt K H a rs ∧ TpAt K H b ts ∧ rs.length ≤ 3000 ∧ ts.length ≤ 3000 ∧
  ∀ (t : Addr) (qs : List Addr) (H' : Hp), Same H H' → H t = none → H' t = some (.tup (qs.map V.ref)) → Prd H' qs (F rs ts) → Q (.ref t) H'
def togL (a b : List Rn) : List Rn := runsOf (a ++ b)
def spLeft (K : PySem.W.Frag) : Sp := fun vs H Q _ => ∃ (x b : Addr) (k : Nat) (r : Rn) (ts : List Rn), vs = [.ref x, .ref b, .int k] ∧ H x = some (.tup (rnV r)) ∧ TpAt K H b ts ∧ ts.length ≤ 3000 ∧ k ≤ ts.length ∧
  ∀ (t : Addr) (qs : List Addr) (H' : Hp), Same H H' → H t = none → H' t = some (.lst (qs.map V.ref)) → Prd H' qs (leftL r.1 r.2.2 r.2.1 (ts.drop k)) → Q (.ref t) H'
theorem left_len (s : Str) (hi : Int) : ∀ (b : List Rn) (lo : Int), (leftL s hi lo b).length ≤ b.length + 1
  | [], lo => by
    show (tailL s lo hi).length ≤ 1
    unfold tailL
    split
    · exact Nat.le_refl 1
    · exact Nat.zero_le 1
  | o :: b, lo => by
    unfold leftL
    have t1 : ∀ x y : Int, (tailL s x y).length ≤ 1 := fun x y => by
      unfold tailL
      split
      · exact Nat.le_refl 1
      · exact Nat.zero_le 1
    split
    · have z := left_len s hi b o.2.2
      have y := t1 lo o.2.1
      rw [List.length_append, List.length_cons]
      omega
    · have y := t1 lo hi
      rw [List.length_cons]
      omega
theorem drop_at {α : Type} {l : List α} {k : Nat} {x : α} (h : l[k]? = some x) : l.drop k = x :: l.drop (k + 1) := by
  obtain ⟨hk, e⟩ := List.getElem?_eq_some_iff.mp h
  rw [List.drop_eq_getElem_cons hk, e]
theorem drop_end {α : Type} {l : List α} {k : Nat} (h : l.length ≤ k) : l.drop k = [] := List.drop_eq_nil_of_le h
/-- the run at place k of RUNS -/
theorem tp_at {H : Hp} {qs : List Addr} {rs : List Rn} (h : Prd H qs rs) {k : Nat} (hk : k < rs.length) : ∃ p r, atI (qs.map V.ref) (k : Int) = some (.ref p) ∧ rs[k]? = some r ∧ H p = some (.tup (rnV r)) := by
  have hk2 : k < qs.length := by rw [h.len]; exact hk
  obtain ⟨r, h1, h2⟩ := Prd.get h (List.getElem?_eq_getElem hk2)
  exact ⟨qs[k], r, atI_nat (by rw [List.getElem?_map, List.getElem?_eq_getElem hk2]; rfl), h1, h2⟩
def rEqP (K : PySem.W.Frag) (neg : Bool) : R2 := fun x y H Q => ∃ d e, Dp K H x d ∧ Dp K H y e ∧ d.plain = true ∧ e.plain = true ∧ d.depth ≤ 60 ∧ Q (.bl (xor neg (PyData.eqv d e))) H
theorem op_eqP {X : Cx} {k : Nat} (hr : Room k X.A) : OpR X (compareOp .Eq) (rEqP X.K false) := by
  intro pins s σ H x y v u Q I rx ry h
  obtain ⟨d, e, hd, he, p1, p2, dep, q⟩ := h
  have un := hr.un
  obtain ⟨as, r1⟩ := Dp.reads I d x v hd rx
  obtain ⟨bs, r2⟩ := Dp.reads I e y u he ry
  rw [Bool.false_xor] at q
  exact PySem.SeqAt.eq_plain r1 r2 p1 p2 (by omega) ⟨.bl _, H, I, rfl, q⟩
theorem op_neP {X : Cx} {k : Nat} (hr : Room k X.A) : OpR X (compareOp .NotEq) (rEqP X.K true) := by
  intro pins s σ H x y v u Q I rx ry h
  obtain ⟨d, e, hd, he, p1, p2, dep, q⟩ := h
  have un := hr.un
  obtain ⟨as, r1⟩ := Dp.reads I d x v hd rx
  obtain ⟨bs, r2⟩ := Dp.reads I e y u he ry
  rw [Bool.true_xor] at q
  exact PySem.SeqAt.ne_plain r1 r2 p1 p2 (by omega) ⟨.bl _, H, I, rfl, q⟩
theorem rns_plain (rs : List Rn) : (rnsD rs).plain = true := by
  have all : ∀ l : List Rn, PyData.plainAll (l.map rnD) = true := fun l => by
    induction l with
    | nil => rfl
    | cons r l ih =>
      rw [List.map_cons]
      simp only [PyData.plainAll, ih, rnD, PyData.plain, Bool.and_self]
  exact all rs
theorem rns_eqv : ∀ a b : List Rn, PyData.eqv (rnsD a) (rnsD b) = decide (a = b)
  | [], [] => rfl
  | [], y :: b => by simp [rnsD, PyData.eqv, PyData.eqvAll]
  | x :: a, [] => by simp [rnsD, PyData.eqv, PyData.eqvAll]
  | x :: a, y :: b => by
    have ih := rns_eqv a b
    have e : PyData.eqv (rnsD (x :: a)) (rnsD (y :: b)) = (PyData.eqv (rnD x) (rnD y) && PyData.eqv (rnsD a) (rnsD b)) := by
      unfold rnsD
      rw [List.map_cons, List.map_cons]
      simp only [PyData.eqv, PyData.eqvAll]
    have e2 : PyData.eqv (rnD x) (rnD y) = decide (x = y) := by
      obtain ⟨x1, x2, x3⟩ := x
      obtain ⟨y1, y2, y3⟩ := y
      rw [Bool.eq_iff_iff]
      simp [rnD, PyData.eqv, PyData.eqvAll]
    rw [e, ih, e2, Bool.eq_iff_iff]
    simp
theorem rnsD_depth (rs : List Rn) : (rnsD rs).depth ≤ 60 := by
  have z := rns_depth rs
  simp only [rnsD, PyData.depth]
  omega
theorem both_len : ∀ a b : List Rn, (bothL a b).length ≤ a.length + b.length
  | [], b => by rw [both_nil]; exact Nat.zero_le _
  | x :: a, [] => by rw [both_nil2]; exact Nat.zero_le _
  | x :: a, y :: b => by
    rw [both_cons, List.length_append]
    have m : (meet x y).length ≤ 1 := by
      unfold meet
      split
      · exact Nat.le_refl 1
      · exact Nat.zero_le 1
    split
    · have z := both_len a (y :: b)
      rw [List.length_cons (as := b)] at z
      rw [List.length_cons, List.length_cons]
      omega
    · have z := both_len (x :: a) b
      rw [List.length_cons (as := a)] at z
      rw [List.length_cons, List.length_cons]
      omega
termination_by a b => a.length + b.length
theorem skip_len (s : Str) (lo : Int) (b : List Rn) : (skipL s lo b).length ≤ b.length := (List.dropWhile_suffix _).sublist.length_le
/-- pieces left of all: no more than runs of both -/
theorem less_len : ∀ a b : List Rn, (lessL a b).length ≤ (a.length) * (b.length + 1)
  | [], b => Nat.zero_le _
  | x :: a, b => by
    unfold lessL
    have z1 := left_len x.1 x.2.2 (skipL x.1 x.2.1 b) x.2.1
    have z2 := less_len a (skipL x.1 x.2.1 b)
    have z3 := skip_len x.1 x.2.1 b
    have z4 : a.length * ((skipL x.1 x.2.1 b).length + 1) ≤ a.length * (b.length + 1) := Nat.mul_le_mul (Nat.le_refl _) (by omega)
    rw [List.length_append, List.length_cons, Nat.succ_mul]
    omega
def spWithin (K : PySem.W.Frag) : Sp := fun vs H Q _ => ∃ (a b : Addr) (rs ts : List Rn), vs = [.ref a, .ref b] ∧ TpAt K H a rs ∧ TpAt K H b ts ∧ rs.length ≤ 3000 ∧ ts.length ≤ 3000 ∧
  ∀ H', Same H H' → Q (.bl (decide (lessL rs ts = []))) H'
def ofL (s : Str) (rs : List Rn) : List Rn := rs.filter fun r => decide (r.1 = s)
def spOfs (K : PySem.W.Frag) : Sp := fun vs H Q _ => ∃ (a : Addr) (s : Str) (rs : List Rn), vs = [.ref a, .str s] ∧ TpAt K H a rs ∧ rs.length ≤ 3000 ∧
  ∀ (t : Addr) (qs : List Addr) (H' : Hp), Same H H' → H t = none → H' t = some (.tup (qs.map V.ref)) → Prd H' qs (ofL s rs) → Q (.ref t) H'
/-! ### the three of k04 -/
def rTupOf (K : PySem.W.Frag) : List V → Hp → VK → Prop := fun xs H Q => ∃ p ys, xs = [V.ref p] ∧ ((SqL K H p ys ∧ ∀ l, H l = none → Q (V.ref l) (upd H l (.tup ys))) ∨ SqT K H p ys ∧ Q (V.ref p) H)
def Pq (rs ts : List Rn) (q : Nat) (s : Str) (n : Int) : Bool := if q = 0 then hasB rs s n || hasB ts s n else if q = 1 then hasB rs s n && hasB ts s n else hasB rs s n && !hasB ts s n
def dueL (rs ts : List Rn) (q : Nat) : List Rn := if q = 0 then togL rs ts else if q = 1 then bothL rs ts else lessL rs ts
/-- t + u, whichever tuple that is -/
def rCatU (K : PySem.W.Frag) : R2 := fun x y H Q => ∃ a b xs ys, x = .ref a ∧ y = .ref b ∧ SqT K H a xs ∧ SqT K H b ys ∧ xs.length + ys.length ≤ sizeLine ∧ ∀ W H', Same H H' → SqT K H' W (xs ++ ys) → Q (.ref W) H'
theorem op_catU {X : Cx} : OpR X (binaryOp .Add) (rCatU X.K) := by
  intro pins s σ H x y v u Q I rx ry h
  obtain ⟨a, b, xs, ys, rfl, rfl, ha, hb, hl, q⟩ := h
  refine op_catA pins s σ H _ _ v u Q I rx ry ⟨a, b, xs, ys, rfl, rfl, ha, hb, hl, fun e => ?_, fun _ e => ?_, fun _ _ p hp => ?_⟩
  · subst e
    exact q b H (Same.refl _) hb
  · subst e
    exact q a H (Same.refl _) (by rw [List.append_nil]; exact ha)
  · exact q p _ (same_new hp _) (SqT.of upd_same)
theorem three_made {rs ts : List Rn} {ns : List Str} {cs : List Int} (hr : Canon rs) (ht : Canon ts) (h1 : Ends rs ns cs) (h2 : Ends ts ns cs) (hn : ns.Pairwise sl) (hc : cs.Pairwise (· < ·)) (q : Nat) : mades (Pq rs ts q) ns cs = dueL rs ts q := by
  obtain ⟨y1, y2⟩ := mades_ok (P := Pq rs ts q) hn hc (fun s p n k1 k2 k3 => by
    unfold Pq
    rw [hasB_flat h1 hc k1 k2 k3, hasB_flat h2 hc k1 k2 k3]) (fun s n h => by
    unfold Pq at h
    split at h
    · rcases Bool.or_eq_true_iff.mp h with h | h
      · exact hasB_only h1 hc h
      · exact hasB_only h2 hc h
    · split at h
      · exact hasB_only h1 hc (Bool.and_eq_true_iff.mp h).1
      · exact hasB_only h1 hc (Bool.and_eq_true_iff.mp h).1)
  unfold dueL
  unfold Pq at y1 y2 ⊢
  split
  · rename_i e
    simp only [if_pos e] at y1 y2 ⊢
    have full : Full (rs ++ ts) := fun r hr' => by
      rcases List.mem_append.mp hr' with z | z
      · exact hr.2 r z
      · exact ht.2 r z
    exact (runsOf_eq full y1 fun s n => by rw [y2, has_app, Bool.or_eq_true, hasB_iff, hasB_iff]).symm
  · rename_i e
    simp only [if_neg e] at y1 y2 ⊢
    split
    · rename_i e2
      simp only [if_pos e2] at y1 y2 ⊢
      obtain ⟨b1, b2⟩ := both_ok rs ts hr ht
      exact canon_uniq y1 b1 fun s n => by rw [y2, b2, Bool.and_eq_true, hasB_iff, hasB_iff]
    · rename_i e2
      simp only [if_neg e2] at y1 y2 ⊢
      obtain ⟨b1, _, b2⟩ := less_ok rs ts hr ht
      refine canon_uniq y1 b1 fun s n => ?_
      rw [y2, b2, Bool.and_eq_true, hasB_iff, Bool.not_eq_true', ← Bool.not_eq_true, hasB_iff]
theorem ends_of2 {rs : List Rn} {ns : List Str} {cs : List Int} (h1 : ∀ s, s ∈ ns ↔ s ∈ rs.map (·.1)) (h2 : ∀ i, i ∈ cs ↔ i ∈ rs.map (·.2.1) ++ rs.map (·.2.2)) : Ends rs ns cs := fun r hr => by
  refine ⟨(h1 _).mpr (List.mem_map.mpr ⟨r, hr, rfl⟩), (h2 _).mpr ?_, (h2 _).mpr ?_⟩
  · exact List.mem_append_left _ (List.mem_map.mpr ⟨r, hr, rfl⟩)
  · exact List.mem_append_right _ (List.mem_map.mpr ⟨r, hr, rfl⟩)
theorem Ends.left {a b : List Rn} {ns : List Str} {cs : List Int} (h : Ends (a ++ b) ns cs) : Ends a ns cs := fun r hr => h r (List.mem_append_left _ hr)
theorem Ends.right {a b : List Rn} {ns : List Str} {cs : List Int} (h : Ends (a ++ b) ns cs) : Ends b ns cs := fun r hr => h r (List.mem_append_right _ hr)
/-- what stands in part q when j pieces of the i-th series are looked at -/
def stL (rs ts : List Rn) (ss : List Str) (cs : List Int) (q i j : Nat) (s : Str) : List Rn := (((ss.take i).flatMap fun s => goods (Pq rs ts q) s (pcs cs)) ++ goods (Pq rs ts q) s ((pcs cs).take j)).foldl join []
def spThree (K : PySem.W.Frag) : Sp := fun vs H Q _ => ∃ (a b : Addr) (rs ts : List Rn), vs = [.ref a, .ref b] ∧ TpAt K H a rs ∧ TpAt K H b ts ∧ Canon rs ∧ Canon ts ∧ rs.length ≤ 1000 ∧ ts.length ≤ 1000 ∧
  ∀ (D t0 t1 t2 : Addr) (H' : Hp), Same H H' → H D = none → H' D = some (.lst [.ref t0, .ref t1, .ref t2]) → TpAt K H' t0 (togL rs ts) → TpAt K H' t1 (bothL rs ts) → TpAt K H' t2 (lessL rs ts) → Q (.ref D) H'
/-- good RUNS in a tuple -/
structure Rg (K : PySem.W.Frag) (H : Hp) (t : Addr) (rs : List Rn) (n : Nat) : Prop where
  tp : TpAt K H t rs
  ca : Canon rs
  len : rs.length ≤ n
  ok : ∀ r ∈ rs, RnOk r ∧ NmOk r.1
theorem Rg.same {K : PySem.W.Frag} {H H' : Hp} {t : Addr} {rs : List Rn} {n : Nat} (s : Same H H') (h : Rg K H t rs n) : Rg K H' t rs n := ⟨h.tp.same s, h.ca, h.len, h.ok⟩
theorem Rg.mono {K : PySem.W.Frag} {H : Hp} {t : Addr} {rs : List Rn} {n m : Nat} (h : Rg K H t rs n) (l : n ≤ m) : Rg K H t rs m := ⟨h.tp, h.ca, Nat.le_trans h.len l, h.ok⟩
theorem push_all {acc : List Rn} {r : Rn} (h : ∀ x ∈ acc, RnOk x ∧ NmOk x.1) (hr : RnOk r ∧ NmOk r.1) : ∀ x ∈ push acc r, RnOk x ∧ NmOk x.1 := by
  rcases nil_or_snoc acc with rfl | ⟨i, l, rfl⟩
  · intro x hx
    rw [List.mem_singleton.mp (show x ∈ [r] from hx)]
    exact hr
  · rw [push_snoc]
    split
    · intro x hx
      rcases List.mem_append.mp hx with hx | hx
      · exact h x hx
      · rw [List.mem_singleton.mp hx]
        exact hr
    · intro x hx
      rcases List.mem_append.mp hx with hx | hx
      · exact h x (List.mem_append_left _ hx)
      · rw [List.mem_singleton.mp hx]
        obtain ⟨⟨a1, a2, a3⟩, a4⟩ := h l (List.mem_append_right _ List.mem_cons_self)
        obtain ⟨⟨b1, b2, b3⟩, b4⟩ := hr
        refine ⟨⟨a1, ?_, ?_⟩, a4⟩
        · show l.2.1 < if r.2.2 > l.2.2 then r.2.2 else l.2.2
          split <;> omega
        · show (if r.2.2 > l.2.2 then r.2.2 else l.2.2) ≤ _
          split <;> omega
theorem runsOf_all {rs : List Rn} (h : ∀ x ∈ rs, RnOk x ∧ NmOk x.1) : ∀ x ∈ runsOf rs, RnOk x ∧ NmOk x.1 := by
  have all : ∀ (l acc : List Rn), (∀ x ∈ l, RnOk x ∧ NmOk x.1) → (∀ x ∈ acc, RnOk x ∧ NmOk x.1) → ∀ x ∈ l.foldl push acc, RnOk x ∧ NmOk x.1 := fun l => by
    induction l with
    | nil => exact fun _ _ h => h
    | cons r l ih => exact fun acc h1 h2 => ih _ (fun x hx => h1 x (List.mem_cons_of_mem _ hx)) (push_all h2 (h1 r List.mem_cons_self))
  exact all _ [] (fun x hx => h x (List.mem_mergeSort.mp hx)) fun _ h => nomatch h
theorem both_all {a b : List Rn} (ha : ∀ x ∈ a, RnOk x ∧ NmOk x.1) (hb : ∀ x ∈ b, RnOk x ∧ NmOk x.1) : ∀ x ∈ bothL a b, RnOk x ∧ NmOk x.1 := fun x hx => by
  obtain ⟨u, hu, v, hv, z⟩ := both_in a b x hx
  obtain ⟨r0, r1, r2, r3, r4⟩ := meet_in.mp z
  obtain ⟨⟨a1, a2, a3⟩, a4⟩ := ha u hu
  obtain ⟨⟨b1, b2, b3⟩, _⟩ := hb v hv
  have m1 := mx_is u.2.1 v.2.1
  have m2 := mn_is u.2.2 v.2.2
  exact ⟨⟨by omega, r4, by omega⟩, r1 ▸ a4⟩
theorem less_all {a b : List Rn} (ca : Canon a) (cb : Canon b) (ha : ∀ x ∈ a, RnOk x ∧ NmOk x.1) : ∀ x ∈ lessL a b, RnOk x ∧ NmOk x.1 := fun x hx => by
  obtain ⟨z1, z2, _⟩ := less_ok a b ca cb
  obtain ⟨u, hu, k1, k2, k3⟩ := z2 x hx
  obtain ⟨⟨a1, a2, a3⟩, a4⟩ := ha u hu
  exact ⟨⟨by omega, z1.2 x hx, by omega⟩, k1 ▸ a4⟩
/-- less has no more runs than both together -/
theorem left_len2 (s : Str) (hi : Int) : ∀ (b : List Rn) (lo : Int), ∃ k, k ≤ b.length ∧ (leftL s hi lo b).length ≤ k + 1 := fun b lo => ⟨b.length, Nat.le_refl _, left_len s hi b lo⟩
def spRight3 (K : PySem.W.Frag) : Sp := fun vs H Q _ => ∃ (a b : Addr) (rs ts : List Rn), vs = [.ref a, .ref b] ∧ Rg K H a rs 1000 ∧ Rg K H b ts 1000 ∧ (lessL rs ts).length ≤ 100000 ∧ ∀ H', Same H H' → Q (.bl true) H'
theorem pair_show {a b : List Rn} (ha : ∀ r ∈ a, RnOk r ∧ NmOk r.1) (hb : ∀ r ∈ b, RnOk r ∧ NmOk r.1) (la : a.length ≤ 1000) (lb : b.length ≤ 1000) :
    (PyData.tuple [rnsD a, rnsD b]).showable = true ∧ (PyData.tuple [rnsD a, rnsD b]).hasDict = false ∧ (PyData.tuple [rnsD a, rnsD b]).depth ≤ 60 ∧ (PyData.tuple [rnsD a, rnsD b]).shown.length ≤ sizeLine := by
  obtain ⟨x1, x2⟩ := rns_fine a ha
  obtain ⟨y1, y2⟩ := rns_fine b hb
  have f : fineD (.tuple [rnsD a, rnsD b]) = true := by
    show (fineAll (a.map rnD) && (fineAll (b.map rnD) && true)) = true
    rw [x1, y1]
    rfl
  have c := shown_cost _ f
  have e : cost (.tuple [rnsD a, rnsD b]) = ((costAll (a.map rnD) + 3) + 2 + ((costAll (b.map rnD) + 3) + 2 + 0)) + 3 := rfl
  have d1 := rns_depth a
  have d2 := rns_depth b
  obtain ⟨s1, s2⟩ := fine_show _ f
  refine ⟨s1, s2, ?_, Nat.le_trans c (Nat.le_trans (show _ ≤ 11000000 by omega) (by decide))⟩
  simp only [rnsD, PyData.depth, PyData.depthAll]
  omega
theorem stL_more {rs ts : List Rn} {ss : List Str} {cs : List Int} {q i j : Nat} {s : Str} {p : Int × Int} (h : (pcs cs)[j]? = some p) : stL rs ts ss cs q i (j + 1) s = if Pq rs ts q s p.1 = true then join (stL rs ts ss cs q i j s) (s, p.1, p.2) else stL rs ts ss cs q i j s := by
  unfold stL
  rw [goods_more h]
  split
  · rw [← List.append_assoc, List.foldl_append]
    rfl
  · rw [List.append_nil]
theorem stL_next {rs ts : List Rn} {ss : List Str} {cs : List Int} {q i : Nat} {s s' : Str} (h : ss[i]? = some s) : stL rs ts ss cs q i (pcs cs).length s = stL rs ts ss cs q (i + 1) 0 s' := by
  obtain ⟨hi, e⟩ := List.getElem?_eq_some_iff.mp h
  unfold stL
  rw [List.take_length, List.take_succ_eq_append_getElem hi, List.flatMap_append, e, List.flatMap_singleton]
  have z : goods (Pq rs ts q) s' ((pcs cs).take 0) = [] := rfl
  rw [z, List.append_nil]
theorem stL_end {rs ts : List Rn} {ss : List Str} {cs : List Int} {q : Nat} {s : Str} : stL rs ts ss cs q ss.length 0 s = mades (Pq rs ts q) ss cs := by
  unfold stL mades
  have z : goods (Pq rs ts q) s ((pcs cs).take 0) = [] := rfl
  rw [List.take_length, z, List.append_nil]
theorem stL_len {rs ts : List Rn} {ss : List Str} {cs : List Int} {q i j : Nat} {s : Str} (h1 : ss.length ≤ 2000) (h2 : cs.length ≤ 4000) : (stL rs ts ss cs q i j s).length < sizeLine := by
  have z0 := fold_join_len (((ss.take i).flatMap fun s => goods (Pq rs ts q) s (pcs cs)) ++ goods (Pq rs ts q) s ((pcs cs).take j)) []
  have z1 := flat_goods_len (P := Pq rs ts q) (pcs cs) (ss.take i)
  have z2 := goods_len (P := Pq rs ts q) (s := s) ((pcs cs).take j)
  have z3 := pcs_len cs
  rw [List.length_take] at z1 z2
  have z4 : min i ss.length * (pcs cs).length ≤ 2000 * 4000 := Nat.mul_le_mul (by omega) (by omega)
  rw [List.length_append, List.length_nil] at z0
  unfold stL
  exact Nat.lt_of_le_of_lt (show _ ≤ 9000000 by omega) (by decide)
def A3 (p0 p1 p2 : Addr) (q : Nat) : Addr := if q = 0 then p0 else if q = 1 then p1 else p2
theorem all3 {T : Nat → Prop} (h0 : T 0) (h1 : T 1) (h2 : T 2) : ∀ q, q < 3 → T q := fun q hq => by
  rcases (show q = 0 ∨ q = 1 ∨ q = 2 by omega) with rfl | rfl | rfl
  · exact h0
  · exact h1
  · exact h2
/-! ### a call of a def that is told that no repr is under way -/
theorem FnG.mono {P : Program} {w : World} {K : PySem.W.Frag} {mg : Str → Option Value} {base : Heap} {j k : Nat} {f : Addr} {fd : FuncData} {ps : List Str} {sp : Sp} (F : FnG P w K mg base j f fd ps sp) (h : j ≤ k) : FnG P w K mg base k f fd ps sp :=
  ⟨F.len, fun A outer s H args us vs Q E room => F.run A outer s H args us vs Q E (room.mono h)⟩
theorem pe_callG {X : Cx} {k : Nat} {f : Addr} {fd : FuncData} {ps : List Str} {sp : Sp} {x : Str} {ds : List Value} {dvs : List V} {E : XK} {e : Expr} {es : List Expr} {t : TA} {p pos : Pos}
    (F : FnG X.prog X.w X.K X.mg X.base k f fd ps sp) (gu : X.A.guards = some []) (room : Room k X.A) (gl : Gl X x) (hm : X.mg x = some (.ref f)) (kp : PySem.W.keepIn X.K (.ref f) = true) (bi : Binds X.K fd ps ds) (hd : Vals dvs ds) (pass : Passes CX0 X E)
    (ha : PA X (e :: es) t) (ndb : (x == ("__debug__" : Str)) = false := by decide) (st : starEach (e :: es) X.env = (false, eval e X.env) :: starEach es X.env := by rfl) (np : (backTo pos (starEach es X.env)).any (·.1) = false := by rfl) :
    PE X (.Call (.Name x p) (e :: es) [] pos) (tCall sp dvs E t) := by
  constructor
  intro pins s σ H Q I wish
  refine wpAny_Call_Name_kw (ld_glob I gl hm ?_ ndb)
  refine PySem.W.callWith_K (h₀ := X.base) I.ok.mod.kin kp (thn (ha.run pos pins s σ H _ I wish) fun us s1 ⟨vs, H1, I1, rel, q⟩ => ⟨I1.kIn, ?_⟩) st np
  have rel2 : Vals (vs ++ dvs) (us ++ ds) := rel.append hd
  have len : (us ++ ds).length = ps.length := rel2.length.symm.trans (F.len _ _ _ _ q)
  refine wpAny_call (codeAny_mono (F.run X.A X.stack s1 H1 ⟨us, []⟩ (us ++ ds) (vs ++ dvs) Q E room gu I1.env0 (bi s1 us I1.kIn len) rel2 q) fun res s2 told => ?_)
  match res, told with
  | .error er, told => exact pass pins σ H1 s1 er s2 I1 told
  | .ok (.ret u), told => exact I1.after told
  | .ok .next, told => exact told.elim
  | .ok .brk, told => exact told.elim
  | .ok .cont, told => exact told.elim
/-! ### what leads where: walks, the going by way of each place, the search by widths -/
abbrev Ed := Str × Str
def Wlk (E : List Ed) : Nat → Str → Str → Prop
  | 0, x, y => x = y
  | n + 1, x, y => ∃ z, Wlk E n x z ∧ (z, y) ∈ E
theorem wlk_app {E : List Ed} {n : Nat} {x z : Str} (h : Wlk E n x z) : ∀ {m : Nat} {y : Str}, Wlk E m z y → Wlk E (n + m) x y
  | 0, _, k => by
    cases (show z = _ from k)
    exact h
  | m + 1, _, ⟨u, k1, k2⟩ => ⟨u, wlk_app h k1, k2⟩
def Least (E : List Ed) (x y : Str) (n : Nat) : Prop := Wlk E n x y ∧ ∀ m, Wlk E m x y → n ≤ m
theorem least_one {E : List Ed} {x y : Str} {n m : Nat} (h : Least E x y n) (k : Least E x y m) : n = m := Nat.le_antisymm (h.2 m k.1) (k.2 n h.1)
abbrev Ap := Str → Str → Option Nat
structure FwOk (E : List Ed) (V : Str → Prop) (S : Str → Prop) (d : Ap) : Prop where
  sound : ∀ x y n, d x y = some n → Wlk E n x y
  refl : ∀ x, V x → d x x = some 0
  edge : ∀ x y, (x, y) ∈ E → ∃ n, d x y = some n ∧ n ≤ 1
  tri : ∀ z, S z → ∀ x y a b, d x z = some a → d z y = some b → ∃ n, d x y = some n ∧ n ≤ a + b
  dom : ∀ x y n, d x y = some n → V x ∧ V y
def fwMin (o : Option Nat) (n : Nat) : Nat := match o with
  | some c => if n < c then n else c
  | none => n
def fwStep (d : Ap) (v : Str) : Ap := fun x y => match d x v, d v y with
  | some a, some b => some (fwMin (d x y) (a + b))
  | _, _ => d x y
theorem fw_val {d : Ap} {v x y : Str} {a b : Nat} (h1 : d x v = some a) (h2 : d v y = some b) : fwStep d v x y = some (fwMin (d x y) (a + b)) := by
  unfold fwStep
  rw [h1, h2]
theorem fw_none {d : Ap} {v x y : Str} (h : d x v = none ∨ d v y = none) : fwStep d v x y = d x y := by
  unfold fwStep
  rcases h with h | h
  · rw [h]
  · rw [h]
    cases d x v <;> rfl
theorem fwMin_le (o : Option Nat) (n : Nat) : fwMin o n ≤ n ∧ (∀ c, o = some c → fwMin o n ≤ c) ∧ (fwMin o n = n ∨ o = some (fwMin o n)) := by
  unfold fwMin
  cases o with
  | none => exact ⟨Nat.le_refl _, fun _ h => (nomatch h), .inl rfl⟩
  | some c =>
    dsimp only
    split
    · exact ⟨Nat.le_refl _, fun c' h => by cases h; omega, .inl rfl⟩
    · exact ⟨by omega, fun c' h => by cases h; omega, .inr rfl⟩
theorem fw_le {d : Ap} {v x y : Str} {c : Nat} (h : d x y = some c) : ∃ n, fwStep d v x y = some n ∧ n ≤ c := by
  cases h1 : d x v with
  | none => exact ⟨c, (fw_none (.inl h1)).trans h, Nat.le_refl _⟩
  | some a =>
    cases h2 : d v y with
    | none => exact ⟨c, (fw_none (.inr h2)).trans h, Nat.le_refl _⟩
    | some b => exact ⟨_, fw_val h1 h2, (fwMin_le _ _).2.1 c h⟩
theorem fw_via {d : Ap} {v x y : Str} {a b : Nat} (h1 : d x v = some a) (h2 : d v y = some b) : ∃ n, fwStep d v x y = some n ∧ n ≤ a + b := ⟨_, fw_val h1 h2, (fwMin_le _ _).1⟩
theorem fw_cases {d : Ap} {v x y : Str} {n : Nat} (h : fwStep d v x y = some n) : d x y = some n ∨ ∃ a b, d x v = some a ∧ d v y = some b ∧ n = a + b := by
  cases h1 : d x v with
  | none => exact .inl ((fw_none (.inl h1)).symm.trans h)
  | some a =>
    cases h2 : d v y with
    | none => exact .inl ((fw_none (.inr h2)).symm.trans h)
    | some b =>
      have e := (fw_val h1 h2).symm.trans h
      have e := Option.some.inj e
      rcases (fwMin_le (d x y) (a + b)).2.2 with z | z
      · exact .inr ⟨a, b, rfl, rfl, e.symm.trans z⟩
      · rw [e] at z
        exact .inl z
theorem fw_ok {E : List Ed} {V S : Str → Prop} {d : Ap} {v : Str} (h : FwOk E V S d) (hv : V v) : FwOk E V (fun z => S z ∨ z = v) (fwStep d v) where
  sound := fun x y n e => by
    rcases fw_cases e with z | ⟨a, b, z1, z2, rfl⟩
    · exact h.sound x y n z
    · exact wlk_app (h.sound _ _ _ z1) (h.sound _ _ _ z2)
  refl := fun x hx => by
    obtain ⟨n, e, l⟩ := fw_le (v := v) (h.refl x hx)
    rw [e, Nat.le_zero.mp l]
  edge := fun x y e => by
    obtain ⟨n, e1, l1⟩ := h.edge x y e
    obtain ⟨m, e2, l2⟩ := fw_le (v := v) e1
    exact ⟨m, e2, by omega⟩
  tri := fun z hz x y a b e1 e2 => by
    have c1 := fw_cases e1
    have c2 := fw_cases e2
    rcases hz with hz | rfl
    · rcases c1 with c1 | ⟨p, q, p1, p2, rfl⟩ <;> rcases c2 with c2 | ⟨r, s, r1, r2, rfl⟩
      · obtain ⟨n, n1, n2⟩ := h.tri z hz x y a b c1 c2
        obtain ⟨m, m1, m2⟩ := fw_le (v := v) n1
        exact ⟨m, m1, by omega⟩
      · obtain ⟨n, n1, n2⟩ := h.tri z hz x v a r c1 r1
        obtain ⟨m, m1, m2⟩ := fw_via n1 r2
        exact ⟨m, m1, by omega⟩
      · obtain ⟨n, n1, n2⟩ := h.tri z hz v y q b p2 c2
        obtain ⟨m, m1, m2⟩ := fw_via p1 n1
        exact ⟨m, m1, by omega⟩
      · obtain ⟨m, m1, m2⟩ := fw_via p1 r2
        exact ⟨m, m1, by omega⟩
    · have d1 : ∃ a', d x z = some a' ∧ a' ≤ a := by
        rcases c1 with c1 | ⟨p, q, p1, p2, rfl⟩
        · exact ⟨a, c1, Nat.le_refl _⟩
        · exact ⟨p, p1, by omega⟩
      have d2 : ∃ b', d z y = some b' ∧ b' ≤ b := by
        rcases c2 with c2 | ⟨p, q, p1, p2, rfl⟩
        · exact ⟨b, c2, Nat.le_refl _⟩
        · exact ⟨q, p2, by omega⟩
      obtain ⟨a', a1, a2⟩ := d1
      obtain ⟨b', b1, b2⟩ := d2
      obtain ⟨m, m1, m2⟩ := fw_via a1 b1
      exact ⟨m, m1, by omega⟩
  dom := fun x y n e => by
    rcases fw_cases e with z | ⟨a, b, z1, z2, rfl⟩
    · exact h.dom x y n z
    · exact ⟨(h.dom _ _ _ z1).1, (h.dom _ _ _ z2).2⟩
theorem fw_end {E : List Ed} {V S : Str → Prop} {d : Ap} (h : FwOk E V S d) (all : ∀ x, V x → S x) {x : Str} (hx : V x) : ∀ {n : Nat} {y : Str}, Wlk E n x y → ∃ m, d x y = some m ∧ m ≤ n
  | 0, _, k => by
    cases (show x = _ from k)
    exact ⟨0, h.refl x hx, Nat.le_refl _⟩
  | n + 1, y, ⟨z, k1, k2⟩ => by
    obtain ⟨m, m1, m2⟩ := fw_end h all hx k1
    obtain ⟨c, c1, c2⟩ := h.edge z y k2
    obtain ⟨r, r1, r2⟩ := h.tri z (all z (h.dom _ _ _ m1).2) x y m c m1 c1
    exact ⟨r, r1, by omega⟩
theorem fw_least {E : List Ed} {V S : Str → Prop} {d : Ap} (h : FwOk E V S d) (all : ∀ x, V x → S x) {x y : Str} {n : Nat} (hx : V x) (e : d x y = some n) : Least E x y n := by
  refine ⟨h.sound x y n e, fun m k => ?_⟩
  obtain ⟨c, c1, c2⟩ := fw_end h all hx k
  rw [e] at c1
  cases c1
  exact c2
/-- a way from x, its places one behind the other, to the last one -/
inductive Pth (E : List Ed) (x : Str) : List Str → Str → Prop
  | one : Pth E x [x] x
  | snoc {p : List Str} {u v : Str} : Pth E x p u → (u, v) ∈ E → Pth E x (p ++ [v]) v
theorem pth_len {E : List Ed} {x : Str} {p : List Str} {v : Str} (h : Pth E x p v) : ∃ n, p.length = n + 1 ∧ Wlk E n x v := by
  induction h with
  | one => exact ⟨0, rfl, rfl⟩
  | snoc k e ih =>
    obtain ⟨n, n1, n2⟩ := ih
    exact ⟨n + 1, by rw [List.length_append, List.length_singleton, n1], _, n2, e⟩
theorem pth_first {E : List Ed} {x : Str} {p : List Str} {v : Str} (h : Pth E x p v) : ∃ q, p = x :: q := by
  induction h with
  | one => exact ⟨[], rfl⟩
  | snoc k e ih =>
    obtain ⟨q, rfl⟩ := ih
    exact ⟨q ++ [_], rfl⟩
theorem pth_last {E : List Ed} {x : Str} {p : List Str} {v : Str} (h : Pth E x p v) : ∃ q, p = q ++ [v] := by
  cases h with
  | one => exact ⟨[], rfl⟩
  | snoc k e => exact ⟨_, rfl⟩
theorem pth_edges {E : List Ed} {x : Str} {p : List Str} {v : Str} (h : Pth E x p v) : ∀ k a b, p[k]? = some a → p[k + 1]? = some b → (a, b) ∈ E := by
  induction h with
  | one => intro k a b _ h2; exact nomatch h2
  | snoc k e ih =>
    rename_i p u v
    intro i a b h1 h2
    by_cases c : i + 1 < p.length
    · rw [List.getElem?_append_left (by omega)] at h1
      rw [List.getElem?_append_left c] at h2
      exact ih i a b h1 h2
    · obtain ⟨q, rfl⟩ := pth_last k
      rw [List.length_append, List.length_singleton] at c
      have z := (List.getElem?_eq_some_iff.mp h2).1
      rw [List.length_append, List.length_append, List.length_singleton, List.length_singleton] at z
      have ei : i = q.length := by omega
      subst ei
      rw [List.getElem?_append_left (by rw [List.length_append, List.length_singleton]; omega), List.getElem?_concat_length] at h1
      have e2 : q.length + 1 = (q ++ [u]).length := by rw [List.length_append, List.length_singleton]
      rw [e2, List.getElem?_concat_length] at h2
      cases h1
      cases h2
      exact e
abbrev En := Str × List Str
structure Bfs (E : List Ed) (x : Str) (es : List En) (at_ : Nat) : Prop where
  ok : ∀ e ∈ es, Pth E x e.2 e.1
  nodup : (es.map (·.1)).Nodup
  mono : es.Pairwise fun a b => a.2.length ≤ b.2.length
  near : ∀ c, es[at_]? = some c → ∀ e ∈ es, e.2.length ≤ c.2.length + 1
  done : ∀ i c, i < at_ → es[i]? = some c → ∀ y, (c.1, y) ∈ E → ∃ e ∈ es, e.1 = y ∧ e.2.length ≤ c.2.length + 1
  root : ∃ e ∈ es, e.1 = x ∧ e.2.length = 1
theorem bfs_new (E : List Ed) (x : Str) : Bfs E x [(x, [x])] 0 := by
  refine ⟨fun e he => ?_, by simp, List.pairwise_singleton _ _, fun c hc e he => ?_, fun i c hi => absurd hi (Nat.not_lt_zero _), ⟨_, List.mem_cons_self, rfl, rfl⟩⟩
  · rw [List.mem_singleton.mp he]
    exact .one
  · rw [List.mem_singleton.mp he]
    cases Option.some.inj hc
    exact Nat.le_succ _
theorem bfs_add {E : List Ed} {x : Str} {es : List En} {k : Nat} {c : En} {t : Str} (h : Bfs E x es k) (hc : es[k]? = some c) (ht : (c.1, t) ∈ E) (new : ∀ e ∈ es, e.1 ≠ t) : Bfs E x (es ++ [(t, c.2 ++ [t])]) k := by
  have hk := (List.getElem?_eq_some_iff.mp hc).1
  have len : (c.2 ++ [t]).length = c.2.length + 1 := by rw [List.length_append, List.length_singleton]
  refine ⟨fun e he => ?_, ?_, List.pairwise_append.mpr ⟨h.mono, List.pairwise_singleton _ _, fun a ha b hb => ?_⟩, fun c' hc' e he => ?_, fun i c' hi hc' y hy => ?_, ?_⟩
  · rcases List.mem_append.mp he with he | he
    · exact h.ok e he
    · rw [List.mem_singleton.mp he]
      exact .snoc (h.ok c (List.mem_of_getElem? hc)) ht
  · rw [List.map_append, List.nodup_append]
    refine ⟨h.nodup, by simp, fun a ha b hb => ?_⟩
    obtain ⟨e, he, rfl⟩ := List.mem_map.mp ha
    have : b = t := by simpa using hb
    subst this
    exact new e he
  · rw [List.mem_singleton.mp hb]
    show a.2.length ≤ (c.2 ++ [t]).length
    rw [len]
    exact h.near c hc a ha
  · rw [List.getElem?_append_left hk, hc] at hc'
    cases hc'
    rcases List.mem_append.mp he with he | he
    · exact h.near c hc e he
    · rw [List.mem_singleton.mp he]
      show (c.2 ++ [t]).length ≤ _
      rw [len]
      exact Nat.le_refl _
  · rw [List.getElem?_append_left (by omega)] at hc'
    obtain ⟨e, e1, e2⟩ := h.done i c' hi hc' y hy
    exact ⟨e, List.mem_append_left _ e1, e2⟩
  · obtain ⟨e, e1, e2⟩ := h.root
    exact ⟨e, List.mem_append_left _ e1, e2⟩
theorem bfs_next {E : List Ed} {x : Str} {es : List En} {k : Nat} {c : En} (h : Bfs E x es k) (hc : es[k]? = some c) (all : ∀ y, (c.1, y) ∈ E → ∃ e ∈ es, e.1 = y ∧ e.2.length ≤ c.2.length + 1) : Bfs E x es (k + 1) := by
  have hk := (List.getElem?_eq_some_iff.mp hc)
  refine ⟨h.ok, h.nodup, h.mono, fun c' hc' e he => ?_, fun i c' hi hc' y hy => ?_, h.root⟩
  · have hk' := (List.getElem?_eq_some_iff.mp hc')
    have z1 := h.near c hc e he
    have z2 := (List.pairwise_iff_getElem.mp h.mono) k (k + 1) hk.1 hk'.1 (by omega)
    rw [hk.2, hk'.2] at z2
    omega
  · by_cases d : i < k
    · exact h.done i c' d hc' y hy
    · have ei : i = k := by omega
      subst ei
      rw [hc] at hc'
      cases hc'
      exact all y hy
theorem bfs_end {E : List Ed} {x : Str} {es : List En} {k : Nat} (h : Bfs E x es k) (hk : es.length ≤ k) : ∀ {n : Nat} {y : Str}, Wlk E n x y → ∃ e ∈ es, e.1 = y ∧ e.2.length ≤ n + 1
  | 0, _, w => by
    cases (show x = _ from w)
    obtain ⟨e, e1, e2, e3⟩ := h.root
    exact ⟨e, e1, e2, by omega⟩
  | n + 1, y, ⟨z, w1, w2⟩ => by
    obtain ⟨e, e1, e2, e3⟩ := bfs_end h hk w1
    obtain ⟨i, hi, ei⟩ := List.getElem_of_mem e1
    obtain ⟨f, f1, f2, f3⟩ := h.done i e (by omega) (by rw [List.getElem?_eq_getElem hi, ei]) y (by rw [e2]; exact w2)
    exact ⟨f, f1, f2, by omega⟩
theorem fst_inj {es : List En} (h : (es.map (·.1)).Nodup) {a b : En} (ha : a ∈ es) (hb : b ∈ es) (e : a.1 = b.1) : a = b := by
  induction es with
  | nil => exact nomatch ha
  | cons x l ih =>
    rw [List.map_cons, List.nodup_cons] at h
    rcases List.mem_cons.mp ha with ha2 | ha2 <;> rcases List.mem_cons.mp hb with hb2 | hb2
    · rw [ha2, hb2]
    · exact (h.1 (List.mem_map.mpr ⟨b, hb2, by rw [← e, ha2]⟩)).elim
    · exact (h.1 (List.mem_map.mpr ⟨a, ha2, by rw [e, hb2]⟩)).elim
    · exact ih h.2 ha2 hb2
theorem bfs_least {E : List Ed} {x : Str} {es : List En} {k : Nat} (h : Bfs E x es k) (hk : es.length ≤ k) {e : En} (he : e ∈ es) : ∃ n, e.2.length = n + 1 ∧ Least E x e.1 n := by
  obtain ⟨n, n1, n2⟩ := pth_len (h.ok e he)
  refine ⟨n, n1, n2, fun m w => ?_⟩
  obtain ⟨f, f1, f2, f3⟩ := bfs_end h hk w
  cases fst_inj h.nodup f1 he f2
  omega
theorem sub_len {α : Type} [DecidableEq α] : ∀ {l m : List α}, l.Nodup → (∀ x ∈ l, x ∈ m) → l.length ≤ m.length
  | [], _, _, _ => Nat.zero_le _
  | x :: l, m, h, s => by
    obtain ⟨h1, h2⟩ := List.nodup_cons.mp h
    have hx := s x List.mem_cons_self
    have z := sub_len (l := l) (m := m.erase x) h2 fun y hy => (List.mem_erase_of_ne (fun e => h1 (by rw [← e]; exact hy))).mpr (s y (List.mem_cons_of_mem _ hy))
    rw [List.length_erase_of_mem hx] at z
    have : 0 < m.length := List.length_pos_of_mem hx
    rw [List.length_cons]
    omega
theorem pth_in {E : List Ed} {V : Str → Prop} {x : Str} (hx : V x) (hE : ∀ a b, (a, b) ∈ E → V b) {p : List Str} {v : Str} (h : Pth E x p v) : V v := by
  cases h with
  | one => exact hx
  | snoc k e => exact hE _ _ e
/-! ### offices, roads, rows: rules and promises -/
theorem sort_strs (xs : List Str) : sortD (xs.map V.str) (xs.map .str) = (xs.mergeSort fun a b => decide (a.cps.toList ≤ b.cps.toList)).map V.str := by
  have e1 : ((xs.map V.str).zip (xs.map PyData.str)) = xs.map fun x => (V.str x, PyData.str x) := by
    rw [List.zip_map]
    induction xs with
    | nil => rfl
    | cons x l ih =>
      rw [List.zip_cons_cons, List.map_cons, List.map_cons, ih]
      rfl
  unfold sortD
  rw [e1, ← PySem.W.sort_maps (r := fun a b => decide (a.cps.toList ≤ b.cps.toList)) (fun x : Str => (V.str x, PyData.str x)) (fun a _ b _ => (congrFun (congrFun (PySem.W.dataLe_str (β := Str) fun x => x) a) b).symm), List.map_map]
  rfl
theorem sorted_up {xs : List Str} (nd : xs.Nodup) : (xs.mergeSort fun a b => decide (a.cps.toList ≤ b.cps.toList)).Pairwise sl := by
  have up := List.pairwise_mergeSort (le := fun (a b : Str) => decide (a.cps.toList ≤ b.cps.toList)) (fun a b c h1 h2 => by rw [decide_eq_true_eq] at *; exact List.le_trans h1 h2) (fun a b => by rw [Bool.or_eq_true, decide_eq_true_eq, decide_eq_true_eq]; exact List.le_total _ _) xs
  have nd3 : (xs.mergeSort fun a b => decide (a.cps.toList ≤ b.cps.toList)).Nodup := (List.mergeSort_perm xs _).nodup_iff.mpr nd
  refine (up.and nd3).imp fun {a b} h => ?_
  have h1 := of_decide_eq_true h.1
  rcases sl_tot a b with z | z | z
  · exact z
  · exact absurd z h.2
  · exact absurd z (List.not_lt.mpr h1)
/-- sorted of a dict whose keys are texts -/
def rSortDS : List V → Hp → VK → Prop := fun xs H Q => ∃ (a : Addr) (kvs : List (Key × V)) (ks : List Str), xs = [.ref a] ∧ Rd H a (.dK kvs) ∧ kvs.map (·.1) = ks.map Sum.inr ∧ ks.Nodup ∧ ks.length ≤ 100000 ∧
  ∀ (ys : List Str) (p : Addr), ys.Pairwise sl → (∀ y, y ∈ ys ↔ y ∈ ks) → ys.length = ks.length → H p = none → Q (.ref p) (upd H p (.lst (ys.map V.str)))
theorem cr_sortDS {X : Cx} {k : Nat} (hr : Room k X.A) (calm : X.calm = true) : CallR X (.builtin "sorted") rSortDS := by
  intro pins s σ H xs us Q I r h
  obtain ⟨a, kvs, ks, rfl, hd, keys, nd, long, q⟩ := h
  rw [Vals.ref1 r]
  have un := hr.un
  obtain ⟨z, lo, vs, rel, dd⟩ := dk_rd I.hok hd
  obtain ⟨ep, at1⟩ := dd.dictAt
  have vkeys : vs.map (·.1) = ks.map Sum.inr := rel.keys.symm.trans keys
  have len1 : vs.length = ks.length := by simpa using congrArg List.length vkeys
  have line : ks.length ≤ sizeLine := Nat.le_trans long (by decide)
  refine (Calls.call_function_entry PyProof.Rows.kind_sorted PyProof.Rows.plain_sorted PyProof.Rows.entry_sorted (PyProof.Rows.args_sorted1 _) ?_); unfold Builtin.«sorted»
  refine (wpAny_bind (m := checkCount "sorted" 1 1 _) (wpAny_pure ?_))
  refine wpAny_bind (PySem.W.kdu_collect (A := X.A.in1) (PySem.W.kdl_dict (knd := mixKind X.prog X.w) (kvs := vs) (ep := ep) lo) (I.ok.hd calm) at1 (by rw [len1]; exact line) fun h1 tk acc keep got => ?_)
  have len2 : acc.toList.length = ks.length := by rw [Array.length_toList, got.1, len1]
  have each : PySem.W.EachIs (fun v (x : Str) => ∃ t, v = Value.str x t) acc.toList ks := by
    have go : ∀ (l : List Value) (m : List Str), l.length = m.length → (∀ j v, l[j]? = some v → ∃ x t, m[j]? = some x ∧ v = Value.str x t) → PySem.W.EachIs (fun v (x : Str) => ∃ t, v = Value.str x t) l m := fun l => by
      induction l with
      | nil =>
        intro m e _
        cases m with
        | nil => exact .nil
        | cons x m => cases e
      | cons v l ih =>
        intro m e f
        cases m with
        | nil => cases e
        | cons x m =>
          obtain ⟨x', t, h1, h2⟩ := f 0 v rfl
          cases Option.some.inj h1
          exact .cons ⟨t, h2⟩ (ih m (Nat.succ.inj e) fun j u hu => f (j + 1) u hu)
    refine go _ _ len2 fun j v e => ?_
    obtain ⟨kk, x, e1, e2⟩ := got.2 j v (by rw [← Array.getElem?_toList]; exact e)
    have e3 : (vs.map (·.1))[j]? = some kk := by rw [List.getElem?_map, e1]; rfl
    rw [vkeys, List.getElem?_map] at e3
    obtain ⟨y, e4, e5⟩ : ∃ y, ks[j]? = some y ∧ Sum.inr y = kk := by
      cases e4 : ks[j]? with
      | none => rw [e4] at e3; cases e3
      | some y => rw [e4] at e3; exact ⟨y, rfl, Option.some.inj e3⟩
    subst e5
    rcases keyIs_shape (show keyIs (Sum.inr y) v = true from e2) with ⟨i, t, ek, ev⟩ | ⟨z, t, ek, ev⟩
    · cases ek
    · cases ek
      exact ⟨y, t, e4, ev⟩
  have J : Inv X pins σ H { s with heap := h1, toks := tk } := I.kept keep
  refine wpAny_bind (wpAny_newList ?_ (by rw [len2]; exact line))
  have new : (h1.push (seqObj "list" acc.toList.toArray 0)).get? h1.objs.size = some (seqObj "list" acc.toList.toArray 0) := Heap.get?_push_size _ rfl
  show wpAny _ _ _ _ _ { s with toks := tk, heap := h1.push (seqObj "list" acc.toList.toArray 0) }
  refine wpAny_bind (wpAny_holding (PySem.W.list_sort_data (enc := fun x : Str => .str x) (R := fun v (x : Str) => ∃ t, v = Value.str x t) new each (each.mono fun v x ⟨t, e⟩ => ⟨[], by rw [e]; exact .str x t, fun z => nomatch z⟩) (fun d hd e he => ?_) (.inr fun d hd => ?_) (Nat.le_trans long (by decide)) (fun x _ => ?_) fun out ho eo => ?_))
  · obtain ⟨x, _, rfl⟩ := List.mem_map.mp hd
    obtain ⟨y, _, rfl⟩ := List.mem_map.mp he
    rfl
  · obtain ⟨x, _, rfl⟩ := List.mem_map.mp hd
    exact ⟨nofun, nofun⟩
  · show X.A.units + 1 + 1 + 0 < cLine
    omega
  have rv : Vals ((ks.mergeSort (PySem.W.dataLe false fun x : Str => .str x)).map V.str) out := by
    clear ho
    generalize ks.mergeSort (PySem.W.dataLe false fun x : Str => .str x) = ms at eo
    induction eo with
    | nil => exact .nil
    | cons r e ih => exact .cons r ih
  rw [PySem.W.dataLe_str (β := Str) fun x => x] at rv
  obtain ⟨en, at2⟩ := PyProof.Rows.sortedHeap_at (vs := acc.toList) (out := out.toArray) new
  have len3 : ((ks.mergeSort fun a b => decide (a.cps.toList ≤ b.cps.toList)).map V.str).length ≤ sizeLine := by rw [List.length_map, List.length_mergeSort]; exact line
  refine wpAny_pure ⟨_, rfl, .ref h1.objs.size, upd H _ (.lst ((ks.mergeSort fun a b => decide (a.cps.toList ≤ b.cps.toList)).map V.str)), J.laid (t' := tk) (fun b u e => ?_) (Nat.le_refl _) ⟨len3, out, en, rv, at2⟩, rfl, q _ _ (sorted_up nd) (fun y => List.mem_mergeSort) (List.length_mergeSort _) (J.hok.fresh (Nat.le_refl _))⟩
  have lt : b < h1.objs.size := Heap.lt_size e
  rw [PyProof.Rows.sortedHeap_old (Nat.ne_of_lt lt) (by rw [size_push']; exact Nat.lt_succ_of_lt lt)]
  exact (Heap.get?_push_of_some _ e)
/-- repr of data, of a number, of None -/
def rReprV (K : PySem.W.Frag) : List V → Hp → VK → Prop := fun xs H Q => (∃ (a : Addr) (d : PyData), xs = [.ref a] ∧ Dp K H (.ref a) d ∧ d.showable = true ∧ d.hasDict = false ∧ d.depth ≤ 60 ∧ d.shown.length ≤ sizeLine ∧ Q (.str d.shown) H) ∨
  (∃ i : Int, xs = [.int i] ∧ i.natAbs.log2 < 1920 ∧ Q (.str (toString i)) H) ∨ (xs = [.non] ∧ Q (.str (("None" : String) : Str)) H)
theorem cr_reprV {X : Cx} {k : Nat} (gu : X.A.guards = some []) (hr : Room k X.A) : CallR X (.builtin "repr") (rReprV X.K) := by
  intro pins s σ H vs us Q I r h
  rcases h with h | ⟨i, rfl, hz, q⟩ | ⟨rfl, q⟩
  · exact cr_repr gu hr pins s σ H vs us Q I r h
  · obtain ⟨u, rfl, t, rfl⟩ := vals1 r
    exact PySem.P.repr_of_int hz ⟨.str _, H, I.tok _, ⟨_, rfl⟩, q⟩
  · obtain ⟨u, rfl, ru⟩ := vals1 r
    cases ru
    exact call_repr_gives (s := s) rfl F.slot_NoneType_repr F.entry_NoneType_repr (F.args_NoneType_repr_1 _) gives_none_repr ⟨.str _, H, I.tok _, ⟨_, rfl⟩, q⟩
/-- x in a list (b) or tuple of data -/
def rInP (K : PySem.W.Frag) (neg b : Bool) : R2 := fun x y H Q => ∃ d ds, Dp K H x d ∧ Dp K H y (if b = true then .list ds else .tuple ds) ∧ d.plain = true ∧ PyData.plainAll ds = true ∧ d.depth ≤ 50 ∧ Q (.bl (xor neg (ds.any fun z => PyData.eqv z d))) H
section
variable {X : Cx} {k : Nat}
theorem op_inLP (hr : Room k X.A) : OpR X (compareOp .In) (rInP X.K false true) := by
  intro pins s σ H x y v u Q I rx ry h
  obtain ⟨d, ds, hd, he, p1, p2, dep, q⟩ := h
  have un := hr.un
  obtain ⟨as, r1⟩ := Dp.reads I d x v hd rx
  obtain ⟨bs, r2⟩ := Dp.reads I _ y u he ry
  rw [Bool.false_xor] at q
  exact PySem.SeqAt.in_list_data r2 r1 p2 p1 (by omega) ⟨.bl _, H, I, rfl, q⟩
theorem op_notinLP (hr : Room k X.A) : OpR X (compareOp .NotIn) (rInP X.K true true) := by
  intro pins s σ H x y v u Q I rx ry h
  obtain ⟨d, ds, hd, he, p1, p2, dep, q⟩ := h
  have un := hr.un
  obtain ⟨as, r1⟩ := Dp.reads I d x v hd rx
  obtain ⟨bs, r2⟩ := Dp.reads I _ y u he ry
  rw [Bool.true_xor] at q
  exact PySem.SeqAt.notIn_list_data r2 r1 p2 p1 (by omega) ⟨.bl _, H, I, rfl, q⟩
theorem op_inTP (hr : Room k X.A) : OpR X (compareOp .In) (rInP X.K false false) := by
  intro pins s σ H x y v u Q I rx ry h
  obtain ⟨d, ds, hd, he, p1, p2, dep, q⟩ := h
  have un := hr.un
  obtain ⟨as, r1⟩ := Dp.reads I d x v hd rx
  obtain ⟨bs, r2⟩ := Dp.reads I _ y u he ry
  rw [Bool.false_xor] at q
  exact PySem.SeqAt.in_tuple_data r2 r1 p2 p1 (by omega) ⟨.bl _, H, I, rfl, q⟩
end
/-! roads in the heap -/
def edV (e : Ed) : List V := [.str e.1, .str e.2]
def edD (e : Ed) : PyData := .tuple [.str e.1, .str e.2]
abbrev Rds (H : Hp) (ps : List Addr) (es : List Ed) : Prop := Paired (fun (p : Addr) (e : Ed) => H p = some (.tup (edV e))) ps es
theorem Rds.len {H : Hp} {ps : List Addr} {es : List Ed} (h : Rds H ps es) : ps.length = es.length := Paired.length h
theorem Rds.keep {H H' : Hp} : ∀ {ps : List Addr} {es : List Ed}, (∀ p o, (∀ z, o ≠ HO.lst z) → (∀ z, o ≠ HO.dK z) → (∀ z, o ≠ HO.dT z) → H p = some o → H' p = some o) → Rds H ps es → Rds H' ps es
  | _, _, _, .nil => .nil
  | _, _, k, .cons a b => .cons (k _ _ (fun z => nofun) (fun z => nofun) (fun z => nofun) a) (Rds.keep k b)
theorem Rds.same {H H' : Hp} {ps : List Addr} {es : List Ed} (s : Same H H') (h : Rds H ps es) : Rds H' ps es := Rds.keep (fun p o _ _ _ e => s p o e) h
theorem Rds.put {H : Hp} {l : Addr} {xs : List V} {o : HO} {ps : List Addr} {es : List Ed} (hl : H l = some (.lst xs)) (h : Rds H ps es) : Rds (upd H l o) ps es :=
  Rds.keep (fun p u n1 _ _ e => by rw [upd_ne (ne_of e hl (n1 _))]; exact e) h
theorem Rds.but {H H' : Hp} {f c : Addr} {n : Int} {ps : List Addr} {es : List Ed} (hf : Fd H f c n) (b : But f H H') (h : Rds H ps es) : Rds H' ps es := by
  obtain ⟨zs, hz⟩ := hf.at
  exact Rds.keep (fun p o n1 _ _ e => b p o (ne_of e hz (n1 zs)) e) h
theorem Rds.app {H : Hp} : ∀ {ps qs : List Addr} {es ts : List Ed}, Rds H ps es → Rds H qs ts → Rds H (ps ++ qs) (es ++ ts)
  | _, _, _, _, .nil, b => b
  | _, _, _, _, .cons a r, b => .cons a (Rds.app r b)
theorem Rds.get {H : Hp} : ∀ {ps : List Addr} {es : List Ed} {i : Nat} {p : Addr}, Rds H ps es → ps[i]? = some p → ∃ e, es[i]? = some e ∧ H p = some (.tup (edV e))
  | _, _, 0, _, .cons a _, h => by
    cases h
    exact ⟨_, rfl, a⟩
  | _, _, i + 1, p, .cons _ b, h => Rds.get (i := i) (p := p) b h
theorem Rds.dp {K : PySem.W.Frag} {H : Hp} : ∀ {ps : List Addr} {es : List Ed}, Rds H ps es → DpAll K H (ps.map V.ref) (es.map edD)
  | _, _, .nil => .nil
  | _, _, .cons a b => .cons (.tup (SqT.of a) (.cons (.str _) (.cons (.str _) .nil))) (Rds.dp b)
theorem Rds.take {H : Hp} : ∀ {ps : List Addr} {rs : List Ed} (n : Nat), Rds H ps rs → Rds H (ps.take n) (rs.take n)
  | _, _, 0, _ => .nil
  | _, _, _ + 1, .nil => .nil
  | _, _, n + 1, .cons a b => .cons a (Rds.take n b)
abbrev Wt := Str × Int
def wtV (e : Wt) : List V := [.str e.1, .int e.2]
def wtD (e : Wt) : PyData := .tuple [.str e.1, .int e.2]
abbrev Wts (H : Hp) (ps : List Addr) (es : List Wt) : Prop := Paired (fun (p : Addr) (e : Wt) => H p = some (.tup (wtV e))) ps es
theorem Wts.keep {H H' : Hp} : ∀ {ps : List Addr} {es : List Wt}, (∀ p o, (∀ z, o ≠ HO.lst z) → H p = some o → H' p = some o) → Wts H ps es → Wts H' ps es
  | _, _, _, .nil => .nil
  | _, _, k, .cons a b => .cons (k _ _ (fun z => nofun) a) (Wts.keep k b)
theorem Wts.same {H H' : Hp} {ps : List Addr} {es : List Wt} (s : Same H H') (h : Wts H ps es) : Wts H' ps es := Wts.keep (fun p o _ e => s p o e) h
theorem Wts.put {H : Hp} {l : Addr} {xs : List V} {o : HO} {ps : List Addr} {es : List Wt} (hl : H l = some (.lst xs)) (h : Wts H ps es) : Wts (upd H l o) ps es :=
  Wts.keep (fun p u n1 e => by rw [upd_ne (ne_of e hl (n1 _))]; exact e) h
theorem Wts.but {H H' : Hp} {f c : Addr} {n : Int} {ps : List Addr} {es : List Wt} (hf : Fd H f c n) (b : But f H H') (h : Wts H ps es) : Wts H' ps es := by
  obtain ⟨zs, hz⟩ := hf.at
  exact Wts.keep (fun p o n1 e => b p o (ne_of e hz (n1 zs)) e) h
theorem Wts.app {H : Hp} : ∀ {ps qs : List Addr} {es ts : List Wt}, Wts H ps es → Wts H qs ts → Wts H (ps ++ qs) (es ++ ts)
  | _, _, _, _, .nil, b => b
  | _, _, _, _, .cons a r, b => .cons a (Wts.app r b)
theorem Wts.len {H : Hp} {ps : List Addr} {es : List Wt} (h : Wts H ps es) : ps.length = es.length := Paired.length h
theorem Wts.dp {K : PySem.W.Frag} {H : Hp} : ∀ {ps : List Addr} {es : List Wt}, Wts H ps es → DpAll K H (ps.map V.ref) (es.map wtD)
  | _, _, .nil => .nil
  | _, _, .cons a b => .cons (.tup (SqT.of a) (.cons (.str _) (.cons (.int _) .nil))) (Wts.dp b)
/-- the office at o: worths ws, roads E -/
def OfAt (H : Hp) (o : Addr) (ws : List Wt) (E : List Ed) : Prop := ∃ (w r : Addr) (wp rp : List Addr), H o = some (.tup [.ref w, .ref r]) ∧ H w = some (.tup (wp.map V.ref)) ∧ H r = some (.tup (rp.map V.ref)) ∧ Wts H wp ws ∧ Rds H rp E
theorem OfAt.same {H H' : Hp} {o : Addr} {ws : List Wt} {E : List Ed} (s : Same H H') (h : OfAt H o ws E) : OfAt H' o ws E := by
  obtain ⟨w, r, wp, rp, h1, h2, h3, h4, h5⟩ := h
  exact ⟨w, r, wp, rp, s _ _ h1, s _ _ h2, s _ _ h3, h4.same s, h5.same s⟩
theorem OfAt.but {H H' : Hp} {f c : Addr} {n : Int} {o : Addr} {ws : List Wt} {E : List Ed} (hf : Fd H f c n) (b : But f H H') (h : OfAt H o ws E) : OfAt H' o ws E := by
  obtain ⟨w, r, wp, rp, h1, h2, h3, h4, h5⟩ := h
  obtain ⟨zs, hz⟩ := hf.at
  have t : ∀ {a : Addr} {xs : List V}, H a = some (.tup xs) → H' a = some (.tup xs) := fun e => b _ _ (ne_of e hz (fun z => nomatch z)) e
  exact ⟨w, r, wp, rp, t h1, t h2, t h3, h4.but hf b, h5.but hf b⟩
def ofD (ws : List Wt) (E : List Ed) : PyData := .tuple [.tuple (ws.map wtD), .tuple (E.map edD)]
theorem OfAt.dp {K : PySem.W.Frag} {H : Hp} {o : Addr} {ws : List Wt} {E : List Ed} (h : OfAt H o ws E) : Dp K H (.ref o) (ofD ws E) := by
  obtain ⟨w, r, wp, rp, h1, h2, h3, h4, h5⟩ := h
  exact .tup (SqT.of h1) (.cons (.tup (SqT.of h2) h4.dp) (.cons (.tup (SqT.of h3) h5.dp) .nil))
/-- the rows of a search, in a dict -/
abbrev RwAt (H : Hp) (kvs : List (Key × V)) (es : List En) : Prop := Paired (fun (kv : Key × V) (e : En) => kv.1 = Sum.inr e.1 ∧ ∃ a, kv.2 = .ref a ∧ H a = some (.tup (e.2.map V.str))) kvs es
theorem RwAt.keep {H H' : Hp} : ∀ {kvs : List (Key × V)} {es : List En}, (∀ p o, (∀ z, o ≠ HO.lst z) → (∀ z, o ≠ HO.dK z) → H p = some o → H' p = some o) → RwAt H kvs es → RwAt H' kvs es
  | _, _, _, .nil => .nil
  | _, _, k, .cons ⟨a1, a, a2, a3⟩ b => .cons ⟨a1, a, a2, k _ _ (fun z => nofun) (fun z => nofun) a3⟩ (RwAt.keep k b)
theorem RwAt.same {H H' : Hp} {kvs : List (Key × V)} {es : List En} (s : Same H H') (h : RwAt H kvs es) : RwAt H' kvs es := RwAt.keep (fun p o _ _ e => s p o e) h
theorem RwAt.app {H : Hp} : ∀ {kvs lvs : List (Key × V)} {es fs : List En}, RwAt H kvs es → RwAt H lvs fs → RwAt H (kvs ++ lvs) (es ++ fs)
  | _, _, _, _, .nil, b => b
  | _, _, _, _, .cons a r, b => .cons a (RwAt.app r b)
theorem RwAt.keys {H : Hp} : ∀ {kvs : List (Key × V)} {es : List En}, RwAt H kvs es → kvs.map (·.1) = (es.map (·.1)).map Sum.inr
  | _, _, .nil => rfl
  | _, _, .cons a b => by
    rw [List.map_cons, List.map_cons, List.map_cons, a.1, RwAt.keys b]
theorem RwAt.val {H : Hp} : ∀ {kvs : List (Key × V)} {es : List En} (y : Str), RwAt H kvs es → (∃ e ∈ es, e.1 = y ∧ ∃ a, valV kvs (Sum.inr y) = some (.ref a) ∧ H a = some (.tup (e.2.map V.str))) ∨ ((∀ e ∈ es, e.1 ≠ y) ∧ valV kvs (Sum.inr y) = none)
  | _, _, y, .nil => .inr ⟨fun _ h => (nomatch h), rfl⟩
  | _, _, y, .cons (a := kv) (b := e) ⟨a1, a, a2, a3⟩ b => by
    by_cases c : e.1 = y
    · refine .inl ⟨e, List.mem_cons_self, c, a, ?_, a3⟩
      rw [valV_pos (by rw [a1, c]), a2]
    · have n : ¬ kv.1 = Sum.inr y := fun z => c (Sum.inr.inj (a1.symm.trans z))
      rcases RwAt.val y b with ⟨f, f1, f2, a', f3, f4⟩ | ⟨f1, f2⟩
      · exact .inl ⟨f, List.mem_cons_of_mem _ f1, f2, a', by rw [valV_neg n]; exact f3, f4⟩
      · refine .inr ⟨fun f hf => ?_, by rw [valV_neg n]; exact f2⟩
        rcases List.mem_cons.mp hf with rfl | hf
        · exact c
        · exact f1 f hf
def spRows : Sp := fun vs H Q _ => ∃ (o : Addr) (x : Str) (ws : List Wt) (E : List Ed), vs = [.ref o, .str x] ∧ OfAt H o ws E ∧ E.length ≤ 16 ∧
  ∀ (r : Addr) (kvs : List (Key × V)) (es : List En) (k : Nat) (H' : Hp), Same H H' → H r = none → H' r = some (.dK kvs) → RwAt H' kvs es → Bfs E x es k → es.length ≤ k → es.length ≤ 17 → (∀ e ∈ es, e.2.length ≤ 17) → Q (.ref r) H'
def spReach : Sp := fun vs H Q _ => ∃ (o : Addr) (x : Str) (ws : List Wt) (E : List Ed), vs = [.ref o, .str x] ∧ OfAt H o ws E ∧ E.length ≤ 16 ∧
  ∀ (t : Addr) (ys : List Str) (H' : Hp), Same H H' → H t = none → H' t = some (.tup (ys.map V.str)) → ys.Pairwise sl → (∀ y, y ∈ ys ↔ ∃ n, Wlk E n x y) → ys.length ≤ 17 → Q (.ref t) H'
/-- what road_row tells -/
def RowV (H : Hp) (E : List Ed) (x y : Str) (v : V) : Prop := (v = .non ∧ ∀ n, ¬ Wlk E n x y) ∨ ∃ (t : Addr) (p : List Str) (n : Nat), v = .ref t ∧ H t = some (.tup (p.map V.str)) ∧ Pth E x p y ∧ p.length = n + 1 ∧ Least E x y n ∧ n ≤ 17
def spRow : Sp := fun vs H Q _ => ∃ (o : Addr) (x y : Str) (ws : List Wt) (E : List Ed), vs = [.ref o, .str x, .str y] ∧ OfAt H o ws E ∧ E.length ≤ 16 ∧ ∀ (v : V) (H' : Hp), Same H H' → RowV H' E x y v → Q v H'
def spFar : Sp := fun vs H Q _ => ∃ (o : Addr) (x y : Str) (ws : List Wt) (E : List Ed), vs = [.ref o, .str x, .str y] ∧ OfAt H o ws E ∧ E.length ≤ 16 ∧ ∀ (v : V) (H' : Hp), Same H H' → ((v = .non ∧ ∀ n, ¬ Wlk E n x y) ∨ ∃ n : Nat, v = .int n ∧ Least E x y n) → Q v H'
/-! ### the law's own side: tapes, offices, places, what is apart -/
def spDrawT : Sp := fun vs H Q _ => ∃ (f c : Addr) (m n : Int), vs = [.ref f, .int m] ∧ Fd H f c n ∧ n ≤ 1000000 ∧ 0 < m ∧ m ≤ 1000000000 ∧
  ∀ (d : Int) (H' : Hp), 0 ≤ d → d < m → Fd H' f c (n + 1) → But f H H' → Q (.int d) H'
def gWords : List Str := [("a" : String), ("ab" : String), ("abc" : String), ("bank" : String), ("n" : String), ("nonea" : String), ("press" : String), ("zzzzzzzz" : String), ("nom" : String), ("b" : String)]
def gNone : Str := (("none" : String) : Str)
theorem gw_ok : ∀ x ∈ gWords, NmOk x ∧ x ≠ gNone := by
  intro x hx
  simp only [gWords, List.mem_cons, List.not_mem_nil, or_false] at hx
  rcases hx with rfl | rfl | rfl | rfl | rfl | rfl | rfl | rfl | rfl | rfl <;> exact ⟨⟨by decide +kernel, by decide +kernel⟩, by decide +kernel⟩
theorem gn_ok : NmOk gNone := ⟨by decide +kernel, by decide +kernel⟩
def EdOk (e : Ed) : Prop := NmOk e.1 ∧ NmOk e.2 ∧ e.1 ≠ e.2
def WtOk (w : Wt) : Prop := NmOk w.1 ∧ 0 ≤ w.2 ∧ w.2 ≤ 1000000
structure OfOk (ws : List Wt) (E : List Ed) : Prop where
  le : E.length ≤ 16
  ed : ∀ e ∈ E, EdOk e
  lw : ws.length ≤ 4
  wt : ∀ w ∈ ws, WtOk w
def spOffice : Sp := fun vs H Q _ => ∃ (f c : Addr) (n : Int), vs = [.ref f] ∧ Fd H f c n ∧ n ≤ 900000 ∧
  ∀ (o : Addr) (ws : List Wt) (E : List Ed) (H' : Hp), Fd H' f c (n + 200) → But f H H' → H o = none → OfAt H' o ws E → OfOk ws E → Q (.ref o) H'
theorem inV_strs (x : Str) (xs : List Str) : inV (.str x) (xs.map V.str) = decide (x ∈ xs) := by
  unfold inV
  rw [List.any_map, Bool.eq_iff_iff, List.any_eq_true, decide_eq_true_eq]
  constructor
  · rintro ⟨y, hy, e⟩
    have e : (y == x) = true := e
    rw [← beq_iff_eq.mp e]
    exact hy
  · intro h
    exact ⟨x, h, beq_iff_eq.mpr rfl⟩
theorem flat_strs' (xs : List Str) : (xs.map V.str).all flatV = true := by
  rw [List.all_map, List.all_eq_true]
  exact fun _ _ => rfl
/-- the places of roads, none first -/
def plc (E : List Ed) (y : Str) : Prop := y = gNone ∨ ∃ e ∈ E, y = e.1 ∨ y = e.2
def spPlaces : Sp := fun vs H Q _ => ∃ (o : Addr) (ws : List Wt) (E : List Ed), vs = [.ref o] ∧ OfAt H o ws E ∧ OfOk ws E ∧
  ∀ (l : Addr) (pl : List Str) (H' : Hp), Same H H' → H l = none → H' l = some (.lst (pl.map V.str)) → pl.Pairwise sl → (∀ y, y ∈ pl ↔ plc E y) → pl.length ≤ 33 → Q (.ref l) H'
def apOf (d : Ap) (kvs : List (List Key × V)) : Prop := ∀ x y, valV kvs [Sum.inr x, Sum.inr y] = (d x y).map fun (n : Nat) => V.int n
theorem apOf_put {d d' : Ap} {kvs : List (List Key × V)} {x y : Str} {n : Nat} (h : apOf d kvs) (h1 : d' x y = some n) (h2 : ∀ u v, ¬ (u = x ∧ v = y) → d' u v = d u v) : apOf d' (putK kvs [Sum.inr x, Sum.inr y] (.int n)) := fun u v => by
  rw [valV_put]
  by_cases c : u = x ∧ v = y
  · rw [c.1, c.2, if_pos rfl, h1]
    rfl
  · have ne : ¬ ([Sum.inr u, Sum.inr v] : List Key) = [Sum.inr x, Sum.inr y] := fun z => by
      injection z with z1 z2
      injection z2 with z2 _
      exact c ⟨Sum.inr.inj z1, Sum.inr.inj z2⟩
    rw [if_neg ne, h, h2 u v c]
def spApt : Sp := fun vs H Q _ => ∃ (o : Addr) (ws : List Wt) (E : List Ed), vs = [.ref o] ∧ OfAt H o ws E ∧ OfOk ws E ∧
  ∀ (a : Addr) (kvs : List (List Key × V)) (d : Ap) (H' : Hp), Same H H' → H a = none → H' a = some (.dT kvs) → apOf d kvs → FwOk E (plc E) (plc E) d → Q (.ref a) H'
theorem fw_col {d : Ap} {v x : Str} (h : d v v = some 0) : fwStep d v x v = d x v := by
  cases e : d x v with
  | none => exact (fw_none (.inl e)).trans e
  | some a =>
    rw [fw_val e h, e, Nat.add_zero]
    unfold fwMin
    dsimp only
    rw [if_neg (Nat.lt_irrefl _)]
theorem fw_row {d : Ap} {v y : Str} (h : d v v = some 0) : fwStep d v v y = d v y := by
  cases e : d v y with
  | none => exact (fw_none (.inr e)).trans e
  | some a =>
    rw [fw_val h e, e, Nat.zero_add]
    unfold fwMin
    dsimp only
    rw [if_neg (Nat.lt_irrefl _)]
theorem fwMin_again (o : Option Nat) (n : Nat) : fwMin (some (fwMin o n)) n = fwMin o n := by
  have z := fwMin_le o n
  show (if n < fwMin o n then n else fwMin o n) = _
  rw [if_neg (by omega)]
def spIsRow : Sp := fun vs H Q _ => ∃ (o t : Addr) (x y : Str) (n : Nat) (ws : List Wt) (E : List Ed) (p : List Str), vs = [.ref o, .str x, .str y, .int n, .ref t] ∧ OfAt H o ws E ∧ OfOk ws E ∧ H t = some (.tup (p.map V.str)) ∧ Pth E x p y ∧ p.length = n + 1 ∧ n ≤ 1000 ∧
  ∀ H', Same H H' → Q (.bl true) H'
def spRightO : Sp := fun vs H Q _ => ∃ (o : Addr) (ws : List Wt) (E : List Ed), vs = [.ref o] ∧ OfAt H o ws E ∧ OfOk ws E ∧ ∀ H', Same H H' → Q (.bl true) H'
theorem ed_plain (E : List Ed) : PyData.plainAll (E.map edD) = true := by
  induction E with
  | nil => rfl
  | cons e l ih =>
    rw [List.map_cons]
    simp only [PyData.plainAll, ih, edD, PyData.plain, Bool.and_self]
theorem ed_eqv (a b : Ed) : PyData.eqv (edD a) (edD b) = decide (a = b) := by
  obtain ⟨a1, a2⟩ := a
  obtain ⟨b1, b2⟩ := b
  rw [Bool.eq_iff_iff]
  simp [edD, PyData.eqv, PyData.eqvAll]
theorem ed_any (E : List Ed) (e : Ed) : ((E.map edD).any fun z => PyData.eqv z (edD e)) = decide (e ∈ E) := by
  rw [List.any_map, Bool.eq_iff_iff, List.any_eq_true, decide_eq_true_eq]
  constructor
  · rintro ⟨y, hy, k⟩
    have k : PyData.eqv (edD y) (edD e) = true := k
    rw [ed_eqv, decide_eq_true_eq] at k
    rw [← k]
    exact hy
  · intro h
    refine ⟨e, h, ?_⟩
    show PyData.eqv (edD e) (edD e) = true
    rw [ed_eqv, decide_eq_true rfl]
theorem ed_dep (e : Ed) : (edD e).depth ≤ 50 := by
  simp [edD, PyData.depth, PyData.depthAll]
theorem nm_fine {x : Str} (h : NmOk x) : fineD (.str x) = true ∧ cost (.str x) ≤ 82 := by
  refine ⟨h.2, ?_⟩
  have := h.1
  show 10 * x.length + 2 ≤ 82
  omega
theorem eds_fine : ∀ E : List Ed, (∀ e ∈ E, EdOk e) → fineAll (E.map edD) = true ∧ costAll (E.map edD) ≤ 200 * E.length
  | [], _ => ⟨rfl, Nat.le_refl _⟩
  | e :: E, h => by
    obtain ⟨z1, z2⟩ := eds_fine E fun s hs => h s (List.mem_cons_of_mem _ hs)
    obtain ⟨a1, a2, _⟩ := h e List.mem_cons_self
    obtain ⟨b1, b2⟩ := nm_fine a1
    obtain ⟨c1, c2⟩ := nm_fine a2
    refine ⟨?_, ?_⟩
    · rw [List.map_cons]
      unfold fineAll
      rw [z1]
      show ((fineD (.str e.1) && (fineD (.str e.2) && true)) && true) = true
      rw [b1, c1]
      rfl
    · rw [List.map_cons, List.length_cons]
      unfold costAll
      have e1 : cost (edD e) = (cost (.str e.1) + 2 + (cost (.str e.2) + 2 + 0)) + 3 := rfl
      omega
theorem wts_fine : ∀ ws : List Wt, (∀ w ∈ ws, WtOk w) → fineAll (ws.map wtD) = true ∧ costAll (ws.map wtD) ≤ 3000 * ws.length
  | [], _ => ⟨rfl, Nat.le_refl _⟩
  | e :: E, h => by
    obtain ⟨z1, z2⟩ := wts_fine E fun s hs => h s (List.mem_cons_of_mem _ hs)
    obtain ⟨a1, a2, a3⟩ := h e List.mem_cons_self
    obtain ⟨b1, b2⟩ := nm_fine a1
    refine ⟨?_, ?_⟩
    · rw [List.map_cons]
      unfold fineAll
      rw [z1]
      show ((fineD (.str e.1) && (fineD (.int e.2) && true)) && true) = true
      rw [b1, int_fine (by omega) (by omega)]
      rfl
    · rw [List.map_cons, List.length_cons]
      unfold costAll
      have e1 : cost (wtD e) = (cost (.str e.1) + 2 + (2000 + 2 + 0)) + 3 := rfl
      omega
theorem of_fine {ws : List Wt} {E : List Ed} (h : OfOk ws E) : fineD (ofD ws E) = true ∧ cost (ofD ws E) ≤ 20000 := by
  obtain ⟨a1, a2⟩ := wts_fine ws h.wt
  obtain ⟨b1, b2⟩ := eds_fine E h.ed
  have l1 := h.le
  have l2 := h.lw
  refine ⟨?_, ?_⟩
  · show (fineAll (ws.map wtD) && (fineAll (E.map edD) && true)) = true
    rw [a1, b1]
    rfl
  · have e1 : cost (ofD ws E) = ((costAll (ws.map wtD) + 3) + 2 + ((costAll (E.map edD) + 3) + 2 + 0)) + 3 := rfl
    omega
theorem of_depth (ws : List Wt) (E : List Ed) : (ofD ws E).depth ≤ 10 := by
  have d1 : PyData.depthAll (ws.map wtD) ≤ 3 := by
    induction ws with
    | nil => simp [PyData.depthAll]
    | cons s l ih => rw [List.map_cons]; simp only [PyData.depthAll, wtD, PyData.depth] at *; omega
  have d2 : PyData.depthAll (E.map edD) ≤ 3 := by
    induction E with
    | nil => simp [PyData.depthAll]
    | cons s l ih => rw [List.map_cons]; simp only [PyData.depthAll, edD, PyData.depth] at *; omega
  simp only [ofD, PyData.depth, PyData.depthAll]
  omega
def strsD (xs : List Str) : PyData := .tuple (xs.map .str)
theorem strs_dp {K : PySem.W.Frag} {H : Hp} {t : Addr} {xs : List Str} (h : SqT K H t (xs.map V.str)) : Dp K H (.ref t) (strsD xs) := by
  refine .tup h ?_
  clear h
  induction xs with
  | nil => exact .nil
  | cons x l ih => exact .cons (.str x) ih
theorem strs_show {xs : List Str} (h : ∀ x ∈ xs, NmOk x) (hl : xs.length ≤ 100) : (strsD xs).showable = true ∧ (strsD xs).hasDict = false ∧ (strsD xs).depth ≤ 60 ∧ (strsD xs).shown.length ≤ sizeLine := by
  have all : ∀ l : List Str, (∀ x ∈ l, NmOk x) → fineAll (l.map .str) = true ∧ costAll (l.map .str) ≤ 84 * l.length := fun l => by
    induction l with
    | nil => exact fun _ => ⟨rfl, Nat.le_refl _⟩
    | cons x l ih =>
      intro h
      obtain ⟨z1, z2⟩ := ih fun y hy => h y (List.mem_cons_of_mem _ hy)
      obtain ⟨b1, b2⟩ := nm_fine (h x List.mem_cons_self)
      refine ⟨?_, ?_⟩
      · rw [List.map_cons]
        unfold fineAll
        rw [b1, z1]
        rfl
      · rw [List.map_cons, List.length_cons]
        unfold costAll
        omega
  obtain ⟨z1, z2⟩ := all xs h
  have f : fineD (strsD xs) = true := z1
  have c := shown_cost _ f
  have e : cost (strsD xs) = costAll (xs.map .str) + 3 := rfl
  have d : PyData.depthAll (xs.map .str) ≤ 1 := by
    clear z1 z2 f c e h hl
    induction xs with
    | nil => simp [PyData.depthAll]
    | cons s l ih => rw [List.map_cons]; simp only [PyData.depthAll, PyData.depth] at *; omega
  obtain ⟨s1, s2⟩ := fine_show _ f
  refine ⟨s1, s2, ?_, Nat.le_trans c (Nat.le_trans (show _ ≤ 100000 by omega) (by decide))⟩
  simp only [strsD, PyData.depth]
  omega
theorem ups_same {a b : List Str} (ha : a.Pairwise sl) (hb : b.Pairwise sl) (h : ∀ y, y ∈ a ↔ y ∈ b) : a = b := by
  have na : a.Nodup := ha.imp fun {x y} (h : sl x y) (e : x = y) => sl_irr y (by rw [e] at h; exact h)
  have nb : b.Nodup := hb.imp fun {x y} (h : sl x y) (e : x = y) => sl_irr y (by rw [e] at h; exact h)
  have hp : a.Perm b := (List.perm_ext_iff_of_nodup na nb).mpr h
  exact List.Perm.eq_of_pairwise (le := fun x y => sl x y) (fun x y _ _ h1 h2 => (sl_as h1 h2).elim) ha hb hp
theorem ints_all' {K : PySem.W.Frag} {H : Hp} : ∀ ns : List Int, DpAll K H (ns.map V.int) (ns.map .int)
  | [] => .nil
  | n :: ns => .cons (.int n) (ints_all' ns)
theorem ints_plain (ns : List Int) : (PyData.list (ns.map .int)).plain = true := by
  have all : PyData.plainAll (ns.map .int) = true := by
    induction ns with
    | nil => rfl
    | cons n l ih => rw [List.map_cons]; simp only [PyData.plainAll, PyData.plain, ih, Bool.and_self]
  exact all
theorem ints_depth (ns : List Int) : (PyData.list (ns.map .int)).depth ≤ 60 := by
  have d : PyData.depthAll (ns.map .int) ≤ 1 := by
    induction ns with
    | nil => simp [PyData.depthAll]
    | cons s l ih => rw [List.map_cons]; simp only [PyData.depthAll, PyData.depth] at *; omega
  simp only [PyData.depth]
  omega
theorem strs_all {K : PySem.W.Frag} {H : Hp} : ∀ xs : List Str, DpAll K H (xs.map V.str) (xs.map .str)
  | [] => .nil
  | x :: xs => .cons (.str x) (strs_all xs)
theorem strs_alike (xs : List Str) : PySem.W.AllAlike (xs.map .str) := by
  intro d hd e he
  obtain ⟨a, _, rfl⟩ := List.mem_map.mp hd
  obtain ⟨b, _, rfl⟩ := List.mem_map.mp he
  rfl
theorem strs_sortable (xs : List Str) : PySem.W.Sortable (xs.map .str) := by
  refine Or.inr fun d hd => ?_
  obtain ⟨a, _, rfl⟩ := List.mem_map.mp hd
  exact ⟨nofun, nofun⟩
theorem strs_flat (xs : List Str) : ∀ d ∈ xs.map PyData.str, d.depth ≤ 60 := by
  intro d hd
  obtain ⟨a, _, rfl⟩ := List.mem_map.mp hd
  exact Nat.zero_le _
/-! ### how an office is drawn -/
theorem sort_ed {H : Hp} {ps : List Addr} {rs : List Ed} (h : Rds H ps rs) : ∃ (qs : List Addr) (es : List Ed), sortD (ps.map V.ref) (rs.map edD) = qs.map V.ref ∧ Rds H qs es ∧ es.length = rs.length ∧ ∀ e ∈ es, e ∈ rs := by
  have hl := h.len
  have e1 : ((ps.map V.ref).zip (rs.map edD)) = (ps.zip rs).map (fun x => (V.ref x.1, edD x.2)) := by
    rw [List.zip_map]
    rfl
  refine ⟨((ps.zip rs).mergeSort (fun x y => PySem.W.dataLe false Prod.snd (V.ref x.1, edD x.2) (V.ref y.1, edD y.2))).map Prod.fst, ((ps.zip rs).mergeSort (fun x y => PySem.W.dataLe false Prod.snd (V.ref x.1, edD x.2) (V.ref y.1, edD y.2))).map Prod.snd, ?_, ?_, ?_, fun e he => ?_⟩
  · unfold sortD
    rw [e1, ← PySem.W.sort_maps (r := fun x y => PySem.W.dataLe false Prod.snd (V.ref x.1, edD x.2) (V.ref y.1, edD y.2)) (fun x : Addr × Ed => (V.ref x.1, edD x.2)) (fun _ _ _ _ => rfl), List.map_map, List.map_map]
    rfl
  · have at_ : ∀ x ∈ ps.zip rs, H x.1 = some (.tup (edV x.2)) := by
      clear e1 hl
      induction h with
      | nil => exact fun x hx => nomatch hx
      | cons a b ih =>
        intro x hx
        rcases List.mem_cons.mp hx with z | z
        · subst z
          exact a
        · exact ih x z
    have all : ∀ l : List (Addr × Ed), (∀ x ∈ l, H x.1 = some (.tup (edV x.2))) → Rds H (l.map Prod.fst) (l.map Prod.snd) := fun l => by
      induction l with
      | nil => exact fun _ => .nil
      | cons x l ih => exact fun k => .cons (k x List.mem_cons_self) (ih fun y hy => k y (List.mem_cons_of_mem _ hy))
    exact all _ fun x hx => at_ x (List.mem_mergeSort.mp hx)
  · rw [List.length_map, List.length_mergeSort, List.length_zip]
    omega
  · obtain ⟨x, hx, rfl⟩ := List.mem_map.mp he
    exact (List.of_mem_zip (List.mem_mergeSort.mp hx)).2
theorem eds_alike (rs : List Ed) : PySem.W.AllAlike (rs.map edD) := by
  intro d hd e he
  obtain ⟨a, _, rfl⟩ := List.mem_map.mp hd
  obtain ⟨b, _, rfl⟩ := List.mem_map.mp he
  simp [edD, PySem.W.alike, PySem.W.alikeAll]
theorem eds_sortable (rs : List Ed) : PySem.W.Sortable (rs.map edD) := by
  refine Or.inl fun d hd => ?_
  obtain ⟨a, _, rfl⟩ := List.mem_map.mp hd
  exact ⟨_, _, rfl⟩
theorem eds_flat (rs : List Ed) : ∀ d ∈ rs.map edD, d.depth ≤ 60 := by
  intro d hd
  obtain ⟨a, _, rfl⟩ := List.mem_map.mp hd
  simp [edD, PyData.depth, PyData.depthAll]
theorem eds_depth (E : List Ed) : (PyData.list (E.map edD)).depth ≤ 60 := by
  have d2 : PyData.depthAll (E.map edD) ≤ 3 := by
    induction E with
    | nil => simp [PyData.depthAll]
    | cons s l ih => rw [List.map_cons]; simp only [PyData.depthAll, edD, PyData.depth] at *; omega
  simp only [PyData.depth]
  omega
theorem Rds.mk1 {H : Hp} {p : Addr} {e : Ed} (h : H p = some (.tup (edV e))) : Rds H [p] [e] := .cons h .nil
theorem Wts.mk1 {H : Hp} {p : Addr} {e : Wt} (h : H p = some (.tup (wtV e))) : Wts H [p] [e] := .cons h .nil
theorem few8 {d : Int} (h0 : 0 ≤ d) (h1 : d < 8) : ∃ k : Int, 2 ≤ k ∧ k ≤ 8 ∧ atI [V.int 2, .int 3, .int 4, .int 5, .int 3, .int 4, .int 8, .int 6] d = some (.int k) := by
  rcases (show d = 0 ∨ d = 1 ∨ d = 2 ∨ d = 3 ∨ d = 4 ∨ d = 5 ∨ d = 6 ∨ d = 7 by omega) with rfl | rfl | rfl | rfl | rfl | rfl | rfl | rfl <;> exact ⟨_, by decide, by decide, rfl⟩
theorem few4 {d : Int} (h0 : 0 ≤ d) (h1 : d < 4) : ∃ k : Int, 1 ≤ k ∧ k ≤ 9 ∧ atI [V.int 1, .int 3, .int 7, .int 9] d = some (.int k) := by
  rcases (show d = 0 ∨ d = 1 ∨ d = 2 ∨ d = 3 by omega) with rfl | rfl | rfl | rfl <;> exact ⟨_, by decide, by decide, rfl⟩
theorem fewW {d m : Int} (h0 : 0 ≤ d) (h1 : d < 4) (m0 : 0 ≤ m) (m1 : m < 1000) : ∃ k : Int, 0 ≤ k ∧ k ≤ 1000000 ∧ atI [V.int 1, .int 5, .int 1000000, .int (1 + m)] d = some (.int k) := by
  rcases (show d = 0 ∨ d = 1 ∨ d = 2 ∨ d = 3 by omega) with rfl | rfl | rfl | rfl
  · exact ⟨1, by decide, by decide, rfl⟩
  · exact ⟨5, by decide, by decide, rfl⟩
  · exact ⟨1000000, by decide, by decide, rfl⟩
  · exact ⟨1 + m, by omega, by omega, rfl⟩
def gSer : List Str := [("a" : String), ("aa" : String), ("none" : String), ("x" : String)]
theorem gs_ok : ∀ x ∈ gSer, NmOk x := by
  intro x hx
  simp only [gSer, List.mem_cons, List.not_mem_nil, or_false] at hx
  rcases hx with rfl | rfl | rfl | rfl <;> exact ⟨by decide +kernel, by decide +kernel⟩
/-! ### what is apart: the law's own going by way of each place -/
def ap1 (E : List Ed) : Ap := fun x y => if (x, y) ∈ E then some 1 else none
def ap0 (E : List Ed) (pl : List Str) : Ap := fun x y => if x = y ∧ x ∈ pl then some 0 else ap1 E x y
theorem fw_init {E : List Ed} {pl : List Str} (mem : ∀ y, y ∈ pl ↔ plc E y) : FwOk E (plc E) (fun z => z ∈ pl.take 0) (ap0 E pl) where
  sound := fun x y n e => by
    unfold ap0 at e
    split at e
    · rename_i h
      cases Option.some.inj e
      exact h.1
    · unfold ap1 at e
      split at e
      · rename_i h
        cases Option.some.inj e
        exact ⟨x, rfl, h⟩
      · cases e
  refl := fun x hx => by
    unfold ap0
    rw [if_pos ⟨rfl, (mem x).mpr hx⟩]
  edge := fun x y h => by
    unfold ap0
    by_cases c : x = y ∧ x ∈ pl
    · rw [if_pos c]
      exact ⟨0, rfl, by decide⟩
    · rw [if_neg c]
      unfold ap1
      rw [if_pos h]
      exact ⟨1, rfl, Nat.le_refl _⟩
  tri := fun z hz => by
    rw [List.take_zero] at hz
    exact nomatch hz
  dom := fun x y n e => by
    unfold ap0 at e
    split at e
    · rename_i h
      have z := (mem x).mp h.2
      rw [← h.1]
      exact ⟨z, z⟩
    · unfold ap1 at e
      split at e
      · rename_i h
        exact ⟨.inr ⟨(x, y), h, .inl rfl⟩, .inr ⟨(x, y), h, .inr rfl⟩⟩
      · cases e
theorem ap1_put {E : List Ed} {i : Nat} {e : Ed} {kvs : List (List Key × V)} (hi : E[i]? = some e) (h : apOf (ap1 (E.take i)) kvs) : apOf (ap1 (E.take (i + 1))) (putK kvs [Sum.inr e.1, Sum.inr e.2] (.int ((1 : Nat) : Int))) := by
  obtain ⟨hl, he⟩ := List.getElem?_eq_some_iff.mp hi
  have e1 : E.take (i + 1) = E.take i ++ [e] := by rw [List.take_succ_eq_append_getElem hl, he]
  refine apOf_put h ?_ fun u v n => ?_
  · unfold ap1
    rw [if_pos (by rw [e1]; exact List.mem_append_right _ List.mem_cons_self)]
  · unfold ap1
    have z : (u, v) ∈ E.take (i + 1) ↔ (u, v) ∈ E.take i := by
      rw [e1, List.mem_append, List.mem_singleton]
      refine ⟨fun h => h.elim id fun z => (n ?_).elim, .inl⟩
      rw [← z]
      exact ⟨rfl, rfl⟩
    by_cases c : (u, v) ∈ E.take i
    · rw [if_pos c, if_pos (z.mpr c)]
    · rw [if_neg c, if_neg (fun k => c (z.mp k))]
theorem ap0_zero (E : List Ed) : ap0 E [] = ap1 E := by
  funext x y
  unfold ap0
  rw [if_neg (fun h => nomatch h.2)]
theorem ap0_put {E : List Ed} {pl : List Str} {i : Nat} {s : Str} {kvs : List (List Key × V)} (hi : pl[i]? = some s) (h : apOf (ap0 E (pl.take i)) kvs) : apOf (ap0 E (pl.take (i + 1))) (putK kvs [Sum.inr s, Sum.inr s] (.int ((0 : Nat) : Int))) := by
  obtain ⟨hl, he⟩ := List.getElem?_eq_some_iff.mp hi
  have e1 : pl.take (i + 1) = pl.take i ++ [s] := by rw [List.take_succ_eq_append_getElem hl, he]
  refine apOf_put h ?_ fun u v n => ?_
  · unfold ap0
    rw [if_pos ⟨rfl, by rw [e1]; exact List.mem_append_right _ List.mem_cons_self⟩]
  · unfold ap0
    have z : (u = v ∧ u ∈ pl.take (i + 1)) ↔ (u = v ∧ u ∈ pl.take i) := by
      rw [e1, List.mem_append, List.mem_singleton]
      refine ⟨fun h => ⟨h.1, h.2.elim id fun z => (n ?_).elim⟩, fun h => ⟨h.1, .inl h.2⟩⟩
      exact ⟨z, h.1.symm.trans z⟩
    by_cases c : u = v ∧ u ∈ pl.take i
    · rw [if_pos c, if_pos (z.mpr c)]
    · rw [if_neg c, if_neg (fun k => c (z.mp k))]
/-- c stands between d and the step by v -/
def MidA (d : Ap) (v : Str) (c : Ap) : Prop := ∀ x y, c x y = d x y ∨ c x y = fwStep d v x y
theorem MidA.col {d : Ap} {v : Str} {c : Ap} (h : MidA d v c) (r : d v v = some 0) (x : Str) : c x v = d x v := by
  rcases h x v with z | z
  · exact z
  · rw [z, fw_col r]
theorem MidA.row {d : Ap} {v : Str} {c : Ap} (h : MidA d v c) (r : d v v = some 0) (y : Str) : c v y = d v y := by
  rcases h v y with z | z
  · exact z
  · rw [z, fw_row r]
theorem MidA.none {d : Ap} {v : Str} {c : Ap} (h : MidA d v c) {x y : Str} (k : d x v = none ∨ d v y = none) : c x y = fwStep d v x y := by
  rcases h x y with z | z
  · rw [z, fw_none k]
  · exact z
theorem MidA.min {d : Ap} {v : Str} {c : Ap} (h : MidA d v c) {x y : Str} {a b : Nat} (k1 : d x v = some a) (k2 : d v y = some b) : fwMin (c x y) (a + b) = fwMin (d x y) (a + b) := by
  rcases h x y with z | z
  · rw [z]
  · rw [z, fw_val k1 k2, fwMin_again]
/-- c with the step at one pair -/
def putA (d : Ap) (v : Str) (c : Ap) (x y : Str) : Ap := fun u w => if u = x ∧ w = y then fwStep d v x y else c u w
theorem putA_mid {d : Ap} {v : Str} {c : Ap} (h : MidA d v c) (x y : Str) : MidA d v (putA d v c x y) := fun u w => by
  unfold putA
  by_cases k : u = x ∧ w = y
  · rw [if_pos k, k.1, k.2]
    exact .inr rfl
  · rw [if_neg k]
    exact h u w
theorem putA_at {d : Ap} {v : Str} {c : Ap} (x y : Str) : putA d v c x y x y = fwStep d v x y := by
  unfold putA
  rw [if_pos ⟨rfl, rfl⟩]
theorem putA_done {d : Ap} {v : Str} {c : Ap} {x y u w : Str} (h : c u w = fwStep d v u w) : putA d v c x y u w = fwStep d v u w := by
  unfold putA
  by_cases k : u = x ∧ w = y
  · rw [if_pos k, k.1, k.2]
  · rw [if_neg k, h]
theorem putA_else {d : Ap} {v : Str} {c : Ap} {x y u w : Str} (k : ¬ (u = x ∧ w = y)) : putA d v c x y u w = c u w := by
  unfold putA
  rw [if_neg k]
theorem apOf_step {d : Ap} {v : Str} {c : Ap} {kvs : List (List Key × V)} {x y : Str} {a b : Nat} (h : apOf c kvs) (m : MidA d v c) (k1 : d x v = some a) (k2 : d v y = some b) : apOf (putA d v c x y) (putK kvs [Sum.inr x, Sum.inr y] (.int ((fwMin (c x y) (a + b) : Nat) : Int))) :=
  apOf_put h (by rw [putA_at, fw_val k1 k2, m.min k1 k2]) fun _ _ n => putA_else n
theorem putK_le (kvs : List (List Key × V)) (k : List Key) (v : V) : (putK kvs k v).length ≤ kvs.length + 1 := length_putK kvs k v
/-- min of what is there, or else the new one, and the new one -/
theorem min_fw (o : Option Nat) (n : Nat) : (if (n : Int) < (match o with | some c => (c : Int) | none => (n : Int)) then (n : Int) else (match o with | some c => (c : Int) | none => (n : Int))) = ((fwMin o n : Nat) : Int) := by
  cases o with
  | none =>
    show (if (n : Int) < n then (n : Int) else n) = _
    rw [if_neg (Int.lt_irrefl _)]
    rfl
  | some c =>
    show (if (n : Int) < c then (n : Int) else c) = ((if n < c then n else c : Nat) : Int)
    split <;> split <;> omega
def gI (o : Option Nat) (n : Int) : Int := match o with
  | some c => (c : Int)
  | none => n
theorem getD_int (o : Option Nat) (n : Int) : (o.map fun (n : Nat) => V.int n).getD (.int n) = .int (gI o n) := by
  cases o <;> rfl
theorem min_gI (o : Option Nat) (a b : Nat) : (if ((a : Int) + (b : Int)) < gI o ((a : Int) + (b : Int)) then ((a : Int) + (b : Int)) else gI o ((a : Int) + (b : Int))) = ((fwMin o (a + b) : Nat) : Int) := by
  have z := min_fw o (a + b)
  rw [Int.natCast_add] at z
  exact z
theorem filt_take {F : Str → Bool} {pl : List Str} {j : Nat} {s : Str} (h : pl[j]? = some s) : (pl.take (j + 1)).filter F = (pl.take j).filter F ++ if F s = true then [s] else [] := by
  obtain ⟨hj, es⟩ := List.getElem?_eq_some_iff.mp h
  rw [List.take_succ_eq_append_getElem hj, List.filter_append, es]
  congr 1
  by_cases c : F s = true
  · rw [if_pos c, List.filter_cons_of_pos c]
    rfl
  · rw [if_neg c, List.filter_cons_of_neg c]
    rfl
theorem ap_get {c : Ap} {kvs : List (List Key × V)} {H : Hp} {A u : Addr} {x y : Str} (h : apOf c kvs) (hA : H A = some (.dT kvs)) (hu : H u = some (.tup [.str x, .str y])) : DGet H A (.ref u) ((c x y).map fun (n : Nat) => V.int n) := by
  have z := DGet.t (k := [Sum.inr x, Sum.inr y]) hA hu
  rw [h x y] at z
  exact z
theorem ap_some {c : Ap} {kvs : List (List Key × V)} {H : Hp} {A u : Addr} {x y : Str} {n : Nat} (h : apOf c kvs) (hA : H A = some (.dT kvs)) (hu : H u = some (.tup [.str x, .str y])) (e : c x y = some n) : DGet H A (.ref u) (some (.int n)) := by
  have z := ap_get h hA hu
  rw [e] at z
  exact z
/-! ### Generator expressions that are used up at once (all, any, sum): the element by the layer's rules, calls within it too -/
/-- a code object's table, however far it has grown -/
def tabP (P : Addr) : Heap → Prop := fun h => ∃ ps : Array Value, h.get? P = some { cls := .none, data := .fields ps } ∧ TriplesOk ps.toList
def TabO (P : Addr) : HO := .ext (tabP P)
theorem tab_obj {Pr : Program} {w : World} {H : Hp} {h : Heap} {P : Addr} (e : tabP P h) : ObjOk Pr w H h P (TabO P) := by
  obtain ⟨ps, h1, h2⟩ := e
  exact ⟨⟨ps, h1, h2⟩, ⟨_, h1⟩, fun a b ⟨qs, g1, g2⟩ k => ⟨qs, k _ g1, g2⟩⟩
theorem inv_gens {X : Cx} {pins : List (Addr × Obj)} {σ : L2.St} {H : Hp} {s : Shared} {G : Array GenState} (I : Inv X pins σ H s) (hg : AllBare G) : Inv X pins σ H { s with gens := G } :=
  ⟨I.ok, I.os, hg, I.base, I.loc, I.cell, I.free, I.freeC, I.pin, I.hok, I.len⟩
theorem bare_set {s : Shared} {g : Nat} {x : GenState} (h : AllBare s.gens) (hx : x.bare = true) : AllBare (s.setGen g x).gens := by
  intro y hy
  obtain ⟨i, hi, rfl⟩ := Array.mem_iff_getElem.mp hy
  have hi2 : i < s.gens.size := by simpa [Shared.setGen] using hi
  by_cases e : g = i
  · subst e
    have z : (s.setGen g x).gens[g]? = some x := by simp [Shared.setGen, hi2]
    rw [Array.getElem?_eq_getElem hi] at z
    rw [Option.some.inj z]
    exact hx
  · have z : (s.setGen g x).gens[i]? = s.gens[i]? := by simp [Shared.setGen, e]
    rw [Array.getElem?_eq_getElem hi, Array.getElem?_eq_getElem hi2] at z
    rw [Option.some.inj z]
    exact h _ (Array.getElem_mem hi2)
section
variable {X : Cx} {pins : List (Addr × Obj)} {σ : L2.St} {H : Hp} {s : Shared}
theorem inv_tabO {P : Addr} {h' : Heap} {t' : Nat} (I : Inv X pins σ H s) (hP : H P = some (TabO P)) (k : ∀ b o, b ≠ P → s.heap.get? b = some o → h'.get? b = some o) (new : tabP P h') :
    Inv X pins σ H { s with heap := h', toks := t' } := by
  have nN : ∀ b, H b = none → b ≠ P := fun b n z => by rw [z, hP] at n; cases n
  have nO : ∀ b y, H b = some (.own y) → b ≠ P := fun b y n z => by
    rw [z, hP] at n
    have z2 : HO.ext (tabP P) = HO.own y := Option.some.inj n
    cases z2
  refine I.step (g' := s.gens) (d' := s.drawn) (ch := []) (fun _ z => nomatch z) (fun b o _ _ _ e n => k b o (nN b n) e) (fun b o _ _ _ e n => ⟨o.slots, k b o (nN b n) e⟩) (fun _ _ _ _ n => n) (fun b o _ e => ?_)
    (fun _ _ e => e) (fun _ _ _ e => e) (fun b ps e => ⟨#[], by rw [e]; simp⟩) (fun m hm => ?_) (fun b u e => ?_) I.bare
  · by_cases hb : b = P
    · obtain ⟨ps, h1, _⟩ := new
      rw [hb]
      exact ⟨_, h1⟩
    · exact ⟨o, k b o hb e⟩
  · obtain ⟨ob, es, ep, ho, r⟩ := hm
    exact ⟨ob, es, ep, k _ ob (nN _ I.free) ho, r⟩
  · by_cases hb : b = P
    · rw [hb] at e ⊢
      rw [hP] at e
      cases e
      exact tab_obj new
    · refine (I.hok b u e).stay (fun d v hd q => k d v ?_ q) (fun _ q => q) fun _ _ q => q
      rcases hd with z | z
      · rw [z]
        exact hb
      · exact nO d _ z
/-- the context of a generator expression's frame, made at s -/
abbrev gblk (X : Cx) (s : Shared) (H : Hp) (cenv : Env) (fp : List Addr) : Cx :=
  { X with A := X.A.in1.in1.deeper cenv, s_0 := s, H_0 := H, env := cenv, outer := X.stack, stack := cenv :: X.stack, ex := fp, fn := fun _ => false, calm := true, pn := [], xe := fun _ _ => False }
abbrev gxEnv (X : Cx) (scope : Scope) (C : Addr) (code : Value) : Env := genEnv scope (cloFrom X.env.cells scope.names []) C code builtinsNs X.env
theorem gblk_start {scope : Scope} {own : List (Str × Nat)} {fp : List Addr} {code : Value} {h5 : Heap} {a : Addr} {go : Obj} {G5 : Array GenState} {tk : Nat} {m5 : Str → Option Value}
    (I : Inv X pins σ H s) (ok : BlkOk X.N X.env.scope scope own) (nc : ∀ y ∈ scope.names, y.2 ≠ .cell) (hN : X.N.Nodup) (hd : X.A.handled = none) (hfp : ∀ b ∈ fp, FpOk X pins H b ∧ b < s.heap.objs.size)
    (kp : ∀ b o, s.heap.get? b = some o → h5.get? b = some o) (ns : h5.Ns s.heap.objs.size m5) (bare : AllBare G5) (ha : h5.get? a = some go) (hax : s.heap.objs.size < a) (hgo : ∀ v, go.data ≠ .cell v) :
    Inv (gblk X s H (gxEnv X scope s.heap.objs.size code) fp) [(a, go)] (wipe σ (own.map (·.2))) H { s with heap := h5, gens := G5, toks := tk } := by
  have hfree : ∀ y ∈ scope.names, y.2 = .free → ∃ c, X.env.cells.lookup y.1 = some c := fun y hy e => by
    rcases ok.free y hy e with k | k
    · exact I.ok.has _ (.inl k)
    · exact I.ok.has _ (.inr k)
  generalize hcenv : gxEnv X scope s.heap.objs.size code = cenv
  have hL : cenv.locals = s.heap.objs.size := by rw [← hcenv]; rfl
  have hcl : cenv.cells = cloFrom X.env.cells scope.names [] := by rw [← hcenv]; rfl
  have hsc : cenv.scope = scope := by rw [← hcenv]; rfl
  have hfr : cenv.frame = some cenv.locals := by rw [← hcenv]; rfl
  have cm : ∀ {y c}, (y, c) ∈ cloFrom X.env.cells scope.names [] → X.env.cells.lookup y = some c ∧ c < s.heap.objs.size := fun {y c} hm => by
    rcases cloFrom_mem hm with hm | ⟨h1, rfl⟩
    · cases hm
    · obtain ⟨c, hc⟩ := hfree _ h1 rfl
      rw [hc]
      obtain ⟨w, z⟩ := I.cell _ _ hc
      exact ⟨rfl, z.lt⟩
  have mem : ∀ {y c}, cenv.cells.lookup y = some c → X.env.cells.lookup y = some c ∧ c < s.heap.objs.size := fun {y c} e => by
    rw [hcl] at e
    exact cm (PySem.mem_of_lookup e)
  have look : ∀ {y}, scope.names.lookup y = some .free → ∃ c, cenv.cells.lookup y = some c ∧ X.env.cells.lookup y = some c := fun {y} hl => by
    have hy : (y, NameKind.free) ∈ scope.names := PySem.mem_of_lookup hl
    obtain ⟨c', e'⟩ := mem_lookup (cloFrom_has (cells := X.env.cells) (acc := []) hy)
    exact ⟨c', by rw [hcl]; exact e', (cm (PySem.mem_of_lookup e')).1⟩
  have nostk : ∀ b, s.heap.objs.size ≤ b → b ∉ frs X.stack := fun b hb z => by
    rcases List.mem_cons.mp (I.stkSub b z) with z | z
    · have := I.lt
      rw [z] at hb
      exact absurd (Nat.lt_of_lt_of_le this hb) (Nat.lt_irrefl _)
    · exact I.nofs hb z
  have okB : (gblk X s H cenv fp).Ok := by
    refine ⟨I.ok.mod, by show cenv.scope.kind = _; rw [hsc]; exact ok.kind, by show cenv.globals = _; rw [← hcenv]; exact I.ok.glob, by show cenv.builtins = _; rw [← hcenv]; rfl, by show s.heap.objs.size ≤ cenv.locals; rw [hL]; exact Nat.le_refl _,
      fun y z c e1 e2 => I.ok.inj y z c (mem e1).1 (mem e2).1, fun y hy => ?_, fun y c z e => absurd z Bool.false_ne_true, fun _ => hd, Around.frames_deeper (A := X.A.in1.in1) I.ok.frames, .inr ⟨rfl, hfr⟩, fun b hb => ⟨?_, fun y c e z => (hfp b hb).1.2.2.2.2.1 y c (mem e).1 z⟩,
      I.bs, Nat.le_trans I.ok.bsz I.sz, fun b o e hb => ?_, fun b hb z => ?_, I.stack, I.stkFree⟩
    · have key : scope.names.lookup y = some .cell ∨ scope.names.lookup y = some .free → ∃ c, cenv.cells.lookup y = some c := fun hk => by
        rcases hk with hk | hk
        · exact absurd rfl (nc _ (PySem.mem_of_lookup hk))
        · obtain ⟨c, h1, _⟩ := look hk
          exact ⟨c, h1⟩
      have hy : cenv.scope.names.lookup y = some .cell ∨ cenv.scope.names.lookup y = some .free := hy
      rw [hsc] at hy
      exact key hy
    · show b ≠ cenv.locals
      rw [hL]; exact Nat.ne_of_lt (hfp b hb).2
    · rcases (hfp b hb).1.2.2.2.1 with z | z
      · exact I.ok.noex b o e z
      · exact absurd (Nat.lt_of_lt_of_le (Heap.lt_size e) (Nat.le_trans I.ok.bsz z)) (Nat.lt_irrefl _)
    · rcases List.mem_cons.mp (I.stkSub b z) with z | z
      · exact (hfp b hb).1.2.1 z
      · exact (hfp b hb).1.2.2.1 z
  refine ⟨okB, rfl, bare, Un.kept kp, ⟨m5, ?_, fun i y av e1 e2 e3 => ?_⟩, fun y c e => ?_, ?_, fun y c e => ?_, fun p hp => ?_, I.hok.kept kp, by rw [wipe_length]; exact I.len⟩
  · show Heap.Ns _ cenv.locals _
    rw [hL]
    exact ns
  · obtain ⟨e2, hne⟩ := wipe_some e2
    have e3 : Vis cenv.scope y := e3
    rw [hsc] at e3
    have no : ∀ k, scope.names.lookup y = some k → (k = .local ∨ k = .cell) → False := fun k hk hh => by
      rcases ok.own _ (PySem.mem_of_lookup hk) hh with e' | e'
      · obtain ⟨p, hp, hpy⟩ := List.mem_map.mp e'
        have e3 := ok.ix p hp
        have : p.1 = y := hpy
        rw [this] at e3
        exact hne (List.mem_map.mpr ⟨p, hp, nodup_ix hN e3 e1⟩)
      · exact e' (List.mem_of_getElem? e1)
    have hf : scope.names.lookup y = some .free := by
      rcases e3 with e3 | e3 | e3
      · exact (no _ e3 (.inl rfl)).elim
      · exact (no _ e3 (.inr rfl)).elim
      · exact e3
    obtain ⟨m, hn, hl⟩ := I.loc
    have hvis : Vis X.env.scope y := (ok.free _ (PySem.mem_of_lookup hf) rfl).elim (fun k => .inr (.inl k)) (fun k => .inr (.inr k))
    obtain ⟨w, r, q⟩ := hl i y av e1 e2 hvis
    obtain ⟨c, h1, h2⟩ := look hf
    refine ⟨w, r, .inr ⟨.inr (by show cenv.scope.names.lookup y = _; rw [hsc]; exact hf), c, h1, ?_⟩⟩
    rcases q with ⟨k, _⟩ | ⟨_, c', e', z⟩
    · have k : X.env.scope.names.lookup y = some .local := k
      rcases ok.free _ (PySem.mem_of_lookup hf) rfl with k' | k' <;> rw [show X.env.scope.names.lookup y = _ from k'] at k <;> cases k
    · rw [h2] at e'; cases e'
      exact z.keeps kp
  · obtain ⟨w, z⟩ := I.cell y c (mem e).1
    exact ⟨w, z.keeps kp⟩
  · show H cenv.locals = none
    rw [hL]; exact I.hok.fresh (Nat.le_refl _)
  · exact I.freeC y c (mem e).1
  · have e : p = (a, go) := by simpa using (show p ∈ ([] : List (Addr × Obj)) ++ [(a, go)] from hp)
    subst e
    refine ⟨ha, I.hok.fresh (Nat.le_of_lt hax), ?_, nostk a (Nat.le_of_lt hax), hgo⟩
    show a ≠ cenv.locals
    rw [hL]; exact Nat.ne_of_gt hax
end

/-! the turns -/
section
variable {Y : Cx} {L fp : List Addr} {σw : L2.St} {tn : Nat → Heap → Prop} {Pv : Nat → Hp → Prop} {n : Nat} {pz : Nat → Bool} {F : Nat → V}
/-- the generator stands ahead of its turn i; what stands at L is pinned -/
def GAt (Y : Cx) (L fp : List Addr) (σw : L2.St) (tn : Nat → Heap → Prop) (Pv : Nat → Hp → Prop) (i : Nat) (s : Shared) : Prop :=
  ∃ H, Inv Y (pinsAt L s.heap) σw H s ∧ tn i s.heap ∧ (∀ b ∈ fp, H b = none) ∧ Pv i H
/-- the turn behind j that were handed out -/
def tj (pz : Nat → Bool) (n : Nat) : Nat → Nat
  | 0 => 0
  | j + 1 => (passing pz n 0).getD j 0 + 1
def GEnd (Y : Cx) (L : List Addr) (σw : L2.St) (Pv : Nat → Hp → Prop) (n : Nat) : GenEnd := fun m s0 r s1 =>
  r = .ok .next ∧ m = 0 ∧ ∃ H, Inv Y (pinsAt L s0.heap) σw H s1 ∧ Pv n H
def GYld (Y : Cx) (L fp : List Addr) (σw : L2.St) (tn : Nat → Heap → Prop) (Pv : Nat → Hp → Prop) (n : Nat) (pz : Nat → Bool) (F : Nat → V) : Protocol := fun m s0 v s kap =>
  ∃ i H, (passing pz n 0)[(passing pz n 0).length - 1 - m]? = some i ∧ RelV (F i) v ∧ Inv Y (pinsAt L s0.heap) σw H s ∧ tn (i + 1) s.heap ∧ (∀ b ∈ fp, H b = none) ∧ Pv (i + 1) H ∧
    ∀ s2, GAt Y L fp σw tn Pv (i + 1) s2 → kap (.send .none) s2
abbrev gxE (elt tg iter : Expr) (ifs : List Expr) (scope : Scope) (pos : Pos) : Expr := .GeneratorExp elt [⟨tg, iter, ifs, 0⟩] scope pos
theorem over_loopG {A : Around} {elt tg iter : Expr} {ifs : List Expr} {scope : Scope} {pos : Pos} {it acc : Value} {env : Env} : A.over (.compLoop (gxE elt tg iter ifs scope pos) 0 it acc env) [] = A.deeper env := by
  first
    | rfl
    | (obtain ⟨hd, d, fr, gs, u⟩ := A; simp [Around.over, Around.deeper, marksOver, frameCount, unitsOf, envsOf, guardsOf, pushEnvs, pushGuards, Code.envs, Code.env?, Code.isFrame, Code.guards, Code.isGuard, Code.weight, Code.frames, Code.isCreation, Code.isCaller, Code.cUnits])
theorem over_startG {A : Around} {elt tg iter : Expr} {ifs : List Expr} {scope : Scope} {pos : Pos} {it acc : Value} {env : Env} : A.over (.compStart (gxE elt tg iter ifs scope pos) 0 it acc env) [] = A.deeper env := by
  first
    | rfl
    | (obtain ⟨hd, d, fr, gs, u⟩ := A; simp [Around.over, Around.deeper, marksOver, frameCount, unitsOf, envsOf, guardsOf, pushEnvs, pushGuards, Code.envs, Code.env?, Code.isFrame, Code.guards, Code.isGuard, Code.weight, Code.frames, Code.isCreation, Code.isCaller, Code.cUnits])
/-- what a turn does -/
def GStep (J : It) (g : TG) (tt : TT) (te : TE) (σ : L2.St) (vs : List Nat) (Pv : Nat → Hp → Prop) (n : Nat) (pz : Nat → Bool) (F : Nat → V) : Prop :=
  ∀ i x H H', i < n → Pv i H → J.yld i H x H' → g x (wipe σ vs) H' fun σ2 H2 => wipe σ2 vs = wipe σ vs ∧ tt σ2 H2 fun b H3 => b = pz i ∧ if b = true then te σ2 H3 (fun y H4 => y = F i ∧ Pv (i + 1) H4) else Pv (i + 1) H3
theorem seg_gx {A : Around} {σ : L2.St} {vs : List Nat} {J : It} {g : TG} {tt : TT} {te : TE} {it : Addr} {elt tg iter : Expr} {ifs : List Expr} {scope : Scope} {pos : Pos}
    (hA : A.deeper Y.env = Y.A) (hc : Y.calm = true) (hpn : Y.pn = []) (hxe : Y.xe = fun _ _ => False) (hco : Y.env.scope.isCoroutine = false)
    (T : Turn Y.prog Y.w Y.K tg J fp it tn) (pg : PG Y tg g) (pt : PTs Y ifs tt) (pe : PE Y elt te) (hex : ∀ b ∈ fp, b ∈ Y.ex) (hLf : ∀ b ∈ fp, b ∉ L)
    (go : ∀ i H, i < n → Pv i H → J.go i H) (stop : ∀ H, Pv n H → J.stop n H) (step : GStep J g tt te σ vs Pv n pz F) :
    ∀ (k i : Nat) (s0 s : Shared), n - i = k → i ≤ n → (∃ H, Inv Y (pinsAt L s0.heap) (wipe σ vs) H s ∧ tn i s.heap ∧ (∀ b ∈ fp, H b = none) ∧ Pv i H) →
      Seg (model Y.prog Y.w) A (GEnd Y L (wipe σ vs) Pv n) (GYld Y L fp (wipe σ vs) tn Pv n pz F) (passing pz n i).length s0
        (.compLoop (gxE elt tg iter ifs scope pos) 0 (.ref it) .none Y.env) ((model Y.prog Y.w).den (.compLoop (gxE elt tg iter ifs scope pos) 0 (.ref it) .none Y.env)) [] s := by
  have ov : A.over (.compLoop (gxE elt tg iter ifs scope pos) 0 (.ref it) .none Y.env) [] = Y.A := over_loopG.trans hA
  have stat : ∀ {s0 : Shared} {σ' : L2.St} {H' : Hp} {s' : Shared}, Inv Y (pinsAt L s0.heap) σ' H' s' → (∀ b ∈ fp, H' b = none) → ∀ b ∈ fp, FpOk Y (pinsAt L s0.heap) H' b := fun {s0 σ' H' s'} I' hn b hb =>
    ⟨hn b hb, (I'.ok.exf b (hex b hb)).1, I'.ok.exfs b (hex b hb), .inl (hex b hb), fun x c e => (I'.ok.exf b (hex b hb)).2 x c e, fun p hp z => by
      rw [hpn, List.nil_append] at hp
      exact hLf b hb (by rw [← z]; exact (of_pinsAt hp).1)⟩
  intro k
  induction k with
  | zero =>
    intro i s0 s hk hi hst
    have hin : i = n := by omega
    subst hin
    obtain ⟨H, I, st, nf, pv⟩ := hst
    show Seg _ A _ _ _ s0 _ ((compTurn (gxE elt tg iter ifs scope pos) 0 (.ref it) .none Y.env).onRaise (leaving Y.env)) [] s
    rw [compTurn_gen, Sem.onRaise_eq_wrap]
    refine seg_bind_wrap (wpAny_standAt ?_)
    refine seg_bind_wrap ?_
    rw [ov]
    refine thnF (T.done Y rfl rfl rfl hc i _ s _ H (fun _ _ => False) I (stat I nf) st (stop H pv)) fun r s1 ⟨hr, I1⟩ => ?_
    subst hr
    exact seg_end (.ok .next) ⟨rfl, by rw [passing_end]; rfl, H, I1, pv⟩
  | succ k ih =>
    intro i s0 s hk hi hst
    have hlt : i < n := by omega
    obtain ⟨H, I, st, nf, pv⟩ := hst
    show Seg _ A _ _ _ s0 _ ((compTurn (gxE elt tg iter ifs scope pos) 0 (.ref it) .none Y.env).onRaise (leaving Y.env)) [] s
    rw [compTurn_gen, Sem.onRaise_eq_wrap]
    refine seg_bind_wrap (wpAny_standAt ?_)
    refine seg_bind_wrap ?_
    rw [ov]
    refine thnF (T.item Y rfl rfl rfl hc i _ s _ H (fun _ _ => False) I (stat I nf) st (go i H hlt pv)) fun r s1 ⟨u, hr, h1⟩ => ?_
    subst hr
    refine seg_bind_wrap ?_
    rw [ov]
    refine thnF h1 fun _ s2 ⟨x, H2, I2, r2, y2, st2, n2⟩ => ?_
    have I2' := I2.pinned (stat I2 n2) (T.obj _ _ st2)
    refine seg_bind_wrap ?_
    rw [ov]
    have pgr := pg.run _ s2 _ H2 x u _ I2' r2 (step i x H H2 hlt pv y2)
    have ptr := fun s3 σ3 H3 Q I3 q3 => pt.run (pinsAt L s0.heap ++ pinsAt fp s2.heap) s3 σ3 H3 Q I3 q3
    have per := fun s3 σ3 H3 Q I3 q3 => pe.run (pinsAt L s0.heap ++ pinsAt fp s2.heap) s3 σ3 H3 Q I3 q3
    rw [hxe] at pgr ptr per
    refine thnF pgr fun _ s3 ⟨σ3, H3, I3, hw3, q3⟩ => ?_
    refine seg_bind_wrap ?_
    rw [ov]
    refine thnF (ptr s3 σ3 H3 _ I3 q3) fun b s4 ⟨H4, I4, hb, q4⟩ => ?_
    have fin : ∀ {s' : Shared} {H' : Hp}, Inv Y (pinsAt L s0.heap ++ pinsAt fp s2.heap) σ3 H' s' → Inv Y (pinsAt L s0.heap) (wipe σ vs) H' s' ∧ tn (i + 1) s'.heap ∧ (∀ b ∈ fp, H' b = none) := fun {s' H'} I' => by
      have pin' : ∀ b ∈ fp, ∀ o, s2.heap.get? b = some o → s'.heap.get? b = some o ∧ H' b = none := fun b hb o e =>
        let z := I'.pin (b, o) (List.mem_append_right _ (List.mem_append_right _ (mem_pinsAt hb e)))
        ⟨z.1, z.2.1⟩
      have hl : (wipe σ vs).length = σ3.length := by rw [← hw3, wipe_length]
      refine ⟨I'.unpinned.weak hl (fun j v e => ?_), T.keep _ _ _ st2 fun b hb o e => (pin' b hb o e).1, fun b hb => ?_⟩
      · rw [← hw3] at e
        exact (wipe_some e).1
      · obtain ⟨o, e, _⟩ := T.obj _ _ st2 b hb
        exact (pin' b hb o e).2
    cases b with
    | false =>
      rw [passing_false hlt hb.symm]
      simp only [Bool.false_eq_true, if_false] at q4 ⊢
      obtain ⟨f1, f2, f3⟩ := fin I4
      exact seg_again rfl (ih (i + 1) s0 _ (by omega) hlt ⟨H4, f1, f2, f3, q4⟩)
    | true =>
      rw [passing_true hlt hb.symm, List.length_cons]
      simp only [if_true] at q4 ⊢
      have hy : ∀ v, yieldOut Y.env v = yieldValue v := fun v => by simp only [yieldOut, hco, Bool.false_eq_true, if_false]
      simp only [hy]
      rw [Sem.bind_eq_wrap', Sem.bind_eq_wrap', Sem.wrap_wrap, Sem.wrap_wrap]
      refine seg_wrap ?_
      rw [ov]
      refine thnF (per s4 σ3 H4 _ I4 q4) fun z s5 ⟨yv, H5, I5, r5, ey, p5⟩ => ?_
      subst ey
      obtain ⟨f1, f2, f3⟩ := fin I5
      refine seg_at (seg_yield rfl rfl rfl ⟨i, H5, passing_here hlt hb.symm, r5, f1, f2, f3, p5, fun s6 h6 => ?_⟩)
      exact seg_again rfl (ih (i + 1) s6 s6 (by omega) hlt h6)
theorem seg_gx0 {A : Around} {σ : L2.St} {vs : List Nat} {J : It} {g : TG} {tt : TT} {te : TE} {it : Addr} {elt tg iter : Expr} {ifs : List Expr} {scope : Scope} {pos : Pos}
    (hA : A.deeper Y.env = Y.A) (hc : Y.calm = true) (hpn : Y.pn = []) (hxe : Y.xe = fun _ _ => False) (hco : Y.env.scope.isCoroutine = false)
    (T : Turn Y.prog Y.w Y.K tg J fp it tn) (pg : PG Y tg g) (pt : PTs Y ifs tt) (pe : PE Y elt te) (hex : ∀ b ∈ fp, b ∈ Y.ex) (hLf : ∀ b ∈ fp, b ∉ L)
    (go : ∀ i H, i < n → Pv i H → J.go i H) (stop : ∀ H, Pv n H → J.stop n H) (step : GStep J g tt te σ vs Pv n pz F) (s : Shared) (h : GAt Y L fp (wipe σ vs) tn Pv 0 s) :
    Seg (model Y.prog Y.w) A (GEnd Y L (wipe σ vs) Pv n) (GYld Y L fp (wipe σ vs) tn Pv n pz F) (passing pz n 0).length s
      (.compStart (gxE elt tg iter ifs scope pos) 0 (.ref it) .none Y.env) ((model Y.prog Y.w).den (.compStart (gxE elt tg iter ifs scope pos) 0 (.ref it) .none Y.env)) [] s := by
  have loop := seg_gx (A := A) (iter := iter) (scope := scope) (pos := pos) (pz := pz) (F := F) hA hc hpn hxe hco T pg pt pe hex hLf go stop step n 0 s s rfl (Nat.zero_le _) h
  obtain ⟨H, I, st, nf, pv⟩ := h
  show Seg _ A _ _ _ s _ ((compStart (gxE elt tg iter ifs scope pos) 0 (.ref it) .none Y.env).onRaise (leaving Y.env)) [] s
  unfold compStart
  rw [Sem.onRaise_eq_wrap]
  show Seg _ A _ _ _ s _ ((ask >>= _).wrap _ _ _ _) [] s
  refine seg_bind_wrap (wpAny_askSetting ?_)
  split
  · exact seg_again rfl loop
  · first
      | exact seg_bind_wrap (wpAny_rule (seg_bind_wrap (wpAny_standAt (seg_bind_wrap (T.self _ 0 s _ _ st (seg_again rfl loop))))))
      | (refine seg_bind_wrap (wpAny_rule ?_); show Seg _ A _ _ _ s _ ((standAt iter.pos >>= _).wrap _ _ _ _) [] s; exact seg_bind_wrap (wpAny_standAt (seg_bind_wrap (T.self _ 0 s _ _ st (seg_again rfl loop)))))
end
/-! ### .. as their consumers see them -/
theorem pins_eq {h h' : Heap} : ∀ {L : List Addr}, (∀ b ∈ L, ∃ o, h.get? b = some o) → (∀ p ∈ pinsAt L h, h'.get? p.1 = some p.2) → pinsAt L h' = pinsAt L h
  | [], _, _ => rfl
  | b :: L, ho, k => by
    obtain ⟨o, e⟩ := ho b List.mem_cons_self
    have e' : h'.get? b = some o := k (b, o) (mem_pinsAt List.mem_cons_self e)
    have ih : pinsAt L h' = pinsAt L h := pins_eq (fun c hc => ho c (List.mem_cons_of_mem _ hc)) fun p hp => k p (by
      obtain ⟨h1, h2⟩ := of_pinsAt hp
      exact mem_pinsAt (b := p.1) (o := p.2) (List.mem_cons_of_mem _ h1) h2)
    unfold pinsAt at ih ⊢
    rw [List.filterMap_cons, List.filterMap_cons, e, e', ih]
theorem pins_nil {L : List Addr} {h : Heap} {X : Cx} {σ : L2.St} {H : Hp} {s : Shared} (I : Inv X (pinsAt L h) σ H s) : Inv X [] σ H s := I.pins_of fun p hp => nomatch hp
section
variable {Y : Cx} {L fp : List Addr} {σw : L2.St} {tn : Nat → Heap → Prop} {Pv : Nat → Hp → Prop} {n : Nat} {pz : Nat → Bool} {F : Nat → V} {A : Around} {a : Addr} {g : Nat}
/-- the generator at a, of the number g, j handed out -/
structure GS (Y : Cx) (L fp : List Addr) (σw : L2.St) (tn : Nat → Heap → Prop) (Pv : Nat → Hp → Prop) (n : Nat) (pz : Nat → Bool) (F : Nat → V) (A : Around) (a : Addr) (g j : Nat) (s : Shared) : Prop where
  gen : s.heap.IsGen a g
  objs : ∀ b ∈ L, ∃ o, s.heap.get? b = some o
  at_ : GAt Y L fp σw tn Pv (tj pz n j) s
  go : ∃ gs, s.gens[g]? = some gs ∧ ∀ s2, GAt Y L fp σw tn Pv (tj pz n j) s2 → gs.Goes (model Y.prog Y.w) A.in1 (GEnd Y L σw Pv n) (GYld Y L fp σw tn Pv n pz F) ((passing pz n 0).length - j) (.send .none) s2
theorem GS.running {j : Nat} {s : Shared} (h : GS Y L fp σw tn Pv n pz F A a g j s) : GAt Y L fp σw tn Pv (tj pz n j) (s.setGen g .running) := by
  obtain ⟨H, I, st, nf, pv⟩ := h.at_
  exact ⟨H, inv_gens I (bare_set I.bare rfl), st, nf, pv⟩
theorem GAt.again {i : Nat} {s s1 : Shared} {H : Hp} {G : Array GenState} (ho : ∀ b ∈ L, ∃ o, s.heap.get? b = some o) (I : Inv Y (pinsAt L s.heap) σw H s1) (st : tn i s1.heap) (nf : ∀ b ∈ fp, H b = none) (pv : Pv i H) (hG : AllBare G) :
    GAt Y L fp σw tn Pv i { s1 with gens := G } := by
  have e := pins_eq (h' := s1.heap) ho fun p hp => (I.pin p (List.mem_append_right _ hp)).1
  exact ⟨H, by show Inv Y (pinsAt L s1.heap) σw H { s1 with gens := G }; rw [e]; exact inv_gens I hG, st, nf, pv⟩
theorem next_gx {j : Nat} {s : Shared} {Q : Option Value → Shared → Prop} {E : Value → Shared → Prop} (hh : A.handled = none) (hroom : A.depth < recursionLimit) (haL : a ∈ L) (hj : j < (passing pz n 0).length) (h : GS Y L fp σw tn Pv n pz F A a g j s)
    (hQ : ∀ v i s', (passing pz n 0)[j]? = some i → RelV (F i) v → GS Y L fp σw tn Pv n pz F A a g (j + 1) s' → (∀ b ∈ L, ∀ o, s.heap.get? b = some o → s'.heap.get? b = some o) → Q (some v) s') :
    wpAny (model Y.prog Y.w) A (pyNext (.ref a)) Q E s := by
  obtain ⟨gs, hgs, hgo⟩ := h.go
  obtain ⟨m, hm⟩ : ∃ m, (passing pz n 0).length - j = m + 1 := ⟨(passing pz n 0).length - j - 1, by omega⟩
  rw [hm] at hgo
  have hgl : g < s.gens.size := (Array.getElem?_eq_some_iff.mp hgs).1
  have lim : s.heap.NoLimit := let ⟨_, I, _⟩ := h.at_; I.nolimit
  refine GenW.wpAny_gsz (n := s.gens.size) (Nat.le_refl _) ?_
  refine wpAny_pyNext_genexpQ (P := fun m s0 s1 => m = 0 ∧ ∃ H, Inv Y (pinsAt L s0.heap) σw H s1 ∧ Pv n H) hh lim hroom h.gen hgs (hgo _ h.running) (fun v s1 gs' hb hv => ?_) (fun s1 hp h' hk => ?_)
  · obtain ⟨i, H, hi, rv, I, st, nf, pv, kap⟩ := hv
    have hi : (passing pz n 0)[(passing pz n 0).length - 1 - (m + 1 - 1)]? = some i := hi
    have hidx : (passing pz n 0).length - 1 - (m + 1 - 1) = j := by omega
    rw [hidx] at hi
    have I : Inv Y (pinsAt L s.heap) σw H s1 := I
    intro hsz
    have hsz1 : s.gens.size ≤ s1.gens.size := by rw [GenW.setGen_size] at hsz; exact hsz
    have et : tj pz n (j + 1) = i + 1 := by
      show (passing pz n 0).getD j 0 + 1 = i + 1
      rw [List.getD_eq_getElem?_getD, hi]
      rfl
    have pin : ∀ b ∈ L, ∀ o, s.heap.get? b = some o → s1.heap.get? b = some o := fun b hb' o e => (I.pin (b, o) (List.mem_append_right _ (mem_pinsAt hb' e))).1
    refine hQ v i _ hi rv ⟨?_, fun b hb' => ?_, ?_, gs', ?_, fun s2 h2 => ?_⟩ pin
    · obtain ⟨o, nm, qn, ho, r⟩ := h.gen
      exact ⟨o, nm, qn, pin a haL o ho, r⟩
    · obtain ⟨o, e⟩ := h.objs b hb'
      exact ⟨o, pin b hb' o e⟩
    · rw [et]
      exact GAt.again h.objs I st nf pv (bare_set I.bare hb)
    · have : g < s1.gens.size := Nat.lt_of_lt_of_le hgl hsz1
      simp [Shared.setGen, this]
    · rw [et] at h2
      have k2 := kap s2 h2
      have e : (passing pz n 0).length - (j + 1) = m := by omega
      rw [e]
      exact k2
  · exact absurd hp.1 (Nat.succ_ne_zero m)
theorem done_gx {s : Shared} {Q : Option Value → Shared → Prop} {E : Value → Shared → Prop} (hh : A.handled = none) (hroom : A.depth < recursionLimit) (h : GS Y L fp σw tn Pv n pz F A a g (passing pz n 0).length s)
    (hQ : ∀ s' H, Inv Y (pinsAt L s.heap) σw H s' → Pv n H → Q none s') : wpAny (model Y.prog Y.w) A (pyNext (.ref a)) Q E s := by
  obtain ⟨gs, hgs, hgo⟩ := h.go
  rw [Nat.sub_self] at hgo
  have lim : s.heap.NoLimit := let ⟨_, I, _⟩ := h.at_; I.nolimit
  refine wpAny_pyNext_genexpQ (P := fun m s0 s1 => m = 0 ∧ ∃ H, Inv Y (pinsAt L s0.heap) σw H s1 ∧ Pv n H) hh lim hroom h.gen hgs (hgo _ h.running) (fun v s1 gs' hb hv => ?_) (fun s1 hp h' hk => ?_)
  · obtain ⟨i, H, hi, rv, I, st, nf, pv, kap⟩ := hv
    have I : Inv Y (pinsAt L s.heap) σw H s1 := I
    exact False.elim (kap s1 (GAt.again h.objs I st nf pv I.bare))
  · obtain ⟨_, H, I, pv⟩ := hp
    have I : Inv Y (pinsAt L s.heap) σw H s1 := I
    exact hQ _ H (inv_gens (I.kept (t' := s1.toks) hk) (bare_set I.bare rfl)) pv
/-- wherever it stands: what holds there -/
theorem GS.stands {j : Nat} {s : Shared} (h : GS Y L fp σw tn Pv n pz F A a g j s) (hj : j ≤ (passing pz n 0).length) : ∃ i H, i ≤ n ∧ Inv Y (pinsAt L s.heap) σw H s ∧ Pv i H := by
  obtain ⟨H, I, st, nf, pv⟩ := h.at_
  refine ⟨_, H, ?_, I, pv⟩
  match j, hj with
  | 0, _ => exact Nat.zero_le _
  | j + 1, hj =>
    have e : (passing pz n 0)[j]? = some ((passing pz n 0)[j]'hj) := List.getElem?_eq_getElem _
    show (passing pz n 0).getD j 0 + 1 ≤ n
    rw [List.getD_eq_getElem?_getD, e]
    have hm : (passing pz n 0)[j]'hj ∈ passing pz n 0 := List.getElem_mem _
    have hm2 : (passing pz n 0)[j]'hj ∈ List.range n := by
      unfold passing at hm
      exact (List.mem_filter.mp hm).1
    exact List.mem_range.mp hm2
theorem all_gx {f : Nat → Bool} {R : Result → Shared → Prop} (hh : A.in1.handled = none) (hroom : A.in1.depth < recursionLimit) (haL : a ∈ L) (hF : F = fun i => .bl (f i)) : ∀ (k j : Nat) (s : Shared), (passing pz n 0).length - j = k → j ≤ (passing pz n 0).length →
    GS Y L fp σw tn Pv n pz F A.in1 a g j s → (∀ s' i H, i ≤ n → Inv Y [] σw H s' → Pv i H → R (.ok (.ret (.bool (((passing pz n 0).drop j).all f)))) s') →
    codeAny (model Y.prog Y.w) A (.builtin "all.loop" ⟨[.ref a], []⟩) R s := by
  intro k
  induction k with
  | zero =>
    intro j s hk hj hst hR
    have hin : j = (passing pz n 0).length := by omega
    subst hin
    refine codeAny_builtin PySem.F.entry_all_loop ?_
    rw [Around.under_plainId PySem.F.plain_all_loop _]
    show wpAny _ A.in1 (pyNext (.ref a) >>= _) _ _ s
    refine wpAny_bind (done_gx hh hroom hst fun s' H I pv => ?_)
    refine wpAny_bind (wpAny_rule (wpAny_pure ?_))
    have := hR s' n H (Nat.le_refl _) (pins_nil I) pv
    rw [List.drop_of_length_le (Nat.le_refl _)] at this
    exact this
  | succ k ih =>
    intro j s hk hj hst hR
    have hlt : j < (passing pz n 0).length := by omega
    have hd : (passing pz n 0).drop j = (passing pz n 0)[j]'hlt :: (passing pz n 0).drop (j + 1) := List.drop_eq_getElem_cons hlt
    refine codeAny_builtin PySem.F.entry_all_loop ?_
    rw [Around.under_plainId PySem.F.plain_all_loop _]
    show wpAny _ A.in1 (pyNext (.ref a) >>= _) _ _ s
    refine wpAny_bind (next_gx hh hroom haL hlt hst fun v i s' hi rv hst' pin => ?_)
    rw [List.getElem?_eq_getElem hlt] at hi
    have ei := Option.some.inj hi
    rw [hF] at rv
    obtain rfl : v = Value.bool (f i) := rv
    refine wpAny_bind (wpAny_holding (wpAny_truthy_bool ?_))
    refine wpAny_bind (wpAny_letGo ?_)
    cases hb : f i with
    | true =>
      simp only [if_true]
      refine wpAny_pure ⟨plainId_quiet PySem.F.plain_all_loop _, ih (j + 1) _ (by omega) hlt hst' fun s'' i' H hi' I pv => ?_⟩
      have := hR s'' i' H hi' I pv
      rw [hd, List.all_cons, ei, hb, Bool.true_and] at this
      exact this
    | false =>
      simp only [Bool.false_eq_true, if_false]
      refine wpAny_bind (wpAny_rule (wpAny_pure ?_))
      obtain ⟨i', H, hi', I, pv⟩ := hst'.stands hlt
      have := hR s' i' H hi' (pins_nil I) pv
      rw [hd, List.all_cons, ei, hb, Bool.false_and] at this
      exact this
theorem any_gx {f : Nat → Bool} {R : Result → Shared → Prop} (hh : A.in1.handled = none) (hroom : A.in1.depth < recursionLimit) (haL : a ∈ L) (hF : F = fun i => .bl (f i)) : ∀ (k j : Nat) (s : Shared), (passing pz n 0).length - j = k → j ≤ (passing pz n 0).length →
    GS Y L fp σw tn Pv n pz F A.in1 a g j s → (∀ s' i H, i ≤ n → Inv Y [] σw H s' → Pv i H → R (.ok (.ret (.bool (((passing pz n 0).drop j).any f)))) s') →
    codeAny (model Y.prog Y.w) A (.builtin "any.loop" ⟨[.ref a], []⟩) R s := by
  intro k
  induction k with
  | zero =>
    intro j s hk hj hst hR
    have hin : j = (passing pz n 0).length := by omega
    subst hin
    refine codeAny_builtin PySem.F.entry_any_loop ?_
    rw [Around.under_plainId PySem.F.plain_any_loop _]
    show wpAny _ A.in1 (pyNext (.ref a) >>= _) _ _ s
    refine wpAny_bind (done_gx hh hroom hst fun s' H I pv => ?_)
    refine wpAny_bind (wpAny_rule (wpAny_pure ?_))
    have := hR s' n H (Nat.le_refl _) (pins_nil I) pv
    rw [List.drop_of_length_le (Nat.le_refl _)] at this
    exact this
  | succ k ih =>
    intro j s hk hj hst hR
    have hlt : j < (passing pz n 0).length := by omega
    have hd : (passing pz n 0).drop j = (passing pz n 0)[j]'hlt :: (passing pz n 0).drop (j + 1) := List.drop_eq_getElem_cons hlt
    refine codeAny_builtin PySem.F.entry_any_loop ?_
    rw [Around.under_plainId PySem.F.plain_any_loop _]
    show wpAny _ A.in1 (pyNext (.ref a) >>= _) _ _ s
    refine wpAny_bind (next_gx hh hroom haL hlt hst fun v i s' hi rv hst' pin => ?_)
    rw [List.getElem?_eq_getElem hlt] at hi
    have ei := Option.some.inj hi
    rw [hF] at rv
    obtain rfl : v = Value.bool (f i) := rv
    refine wpAny_bind (wpAny_holding (wpAny_truthy_bool ?_))
    refine wpAny_bind (wpAny_letGo ?_)
    cases hb : f i with
    | false =>
      simp only [Bool.false_eq_true, if_false]
      refine wpAny_pure ⟨plainId_quiet PySem.F.plain_any_loop _, ih (j + 1) _ (by omega) hlt hst' fun s'' i' H hi' I pv => ?_⟩
      have := hR s'' i' H hi' I pv
      rw [hd, List.any_cons, ei, hb, Bool.false_or] at this
      exact this
    | true =>
      simp only [if_true]
      refine wpAny_bind (wpAny_rule (wpAny_pure ?_))
      obtain ⟨i', H, hi', I, pv⟩ := hst'.stands hlt
      have := hR s' i' H hi' (pins_nil I) pv
      rw [hd, List.any_cons, ei, hb, Bool.true_or] at this
      exact this
end
/-! ### .. sum -/
section
variable {Y : Cx} {L fp : List Addr} {σw : L2.St} {tn : Nat → Heap → Prop} {Pv : Nat → Hp → Prop} {n : Nat} {pz : Nat → Bool} {F : Nat → V} {A : Around} {a S : Addr} {g : Nat}
/-- the consumer writes its own list at S -/
theorem GS.put {j : Nat} {s : Shared} {h' : Heap} {tk : Nat} (hpn : Y.pn = []) (hSL : S ∈ L) (haS : a ≠ S) (hS0 : Y.s_0.heap.objs.size ≤ S) (hLf : ∀ b ∈ fp, b ∉ L) (tk_ : ∀ i h h2, tn i h → (∀ b ∈ fp, ∀ o, h.get? b = some o → h2.get? b = some o) → tn i h2)
    (h : GS Y L fp σw tn Pv n pz F A a g j s) (k : ∀ b o, b ≠ S → s.heap.get? b = some o → h'.get? b = some o) (new : ∃ o, h'.get? S = some o ∧ ∀ v, o.data ≠ .cell v) :
    GS Y L fp σw tn Pv n pz F A a g j { s with heap := h', toks := tk } := by
  obtain ⟨H, I, st, nf, pv⟩ := h.at_
  obtain ⟨oS, eS⟩ := h.objs S hSL
  obtain ⟨_, p2, p3, p4, p5⟩ := I.pin (S, oS) (List.mem_append_right _ (mem_pinsAt hSL eS))
  have pS : H S = none := p2
  obtain ⟨oN, eN, dN⟩ := new
  have nS : ∀ b u, H b = some u → b ≠ S := fun b u e z => by rw [z, pS] at e; cases e
  have cS : ∀ x c, Y.env.cells.lookup x = some c → c ≠ S := fun x c e z => by
    obtain ⟨v, o, ho, hd⟩ := I.cell x c e
    rw [z, eS] at ho
    cases ho
    exact p5 _ hd
  have I0 : Inv Y [] σw H s := pins_nil I
  have J : Inv Y [] σw H { s with heap := h', toks := tk } := by
    refine I0.step (g' := s.gens) (d' := s.drawn) (ch := [S]) (fun b hb => ?_) (fun b o _ _ hc e _ => k b o (fun z => hc (by simp [z])) e) (fun b o _ _ hc e _ => ⟨o.slots, k b o (fun z => hc (by simp [z])) e⟩) (fun _ _ _ _ m => m)
      (fun b o hc e => ⟨o, k b o (fun z => hc (by simp [z])) e⟩) (fun _ _ e => e) (fun _ _ _ e => e) (fun b ps e => ⟨#[], by rw [e]; simp⟩) (fun m hm => ?_) (fun b u e => ?_) I.bare
    · have e : b = S := by simpa using hb
      subst e
      refine ⟨.inr hS0, p3, cS, fun p hp => ?_⟩
      rw [hpn] at hp
      exact nomatch hp
    · obtain ⟨o, es, ep, ho, r⟩ := hm
      exact ⟨o, es, ep, k _ o (Ne.symm p3) ho, r⟩
    · refine (I.hok b u e).stay (fun c v hc q => k c v ?_ q) (fun _ q => q) fun _ _ q => q
      rcases hc with z | z
      · rw [z]; exact nS b u e
      · exact nS c _ z
  refine ⟨?_, fun b hb => ?_, ⟨H, J.pins_of fun p hp => ?_, tk_ _ _ _ st fun b hb o e => k b o (fun z => hLf b hb (by rw [z]; exact hSL)) e, nf, pv⟩, h.go⟩
  · obtain ⟨o, nm, qn, ho, r⟩ := h.gen
    exact ⟨o, nm, qn, k a o haS ho, r⟩
  · by_cases z : b = S
    · rw [z]
      exact ⟨oN, eN⟩
    · obtain ⟨o, e⟩ := h.objs b hb
      exact ⟨o, k b o z e⟩
  · obtain ⟨h1, h2⟩ := of_pinsAt hp
    have h2 : h'.get? p.1 = some p.2 := h2
    by_cases z : p.1 = S
    · rw [z] at h2 ⊢
      rw [eN] at h2
      cases h2
      exact ⟨eN, pS, p3, p4, dN⟩
    · obtain ⟨o, e⟩ := h.objs p.1 h1
      have e2 := k p.1 o z e
      rw [h2] at e2
      have e3 := Option.some.inj e2
      obtain ⟨q1, q2, q3, q4, q5⟩ := I.pin (p.1, o) (List.mem_append_right _ (mem_pinsAt h1 e))
      exact ⟨h2, q2, q3, q4, by rw [e3]; exact q5⟩
abbrev sumObj (i : Int) (t : Tok) (c : Nat) : Obj := { cls := .type "list", dict := none, data := .seq #[.int i t] c, slots := #[] }
theorem sum_gx {f : Nat → Int} {val : Nat → Int} {R : Result → Shared → Prop} (hpn : Y.pn = []) (hSL : S ∈ L) (haS : a ≠ S) (hS0 : Y.s_0.heap.objs.size ≤ S) (hLf : ∀ b ∈ fp, b ∉ L) (tk_ : ∀ i h h2, tn i h → (∀ b ∈ fp, ∀ o, h.get? b = some o → h2.get? b = some o) → tn i h2)
    (hh : A.in1.handled = none) (hroom : A.in1.depth < recursionLimit) (haL : a ∈ L) (hF : F = fun i => .int (f i)) (hval : ∀ j i, (passing pz n 0)[j]? = some i → val j = f i) (hfit : ∀ j, j < (passing pz n 0).length → InLong (val j) ∧ InLong (preSum val (j + 1))) :
    ∀ (k j : Nat) (s : Shared) (tA : Tok) (c : Nat), (passing pz n 0).length - j = k → j ≤ (passing pz n 0).length → GS Y L fp σw tn Pv n pz F A.in1 a g j s → s.heap.get? S = some (sumObj (preSum val j) tA c) →
    (∀ s' t' H, Inv Y [] σw H s' → Pv n H → R (.ok (.ret (.int (preSum val (passing pz n 0).length) t'))) s') → codeAny (model Y.prog Y.w) A (.builtin "sum.loop" ⟨[.ref a, .ref S, rawInt 0, rawInt 0], []⟩) R s := by
  intro k
  induction k with
  | zero =>
    intro j s tA c hk hj hst hS hR
    have hin : j = (passing pz n 0).length := by omega
    subst hin
    refine codeAny_builtin PySem.F.entry_sum_loop ?_
    rw [Around.under_plainId PySem.F.plain_sum_loop _]
    show wpAny _ A.in1 (seqItems? (.ref S) >>= _) _ _ s
    refine wpAny_bind (wpAny_seqItems hS rfl ?_)
    show wpAny _ A.in1 (tryCatch (pyNext (.ref a)) _ >>= _) _ _ s
    refine wpAny_bind (wpAny_tryCatch (done_gx hh hroom hst fun s' H I pv => ?_))
    exact wpAny_pure (hR s' tA H (pins_nil I) pv)
  | succ k ih =>
    intro j s tA c hk hj hst hS hR
    have hlt : j < (passing pz n 0).length := by omega
    refine codeAny_builtin PySem.F.entry_sum_loop ?_
    rw [Around.under_plainId PySem.F.plain_sum_loop _]
    show wpAny _ A.in1 (seqItems? (.ref S) >>= _) _ _ s
    refine wpAny_bind (wpAny_seqItems hS rfl ?_)
    show wpAny _ A.in1 (tryCatch (pyNext (.ref a)) _ >>= _) _ _ s
    refine wpAny_bind (wpAny_tryCatch (next_gx hh hroom haL hlt hst fun v i s' hi rv hst' pin => ?_))
    rw [hF] at rv
    obtain ⟨t, rfl⟩ : ∃ t, v = Value.int (f i) t := rv
    rw [← hval j i hi]
    have hS' := pin S hSL _ hS
    obtain ⟨⟨f1, f2⟩, f3, f4⟩ := hfit j hlt
    have hc : ((decide (-(2 ^ 63) ≤ val j) && decide (val j < 2 ^ 63)) && (decide (-(2 ^ 63) ≤ preSum val j + val j) && decide (preSum val j + val j < 2 ^ 63))) = true := by
      simp only [preSum] at f3 f4
      simp only [Bool.and_eq_true, decide_eq_true_eq]
      exact ⟨⟨f1, f2⟩, f3, f4⟩
    show wpAny _ A.in1 (if (_ : Bool) = true then (mkInt (preSum val j + val j) >>= _) else _) _ _ _
    split
    · refine wpAny_bind (wpAny_mkInt ?_)
      show wpAny _ A.in1 (updateSeq S (fun _ => #[.int (preSum val j + val j) s'.toks]) >>= _) _ _ _
      refine wpAny_bind ?_
      refine wpAny_updateSeq hS' rfl (wpAny_pure ⟨plainId_quiet PySem.F.plain_sum_loop _, ih (j + 1) _ s'.toks _ (by omega) hlt ?_ (Heap.get?_update_self _ hS' rfl) hR⟩)
      exact GS.put (s := s') (tk := s'.toks + 1) hpn hSL haS hS0 hLf tk_ hst' (fun b o hb e => (Heap.get?_update_other _ _ (Ne.symm hb)).trans e) ⟨_, Heap.get?_update_self _ hS' rfl, fun v z => by cases z⟩
    · rename_i hneg
      exact absurd hc hneg
end
theorem preSum_take (f : Nat → Int) (l : List Nat) : ∀ j, j ≤ l.length → preSum (fun j => f (l.getD j 0)) j = ((l.take j).map f).sum
  | 0, _ => rfl
  | j + 1, h => by
    have e : l[j]? = some (l[j]'h) := List.getElem?_eq_getElem _
    rw [preSum, preSum_take f l j (Nat.le_of_succ_le h), List.take_add_one, e, List.map_append, List.sum_append, List.getD_eq_getElem?_getD, e]
    simp
theorem sum_bound {f : Nat → Int} {B : Nat} : ∀ l : List Nat, (∀ i ∈ l, (f i).natAbs ≤ B) → ((l.map f).sum).natAbs ≤ l.length * B
  | [], _ => by simp
  | i :: l, h => by
    have h1 := h i List.mem_cons_self
    have h2 := sum_bound l fun k hk => h k (List.mem_cons_of_mem _ hk)
    rw [List.map_cons, List.sum_cons, List.length_cons, Nat.succ_mul]
    exact Nat.le_trans (Int.natAbs_add_le _ _) (by omega)
/-! ### the rules -/
/-- a generator expression's own scope -/
def gxOk (scope : Scope) : Bool := decide (scope.kind = .function) && (!scope.isCoroutine && (scope.names.all (fun y => decide (y.2 ≠ .cell)) && decide (scope.names.lookup (".0" : Str) = some NameKind.local)))
structure GxOk (scope : Scope) : Prop where
  kind : scope.kind = .function
  co : scope.isCoroutine = false
  nc : ∀ y ∈ scope.names, y.2 ≠ .cell
  dot : scope.names.lookup (".0" : Str) = some NameKind.local
theorem gx_ok {scope : Scope} (h : gxOk scope = true) : GxOk scope := by
  obtain ⟨h1, h⟩ := Bool.and_eq_true_iff.mp h
  obtain ⟨h2, h⟩ := Bool.and_eq_true_iff.mp h
  obtain ⟨h3, h4⟩ := Bool.and_eq_true_iff.mp h
  exact ⟨of_decide_eq_true h1, by simpa using h2, fun y hy => of_decide_eq_true (List.all_eq_true.mp h3 y hy), of_decide_eq_true h4⟩
theorem room_gx {k : Nat} {A : Around} {env : Env} (r : Room (k + 1) A) : Room k (A.in1.in1.deeper env) :=
  ⟨r.hd, by have := r.dp; show A.depth + 1 + 3 * k + 5 < _; omega, by have := r.un; show A.units + 1 + 1 + 3 + 16 * k + 200 < _; omega⟩
section
variable {X : Cx}
/-- the generator at a is made and has not begun: it can be walked by a consumer that pins what stands at L a -/
structure GMd (X : Cx) (pins : List (Addr × Obj)) (σ : L2.St) (Pv : Nat → Hp → Prop) (n : Nat) (pz : Nat → Bool) (F : Nat → V) (vs : List Nat) (L : Addr → List Addr) (a : Addr) (s : Shared) : Prop where
  ex : ∃ (Y : Cx) (fp : List Addr) (tn : Nat → Heap → Prop) (g : Nat) (go : Obj), Y.prog = X.prog ∧ Y.w = X.w ∧ Y.pn = [] ∧ Y.s_0.heap.objs.size < a ∧ s.heap.objs.size = a + 1 ∧ s.heap.get? a = some go ∧ (∀ v, go.data ≠ .cell v) ∧ s.heap.IsGen a g ∧
    (∀ b ∈ fp, b < a) ∧ (∀ i h h2, tn i h → (∀ b ∈ fp, ∀ o, h.get? b = some o → h2.get? b = some o) → tn i h2) ∧
    (∃ H, Inv Y [(a, go)] (wipe σ vs) H s ∧ tn 0 s.heap ∧ (∀ b ∈ fp, H b = none) ∧ Pv 0 H) ∧
    (∃ gs, s.gens[g]? = some gs ∧ ∀ s2, GAt Y (L a) fp (wipe σ vs) tn Pv 0 s2 → gs.Goes (model Y.prog Y.w) X.A.in1.in1 (GEnd Y (L a) (wipe σ vs) Pv n) (GYld Y (L a) fp (wipe σ vs) tn Pv n pz F) (passing pz n 0).length (.send .none) s2) ∧
    ∀ s' H, Inv Y [] (wipe σ vs) H s' → Inv X pins σ H s'
def tGx (P : Addr) (wi : TI) (g : TG) (tt : TT) (te : TE) (vs : List Nat) (σ : L2.St) (H : Hp) (K : Nat → (Nat → Bool) → (Nat → V) → (Nat → Hp → Prop) → Prop) : Prop :=
  wi σ H fun J H1 => H1 P = some (TabO P) ∧ ∃ (n : Nat) (pz : Nat → Bool) (F : Nat → V) (Pv : Nat → Hp → Prop), Pv 0 H1 ∧ (∀ i H, i < n → Pv i H → J.go i H) ∧ (∀ H, Pv n H → J.stop n H) ∧ GStep J g tt te σ vs Pv n pz F ∧ K n pz F Pv
theorem make_gx {c P : Addr} {elt tg iter : Expr} {ifs : List Expr} {scope : Scope} {own : List (Str × Nat)} {gpos : Pos} {wi : TI} {g : TG} {tt : TT} {te : TE} {k : Nat} {pins : List (Addr × Obj)} {s : Shared} {σ : L2.St} {H : Hp} {Q' : Value → Shared → Prop} (L : Addr → List Addr)
    {Kk : Nat → (Nat → Bool) → (Nat → V) → (Nat → Hp → Prop) → Prop} (hL : ∀ a, ∀ b ∈ L a, a ≤ b)
    (hr : Room k X.A) (hN : X.N.Nodup) (TB : GxR.TabB X.base X.mg c P) (hcode : X.env.code = .ref c) (hi : PI X tg iter wi) (ok : BlkOk X.N X.env.scope scope own) (S : GxOk scope)
    (pg : ∀ (s : Shared) (H : Hp) (C : Addr) (code : Value) (fp : List Addr), PG (gblk X s H (gxEnv X scope C code) fp) tg g) (pt : ∀ (s : Shared) (H : Hp) (C : Addr) (code : Value) (fp : List Addr), PTs (gblk X s H (gxEnv X scope C code) fp) ifs tt)
    (pe : ∀ (s : Shared) (H : Hp) (C : Addr) (code : Value) (fp : List Addr), PE (gblk X s H (gxEnv X scope C code) fp) elt te)
    (hs : ∀ v, genFold iter X.env v = pure v) (I : Inv X pins σ H s) (h : tGx P wi g tt te (own.map (·.2)) σ H Kk)
    (hQ : ∀ n pz F Pv a s5, Kk n pz F Pv → GMd X pins σ Pv n pz F (own.map (·.2)) L a s5 → Q' (.ref a) s5) :
    wpAny (model X.prog X.w) X.A (eval (gxE elt tg iter ifs scope gpos) X.env) Q' X.xe s := by
  have hfree : ∀ y ∈ scope.names, y.2 = .free → ∃ c, X.env.cells.lookup y.1 = some c := fun y hy e => by
    rcases ok.free y hy e with k | k
    · exact I.ok.has _ (.inl k)
    · exact I.ok.has _ (.inr k)
  refine wpAny_GeneratorExp_make S.co (closure_ok hfree) S.nc S.dot S.kind (by have := hr.dp; omega) ?_ hs
  refine thn (hi.run pins s σ H _ I h) fun xv s1 hx => thn hx fun itv s2 h2 => ?_
  obtain ⟨it, fp, tn, J, H2, rfl, I2, T, st2, f2, hP, n, pz, F, Pv, p0, go, stop, step, kk⟩ := h2
  obtain ⟨⟨ps, hPs, ht⟩, _, _⟩ := (show ObjOk X.prog X.w H2 s2.heap P (TabO P) from I2.hok P _ hP)
  have cd : PySem.W.CodeHd s2.heap c P := TB.code.keeps fun b u e => I2.bk b u e
  have sz : ∀ b ∈ fp, b < s2.heap.objs.size := fun b hb => by
    obtain ⟨o, e, _⟩ := T.obj _ _ st2 b hb
    exact Heap.lt_size e
  have nPf : ∀ b ∈ fp, b ≠ P := fun b hb z => by
    have := (f2 b hb).1
    rw [z, hP] at this
    cases this
  have cont : ∀ (code : Value) (h3 : Heap) (tk : Nat), Heap.ExtBut P s2.heap h3 → s2.heap.objs.size ≤ h3.objs.size → tabP P h3 →
      wpAny (model X.prog X.w) X.A (builtinsFor X.env.globals X.env.builtins) (fun bi s4 => ∀ h', h'.Ns s4.heap.objs.size (fun y => if y = ".0" then some (.ref it) else none) → Heap.SameBut s4.heap.objs.size (s4.heap.push { cls := .type "frame", data := .dict #[] }) h' →
          Q' (.ref h'.objs.size) { s4 with
            gens := s4.gens.push (.fresh (.compStart (gxE elt tg iter ifs scope gpos) 0 (.ref it) .none (genEnv scope (cloFrom X.env.cells scope.names []) s4.heap.objs.size code bi X.env))),
            toks := s4.toks + 1 + 1 + 1,
            heap := h'.push { cls := .type "generator", data := .fields #[.int s4.gens.size 0, .str "<genexpr>" (s4.toks + 1), .str (X.env.qual ++ "<genexpr>") (s4.toks + 1 + 1)] } }) X.xe { s2 with heap := h3, toks := tk } := by
    intro code h3 tk hx hsz hP3
    obtain ⟨bm, ob, e1, e2, e3, e4, e5, e6, e7, e8⟩ := TB.bm
    have keep3 : ∀ b u, b ≠ P → s2.heap.get? b = some u → h3.get? b = some u := fun b u hb e => hx b u hb e
    refine wpAny_builtinsFor (m := X.mg) (by rw [I2.ok.glob]; exact (I2.mod.glob.keeps I2.bk).extBut hx TB.gP) e1 e2 (keep3 _ _ e4 (I2.bk _ _ e5)) e6 e7 e8 ?_
    have I3 : Inv X pins σ H2 { s2 with heap := h3, toks := tk } := inv_tabO I2 hP keep3 hP3
    have st3 : tn 0 h3 := T.keep _ _ _ st2 fun b hb o e => keep3 b o (nPf b hb) e
    generalize hs3 : ({ s2 with heap := h3, toks := tk } : Shared) = s3 at I3 ⊢
    have eh3 : s3.heap = h3 := by rw [← hs3]
    intro h' hn' hs'
    have hsz' : h'.objs.size = s3.heap.objs.size + 1 := by rw [hs'.1, Heap.size_push]
    have keep' : ∀ b o, s3.heap.get? b = some o → h'.get? b = some o := fun b o e => hs'.extBut b o (Nat.ne_of_lt (Heap.lt_size e)) (Heap.get?_push_of_some _ e)
    generalize hgo : ({ cls := .type "generator", data := .fields #[.int s3.gens.size 0, .str "<genexpr>" (s3.toks + 1), .str (X.env.qual ++ "<genexpr>") (s3.toks + 1 + 1)] } : Obj) = gob
    have keep5 : ∀ b o, s3.heap.get? b = some o → (h'.push gob).get? b = some o := fun b o e => Heap.get?_push_of_some _ (keep' b o e)
    have hfp3 : ∀ b ∈ fp, FpOk X pins H2 b ∧ b < s3.heap.objs.size := fun b hb => ⟨f2 b hb, by rw [eh3]; exact Nat.lt_of_lt_of_le (sz b hb) hsz⟩
    have hga : (h'.push gob).get? h'.objs.size = some gob := by rw [← hgo]; exact Heap.get?_push_size _ rfl
    have I5 := gblk_start (code := code) (G5 := s3.gens.push (.fresh (.compStart (gxE elt tg iter ifs scope gpos) 0 (.ref it) .none (gxEnv X scope s3.heap.objs.size code)))) (tk := s3.toks + 1 + 1 + 1) (h5 := h'.push gob) (a := h'.objs.size) (go := gob) I3 ok S.nc hN hr.hd hfp3 keep5 (hn'.push _) (I3.bare.push rfl) hga (by rw [hsz']; exact Nat.lt_succ_self _)
      (fun v z => by rw [← hgo] at z; cases z)
    refine hQ n pz F Pv _ _ kk ⟨gblk X s3 H2 (gxEnv X scope s3.heap.objs.size code) fp, fp, tn, s3.gens.size, gob, rfl, rfl, rfl, ?_, ?_, hga, (fun v z => by rw [← hgo] at z; cases z), ?_, fun b hb => ?_, fun i h h2 => T.keep i h h2, ⟨H2, I5, ?_, fun b hb => (f2 b hb).1, p0⟩, ⟨.fresh (.compStart (gxE elt tg iter ifs scope gpos) 0 (.ref it) .none (gxEnv X scope s3.heap.objs.size code)), ?_, fun s6 h6 => ⟨rfl, ?_⟩⟩, fun s' H' J' => ?_⟩
    · show s3.heap.objs.size < h'.objs.size
      rw [hsz']; exact Nat.lt_succ_self _
    · show (h'.push gob).objs.size = _
      rw [Heap.size_push]
    · exact ⟨gob, _, _, hga, by rw [← hgo], by rw [← hgo], by rw [← hgo]⟩
    · rw [hsz']
      exact Nat.lt_succ_of_lt (hfp3 b hb).2
    · exact T.keep _ _ _ st3 fun b _ o e => keep5 b o (by rw [eh3]; exact e)
    · exact Array.getElem?_push_size ..
    · refine seg_gx0 (Y := gblk X s3 H2 (gxEnv X scope s3.heap.objs.size code) fp) (A := X.A.in1.in1) rfl rfl rfl rfl S.co T (pg _ _ _ _ _) (pt _ _ _ _ _) (pe _ _ _ _ _) (fun b hb => hb) (fun b hb z => ?_) go stop step s6 h6
      have h1 := hL _ b z
      have h2 := (hfp3 b hb).2
      rw [hsz'] at h1
      exact absurd (Nat.lt_of_lt_of_le h2 (Nat.le_of_succ_le h1)) (Nat.lt_irrefl _)
    · exact I3.call' (ch := fp) J'.os J'.base J'.hok J'.bare fun b hb => ⟨(f2 b hb).2.2.2.1, (f2 b hb).2.1, (f2 b hb).2.2.2.2.1, (f2 b hb).2.2.2.2.2⟩
  refine ⟨I2.nolimit, ?_⟩
  cases hf : codeAmong gpos ps.toList with
  | none =>
    refine wpAny_genexprCodeX hcode (cd.code hPs ht) (cd.tab hPs) hf fun c' h' tk hx hge hlt hco' _ htab' _ => ?_
    obtain ⟨o1, vs, f1, tf, fl, tg', inF, tx, tt', op, _, _, _, _, _, _, _, _, _, htr, _⟩ := hco'
    exact cont _ h' tk hx (Nat.le_trans hge (Nat.le_of_lt hlt)) ⟨_, htab'.2, htr⟩
  | some cv =>
    refine wpAny_genexprCode_hit hcode (cd.code hPs ht) hf ?_
    exact cont cv s2.heap s2.toks (Heap.ExtBut.refl _ _) (Nat.le_refl _) ⟨ps, hPs, ht⟩
/-- all(e for .. in .. if ..) -/
def tAllG (P : Addr) (wi : TI) (g : TG) (tt : TT) (te : TE) (vs : List Nat) : TE := fun σ H Q => tGx P wi g tt te vs σ H fun n pz F Pv => ∃ f : Nat → Bool, (F = fun i => .bl (f i)) ∧ ∀ i H, i ≤ n → Pv i H → Q (.bl (((List.range n).filter pz).all f)) H
def tAnyG (P : Addr) (wi : TI) (g : TG) (tt : TT) (te : TE) (vs : List Nat) : TE := fun σ H Q => tGx P wi g tt te vs σ H fun n pz F Pv => ∃ f : Nat → Bool, (F = fun i => .bl (f i)) ∧ ∀ i H, i ≤ n → Pv i H → Q (.bl (((List.range n).filter pz).any f)) H
def tSumG (P : Addr) (wi : TI) (g : TG) (tt : TT) (te : TE) (vs : List Nat) : TE := fun σ H Q => tGx P wi g tt te vs σ H fun n pz F Pv => ∃ (f : Nat → Int) (B : Nat), (F = fun i => .int (f i)) ∧ n * B < 2 ^ 63 ∧ (∀ i, i < n → (f i).natAbs ≤ B) ∧ ∀ H, Pv n H → Q (.int ((((List.range n).filter pz).map f).sum)) H
/-- a generator just made, seen by all or any -/
theorem GMd.gs1 {pins : List (Addr × Obj)} {σ : L2.St} {Pv : Nat → Hp → Prop} {n : Nat} {pz : Nat → Bool} {F : Nat → V} {vs : List Nat} {a : Addr} {s : Shared} (G : GMd X pins σ Pv n pz F vs (fun a => [a]) a s) :
    s.heap.NoLimit ∧ (∃ g, s.heap.IsGen a g) ∧ ∃ (Y : Cx) (fp : List Addr) (tn : Nat → Heap → Prop) (g : Nat), Y.prog = X.prog ∧ Y.w = X.w ∧ GS Y [a] fp (wipe σ vs) tn Pv n pz F X.A.in1 a g 0 s ∧ ∀ s' H, Inv Y [] (wipe σ vs) H s' → Inv X pins σ H s' := by
  obtain ⟨Y, fp, tn, g, go, e1, e2, e3, e4, e5, e6, e7, e8, e9, e10, ⟨H, I, st, nf, pv⟩, ⟨gs, h1, h2⟩, back⟩ := G.ex
  refine ⟨I.nolimit, ⟨g, e8⟩, Y, fp, tn, g, e1, e2, ⟨e8, fun b hb => ?_, ⟨H, ?_, st, nf, pv⟩, gs, h1, h2⟩, back⟩
  · rw [List.mem_singleton.mp hb]
    exact ⟨go, e6⟩
  · have e : pinsAt [a] s.heap = [(a, go)] := by
      unfold pinsAt
      rw [List.filterMap_cons, e6]
      rfl
    rw [e]
    exact I
theorem all_made {pins : List (Addr × Obj)} {σ : L2.St} {Pv : Nat → Hp → Prop} {n : Nat} {pz : Nat → Bool} {F : Nat → V} {vs : List Nat} {a : Addr} {s : Shared} {k : Nat} {f : Nat → Bool} {Q : VK} (hr : Room k X.A) (G : GMd X pins σ Pv n pz F vs (fun a => [a]) a s)
    (hF : F = fun i => .bl (f i)) (hQ : ∀ i H, i ≤ n → Pv i H → Q (.bl (((List.range n).filter pz).all f)) H) : wpAny (model X.prog X.w) X.A (call (.builtin "all") [.ref a]) (EP X pins σ Q) X.xe s := by
  obtain ⟨lim, ⟨g0, isg⟩, Y, fp, tn, g, ep, ew, gs, back⟩ := G.gs1
  refine call_function_tree PySem.F.kind_all PySem.F.plain_all PySem.F.entry_all (PySem.F.args_all1 _) ?_
  unfold Builtin.«all»
  refine wpAny_bind (m := oneArg "all" _) (wpAny_pure ?_)
  refine wpAny_bind (wpAny_pyIter_gen isg ?_)
  have hd : X.A.in1.depth < recursionLimit := hr.depth
  have L := all_gx (A := X.A) (f := f) (R := fun r s' => match r with | .ok (.ret v) => EP X pins σ Q v s' | .ok _ => False | .error e => X.xe e s') hr.hd hd List.mem_cons_self hF (passing pz n 0).length 0 s rfl (Nat.zero_le _) gs
    (fun s' i H hi I pv => ⟨.bl _, H, back s' H I, rfl, hQ i H hi pv⟩)
  rw [ep, ew] at L
  exact wpAny_pure ⟨plainId_quiet PySem.F.plain_all_loop _, L⟩
theorem any_made {pins : List (Addr × Obj)} {σ : L2.St} {Pv : Nat → Hp → Prop} {n : Nat} {pz : Nat → Bool} {F : Nat → V} {vs : List Nat} {a : Addr} {s : Shared} {k : Nat} {f : Nat → Bool} {Q : VK} (hr : Room k X.A) (G : GMd X pins σ Pv n pz F vs (fun a => [a]) a s)
    (hF : F = fun i => .bl (f i)) (hQ : ∀ i H, i ≤ n → Pv i H → Q (.bl (((List.range n).filter pz).any f)) H) : wpAny (model X.prog X.w) X.A (call (.builtin "any") [.ref a]) (EP X pins σ Q) X.xe s := by
  obtain ⟨lim, ⟨g0, isg⟩, Y, fp, tn, g, ep, ew, gs, back⟩ := G.gs1
  refine call_function_tree PySem.F.kind_any PySem.F.plain_any PySem.F.entry_any (PySem.F.args_any1 _) ?_
  unfold Builtin.«any»
  refine wpAny_bind (m := oneArg "any" _) (wpAny_pure ?_)
  refine wpAny_bind (wpAny_pyIter_gen isg ?_)
  have hd : X.A.in1.depth < recursionLimit := hr.depth
  have L := any_gx (A := X.A) (f := f) (R := fun r s' => match r with | .ok (.ret v) => EP X pins σ Q v s' | .ok _ => False | .error e => X.xe e s') hr.hd hd List.mem_cons_self hF (passing pz n 0).length 0 s rfl (Nat.zero_le _) gs
    (fun s' i H hi I pv => ⟨.bl _, H, back s' H I, rfl, hQ i H hi pv⟩)
  rw [ep, ew] at L
  exact wpAny_pure ⟨plainId_quiet PySem.F.plain_any_loop _, L⟩
theorem sum_made {pins : List (Addr × Obj)} {σ : L2.St} {Pv : Nat → Hp → Prop} {n : Nat} {pz : Nat → Bool} {F : Nat → V} {vs : List Nat} {a : Addr} {s : Shared} {k : Nat} {f : Nat → Int} {B : Nat} {Q : VK} (hr : Room k X.A) (G : GMd X pins σ Pv n pz F vs (fun a => [a, a + 1]) a s)
    (hF : F = fun i => .int (f i)) (hB : n * B < 2 ^ 63) (hf : ∀ i, i < n → (f i).natAbs ≤ B) (hQ : ∀ H, Pv n H → Q (.int ((((List.range n).filter pz).map f).sum)) H) : wpAny (model X.prog X.w) X.A (call (.builtin "sum") [.ref a]) (EP X pins σ Q) X.xe s := by
  obtain ⟨Y, fp, tn, g, go, ep, ew, epn, es0, esz, ega, ego, isg, hfp, tkeep, ⟨H, I, st, nf, pv⟩, ⟨gs, h1, h2⟩, back⟩ := G.ex
  refine call_function_tree PySem.F.kind_sum PySem.F.plain_sum PySem.F.entry_sum (PySem.F.args_sum1 _) ?_
  unfold Builtin.«sum»
  simp only [List.length_cons, List.length_nil]
  rw [if_neg (by decide)]
  refine wpAny_bind (wpAny_of_eq (show Builtin.Builtins.bindParams "sum" ["start"] 0 { } = pure [none] from rfl) ?_)
  refine wpAny_bind (wpAny_pyIter_gen isg ?_)
  refine wpAny_bind (wpAny_mkInt ?_)
  refine wpAny_bind (wpAny_pure ?_)
  simp only [List.forIn_cons, List.forIn_nil]
  refine wpAny_bind (wpAny_bind (wpAny_bind (wpAny_isInstance (T := "int") (b := false) (typeIs_int _ _ _) PySem.sub_int_str ?_)))
  simp only [Bool.false_eq_true, if_false]
  refine wpAny_pure (wpAny_bind (wpAny_bind (wpAny_isInstance (T := "int") (b := false) (typeIs_int _ _ _) PySem.sub_int_bytes ?_)))
  simp only [Bool.false_eq_true, if_false]
  refine wpAny_pure (wpAny_bind (wpAny_bind (wpAny_isInstance (T := "int") (b := false) (typeIs_int _ _ _) PySem.sub_int_bytearray ?_)))
  simp only [Bool.false_eq_true, if_false]
  refine wpAny_pure (wpAny_pure ?_)
  refine wpAny_bind (wpAny_newObj_type ?_)
  have hd : X.A.in1.depth < recursionLimit := hr.depth
  have le : (passing pz n 0).length ≤ n := by
    unfold passing
    exact Nat.le_trans (List.length_filter_le _ _) (by simp)
  have inr : ∀ i ∈ passing pz n 0, i < n := fun i hi => by
    unfold passing at hi
    exact List.mem_range.mp (List.mem_filter.mp hi).1
  have bnd : ∀ l : List Nat, (∀ i ∈ l, i < n) → l.length ≤ n → InLong ((l.map f).sum) := fun l hl hn => by
    have b1 := sum_bound (f := f) (B := B) l fun i hi => hf i (hl i hi)
    have b2 : l.length * B ≤ n * B := Nat.mul_le_mul_right _ hn
    unfold InLong
    omega
  have hSz : s.heap.objs.size = a + 1 := esz
  have gs0 : GS Y [a, a + 1] fp (wipe σ vs) tn Pv n pz F X.A.in1 a g 0 { s with heap := s.heap.push { cls := .type "list", data := .seq #[.int 0 s.toks] }, toks := s.toks + 1 } := by
    have kp : ∀ b o, s.heap.get? b = some o → (s.heap.push { cls := .type "list", data := .seq #[.int 0 s.toks] }).get? b = some o := fun b o e => Heap.get?_push_of_some _ e
    have eS : (s.heap.push { cls := .type "list", data := .seq #[.int 0 s.toks] }).get? (a + 1) = some { cls := .type "list", data := .seq #[.int 0 s.toks] } := by rw [← hSz]; exact Heap.get?_push_size _ rfl
    have J : Inv Y [(a, go)] (wipe σ vs) H { s with heap := s.heap.push { cls := .type "list", data := .seq #[.int 0 s.toks] }, toks := s.toks + 1 } := I.kept kp
    have eP : pinsAt [a, a + 1] (s.heap.push { cls := .type "list", data := .seq #[.int 0 s.toks] }) = [(a, go), (a + 1, { cls := .type "list", data := .seq #[.int 0 s.toks] })] := by
      unfold pinsAt
      rw [List.filterMap_cons, kp a go ega]
      show (a, go) :: List.filterMap _ [a + 1] = _
      rw [List.filterMap_cons, eS]
      rfl
    refine ⟨?_, fun b hb => ?_, ⟨H, ?_, tkeep _ _ _ st fun b _ o e => kp b o e, nf, pv⟩, gs, h1, h2⟩
    · obtain ⟨o, nm, qn, ho, r⟩ := isg
      exact ⟨o, nm, qn, kp a o ho, r⟩
    · rcases List.mem_cons.mp hb with z | z
      · rw [z]
        exact ⟨go, kp a go ega⟩
      · rw [List.mem_singleton.mp z]
        exact ⟨_, eS⟩
    · show Inv Y (pinsAt [a, a + 1] (s.heap.push { cls := .type "list", data := .seq #[.int 0 s.toks] })) _ _ _
      rw [eP]
      refine J.pins_of fun p hp => ?_
      rcases List.mem_cons.mp hp with z | z
      · rw [z]
        exact J.pin (a, go) (List.mem_append_right _ List.mem_cons_self)
      · rw [List.mem_singleton.mp z]
        have fr : H (a + 1) = none := I.hok.fresh (Nat.le_of_eq hSz)
        refine ⟨eS, fr, fun z => ?_, I.nofs (Nat.le_of_eq hSz), fun v z => by cases z⟩
        have := I.lt
        rw [hSz] at this
        have z : a + 1 = Y.env.locals := z
        rw [← z] at this
        exact Nat.lt_irrefl _ this
  have L := sum_gx (A := X.A) (a := a) (S := a + 1) (f := f) (val := fun j => f ((passing pz n 0).getD j 0)) (R := fun r s' => match r with | .ok (.ret v) => EP X pins σ Q v s' | .ok _ => False | .error e => X.xe e s') epn (by simp) (Nat.ne_of_lt (Nat.lt_succ_self a)) (Nat.le_of_lt (Nat.lt_succ_of_lt es0))
    (fun b hb z => by
      have h3 := hfp b hb
      rcases List.mem_cons.mp z with z | z
      · rw [z] at h3; exact Nat.lt_irrefl _ h3
      · rw [List.mem_singleton.mp z] at h3; exact absurd (Nat.lt_trans h3 (Nat.lt_succ_self a)) (Nat.lt_irrefl _)) tkeep hr.hd hd (by simp) hF
    (fun j i hi => by
      show f ((passing pz n 0).getD j 0) = f i
      rw [List.getD_eq_getElem?_getD, hi]
      rfl)
    (fun j hj => ⟨by
      have e : (passing pz n 0)[j]? = some ((passing pz n 0)[j]'hj) := List.getElem?_eq_getElem _
      show InLong (f ((passing pz n 0).getD j 0))
      rw [List.getD_eq_getElem?_getD, e]
      have hm := inr _ (List.getElem_mem hj)
      have := bnd [(passing pz n 0)[j]'hj] (fun i hi => by rw [List.mem_singleton.mp hi]; exact hm) (by show 1 ≤ n; omega)
      simpa using this, by
      rw [preSum_take f _ _ hj]
      exact bnd _ (fun i hi => inr i (List.mem_of_mem_take hi)) (by rw [List.length_take]; omega)⟩)
    (passing pz n 0).length 0 _ s.toks 0 rfl (Nat.zero_le _) gs0 (by
      show (s.heap.push _).get? (a + 1) = _
      rw [← hSz]
      exact Heap.get?_push_size _ rfl)
    (fun s' t' H I pv => ⟨.int _, H, back s' H I, ⟨t', rfl⟩, by
      rw [preSum_take f _ _ (Nat.le_refl _), List.take_length]
      exact hQ H pv⟩)
  rw [ep, ew] at L
  rw [show s.heap.objs.size = a + 1 from hSz]
  exact wpAny_pure ⟨plainId_quiet PySem.F.plain_sum_loop _, L⟩
section
variable {c P : Addr} {elt tg iter : Expr} {ifs : List Expr} {scope : Scope} {own : List (Str × Nat)} {p pos gpos : Pos} {wi : TI} {g : TG} {tt : TT} {te : TE} {k : Nat}
theorem pe_allG (hr : Room k X.A) (hg : Gl X "all") (hm : X.mg "all" = none) (hN : X.N.Nodup) (TB : GxR.TabB X.base X.mg c P) (hcode : X.env.code = .ref c) (hi : PI X tg iter wi) (ok : BlkOk X.N X.env.scope scope own) (S : gxOk scope = true)
    (pg : ∀ (s : Shared) (H : Hp) (C : Addr) (code : Value) (fp : List Addr), PG (gblk X s H (gxEnv X scope C code) fp) tg g) (pt : ∀ (s : Shared) (H : Hp) (C : Addr) (code : Value) (fp : List Addr), PTs (gblk X s H (gxEnv X scope C code) fp) ifs tt)
    (pe : ∀ (s : Shared) (H : Hp) (C : Addr) (code : Value) (fp : List Addr), PE (gblk X s H (gxEnv X scope C code) fp) elt te)
    (hs : ∀ v, genFold iter X.env v = pure v := by intro _; rfl)
    (he : starEach [gxE elt tg iter ifs scope gpos] X.env = (false, eval (gxE elt tg iter ifs scope gpos) X.env) :: starEach [] X.env := by rfl) :
    PE X (.Call (.Name "all" p) [gxE elt tg iter ifs scope gpos] [] pos) (tAllG P wi g tt te (own.map (·.2))) := by
  refine ⟨fun pins s σ H Q I h => ?_⟩
  refine wpAny_Call_Name_kw (ld_blt I hg hm (show bootBuiltins "all" = some (.builtin "all") by decide +kernel) ?_)
  refine PyProof.Rows.callWith_builtin1 ?_ he (by rfl)
  rw [he]
  show wpAny _ _ (spliced ((false, eval (gxE elt tg iter ifs scope gpos) X.env) :: backTo pos (starEach [] X.env))) _ _ s
  refine Calls.spliced_cons (make_gx (fun a => [a]) (fun a b hb => by rw [List.mem_singleton.mp hb]; exact Nat.le_refl _) hr hN TB hcode hi ok (gx_ok S) pg pt pe hs I h fun n pz F Pv a s5 kk G => ?_)
  obtain ⟨f, hF, hQ⟩ := kk
  exact Calls.spliced_nil (all_made hr G hF hQ)
theorem pe_anyG (hr : Room k X.A) (hg : Gl X "any") (hm : X.mg "any" = none) (hN : X.N.Nodup) (TB : GxR.TabB X.base X.mg c P) (hcode : X.env.code = .ref c) (hi : PI X tg iter wi) (ok : BlkOk X.N X.env.scope scope own) (S : gxOk scope = true)
    (pg : ∀ (s : Shared) (H : Hp) (C : Addr) (code : Value) (fp : List Addr), PG (gblk X s H (gxEnv X scope C code) fp) tg g) (pt : ∀ (s : Shared) (H : Hp) (C : Addr) (code : Value) (fp : List Addr), PTs (gblk X s H (gxEnv X scope C code) fp) ifs tt)
    (pe : ∀ (s : Shared) (H : Hp) (C : Addr) (code : Value) (fp : List Addr), PE (gblk X s H (gxEnv X scope C code) fp) elt te)
    (hs : ∀ v, genFold iter X.env v = pure v := by intro _; rfl)
    (he : starEach [gxE elt tg iter ifs scope gpos] X.env = (false, eval (gxE elt tg iter ifs scope gpos) X.env) :: starEach [] X.env := by rfl) :
    PE X (.Call (.Name "any" p) [gxE elt tg iter ifs scope gpos] [] pos) (tAnyG P wi g tt te (own.map (·.2))) := by
  refine ⟨fun pins s σ H Q I h => ?_⟩
  refine wpAny_Call_Name_kw (ld_blt I hg hm (show bootBuiltins "any" = some (.builtin "any") by decide +kernel) ?_)
  refine PyProof.Rows.callWith_builtin1 ?_ he (by rfl)
  rw [he]
  show wpAny _ _ (spliced ((false, eval (gxE elt tg iter ifs scope gpos) X.env) :: backTo pos (starEach [] X.env))) _ _ s
  refine Calls.spliced_cons (make_gx (fun a => [a]) (fun a b hb => by rw [List.mem_singleton.mp hb]; exact Nat.le_refl _) hr hN TB hcode hi ok (gx_ok S) pg pt pe hs I h fun n pz F Pv a s5 kk G => ?_)
  obtain ⟨f, hF, hQ⟩ := kk
  exact Calls.spliced_nil (any_made hr G hF hQ)
theorem pe_sumG (hr : Room k X.A) (hg : Gl X "sum") (hm : X.mg "sum" = none) (hN : X.N.Nodup) (TB : GxR.TabB X.base X.mg c P) (hcode : X.env.code = .ref c) (hi : PI X tg iter wi) (ok : BlkOk X.N X.env.scope scope own) (S : gxOk scope = true)
    (pg : ∀ (s : Shared) (H : Hp) (C : Addr) (code : Value) (fp : List Addr), PG (gblk X s H (gxEnv X scope C code) fp) tg g) (pt : ∀ (s : Shared) (H : Hp) (C : Addr) (code : Value) (fp : List Addr), PTs (gblk X s H (gxEnv X scope C code) fp) ifs tt)
    (pe : ∀ (s : Shared) (H : Hp) (C : Addr) (code : Value) (fp : List Addr), PE (gblk X s H (gxEnv X scope C code) fp) elt te)
    (hs : ∀ v, genFold iter X.env v = pure v := by intro _; rfl)
    (he : starEach [gxE elt tg iter ifs scope gpos] X.env = (false, eval (gxE elt tg iter ifs scope gpos) X.env) :: starEach [] X.env := by rfl) :
    PE X (.Call (.Name "sum" p) [gxE elt tg iter ifs scope gpos] [] pos) (tSumG P wi g tt te (own.map (·.2))) := by
  refine ⟨fun pins s σ H Q I h => ?_⟩
  refine wpAny_Call_Name_kw (ld_blt I hg hm (show bootBuiltins "sum" = some (.builtin "sum") by decide +kernel) ?_)
  refine PyProof.Rows.callWith_builtin1 ?_ he (by rfl)
  rw [he]
  show wpAny _ _ (spliced ((false, eval (gxE elt tg iter ifs scope gpos) X.env) :: backTo pos (starEach [] X.env))) _ _ s
  refine Calls.spliced_cons (make_gx (fun a => [a, a + 1]) (fun a b hb => by
    rcases List.mem_cons.mp hb with z | z
    · rw [z]; exact Nat.le_refl _
    · rw [List.mem_singleton.mp z]; exact Nat.le_succ _) hr hN TB hcode hi ok (gx_ok S) pg pt pe hs I h fun n pz F Pv a s5 kk G => ?_)
  obtain ⟨f, B, hF, hB, hf, hQ⟩ := kk
  exact Calls.spliced_nil (sum_made hr G hF hB hf hQ)
end
end
/-- a def of the text whose code object is known -/
theorem okT {Pr : Program} {w : World} {K : PySem.W.Frag} {mg : Str → Option Value} {base : Heap} {x qual : Str} {st : Stmt} {f c : Addr} {fd : FuncData} {N ps : List Str} {k : Nat} {sp : Sp} (F : Fun K x qual st f fd) (hc : fd.code = .ref c) (S : FnScope N ps (defScope st)) (len : ∀ vs H Q E, sp vs H Q E → vs.length = ps.length)
    (hbody : ∀ (A : Around) (outer : List Env) (s : Shared) (H : Hp) (vs : List V) (Q : VK) (E : XK), Room k (A.deeper (envOfC qual (defScope st) s.heap.objs.size f (.ref c))) → sp vs H Q E →
      ∃ t, PSs (cxOf CX0 Pr w K mg base N qual (defScope st) f (.ref c) A outer s H E).nox (defBody st) t ∧ t { nx := fun _ H' => Q .non H', rt := Q } (start N vs) H) : FnOk Pr w K mg base CX0 (k + 1) f fd ps sp := by
  obtain ⟨oc, od, kV, doc, pm, an, cdv, ct, osl, rfl, lk, hcd⟩ := F.ex
  obtain rfl : cdv = .ref c := hc
  refine fn_of lk hcd S len fun A outer s H vs Q E hr hsp => ?_
  obtain ⟨t, h, q⟩ := hbody A outer s H vs Q E hr hsp
  exact ⟨t, h.nox, q⟩
/-- a generator's turns by a walk -/
theorem gx_it {J : It} {n : Nat} {G : Hp → Prop} {W : Nat → Hp → V → Hp → Prop} (w : Walk J n G W) {g : TG} {tt : TT} {te : TE} {σ : L2.St} {vs : List Nat} {pz : Nat → Bool} {F : Nat → V} {H1 : Hp} {R : Prop} (Pv : Nat → Hp → Prop) (p0 : Pv 0 H1) (hG : ∀ i H, i ≤ n → Pv i H → G H)
    (hs : ∀ i x H H', i < n → Pv i H → W i H x H' → g x (wipe σ vs) H' fun σ2 H2 => wipe σ2 vs = wipe σ vs ∧ tt σ2 H2 fun b H3 => b = pz i ∧ if b = true then te σ2 H3 (fun y H4 => y = F i ∧ Pv (i + 1) H4) else Pv (i + 1) H3) (r : R) :
    Pv 0 H1 ∧ (∀ i H, i < n → Pv i H → J.go i H) ∧ (∀ H, Pv n H → J.stop n H) ∧ GStep J g tt te σ vs Pv n pz F ∧ R :=
  ⟨p0, fun i H hi p => w.goes i H hi (hG i H (Nat.le_of_lt hi) p), fun H p => w.stops H (hG n H (Nat.le_refl _) p), fun i x H H' hi p y => hs i x H H' hi p (w.yields i H x H' hi (hG i H (Nat.le_of_lt hi) p) y), r⟩
/-! ### a law's end where defs have tables of code objects (generator expressions) -/
section
variable {P : Program} {w : World} {K : PySem.W.Frag} {mg mb : Str → Option Value} {k : Nat} {fa a : Addr} {fd : FuncData} {x : Str} {sp : Sp} {s1 : Shared} {vs : List Value} {ns : List Int} {cs : List (Addr × Addr)}
abbrev emptyT : Obj := { cls := .none, data := .fields #[] }
/-- what is tracked at a law's start: the script, if it is no thing of the text, and the tables -/
structure Only0 (K : PySem.W.Frag) (a : Addr) (ts : List Addr) (H : Hp) : Prop where
  tab : ∀ t ∈ ts, H t = some (TabO t)
  no : ∀ b, b ≠ a → b ∉ ts → H b = none
  own : H a = none ∨ (K.lookup a = none ∧ ∃ o xs, H a = some (.frz o (.lst xs)))
theorem told_fromT (H : Hp) (kin : K.In s1.heap) (glob : s1.heap.Ns mainGlobals mg) (blt : s1.heap.Ns builtinsNs mb) (same : ∀ y : Str, y ≠ "__name__" → mb y = bootBuiltins y) (lim : s1.heap.NoLimit) (bare : s1.gens = #[])
    (hT : ∀ p ∈ cs, s1.heap.get? p.2 = some emptyT) (nT : ∀ p ∈ cs, K.lookup p.2 = none) (C : ∀ p ∈ cs, PySem.W.CodeHd s1.heap p.1 p.2)
    (hbm : ∃ (bm : Addr) (ob : Obj), mg "__builtins__" = some (.ref bm) ∧ bm ≠ builtinsNs ∧ s1.heap.get? bm = some ob ∧ ob.cls = .type "module" ∧ ob.dict = some builtinsNs ∧ ob.data = .plain)
    (obj : s1.heap.get? a = some { cls := .type "list", data := .seq vs.toArray }) (room : Room k callerA)
    (F : ∀ base : Heap, K.In base → base.Ns mainGlobals mg → (∀ p ∈ cs, GxR.TabB base mg p.1 p.2) → FnG P w K mg base k fa fd [x] sp) (bind : ∀ (s : Shared) (u : Value), BindsTo s fd ⟨[u], []⟩ [(x, u)])
    (only : Only0 K a (cs.map (·.2)) H) (wish : sp [.ref a] H (fun v H' => v = .bl true ∧ ∀ p ∈ cs, H' p.2 = some (TabO p.2)) fun _ _ _ => False) (hok : HOk P w H s1.heap) :
    codeAny (model P w) callerA (.call (.ref fa) ⟨[.ref a], []⟩) (Told s1) s1 := by
  have isT : ∀ b : Addr, b ∈ cs.map (·.2) → s1.heap.get? b = some emptyT := fun b hb => by
    obtain ⟨p, hp, e⟩ := List.mem_map.mp hb
    rw [← e]
    exact hT p hp
  have aT : a ∉ cs.map (·.2) := fun z => by
    have q := isT a z
    rw [obj] at q
    have z' : Data.seq vs.toArray _ = Data.fields #[] := congrArg Obj.data (Option.some.inj q)
    cases z'
  have free : ∀ {b : Addr} {o : Obj}, s1.heap.get? b = some o → (∀ vs n, o.data ≠ .seq vs n) → o.data ≠ .fields #[] → H b = none := fun {b o} e h1 h2 => by
    refine only.no b (fun z => ?_) fun z => ?_
    · rw [z, obj] at e
      cases e
      exact h1 _ _ rfl
    · rw [isT b z] at e
      cases e
      exact h2 rfl
  have nsB : ∀ {b : Addr} {m : Str → Option Value}, s1.heap.Ns b m → (hidT s1.heap H).Ns b m := by
    rintro b m ⟨o, es, ep, e, d, r⟩
    refine ⟨o, es, ep, hidT_get e (free e (fun vs n z => ?_) fun z => ?_), d, r⟩
    · rw [d] at z
      cases z
    · rw [d] at z
      cases z
  have kinB : K.In (hidT s1.heap H) := fun b o e => by
    refine hidT_get (kin b o e) ?_
    by_cases z : b = a
    · subst z
      rcases only.own with h | ⟨h, _⟩
      · exact h
      · rw [h] at e
        cases e
    · refine only.no b z fun y => ?_
      obtain ⟨p, hp, ep⟩ := List.mem_map.mp y
      rw [← ep, nT p hp] at e
      cases e
  have limB : (hidT s1.heap H).NoLimit := by
    obtain ⟨mc, h1, h2⟩ := lim
    exact ⟨mc, nsB h1, h2⟩
  have TB : ∀ p ∈ cs, GxR.TabB (hidT s1.heap H) mg p.1 p.2 := fun p hp => by
    have hTp := hT p hp
    refine ⟨?_, ?_, fun z => ?_⟩
    · obtain ⟨o, us, file, tf, flags, tg, inF, text, tt, e1, r1, r2, r3, r4, r5, r6, r7, r8, hne⟩ := C p hp
      refine ⟨o, us, file, tf, flags, tg, inF, text, tt, hidT_get e1 (free e1 (fun vs n z => ?_) fun z => ?_), r1, r2, r3, r4, r5, r6, r7, r8, hne⟩
      · rw [r2] at z
        cases z
      · rw [r2] at z
        cases z
        simp at r3
    · obtain ⟨bm, ob, b1, b2, b3, b4, b5, b6⟩ := hbm
      have nG : bm ≠ mainGlobals := fun q => by
        obtain ⟨o, es, ep, e, hd, _⟩ := glob
        rw [q, e] at b3
        cases b3
        rw [hd] at b6
        cases b6
      have nP : bm ≠ p.2 := fun q => by
        rw [q, hTp] at b3
        cases b3
        cases b6
      refine ⟨bm, ob, b1, b2, nG, nP, hidT_get b3 (free b3 (fun vs n z => ?_) fun z => ?_), b4, b5, b6⟩
      · rw [b6] at z
        cases z
      · rw [b6] at z
        cases z
    · obtain ⟨o, es, ep, e, hd, _⟩ := glob
      rw [z, hTp] at e
      cases e
      cases hd
  have env : Env0 P w K mg (hidT s1.heap H) callerA [] s1 H :=
    { frames := rfl, mod := ⟨kinB, nsB glob, ⟨mb, nsB blt, same⟩, limB⟩, bs := fun _ _ e => of_hidT e, bsz := Nat.le_of_eq (hidT_size _ _), funs := trivial,
      frf := fun b z => (List.not_mem_nil (show b ∈ ([] : List Addr) from z)).elim, hok := hok, bare := .of_eq bare }
  refine codeAny_mono ((F _ kinB (nsB glob) TB).run callerA [] s1 H ⟨[.ref a], []⟩ [.ref a] [.ref a] _ _ room rfl env (bind s1 _) (.cons rfl .nil) wish) ?_
  rintro (e | fl) s2 h
  · exact (show False from h).elim
  · cases fl with
    | ret u =>
      obtain ⟨v, H2, os2, bare2, un, hok2, rel, q, qt⟩ := h
      have q : v = V.bl true := q
      subst q
      obtain rfl : u = Value.bool true := rel
      have key : ∀ b o, b ∉ cs.map (·.2) → s1.heap.get? b = some o → s2.heap.get? b = some o := fun b o nb e => by
        cases z : H b with
        | none => exact un.keep b o e z (fun y => List.not_mem_nil (show b ∈ ([] : List Addr) from y)) List.not_mem_nil
        | some u =>
          have eb : b = a := Classical.byContradiction fun n => by
            rw [only.no b n nb] at z
            cases z
          subst eb
          rcases only.own with y | ⟨_, ob, xs, y⟩
          · rw [z] at y
            cases y
          · obtain ⟨g1, _⟩ := hok b _ y
            obtain ⟨g2, _⟩ := hok2 b _ (un.frzs b ob _ y)
            rw [e] at g1
            cases g1
            exact g2
      have grown : ∀ p ∈ cs, ∃ more : Array Value, s2.heap.get? p.2 = some { cls := .none, data := .fields more } := fun p hp => by
        obtain ⟨⟨ps, h1, _⟩, _⟩ := (show ObjOk P w H2 s2.heap p.2 (TabO p.2) from hok2 p.2 _ (qt p hp))
        exact ⟨ps, h1⟩
      refine ⟨rfl, ⟨fun b o e => ?_, fun b o e => ?_⟩, os2, bare2⟩
      · by_cases hb : b ∈ cs.map (·.2)
        · obtain ⟨p, hp, ep⟩ := List.mem_map.mp hb
          obtain ⟨more, hm⟩ := grown p hp
          rw [← ep] at e ⊢
          rw [hT p hp] at e
          cases e
          exact .inr (.inl ⟨((C p hp).tab (hT p hp)).isCodeTable, rfl, #[], more, rfl, by rw [Array.empty_append]; exact hm⟩)
        · exact .inl (key b o hb e)
      · by_cases hb : b ∈ cs.map (·.2)
        · obtain ⟨p, hp, ep⟩ := List.mem_map.mp hb
          obtain ⟨more, hm⟩ := grown p hp
          rw [← ep]
          exact ⟨_, hm⟩
        · exact ⟨o, key b o hb e⟩
    | next => exact h.elim
    | brk => exact h.elim
    | cont => exact h.elim
theorem told_lawT (kin : K.In s1.heap) (glob : s1.heap.Ns mainGlobals mg) (blt : s1.heap.Ns builtinsNs mb) (same : ∀ y : Str, y ≠ "__name__" → mb y = bootBuiltins y) (lim : s1.heap.NoLimit) (bare : s1.gens = #[])
    (hT : ∀ p ∈ cs, s1.heap.get? p.2 = some emptyT) (nT : ∀ p ∈ cs, K.lookup p.2 = none) (C : ∀ p ∈ cs, PySem.W.CodeHd s1.heap p.1 p.2)
    (hbm : ∃ (bm : Addr) (ob : Obj), mg "__builtins__" = some (.ref bm) ∧ bm ≠ builtinsNs ∧ s1.heap.get? bm = some ob ∧ ob.cls = .type "module" ∧ ob.dict = some builtinsNs ∧ ob.data = .plain)
    (obj : s1.heap.get? a = some { cls := .type "list", data := .seq vs.toArray }) (are : IntsAre vs ns) (long : ns.length ≤ sizeLine) (room : Room k callerA)
    (F : ∀ base : Heap, K.In base → base.Ns mainGlobals mg → (∀ p ∈ cs, GxR.TabB base mg p.1 p.2) → FnG P w K mg base k fa fd [x] sp) (bind : ∀ (s : Shared) (u : Value), BindsTo s fd ⟨[u], []⟩ [(x, u)])
    (wish : ∀ H : Hp, SqL K H a (ns.map V.int) → (∀ p ∈ cs, H p.2 = some (TabO p.2)) → sp [.ref a] H (fun v H' => v = .bl true ∧ ∀ p ∈ cs, H' p.2 = some (TabO p.2)) fun _ _ _ => False) :
    codeAny (model P w) callerA (.call (.ref fa) ⟨[.ref a], []⟩) (Told s1) s1 := by
  have rv := vals_ints are
  have nl := are.length
  have isT : ∀ b : Addr, b ∈ cs.map (·.2) → s1.heap.get? b = some emptyT := fun b hb => by
    obtain ⟨p, hp, e⟩ := List.mem_map.mp hb
    rw [← e]
    exact hT p hp
  have aT : a ∉ cs.map (·.2) := fun z => by
    have q := isT a z
    rw [obj] at q
    have z' : Data.seq vs.toArray _ = Data.fields #[] := congrArg Obj.data (Option.some.inj q)
    cases z'
  have memT : ∀ p ∈ cs, p.2 ∈ cs.map (·.2) := fun p hp => List.mem_map.mpr ⟨p, hp, rfl⟩
  have tobj : ∀ {H : Hp} (b : Addr), b ∈ cs.map (·.2) → ObjOk P w H s1.heap b (TabO b) := fun b hb => tab_obj ⟨#[], isT b hb, trivial⟩
  cases hk : K.lookup a with
  | some o =>
    have e := kin a o hk
    rw [obj] at e
    cases e
    have tt : ∀ b ∈ cs.map (·.2), (fun b => if b ∈ cs.map (·.2) then some (TabO b) else none) b = some (TabO b) := fun b hb => if_pos hb
    have sq : SqL K (fun b => if b ∈ cs.map (·.2) then some (TabO b) else none) a (ns.map V.int) := Or.inr ⟨_, vs.toArray, _, hk, rfl, rfl, rfl, by rw [List.size_toArray, nl]; exact long, by simpa using rv⟩
    refine told_fromT _ kin glob blt same lim bare hT nT C hbm obj room F bind ⟨tt, fun b _ nb => if_neg nb, Or.inl (if_neg aT)⟩ (wish _ sq fun p hp => tt p.2 (memT p hp)) fun b u z => ?_
    by_cases hb : b ∈ cs.map (·.2)
    · have z' := (tt b hb).symm.trans z
      cases z'
      exact tobj b hb
    · have z' := (if_neg hb).symm.trans z
      cases z'
  | none =>
    let H : Hp := fun b => if b = a then some (.frz { cls := .type "list", data := .seq vs.toArray } (.lst (ns.map V.int))) else if b ∈ cs.map (·.2) then some (TabO b) else none
    have h1 : H a = some (.frz { cls := .type "list", data := .seq vs.toArray } (.lst (ns.map V.int))) := if_pos rfl
    have h2 : ∀ b ∈ cs.map (·.2), H b = some (TabO b) := fun b hb => (if_neg (show ¬ b = a from fun z => aT (by rw [← z]; exact hb))).trans (if_pos hb)
    have h3 : ∀ b, b ≠ a → b ∉ cs.map (·.2) → H b = none := fun b hb nb => (if_neg hb).trans (if_neg nb)
    refine told_fromT H kin glob blt same lim bare hT nT C hbm obj room F bind ⟨h2, h3, Or.inr ⟨hk, _, _, h1⟩⟩ (wish H (Or.inl (Or.inr ⟨_, h1⟩)) fun p hp => h2 p.2 (memT p hp)) fun b u z => ?_
    by_cases hb : b = a
    · rw [hb, h1] at z
      cases z
      rw [hb]
      exact ⟨obj, by rw [List.length_map]; exact long, vs, _, rv, obj⟩
    · by_cases hb2 : b ∈ cs.map (·.2)
      · rw [h2 b hb2] at z
        cases z
        exact tobj b hb2
      · rw [h3 b hb hb2] at z
        cases z
end
theorem walkGT {l : PySem.W.OpenLaw} {n k : Nat} {q : Program} {loose : List Str} {XP : (Str → Option Value) → Heap → Prop} {YP : World → Heap → Prop} {d : DefRec} {x : Str} {sp : PySem.W.Frag → List Addr → Sp}
    (hn : l.most = some n) (hn2 : n ≤ sizeLine) (hdf : d.params.defaults = []) (hr : Room k callerA)
    (F : ∀ (w : World) (mg : Str → Option Value) (fa : Addr) (h : Heap), YP w h → h.Ns mainGlobals mg → mg d.name = some (.ref fa) →
      ∃ (K : PySem.W.Frag) (fd : FuncData) (cs : List (Addr × Addr)), K.In h ∧ (∀ p ∈ cs, h.get? p.2 = some emptyT) ∧ (∀ p ∈ cs, K.lookup p.2 = none) ∧ (∀ p ∈ cs, PySem.W.CodeHd h p.1 p.2) ∧ (∀ (s : Shared) (u : Value), BindsTo s fd ⟨[u], []⟩ [(x, u)]) ∧
        ∀ base : Heap, K.In base → base.Ns mainGlobals mg → (∀ p ∈ cs, GxR.TabB base mg p.1 p.2) → FnG l.prog w K mg base k fa fd [x] (sp K (cs.map (·.2))))
    (hsp : ∀ (K : PySem.W.Frag) (ts : List Addr) (H : Hp) (a : Addr) (ns : List Int), ns.length ≤ n → SqL K H a (ns.map V.int) → (∀ t ∈ ts, H t = some (TabO t)) → sp K ts [.ref a] H (fun v H' => v = .bl true ∧ ∀ t ∈ ts, H' t = some (TabO t)) fun _ _ _ => False) :
    PySem.W.WalkO q loose XP YP l.row.toRowW d [] (fun f vs => PySem.call f vs) := by
  refine Att.attach_call hn hdf fun w s0 s1 mg mb fa o pm cd doc a vs ns G Y ho hd hcd hmg hobj hints hlen hg => ?_
  obtain ⟨K, fd, cs, kin, hT, nT, C, hb, hF⟩ := F w mg fa _ Y G.T.g hmg
  refine told_lawT kin G.T.g G.T.b G.T.builtins G.T.nolimit hg hT nT C G.T.bmain hobj hints (Nat.le_trans hlen hn2) hr hF hb fun H sq tt => ?_
  have w1 := hsp K (cs.map (·.2)) H a ns hlen sq fun t ht => by
    obtain ⟨p, hp, rfl⟩ := List.mem_map.mp ht
    exact tt p hp
  have e : (fun (v : V) (H' : Hp) => v = .bl true ∧ ∀ t ∈ cs.map (·.2), H' t = some (TabO t)) = fun v H' => v = .bl true ∧ ∀ p ∈ cs, H' p.2 = some (TabO p.2) := by
    funext v H'
    apply propext
    constructor
    · intro ⟨h1, h2⟩
      exact ⟨h1, fun p hp => h2 p.2 (List.mem_map.mpr ⟨p, hp, rfl⟩)⟩
    · intro ⟨h1, h2⟩
      refine ⟨h1, fun t ht => ?_⟩
      obtain ⟨p, hp, rfl⟩ := List.mem_map.mp ht
      exact h2 p hp
  rw [e] at w1
  exact w1
/-- what is known of a def's code object -/
theorem code_of {K : PySem.W.Frag} {x qual : Str} {pa : Arguments} {bd : List Stmt} {sc : Scope} {dv : List V} {kw : List (Str × V)} {p : He.Defn} {fd : FuncData} (F : FunD K x qual pa bd sc dv kw (He.fAd K p) fd) : fd.code = .ref (He.codeOf K p) := by
  obtain ⟨oc, od, dV, kV, doc, pm, an, cdv, ct, osl, e, lk, hcd, hd, hk⟩ := F.ex
  obtain ⟨c, rfl⟩ := He.codeIn_ref hcd
  have e2 : fd.code = .ref c := by rw [e]
  rw [e2, He.codeOf_eq lk e2]
/-- the law's promise, tables ts -/
def spLawT (K : PySem.W.Frag) (ts : List Addr) : Sp := fun vs H Q _ => ∃ (a : Addr) (ns : List Int), vs = [.ref a] ∧ SqL K H a (ns.map V.int) ∧ (∀ t ∈ ts, H t = some (TabO t)) ∧ ∀ H', (∀ t ∈ ts, H' t = some (TabO t)) → Q (.bl true) H'
/-! ### the books that laws draw: the feed [great, cells, counter], names, deeds, pages -/
def Fe (H : Hp) (f c : Addr) (n : Int) : Prop := ∃ (cells : List Int) (k g : Int),
  H f = some (.lst [.int g, .ref c, .int k]) ∧ H c = some (.lst (cells.map V.int)) ∧ 0 < cells.length ∧ cells.length ≤ 64 ∧ 0 ≤ k ∧ k ≤ n
theorem fe_ne {H : Hp} {f c : Addr} {cells : List Int} {a g : Int} (hf : H f = some (.lst [.int g, .ref c, .int a])) (hc : H c = some (.lst (cells.map V.int))) : c ≠ f := by
  refine ne_of hc hf fun z => ?_
  have z := HO.lst.inj z
  match cells, z with
  | x :: y :: r, z =>
    rw [List.map_cons, List.map_cons] at z
    injection z with _ z
    injection z with z _
    cases z
theorem Fe.mono {H : Hp} {f c : Addr} {n m : Int} (h : Fe H f c n) (l : n ≤ m) : Fe H f c m := by
  obtain ⟨cells, a, g, h1, h2, h3, h4, h5, h6⟩ := h
  exact ⟨cells, a, g, h1, h2, h3, h4, h5, by omega⟩
theorem Fe.same {H H' : Hp} {f c : Addr} {n : Int} (h : Fe H f c n) (s : Same H H') : Fe H' f c n := by
  obtain ⟨cells, a, g, h1, h2, h3⟩ := h
  exact ⟨cells, a, g, s _ _ h1, s _ _ h2, h3⟩
theorem Fe.new {H : Hp} {f c p : Addr} {n : Int} {o : HO} (h : Fe H f c n) (hp : H p = none) : Fe (upd H p o) f c n := h.same (same_new hp o)
theorem Fe.at {H : Hp} {f c : Addr} {n : Int} (h : Fe H f c n) : ∃ xs, H f = some (.lst xs) := by
  obtain ⟨cells, a, g, h1, _⟩ := h
  exact ⟨_, h1⟩
theorem Fe.cell {H : Hp} {f c : Addr} {n : Int} (h : Fe H f c n) : ∃ xs, H c = some (.lst xs) := by
  obtain ⟨cells, a, g, h1, h2, _⟩ := h
  exact ⟨_, h2⟩
theorem Fe.ne {H : Hp} {f c l : Addr} {n : Int} (h : Fe H f c n) (hl : H l = none) : l ≠ f ∧ l ≠ c := by
  obtain ⟨xs, h1⟩ := h.at
  obtain ⟨ys, h2⟩ := h.cell
  exact ⟨Ne.symm (ne_of_none h1 hl), Ne.symm (ne_of_none h2 hl)⟩
theorem Fe.upd {H : Hp} {f c l : Addr} {n : Int} {o : HO} (h : Fe H f c n) (e : l ≠ f ∧ l ≠ c) : Fe (upd H l o) f c n := by
  obtain ⟨cells, a, g, h1, h2, h3⟩ := h
  exact ⟨cells, a, g, (upd_ne (Ne.symm e.1)).trans h1, (upd_ne (Ne.symm e.2)).trans h2, h3⟩
theorem But.backE {f c : Addr} {H H' : Hp} {t : Addr} {n : Int} (b : But f H H') (hf : Fe H' f c n) (ht : H' t = none) : H t = none := by
  cases e : H t with
  | none => rfl
  | some o =>
    have := b t o (hf.ne ht).1 e
    rw [ht] at this
    cases this
/-- tuples stay -/
def Tk (H H' : Hp) : Prop := ∀ p xs, H p = some (.tup xs) → H' p = some (.tup xs)
theorem Tk.refl (H : Hp) : Tk H H := fun _ _ h => h
theorem Tk.trans {H H1 H2 : Hp} (a : Tk H H1) (b : Tk H1 H2) : Tk H H2 := fun p xs h => b p xs (a p xs h)
theorem Tk.same {H H' : Hp} (s : Same H H') : Tk H H' := fun p xs h => s _ _ h
theorem Tk.but {H H' : Hp} {f c : Addr} {n : Int} (hf : Fe H f c n) (b : But f H H') : Tk H H' := fun p xs h => by
  obtain ⟨zs, hz⟩ := hf.at
  exact b p _ (ne_of h hz (fun z => nomatch z)) h
theorem Tk.put {H : Hp} {l : Addr} {xs : List V} {o : HO} (hl : H l = some (.lst xs)) : Tk H (upd H l o) := fun p ys h => by
  rw [upd_ne (ne_of h hl (fun z => nomatch z))]
  exact h
theorem Prd.tk {H H' : Hp} (t : Tk H H') : ∀ {ps : List Addr} {rs : List Rn}, Prd H ps rs → Prd H' ps rs
  | _, _, .nil => .nil
  | _, _, .cons a b => .cons (t _ _ a) (Prd.tk t b)
/-- names -/
abbrev Nm := Int × Int × Str
def nmV (n : Nm) : List V := [.int n.1, .int n.2.1, .str n.2.2]
def nmD (n : Nm) : PyData := .tuple [.int n.1, .int n.2.1, .str n.2.2]
abbrev Nms (H : Hp) (ps : List Addr) (ns : List Nm) : Prop := Paired (fun (p : Addr) (n : Nm) => H p = some (.tup (nmV n))) ps ns
theorem Nms.tk {H H' : Hp} (t : Tk H H') : ∀ {ps : List Addr} {ns : List Nm}, Nms H ps ns → Nms H' ps ns
  | _, _, .nil => .nil
  | _, _, .cons a b => .cons (t _ _ a) (Nms.tk t b)
theorem Nms.app {H : Hp} : ∀ {ps qs : List Addr} {es ts : List Nm}, Nms H ps es → Nms H qs ts → Nms H (ps ++ qs) (es ++ ts)
  | _, _, _, _, .nil, b => b
  | _, _, _, _, .cons a r, b => .cons a (Nms.app r b)
theorem Nms.len {H : Hp} {ps : List Addr} {es : List Nm} (h : Nms H ps es) : ps.length = es.length := Paired.length h
theorem Nms.dp {K : PySem.W.Frag} {H : Hp} : ∀ {ps : List Addr} {es : List Nm}, Nms H ps es → DpAll K H (ps.map V.ref) (es.map nmD)
  | _, _, .nil => .nil
  | _, _, .cons a b => .cons (.tup (SqT.of a) (.cons (.int _) (.cons (.int _) (.cons (.str _) .nil)))) (Nms.dp b)
theorem Nms.get {H : Hp} : ∀ {ps : List Addr} {es : List Nm} {i : Nat} {p : Addr}, Nms H ps es → ps[i]? = some p → ∃ e, es[i]? = some e ∧ H p = some (.tup (nmV e))
  | _, _, 0, _, .cons a _, h => by
    cases h
    exact ⟨_, rfl, a⟩
  | _, _, i + 1, p, .cons _ b, h => Nms.get (i := i) (p := p) b h
theorem Nms.mk1 {H : Hp} {p : Addr} {e : Nm} (h : H p = some (.tup (nmV e))) : Nms H [p] [e] := .cons h .nil
/-- deeds -/
inductive Dd where
  | mv (a b : Str) (rs : List Rn)
  | bag (a b : Str) (n : Int)
  | rd (m : Nm) (rs : List Rn)
  | ct (a : Str) (n : Int)
  | vd (m : Nm)
def RnsT (H : Hp) (u : Addr) (rs : List Rn) : Prop := ∃ ps : List Addr, H u = some (.tup (ps.map V.ref)) ∧ Prd H ps rs ∧ rs.length ≤ 1000
theorem RnsT.tk {H H' : Hp} {u : Addr} {rs : List Rn} (t : Tk H H') (h : RnsT H u rs) : RnsT H' u rs := by
  obtain ⟨ps, h1, h2, h3⟩ := h
  exact ⟨ps, t _ _ h1, h2.tk t, h3⟩
def wMove : Str := (("move" : String) : Str)
def wBag : Str := (("bag" : String) : Str)
def wRead : Str := (("read" : String) : Str)
def wCount : Str := (("count" : String) : Str)
def wVoid : Str := (("void" : String) : Str)
def DdAt (H : Hp) (t : Addr) : Dd → Prop
  | .mv a b rs => ∃ u, H t = some (.tup [.str wMove, .str a, .str b, .ref u]) ∧ RnsT H u rs
  | .bag a b n => H t = some (.tup [.str wBag, .str a, .str b, .int n])
  | .rd m rs => ∃ q u, H t = some (.tup [.str wRead, .ref q, .ref u]) ∧ H q = some (.tup (nmV m)) ∧ RnsT H u rs
  | .ct a n => H t = some (.tup [.str wCount, .str a, .int n])
  | .vd m => ∃ q, H t = some (.tup [.str wVoid, .ref q]) ∧ H q = some (.tup (nmV m))
theorem DdAt.tk {H H' : Hp} {p : Addr} (t : Tk H H') : ∀ {d : Dd}, DdAt H p d → DdAt H' p d
  | .mv .., ⟨u, h1, h2⟩ => ⟨u, t _ _ h1, h2.tk t⟩
  | .bag .., h => t _ _ h
  | .rd .., ⟨q, u, h1, h2, h3⟩ => ⟨q, u, t _ _ h1, t _ _ h2, h3.tk t⟩
  | .ct .., h => t _ _ h
  | .vd .., ⟨q, h1, h2⟩ => ⟨q, t _ _ h1, t _ _ h2⟩
abbrev Pg := Nm × Dd
def PgAt (H : Hp) (p : Addr) (g : Pg) : Prop := ∃ a t, H p = some (.tup [.ref a, .ref t]) ∧ H a = some (.tup (nmV g.1)) ∧ DdAt H t g.2
theorem PgAt.tk {H H' : Hp} {p : Addr} {g : Pg} (t : Tk H H') (h : PgAt H p g) : PgAt H' p g := by
  obtain ⟨a, b, h1, h2, h3⟩ := h
  exact ⟨a, b, t _ _ h1, t _ _ h2, h3.tk t⟩
abbrev Pgs (H : Hp) (ps : List Addr) (gs : List Pg) : Prop := Paired (fun (p : Addr) (g : Pg) => PgAt H p g) ps gs
theorem Pgs.tk {H H' : Hp} (t : Tk H H') : ∀ {ps : List Addr} {gs : List Pg}, Pgs H ps gs → Pgs H' ps gs
  | _, _, .nil => .nil
  | _, _, .cons a b => .cons (a.tk t) (Pgs.tk t b)
theorem Pgs.app {H : Hp} : ∀ {ps qs : List Addr} {es ts : List Pg}, Pgs H ps es → Pgs H qs ts → Pgs H (ps ++ qs) (es ++ ts)
  | _, _, _, _, .nil, b => b
  | _, _, _, _, .cons a r, b => .cons a (Pgs.app r b)
theorem Pgs.len {H : Hp} {ps : List Addr} {es : List Pg} (h : Pgs H ps es) : ps.length = es.length := Paired.length h
theorem Pgs.mk1 {H : Hp} {p : Addr} {e : Pg} (h : PgAt H p e) : Pgs H [p] [e] := .cons h .nil
/-! promises -/
def spFeedE (K : PySem.W.Frag) : Sp := fun vs H Q _ => ∃ (a : Addr) (ns : List Int), vs = [.ref a] ∧ SqL K H a (ns.map V.int) ∧
  ∀ (f c : Addr) (H' : Hp), H f = none → Same H H' → Fe H' f c 0 → Q (.ref f) H'
def spDrawE : Sp := fun vs H Q _ => ∃ (f c : Addr) (m n : Int), vs = [.ref f, .int m] ∧ Fe H f c n ∧ n ≤ 1000000 ∧ 0 < m ∧ m ≤ 1000000000 ∧
  ∀ (d : Int) (H' : Hp), 0 ≤ d → d < m → Fe H' f c (n + 1) → But f H H' → (∀ a, H a = none → H' a = none) → Q (.int d) H'
def spFarE : Sp := fun vs H Q _ => ∃ (f c : Addr) (m n : Int), vs = [.ref f, .int m] ∧ Fe H f c n ∧ n ≤ 900000 ∧ 0 < m ∧ m ≤ 1000000000 ∧
  ∀ (d : Int) (H' : Hp), 0 ≤ d → d < m → Fe H' f c (n + 2) → But f H H' → (∀ a, H a = none → H' a = none) → Q (.int d) H'
def spLowE : Sp := fun vs H Q _ => ∃ (f c : Addr) (n : Int), vs = [.ref f] ∧ Fe H f c n ∧ n ≤ 800000 ∧
  ∀ (d : Int) (H' : Hp), 0 ≤ d → d ≤ 1000000000 → Fe H' f c (n + 3) → But f H H' → (∀ a, H a = none → H' a = none) → Q (.int d) H'
def spWordsE : Sp := fun vs H Q _ => ∃ (f c : Addr) (m : Nat) (n : Int), vs = [.ref f, .int m] ∧ Fe H f c n ∧ n ≤ 800000 ∧ m ≤ 8 ∧
  ∀ (l : Addr) (xs : List Str) (H' : Hp), Fe H' f c (n + 4) → But f H H' → H l = none → H' l = some (.lst (xs.map V.str)) → xs.length = m → (∀ x ∈ xs, NmOk x ∧ x ≠ gNone) → Q (.ref l) H'
/-! ### the words of a drawn office -/
theorem none_len : gNone.length = 4 := by decide +kernel
theorem nm_list {l : List Nat} (h : ∀ c ∈ l, c < 16 ^ 8) (hl : l.length ≤ 8) (h4 : l.length ≠ 4) : NmOk ⟨l.toArray⟩ ∧ (⟨l.toArray⟩ : Str) ≠ gNone := by
  refine ⟨⟨?_, ?_⟩, fun e => ?_⟩
  · show l.toArray.size ≤ 8
    rw [List.size_toArray]
    exact hl
  · show (l.toArray.toList.all fun c => decide (c < 16 ^ 8)) = true
    rw [List.toList_toArray, List.all_eq_true]
    exact fun c hc => decide_eq_true (h c hc)
  · have z := congrArg Str.length e
    rw [none_len] at z
    have z : l.toArray.size = 4 := z
    rw [List.size_toArray] at z
    exact h4 z
def wordsOf (a b : Nat) : List (List Nat) := [[a], [a, b], [a, b, a], [b], [b, a], [a, a], [b, b], [a, b, b, b, b, b, b, b]]
theorem words_ok {a b : Nat} (ha : a < 16 ^ 8) (hb : b < 16 ^ 8) : ∀ l ∈ wordsOf a b, NmOk ⟨l.toArray⟩ ∧ (⟨l.toArray⟩ : Str) ≠ gNone := by
  intro l hl
  have h : ∀ c ∈ l, c < 16 ^ 8 := by
    intro c hc
    simp only [wordsOf, List.mem_cons, List.not_mem_nil, or_false] at hl
    have : c = a ∨ c = b := by
      rcases hl with rfl | rfl | rfl | rfl | rfl | rfl | rfl | rfl <;> simp only [List.mem_cons, List.not_mem_nil, or_false] at hc <;> omega
    rcases this with rfl | rfl
    · exact ha
    · exact hb
  simp only [wordsOf, List.mem_cons, List.not_mem_nil, or_false] at hl
  rcases hl with rfl | rfl | rfl | rfl | rfl | rfl | rfl | rfl <;> exact nm_list h (by simp) (by simp)
theorem words_eq (a b : Nat) : [V.str ⟨#[a]⟩, .str (⟨#[a]⟩ ++ ⟨#[b]⟩), .str (⟨#[a]⟩ ++ ⟨#[b]⟩ ++ ⟨#[a]⟩), .str ⟨#[b]⟩, .str (⟨#[b]⟩ ++ ⟨#[a]⟩), .str (⟨#[a]⟩ ++ ⟨#[a]⟩), .str (⟨#[b]⟩ ++ ⟨#[b]⟩), .str (⟨#[a]⟩ ++ Txt.mul ⟨#[b]⟩ 7)] = ((wordsOf a b).map fun l => (⟨l.toArray⟩ : Str)).map V.str := rfl
/-! ### runs and names drawn -/
def RkOk (xs : List Str) (r : Rn) : Prop := r.1 ∈ xs ∧ 0 ≤ r.2.1 ∧ r.2.1 < r.2.2 ∧ r.2.2 ≤ 1000001000
def spRunsE : Sp := fun vs H Q _ => ∃ (f c l : Addr) (low n : Int) (xs : List Str), vs = [.ref f, .ref l, .int low] ∧ Fe H f c n ∧ n ≤ 700000 ∧ 0 ≤ low ∧ low ≤ 1000000000 ∧ H l = some (.lst (xs.map V.str)) ∧ l ≠ f ∧ 0 < xs.length ∧ xs.length ≤ 8 ∧
  ∀ (u : Addr) (rs : List Rn) (H' : Hp), Fe H' f c (n + 60) → But f H H' → H u = none → RnsT H' u rs → rs.length ≤ 20 → (∀ r ∈ rs, RkOk xs r) → Q (.ref u) H'
def NmK (n : Nm) : Prop := 0 ≤ n.1 ∧ n.1 ≤ 99999 ∧ ((0 ≤ n.2.1 ∧ n.2.1 ≤ 99) ∨ (950 ≤ n.2.1 ∧ n.2.1 ≤ 999)) ∧ NmOk n.2.2
def spNamesE : Sp := fun vs H Q _ => ∃ (f c : Addr) (m : Nat) (n : Int), vs = [.ref f, .int m] ∧ Fe H f c n ∧ n ≤ 700000 ∧ m ≤ 39 ∧
  ∀ (l : Addr) (ps : List Addr) (ns : List Nm) (H' : Hp), Fe H' f c (n + 200) → But f H H' → H l = none → H' l = some (.lst (ps.map V.ref)) → Nms H' ps ns → ns.length = m → ns.Nodup → (∀ e ∈ ns, NmK e) → Q (.ref l) H'
theorem nms_plain (E : List Nm) : PyData.plainAll (E.map nmD) = true := by
  induction E with
  | nil => rfl
  | cons e l ih =>
    rw [List.map_cons]
    simp only [PyData.plainAll, ih, nmD, PyData.plain, Bool.and_self]
theorem nm_eqv (a b : Nm) : PyData.eqv (nmD a) (nmD b) = decide (a = b) := by
  obtain ⟨a1, a2, a3⟩ := a
  obtain ⟨b1, b2, b3⟩ := b
  rw [Bool.eq_iff_iff]
  simp [nmD, PyData.eqv, PyData.eqvAll]
theorem nm_any (E : List Nm) (e : Nm) : ((E.map nmD).any fun z => PyData.eqv z (nmD e)) = decide (e ∈ E) := by
  rw [List.any_map, Bool.eq_iff_iff, List.any_eq_true, decide_eq_true_eq]
  constructor
  · rintro ⟨y, hy, k⟩
    have k : PyData.eqv (nmD y) (nmD e) = true := k
    rw [nm_eqv, decide_eq_true_eq] at k
    rw [← k]
    exact hy
  · intro h
    refine ⟨e, h, ?_⟩
    show PyData.eqv (nmD e) (nmD e) = true
    rw [nm_eqv, decide_eq_true rfl]
theorem nm_dep (e : Nm) : (nmD e).depth ≤ 50 := by
  simp [nmD, PyData.depth, PyData.depthAll]
theorem nms_depth (E : List Nm) : (PyData.list (E.map nmD)).depth ≤ 60 := by
  have d2 : PyData.depthAll (E.map nmD) ≤ 3 := by
    induction E with
    | nil => simp [PyData.depthAll]
    | cons s l ih => rw [List.map_cons]; simp only [PyData.depthAll, nmD, PyData.depth] at *; omega
  simp only [PyData.depth]
  omega
/-- so many of one day and hand, number by number, are no more than there are -/
theorem names_room {ns : List Nm} {d k : Int} {h : Str} {t : Nat} (hs : ∀ s : Nat, s < t → (d, k + (s : Int), h) ∈ ns) : t ≤ ns.length := by
  have nd : ((List.range t).map fun s : Nat => ((d, k + (s : Int), h) : Nm)).Nodup := by
    refine List.Pairwise.map _ (fun a b hab e => ?_) List.nodup_range
    have e := congrArg (fun z : Nm => z.2.1) e
    have e : k + (a : Int) = k + (b : Int) := e
    exact hab (by omega)
  have z := sub_len nd fun x hx => by
    obtain ⟨s, h1, rfl⟩ := List.mem_map.mp hx
    exact hs s (List.mem_range.mp h1)
  rw [List.length_map, List.length_range] at z
  exact z
theorem few3 {d : Int} (h0 : 0 ≤ d) (h1 : d < 3) : ∃ k : Int, (k = 0 ∨ k = 950) ∧ atI [V.int 0, .int 0, .int 950] d = some (.int k) := by
  rcases (show d = 0 ∨ d = 1 ∨ d = 2 by omega) with rfl | rfl | rfl
  · exact ⟨0, .inl rfl, rfl⟩
  · exact ⟨0, .inl rfl, rfl⟩
  · exact ⟨950, .inr rfl, rfl⟩
theorem fewE {d : Int} (h0 : 0 ≤ d) (h1 : d < 4) : ∃ k : Int, 0 ≤ k ∧ k ≤ 99900 ∧ atI [V.int 0, .int 0, .int 0, .int 99900] d = some (.int k) := by
  rcases (show d = 0 ∨ d = 1 ∨ d = 2 ∨ d = 3 by omega) with rfl | rfl | rfl | rfl <;> exact ⟨_, by decide, by decide, rfl⟩
theorem prd_all {K : PySem.W.Frag} {H : Hp} : ∀ {ps : List Addr} {rs : List Rn}, Prd H ps rs → DpAll K H (ps.map V.ref) (rs.map rnD)
  | _, _, .nil => .nil
  | _, _, .cons a b => .cons (.tup (SqT.of a) (.cons (.str _) (.cons (.int _) (.cons (.int _) .nil)))) (prd_all b)
theorem rn_plainL (rs : List Rn) : (PyData.list (rs.map rnD)).plain = true := rns_plain rs
theorem rn_depthL (E : List Rn) : (PyData.list (E.map rnD)).depth ≤ 60 := by
  have d2 : PyData.depthAll (E.map rnD) ≤ 3 := by
    induction E with
    | nil => simp [PyData.depthAll]
    | cons s l ih => rw [List.map_cons]; simp only [PyData.depthAll, rnD, PyData.depth] at *; omega
  simp only [PyData.depth]
  omega
/-! ### {key: value for .. in .. if ..} with tuples as keys -/
theorem putT {X : Cx} {pins : List (Addr × Obj)} {σ : L2.St} {H : Hp} {s : Shared} {E : Value → Shared → Prop} {D b : Addr} {kvs : List (List Key × V)} {k : List Key} {v : V} {r : Value} {Q : Unit → Shared → Prop}
    (room : X.A.units < cLine) (I : Inv X pins σ H s) (at_D : H D = some (.dT kvs)) (few : kvs.length < sizeLine) (at_b : H b = some (.tup (k.map kV))) (rel_v : RelV v r)
    (next : ∀ s', Inv X pins σ (upd H D (.dT (putK kvs k v))) s' → Q () s') : wpAny (model X.prog X.w) X.A (dictSet D (.ref b) r) Q E s := by
  obtain ⟨len, notSys, xs, pairs, inHeap⟩ := dt_of I.hok at_D
  have more := length_putK kvs k v
  refine wpAny_dictSet_heap (hsz := (Paired.length pairs) ▸ len) (show (tupleKind _).room X.A from room) (key_of I.hok at_b) inHeap fun h2 now but => next _ ?_
  obtain ⟨ob, es, ep, e1, e2, e3, e4, _, e5⟩ := now
  refine d_write I (at_D ▸ True.intro) but ⟨ob, e1⟩ ⟨by omega, notSys, _, (pairs.put k at_b rel_v).keeps fun c ys at_c => ?_, ob, es, ep, e1, e2, e3, e4, e5⟩
  exact (upd_ne (ne_of at_c at_D (fun z => nomatch z))).trans at_c
/-- its reading: D the new dict -/
def tDcT (wi : TI) (g : TG) (tt : TT) (tk tv : TE) (vs : List Nat) : TE := fun σ H Q => wi σ H fun J H1 => ∀ D, H1 D = none →
  ∃ W : Nat → Nat → Hp → Prop, (∃ m, W 0 m (upd H1 D (.dT []))) ∧ ∀ i m H', W i m H' → (J.stop i H' ∧ Q (.ref D) H') ∨
    (J.go i H' ∧ ∃ Nx : Hp → Prop, (∀ Hn, Nx Hn → ∃ m', m' < m ∧ W (i + 1) m' Hn) ∧ ∀ x Hy, J.yld i H' x Hy → g x (wipe σ vs) Hy fun σ2 H2 =>
      wipe σ2 vs = wipe σ vs ∧ tt σ2 H2 fun yes H3 => if yes = true then tk σ2 H3 fun y H4 => tv σ2 H4 fun z H5 =>
        ∃ kvs k b, y = .ref b ∧ H5 b = some (.tup (k.map kV)) ∧ H5 D = some (.dT kvs) ∧ kvs.length < sizeLine ∧ Nx (upd H5 D (.dT (putK kvs k z))) else Nx H3)
section
variable {X : Cx} {kx vx tg iter : Expr} {ifs : List Expr} {scope : Scope} {own : List (Str × Nat)} {pos : Pos} {wi : TI} {g : TG} {tt : TT} {tk tv : TE}
theorem pe_dcT (room : X.A.units < cLine) (calm : X.calm = true) (nd : X.N.Nodup) (pi : PI X tg iter wi) (ok : BlkOk X.N X.env.scope scope own)
    (pgs : ∀ (s : Shared) (H : Hp) (C : Addr) (cl : List (Str × Addr)) (fp : List Addr), PG (X.blk s H scope (compEnvC scope cl C X.env) fp) tg g)
    (pts : ∀ (s : Shared) (H : Hp) (C : Addr) (cl : List (Str × Addr)) (fp : List Addr), PTs (X.blk s H scope (compEnvC scope cl C X.env) fp) ifs tt)
    (pks : ∀ (s : Shared) (H : Hp) (C : Addr) (cl : List (Str × Addr)) (fp : List Addr), PE (X.blk s H scope (compEnvC scope cl C X.env) fp) kx tk)
    (pvs : ∀ (s : Shared) (H : Hp) (C : Addr) (cl : List (Str × Addr)) (fp : List Addr), PE (X.blk s H scope (compEnvC scope cl C X.env) fp) vx tv)
    (plain : ∀ x, foldedSetIterable iter X.env x = pure x := by intro _; rfl) :
    PE X (.DictComp kx vx [⟨tg, iter, ifs, 0⟩] scope pos) (tDcT wi g tt tk tv (own.map (·.2))) := by
  refine ⟨fun pins s σ H Q I wish => ?_⟩
  rw [arm_eval_DictComp]
  have caught : ∀ y ∈ scope.names, y.2 = .free → ∃ c, X.env.cells.lookup y.1 = some c := fun y m e => (ok.free y m e).elim (fun k => I.ok.has _ (.inl k)) fun k => I.ok.has _ (.inr k)
  refine wpAny_comprehension_free rfl plain (closure_ok caught) ok.kind (fun y m e => by rw [ok.uniq y m, e]) (thn (pi.run pins s σ H _ I wish) fun xv sa ha => thn ha fun itv sb hb => ?_)
  obtain ⟨it, fp, tn, J, Hb, rfl, Ib, T, stb, fb, goal⟩ := hb
  refine wpAny_newObj_type (newEnv_comp ?_)
  obtain ⟨D, eD⟩ : ∃ D, sb.heap.objs.size = D := ⟨_, rfl⟩
  rw [eD]
  obtain ⟨W, ⟨m0, start⟩, turn⟩ := goal D (Ib.hok.fresh (Nat.le_of_eq eD))
  obtain ⟨sc, esc⟩ : ∃ sc : Shared, { sb with heap := sb.heap.push { cls := .type "dict", data := .dict #[] } } = sc := ⟨_, rfl⟩
  rw [esc]
  have heapc : sc.heap = sb.heap.push { cls := .type "dict", data := .dict #[] } := by rw [← esc]
  have Ic : Inv X pins σ (upd Hb D (.dT [])) sc := by
    subst esc eD
    exact Ib.laid (t' := sb.toks) (fun _ _ e => Heap.get?_push_of_some _ e) (Nat.le_refl _) (dt_empty sb.heap Ib.big)
  have inFp : ∀ b ∈ fp, b < sb.heap.objs.size := fun b hb => let ⟨_, e, _⟩ := T.obj _ _ stb b hb; Heap.lt_size e
  have fc : ∀ b ∈ fp, FpOk X pins (upd Hb D (.dT [])) b ∧ b < sc.heap.objs.size := fun b hb => by
    have lt := inFp b hb
    refine ⟨⟨(upd_ne (Nat.ne_of_lt (eD ▸ lt))).trans (fb b hb).1, (fb b hb).2⟩, ?_⟩
    rw [heapc, Heap.size_push]
    exact Nat.lt_succ_of_lt lt
  have stc : tn 0 sc.heap := T.keep _ _ _ stb fun b _ o e => heapc ▸ Heap.get?_push_of_some _ e
  generalize upd Hb D (.dT []) = Hc at *
  have Id := block_start Ic ok nd fc
  generalize ecl : cellsFrom (sc.heap.objs.size + 1) scope.names (cloFrom X.env.cells scope.names []) = cl at *
  have p1 := pgs sc Hc sc.heap.objs.size cl fp
  have p2 := pts sc Hc sc.heap.objs.size cl fp
  have p3 := pks sc Hc sc.heap.objs.size cl fp
  have p4 := pvs sc Hc sc.heap.objs.size cl fp
  change codeAny _ _ (.compStart _ 0 (.ref it) (.ref D) (compEnvC scope cl sc.heap.objs.size X.env)) (compPost (model X.prog X.w) X.A X.xe none (EP X pins σ Q) (.ref D) sc.heap.objs.size) _
  have here : (compEnvC scope cl sc.heap.objs.size X.env).locals = sc.heap.objs.size := rfl
  generalize compEnvC scope cl sc.heap.objs.size X.env = ce at *
  obtain ⟨sd, esd⟩ : ∃ sd : Shared, { sc with heap := pushCells (sc.heap.push { cls := .type "dict", data := .dict #[] }) scope.names } = sd := ⟨_, rfl⟩
  rw [esd] at Id ⊢
  have std : tn 0 sd.heap := T.keep _ _ _ stc fun b _ o e => by
    rw [← esd]
    exact pushCells_keeps _ _ _ _ (Heap.get?_push_of_some _ e)
  have still : ∀ {τ : L2.St} {Hx : Hp} {sx : Shared}, Inv (X.blk sc Hc scope ce fp) [] τ Hx sx → (∀ b ∈ fp, Hx b = none) → ∀ b ∈ fp, FpOk (X.blk sc Hc scope ce fp) [] Hx b := fun {τ Hx sx} Ix free b hb => by
    obtain ⟨z1, z2⟩ := Ix.ok.exf b hb
    exact ⟨free b hb, z1, Ix.ok.exfs b hb, .inl hb, z2, fun p hp => (nomatch (show p ∈ ([] : List (Addr × Obj)) from hp))⟩
  have walk : codeAny (model X.prog X.w) X.A (.compLoop (.DictComp kx vx [⟨tg, iter, ifs, 0⟩] scope pos) 0 (.ref it) (.ref D) ce) (compPost (model X.prog X.w) X.A X.xe none (EP X pins σ Q) (.ref D) sc.heap.objs.size) sd := by
    refine compLoop_anyD (fun n sx => ∃ i Hx, Inv (X.blk sc Hc scope ce fp) [] (wipe σ (own.map (·.2))) Hx sx ∧ tn i sx.heap ∧ (∀ b ∈ fp, Hx b = none) ∧ W i n Hx) ?_ m0 ⟨0, Hc, Id, std, fun b hb => (fc b hb).1.1, start⟩
    rintro n se ⟨i, He, Ie, ste, ne, we⟩
    rcases turn i n He we with ⟨stop, told⟩ | ⟨go, Nx, down, step⟩
    · refine thnF (T.done (X.blk sc Hc scope ce fp) rfl rfl rfl calm i [] se _ He (fun _ _ => False) Ie (still Ie ne) ste stop) fun r sf ⟨er, If⟩ => ?_
      subst er
      have out : Inv X pins σ He sf := Ic.call' (ch := fp) If.os If.base If.hok If.bare fun b hb => let ⟨⟨_, y1, _, y3, y4, y5⟩, _⟩ := fc b hb; ⟨y3, y1, y4, y5⟩
      have gone : He sc.heap.objs.size = none := here ▸ If.free
      obtain ⟨m, ns, _⟩ := If.loc
      have ns : sf.heap.Ns ce.locals m := ns
      rw [here] at ns
      obtain ⟨f0, f1, _, f3, f4, f5⟩ := Ic.fpOk (Nat.le_refl _) gone
      exact ⟨m, ns, fun h2 but => ⟨.ref D, He, out.turned (t' := sf.toks) (fun b o hb e => (but.2 b hb).trans e) f0 f1 f3 f4 f5, rfl, told⟩⟩
    · refine thnF (T.item (X.blk sc Hc scope ce fp) rfl rfl rfl calm i [] se _ He (fun _ _ => False) Ie (still Ie ne) ste go) fun r sf ⟨u, er, more⟩ => ?_
      subst er
      refine thnF more fun _ sg ⟨x, Hg, Ig, rg, yg, stg, ng⟩ => ?_
      refine thnF (p1.run _ sg _ Hg x u _ (Ig.pinned (still Ig ng) (T.obj _ _ stg)) rg (step x Hg yg)) fun _ sh ⟨τ, Hh, Ih, sameW, qh⟩ => ?_
      refine thnF (p2.run _ sh τ Hh _ Ih qh) fun yes si ⟨Hi, Ii, qi⟩ => ?_
      have over : ∀ {sx : Shared} {Hx : Hp}, Inv (X.blk sc Hc scope ce fp) ([] ++ pinsAt fp sg.heap) τ Hx sx → Nx Hx → ∃ m, m < n ∧ ∃ i Hx, Inv (X.blk sc Hc scope ce fp) [] (wipe σ (own.map (·.2))) Hx sx ∧ tn i sx.heap ∧ (∀ b ∈ fp, Hx b = none) ∧ W i m Hx := fun {sx Hx} Ix nx => by
        obtain ⟨m', less, w'⟩ := down Hx nx
        have pinned : ∀ b ∈ fp, ∀ o, sg.heap.get? b = some o → sx.heap.get? b = some o ∧ Hx b = none := fun b hb o e => by
          obtain ⟨z1, z2, _⟩ := Ix.pin (b, o) (List.mem_append_right _ (List.mem_append_right _ (mem_pinsAt hb e)))
          exact ⟨z1, z2⟩
        refine ⟨m', less, i + 1, Hx, (Ix.unpinned (pins := [])).weak ?_ (fun j v e => (wipe_some (sameW ▸ e)).1), T.keep _ _ _ stg fun b hb o e => (pinned b hb o e).1, fun b hb => ?_, w'⟩
        · rw [← sameW, wipe_length]
        · obtain ⟨o, e, _⟩ := T.obj _ _ stg b hb
          exact (pinned b hb o e).2
      cases yes with
      | false => exact over Ii qi
      | true =>
        refine thnF (p3.run _ si τ Hi _ Ii qi) fun kv sj ⟨y, Hj, Ij, rj, qj⟩ => ?_
        refine thnF (p4.run _ sj τ Hj _ Ij qj) fun vv sk ⟨z, Hk, Ik, rk, kvs, k, b, ey, hb, hD, few, nx⟩ => ?_
        subst ey
        cases (show kv = Value.ref b from rj)
        exact putT (X := X.blk sc Hc scope ce fp) room Ik hD few hb rk fun sl Il => over Il nx
  exact codeAny_compStart_dict walk (T.self X.A 0 _ _ _ std walk)
end
theorem un_of {A : Around} {k : Nat} (hr : Room k A) : A.units < cLine := Nat.lt_of_succ_lt (hu_of hr)
/-- such a comprehension over a tuple, by what stands behind each of its things -/
theorem dcT_tup {K : PySem.W.Frag} {a : Addr} {xs : List V} {g : TG} {tt : TT} {tk tv : TE} {vs : List Nat} {σ : L2.St} {H1 : Hp} {D : Addr} {Qd : Hp → Prop} (Pv : Nat → Hp → Prop)
    (first : Pv 0 (upd H1 D (.dT []))) (stays : ∀ i H, i ≤ xs.length → Pv i H → SqT K H a xs)
    (each : ∀ i x H, xs[i]? = some x → Pv i H → g x (wipe σ vs) H fun σ2 H2 => wipe σ2 vs = wipe σ vs ∧ tt σ2 H2 fun yes H3 =>
      if yes = true then tk σ2 H3 fun y H4 => tv σ2 H4 fun z H5 => ∃ kvs k b, y = .ref b ∧ H5 b = some (.tup (k.map kV)) ∧ H5 D = some (.dT kvs) ∧ kvs.length < sizeLine ∧ Pv (i + 1) (upd H5 D (.dT (putK kvs k z))) else Pv (i + 1) H3)
    (last : ∀ H, Pv xs.length H → Qd H) :
    ∃ W : Nat → Nat → Hp → Prop, (∃ m, W 0 m (upd H1 D (.dT []))) ∧ ∀ i m H', W i m H' → ((Itt K a).stop i H' ∧ Qd H') ∨
      ((Itt K a).go i H' ∧ ∃ Nx : Hp → Prop, (∀ Hn, Nx Hn → ∃ m', m' < m ∧ W (i + 1) m' Hn) ∧ ∀ x Hy, (Itt K a).yld i H' x Hy → g x (wipe σ vs) Hy fun σ2 H2 =>
        wipe σ2 vs = wipe σ vs ∧ tt σ2 H2 fun yes H3 => if yes = true then tk σ2 H3 fun y H4 => tv σ2 H4 fun z H5 =>
          ∃ kvs k b, y = .ref b ∧ H5 b = some (.tup (k.map kV)) ∧ H5 D = some (.dT kvs) ∧ kvs.length < sizeLine ∧ Nx (upd H5 D (.dT (putK kvs k z))) else Nx H3) := by
  refine ⟨fun i m H => m + i = xs.length ∧ Pv i H, ⟨xs.length, rfl, first⟩, ?_⟩
  rintro i m H ⟨sum, p⟩
  have sq := stays i H (by omega) p
  match m, sum with
  | 0, sum =>
    have e : i = xs.length := by omega
    subst e
    exact .inl ⟨⟨xs, sq, Nat.le_refl _⟩, last H p⟩
  | m + 1, sum =>
    have lt : i < xs.length := by omega
    refine .inr ⟨⟨xs, xs[i], sq, List.getElem?_eq_getElem lt⟩, Pv (i + 1), fun Hn p' => ⟨m, Nat.lt_succ_self m, by omega, p'⟩, fun x Hy y => ?_⟩
    obtain ⟨rfl, y⟩ := y
    exact each i x _ (y xs sq) p
/-! ### books: voids, counted bags, how pages stand -/
def wOf : Dd → Str
  | .mv .. => wMove
  | .bag .. => wBag
  | .rd .. => wRead
  | .ct .. => wCount
  | .vd .. => wVoid
def named : Dd → Option Nm
  | .vd m => some m
  | .rd m _ => some m
  | _ => none
theorem DdAt.head {H : Hp} {t : Addr} : ∀ {d : Dd}, DdAt H t d → ∃ r, H t = some (.tup (.str (wOf d) :: r))
  | .mv .., ⟨_, h, _⟩ => ⟨_, h⟩
  | .bag .., h => ⟨_, h⟩
  | .rd .., ⟨_, _, h, _⟩ => ⟨_, h⟩
  | .ct .., h => ⟨_, h⟩
  | .vd .., ⟨_, h, _⟩ => ⟨_, h⟩
theorem DdAt.nm {H : Hp} {t : Addr} {m : Nm} : ∀ {d : Dd}, DdAt H t d → named d = some m → ∃ q r, H t = some (.tup (.str (wOf d) :: .ref q :: r)) ∧ H q = some (.tup (nmV m))
  | .rd .., ⟨q, _, h, k, _⟩, e => by
    cases Option.some.inj e
    exact ⟨q, _, h, k⟩
  | .vd .., ⟨q, h, k⟩, e => by
    cases Option.some.inj e
    exact ⟨q, _, h, k⟩
  | .mv .., _, e => nomatch e
  | .bag .., _, e => nomatch e
  | .ct .., _, e => nomatch e
theorem wOf_void : ∀ {d : Dd}, wOf d = wVoid → ∃ m, d = .vd m
  | .vd m, _ => ⟨m, rfl⟩
  | .mv .., e => absurd e (show wMove ≠ wVoid by decide +kernel)
  | .bag .., e => absurd e (show wBag ≠ wVoid by decide +kernel)
  | .rd .., e => absurd e (show wRead ≠ wVoid by decide +kernel)
  | .ct .., e => absurd e (show wCount ≠ wVoid by decide +kernel)
theorem wOf_read : ∀ {d : Dd}, wOf d = wRead → ∃ m rs, d = .rd m rs
  | .rd m rs, _ => ⟨m, rs, rfl⟩
  | .mv .., e => absurd e (show wMove ≠ wRead by decide +kernel)
  | .bag .., e => absurd e (show wBag ≠ wRead by decide +kernel)
  | .vd .., e => absurd e (show wVoid ≠ wRead by decide +kernel)
  | .ct .., e => absurd e (show wCount ≠ wRead by decide +kernel)
def isBag : Dd → Bool
  | .bag .. => true
  | _ => false
theorem wOf_bag : ∀ {d : Dd}, (wOf d = wBag ↔ isBag d = true)
  | .bag .. => ⟨fun _ => rfl, fun _ => rfl⟩
  | .mv .. => ⟨fun e => absurd e (show wMove ≠ wBag by decide +kernel), fun e => nomatch e⟩
  | .rd .. => ⟨fun e => absurd e (show wRead ≠ wBag by decide +kernel), fun e => nomatch e⟩
  | .vd .. => ⟨fun e => absurd e (show wVoid ≠ wBag by decide +kernel), fun e => nomatch e⟩
  | .ct .. => ⟨fun e => absurd e (show wCount ≠ wBag by decide +kernel), fun e => nomatch e⟩
def voidOf : Dd → List Nm
  | .vd m => [m]
  | _ => []
def voids : List Pg → List Nm
  | [] => []
  | g :: gs => voids gs ++ voidOf g.2
theorem voids_app : ∀ a b : List Pg, ∀ n, n ∈ voids (a ++ b) ↔ n ∈ voids a ∨ n ∈ voids b
  | [], b, n => by simp [voids]
  | g :: a, b, n => by
    show n ∈ voids (a ++ b) ++ voidOf g.2 ↔ n ∈ voids a ++ voidOf g.2 ∨ _
    rw [List.mem_append, List.mem_append, voids_app a b n]
    constructor
    · rintro ((h | h) | h)
      · exact .inl (.inl h)
      · exact .inr h
      · exact .inl (.inr h)
    · rintro ((h | h) | h)
      · exact .inl (.inl h)
      · exact .inr h
      · exact .inl (.inr h)
theorem voids_take {gs : List Pg} {i : Nat} {g : Pg} (h : gs[i]? = some g) (n : Nm) : n ∈ voids (gs.take (i + 1)) ↔ n ∈ voids (gs.take i) ∨ n ∈ voidOf g.2 := by
  obtain ⟨hi, e⟩ := List.getElem?_eq_some_iff.mp h
  rw [List.take_succ_eq_append_getElem hi, e, voids_app]
  show _ ∨ n ∈ [] ++ voidOf g.2 ↔ _
  rw [List.nil_append]
def nmKey (n : Nm) : List Key := [Sum.inl n.1, Sum.inl n.2.1, Sum.inr n.2.2]
theorem nmKey_inj {a b : Nm} (h : nmKey a = nmKey b) : a = b := by
  obtain ⟨a1, a2, a3⟩ := a
  obtain ⟨b1, b2, b3⟩ := b
  simp only [nmKey, List.cons.injEq, Sum.inl.injEq, Sum.inr.injEq, and_true] at h
  obtain ⟨rfl, rfl, rfl⟩ := h
  rfl
theorem val_nm {kvs : List (List Key × V)} {a n : Nm} {v : V} : valV (putK kvs (nmKey a) v) (nmKey n) = if n = a then some v else valV kvs (nmKey n) := by
  rw [valV_put]
  by_cases c : n = a
  · rw [if_pos c, if_pos (by rw [c])]
  · rw [if_neg c, if_neg (fun z => c (nmKey_inj z))]
def BkAt (H : Hp) (b : Addr) (gs : List Pg) : Prop := ∃ ps : List Addr, H b = some (.tup (ps.map V.ref)) ∧ Pgs H ps gs
theorem BkAt.tk {H H' : Hp} {b : Addr} {gs : List Pg} (t : Tk H H') (h : BkAt H b gs) : BkAt H' b gs := by
  obtain ⟨ps, h1, h2⟩ := h
  exact ⟨ps, t _ _ h1, h2.tk t⟩
theorem Pgs.get {H : Hp} : ∀ {ps : List Addr} {es : List Pg} {i : Nat} {p : Addr}, Pgs H ps es → ps[i]? = some p → ∃ e, es[i]? = some e ∧ PgAt H p e
  | _, _, 0, _, .cons a _, h => by
    cases h
    exact ⟨_, rfl, a⟩
  | _, _, i + 1, p, .cons _ b, h => Pgs.get (i := i) (p := p) b h
def goneIs (vs : List Nm) (kvs : List (List Key × V)) : Prop := ∀ n, valV kvs (nmKey n) = if n ∈ vs then some (.bl true) else none
def spGone : Sp := fun vs H Q _ => ∃ (b : Addr) (gs : List Pg), vs = [.ref b] ∧ BkAt H b gs ∧ gs.length ≤ 1000 ∧
  ∀ (d : Addr) (kvs : List (List Key × V)) (H' : Hp), Same H H' → H d = none → H' d = some (.dT kvs) → goneIs (voids gs) kvs → Q (.ref d) H'
/-- the counted bags among gs, V the voided names -/
def bagsIs (H : Hp) (V' : List Nm) (gs : List Pg) (kvs : List (List Key × V)) : Prop := ∀ n, (∃ g ∈ gs, g.1 = n ∧ isBag g.2 = true ∧ n ∉ V' ∧ ∃ t, valV kvs (nmKey n) = some (.ref t) ∧ DdAt H t g.2) ∨
  ((∀ g ∈ gs, g.1 = n → isBag g.2 = true → n ∈ V') ∧ valV kvs (nmKey n) = none)
theorem bagsIs.tk {H H' : Hp} {V' : List Nm} {gs : List Pg} {kvs : List (List Key × V)} (t : Tk H H') (h : bagsIs H V' gs kvs) : bagsIs H' V' gs kvs := fun n => by
  rcases h n with ⟨g, a, b, c, d, u, e, f⟩ | h
  · exact .inl ⟨g, a, b, c, d, u, e, f.tk t⟩
  · exact .inr h
def spBags : Sp := fun vs H Q _ => ∃ (b : Addr) (gs : List Pg), vs = [.ref b] ∧ BkAt H b gs ∧ gs.length ≤ 1000 ∧
  ∀ (d : Addr) (kvs : List (List Key × V)) (H' : Hp), Same H H' → H d = none → H' d = some (.dT kvs) → bagsIs H' (voids gs) gs kvs → Q (.ref d) H'
/-- is a counted bag -/
def cbB (gs : List Pg) (n : Nm) : Bool := gs.any fun g => decide (g.1 = n) && (isBag g.2 && !decide (n ∈ voids gs))
theorem bags_some {H : Hp} {gs : List Pg} {kvs : List (List Key × V)} (h : bagsIs H (voids gs) gs kvs) (n : Nm) : (valV kvs (nmKey n)).isSome = cbB gs n := by
  rw [Bool.eq_iff_iff, cbB, List.any_eq_true]
  rcases h n with ⟨g, a, b, c, d, u, e, f⟩ | ⟨no, e⟩
  · rw [e]
    refine ⟨fun _ => ⟨g, a, ?_⟩, fun _ => rfl⟩
    rw [b, c, decide_eq_true rfl, decide_eq_false d]
    rfl
  · rw [e]
    refine ⟨fun z => (nomatch z), ?_⟩
    rintro ⟨g, a, b⟩
    rw [Bool.and_eq_true, Bool.and_eq_true, decide_eq_true_eq, Bool.not_eq_true', decide_eq_false_iff_not] at b
    exact (b.2.2 (no g a b.1 b.2.1)).elim
def standS (gs : List Pg) (g : Pg) : Str :=
  if wOf g.2 = wVoid then wVoid else if g.1 ∈ voids gs then (("voided" : String) : Str) else
    match g.2 with
    | .rd m _ => if cbB gs m = true then (("counted" : String) : Str) else (("waiting" : String) : Str)
    | _ => (("counted" : String) : Str)
def spStand : Sp := fun vs H Q _ => ∃ (p d1 d2 : Addr) (g : Pg) (gs : List Pg) (k1 k2 : List (List Key × V)), vs = [.ref p, .ref d1, .ref d2] ∧ PgAt H p g ∧ H d1 = some (.dT k1) ∧ goneIs (voids gs) k1 ∧ H d2 = some (.dT k2) ∧ bagsIs H (voids gs) gs k2 ∧
  ∀ H', Same H H' → Q (.str (standS gs g)) H'
def thatL (gs : List Pg) (w : Str) : List Pg := gs.filter fun g => decide (standS gs g = w)
def spThat : Sp := fun vs H Q _ => ∃ (b : Addr) (w : Str) (gs : List Pg), vs = [.ref b, .str w] ∧ BkAt H b gs ∧ gs.length ≤ 1000 ∧
  ∀ (l : Addr) (qs : List Addr) (H' : Hp), Same H H' → H l = none → H' l = some (.lst (qs.map V.ref)) → Pgs H' qs (thatL gs w) → Q (.ref l) H'
def spThatOf (w : Str) : Sp := fun vs H Q _ => ∃ (b : Addr) (gs : List Pg), vs = [.ref b] ∧ BkAt H b gs ∧ gs.length ≤ 1000 ∧
  ∀ (l : Addr) (qs : List Addr) (H' : Hp), Same H H' → H l = none → H' l = some (.lst (qs.map V.ref)) → Pgs H' qs (thatL gs w) → Q (.ref l) H'
def spNamesOf (w : Str) : Sp := fun vs H Q _ => ∃ (b : Addr) (gs : List Pg), vs = [.ref b] ∧ BkAt H b gs ∧ gs.length ≤ 1000 ∧
  ∀ (t : Addr) (qs : List Addr) (H' : Hp), Same H H' → H t = none → H' t = some (.tup (qs.map V.ref)) → Nms H' qs ((thatL gs w).map (·.1)) → Q (.ref t) H'
theorem ix0 (x : V) (r : List V) : atI (x :: r) 0 = some x := atI_nat (j := 0) rfl
theorem ix1 (x y : V) (r : List V) : atI (x :: y :: r) 1 = some y := atI_nat (j := 1) rfl
/-! ### offices, deeds drawn -/
structure OfE (ws : List Wt) (E : List Ed) : Prop where
  w0 : 0 < ws.length
  w8 : ws.length ≤ 8
  e16 : E.length ≤ 16
  road : ∃ e ∈ E, e.1 ≠ gNone
  ed : ∀ e ∈ E, NmOk e.1 ∧ NmOk e.2
  wt : ∀ w ∈ ws, NmOk w.1
def spOfficeE : Sp := fun vs H Q _ => ∃ (f c : Addr) (n : Int), vs = [.ref f] ∧ Fe H f c n ∧ n ≤ 600000 ∧
  ∀ (o : Addr) (ws : List Wt) (E : List Ed) (H' : Hp), Fe H' f c (n + 200) → But f H H' → H o = none → OfAt H' o ws E → OfE ws E → Q (.ref o) H'
def spDeedE : Sp := fun vs H Q _ => ∃ (f c o L Kd : Addr) (k : Nat) (low n : Int) (ws : List Wt) (E : List Ed) (ps : List Addr) (ns : List Nm) (ks : List Str), vs = [.ref f, .ref o, .ref L, .ref Kd, .int k, .int low] ∧ Fe H f c n ∧ n ≤ 600000 ∧
  OfAt H o ws E ∧ OfE ws E ∧ H L = some (.lst (ps.map V.ref)) ∧ L ≠ f ∧ Nms H ps ns ∧ ns.length ≤ 39 ∧ H Kd = some (.lst (ks.map V.str)) ∧ Kd ≠ f ∧ ks.length = ns.length ∧ k < ks.length ∧ 0 ≤ low ∧ low ≤ 1000000000 ∧
  ∀ (t : Addr) (d : Dd) (H' : Hp), Fe H' f c (n + 100) → But f H H' → H t = none → DdAt H' t d → Q (.ref t) H'
theorem Wts.get {H : Hp} : ∀ {ps : List Addr} {es : List Wt} {i : Nat} {p : Addr}, Wts H ps es → ps[i]? = some p → ∃ e, es[i]? = some e ∧ H p = some (.tup (wtV e))
  | _, _, 0, _, .cons a _, h => by
    cases h
    exact ⟨_, rfl, a⟩
  | _, _, i + 1, p, .cons _ b, h => Wts.get (i := i) (p := p) b h
theorem Rds.tk {H H' : Hp} (t : Tk H H') : ∀ {ps : List Addr} {rs : List Ed}, Rds H ps rs → Rds H' ps rs
  | _, _, .nil => .nil
  | _, _, .cons a b => .cons (t _ _ a) (Rds.tk t b)
theorem Wts.tk {H H' : Hp} (t : Tk H H') : ∀ {ps : List Addr} {rs : List Wt}, Wts H ps rs → Wts H' ps rs
  | _, _, .nil => .nil
  | _, _, .cons a b => .cons (t _ _ a) (Wts.tk t b)
theorem OfAt.tk {H H' : Hp} {o : Addr} {ws : List Wt} {E : List Ed} (s : Tk H H') (h : OfAt H o ws E) : OfAt H' o ws E := by
  obtain ⟨w, r, wp, rp, h1, h2, h3, h4, h5⟩ := h
  exact ⟨w, r, wp, rp, s _ _ h1, s _ _ h2, s _ _ h3, h4.tk s, h5.tk s⟩
theorem pick_nm {ps : List Addr} {ns : List Nm} {H : Hp} {d : Int} (h : Nms H ps ns) (d0 : 0 ≤ d) (d1 : d < (((ps.map V.ref).length : Nat) : Int)) : ∃ p, ∃ m ∈ ns, atI (ps.map V.ref) d = some (.ref p) ∧ H p = some (.tup (nmV m)) := by
  rw [List.length_map] at d1
  obtain ⟨k, rfl⟩ : ∃ k : Nat, d = (k : Int) := ⟨d.toNat, by omega⟩
  have hk : k < ps.length := by omega
  obtain ⟨m, m1, m2⟩ := Nms.get h (List.getElem?_eq_getElem hk)
  exact ⟨ps[k], m, List.mem_of_getElem? m1, atI_nat (by rw [List.getElem?_map, List.getElem?_eq_getElem hk]; rfl), m2⟩
theorem pick_ed {ps : List Addr} {es : List Ed} {H : Hp} {d : Int} (h : Rds H ps es) (d0 : 0 ≤ d) (d1 : d < (((ps.map V.ref).length : Nat) : Int)) : ∃ p, ∃ m ∈ es, atI (ps.map V.ref) d = some (.ref p) ∧ H p = some (.tup (edV m)) := by
  rw [List.length_map] at d1
  obtain ⟨k, rfl⟩ : ∃ k : Nat, d = (k : Int) := ⟨d.toNat, by omega⟩
  have hk : k < ps.length := by omega
  obtain ⟨m, m1, m2⟩ := Rds.get h (List.getElem?_eq_getElem hk)
  exact ⟨ps[k], m, List.mem_of_getElem? m1, atI_nat (by rw [List.getElem?_map, List.getElem?_eq_getElem hk]; rfl), m2⟩
def spPagesE : Sp := fun vs H Q _ => ∃ (f c o : Addr) (m : Nat) (low n : Int) (ws : List Wt) (E : List Ed), vs = [.ref f, .ref o, .int m, .int low] ∧ Fe H f c n ∧ n ≤ 500000 ∧ OfAt H o ws E ∧ OfE ws E ∧ m ≤ 39 ∧ 0 ≤ low ∧ low ≤ 1000000000 ∧
  ∀ (l : Addr) (qs : List Addr) (gs : List Pg) (H' : Hp), Fe H' f c (n + 5000) → But f H H' → H l = none → H' l = some (.lst (qs.map V.ref)) → Pgs H' qs gs → gs.length = m → (gs.map (·.1)).Nodup → (∀ g ∈ gs, NmK g.1) → Q (.ref l) H'
def gMenu : List Str := [("move" : String), ("bag" : String), ("read" : String), ("move" : String), ("read" : String), ("move" : String), ("count" : String), ("move" : String), ("void" : String), ("bag" : String), ("read" : String), ("move" : String)]
def NmB (n : Nm) : Prop := 0 ≤ n.1 ∧ n.1 ≤ 99999 ∧ 0 ≤ n.2.1 ∧ n.2.1 ≤ 999 ∧ (n.2.1 ≤ 599 ∨ 950 ≤ n.2.1) ∧ NmOk n.2.2
def wB : Str := (("b" : String) : Str)
theorem wB_ok : NmOk wB := ⟨by decide +kernel, by decide +kernel⟩
def spKnotE : Sp := fun vs H Q _ => ∃ (f c o : Addr) (low n : Int) (ws : List Wt) (E : List Ed), vs = [.ref f, .ref o, .int low] ∧ Fe H f c n ∧ n ≤ 550000 ∧ OfAt H o ws E ∧ OfE ws E ∧ 0 ≤ low ∧ low ≤ 1000000000 ∧
  ∀ (l : Addr) (qs : List Addr) (gs : List Pg) (H' : Hp), Fe H' f c (n + 500) → But f H H' → H l = none → H' l = some (.lst (qs.map V.ref)) → Pgs H' qs gs → gs.map (fun g => g.1.2.1) = [500, 501, 502, 503, 504] → (∀ g ∈ gs, 0 ≤ g.1.1 ∧ g.1.1 ≤ 99 ∧ g.1.2.2 = wB) → Q (.ref l) H'
def spBegunE : Sp := fun vs H Q _ => ∃ (f c : Addr) (n : Int), vs = [.ref f] ∧ Fe H f c n ∧ n ≤ 400000 ∧
  ∀ (t o l : Addr) (low : Int) (ws : List Wt) (E : List Ed) (qs : List Addr) (gs : List Pg) (H' : Hp), Fe H' f c (n + 6000) → But f H H' → H t = none → H' t = some (.tup [.ref o, .int low, .ref l]) → OfAt H' o ws E → OfE ws E → H l = none → l ≠ f → 0 ≤ low → low ≤ 1000000000 →
    H' l = some (.lst (qs.map V.ref)) → Pgs H' qs gs → gs.length ≤ 44 → (gs.map (·.1)).Nodup → (∀ g ∈ gs, NmB g.1) → Q (.ref t) H'
theorem NmK.b {n : Nm} (h : NmK n) : NmB n := by
  obtain ⟨h1, h2, h3, h4⟩ := h
  exact ⟨h1, h2, by omega, by omega, by omega, h4⟩
theorem knot_nodup {gs : List Pg} (h : gs.map (fun g => g.1.2.1) = [500, 501, 502, 503, 504]) : (gs.map (·.1)).Nodup := by
  have z : ((gs.map (·.1)).map fun n : Nm => n.2.1).Nodup := by
    rw [List.map_map]
    show (gs.map fun g => g.1.2.1).Nodup
    rw [h]
    decide
  exact List.Pairwise.of_map _ (fun a b hab e => hab (by rw [e])) z
theorem knot_num {gs : List Pg} (h : gs.map (fun g => g.1.2.1) = [500, 501, 502, 503, 504]) {g : Pg} (hg : g ∈ gs) : 500 ≤ g.1.2.1 ∧ g.1.2.1 ≤ 504 := by
  have z : g.1.2.1 ∈ gs.map (fun g => g.1.2.1) := List.mem_map.mpr ⟨g, hg, rfl⟩
  rw [h] at z
  simp only [List.mem_cons, List.not_mem_nil, or_false] at z
  omega
def spVoidsE : Sp := fun vs H Q _ => ∃ (f c l : Addr) (n : Int) (qs : List Addr) (gs : List Pg), vs = [.ref f, .ref l] ∧ Fe H f c n ∧ n ≤ 450000 ∧ H l = some (.lst (qs.map V.ref)) ∧ l ≠ f ∧ Pgs H qs gs ∧ gs.length ≤ 44 ∧ (gs.map (·.1)).Nodup ∧ (∀ g ∈ gs, NmB g.1) ∧
  ∀ (l' : Addr) (ps : List Addr) (hs : List Pg) (H' : Hp), Fe H' f c (n + 30) → But f H H' → H l' = none → l' ≠ f → H' l' = some (.lst (ps.map V.ref)) → Pgs H' ps hs → hs.length ≤ 50 → (hs.map (·.1)).Nodup → Q (.ref l') H'
def gWays : List Str := [("bag" : String), ("read" : String), ("" : String), ("void" : String), ("gone" : String)]
def NmV (i : Nat) (n : Nm) : Prop := NmB n ∨ (600 ≤ n.2.1 ∧ n.2.1 < 600 + (i : Int))
/-! ### sorted(xs, key=lambda p: ..): the lambda made, called for each item; the table of its code object -/
mutual
def noL : PyData → Bool
  | .list _ => false
  | .dict _ => false
  | .tuple xs => noLAll xs
  | .none => true
  | .bool _ => true
  | .int _ => true
  | .str _ => true
def noLAll : List PyData → Bool
  | [] => true
  | x :: xs => noL x && noLAll xs
end
mutual
theorem reads_noL {h : Heap} : ∀ {v : Value} {d : PyData} {as : List Addr}, Reads h v d as → noL d = true → as = []
  | _, _, _, .none, _ => rfl
  | _, _, _, .bool _, _ => rfl
  | _, _, _, .int _ _, _ => rfl
  | _, _, _, .str _ _, _ => rfl
  | _, _, _, .list _ _ _ _, z => absurd z (by simp [noL])
  | _, _, _, .tuple _ _ _ b, z => readsAll_noL b (by simpa [noL] using z)
  | _, _, _, .dict _ _ _ _ _, z => absurd z (by simp [noL])
theorem readsAll_noL {h : Heap} : ∀ {vs : List Value} {ds : List PyData} {as : List Addr}, ReadsAll h vs ds as → noLAll ds = true → as = []
  | _, _, _, .nil, _ => rfl
  | _, _, _, .cons a b, z => by
    simp only [noLAll, Bool.and_eq_true] at z
    rw [reads_noL a z.1, readsAll_noL b z.2]
    rfl
end
/-- a code object of the name q at c -/
def CodeK (c : Addr) (q : Str) : HO := .ext fun h => ∃ (oc : Obj) (vs : Array Value) (t : Tok), h.get? c = some oc ∧ oc.data = .fields vs ∧ vs[1]? = some (.str q t)
theorem codeK_obj {Pr : Program} {w : World} {H : Hp} {h : Heap} {c : Addr} {q : Str} (e : ∃ (oc : Obj) (vs : Array Value) (t : Tok), h.get? c = some oc ∧ oc.data = .fields vs ∧ vs[1]? = some (.str q t)) : ObjOk Pr w H h c (CodeK c q) := by
  obtain ⟨oc, vs, t, e1, e2, e3⟩ := e
  exact ⟨⟨oc, vs, t, e1, e2, e3⟩, ⟨oc, e1⟩, fun h1 h2 ⟨oc, vs, t, a, b, c⟩ st => ⟨oc, vs, t, st _ a, b, c⟩⟩
/-- the table at P tells no code objects but those at C -/
def tabCP (P : Addr) (C : List Addr) : Heap → Prop := fun h => ∃ ps : Array Value, h.get? P = some { cls := .none, data := .fields ps } ∧ TriplesOk ps.toList ∧ ∀ pos cv, codeAmong pos ps.toList = some cv → ∃ c ∈ C, cv = .ref c
def TabC (P : Addr) (C : List Addr) : HO := .ext (tabCP P C)
theorem tabC_obj {Pr : Program} {w : World} {H : Hp} {h : Heap} {P : Addr} {C : List Addr} (e : tabCP P C h) : ObjOk Pr w H h P (TabC P C) := by
  obtain ⟨ps, h1, h2⟩ := e
  exact ⟨⟨ps, h1, h2⟩, ⟨_, h1⟩, fun a b ⟨qs, g1, g2⟩ k => ⟨qs, k _ g1, g2⟩⟩
def TabL (H : Hp) (P : Addr) (q : Str) : Prop := ∃ C : List Addr, H P = some (TabC P C) ∧ ∀ c ∈ C, c ≠ P ∧ H c = some (CodeK c q)
theorem TabL.stay {H H' : Hp} {P : Addr} {q : Str} (k : ∀ a φ, H a = some (.ext φ) → H' a = some (.ext φ)) (h : TabL H P q) : TabL H' P q := by
  obtain ⟨C, h1, h2⟩ := h
  exact ⟨C, k _ _ h1, fun c hc => ⟨(h2 c hc).1, k _ _ (h2 c hc).2⟩⟩
theorem TabL.same {H H' : Hp} {P : Addr} {q : Str} (s : Same H H') (h : TabL H P q) : TabL H' P q := h.stay fun a φ e => s _ _ e
theorem TabL.at {H : Hp} {P : Addr} {q : Str} (h : TabL H P q) : ∃ φ, H P = some (.ext φ) := by
  obtain ⟨C, h1, _⟩ := h
  exact ⟨_, h1⟩
theorem amongApp {pos p' : Pos} {c cv : Value} (l : List Value) (h : TriplesOk l) (hc : codeAmong p' (l ++ [rawInt pos.line, rawInt pos.col, c]) = some cv) : codeAmong p' l = some cv ∨ cv = c := LamX.among_app l h hc
section
variable {X : Cx} {pins : List (Addr × Obj)} {σ : L2.St} {H : Hp} {s : Shared}
theorem inv_tabC {P c : Addr} {q : Str} {C : List Addr} {h' : Heap} {t' : Nat} (I : Inv X pins σ H s) (hP : H P = some (TabC P C)) (k : ∀ b o, b ≠ P → s.heap.get? b = some o → h'.get? b = some o)
    (hm : tabCP P (c :: C) h') (hc : s.heap.objs.size ≤ c) (ho : ∃ (oc : Obj) (vs : Array Value) (t : Tok), h'.get? c = some oc ∧ oc.data = .fields vs ∧ vs[1]? = some (.str q t)) :
    Inv X pins σ (upd (upd H P (TabC P (c :: C))) c (CodeK c q)) { s with heap := h', toks := t' } := by
  have nC : H c = none := I.hok.fresh hc
  have nPc : P ≠ c := ne_of_none hP nC
  have at_ : ∀ b, b ≠ P → b ≠ c → upd (upd H P (TabC P (c :: C))) c (CodeK c q) b = H b := fun b h1 h2 => by rw [upd_ne h2, upd_ne h1]
  have atP : upd (upd H P (TabC P (c :: C))) c (CodeK c q) P = some (TabC P (c :: C)) := by rw [upd_ne nPc, upd_same]
  have nP : ∀ b u, H b = some u → (∀ φ, u ≠ .ext φ) → b ≠ P := fun b u e q z => by
    rw [z, hP] at e
    exact q _ (Option.some.inj e).symm
  have nN : ∀ b, H b = none → b ≠ P := fun b e z => by
    rw [z, hP] at e
    cases e
  have lt' : ∀ b o, s.heap.get? b = some o → b ≠ c := fun b o e z => by
    rw [z] at e
    exact Nat.lt_irrefl _ (Nat.lt_of_lt_of_le (Heap.lt_size e) hc)
  have sm : ∀ b u, H b = some u → b ≠ c := fun b u e => ne_of_none e nC
  refine I.step (g' := s.gens) (d' := s.drawn) (ch := []) (fun b hb => absurd hb (by simp)) (fun b o _ _ _ e n => k b o (nN b n) e) (fun b o _ _ _ e n => ⟨o.slots, k b o (nN b n) e⟩)
    (fun b o _ e n => by rw [at_ b (nN b n) (lt' b o e)]; exact n) (fun b o _ e => ?_) (fun b xs e => by rw [at_ b (nP b _ e (fun q z => by cases z)) (sm b _ e)]; exact e) (fun b o u e => by rw [at_ b (nP b _ e (fun q z => by cases z)) (sm b _ e)]; exact e) (fun b qs e => ⟨#[], by rw [at_ b (nP b _ e (fun q z => by cases z)) (sm b _ e), e]; simp⟩) (fun m hn => ?_) (fun b u e => ?_) I.bare
  · by_cases hb : b = P
    · obtain ⟨ps, h1, _⟩ := hm
      rw [hb]
      exact ⟨_, h1⟩
    · exact ⟨o, k b o hb e⟩
  · obtain ⟨ob, es, ep, ho, r⟩ := hn
    exact ⟨ob, es, ep, k _ ob (nN _ I.free) ho, r⟩
  · by_cases hb : b = c
    · rw [hb, upd_same] at e
      cases e
      rw [hb]
      exact codeK_obj ho
    · by_cases hb2 : b = P
      · rw [hb2, atP] at e
        cases e
        rw [hb2]
        exact tabC_obj hm
      · rw [at_ b hb2 hb] at e
        refine (I.hok b u e).stay (fun d v hd q => k d v ?_ q) (fun d q => by rw [at_ d (nP d _ q (fun q z => by cases z)) (sm d _ q)]; exact q) fun d xs q => by rw [at_ d (nP d _ q (fun q z => by cases z)) (sm d _ q)]; exact q
        rcases hd with z | z
        · rw [z]
          exact hb2
        · exact nP d _ z (fun q z => by cases z)
/-- the lambda is made: its code object is new, or found in the table -/
theorem lam_makeC {c P : Addr} {params : Arguments} {body : Expr} {scope : Scope} {pos : Pos} {E : Value → Shared → Prop} {Q : Value → Shared → Prop} (I : Inv X pins σ H s) (TB : GxR.TabB X.base X.mg c P) (hcode : X.env.code = .ref c)
    (hT : TabL H P (X.env.qual ++ "<lambda>")) (hdef : defaultsOf params X.env = ([], [])) (hfree : ∀ y ∈ scope.names, y.2 = .free → ∃ c, X.env.cells.lookup y.1 = some c)
    (h : ∀ (f c' : Addr) (pm ctv : Value) (H1 : Hp) (s' : Shared), Inv X pins σ H1 s' → But P H H1 → (∀ b, H b = none → b < s.heap.objs.size → H1 b = none) → TabL H1 P (X.env.qual ++ "<lambda>") →
      s'.heap.get? f = some (PySem.W.kla_obj "<lambda>" (X.env.qual ++ "<lambda>") params body scope (cloFrom X.env.cells scope.names []) pm c' ctv) → s'.heap.CodeRec (.ref c') (X.env.qual ++ "<lambda>") → Q (.ref f) s') :
    wpAny (model X.prog X.w) X.A (eval (.Lambda params body scope pos) X.env) Q E s := by
  obtain ⟨C, hP, hC⟩ := hT
  obtain ⟨⟨ps, hP', ht, ha⟩, _⟩ := (show ObjOk X.prog X.w H s.heap P (TabC P C) from I.hok P _ hP)
  refine PySem.W.kla_eval hdef ?_
  have bP : s.heap.BuiltinsAt X.mg P := TB.bm.keeps I.bk
  cases hc : codeAmong pos ps.toList with
  | none =>
    refine PySem.W.kla_makeFunction (mg := X.mg) (c := c) (P := P) (ps := ps) (closure_ok hfree) I.ok.glob (I.mod.glob.keeps I.bk) hcode (TB.code.keeps I.bk) hP' ht hc TB.gP bP fun c' ctv h' tk hx hge hlt hrec htb => ?_
    obtain ⟨c2, oc, vs, t, e2, hoc, hd, hv⟩ := hrec
    cases e2
    have hsz : s.heap.objs.size ≤ h'.objs.size := Nat.le_trans hge (Nat.le_of_lt hlt)
    have nC : H c' = none := I.hok.fresh hge
    have eL : (ps ++ #[rawInt pos.line, rawInt pos.col, .ref c']).toList = ps.toList ++ [rawInt pos.line, rawInt pos.col, .ref c'] := by simp
    have I1 := inv_tabC (t' := tk) (c := c') (q := X.env.qual ++ "<lambda>") (h' := h'.push (PySem.W.kla_obj "<lambda>" (X.env.qual ++ "<lambda>") params body scope (cloFrom X.env.cells scope.names []) ((X.mg "__name__").getD .none) c' ctv)) I hP
      (fun b o hb e => Heap.get?_push_of_some _ (hx b o hb e)) ⟨_, Heap.get?_push_of_some _ htb, by rw [eL]; exact PySem.TriplesOk_snoc _ _ _ _ ht, fun p' cv hcv => by
        rw [eL] at hcv
        rcases amongApp _ ht hcv with z | z
        · obtain ⟨c0, e1, e2⟩ := ha p' cv z
          exact ⟨c0, List.mem_cons_of_mem _ e1, e2⟩
        · exact ⟨c', List.mem_cons_self, z⟩⟩ hge ⟨oc, vs, t, Heap.get?_push_of_some _ hoc, hd, hv⟩
    refine h h'.objs.size c' ((X.mg "__name__").getD .none) ctv _ _ I1 (fun b o n e => ?_) (fun b e lt => ?_) ⟨c' :: C, ?_, fun c1 h1 => ?_⟩ (Heap.get?_push_size _ rfl) ⟨c', oc, vs, t, rfl, Heap.get?_push_of_some _ hoc, hd, hv⟩
    · rw [upd_ne (ne_of_none e nC), upd_ne n]
      exact e
    · rw [upd_ne (Nat.ne_of_lt (Nat.lt_of_lt_of_le lt hge)), upd_ne (fun z => by rw [z, hP] at e; cases e)]
      exact e
    · rw [upd_ne (ne_of_none hP nC), upd_same]
    · rcases List.mem_cons.mp h1 with rfl | h1
      · exact ⟨(ne_of_none hP nC).symm, upd_same⟩
      · obtain ⟨z, e⟩ := hC c1 h1
        refine ⟨z, ?_⟩
        rw [upd_ne (ne_of_none e nC), upd_ne z]
        exact e
  | some cv =>
    obtain ⟨c', e1, e2⟩ := ha pos cv hc
    subst e2
    obtain ⟨⟨oc, vs, t, g1, g2, g3⟩, _⟩ := (show ObjOk X.prog X.w H s.heap c' (CodeK c' (X.env.qual ++ "<lambda>")) from I.hok c' _ (hC c' e1).2)
    refine PySem.W.kla_makeFunctionHit (mg := X.mg) (c := c) (P := P) (ps := ps) (closure_ok hfree) I.ok.glob (I.mod.glob.keeps I.bk) hcode (TB.code.keeps I.bk) hP' ht hc bP fun ctv h' tk hx hsz => ?_
    have I1 : Inv X pins σ H { s with heap := h'.push (PySem.W.kla_obj "<lambda>" (X.env.qual ++ "<lambda>") params body scope (cloFrom X.env.cells scope.names []) ((X.mg "__name__").getD .none) c' ctv), toks := tk } := I.kept fun b o e => Heap.get?_push_of_some _ (hx b o e)
    exact h h'.objs.size c' ((X.mg "__name__").getD .none) ctv H _ I1 (But.refl _ _) (fun _ e _ => e) ⟨C, hP, hC⟩ (Heap.get?_push_size _ rfl) ⟨c', oc, vs, t, rfl, Heap.get?_push_of_some _ (hx _ _ g1), g2, g3⟩
end
/-- all but what is known by a word of its own stays -/
def NeX (H H' : Hp) : Prop := ∀ a o, (∀ φ, o ≠ .ext φ) → H a = some o → H' a = some o
theorem NeX.of_but {H H' : Hp} {P : Addr} {φ : Heap → Prop} (hP : H P = some (.ext φ)) (b : But P H H') : NeX H H' := fun a o n e => b a o (fun z => by rw [z, hP] at e; exact n φ (Option.some.inj e).symm) e
theorem SqL.ne {K : PySem.W.Frag} {H H' : Hp} {a : Addr} {xs : List V} (e : NeX H H') (h : SqL K H a xs) : SqL K H' a xs := by
  rcases h with (h | ⟨o, h⟩) | h
  · exact Or.inl (Or.inl (e _ _ (fun φ z => nomatch z) h))
  · exact Or.inl (Or.inr ⟨o, e _ _ (fun φ z => nomatch z) h⟩)
  · exact Or.inr h
theorem SqT.ne {K : PySem.W.Frag} {H H' : Hp} {a : Addr} {xs : List V} (e : NeX H H') (h : SqT K H a xs) : SqT K H' a xs := by
  rcases h with (h | ⟨o, h⟩) | h
  · exact Or.inl (Or.inl (e _ _ (fun φ z => nomatch z) h))
  · exact Or.inl (Or.inr ⟨o, e _ _ (fun φ z => nomatch z) h⟩)
  · exact Or.inr h
mutual
theorem Dp.ne {K : PySem.W.Frag} {H H' : Hp} (e : NeX H H') : ∀ {v : V} {d : PyData}, Dp K H v d → Dp K H' v d
  | _, _, .non => .non
  | _, _, .bl b => .bl b
  | _, _, .int i => .int i
  | _, _, .str x => .str x
  | _, _, .lst s a => .lst (SqL.ne e s) (DpAll.ne e a)
  | _, _, .tup s a => .tup (SqT.ne e s) (DpAll.ne e a)
theorem DpAll.ne {K : PySem.W.Frag} {H H' : Hp} (e : NeX H H') : ∀ {vs : List V} {ds : List PyData}, DpAll K H vs ds → DpAll K H' vs ds
  | _, _, .nil => .nil
  | _, _, .cons a b => .cons (Dp.ne e a) (DpAll.ne e b)
end
/-- what the lambda's body tells of its parameter's value: a key -/
structure KeyB (K : PySem.W.Frag) (x : Str) (body : Expr) (T : Hp → V → PyData → Prop) : Prop where
  st : ∀ (H H' : Hp) (v : V) (k : PyData), NeX H H' → T H v k → T H' v k
  ex : ∃ KV : Heap → Value → PyData → Prop,
    (∀ (X : Cx) (pins : List (Addr × Obj)) (σ : L2.St) (H : Hp) (s : Shared) (v : V) (u : Value) (k : PyData), X.K = K → Inv X pins σ H s → T H v k → noL k = true → RelV v u → KV s.heap u k) ∧
    (∀ (h h' : Heap) (u : Value) (k : PyData), KV h u k → (∀ b o, h.get? b = some o → h'.get? b = some o) → KV h' u k) ∧
    ∀ (prog : Program) (w : World) (A : Around) (E : Value → Shared → Prop) (env : Env) (s : Shared) (m : Str → Option Value) (u : Value) (k : PyData), env.scope.kind = .function → env.kindOf x = some .local → s.heap.Ns env.locals m → m x = some u → KV s.heap u k →
      wpAny (model prog w) A (eval body env) (PySem.W.KeyPure k s) E s
theorem eval_ix {prog : Program} {w : World} {A : Around} {E : Value → Shared → Prop} {env : Env} {s : Shared} {m : Str → Option Value} {x : Str} {a : Addr} {its : Array Value} {i : Nat} {wv : Value} {j : Nat} {p1 p2 pos : Pos} {Q : Value → Shared → Prop}
    (hk : env.scope.kind = .function) (hl : env.kindOf x = some .local) (hn : s.heap.Ns env.locals m) (hm : m x = some (.ref a)) (ht : IsTup s.heap a its) (hw : its[i]? = some wv) (hi : i < 1000) (hd : (x == ("__debug__" : Str)) = false) (h : Q wv { s with toks := s.toks + 1 }) :
    wpAny (model prog w) A (eval (.Subscript (.Name x p1) (.Constant (.int i) j p2) pos) env) Q E s := by
  refine Subscript_ (wpAny_Name (wpAny_loadName_local hk hl hn hm ?_) hd)
  refine wpAny_Constant_int ?_
  have lt : i < its.size := (Array.getElem?_eq_some_iff.mp hw).1
  refine subscriptTail_builtinR (x := wv) ht.typeIs slot_tuple_getitem.lookup (getItem_tuple (j := i) (Q := fun r s' => r = wv ∧ Q r s') ht (by omega) (by omega) ?_ hw ⟨rfl, h⟩) (by with_unfolding_all rfl)
  unfold seqIndex?
  have n0 : ¬ ((i : Int) < 0) := by omega
  simp [n0, lt]
/-- lambda x: x[i] -/
theorem key1 {K : PySem.W.Frag} {x : Str} {i : Nat} {j : Nat} {p1 p2 pos : Pos} (hi : i < 1000) (hd : (x == ("__debug__" : Str)) = false) :
    KeyB K x (.Subscript (.Name x p1) (.Constant (.int i) j p2) pos) (fun H v k => ∃ t ys y, v = .ref t ∧ SqT K H t ys ∧ ys[i]? = some y ∧ Dp K H y k) := by
  refine ⟨fun H H' v k n ⟨t, ys, y, e1, e2, e3, e4⟩ => ⟨t, ys, y, e1, SqT.ne n e2, e3, Dp.ne n e4⟩, fun h u k => ∃ a its wv, u = .ref a ∧ IsTup h a its ∧ its[i]? = some wv ∧ Reads h wv k [], ?_, ?_, ?_⟩
  · rintro X pins σ H s v u k rfl I ⟨t, ys, y, rfl, hs, hy, hk⟩ nk r
    cases r
    obtain ⟨its, rv, ht, _⟩ := I.tuple hs
    obtain ⟨wv, e1, e2⟩ := rv.get hy
    obtain ⟨as, rd⟩ := Dp.reads I k y wv hk e2
    have z := reads_noL rd nk
    subst z
    exact ⟨t, its.toArray, wv, rfl, ht, by simpa using e1, rd⟩
  · rintro h h' u k ⟨a, its, wv, rfl, ⟨o, h1, h2⟩, h3, h4⟩ kp
    exact ⟨a, its, wv, rfl, ⟨o, kp _ _ h1, h2⟩, h3, PyProof.Rows.Reads.keeps kp h4⟩
  · rintro prog w A E env s m u k h1 h2 h3 h4 ⟨a, its, wv, rfl, h5, h6, h7⟩
    exact eval_ix h1 h2 h3 h4 h5 h6 hi hd ⟨s.heap, s.toks + 1, rfl, fun _ _ e => e, h7⟩
/-- lambda x: (x[i], x[j]) -/
theorem key2 {K : PySem.W.Frag} {x : Str} {i j : Nat} {j1 j2 l : Nat} {p1 p2 p3 p4 p5 p6 pos : Pos} (hi : i < 1000) (hj : j < 1000) (hd : (x == ("__debug__" : Str)) = false)
    (hst : ∀ env : Env, backTo pos (starEach [.Subscript (.Name x p1) (.Constant (.int i) j1 p2) p3, .Subscript (.Name x p4) (.Constant (.int j) j2 p5) p6] env) =
      [(false, eval (.Subscript (.Name x p1) (.Constant (.int i) j1 p2) p3) env), (false, eval (.Subscript (.Name x p4) (.Constant (.int j) j2 p5) p6) env)] := by intro _; rfl) :
    KeyB K x (.Tuple [.Subscript (.Name x p1) (.Constant (.int i) j1 p2) p3, .Subscript (.Name x p4) (.Constant (.int j) j2 p5) p6] l pos)
      (fun H v k => ∃ t ys y z k1 k2, v = .ref t ∧ SqT K H t ys ∧ ys[i]? = some y ∧ ys[j]? = some z ∧ Dp K H y k1 ∧ Dp K H z k2 ∧ k = .tuple [k1, k2]) := by
  refine ⟨fun H H' v k n ⟨t, ys, y, z, k1, k2, e1, e2, e3, e4, e5, e6, e7⟩ => ⟨t, ys, y, z, k1, k2, e1, SqT.ne n e2, e3, e4, Dp.ne n e5, Dp.ne n e6, e7⟩, fun h u k => ∃ a its w1 w2 k1 k2, u = .ref a ∧ IsTup h a its ∧ its[i]? = some w1 ∧ its[j]? = some w2 ∧ Reads h w1 k1 [] ∧ Reads h w2 k2 [] ∧ k = .tuple [k1, k2], ?_, ?_, ?_⟩
  · rintro X pins σ H s v u k rfl I ⟨t, ys, y, z, k1, k2, rfl, hs, hy, hz, hk1, hk2, rfl⟩ nk r
    cases r
    obtain ⟨its, rv, ht, _⟩ := I.tuple hs
    obtain ⟨w1, e1, e2⟩ := rv.get hy
    obtain ⟨w2, e3, e4⟩ := rv.get hz
    have nk1 : noL k1 = true ∧ noL k2 = true := by
      simp only [noL, noLAll, Bool.and_true, Bool.and_eq_true] at nk
      exact nk
    obtain ⟨as, rd1⟩ := Dp.reads I k1 y w1 hk1 e2
    obtain ⟨bs, rd2⟩ := Dp.reads I k2 z w2 hk2 e4
    have z1 := reads_noL rd1 nk1.1
    have z2 := reads_noL rd2 nk1.2
    subst z1 z2
    exact ⟨t, its.toArray, w1, w2, k1, k2, rfl, ht, by simpa using e1, by simpa using e3, rd1, rd2, rfl⟩
  · rintro h h' u k ⟨a, its, w1, w2, k1, k2, rfl, ⟨o, h1, h2⟩, h3, h4, h5, h6, rfl⟩ kp
    exact ⟨a, its, w1, w2, k1, k2, rfl, ⟨o, kp _ _ h1, h2⟩, h3, h4, PyProof.Rows.Reads.keeps kp h5, PyProof.Rows.Reads.keeps kp h6, rfl⟩
  · rintro prog w A E env s m u k h1 h2 h3 h4 ⟨a, its, w1, w2, k1, k2, rfl, h5, h6, h7, h8, h9, rfl⟩
    refine wpAny_Tuple_spliced ?_
    rw [hst]
    refine Calls.spliced_cons (eval_ix h1 h2 h3 h4 h5 h6 hi hd ?_)
    refine Calls.spliced_cons (eval_ix (s := { s with toks := s.toks + 1 }) h1 h2 h3 h4 h5 h7 hj hd ?_)
    refine Calls.spliced_nil ⟨(show 2 ≤ sizeLine by decide), ?_⟩
    refine ⟨_, s.toks + 1 + 1, rfl, fun _ _ e => Heap.get?_push_of_some _ e, ?_⟩
    have kp : ∀ b o, s.heap.get? b = some o → (s.heap.push { cls := .type "tuple", data := .seq [w1, w2].toArray }).get? b = some o := fun _ _ e => Heap.get?_push_of_some _ e
    exact .tuple (as := []) (Heap.get?_push_size _ rfl) rfl rfl (.cons (as := []) (bs := []) (PyProof.Rows.Reads.keeps kp h8) (.cons (as := []) (bs := []) (PyProof.Rows.Reads.keeps kp h9) .nil))
/-- items with their keys -/
inductive Keyd (T : V → PyData → Prop) : List V → List PyData → Prop
  | nil : Keyd T [] []
  | cons {v : V} {vs : List V} {k : PyData} {ks : List PyData} : T v k → Keyd T vs ks → Keyd T (v :: vs) (k :: ks)
theorem Keyd.len {T : V → PyData → Prop} : ∀ {vs : List V} {ks : List PyData}, Keyd T vs ks → vs.length = ks.length
  | _, _, .nil => rfl
  | _, _, .cons _ b => congrArg (· + 1) (Keyd.len b)
theorem Keyd.imp {T T' : V → PyData → Prop} (f : ∀ v k, T v k → T' v k) : ∀ {vs : List V} {ks : List PyData}, Keyd T vs ks → Keyd T' vs ks
  | _, _, .nil => .nil
  | _, _, .cons a b => .cons (f _ _ a) (Keyd.imp f b)
theorem Keyd.snd {T : V → PyData → Prop} : ∀ {vs : List V} {ks : List PyData}, Keyd T vs ks → (vs.zip ks).map Prod.snd = ks
  | _, _, .nil => rfl
  | _, _, .cons _ b => by rw [List.zip_cons_cons, List.map_cons, Keyd.snd b]
theorem Keyd.each {T : V → PyData → Prop} {R : Value → V × PyData → Prop} : ∀ {vs : List V} {ks : List PyData} {us : List Value}, (∀ v k u, k ∈ ks → T v k → RelV v u → R u (v, k)) → Keyd T vs ks → Vals vs us → PySem.W.EachIs R us (vs.zip ks)
  | _, _, _, _, .nil, .nil => .nil
  | _, _, _, f, .cons a b, .cons r t => .cons (f _ _ _ List.mem_cons_self a r) (Keyd.each (fun v k u hk => f v k u (List.mem_cons_of_mem _ hk)) b t)
theorem vals_of_each {R : Value → V × PyData → Prop} (f : ∀ u b, R u b → RelV b.1 u) : ∀ {us : List Value} {bs : List (V × PyData)}, PySem.W.EachIs R us bs → Vals (bs.map Prod.fst) us
  | _, _, .nil => .nil
  | _, _, .cons a b => .cons (f _ _ a) (vals_of_each f b)
def rSortK (K : PySem.W.Frag) (P : Addr) (q : Str) (T : Hp → V → PyData → Prop) : List V → Hp → VK → Prop := fun vs H1 Q => ∃ (a : Addr) (xs : List V) (ks : List PyData), vs = [.ref a] ∧ SqL K H1 a xs ∧ TabL H1 P q ∧ Keyd (T H1) xs ks ∧
  PySem.W.AllAlike ks ∧ PySem.W.Sortable ks ∧ (∀ k ∈ ks, noL k = true ∧ k.depth ≤ 50) ∧ ∀ (p : Addr) (H2 : Hp), But P H1 H2 → TabL H2 P q → H1 p = none → H2 p = some (.lst (sortD xs ks)) → Q (.ref p) H2
def tSortK (K : PySem.W.Frag) (P : Addr) (q : Str) (T : Hp → V → PyData → Prop) (t : TA) : TE := fun σ H Q => t σ H fun vs H1 => rSortK K P q T vs H1 Q
theorem pe_sortK {X : Cx} {k : Nat} {x : Str} {c P : Addr} {e : Expr} {t : TA} {params : Arguments} {body : Expr} {scope : Scope} {lpos p kp pos : Pos} {T : Hp → V → PyData → Prop} {qn : Str}
    (hr : Room k X.A) (hg : Gl X "sorted") (hm : X.mg "sorted" = none) (TB : GxR.TabB X.base X.mg c P) (hcode : X.env.code = .ref c) (ha : PA X [e] t) (B : KeyB X.K x body T) (hq : X.env.qual ++ "<lambda>" = qn)
    (hco : scope.isCoroutine = false) (hgen : scope.isGenerator = false) (hkind : scope.kind = .function) (hnc : ∀ y ∈ scope.names, y.2 ≠ .cell ∧ y.2 ≠ .free) (hx : scope.names.lookup x = some .local)
    (hbind : ∀ (q : Str) (cl : List (Str × Addr)) (pm cdv ct v : Value), bindArgs (PySem.W.kla_fn "<lambda>" q params body scope cl pm cdv ct) ⟨[v], []⟩ = pure [(x, v)])
    (hdef : defaultsOf params X.env = ([], []) := by rfl)
    (he1 : backTo pos (starEach [e] X.env) = (false, eval e X.env) :: backTo pos (starEach [] X.env) := by rfl) (hpl : (backTo pos (starEach [e] X.env)).any (·.1) = false := by rfl)
    (hall : (backToKw pos (keywordEach [⟨some "key", .Lambda params body scope lpos, kp⟩] X.env)).all (·.1.isSome) = true := by rfl) (hnone : (backToKw pos (keywordEach [⟨some "key", .Lambda params body scope lpos, kp⟩] X.env)).any (·.1.isNone) = false := by rfl)
    (hks : (backToKw pos (keywordEach [⟨some "key", .Lambda params body scope lpos, kp⟩] X.env)).filterMap (·.1) = [("key" : Str)] := by rfl) :
    PE X (.Call (.Name "sorted" p) [e] [⟨some "key", .Lambda params body scope lpos, kp⟩] pos) (tSortK X.K P qn T t) := by
  subst hq
  refine ⟨fun pins s σ H Q I h => ?_⟩
  refine wpAny_Call_Name_kw (ld_blt I hg hm (by decide +kernel : bootBuiltins "sorted" = some (.builtin "sorted")) ?_)
  refine PyProof.Rows.callWith_kw ?_ he1 hpl hall hnone
  refine thn (ha.run pos pins s σ H _ I h) fun us s1 ⟨vs, H1, I1, r1, q1⟩ => ?_
  obtain ⟨a, xs, ks, ev, hs, hT, hk, hal, hso, hnl, q⟩ := id q1
  subst ev
  rw [Vals.ref1 r1, hks]
  show wpAny _ _ (evalAll [do let v ← eval (.Lambda params body scope lpos) X.env; standAt pos; pure v]) _ _ s1
  refine wpAny_evalAll_cons (wpAny_bind (lam_makeC I1 TB hcode hT hdef (fun y hy z => absurd z (hnc y hy).2) fun f c' pm ctv H2 s2 I2 b2 _ hT2 hf hcr => wpAny_bind (wpAny_standAt (wpAny_pure (wpAny_evalAll_nil ?_)))))
  show wpAny _ _ (call (.builtin "sorted") [.ref a] [("key", .ref f)]) _ _ s2
  obtain ⟨φ, hPx⟩ := hT.at
  have ne := NeX.of_but hPx b2
  obtain ⟨its, rv, hl, hz⟩ := I2.list (SqL.ne ne hs)
  have hk2 := hk.imp fun v k h => B.st _ _ v k ne h
  obtain ⟨KV, k1, k2, k3⟩ := B.ex
  have un := hr.un
  have hlen := hk.len
  have each : PySem.W.EachIs (fun (u : Value) (b : V × PyData) => RelV b.1 u ∧ KV s2.heap u b.2) its (xs.zip ks) := hk2.each (fun v k u hm h r => ⟨r, k1 X pins σ H2 s2 v u k rfl I2 h (hnl k hm).1 r⟩) rv
  have zl : (xs.zip ks).length = xs.length := by rw [List.length_zip, hlen, Nat.min_self]
  refine PySem.W.sorted_key_data (b := false) (R := fun (u : Value) (b : V × PyData) => RelV b.1 u ∧ KV s2.heap u b.2) (bs := xs.zip ks) Prod.snd hl.isList each (by rw [hk.snd]; exact hal) (by rw [hk.snd]; exact hso) (by rw [zl]; exact hz) (fun b hb => ?_) (PyProof.Rows.ksk_s1 _ _) (fun _ => PyProof.Rows.ksk_l1 _ _) (fun _ => PyProof.Rows.ksk_t1 _ _) (fun v b hR hb h tk kp => ?_) fun out c3 h' tk kp hn hD _ eo => ?_
  · have z := (hnl b.2 (by rw [← hk.snd]; exact List.mem_map.mpr ⟨b, hb, rfl⟩)).2
    omega
  · obtain ⟨c2, oc, vs2, t2, e2, g1, g2, g3⟩ := hcr
    cases e2
    refine wpAny_call (codeAny_mono (R := fun r s' => match r with | .ok (.ret u) => PySem.W.KeyPure b.2 { s2 with heap := h, toks := tk } u s' | _ => False) (PySem.W.kla_callFunE (s := { s2 with heap := h, toks := tk }) hr.depth (kp _ _ hf) rfl hco hgen rfl ⟨c', oc, vs2, t2, rfl, kp _ _ g1, g2, g3⟩ ?_) fun r s' hq => ?_)
    · rw [hbind]
      refine wpAny_pure (wpAny_newFunctionEnv (fun y hy => (hnc y hy).1) (fun y hy => ?_) (fun h₁ hns hsb => ⟨((I2.nolimit).keeps kp).fresh _ hsb, ?_⟩) hkind)
      · rw [List.mem_singleton.mp hy]
        exact hx
      have kp2 : ∀ b o, h.get? b = some o → h₁.get? b = some o := fun b o e => hsb.extBut b o (Nat.ne_of_lt (Heap.lt_size e)) (Heap.get?_push_of_some _ e)
      refine PySem.W.kla_codeExpr (wpAny_mono (k3 X.prog X.w _ _ _ { s2 with heap := h₁, toks := tk + 1 } (fun y => ([(x, v)] : List (Str × Value)).reverse.lookup y) v b.2 hkind hx hns (by simp [List.lookup]) (k2 _ _ _ _ hR.2 fun b o e => kp2 b o (kp b o e))) (fun u s' hu => ?_) fun _ _ z => z)
      obtain ⟨h2, tk2, rfl, e1, e2⟩ := hu
      exact ⟨h2, tk2, rfl, fun b o e => e1 b o (kp2 b o e), e2⟩
    · cases r with
      | error e => exact hq.elim
      | ok fl =>
        cases fl with
        | ret u => exact hq
        | next => exact hq.elim
        | brk => exact hq.elim
        | cont => exact hq.elim
  · have rv2 : Vals (sortD xs ks) out := vals_of_each (fun u b hR => hR.1) eo
    have sl : (sortD xs ks).length ≤ sizeLine := by
      unfold sortD
      rw [List.length_map, List.length_mergeSort, zl]
      exact hz
    have fr : H2 (s2.heap.objs.size + 1) = none := I2.hok.fresh (Nat.le_succ _)
    have J := I2.laid (t' := tk) (o := .lst (sortD xs ks)) kp (Nat.le_succ _) ⟨sl, out, c3, rv2, hD⟩
    obtain ⟨φ2, hP2⟩ := hT2.at
    refine ⟨.ref _, _, J, rfl, q _ _ (b2.trans (But.new fr)) (hT2.same (same_new fr _)) ?_ upd_same⟩
    cases e1 : H1 (s2.heap.objs.size + 1) with
    | none => rfl
    | some o =>
      have z := b2 _ _ (fun z => by rw [z, hP2] at fr; cases fr) e1
      rw [fr] at z
      cases z
/-! ### a law's end where defs have tables of code objects: generator expressions (TabO), lambdas (TabC) -/
/-- what stands of a table at the start; L tells the tables of lambdas -/
def hoT (L : Addr → Bool) (t : Addr) : HO := if L t = true then TabC t [] else TabO t
def endT (L : Addr → Bool) (H : Hp) (t : Addr) : Prop := if L t = true then ∃ C, H t = some (TabC t C) else H t = some (TabO t)
theorem hoT_obj {Pr : Program} {w : World} {H : Hp} {h : Heap} {L : Addr → Bool} {t : Addr} (e : h.get? t = some { cls := .none, data := .fields #[] }) : ObjOk Pr w H h t (hoT L t) := by
  unfold hoT
  split
  · exact tabC_obj ⟨#[], e, trivial, fun pos cv z => by
      have z : codeAmong pos [] = some cv := z
      unfold codeAmong at z
      cases z⟩
  · exact tab_obj ⟨#[], e, trivial⟩
theorem endT_obj {Pr : Program} {w : World} {H : Hp} {h : Heap} {L : Addr → Bool} {t : Addr} (ok : HOk Pr w H h) (e : endT L H t) : ∃ more : Array Value, h.get? t = some { cls := .none, data := .fields more } := by
  unfold endT at e
  split at e
  · obtain ⟨C, e⟩ := e
    obtain ⟨⟨ps, h1, _⟩, _⟩ := (show ObjOk Pr w H h t (TabC t C) from ok t _ e)
    exact ⟨ps, h1⟩
  · obtain ⟨⟨ps, h1, _⟩, _⟩ := (show ObjOk Pr w H h t (TabO t) from ok t _ e)
    exact ⟨ps, h1⟩
section
variable {P : Program} {w : World} {K : PySem.W.Frag} {mg mb : Str → Option Value} {k : Nat} {fa a : Addr} {fd : FuncData} {x : Str} {sp : Sp} {s1 : Shared} {vs : List Value} {ns : List Int} {cs : List (Addr × Addr)} {L : Addr → Bool}
/-- what is tracked at a law's start: the script, if it is no thing of the text, and the tables -/
structure OnlyL (K : PySem.W.Frag) (L : Addr → Bool) (a : Addr) (ts : List Addr) (H : Hp) : Prop where
  tab : ∀ t ∈ ts, H t = some (hoT L t)
  no : ∀ b, b ≠ a → b ∉ ts → H b = none
  own : H a = none ∨ (K.lookup a = none ∧ ∃ o xs, H a = some (.frz o (.lst xs)))
theorem told_fromL (H : Hp) (kin : K.In s1.heap) (glob : s1.heap.Ns mainGlobals mg) (blt : s1.heap.Ns builtinsNs mb) (same : ∀ y : Str, y ≠ "__name__" → mb y = bootBuiltins y) (lim : s1.heap.NoLimit) (bare : s1.gens = #[])
    (hT : ∀ p ∈ cs, s1.heap.get? p.2 = some emptyT) (nT : ∀ p ∈ cs, K.lookup p.2 = none) (C : ∀ p ∈ cs, PySem.W.CodeHd s1.heap p.1 p.2)
    (hbm : ∃ (bm : Addr) (ob : Obj), mg "__builtins__" = some (.ref bm) ∧ bm ≠ builtinsNs ∧ s1.heap.get? bm = some ob ∧ ob.cls = .type "module" ∧ ob.dict = some builtinsNs ∧ ob.data = .plain)
    (obj : s1.heap.get? a = some { cls := .type "list", data := .seq vs.toArray }) (room : Room k callerA)
    (F : ∀ base : Heap, K.In base → base.Ns mainGlobals mg → (∀ p ∈ cs, GxR.TabB base mg p.1 p.2) → FnG P w K mg base k fa fd [x] sp) (bind : ∀ (s : Shared) (u : Value), BindsTo s fd ⟨[u], []⟩ [(x, u)])
    (only : OnlyL K L a (cs.map (·.2)) H) (wish : sp [.ref a] H (fun v H' => v = .bl true ∧ ∀ p ∈ cs, endT L H' p.2) fun _ _ _ => False) (hok : HOk P w H s1.heap) :
    codeAny (model P w) callerA (.call (.ref fa) ⟨[.ref a], []⟩) (Told s1) s1 := by
  have isT : ∀ b : Addr, b ∈ cs.map (·.2) → s1.heap.get? b = some emptyT := fun b hb => by
    obtain ⟨p, hp, e⟩ := List.mem_map.mp hb
    rw [← e]
    exact hT p hp
  have aT : a ∉ cs.map (·.2) := fun z => by
    have q := isT a z
    rw [obj] at q
    have z' : Data.seq vs.toArray _ = Data.fields #[] := congrArg Obj.data (Option.some.inj q)
    cases z'
  have free : ∀ {b : Addr} {o : Obj}, s1.heap.get? b = some o → (∀ vs n, o.data ≠ .seq vs n) → o.data ≠ .fields #[] → H b = none := fun {b o} e h1 h2 => by
    refine only.no b (fun z => ?_) fun z => ?_
    · rw [z, obj] at e
      cases e
      exact h1 _ _ rfl
    · rw [isT b z] at e
      cases e
      exact h2 rfl
  have nsB : ∀ {b : Addr} {m : Str → Option Value}, s1.heap.Ns b m → (hidT s1.heap H).Ns b m := by
    rintro b m ⟨o, es, ep, e, d, r⟩
    refine ⟨o, es, ep, hidT_get e (free e (fun vs n z => ?_) fun z => ?_), d, r⟩
    · rw [d] at z
      cases z
    · rw [d] at z
      cases z
  have kinB : K.In (hidT s1.heap H) := fun b o e => by
    refine hidT_get (kin b o e) ?_
    by_cases z : b = a
    · subst z
      rcases only.own with h | ⟨h, _⟩
      · exact h
      · rw [h] at e
        cases e
    · refine only.no b z fun y => ?_
      obtain ⟨p, hp, ep⟩ := List.mem_map.mp y
      rw [← ep, nT p hp] at e
      cases e
  have limB : (hidT s1.heap H).NoLimit := by
    obtain ⟨mc, h1, h2⟩ := lim
    exact ⟨mc, nsB h1, h2⟩
  have TB : ∀ p ∈ cs, GxR.TabB (hidT s1.heap H) mg p.1 p.2 := fun p hp => by
    have hTp := hT p hp
    refine ⟨?_, ?_, fun z => ?_⟩
    · obtain ⟨o, us, file, tf, flags, tg, inF, text, tt, e1, r1, r2, r3, r4, r5, r6, r7, r8, hne⟩ := C p hp
      refine ⟨o, us, file, tf, flags, tg, inF, text, tt, hidT_get e1 (free e1 (fun vs n z => ?_) fun z => ?_), r1, r2, r3, r4, r5, r6, r7, r8, hne⟩
      · rw [r2] at z
        cases z
      · rw [r2] at z
        cases z
        simp at r3
    · obtain ⟨bm, ob, b1, b2, b3, b4, b5, b6⟩ := hbm
      have nG : bm ≠ mainGlobals := fun q => by
        obtain ⟨o, es, ep, e, hd, _⟩ := glob
        rw [q, e] at b3
        cases b3
        rw [hd] at b6
        cases b6
      have nP : bm ≠ p.2 := fun q => by
        rw [q, hTp] at b3
        cases b3
        cases b6
      refine ⟨bm, ob, b1, b2, nG, nP, hidT_get b3 (free b3 (fun vs n z => ?_) fun z => ?_), b4, b5, b6⟩
      · rw [b6] at z
        cases z
      · rw [b6] at z
        cases z
    · obtain ⟨o, es, ep, e, hd, _⟩ := glob
      rw [z, hTp] at e
      cases e
      cases hd
  have env : Env0 P w K mg (hidT s1.heap H) callerA [] s1 H :=
    { frames := rfl, mod := ⟨kinB, nsB glob, ⟨mb, nsB blt, same⟩, limB⟩, bs := fun _ _ e => of_hidT e, bsz := Nat.le_of_eq (hidT_size _ _), funs := trivial,
      frf := fun b z => (List.not_mem_nil (show b ∈ ([] : List Addr) from z)).elim, hok := hok, bare := .of_eq bare }
  refine codeAny_mono ((F _ kinB (nsB glob) TB).run callerA [] s1 H ⟨[.ref a], []⟩ [.ref a] [.ref a] _ _ room rfl env (bind s1 _) (.cons rfl .nil) wish) ?_
  rintro (e | fl) s2 h
  · exact (show False from h).elim
  · cases fl with
    | ret u =>
      obtain ⟨v, H2, os2, bare2, un, hok2, rel, q, qt⟩ := h
      have q : v = V.bl true := q
      subst q
      obtain rfl : u = Value.bool true := rel
      have key : ∀ b o, b ∉ cs.map (·.2) → s1.heap.get? b = some o → s2.heap.get? b = some o := fun b o nb e => by
        cases z : H b with
        | none => exact un.keep b o e z (fun y => List.not_mem_nil (show b ∈ ([] : List Addr) from y)) List.not_mem_nil
        | some u =>
          have eb : b = a := Classical.byContradiction fun n => by
            rw [only.no b n nb] at z
            cases z
          subst eb
          rcases only.own with y | ⟨_, ob, xs, y⟩
          · rw [z] at y
            cases y
          · obtain ⟨g1, _⟩ := hok b _ y
            obtain ⟨g2, _⟩ := hok2 b _ (un.frzs b ob _ y)
            rw [e] at g1
            cases g1
            exact g2
      have grown : ∀ p ∈ cs, ∃ more : Array Value, s2.heap.get? p.2 = some { cls := .none, data := .fields more } := fun p hp => by
        exact endT_obj hok2 (qt p hp)
      refine ⟨rfl, ⟨fun b o e => ?_, fun b o e => ?_⟩, os2, bare2⟩
      · by_cases hb : b ∈ cs.map (·.2)
        · obtain ⟨p, hp, ep⟩ := List.mem_map.mp hb
          obtain ⟨more, hm⟩ := grown p hp
          rw [← ep] at e ⊢
          rw [hT p hp] at e
          cases e
          exact .inr (.inl ⟨((C p hp).tab (hT p hp)).isCodeTable, rfl, #[], more, rfl, by rw [Array.empty_append]; exact hm⟩)
        · exact .inl (key b o hb e)
      · by_cases hb : b ∈ cs.map (·.2)
        · obtain ⟨p, hp, ep⟩ := List.mem_map.mp hb
          obtain ⟨more, hm⟩ := grown p hp
          rw [← ep]
          exact ⟨_, hm⟩
        · exact ⟨o, key b o hb e⟩
    | next => exact h.elim
    | brk => exact h.elim
    | cont => exact h.elim
theorem told_lawL (kin : K.In s1.heap) (glob : s1.heap.Ns mainGlobals mg) (blt : s1.heap.Ns builtinsNs mb) (same : ∀ y : Str, y ≠ "__name__" → mb y = bootBuiltins y) (lim : s1.heap.NoLimit) (bare : s1.gens = #[])
    (hT : ∀ p ∈ cs, s1.heap.get? p.2 = some emptyT) (nT : ∀ p ∈ cs, K.lookup p.2 = none) (C : ∀ p ∈ cs, PySem.W.CodeHd s1.heap p.1 p.2)
    (hbm : ∃ (bm : Addr) (ob : Obj), mg "__builtins__" = some (.ref bm) ∧ bm ≠ builtinsNs ∧ s1.heap.get? bm = some ob ∧ ob.cls = .type "module" ∧ ob.dict = some builtinsNs ∧ ob.data = .plain)
    (obj : s1.heap.get? a = some { cls := .type "list", data := .seq vs.toArray }) (are : IntsAre vs ns) (long : ns.length ≤ sizeLine) (room : Room k callerA)
    (F : ∀ base : Heap, K.In base → base.Ns mainGlobals mg → (∀ p ∈ cs, GxR.TabB base mg p.1 p.2) → FnG P w K mg base k fa fd [x] sp) (bind : ∀ (s : Shared) (u : Value), BindsTo s fd ⟨[u], []⟩ [(x, u)])
    (wish : ∀ H : Hp, SqL K H a (ns.map V.int) → (∀ p ∈ cs, H p.2 = some (hoT L p.2)) → sp [.ref a] H (fun v H' => v = .bl true ∧ ∀ p ∈ cs, endT L H' p.2) fun _ _ _ => False) :
    codeAny (model P w) callerA (.call (.ref fa) ⟨[.ref a], []⟩) (Told s1) s1 := by
  have rv := vals_ints are
  have nl := are.length
  have isT : ∀ b : Addr, b ∈ cs.map (·.2) → s1.heap.get? b = some emptyT := fun b hb => by
    obtain ⟨p, hp, e⟩ := List.mem_map.mp hb
    rw [← e]
    exact hT p hp
  have aT : a ∉ cs.map (·.2) := fun z => by
    have q := isT a z
    rw [obj] at q
    have z' : Data.seq vs.toArray _ = Data.fields #[] := congrArg Obj.data (Option.some.inj q)
    cases z'
  have memT : ∀ p ∈ cs, p.2 ∈ cs.map (·.2) := fun p hp => List.mem_map.mpr ⟨p, hp, rfl⟩
  have tobj : ∀ {H : Hp} (b : Addr), b ∈ cs.map (·.2) → ObjOk P w H s1.heap b (hoT L b) := fun b hb => hoT_obj (isT b hb)
  cases hk : K.lookup a with
  | some o =>
    have e := kin a o hk
    rw [obj] at e
    cases e
    have tt : ∀ b ∈ cs.map (·.2), (fun b => if b ∈ cs.map (·.2) then some (hoT L b) else none) b = some (hoT L b) := fun b hb => if_pos hb
    have sq : SqL K (fun b => if b ∈ cs.map (·.2) then some (hoT L b) else none) a (ns.map V.int) := Or.inr ⟨_, vs.toArray, _, hk, rfl, rfl, rfl, by rw [List.size_toArray, nl]; exact long, by simpa using rv⟩
    refine told_fromL _ kin glob blt same lim bare hT nT C hbm obj room F bind ⟨tt, fun b _ nb => if_neg nb, Or.inl (if_neg aT)⟩ (wish _ sq fun p hp => tt p.2 (memT p hp)) fun b u z => ?_
    by_cases hb : b ∈ cs.map (·.2)
    · have z' := (tt b hb).symm.trans z
      cases z'
      exact tobj b hb
    · have z' := (if_neg hb).symm.trans z
      cases z'
  | none =>
    let H : Hp := fun b => if b = a then some (.frz { cls := .type "list", data := .seq vs.toArray } (.lst (ns.map V.int))) else if b ∈ cs.map (·.2) then some (hoT L b) else none
    have h1 : H a = some (.frz { cls := .type "list", data := .seq vs.toArray } (.lst (ns.map V.int))) := if_pos rfl
    have h2 : ∀ b ∈ cs.map (·.2), H b = some (hoT L b) := fun b hb => (if_neg (show ¬ b = a from fun z => aT (by rw [← z]; exact hb))).trans (if_pos hb)
    have h3 : ∀ b, b ≠ a → b ∉ cs.map (·.2) → H b = none := fun b hb nb => (if_neg hb).trans (if_neg nb)
    refine told_fromL H kin glob blt same lim bare hT nT C hbm obj room F bind ⟨h2, h3, Or.inr ⟨hk, _, _, h1⟩⟩ (wish H (Or.inl (Or.inr ⟨_, h1⟩)) fun p hp => h2 p.2 (memT p hp)) fun b u z => ?_
    by_cases hb : b = a
    · rw [hb, h1] at z
      cases z
      rw [hb]
      exact ⟨obj, by rw [List.length_map]; exact long, vs, _, rv, obj⟩
    · by_cases hb2 : b ∈ cs.map (·.2)
      · rw [h2 b hb2] at z
        cases z
        exact tobj b hb2
      · rw [h3 b hb hb2] at z
        cases z
end
theorem walkGL {l : PySem.W.OpenLaw} {n k : Nat} {q : Program} {loose : List Str} {XP : (Str → Option Value) → Heap → Prop} {YP : World → Heap → Prop} {d : DefRec} {x : Str} {sp : PySem.W.Frag → (Addr → Bool) → List Addr → Sp}
    (hn : l.most = some n) (hn2 : n ≤ sizeLine) (hdf : d.params.defaults = []) (hr : Room k callerA)
    (F : ∀ (w : World) (mg : Str → Option Value) (fa : Addr) (h : Heap), YP w h → h.Ns mainGlobals mg → mg d.name = some (.ref fa) →
      ∃ (K : PySem.W.Frag) (fd : FuncData) (cs : List (Addr × Addr)) (L : Addr → Bool), K.In h ∧ (∀ p ∈ cs, h.get? p.2 = some emptyT) ∧ (∀ p ∈ cs, K.lookup p.2 = none) ∧ (∀ p ∈ cs, PySem.W.CodeHd h p.1 p.2) ∧ (∀ (s : Shared) (u : Value), BindsTo s fd ⟨[u], []⟩ [(x, u)]) ∧
        ∀ base : Heap, K.In base → base.Ns mainGlobals mg → (∀ p ∈ cs, GxR.TabB base mg p.1 p.2) → FnG l.prog w K mg base k fa fd [x] (sp K L (cs.map (·.2))))
    (hsp : ∀ (K : PySem.W.Frag) (L : Addr → Bool) (ts : List Addr) (H : Hp) (a : Addr) (ns : List Int), ns.length ≤ n → SqL K H a (ns.map V.int) → (∀ t ∈ ts, H t = some (hoT L t)) → sp K L ts [.ref a] H (fun v H' => v = .bl true ∧ ∀ t ∈ ts, endT L H' t) fun _ _ _ => False) :
    PySem.W.WalkO q loose XP YP l.row.toRowW d [] (fun f vs => PySem.call f vs) := by
  refine Att.attach_call hn hdf fun w s0 s1 mg mb fa o pm cd doc a vs ns G Y ho hd hcd hmg hobj hints hlen hg => ?_
  obtain ⟨K, fd, cs, L, kin, hT, nT, C, hb, hF⟩ := F w mg fa _ Y G.T.g hmg
  refine told_lawL (L := L) kin G.T.g G.T.b G.T.builtins G.T.nolimit hg hT nT C G.T.bmain hobj hints (Nat.le_trans hlen hn2) hr hF hb fun H sq tt => ?_
  have w1 := hsp K L (cs.map (·.2)) H a ns hlen sq fun t ht => by
    obtain ⟨p, hp, rfl⟩ := List.mem_map.mp ht
    exact tt p hp
  have e : (fun (v : V) (H' : Hp) => v = .bl true ∧ ∀ t ∈ cs.map (·.2), endT L H' t) = fun v H' => v = .bl true ∧ ∀ p ∈ cs, endT L H' p.2 := by
    funext v H'
    apply propext
    constructor
    · intro ⟨h1, h2⟩
      exact ⟨h1, fun p hp => h2 p.2 (List.mem_map.mpr ⟨p, hp, rfl⟩)⟩
    · intro ⟨h1, h2⟩
      refine ⟨h1, fun t ht => ?_⟩
      obtain ⟨p, hp, rfl⟩ := List.mem_map.mp ht
      exact h2 p hp
  rw [e] at w1
  exact w1
/-- the law's promise, tables ts; L tells those of lambdas -/
def spLawL (K : PySem.W.Frag) (L : Addr → Bool) (ts : List Addr) : Sp := fun vs H Q _ => ∃ (a : Addr) (ns : List Int), vs = [.ref a] ∧ SqL K H a (ns.map V.int) ∧ (∀ t ∈ ts, H t = some (hoT L t)) ∧ ∀ H', (∀ t ∈ ts, endT L H' t) → Q (.bl true) H'
/-! ### dicts whose keys are tuples: a display, d.pop(t), sorted(d) -/
def putAll (acc : List (List Key × V)) (xs : List (List Key × Addr × V)) : List (List Key × V) := xs.foldl (fun a x => putK a x.1 x.2.2) acc
def tDispT (trs : List (TE × TE)) : TE := fun σ H Q => ∀ p, H p = none → tPairs trs σ (upd H p (.dT [])) fun ps H2 => H2 p = some (.dT []) ∧ ∃ xs : List (List Key × Addr × V), ps = xs.map (fun x => (.ref x.2.1, x.2.2)) ∧ (∀ x ∈ xs, H2 x.2.1 = some (.tup (x.1.map kV))) ∧ xs.length ≤ 15 ∧ Q (.ref p) (upd H2 p (.dT (putAll [] xs)))
theorem carriesT {P : Program} {w : World} {H : Hp} {h : Heap} (ok : HOk P w H h) : ∀ {xs : List (List Key × Addr × V)} {ws : List (Value × Value)}, VV (xs.map fun x => (V.ref x.2.1, x.2.2)) ws → (∀ x ∈ xs, H x.2.1 = some (.tup (x.1.map kV))) →
    ∃ ps : List (List Key × Addr × Value), CarriesH (tupleKind (mixKind P w)) h ws ps ∧ Paired (fun (x : List Key × Addr × V) (y : List Key × Addr × Value) => x.1 = y.1 ∧ x.2.1 = y.2.1 ∧ RelV x.2.2 y.2.2) xs ps
  | [], _, r, _ => by
    rw [List.map_nil] at r
    cases r
    exact ⟨[], trivial, .nil⟩
  | x :: xs, _, r, hx => by
    rw [List.map_cons] at r
    cases r with
    | @cons a b as bs e t =>
      obtain ⟨ps, c, q⟩ := carriesT ok t fun y hy => hx y (List.mem_cons_of_mem _ hy)
      obtain ⟨b1, b2⟩ := b
      obtain ⟨e1, e2⟩ := e
      have e1 : b1 = Value.ref x.2.1 := e1
      subst e1
      exact ⟨(x.1, x.2.1, b2) :: ps, ⟨rfl, rfl, key_of ok (hx x List.mem_cons_self), c⟩, .cons ⟨rfl, rfl, e2⟩ q⟩
theorem KT.all {H : Hp} : ∀ {xs : List (List Key × Addr × V)} {ps : List (List Key × Addr × Value)}, Paired (fun (x : List Key × Addr × V) (y : List Key × Addr × Value) => x.1 = y.1 ∧ x.2.1 = y.2.1 ∧ RelV x.2.2 y.2.2) xs ps → (∀ x ∈ xs, H x.2.1 = some (.tup (x.1.map kV))) →
    ∀ {kvs : List (List Key × V)} {ys : List (List Key × Addr × Value)}, KT H kvs ys → KT H (putAll kvs xs) (storedAllH ys ps)
  | _, _, .nil, _, _, _, r => r
  | _, _, .cons e t, hx, _, _, r => by
    obtain ⟨e1, e2, e3⟩ := e
    have hb := hx _ List.mem_cons_self
    rw [e1, e2] at hb
    have z := KT.all t (fun z hz => hx z (List.mem_cons_of_mem _ hz)) (r.put _ hb e3)
    rw [← e1] at z
    simpa [putAll, storedAllH, e1] using z
theorem putAll_len : ∀ (xs : List (List Key × Addr × V)) (kvs : List (List Key × V)), (putAll kvs xs).length ≤ kvs.length + xs.length
  | [], _ => Nat.le_refl _
  | x :: xs, kvs => by
    have h1 := putAll_len xs (putK kvs x.1 x.2.2)
    have h2 := length_putK kvs x.1 x.2.2
    show (putAll (putK kvs x.1 x.2.2) xs).length ≤ _
    rw [List.length_cons]
    omega
theorem pe_dispT {X : Cx} {pos : Pos} {keys : List (Option Expr)} {values : List Expr} {trs : List (TE × TE)} (room : X.A.units < cLine) (h : PPs X pos keys values trs) (hall : keys.all (·.isSome) = true) (hl : keys.length = values.length) (h0 : keys ≠ [])
    (h15 : keys.length ≤ 15) : PE X (.Dict keys values pos) (tDispT trs) := by
  refine ⟨fun pins s σ H Q I q => ?_⟩
  have hn := I.hok.fresh (Nat.le_refl s.heap.objs.size)
  have I1 := I.laid (a := s.heap.objs.size) (o := .dT []) (h' := s.heap.push { cls := .type "dict", data := .dict #[] }) (t' := s.toks) (fun _ _ q => Heap.get?_push_of_some _ q) (Nat.le_refl _) (dt_empty s.heap I.big)
  have hpl := pairTrees_length keys values X.env pos hall hl
  have hp0 : pairTrees keys values X.env pos ≠ [] := fun he => by
    rw [he] at hpl
    exact h0 (List.length_eq_zero_iff.mp hpl.symm)
  rw [arm_eval_Dict, zip_pairTrees keys values X.env pos hall hl, dictDisplay_pairs (pairTrees keys values X.env pos) hp0 (by rw [hpl]; omega)]
  refine wpAny_bind (wpAny_standAt (wpAny_bind (wpAny_subDictH (knd := tupleKind (mixKind X.prog X.w)) (show (tupleKind _).room X.A from room) (by rw [hpl]; exact h15) (thn (h.run pins _ σ _ _ I1 (q _ hn)) fun ws s2 ⟨ps, H2, I2, rel, e, xs, ep, hx, lk, q2⟩ => ?_))))
  subst ep
  obtain ⟨qs, c, pq⟩ := carriesT I2.hok rel hx
  obtain ⟨z, hd, ys, r0, dd⟩ := dt_of I2.hok e
  cases r0
  refine ⟨qs, c, dd, fun h' tk now but => wpAny_pure ⟨.ref s.heap.objs.size, _, ?_, rfl, q2⟩⟩
  obtain ⟨ob, es, ep, e1, e2, e3, e4, _, e5⟩ := now
  have hz : (putAll [] xs).length ≤ sizeLine := by
    have h1 := putAll_len xs []
    rw [List.length_nil] at h1
    rw [sizeLine_eq]
    omega
  refine d_write I2 (e ▸ True.intro) but ⟨ob, e1⟩ ⟨hz, hd, _, (KT.all pq hx .nil).keeps fun c ys at_c => ?_, ob, es, ep, e1, e2, e3, e4, e5⟩
  exact (upd_ne (ne_of at_c e (fun z => nomatch z))).trans at_c
/-- d.pop(t), t a key of it -/
def rPopT1 : V → List V → Hp → VK → Prop := fun x xs H Q => ∃ (a : Addr) (kvs : List (List Key × V)) (k : List Key) (b : Addr) (v : V), x = .ref a ∧ xs = [.ref b] ∧ H a = some (.dT kvs) ∧ H b = some (.tup (k.map kV)) ∧ valV kvs k = some v ∧ Q v (upd H a (.dT (dropK kvs k)))
section
variable {prog : Program} {w : World} {K : Type} [DecidableEq K] {knd : HeapKind prog w K}
theorem meetsPop1 {d b : Addr} {k : K} :
    MeetsIn prog w (Builtin.«dict.pop» ⟨[.ref d, .ref b], []⟩) (fun A R s => ∃ xs, knd.room A.in1 ∧ knd.is s.heap k b ∧ s.heap.DictOfH knd d xs ∧ xs.length ≤ sizeLine ∧ (atKey xs k).isSome = true ∧
      ∀ p, atKey xs k = some p → ∀ h' tk, h'.DictOfH knd d (DT.dropH xs k) → Heap.SameBut d s.heap h' → R (.ok (.ret p.2)) { s with heap := h', toks := tk }) :=
  .of_wp fun A R s ⟨xs, hu, hkey, hm, hsz, hso, hsome⟩ => by
    obtain ⟨o, es, ep, ho, hc, hdat, he, his, hn⟩ := id hm
    have hes : es.size = xs.length := size_of_entries he
    have hpart : (keyPart (Value.ref b)).isSome = false := rfl
    unfold Builtin.«dict.pop»
    refine wpAny_bind ?_
    unfold Builtin.Dict.keyAndDefault
    refine wpAny_bind (wpAny_notOrdered_dict hm.typeIs ?_)
    show wpAny _ _ (pure (d, Value.ref b, none)) _ _ s
    refine wpAny_pure ?_
    simp only [hpart, Bool.false_eq_true, if_false]
    refine wpAny_bind (wpAny_dictEntries ho hdat (wpAny_bind (wpAny_pure ?_)))
    cases hem : es.isEmpty with
    | true =>
      have h0 : xs = [] := by
        have z : es.size = 0 := by simpa using hem
        exact List.length_eq_zero_iff.mp (by omega)
      rw [h0] at hso
      cases hso
    | false =>
      simp only [Bool.false_eq_true, if_false]
      refine wpAny_bind (DT.takeH hu hkey hm hsz (fun hno => ?_) fun p e hp hev h' hm' hs' => ?_)
      · rw [hno] at hso
        cases hso
      · simp only [Option.isNone_some, Bool.false_eq_true, if_false]
        exact wpAny_bind (wpAny_letGo (wpAny_pure ⟨e.val, rfl, by rw [hev]; exact hsome p hp h' _ hm' hs'⟩))
end
theorem mt_popT1 {X : Cx} (hu : X.A.units + 1 < cLine) : MtR X "dict.pop" rPopT1 := by
  intro pins s σ H x xs v us Q I rx rxs h
  obtain ⟨a, kvs, k, b, v1, rfl, rfl, ha, hb, hv, q1⟩ := h
  cases rx
  rw [Vals.ref1 rxs]
  obtain ⟨z, hd, xs', rel, dd⟩ := dt_of I.hok ha
  have hz : xs'.length ≤ sizeLine := by rw [← Paired.length rel]; exact z
  have r := rel.val k
  refine call_meetsIn PySem.F.slot_dict_pop dd.typeIs PySem.F.entry_dict_pop (PySem.F.args_dict_pop_2 _ _) (meetsPop1 (knd := tupleKind (mixKind X.prog X.w)) (k := k))
    ⟨xs', tupleKind_room_in1 hu, key_of I.hok hb, dd, hz, ?_, fun p hp h' tk dd' hs => ?_⟩
  · rw [hv] at r
    cases e : atKey xs' k with
    | none => rw [e] at r; exact (show False from r).elim
    | some p => rfl
  · rw [hp, hv] at r
    have rv : RelV v1 p.2 := r
    obtain ⟨o, es, ep, hq, h2, h3, h4, _, h5⟩ := dd'
    have I2 : Inv X pins σ (upd H a (.dT (dropK kvs k))) { s with heap := h', toks := tk } :=
      d_write I (by rw [ha]; exact True.intro) hs ⟨o, hq⟩ ⟨Nat.le_trans (dropK_le kvs k) z, hd, _, (L2.DX.KT_drop k rel).keeps (fun c ys ec => (by rw [upd_ne (ne_of ec ha (fun z => nomatch z))]; exact ec)), o, es, ep, hq, h2, h3, h4, h5⟩
    show EP X pins σ Q p.2 _
    exact ⟨v1, _, I2, rv, q1⟩
/-! sorted(d) -/
def kD : Key → PyData
  | .inl i => .int i
  | .inr s => .str s
def keyD (k : List Key) : PyData := .tuple (k.map kD)
theorem keyD_dp {K : PySem.W.Frag} {H : Hp} {a : Addr} {k : List Key} (h : H a = some (.tup (k.map kV))) : Dp K H (.ref a) (keyD k) := by
  refine .tup (SqT.of h) ?_
  clear h
  induction k with
  | nil => exact .nil
  | cons x k ih =>
    cases x with
    | inl i => exact .cons (.int i) ih
    | inr s => exact .cons (.str s) ih
theorem keyD_noL (k : List Key) : noL (keyD k) = true := by
  unfold keyD
  simp only [noL]
  induction k with
  | nil => rfl
  | cons x k ih =>
    cases x <;> simp [noLAll, noL, kD, ih]
theorem keyD_dep (k : List Key) : (keyD k).depth ≤ 2 := by
  have z : PyData.depthAll (k.map kD) ≤ 1 := by
    induction k with
    | nil => simp [PyData.depthAll]
    | cons x k ih => cases x <;> simp only [List.map_cons, kD, PyData.depthAll, PyData.depth] <;> omega
  unfold keyD
  simp only [PyData.depth]
  omega
/-- where the keys lie -/
inductive KeysAt (H : Hp) : List Addr → List (List Key) → Prop
  | nil : KeysAt H [] []
  | cons {a : Addr} {k : List Key} {as : List Addr} {ks : List (List Key)} : H a = some (.tup (k.map kV)) → KeysAt H as ks → KeysAt H (a :: as) (k :: ks)
theorem KeysAt.dp {K : PySem.W.Frag} {H : Hp} : ∀ {as : List Addr} {ks : List (List Key)}, KeysAt H as ks → DpAll K H (as.map V.ref) (ks.map keyD)
  | _, _, .nil => .nil
  | _, _, .cons a b => .cons (keyD_dp a) (KeysAt.dp b)
theorem KeysAt.of {H : Hp} : ∀ {kvs : List (List Key × V)} {xs : List (List Key × Addr × Value)}, KT H kvs xs → KeysAt H (xs.map fun x => x.2.1) (kvs.map (·.1))
  | _, _, .nil => .nil
  | _, _, .cons e t => .cons e.2.1 (KeysAt.of t)
theorem vals_refs2 : ∀ as : List Addr, Vals (as.map V.ref) (as.map Value.ref)
  | [] => .nil
  | _ :: as => .cons rfl (vals_refs2 as)
theorem kdl_raw {prog : Program} {w : World} {d : Addr} {es : Array DictEntry} {ep : Nat} (lo : (d == sysModules) = false) : PySem.W.KdlSrc prog w "dict" d d es.size (fun i v => ∃ hi : i < es.size, v = es[i].key) (fun h => h.DictRaw d es ep) where
  type := fun _ hm => hm.typeIs
  there := fun _ hm => by obtain ⟨o, ho, _⟩ := hm; exact ⟨Heap.lt_size ho, Heap.lt_size ho⟩
  keep := fun _ _ hm hk => hm.at fun o e => hk d (.inl rfl) o e
  notList := by decide
  notTuple := by decide
  hint := fun _ _ _ _ hm hq => PySem.W.kdl_hint_dict hm.typeIs hq
  iter := fun _ _ hh hm => ⟨_, _, (fun _ _ hq => wpAny_pyIter_dict_raw lo hm hq), Walks.rawKeys hh _ d (by obtain ⟨o, ho, _⟩ := hm; exact Nat.ne_of_lt (Heap.lt_size ho)) es ep, ⟨⟨_, Heap.get?_push_size _ rfl, rfl, rfl⟩, hm.at fun o e => Heap.get?_push_of_some _ e⟩⟩
def rSortDT : List V → Hp → VK → Prop := fun xs H Q => ∃ (a : Addr) (kvs : List (List Key × V)), xs = [.ref a] ∧ H a = some (.dT kvs) ∧ kvs.length ≤ 100000 ∧ PySem.W.AllAlike ((kvs.map (·.1)).map keyD) ∧ PySem.W.Sortable ((kvs.map (·.1)).map keyD) ∧
  ∀ (as : List Addr) (p : Addr), KeysAt H as (kvs.map (·.1)) → H p = none → Q (.ref p) (upd H p (.lst (sortD (as.map V.ref) ((kvs.map (·.1)).map keyD))))
theorem cr_sortDT {X : Cx} {k : Nat} (hr : Room k X.A) (calm : X.calm = true) : CallR X (.builtin "sorted") rSortDT := by
  intro pins s σ H xs us Q I r h
  obtain ⟨a, kvs, rfl, ha, long, alike, sable, q⟩ := h
  rw [Vals.ref1 r]
  have un := hr.un
  obtain ⟨z, lo, ys, rel, dd⟩ := dt_of I.hok ha
  obtain ⟨es, ep, raw, esz, ek⟩ := dd.raw
  have ly : ys.length = kvs.length := (Paired.length rel).symm
  have ka := KeysAt.of rel
  have line : kvs.length ≤ sizeLine := Nat.le_trans long (by decide)
  refine (Calls.call_function_entry PyProof.Rows.kind_sorted PyProof.Rows.plain_sorted PyProof.Rows.entry_sorted (PyProof.Rows.args_sorted1 _) ?_); unfold Builtin.«sorted»
  refine (wpAny_bind (m := checkCount "sorted" 1 1 _) (wpAny_pure ?_))
  refine wpAny_bind (PySem.W.kdu_collect (A := X.A.in1) (kdl_raw lo) (I.ok.hd calm) raw (by rw [esz, ly]; exact line) fun h1 tk acc keep got => ?_)
  have ea : acc.toList = (ys.map fun x => x.2.1).map Value.ref := by
    apply List.ext_getElem?
    intro j
    rw [List.getElem?_map, List.getElem?_map]
    cases e : acc.toList[j]? with
    | none =>
      have l1 : acc.toList.length ≤ j := List.getElem?_eq_none_iff.mp e
      rw [Array.length_toList, got.1, esz] at l1
      rw [List.getElem?_eq_none_iff.mpr l1]
      rfl
    | some v =>
      obtain ⟨hi, ev⟩ := got.2 j v (by rw [← Array.getElem?_toList]; exact e)
      obtain ⟨y, y1, y2, _⟩ := ek j hi
      rw [y1, ev, y2]
      rfl
  have J : Inv X pins σ H { s with heap := h1, toks := tk } := I.kept keep
  rw [ea]
  refine wpAny_bind (wpAny_newList ?_ (by rw [List.length_map, List.length_map, ly]; exact line))
  generalize hvs : (ys.map fun x => x.2.1).map Value.ref = vs
  have new : (h1.push (seqObj "list" vs.toArray 0)).get? h1.objs.size = some (seqObj "list" vs.toArray 0) := Heap.get?_push_size _ rfl
  show wpAny _ _ _ _ _ { s with toks := tk, heap := h1.push (seqObj "list" vs.toArray 0) }
  have dpa : DpAll X.K H ((ys.map fun x => x.2.1).map V.ref) ((kvs.map (·.1)).map keyD) := ka.dp
  have rv0 : Vals ((ys.map fun x => x.2.1).map V.ref) vs := by rw [← hvs]; exact vals_refs2 _
  have er := each_reads J dpa rv0
  have zs := zip_snd dpa
  have zl := zip_len dpa
  have nol : ∀ d ∈ (kvs.map (·.1)).map keyD, noL d = true ∧ d.depth ≤ 2 := fun d hd => by
    obtain ⟨k, _, rfl⟩ := List.mem_map.mp hd
    exact ⟨keyD_noL k, keyD_dep k⟩
  have er2 : PySem.W.EachIs (fun (v : Value) (b : V × PyData) => ∃ as, Reads (h1.push (seqObj "list" vs.toArray 0)) v b.2 as ∧ h1.objs.size ∉ as) vs (((ys.map fun x => x.2.1).map V.ref).zip ((kvs.map (·.1)).map keyD)) := by
    refine (PySem.W.each_mem er).mono fun v b ⟨⟨as, rd⟩, hb⟩ => ?_
    have e0 := reads_noL rd (nol b.2 (by rw [← zs]; exact List.mem_map.mpr ⟨b, hb, rfl⟩)).1
    subst e0
    exact ⟨[], PyProof.Rows.Reads.keeps (fun b o e => Heap.get?_push_of_some _ e) rd, fun z => nomatch z⟩
  refine wpAny_bind (wpAny_holding (PySem.W.list_sort_data (enc := Prod.snd) (R := fun (v : Value) (b : V × PyData) => RelV b.1 v) (bs := ((ys.map fun x => x.2.1).map V.ref).zip ((kvs.map (·.1)).map keyD)) new (each_rel dpa rv0) er2 (by rw [zs]; exact alike) (by rw [zs]; exact sable) (by rw [zl, List.length_map, List.length_map, ly]; exact line) (fun b hb => ?_) fun out ho eo => ?_))
  · have z2 := (nol b.2 (by rw [← zs]; exact List.mem_map.mpr ⟨b, hb, rfl⟩)).2
    show X.A.units + 1 + 1 + _ < cLine
    omega
  have rv : Vals (sortD ((ys.map fun x => x.2.1).map V.ref) ((kvs.map (·.1)).map keyD)) out := vals_each eo
  obtain ⟨en, at2⟩ := PyProof.Rows.sortedHeap_at (vs := vs) (out := out.toArray) new
  have len3 : (sortD ((ys.map fun x => x.2.1).map V.ref) ((kvs.map (·.1)).map keyD)).length ≤ sizeLine := by
    unfold sortD
    rw [List.length_map, List.length_mergeSort, zl, List.length_map, List.length_map, ly]
    exact line
  refine wpAny_pure ⟨_, rfl, .ref h1.objs.size, upd H _ (.lst (sortD ((ys.map fun x => x.2.1).map V.ref) ((kvs.map (·.1)).map keyD))), J.laid (t' := tk) (fun b u e => ?_) (Nat.le_refl _) ⟨len3, out, en, rv, at2⟩, rfl, q _ _ ka (J.hok.fresh (Nat.le_refl _))⟩
  have lt : b < h1.objs.size := Heap.lt_size e
  rw [PyProof.Rows.sortedHeap_old (Nat.ne_of_lt lt) (by rw [size_push']; exact Nat.lt_succ_of_lt lt)]
  exact (Heap.get?_push_of_some _ e)
/-! ### k23: parts of the end -/
def rIxA (K : PySem.W.Frag) : R2 := fun x y H Q => rIxL K x y H Q ∨ rIxT K x y H Q
theorem ix_any {X : Cx} : IxR X (rIxA X.K) := fun value slice pins s σ H x y v u Q I rx ry h hs => h.elim (fun h => ix_list value slice pins s σ H x y v u Q I rx ry h hs) fun h => ix_tup value slice pins s σ H x y v u Q I rx ry h hs
/-! the book -/
def qBook : Str := (Str.ofString "_law_book" ++ Str.ofString ".<locals>.") ++ Str.ofString "<lambda>"
def bookL (gs : List Pg) : List Pg := gs.mergeSort (PySem.W.dataLe false fun g : Pg => nmD g.1)
theorem bookL_perm (gs : List Pg) : (bookL gs).Perm gs := List.mergeSort_perm gs _
theorem paired_of {α β : Type} {F : α → β → Prop} : ∀ l : List (α × β), (∀ x ∈ l, F x.1 x.2) → Paired F (l.map Prod.fst) (l.map Prod.snd)
  | [], _ => .nil
  | x :: l, h => .cons (h x List.mem_cons_self) (paired_of l fun y hy => h y (List.mem_cons_of_mem _ hy))
theorem paired_mem {α β : Type} {F : α → β → Prop} : ∀ {as : List α} {bs : List β}, Paired F as bs → ∀ x ∈ as.zip bs, F x.1 x.2
  | _, _, .nil, x, hx => nomatch hx
  | _, _, .cons a b, x, hx => by
    rcases List.mem_cons.mp hx with rfl | hx
    · exact a
    · exact paired_mem b x hx
theorem paired_snd {α β : Type} {F : α → β → Prop} : ∀ {as : List α} {bs : List β}, Paired F as bs → (as.zip bs).map Prod.snd = bs ∧ (as.zip bs).map Prod.fst = as
  | _, _, .nil => ⟨rfl, rfl⟩
  | _, _, .cons a b => by
    obtain ⟨h1, h2⟩ := paired_snd b
    rw [List.zip_cons_cons, List.map_cons, List.map_cons, h1, h2]
    exact ⟨rfl, rfl⟩
/-- what lies at ps, sorted by a key of its data -/
theorem sort_paired {β : Type} {F : Addr → β → Prop} (key : β → PyData) {ps : List Addr} {gs : List β} (h : Paired F ps gs) :
    ∃ rs, sortD (ps.map V.ref) (gs.map key) = rs.map V.ref ∧ Paired F rs (gs.mergeSort (PySem.W.dataLe false key)) := by
  have e1 : ((ps.map V.ref).zip (gs.map key)) = (ps.zip gs).map (fun x => (V.ref x.1, key x.2)) := by
    rw [List.zip_map]
    rfl
  obtain ⟨p1, p2⟩ := paired_snd h
  refine ⟨((ps.zip gs).mergeSort (PySem.W.dataLe false fun x => key x.2)).map Prod.fst, ?_, ?_⟩
  · unfold sortD
    rw [e1, ← PySem.W.sort_maps (r := PySem.W.dataLe false fun x : Addr × β => key x.2) (fun x : Addr × β => (V.ref x.1, key x.2)) (fun _ _ _ _ => rfl), List.map_map, List.map_map]
    rfl
  · have e2 : gs.mergeSort (PySem.W.dataLe false key) = ((ps.zip gs).mergeSort (PySem.W.dataLe false fun x => key x.2)).map Prod.snd := by
      have z := PySem.W.sort_maps (r := PySem.W.dataLe false fun x : Addr × β => key x.2) (s := PySem.W.dataLe false key) (l := ps.zip gs) Prod.snd (fun _ _ _ _ => rfl)
      rw [p1] at z
      exact z.symm
    rw [e2]
    exact paired_of _ fun x hx => paired_mem h x (List.mem_mergeSort.mp hx)
theorem nms_alike (ns : List Nm) : PySem.W.AllAlike (ns.map nmD) := by
  intro d hd e he
  obtain ⟨a, _, rfl⟩ := List.mem_map.mp hd
  obtain ⟨b, _, rfl⟩ := List.mem_map.mp he
  simp [nmD, PySem.W.alike, PySem.W.alikeAll]
theorem nms_sortable (ns : List Nm) : PySem.W.Sortable (ns.map nmD) := by
  refine Or.inl fun d hd => ?_
  obtain ⟨a, _, rfl⟩ := List.mem_map.mp hd
  exact ⟨_, _, rfl⟩
theorem nmD_dp {K : PySem.W.Frag} {H : Hp} {a : Addr} {n : Nm} (h : H a = some (.tup (nmV n))) : Dp K H (.ref a) (nmD n) := .tup (SqT.of h) (.cons (.int _) (.cons (.int _) (.cons (.str _) .nil)))
theorem pgs_keyd {K : PySem.W.Frag} {H : Hp} : ∀ {ps : List Addr} {gs : List Pg}, Pgs H ps gs → Keyd (fun v k => ∃ t ys y, v = .ref t ∧ SqT K H t ys ∧ ys[0]? = some y ∧ Dp K H y k) (ps.map V.ref) ((gs.map (·.1)).map nmD)
  | _, _, .nil => .nil
  | _, _, .cons a b => by
    obtain ⟨n, t, h1, h2, h3⟩ := a
    exact .cons ⟨_, _, _, rfl, SqT.of h1, rfl, nmD_dp h2⟩ (pgs_keyd b)
def spBook (P : Addr) : Sp := fun vs H Q _ => ∃ (l : Addr) (qs : List Addr) (gs : List Pg), vs = [.ref l] ∧ H l = some (.lst (qs.map V.ref)) ∧ Pgs H qs gs ∧ gs.length ≤ 100 ∧ TabL H P qBook ∧
  ∀ (t : Addr) (H' : Hp), But P H H' → TabL H' P qBook → H t = none → BkAt H' t (bookL gs) → Q (.ref t) H'
theorem Tk.of_but {H H' : Hp} {P : Addr} {φ : Heap → Prop} (hP : H P = some (.ext φ)) (b : But P H H') : Tk H H' := fun a xs e => b _ _ (fun z => by rw [z, hP] at e; cases e) e
/-! roads in a dict -/
def edK (e : Ed) : List Key := [Sum.inr e.1, Sum.inr e.2]
theorem edK_inj {a b : Ed} (h : edK a = edK b) : a = b := by
  obtain ⟨a1, a2⟩ := a
  obtain ⟨b1, b2⟩ := b
  simp only [edK, List.cons.injEq, Sum.inr.injEq, and_true] at h
  obtain ⟨rfl, rfl⟩ := h
  rfl
theorem keyD_ed (e : Ed) : keyD (edK e) = edD e := rfl
theorem keyD_nm (n : Nm) : keyD (nmKey n) = nmD n := rfl
theorem put_keys {κ : Type} [DecidableEq κ] (kvs : List (κ × V)) (k : κ) (v : V) : (putK kvs k v).map (·.1) = if k ∈ kvs.map (·.1) then kvs.map (·.1) else kvs.map (·.1) ++ [k] := by
  have e : (kvs.any fun kv => decide (kv.1 = k)) = true ↔ k ∈ kvs.map (·.1) := by
    rw [List.any_eq_true, List.mem_map]
    constructor
    · rintro ⟨x, hx, h⟩
      exact ⟨x, hx, of_decide_eq_true h⟩
    · rintro ⟨x, hx, h⟩
      exact ⟨x, hx, decide_eq_true h⟩
  unfold putK
  by_cases c : k ∈ kvs.map (·.1)
  · rw [if_pos (e.mpr c), if_pos c, List.map_map]
    apply List.map_congr_left
    intro x _
    show (if x.1 = k then (x.1, v) else x).1 = x.1
    split <;> rfl
  · rw [if_neg (fun z => c (e.mp z)), if_neg c, List.map_append]
    rfl
/-- the dict's keys, in their order -/
def KeyL {α : Type} (key : α → List Key) (kvs : List (List Key × V)) (es : List α) : Prop := kvs.map (·.1) = es.map key
theorem KeyL.put {α : Type} [DecidableEq α] {key : α → List Key} (inj : ∀ a b, key a = key b → a = b) {kvs : List (List Key × V)} {es : List α} (h : KeyL key kvs es) (e : α) (v : V) : KeyL key (putK kvs (key e) v) (if e ∈ es then es else es ++ [e]) := by
  unfold KeyL at *
  rw [put_keys, h]
  have z : key e ∈ es.map key ↔ e ∈ es := by
    rw [List.mem_map]
    exact ⟨fun ⟨x, hx, k⟩ => inj _ _ k ▸ hx, fun k => ⟨e, k, rfl⟩⟩
  by_cases c : e ∈ es
  · rw [if_pos (z.mpr c), if_pos c]
  · rw [if_neg (fun k => c (z.mp k)), if_neg c, List.map_append]
    rfl
theorem KeyL.drop {α : Type} [DecidableEq α] {key : α → List Key} (inj : ∀ a b, key a = key b → a = b) : ∀ {kvs : List (List Key × V)} {es : List α}, KeyL key kvs es → ∀ e : α, KeyL key (dropK kvs (key e)) (es.filter fun x => decide (x ≠ e))
  | [], [], _, e => rfl
  | [], x :: es, h, e => nomatch h
  | p :: kvs, [], h, e => nomatch h
  | p :: kvs, x :: es, h, e => by
    have h1 : p.1 = key x := by
      have z : p.1 :: kvs.map (·.1) = key x :: es.map key := h
      injection z
    have h2 : kvs.map (·.1) = es.map key := by
      have z : p.1 :: kvs.map (·.1) = key x :: es.map key := h
      injection z
    have ih := KeyL.drop inj h2 e
    unfold KeyL dropK at *
    rw [List.filter_cons, List.filter_cons]
    by_cases c : x = e
    · rw [if_neg (by rw [h1, c]; simp), if_neg (by simp [c])]
      exact ih
    · rw [if_pos (by rw [h1]; simpa using fun k => c (inj _ _ k)), if_pos (by simpa using c), List.map_cons, List.map_cons, h1, ih]
theorem KeyL.val {α : Type} {key : α → List Key} {kvs : List (List Key × V)} {es : List α} (h : KeyL key kvs es) {e : α} (he : e ∈ es) : ∃ v, valV kvs (key e) = some v := by
  have z : key e ∈ kvs.map (·.1) := by rw [h]; exact List.mem_map.mpr ⟨e, he, rfl⟩
  obtain ⟨x, hx, k⟩ := List.mem_map.mp z
  have y : (kvs.any fun kv => decide (kv.1 = key e)) = true := List.any_eq_true.mpr ⟨x, hx, decide_eq_true k⟩
  rw [valV_any] at y
  exact Option.isSome_iff_exists.mp y
theorem KeyL.len {α : Type} {key : α → List Key} {kvs : List (List Key × V)} {es : List α} (h : KeyL key kvs es) : kvs.length = es.length := by
  have z := congrArg List.length h
  rw [List.length_map, List.length_map] at z
  exact z
theorem keys_rds {H : Hp} : ∀ {as : List Addr} {es : List Ed}, KeysAt H as (es.map edK) → Rds H as es
  | [], [], _ => .nil
  | a :: as, e :: es, .cons h t => .cons h (keys_rds t)
theorem keys_nms {H : Hp} : ∀ {as : List Addr} {es : List Nm}, KeysAt H as (es.map nmKey) → Nms H as es
  | [], [], _ => .nil
  | a :: as, e :: es, .cons h t => .cons h (keys_nms t)
theorem sort_strsE (xs : List Str) : ∃ ys : List Str, sortD (xs.map V.str) (xs.map .str) = ys.map V.str ∧ ys.length = xs.length ∧ ∀ y ∈ ys, y ∈ xs := by
  have e1 : ((xs.map V.str).zip (xs.map PyData.str)) = xs.map fun x => (V.str x, PyData.str x) := by
    induction xs with
    | nil => rfl
    | cons x xs ih => rw [List.map_cons, List.map_cons, List.zip_cons_cons, ih]; rfl
  have z := PySem.W.sort_maps (r := PySem.W.dataLe false fun x : Str => PyData.str x) (s := PySem.W.dataLe false Prod.snd) (l := xs) (fun x : Str => (V.str x, PyData.str x)) (fun _ _ _ _ => rfl)
  refine ⟨xs.mergeSort (PySem.W.dataLe false fun x : Str => PyData.str x), ?_, List.length_mergeSort _, fun y hy => List.mem_mergeSort.mp hy⟩
  unfold sortD
  rw [e1, ← z, List.map_map]
  rfl
theorem two_of {d : Int} (h0 : 0 ≤ d) (h1 : d < 2) : ∃ k : Int, 1 ≤ k ∧ k ≤ 1000000 ∧ atI [V.int 9, .int (10 ^ (6 : Int).toNat)] d = some (.int k) := by
  rcases (show d = 0 ∨ d = 1 by omega) with rfl | rfl
  · exact ⟨9, by decide, by decide, rfl⟩
  · exact ⟨10 ^ (6 : Int).toNat, by decide, by decide, rfl⟩
theorem tkmut {H : Hp} {D : Addr} {xs : List V} {o : HO} (h : H D = some (.lst xs)) : Tk H (upd H D o) := fun a ys e => (upd_ne (ne_of e h fun z => nomatch z)).trans e
theorem Wts.app1 {H : Hp} : ∀ {ps : List Addr} {ws : List Wt} {p : Addr} {w : Wt}, Wts H ps ws → H p = some (.tup (wtV w)) → Wts H (ps ++ [p]) (ws ++ [w])
  | _, _, _, _, .nil, h => .cons h .nil
  | _, _, _, _, .cons a b, h => .cons a (Wts.app1 b h)
theorem atI_some2 {xs : List V} {i : Int} (h0 : 0 ≤ i) (h1 : i < xs.length) : ∃ v, atI xs i = some v ∧ v ∈ xs := by
  obtain ⟨k, rfl⟩ : ∃ k : Nat, i = k := ⟨i.toNat, by omega⟩
  have hk : k < xs.length := by omega
  exact ⟨xs[k], atI_nat (List.getElem?_eq_getElem hk), List.getElem_mem hk⟩
/-! what each page is, by the law's own words -/
def w1 (gs : List Pg) (g : Pg) : Str := if wOf g.2 = wVoid then (("void" : String) : Str) else if g.1 ∈ voids gs then (("voided" : String) : Str) else (("counted" : String) : Str)
def lawW (gs : List Pg) (g : Pg) : Str := match g.2 with
  | .rd m _ => if w1 gs g = (("counted" : String) : Str) ∧ cbB gs m = false then (("waits" : String) : Str) else w1 gs g
  | _ => w1 gs g
theorem voids_mem {gs : List Pg} {n : Nm} : n ∈ voids gs ↔ ∃ g ∈ gs, n ∈ voidOf g.2 := by
  induction gs with
  | nil => simp [voids]
  | cons g gs ih =>
    show n ∈ voids gs ++ voidOf g.2 ↔ _
    rw [List.mem_append, ih]
    constructor
    · rintro (⟨x, hx, k⟩ | k)
      · exact ⟨x, List.mem_cons_of_mem _ hx, k⟩
      · exact ⟨g, List.mem_cons_self, k⟩
    · rintro ⟨x, hx, k⟩
      rcases List.mem_cons.mp hx with rfl | hx
      · exact .inr k
      · exact .inl ⟨x, hx, k⟩
theorem voids_perm {a b : List Pg} (h : a.Perm b) (n : Nm) : n ∈ voids a ↔ n ∈ voids b := by
  rw [voids_mem, voids_mem]
  exact ⟨fun ⟨g, hg, k⟩ => ⟨g, h.mem_iff.mp hg, k⟩, fun ⟨g, hg, k⟩ => ⟨g, h.mem_iff.mpr hg, k⟩⟩
theorem cbB_perm {a b : List Pg} (h : a.Perm b) (n : Nm) : cbB a n = cbB b n := by
  have v := voids_perm h n
  rw [Bool.eq_iff_iff]
  unfold cbB
  rw [List.any_eq_true, List.any_eq_true]
  have e : decide (n ∈ voids a) = decide (n ∈ voids b) := decide_eq_decide.mpr v
  rw [e]
  exact ⟨fun ⟨g, hg, k⟩ => ⟨g, h.mem_iff.mp hg, k⟩, fun ⟨g, hg, k⟩ => ⟨g, h.mem_iff.mpr hg, k⟩⟩
theorem cbB_iff {gs : List Pg} {n : Nm} : cbB gs n = true ↔ ∃ g ∈ gs, g.1 = n ∧ isBag g.2 = true ∧ n ∉ voids gs := by
  unfold cbB
  rw [List.any_eq_true]
  constructor
  · rintro ⟨g, hg, k⟩
    simp only [Bool.and_eq_true, decide_eq_true_eq, Bool.not_eq_true', decide_eq_false_iff_not] at k
    exact ⟨g, hg, k.1, k.2.1, k.2.2⟩
  · rintro ⟨g, hg, k1, k2, k3⟩
    exact ⟨g, hg, by simp [k1, k2, k3]⟩
/-- the program's word and the law's -/
def wordOf (w : Str) : Str := if w = (("waits" : String) : Str) then (("waiting" : String) : Str) else w
theorem stand_law {a gs : List Pg} (h : a.Perm gs) (g : Pg) : standS a g = wordOf (lawW gs g) := by
  have v := voids_perm h g.1
  have n1 : (("void" : String) : Str) ≠ (("waits" : String) : Str) := by decide +kernel
  have n2 : (("voided" : String) : Str) ≠ (("waits" : String) : Str) := by decide +kernel
  have n3 : (("counted" : String) : Str) ≠ (("waits" : String) : Str) := by decide +kernel
  have n4 : (("void" : String) : Str) ≠ (("counted" : String) : Str) := by decide +kernel
  have n5 : (("voided" : String) : Str) ≠ (("counted" : String) : Str) := by decide +kernel
  unfold standS
  by_cases c1 : wOf g.2 = wVoid
  · rw [if_pos c1]
    obtain ⟨m, e⟩ := wOf_void c1
    unfold lawW w1
    rw [e]
    show wVoid = wordOf (if wVoid = wVoid then _ else _)
    rw [if_pos rfl]
    unfold wordOf
    rw [if_neg n1]
    rfl
  · rw [if_neg c1]
    by_cases c2 : g.1 ∈ voids a
    · rw [if_pos c2]
      have e : w1 gs g = (("voided" : String) : Str) := by
        unfold w1
        rw [if_neg c1, if_pos (v.mp c2)]
      have e2 : lawW gs g = (("voided" : String) : Str) := by
        unfold lawW
        split
        · rw [if_neg (fun z => n5 (e ▸ z.1)), e]
        · exact e
      rw [e2]
      unfold wordOf
      rw [if_neg n2]
    · rw [if_neg c2]
      have e : w1 gs g = (("counted" : String) : Str) := by
        unfold w1
        rw [if_neg c1, if_neg (fun z => c2 (v.mpr z))]
      unfold lawW
      cases hg : g.2 with
      | rd m rs =>
        show (if cbB a m = true then _ else _) = wordOf (if _ then _ else _)
        rw [cbB_perm h m, e]
        by_cases c3 : cbB gs m = true
        · rw [if_pos c3, if_neg (fun z => by rw [c3] at z; exact nomatch z.2)]
          unfold wordOf
          rw [if_neg n3]
        · rw [if_neg c3, if_pos ⟨rfl, by simpa using c3⟩]
          unfold wordOf
          rw [if_pos rfl]
      | mv a b rs => show _ = wordOf (w1 gs g); rw [e]; unfold wordOf; rw [if_neg n3]
      | bag a b n => show _ = wordOf (w1 gs g); rw [e]; unfold wordOf; rw [if_neg n3]
      | ct a n => show _ = wordOf (w1 gs g); rw [e]; unfold wordOf; rw [if_neg n3]
      | vd m => show _ = wordOf (w1 gs g); rw [e]; unfold wordOf; rw [if_neg n3]
def dueN (gs : List Pg) (w : Str) : List Nm := ((bookL gs).filter fun g => decide (lawW gs g = w)).map (·.1)
def spSorts : Sp := fun vs H Q _ => ∃ (l : Addr) (qs : List Addr) (gs : List Pg), vs = [.ref l] ∧ H l = some (.lst (qs.map V.ref)) ∧ Pgs H qs gs ∧ gs.length ≤ 100 ∧ (gs.map (·.1)).Nodup ∧
  ∀ (d : Addr) (kvs : List (List Key × V)) (H' : Hp), Same H H' → H d = none → H' d = some (.dT kvs) → KeyL nmKey kvs (gs.map (·.1)) → (∀ g ∈ gs, valV kvs (nmKey g.1) = some (.str (lawW gs g))) → Q (.ref d) H'
theorem names_nth {gs : List Pg} (nd : (gs.map (·.1)).Nodup) {i j : Nat} {g h : Pg} (hi : gs[i]? = some g) (hj : gs[j]? = some h) (e : g.1 = h.1) : i = j := by
  obtain ⟨l1, e1⟩ := List.getElem?_eq_some_iff.mp hi
  obtain ⟨l2, e2⟩ := List.getElem?_eq_some_iff.mp hj
  have a1 : i < (gs.map (·.1)).length := by rw [List.length_map]; exact l1
  have a2 : j < (gs.map (·.1)).length := by rw [List.length_map]; exact l2
  have z : (gs.map (·.1))[i] = (gs.map (·.1))[j] := by
    rw [List.getElem_map, List.getElem_map, e1, e2]
    exact e
  have pw := List.pairwise_iff_getElem.mp nd
  rcases Nat.lt_trichotomy i j with lt | eq | gt
  · exact absurd z (pw i j a1 a2 lt)
  · exact eq
  · exact absurd z.symm (pw j i a2 a1 gt)
theorem name_new {gs : List Pg} (nd : (gs.map (·.1)).Nodup) {i : Nat} {g : Pg} (hi : gs[i]? = some g) : g.1 ∉ (gs.take i).map (·.1) := fun z => by
  obtain ⟨h, hh, e⟩ := List.mem_map.mp z
  obtain ⟨j, hj⟩ := List.mem_iff_getElem?.mp hh
  have lj : j < i := by
    have := (List.getElem?_eq_some_iff.mp hj).1
    rw [List.length_take] at this
    omega
  rw [List.getElem?_take_of_lt lj] at hj
  have := names_nth nd hi hj e.symm
  omega
theorem take_names {gs : List Pg} {i : Nat} {g : Pg} (hi : gs[i]? = some g) : (gs.take (i + 1)).map (·.1) = (gs.take i).map (·.1) ++ [g.1] := by
  obtain ⟨l1, e1⟩ := List.getElem?_eq_some_iff.mp hi
  rw [List.take_succ_eq_append_getElem l1, e1, List.map_append]
  rfl
theorem w1_bag {gs : List Pg} {g : Pg} (h : isBag g.2 = true) : (w1 gs g = (("counted" : String) : Str)) ↔ g.1 ∉ voids gs := by
  have n5 : (("voided" : String) : Str) ≠ (("counted" : String) : Str) := by decide +kernel
  have nv : wOf g.2 ≠ wVoid := fun z => by
    rw [wOf_bag.mpr h] at z
    exact absurd z (by decide +kernel)
  unfold w1
  rw [if_neg nv]
  by_cases c : g.1 ∈ voids gs
  · rw [if_pos c]
    exact ⟨fun z => absurd z n5, fun z => absurd c z⟩
  · rw [if_neg c]
    exact ⟨fun _ => c, fun _ => rfl⟩
def spDueS : Sp := fun vs H Q _ => ∃ (l : Addr) (w : Str) (qs : List Addr) (gs : List Pg), vs = [.ref l, .str w] ∧ H l = some (.lst (qs.map V.ref)) ∧ Pgs H qs gs ∧ gs.length ≤ 100 ∧ (gs.map (·.1)).Nodup ∧
  ∀ (t : Addr) (rs : List Addr) (H' : Hp), Same H H' → H t = none → H' t = some (.tup (rs.map V.ref)) → Nms H' rs (dueN gs w) → Q (.ref t) H'
theorem book_names (gs : List Pg) : (gs.map (·.1)).mergeSort (PySem.W.dataLe false nmD) = (bookL gs).map (·.1) := by
  have z := PySem.W.sort_maps (r := PySem.W.dataLe false fun g : Pg => nmD g.1) (s := PySem.W.dataLe false nmD) (l := gs) (fun g : Pg => g.1) (fun _ _ _ _ => rfl)
  exact z.symm
theorem filter_takeP {gs : List Pg} {p : Pg → Bool} {j : Nat} {g : Pg} (h : gs[j]? = some g) : (gs.take (j + 1)).filter p = (gs.take j).filter p ++ (if p g = true then [g] else []) := by
  obtain ⟨hl, e⟩ := List.getElem?_eq_some_iff.mp h
  rw [List.take_succ_eq_append_getElem hl, List.filter_append, e]
  congr 1
  by_cases c : p g = true
  · rw [if_pos c]
    simp [c]
  · rw [if_neg c]
    simp [c]
theorem that_due (gs : List Pg) (w : Str) (hw : ∀ g, (standS (bookL gs) g = wordOf w) ↔ lawW gs g = w) : (thatL (bookL gs) (wordOf w)).map (·.1) = dueN gs w := by
  unfold thatL dueN
  congr 2
  funext g
  exact decide_eq_decide.mpr (hw g)
theorem words_of {gs : List Pg} {w : Str} (h : w = (("counted" : String) : Str) ∨ w = (("waits" : String) : Str) ∨ w = (("voided" : String) : Str)) (g : Pg) : (standS (bookL gs) g = wordOf w) ↔ lawW gs g = w := by
  rw [stand_law (bookL_perm gs) g]
  have n1 : (("void" : String) : Str) ≠ (("waits" : String) : Str) := by decide +kernel
  have n2 : (("voided" : String) : Str) ≠ (("waits" : String) : Str) := by decide +kernel
  have n3 : (("counted" : String) : Str) ≠ (("waits" : String) : Str) := by decide +kernel
  have n4 : (("waiting" : String) : Str) ≠ (("counted" : String) : Str) := by decide +kernel
  have n5 : (("waiting" : String) : Str) ≠ (("voided" : String) : Str) := by decide +kernel
  have n6 : (("waiting" : String) : Str) ≠ (("void" : String) : Str) := by decide +kernel
  have ws : lawW gs g = (("counted" : String) : Str) ∨ lawW gs g = (("waits" : String) : Str) ∨ lawW gs g = (("voided" : String) : Str) ∨ lawW gs g = (("void" : String) : Str) := by
    have w1s : w1 gs g = (("counted" : String) : Str) ∨ w1 gs g = (("voided" : String) : Str) ∨ w1 gs g = (("void" : String) : Str) := by
      unfold w1
      split
      · exact .inr (.inr rfl)
      · split
        · exact .inr (.inl rfl)
        · exact .inl rfl
    unfold lawW
    split
    · split
      · exact .inr (.inl rfl)
      · rcases w1s with e | e | e <;> rw [e] <;> simp
    · rcases w1s with e | e | e <;> rw [e] <;> simp
  have f : ∀ v : Str, v ≠ (("waits" : String) : Str) → wordOf v = v := fun v hv => by
    unfold wordOf
    rw [if_neg hv]
  have f0 : wordOf (("waits" : String) : Str) = (("waiting" : String) : Str) := by
    unfold wordOf
    rw [if_pos rfl]
  rcases h with rfl | rfl | rfl <;> rcases ws with e | e | e | e <;> rw [e] <;> simp only [f _ n1, f _ n2, f _ n3, f0]
  · exact ⟨fun z => absurd z n4, fun z => absurd z.symm n3⟩
  · exact ⟨fun z => absurd z.symm n4, fun z => absurd z n3⟩
  · exact ⟨fun z => absurd z.symm n5, fun z => absurd z n2⟩
  · exact ⟨fun z => absurd z.symm n6, fun z => absurd z n1⟩
  · exact ⟨fun z => absurd z n5, fun z => absurd z.symm n2⟩
def XB (f P : Addr) (H H' : Hp) : Prop := ∀ a o, a ≠ f → a ≠ P → H a = some o → H' a = some o
theorem XB.trans {f P : Addr} {H H1 H2 : Hp} (a : XB f P H H1) (b : XB f P H1 H2) : XB f P H H2 := fun x o n m e => b x o n m (a x o n m e)
theorem XB.of_f {f P : Addr} {H H' : Hp} (b : But f H H') : XB f P H H' := fun x o n _ e => b x o n e
theorem XB.of_P {f P : Addr} {H H' : Hp} (b : But P H H') : XB f P H H' := fun x o _ m e => b x o m e
theorem Fe.butP {H H' : Hp} {f c P : Addr} {n : Int} {φ : Heap → Prop} (hP : H P = some (.ext φ)) (b : But P H H') (h : Fe H f c n) : Fe H' f c n := by
  obtain ⟨cells, k, g, h1, h2, h3⟩ := h
  exact ⟨cells, k, g, b _ _ (ne_of h1 hP fun z => nomatch z) h1, b _ _ (ne_of h2 hP fun z => nomatch z) h2, h3⟩
theorem TabL.butE {H H' : Hp} {f c P : Addr} {n : Int} {q : Str} (hf : Fe H f c n) (b : But f H H') (h : TabL H P q) : TabL H' P q := by
  obtain ⟨zs, hz⟩ := hf.at
  exact h.stay fun a φ e => b _ _ (ne_of e hz fun z => nomatch z) e
theorem Tk.xb {H H' : Hp} {f c P : Addr} {n : Int} {q : Str} (hf : Fe H f c n) (hT : TabL H P q) (b : XB f P H H') : Tk H H' := fun a xs e => by
  obtain ⟨zs, hz⟩ := hf.at
  obtain ⟨φ, hP⟩ := hT.at
  exact b _ _ (ne_of e hz fun z => nomatch z) (ne_of e hP fun z => nomatch z) e
theorem cut_memE {xs : List V} {lo hi : Option Int} {v : V} (h : v ∈ cutV xs lo hi) : v ∈ xs := List.mem_of_mem_drop (List.mem_of_mem_take h)
def gW3 : List Str := [(("counted" : String) : Str), (("waits" : String) : Str), (("voided" : String) : Str)]
theorem names_nice {ns : List Nm} (h : ns.length ≤ 100000) : Nice 2 (.tuple (ns.map nmD)) := by
  refine Or.inr ⟨_, Or.inr rfl, by rw [List.length_map]; exact h, fun e he => ?_⟩
  obtain ⟨r, _, rfl⟩ := List.mem_map.mp he
  refine Or.inr ⟨_, Or.inr rfl, (show 3 ≤ 100000 by decide), fun e he => ?_⟩
  simp only [List.mem_cons, List.not_mem_nil, or_false] at he
  rcases he with rfl | rfl | rfl <;> exact Nice.flat rfl
def spRightS (P : Addr) : Sp := fun vs H Q _ => ∃ (f c l : Addr) (n : Int) (qs : List Addr) (gs : List Pg), vs = [.ref f, .ref l] ∧ Fe H f c n ∧ n ≤ 900000 ∧ H l = some (.lst (qs.map V.ref)) ∧ l ≠ f ∧ Pgs H qs gs ∧ gs.length ≤ 60 ∧ (gs.map (·.1)).Nodup ∧ TabL H P qBook ∧
  ∀ H', Fe H' f c (n + 1) → XB f P H H' → TabL H' P qBook → Q (.bl true) H'
/-! ### tracked tuples: slices, sums -/
theorem cut_whole {xs : List V} {lo hi : Option Int} (h : HT.sIx xs.length 0 lo = 0 ∧ HT.sIx xs.length xs.length hi = xs.length) : cutV xs lo hi = xs := by
  unfold cutV
  rw [h.1, h.2, List.drop_zero, Nat.sub_zero, List.take_length]
theorem cut_mem {xs : List V} {lo hi : Option Int} {v : V} (h : v ∈ cutV xs lo hi) : v ∈ xs := List.mem_of_mem_drop (List.mem_of_mem_take h)
def rSlTk : V → Option Int → Option Int → Hp → VK → Prop := fun x lo hi H Q => ∃ a xs, x = .ref a ∧ H a = some (.tup xs) ∧ ∀ p H', Same H H' → H' p = some (.tup (cutV xs lo hi)) → Q (.ref p) H'
theorem sl_tupTk {X : Cx} : SlR X rSlTk := by
  intro pins s σ H x v vl vu lo hi sl Q I rx hs pl pu h
  obtain ⟨a, xs, rfl, hx, q⟩ := h
  exact sl_tupA pins s σ H _ v vl vu lo hi sl Q I rx hs pl pu ⟨a, xs, rfl, SqT.of hx, fun e => q a H (Same.refl _) (by rw [cut_whole e]; exact hx), fun _ p hp => q p _ (same_new hp _) upd_same⟩
def rCatTk : R2 := fun x y H Q => ∃ a b xs ys, x = .ref a ∧ y = .ref b ∧ H a = some (.tup xs) ∧ H b = some (.tup ys) ∧ xs.length + ys.length ≤ sizeLine ∧ ∀ p H', Same H H' → H' p = some (.tup (xs ++ ys)) → Q (.ref p) H'
theorem op_catTk {X : Cx} : OpR X (binaryOp .Add) rCatTk := by
  intro pins s σ H x y v u Q I rx ry h
  obtain ⟨a, b, xs, ys, rfl, rfl, ha, hb, hl, q⟩ := h
  refine op_catA pins s σ H _ _ v u Q I rx ry ⟨a, b, xs, ys, rfl, rfl, SqT.of ha, SqT.of hb, hl, fun e => ?_, fun _ e => ?_, fun _ _ p hp => ?_⟩
  · subst e
    exact q b H (Same.refl _) hb
  · subst e
    exact q a H (Same.refl _) (by rw [List.append_nil]; exact ha)
  · exact q p _ (same_new hp _) upd_same
/-! ### steps of notes: rows of moves and reads, sorted by their names -/
def hasR (rs : List Rn) (s : Str) (n : Int) : Bool := rs.any fun r => decide (r.1 = s) && (decide (r.2.1 ≤ n) && decide (n < r.2.2))
abbrev Stp := Nm × Str × Str × Nm × List Rn
def StAt (H : Hp) (p : Addr) (s : Stp) : Prop := ∃ a b u : Addr, H p = some (.tup [.ref a, .str s.2.1, .str s.2.2.1, .ref b, .ref u]) ∧ H a = some (.tup (nmV s.1)) ∧ H b = some (.tup (nmV s.2.2.2.1)) ∧ RnsT H u s.2.2.2.2
abbrev Sts (H : Hp) (ps : List Addr) (ss : List Stp) : Prop := Paired (StAt H) ps ss
/-- a row without its runs -/
def S4At (H : Hp) (p : Addr) (s : Stp) : Prop := ∃ a b : Addr, H p = some (.tup [.ref a, .str s.2.1, .str s.2.2.1, .ref b]) ∧ H a = some (.tup (nmV s.1)) ∧ H b = some (.tup (nmV s.2.2.2.1))
abbrev S4s (H : Hp) (ps : List Addr) (ss : List Stp) : Prop := Paired (S4At H) ps ss
theorem StAt.tk {H H' : Hp} {p : Addr} {s : Stp} (t : Tk H H') (h : StAt H p s) : StAt H' p s := by
  obtain ⟨a, b, u, h1, h2, h3, h4⟩ := h
  exact ⟨a, b, u, t _ _ h1, t _ _ h2, t _ _ h3, h4.tk t⟩
theorem S4At.tk {H H' : Hp} {p : Addr} {s : Stp} (t : Tk H H') (h : S4At H p s) : S4At H' p s := by
  obtain ⟨a, b, h1, h2, h3⟩ := h
  exact ⟨a, b, t _ _ h1, t _ _ h2, t _ _ h3⟩
theorem paired_imp {α β : Type} {F G : α → β → Prop} (f : ∀ a b, F a b → G a b) : ∀ {as : List α} {bs : List β}, Paired F as bs → Paired G as bs
  | _, _, .nil => .nil
  | _, _, .cons a b => .cons (f _ _ a) (paired_imp f b)
theorem Sts.tk {H H' : Hp} {ps : List Addr} {ss : List Stp} (t : Tk H H') (h : Sts H ps ss) : Sts H' ps ss := paired_imp (fun _ _ => StAt.tk t) h
theorem S4s.tk {H H' : Hp} {ps : List Addr} {ss : List Stp} (t : Tk H H') (h : S4s H ps ss) : S4s H' ps ss := paired_imp (fun _ _ => S4At.tk t) h
theorem paired_len {α β : Type} {F : α → β → Prop} : ∀ {as : List α} {bs : List β}, Paired F as bs → as.length = bs.length
  | _, _, .nil => rfl
  | _, _, .cons _ b => congrArg (· + 1) (paired_len b)
theorem paired_get {α β : Type} {F : α → β → Prop} : ∀ {as : List α} {bs : List β} {i : Nat} {a : α}, Paired F as bs → as[i]? = some a → ∃ b, bs[i]? = some b ∧ F a b
  | _, _, 0, _, .cons a _, h => by
    cases h
    exact ⟨_, rfl, a⟩
  | _, _, i + 1, p, .cons _ b, h => paired_get (i := i) (a := p) b h
theorem paired_snoc {α β : Type} {F : α → β → Prop} : ∀ {as : List α} {bs : List β} {a : α} {b : β}, Paired F as bs → F a b → Paired F (as ++ [a]) (bs ++ [b])
  | _, _, _, _, .nil, h => .cons h .nil
  | _, _, _, _, .cons a b, h => .cons a (paired_snoc b h)
/-! the rows -/
def abOf : Dd → Str × Str
  | .bag a b _ => (a, b)
  | _ => (default, default)
def abN (gs : List Pg) (m : Nm) : Str × Str := match gs.find? fun g => decide (g.1 = m) with
  | some g => abOf g.2
  | none => (default, default)
theorem abN_of {gs : List Pg} (nd : (gs.map (·.1)).Nodup) {g : Pg} (hg : g ∈ gs) : abN gs g.1 = abOf g.2 := by
  unfold abN
  cases e : gs.find? fun x => decide (x.1 = g.1) with
  | none => exact absurd (decide_eq_true rfl) (List.find?_eq_none.mp e g hg)
  | some x =>
    have h1 : x.1 = g.1 := by
      have z := List.find?_some e
      exact of_decide_eq_true z
    have h2 := List.mem_of_find?_eq_some e
    obtain ⟨i, hi⟩ := List.mem_iff_getElem?.mp h2
    obtain ⟨j, hj⟩ := List.mem_iff_getElem?.mp hg
    have ij := names_nth nd hi hj h1
    rw [ij, hj] at hi
    cases hi
    rfl
theorem abN_perm {as gs : List Pg} (p : as.Perm gs) (nd : (gs.map (·.1)).Nodup) (m : Nm) : abN as m = abN gs m := by
  have nd2 : (as.map (·.1)).Nodup := (p.map _).nodup_iff.mpr nd
  by_cases c : ∃ g ∈ gs, g.1 = m
  · obtain ⟨g, hg, rfl⟩ := c
    rw [abN_of nd hg, abN_of nd2 (p.mem_iff.mpr hg)]
  · have z : ∀ l : List Pg, (∀ g ∈ l, g ∈ gs) → (l.find? fun g => decide (g.1 = m)) = none := fun l hl => List.find?_eq_none.mpr fun g hg h => c ⟨g, hl g hg, of_decide_eq_true h⟩
    unfold abN
    rw [z as fun g hg => p.mem_iff.mp hg, z gs fun g hg => hg]
def stp (gs : List Pg) (g : Pg) : List Stp := match g.2 with
  | .mv a b rs => [(g.1, a, b, g.1, rs)]
  | .rd m rs => [(m, (abN gs m).1, (abN gs m).2, g.1, rs)]
  | _ => []
theorem stp_len (gs : List Pg) (g : Pg) : (stp gs g).length ≤ 1 := by
  unfold stp
  split <;> simp
theorem stp_nm {gs : List Pg} {g : Pg} {s : Stp} (h : s ∈ stp gs g) : s.2.2.2.1 = g.1 := by
  unfold stp at h
  split at h
  · rw [List.mem_singleton.mp h]
  · rw [List.mem_singleton.mp h]
  · exact nomatch h
theorem stp_perm {as gs : List Pg} (p : as.Perm gs) (nd : (gs.map (·.1)).Nodup) : stp as = stp gs := by
  funext g
  unfold stp
  split
  · rfl
  · rw [abN_perm p nd]
  · rfl
def wCd : Str := (("counted" : String) : Str)
def rowsP (bs : List Pg) : List Stp := (thatL bs wCd).flatMap (stp bs)
def rowsL (gs : List Pg) : List Stp := (gs.filter fun g => decide (lawW gs g = wCd)).flatMap (stp gs)
theorem stand_counted {bs gs : List Pg} (p : bs.Perm gs) (g : Pg) : (standS bs g = wCd) ↔ lawW gs g = wCd := by
  have e : standS bs g = standS (bookL gs) g := by rw [stand_law p g, stand_law (bookL_perm gs) g]
  have w := words_of (gs := gs) (w := wCd) (.inl rfl) g
  have f : wordOf wCd = wCd := by
    unfold wordOf
    rw [if_neg (show wCd ≠ (("waits" : String) : Str) by decide +kernel)]
  rw [f] at w
  rw [e]
  exact w
theorem rows_perm {bs gs : List Pg} (p : bs.Perm gs) (nd : (gs.map (·.1)).Nodup) : (rowsP bs).Perm (rowsL gs) := by
  unfold rowsP rowsL
  rw [stp_perm p nd]
  refine List.Perm.flatMap_right _ ?_
  unfold thatL
  have e : (fun g => decide (standS bs g = wCd)) = fun g => decide (lawW gs g = wCd) := by
    funext g
    exact decide_eq_decide.mpr (stand_counted p g)
  rw [e]
  exact p.filter _
/-- rows of one page are alike -/
theorem flat_one {gs : List Pg} : ∀ {l : List Pg}, (l.map (·.1)).Nodup → ∀ {x y : Stp}, x ∈ l.flatMap (stp gs) → y ∈ l.flatMap (stp gs) → x.2.2.2.1 = y.2.2.2.1 → x = y := by
  intro l nd x y hx hy e
  obtain ⟨g, hg, kx⟩ := List.mem_flatMap.mp hx
  obtain ⟨h, hh, ky⟩ := List.mem_flatMap.mp hy
  obtain ⟨i, hi⟩ := List.mem_iff_getElem?.mp hg
  obtain ⟨j, hj⟩ := List.mem_iff_getElem?.mp hh
  have ij := names_nth nd hi hj (by rw [← stp_nm kx, ← stp_nm ky, e])
  rw [ij, hj] at hi
  cases hi
  have l1 := stp_len gs g
  match h1 : stp gs g with
  | [] => rw [h1] at kx; exact nomatch kx
  | [z] =>
    rw [h1] at kx ky
    rw [List.mem_singleton.mp kx, List.mem_singleton.mp ky]
  | _ :: _ :: _ => rw [h1] at l1; simp at l1
def keyS (s : Stp) : PyData := .tuple [nmD s.1, nmD s.2.2.2.1]
def sortS (l : List Stp) : List Stp := l.mergeSort (PySem.W.dataLe false keyS)
theorem keyS_inj {x y : Stp} (h : PySem.W.keyToks (keyS x) = PySem.W.keyToks (keyS y)) : x.2.2.2.1 = y.2.2.2.1 := by
  obtain ⟨⟨x1, x2, x3⟩, xa, xb, ⟨x4, x5, x6⟩, xr⟩ := x
  obtain ⟨⟨y1, y2, y3⟩, ya, yb, ⟨y4, y5, y6⟩, yr⟩ := y
  simp only [keyS, nmD, PySem.W.keyToks, PySem.W.keyToksAll, List.cons_append, List.nil_append, List.cons.injEq, Sum.inl.injEq, Sum.inr.injEq, true_and, and_true] at h
  obtain ⟨_, _, _, rfl, rfl, h⟩ := h
  rw [PySem.W.str_of_cps h]
theorem sortS_uniq {l1 l2 : List Stp} (p : l1.Perm l2) (h1 : l1.Pairwise fun a b => PySem.W.dataLe false keyS a b = true) (one : ∀ x ∈ l1, ∀ y ∈ l1, x.2.2.2.1 = y.2.2.2.1 → x = y) : l1 = sortS l2 := by
  have T := PySem.W.sortLe_total (PyProof.Rows.listOrd PyProof.Rows.itemOrd) false fun s => PySem.W.keyToks (keyS s)
  have h2 := List.pairwise_mergeSort (le := PySem.W.dataLe false keyS) T.trans (fun a b => Bool.or_eq_true_iff.mpr (T.total a b)) l2
  refine List.Perm.eq_of_pairwise (le := fun a b => PySem.W.dataLe false keyS a b = true) (fun a b ha hb e1 e2 => ?_) h1 h2 (p.trans (List.mergeSort_perm _ _).symm)
  have hb1 : b ∈ l1 := p.mem_iff.mpr (List.mem_mergeSort.mp hb)
  refine one a ha b hb1 (keyS_inj ?_)
  have f1 : (!(PyProof.Rows.listOrd PyProof.Rows.itemOrd).blt (PySem.W.keyToks (keyS b)) (PySem.W.keyToks (keyS a))) = true := e1
  have f2 : (!(PyProof.Rows.listOrd PyProof.Rows.itemOrd).blt (PySem.W.keyToks (keyS a)) (PySem.W.keyToks (keyS b))) = true := e2
  exact (PyProof.Rows.listOrd PyProof.Rows.itemOrd).total _ _ (by simpa using f2) (by simpa using f1)
theorem rows_one {gs : List Pg} (nd : (gs.map (·.1)).Nodup) {x y : Stp} (hx : x ∈ rowsP gs) (hy : y ∈ rowsP gs) (e : x.2.2.2.1 = y.2.2.2.1) : x = y := by
  unfold rowsP at hx hy
  refine flat_one (List.Nodup.sublist ?_ nd) hx hy e
  exact List.Sublist.map _ List.filter_sublist
/-- sorted and chosen, chosen and sorted: the same -/
theorem steps_eq {bs gs : List Pg} (p : bs.Perm gs) (nd : (gs.map (·.1)).Nodup) (c : Stp → Bool) : (sortS (rowsP bs)).filter c = sortS ((rowsL gs).filter c) := by
  have nb : (bs.map (·.1)).Nodup := (p.map _).nodup_iff.mpr nd
  have T := PySem.W.sortLe_total (PyProof.Rows.listOrd PyProof.Rows.itemOrd) false fun s => PySem.W.keyToks (keyS s)
  have h2 := List.pairwise_mergeSort (le := PySem.W.dataLe false keyS) T.trans (fun a b => Bool.or_eq_true_iff.mpr (T.total a b)) (rowsP bs)
  have q : (sortS (rowsP bs)).Perm (rowsP bs) := List.mergeSort_perm _ _
  refine sortS_uniq ((q.trans (rows_perm p nd)).filter c) (List.Pairwise.filter _ h2) fun x hx y hy e => ?_
  exact rows_one nb (q.mem_iff.mp (List.mem_filter.mp hx).1) (q.mem_iff.mp (List.mem_filter.mp hy).1) e
/-! tables of lambdas: the others stay -/
theorem code_ne_tab {c P : Addr} {q : Str} {C : List Addr} : CodeK c q ≠ TabC P C := fun z => by
  have e : (fun h : Heap => ∃ (oc : Obj) (vs : Array Value) (t : Tok), h.get? c = some oc ∧ oc.data = .fields vs ∧ vs[1]? = some (.str q t)) = tabCP P C := HO.ext.inj z
  have g : ∀ (o : Obj), o = { cls := .type "x", data := .fields #[.none, .str q default] } → ∀ a : Nat, a ≤ (c : Nat) + (P : Nat) → Heap.get? { objs := Array.replicate ((c : Nat) + (P : Nat) + 1) o } a = some o := fun o ho a ha => by
    have e1 : (Array.replicate ((c : Nat) + (P : Nat) + 1) o)[a]? = some o := by
      rw [Array.getElem?_replicate, if_pos (by omega)]
    show (match (Array.replicate ((c : Nat) + (P : Nat) + 1) o)[a]? with | some ⟨_, _, .freed, _⟩ => none | o => o) = _
    rw [e1, ho]
  have f := congrFun e { objs := Array.replicate ((c : Nat) + (P : Nat) + 1) { cls := .type "x", data := .fields #[.none, .str q default] } }
  have y : tabCP P C _ := f.mp ⟨_, _, default, g _ rfl c (Nat.le_add_right _ _), rfl, rfl⟩
  obtain ⟨ps, e1, _⟩ := y
  rw [g _ rfl P (Nat.le_add_left _ _)] at e1
  have e2 := congrArg Obj.cls (Option.some.inj e1)
  cases e2
theorem TabL.other {H H' : Hp} {P P' : Addr} {q q' : Str} (n : P' ≠ P) (h : TabL H P q) (b : But P H H') (h' : TabL H P' q') : TabL H' P' q' := by
  obtain ⟨C, h1, h2⟩ := h'
  obtain ⟨D, k1, _⟩ := h
  refine ⟨C, b _ _ n h1, fun c hc => ⟨(h2 c hc).1, b _ _ (fun z => ?_) (h2 c hc).2⟩⟩
  have e := (h2 c hc).2
  rw [z, k1] at e
  exact code_ne_tab (Option.some.inj e).symm
def qSteps : Str := (Str.ofString "all_steps" ++ Str.ofString ".<locals>.") ++ Str.ofString "<lambda>"
def qLaw : Str := (Str.ofString "_law_steps" ++ Str.ofString ".<locals>.") ++ Str.ofString "<lambda>"
/-! promises -/
def NtAt (H : Hp) (t : Addr) (s : Str) (n : Int) : Prop := H t = some (.tup [.str s, .int n])
def spPlE : Sp := fun vs H Q _ => ∃ (u t : Addr) (rs : List Rn) (s : Str) (n : Int), vs = [.ref u, .ref t] ∧ RnsT H u rs ∧ NtAt H t s n ∧ ∀ (v : V) (H' : Hp), Same H H' → (if hasR rs s n = true then ∃ k, v = .int k else v = .non) → Q v H'
def spHoldsE : Sp := fun vs H Q _ => ∃ (u t : Addr) (rs : List Rn) (s : Str) (n : Int), vs = [.ref u, .ref t] ∧ RnsT H u rs ∧ NtAt H t s n ∧ ∀ H', Same H H' → Q (.bl (hasR rs s n)) H'
def spAllS (P : Addr) : Sp := fun vs H Q _ => ∃ (b : Addr) (bs : List Pg), vs = [.ref b] ∧ BkAt H b bs ∧ bs.length ≤ 1000 ∧ (bs.map (·.1)).Nodup ∧ TabL H P qSteps ∧
  ∀ (l : Addr) (ps : List Addr) (H' : Hp), But P H H' → TabL H' P qSteps → H l = none → H' l = some (.lst (ps.map V.ref)) → Sts H' ps (sortS (rowsP bs)) → Q (.ref l) H'
def chose (s : Str) (n : Int) (x : Stp) : Bool := hasR x.2.2.2.2 s n
def spStepsP (P : Addr) : Sp := fun vs H Q _ => ∃ (b t : Addr) (bs : List Pg) (s : Str) (n : Int), vs = [.ref b, .ref t] ∧ BkAt H b bs ∧ bs.length ≤ 1000 ∧ (bs.map (·.1)).Nodup ∧ NtAt H t s n ∧ TabL H P qSteps ∧
  ∀ (r : Addr) (ps : List Addr) (H' : Hp), But P H H' → TabL H' P qSteps → H r = none → H' r = some (.tup (ps.map V.ref)) → S4s H' ps ((sortS (rowsP bs)).filter (chose s n)) → Q (.ref r) H'
def lastTo (l : List Stp) : Str := match l.getLast? with
  | some x => x.2.2.1
  | none => (("none" : String) : Str)
def spToldP (P : Addr) : Sp := fun vs H Q _ => ∃ (b t : Addr) (bs : List Pg) (s : Str) (n : Int), vs = [.ref b, .ref t] ∧ BkAt H b bs ∧ bs.length ≤ 1000 ∧ (bs.map (·.1)).Nodup ∧ NtAt H t s n ∧ TabL H P qSteps ∧
  ∀ (H' : Hp), But P H H' → TabL H' P qSteps → Q (.str (lastTo ((sortS (rowsP bs)).filter (chose s n)))) H'
def spMovesL : Sp := fun vs H Q _ => ∃ (l : Addr) (qs : List Addr) (gs : List Pg), vs = [.ref l] ∧ H l = some (.lst (qs.map V.ref)) ∧ Pgs H qs gs ∧ gs.length ≤ 100 ∧ (gs.map (·.1)).Nodup ∧
  ∀ (r : Addr) (ps : List Addr) (H' : Hp), Same H H' → H r = none → H' r = some (.lst (ps.map V.ref)) → Sts H' ps (rowsL gs) → Q (.ref r) H'
def spStepsLw (P : Addr) : Sp := fun vs H Q _ => ∃ (l t : Addr) (qs : List Addr) (ss : List Stp) (s : Str) (n : Int), vs = [.ref l, .ref t] ∧ H l = some (.lst (qs.map V.ref)) ∧ Sts H qs ss ∧ ss.length ≤ 1000 ∧ NtAt H t s n ∧ TabL H P qLaw ∧
  ∀ (r : Addr) (ps : List Addr) (H' : Hp), But P H H' → TabL H' P qLaw → H r = none → H' r = some (.tup (ps.map V.ref)) → S4s H' ps (sortS (ss.filter (chose s n))) → Q (.ref r) H'
def spLastL (P : Addr) : Sp := fun vs H Q _ => ∃ (l t : Addr) (qs : List Addr) (ss : List Stp) (s : Str) (n : Int), vs = [.ref l, .ref t] ∧ H l = some (.lst (qs.map V.ref)) ∧ Sts H qs ss ∧ ss.length ≤ 1000 ∧ NtAt H t s n ∧ TabL H P qLaw ∧
  (sortS (ss.filter (chose s n)) = [] → ∀ H', But P H H' → TabL H' P qLaw → Q .non H') ∧ (∀ x, (sortS (ss.filter (chose s n))).getLast? = some x → ∀ (r : Addr) (H' : Hp), But P H H' → TabL H' P qLaw → S4At H' r x → Q (.ref r) H')
def spPlaceL (P : Addr) : Sp := fun vs H Q _ => ∃ (l t : Addr) (qs : List Addr) (ss : List Stp) (s : Str) (n : Int), vs = [.ref l, .ref t] ∧ H l = some (.lst (qs.map V.ref)) ∧ Sts H qs ss ∧ ss.length ≤ 1000 ∧ NtAt H t s n ∧ TabL H P qLaw ∧
  ∀ (H' : Hp), But P H H' → TabL H' P qLaw → Q (.str (lastTo (sortS (ss.filter (chose s n))))) H'
def hasF (s : Str) (n : Int) (r : Rn) : Bool := decide (r.1 = s) && (decide (r.2.1 ≤ n) && decide (n < r.2.2))
theorem hasR_take {rs : List Rn} {i : Nat} {r : Rn} (h : rs[i]? = some r) (s : Str) (n : Int) : hasR (rs.take (i + 1)) s n = (hasR (rs.take i) s n || (decide (r.1 = s) && (decide (r.2.1 ≤ n) && decide (n < r.2.2)))) := by
  obtain ⟨hl, e⟩ := List.getElem?_eq_some_iff.mp h
  unfold hasR
  rw [List.take_succ_eq_append_getElem hl, List.any_append, e]
  simp
theorem hasR_yes {rs : List Rn} {r : Rn} (h : r ∈ rs) {s : Str} {n : Int} (c : r.1 = s ∧ r.2.1 ≤ n ∧ n < r.2.2) : hasR rs s n = true := List.any_eq_true.mpr ⟨r, h, by simp [c]⟩
theorem keyd_sts {K : PySem.W.Frag} {H : Hp} : ∀ {ps : List Addr} {ss : List Stp}, Sts H ps ss → Keyd (fun v k => ∃ t ys y z d e, v = .ref t ∧ SqT K H t ys ∧ ys[0]? = some y ∧ ys[3]? = some z ∧ Dp K H y d ∧ Dp K H z e ∧ k = .tuple [d, e]) (ps.map V.ref) (ss.map keyS)
  | _, _, .nil => .nil
  | _, _, .cons h t => by
    obtain ⟨a, b, u, h1, h2, h3, h4⟩ := h
    exact .cons ⟨_, _, _, _, _, _, rfl, SqT.of h1, rfl, rfl, nmD_dp h2, nmD_dp h3, rfl⟩ (keyd_sts t)
theorem keyd_s4s {K : PySem.W.Frag} {H : Hp} : ∀ {ps : List Addr} {ss : List Stp}, S4s H ps ss → Keyd (fun v k => ∃ t ys y z d e, v = .ref t ∧ SqT K H t ys ∧ ys[0]? = some y ∧ ys[3]? = some z ∧ Dp K H y d ∧ Dp K H z e ∧ k = .tuple [d, e]) (ps.map V.ref) (ss.map keyS)
  | _, _, .nil => .nil
  | _, _, .cons h t => by
    obtain ⟨a, b, h1, h2, h3⟩ := h
    exact .cons ⟨_, _, _, _, _, _, rfl, SqT.of h1, rfl, rfl, nmD_dp h2, nmD_dp h3, rfl⟩ (keyd_s4s t)
theorem keyS_fit (ss : List Stp) : PySem.W.AllAlike (ss.map keyS) ∧ PySem.W.Sortable (ss.map keyS) ∧ ∀ k ∈ ss.map keyS, noL k = true ∧ k.depth ≤ 50 := by
  refine ⟨?_, Or.inl ?_, ?_⟩
  · intro d hd e he
    obtain ⟨a, _, rfl⟩ := List.mem_map.mp hd
    obtain ⟨b, _, rfl⟩ := List.mem_map.mp he
    simp [keyS, nmD, PySem.W.alike, PySem.W.alikeAll]
  · intro d hd
    obtain ⟨a, _, rfl⟩ := List.mem_map.mp hd
    exact ⟨_, _, rfl⟩
  · intro d hd
    obtain ⟨a, _, rfl⟩ := List.mem_map.mp hd
    exact ⟨rfl, by simp [keyS, nmD, PyData.depth, PyData.depthAll]⟩
def spUntil : Sp := fun vs H Q _ => ∃ (b : Addr) (bs : List Pg) (d : Int), vs = [.ref b, .int d] ∧ BkAt H b bs ∧ bs.length ≤ 1000 ∧
  ∀ (t : Addr) (H' : Hp), Same H H' → H t = none → BkAt H' t (bs.filter fun g => decide (g.1.1 ≤ d)) → Q (.ref t) H'
/-! dict(list of pairs), tuples as keys -/
theorem pairs_ofLT {X : Cx} {pins : List (Addr × Obj)} {σ : L2.St} {H : Hp} {s : Shared} (I : Inv X pins σ H s) : ∀ {ps : List Addr} {xs : List (List Key × Addr × V)}, Paired (fun p (x : List Key × Addr × V) => SqT X.K H p [.ref x.2.1, x.2.2]) ps xs →
    ∃ (ys : List (List Key × Addr × Value)) (vs : List (Value × Value)), Paired (fun (x : List Key × Addr × V) (y : List Key × Addr × Value) => x.1 = y.1 ∧ x.2.1 = y.2.1 ∧ RelV x.2.2 y.2.2) xs ys ∧ ys.length = ps.length ∧ vs.length = ps.length ∧
      ∀ (j : Nat) (u v : Value), vs[j]? = some (u, v) → ∃ (p : Addr) (k : List Key) (b : Addr), ps[j]? = some p ∧ IsTup s.heap p #[u, v] ∧ ys[j]? = some (k, b, v) ∧ u = .ref b
  | _, _, .nil => ⟨[], [], .nil, rfl, rfl, fun j u v e => by simp at e⟩
  | _, _, .cons (a := p) (b := x) h t => by
    obtain ⟨ys, vs, r, hl, hl2, hp⟩ := pairs_ofLT I t
    obtain ⟨its, rv, ht, _⟩ := I.tuple h
    obtain ⟨u, y, ei, ru, ry⟩ := vals2 rv
    subst ei
    cases ru
    refine ⟨(x.1, x.2.1, y) :: ys, (.ref x.2.1, y) :: vs, .cons ⟨rfl, rfl, ry⟩ r, by rw [List.length_cons, List.length_cons, hl], by rw [List.length_cons, List.length_cons, hl2], fun j u' v' e => ?_⟩
    cases j with
    | zero =>
      cases Option.some.inj e
      exact ⟨p, x.1, x.2.1, rfl, ht, rfl, rfl⟩
    | succ j =>
      obtain ⟨b, k, a, e1, e2, e3, e4⟩ := hp j u' v' (by simpa using e)
      exact ⟨b, k, a, by simpa using e1, e2, by simpa using e3, e4⟩
def rDictLT (K : PySem.W.Frag) : List V → Hp → VK → Prop := fun vs H Q => ∃ (a : Addr) (ps : List Addr) (xs : List (List Key × Addr × V)), vs = [.ref a] ∧ SqL K H a (ps.map V.ref) ∧ Paired (fun p (x : List Key × Addr × V) => SqT K H p [.ref x.2.1, x.2.2]) ps xs ∧
  (∀ x ∈ xs, H x.2.1 = some (.tup (x.1.map kV))) ∧ ∀ p, H p = none → Q (.ref p) (upd H p (.dT (putAll [] xs)))
theorem paired_right {α β : Type} {F : α → β → Prop} : ∀ {as : List α} {bs : List β} {b : β}, Paired F as bs → b ∈ bs → ∃ a ∈ as, F a b
  | _, _, _, .nil, h => nomatch h
  | _, _, _, .cons x t, h => by
    rcases List.mem_cons.mp h with rfl | h
    · exact ⟨_, List.mem_cons_self, x⟩
    · obtain ⟨a, h1, h2⟩ := paired_right t h
      exact ⟨a, List.mem_cons_of_mem _ h1, h2⟩
theorem call_dictLT {X : Cx} (hcalm : X.calm = true) (hu : X.A.units + 2 < cLine) : CallR X (.type "dict") (rDictLT X.K) := by
  intro pins s σ H vs us Q I r q
  obtain ⟨a, ps, xs, ex, hq, hp, hk, q⟩ := q
  subst ex
  obtain ⟨u, eu, rx⟩ := vals1 r
  subst eu
  cases rx
  obtain ⟨its, rv, pl, hz⟩ := I.list hq
  have ei := refs_at rv
  subst ei
  rw [List.length_map] at hz
  obtain ⟨ys, ws, rel, hl, hl2, hpr⟩ := pairs_ofLT I hp
  have items : PairItems s.heap (ps.map Value.ref).toArray (fun j => (ps[j]?).getD 0) ws := by
    refine ⟨by simp [hl2], fun j k v e => ?_⟩
    obtain ⟨b, kk, _, e1, e2, _⟩ := hpr j k v e
    dsimp only
    rw [e1]
    refine ⟨by simp [e1], ?_⟩
    exact .inl e2
  have key : ∀ y ∈ ys, H y.2.1 = some (.tup (y.1.map kV)) := fun y hy => by
    obtain ⟨x, hx, e1, e2, _⟩ := paired_right rel hy
    rw [← e1, ← e2]
    exact hk x hx
  refine PySem.call_dict_pairsH (knd := tupleKind (mixKind X.prog X.w)) (ps := ys) (PairArg.list a (ps.map Value.ref).toArray (fun j => (ps[j]?).getD 0) ws) (I.ok.hd hcalm) (show X.A.units + 1 + 1 < cLine from hu) ⟨pl, items⟩ ⟨by rw [hl, hl2], fun i ky v e => ?_⟩ (fun h' kp y hy => ?_) (by rw [hl2]; exact hz) fun h' tk hd' k => ?_
  · obtain ⟨p, kk, b, e1, e2, e3, e4⟩ := hpr i ky v e
    exact ⟨kk, b, e3, e4⟩
  · obtain ⟨_, its, rr, o, h1, h2, n, h3⟩ := (show ObjOk X.prog X.w H s.heap y.2.1 (.tup (y.1.map kV)) from I.hok y.2.1 _ (key y hy))
    exact ⟨o, its.toArray, n, kp _ _ (Nat.ne_of_lt (Heap.lt_size h1)) List.not_mem_nil h1, h2, h3, by simpa using items_are rr⟩
  · have hm : (s.heap.objs.size == sysModules) = false := beq_eq_false_iff_ne.mpr (Nat.ne_of_gt I.big)
    have xl : xs.length ≤ sizeLine := by rw [Paired.length rel, hl]; exact hz
    have hlen : (putAll [] xs).length ≤ sizeLine := Nat.le_trans (putAll_len xs []) (by rw [List.length_nil, Nat.zero_add]; exact xl)
    have fr := I.hok.fresh (Nat.le_refl s.heap.objs.size)
    obtain ⟨ob, es, ep, e1, e2, e3, e4, _, e5⟩ := hd'
    refine ⟨.ref s.heap.objs.size, upd H s.heap.objs.size (.dT (putAll [] xs)), I.laid (t' := tk) (fun b o e => k b o List.not_mem_nil e) (Nat.le_refl _) ⟨hlen, hm, _, (KT.all rel hk .nil).keeps fun c zs at_c => ?_, ob, es, ep, e1, e2, e3, e4, e5⟩, rfl, q _ fr⟩
    exact (upd_ne (ne_of_none at_c fr)).trans at_c
theorem hu_of2 {A : Around} {k : Nat} (hr : Room k A) : A.units + 2 < cLine := Nat.lt_of_le_of_lt (Nat.add_le_add_left (by decide : 2 ≤ 64) _) hr.units
theorem putAll_val : ∀ {xs : List (List Key × Addr × V)} {acc : List (List Key × V)} {k : List Key}, (xs.map (·.1)).Nodup → (∀ x ∈ xs, x.1 = k → valV (putAll acc xs) k = some x.2.2) ∧ (k ∉ xs.map (·.1) → valV (putAll acc xs) k = valV acc k)
  | [], acc, k, _ => ⟨fun x hx => (nomatch hx), fun _ => rfl⟩
  | y :: xs, acc, k, nd => by
    rw [List.map_cons, List.nodup_cons] at nd
    obtain ⟨i1, i2⟩ := putAll_val (xs := xs) (acc := putK acc y.1 y.2.2) (k := k) nd.2
    have e : putAll acc (y :: xs) = putAll (putK acc y.1 y.2.2) xs := rfl
    rw [e]
    refine ⟨fun x hx ex => ?_, fun h => ?_⟩
    · rcases List.mem_cons.mp hx with rfl | hx
      · rw [i2 (by rw [← ex]; exact nd.1), valV_put, if_pos ex.symm]
      · exact i1 x hx ex
    · rw [List.map_cons] at h
      rw [i2 (fun z => h (List.mem_cons_of_mem _ z)), valV_put, if_neg (fun z => h (by rw [z]; exact List.mem_cons_self))]
theorem pgs_pairs {K : PySem.W.Frag} {H : Hp} : ∀ {qs : List Addr} {gs : List Pg}, Pgs H qs gs → ∃ xs : List (List Key × Addr × V), Paired (fun p (x : List Key × Addr × V) => SqT K H p [.ref x.2.1, x.2.2]) qs xs ∧ (∀ x ∈ xs, H x.2.1 = some (.tup (x.1.map kV))) ∧ xs.map (·.1) = gs.map (fun g => nmKey g.1) ∧
    ∀ g ∈ gs, ∃ x ∈ xs, x.1 = nmKey g.1 ∧ ∃ td, x.2.2 = .ref td ∧ DdAt H td g.2
  | _, _, .nil => ⟨[], .nil, fun x hx => (nomatch hx), rfl, fun g hg => (nomatch hg)⟩
  | _, _, .cons (b := g) h t => by
    obtain ⟨xs, h1, h2, h3, h4⟩ := pgs_pairs (K := K) t
    obtain ⟨na, td, a1, a2, a3⟩ := h
    refine ⟨(nmKey g.1, na, .ref td) :: xs, .cons (SqT.of a1) h1, fun x hx => ?_, by rw [List.map_cons, List.map_cons, h3], fun g' hg => ?_⟩
    · rcases List.mem_cons.mp hx with rfl | hx
      · exact a2
      · exact h2 x hx
    · rcases List.mem_cons.mp hg with rfl | hg
      · exact ⟨_, List.mem_cons_self, rfl, td, rfl, a3⟩
      · obtain ⟨x, hx, k⟩ := h4 g' hg
        exact ⟨x, List.mem_cons_of_mem _ hx, k⟩
theorem keys_nd {gs : List Pg} (nd : (gs.map (·.1)).Nodup) : (gs.map (fun g => nmKey g.1)).Nodup := by
  have e : gs.map (fun g => nmKey g.1) = (gs.map (·.1)).map nmKey := by rw [List.map_map]; rfl
  rw [e]
  exact List.Pairwise.map _ (fun a b hab z => hab (nmKey_inj z)) nd
theorem counted_bag {gs : List Pg} {nm m : Nm} {rs : List Rn} (h : lawW gs (nm, .rd m rs) = wCd) : cbB gs m = true := by
  have h : (if w1 gs (nm, .rd m rs) = (("counted" : String) : Str) ∧ cbB gs m = false then (("waits" : String) : Str) else w1 gs (nm, .rd m rs)) = wCd := h
  by_cases c : w1 gs (nm, .rd m rs) = (("counted" : String) : Str) ∧ cbB gs m = false
  · rw [if_pos c] at h
    exact absurd h (by decide +kernel)
  · rw [if_neg c] at h
    cases e : cbB gs m with
    | true => rfl
    | false => exact absurd ⟨h, e⟩ c
theorem rowsP_len {bs : List Pg} {n : Nat} (h : bs.length ≤ n) : (rowsP bs).length ≤ n := by
  have z : ∀ l : List Pg, (l.flatMap (stp bs)).length ≤ l.length := fun l => by
    induction l with
    | nil => exact Nat.le_refl _
    | cons a l ih =>
      rw [List.flatMap_cons, List.length_append, List.length_cons]
      have := stp_len bs a
      omega
  exact Nat.le_trans (z _) (Nat.le_trans (List.length_filter_le _ _) h)
theorem rowsL_len {gs : List Pg} {n : Nat} (h : gs.length ≤ n) : (rowsL gs).length ≤ n := by
  have z : ∀ l : List Pg, (l.flatMap (stp gs)).length ≤ l.length := fun l => by
    induction l with
    | nil => exact Nat.le_refl _
    | cons a l ih =>
      rw [List.flatMap_cons, List.length_append, List.length_cons]
      have := stp_len gs a
      omega
  exact Nat.le_trans (z _) (Nat.le_trans (List.length_filter_le _ _) h)
theorem last_at {H : Hp} {ps : List Addr} {ss : List Stp} (h : S4s H ps ss) (n : ss ≠ []) : ∃ r x, ss.getLast? = some x ∧ atI (ps.map V.ref) (-1) = some (.ref r) ∧ S4At H r x := by
  have l := paired_len h
  have l0 : 0 < ss.length := List.length_pos_iff.mpr n
  have lt : ps.length - 1 < ps.length := by omega
  obtain ⟨x, hx, hs⟩ := paired_get h (List.getElem?_eq_getElem lt)
  refine ⟨ps[ps.length - 1], x, ?_, ?_, hs⟩
  · rw [List.getLast?_eq_getElem?, ← l]
    exact hx
  · have e : (ps.map V.ref)[ps.length - 1]? = some (V.ref ps[ps.length - 1]) := by rw [List.getElem?_map, List.getElem?_eq_getElem lt]; rfl
    unfold atI ixN
    rw [List.length_map, if_neg (by decide), if_pos (by omega)]
    have e2 : ((ps.length : Int) + -1).toNat = ps.length - 1 := by omega
    show (ps.map V.ref)[_]? = _
    first
      | rw [e2]; exact e
      | (have e3 : ((-1 : Int) + (ps.length : Int)).toNat = ps.length - 1 := by omega
         rw [e3]; exact e)
/-! the law's side -/
abbrev NtsE (H : Hp) (ns : List Addr) (es : List (Str × Int)) : Prop := Paired (fun p (e : Str × Int) => NtAt H p e.1 e.2) ns es
theorem NtsE.tk {H H' : Hp} {ns : List Addr} {es : List (Str × Int)} (t : Tk H H') (h : NtsE H ns es) : NtsE H' ns es := paired_imp (fun _ _ => t _ _) h
def spRightT (P1 P2 : Addr) : Sp := fun vs H Q _ => ∃ (l b N : Addr) (qs : List Addr) (gs bs : List Pg) (ns : List Addr) (es : List (Str × Int)), vs = [.ref l, .ref b, .ref N] ∧ H l = some (.lst (qs.map V.ref)) ∧ Pgs H qs gs ∧ gs.length ≤ 100 ∧ (gs.map (·.1)).Nodup ∧ BkAt H b bs ∧ bs.Perm gs ∧
  H N = some (.lst (ns.map V.ref)) ∧ NtsE H ns es ∧ es.length ≤ 100 ∧ TabL H P1 qSteps ∧ TabL H P2 qLaw ∧ P1 ≠ P2 ∧
  ∀ H', XB P1 P2 H H' → TabL H' P1 qSteps → TabL H' P2 qLaw → Q (.bl true) H'
theorem XB.mut {f P D : Addr} {H H' : Hp} {o : HO} (x : XB f P H H') (n : H D = none) : XB f P H (upd H' D o) := fun a u h1 h2 e => (upd_ne (ne_of_none e n)).trans (x a u h1 h2 e)
theorem XB.of_same {f P : Addr} {H H' : Hp} (s : Same H H') : XB f P H H' := fun a o _ _ e => s a o e
theorem XB.tabs {P1 P2 P3 : Addr} {q1 q2 q3 : Str} {H H' : Hp} (t1 : TabL H P1 q1) (t2 : TabL H P2 q2) (x : XB P1 P2 H H') (n1 : P3 ≠ P1) (n2 : P3 ≠ P2) (t3 : TabL H P3 q3) : TabL H' P3 q3 := by
  obtain ⟨C, h1, h2⟩ := t3
  obtain ⟨D1, k1, _⟩ := t1
  obtain ⟨D2, k2, _⟩ := t2
  refine ⟨C, x _ _ n1 n2 h1, fun c hc => ⟨(h2 c hc).1, x _ _ (fun z => ?_) (fun z => ?_) (h2 c hc).2⟩⟩
  · have e := (h2 c hc).2
    rw [z, k1] at e
    exact code_ne_tab (Option.some.inj e).symm
  · have e := (h2 c hc).2
    rw [z, k2] at e
    exact code_ne_tab (Option.some.inj e).symm
theorem XB.ne {P1 P2 : Addr} {q1 q2 : Str} {H H' : Hp} (t1 : TabL H P1 q1) (t2 : TabL H P2 q2) (x : XB P1 P2 H H') : NeX H H' := fun a o n e => by
  obtain ⟨φ1, h1⟩ := t1.at
  obtain ⟨φ2, h2⟩ := t2.at
  exact x a o (fun z => by rw [z, h1] at e; exact n _ (Option.some.inj e).symm) (fun z => by rw [z, h2] at e; exact n _ (Option.some.inj e).symm) e
theorem NeX.tk {H H' : Hp} (n : NeX H H') : Tk H H' := fun a xs e => n _ _ (fun φ z => nomatch z) e
theorem NeX.lst {H H' : Hp} {a : Addr} {xs : List V} (n : NeX H H') (e : H a = some (.lst xs)) : H' a = some (.lst xs) := n _ _ (fun φ z => nomatch z) e
theorem Fe.nx {H H' : Hp} {f c : Addr} {n : Int} (x : NeX H H') (h : Fe H f c n) : Fe H' f c n := by
  obtain ⟨cells, k, g, h1, h2, h3⟩ := h
  exact ⟨cells, k, g, x.lst h1, x.lst h2, h3⟩
/-- what the law knows all along: the feed, three tables -/
structure LwS (f c P1 P2 P3 : Addr) (H : Hp) (n : Int) : Prop where
  fe : Fe H f c n
  t1 : TabL H P1 qSteps
  t2 : TabL H P2 qLaw
  t3 : TabL H P3 qBook
/-- lists but the feed, and tuples, stay -/
structure LwX (f : Addr) (H H' : Hp) : Prop where
  tk : Tk H H'
  ls : ∀ a xs, a ≠ f → H a = some (.lst xs) → H' a = some (.lst xs)
theorem LwX.refl {f : Addr} {H : Hp} : LwX f H H := ⟨Tk.refl _, fun _ _ _ e => e⟩
theorem LwX.trans {f : Addr} {H H1 H2 : Hp} (a : LwX f H H1) (b : LwX f H1 H2) : LwX f H H2 := ⟨a.tk.trans b.tk, fun x xs n e => b.ls x xs n (a.ls x xs n e)⟩
theorem LwX.of_same {f : Addr} {H H' : Hp} (s : Same H H') : LwX f H H' := ⟨Tk.same s, fun _ _ _ e => s _ _ e⟩
theorem LwX.of_nx {f : Addr} {H H' : Hp} (s : NeX H H') : LwX f H H' := ⟨s.tk, fun _ _ _ e => s.lst e⟩
section
variable {f c P1 P2 P3 : Addr} {H H' : Hp} {n m : Int}
theorem LwS.same (h : LwS f c P1 P2 P3 H n) (s : Same H H') : LwS f c P1 P2 P3 H' n := ⟨h.fe.same s, h.t1.same s, h.t2.same s, h.t3.same s⟩
theorem LwS.draw (h : LwS f c P1 P2 P3 H n) (b : But f H H') (e : Fe H' f c m) : LwS f c P1 P2 P3 H' m ∧ LwX f H H' := ⟨⟨e, h.t1.butE h.fe b, h.t2.butE h.fe b, h.t3.butE h.fe b⟩, ⟨Tk.but h.fe b, fun a xs n e => b a _ n e⟩⟩
theorem LwS.book (h : LwS f c P1 P2 P3 H n) (n1 : P1 ≠ P3) (n2 : P2 ≠ P3) (b : But P3 H H') (t : TabL H' P3 qBook) : LwS f c P1 P2 P3 H' n ∧ LwX f H H' := by
  obtain ⟨φ, hP⟩ := h.t3.at
  have nx := NeX.of_but hP b
  exact ⟨⟨h.fe.nx nx, h.t3.other n1 b h.t1, h.t3.other n2 b h.t2, t⟩, .of_nx nx⟩
theorem LwS.right (h : LwS f c P1 P2 P3 H n) (n1 : P3 ≠ P1) (n2 : P3 ≠ P2) (x : XB P1 P2 H H') (t1 : TabL H' P1 qSteps) (t2 : TabL H' P2 qLaw) : LwS f c P1 P2 P3 H' n ∧ LwX f H H' := by
  have nx := x.ne h.t1 h.t2
  exact ⟨⟨h.fe.nx nx, t1, t2, x.tabs h.t1 h.t2 n1 n2 h.t3⟩, .of_nx nx⟩
theorem LwS.mono (h : LwS f c P1 P2 P3 H n) (l : n ≤ m) : LwS f c P1 P2 P3 H m := ⟨h.fe.mono l, h.t1, h.t2, h.t3⟩
end
def spBegunN : Sp := fun vs H Q _ => ∃ (f c : Addr) (n : Int), vs = [.ref f] ∧ Fe H f c n ∧ n ≤ 400000 ∧
  ∀ (t o l : Addr) (low : Int) (ws : List Wt) (E : List Ed) (qs : List Addr) (gs : List Pg) (H' : Hp), Fe H' f c (n + 6000) → But f H H' → H t = none → H' t = some (.tup [.ref o, .int low, .ref l]) → OfAt H' o ws E → OfE ws E → H l = none → l ≠ f → 0 ≤ low → low ≤ 1000000000 →
    H' l = some (.lst (qs.map V.ref)) → Pgs H' qs gs → gs.length ≤ 44 → (gs.map (·.1)).Nodup → (∀ g ∈ gs, NmB g.1) → 0 < gs.length → Q (.ref t) H'
section
variable {f c P1 P2 P3 N : Addr} {H H' : Hp} {n m : Int} {xs : List V} {o : HO}
theorem LwS.mut (h : LwS f c P1 P2 P3 H n) (e : H N = some (.lst xs)) (ne : N ≠ f ∧ N ≠ c) : LwS f c P1 P2 P3 (upd H N o) n := by
  have k : ∀ a φ, H a = some (.ext φ) → upd H N o a = some (.ext φ) := fun a φ z => (upd_ne (ne_of z e fun z => nomatch z)).trans z
  exact ⟨h.fe.upd ne, h.t1.stay k, h.t2.stay k, h.t3.stay k⟩
theorem LwX.mut (h : LwX f H H') (e : H N = none) : LwX f H (upd H' N o) := ⟨fun a ys z => (upd_ne (ne_of_none z e)).trans (h.tk a ys z), fun a ys n z => (upd_ne (ne_of_none z e)).trans (h.ls a ys n z)⟩
end
theorem pick_wt {ps : List Addr} {es : List Wt} {H : Hp} {d : Int} (h : Wts H ps es) (d0 : 0 ≤ d) (d1 : d < (((ps.map V.ref).length : Nat) : Int)) : ∃ p, ∃ m ∈ es, atI (ps.map V.ref) d = some (.ref p) ∧ H p = some (.tup (wtV m)) := by
  rw [List.length_map] at d1
  obtain ⟨k, rfl⟩ : ∃ k : Nat, d = (k : Int) := ⟨d.toNat, by omega⟩
  have hk : k < ps.length := by omega
  obtain ⟨m, m1, m2⟩ := Wts.get h (List.getElem?_eq_getElem hk)
  exact ⟨ps[k], m, List.mem_of_getElem? m1, atI_nat (by rw [List.getElem?_map, List.getElem?_eq_getElem hk]; rfl), m2⟩
theorem paired_len' {H : Hp} {ps : List Addr} {es : List Wt} (h : Wts H ps es) : ps.length = es.length := by
  induction h with
  | nil => rfl
  | cons _ _ ih => exact congrArg (· + 1) ih
/-! ### seals: pairs of names -/
def slD (s : Stp) : PyData := .tuple [nmD s.1, nmD s.2.2.2.1]
def SlAt (H : Hp) (p : Addr) (s : Stp) : Prop := ∃ a b : Addr, H p = some (.tup [.ref a, .ref b]) ∧ H a = some (.tup (nmV s.1)) ∧ H b = some (.tup (nmV s.2.2.2.1))
abbrev Sls (H : Hp) (ps : List Addr) (ss : List Stp) : Prop := Paired (SlAt H) ps ss
theorem SlAt.tk {H H' : Hp} {p : Addr} {s : Stp} (t : Tk H H') (h : SlAt H p s) : SlAt H' p s := by
  obtain ⟨a, b, h1, h2, h3⟩ := h
  exact ⟨a, b, t _ _ h1, t _ _ h2, t _ _ h3⟩
theorem Sls.tk {H H' : Hp} {ps : List Addr} {ss : List Stp} (t : Tk H H') (h : Sls H ps ss) : Sls H' ps ss := paired_imp (fun _ _ => SlAt.tk t) h
def isSeal (s : Stp) : Bool := !decide (s.1 = s.2.2.2.1)
def spSeals (P : Addr) : Sp := fun vs H Q _ => ∃ (b t : Addr) (bs : List Pg) (s : Str) (n : Int), vs = [.ref b, .ref t] ∧ BkAt H b bs ∧ bs.length ≤ 1000 ∧ (bs.map (·.1)).Nodup ∧ NtAt H t s n ∧ TabL H P qSteps ∧
  ∀ (r : Addr) (ps : List Addr) (H' : Hp), But P H H' → TabL H' P qSteps → H r = none → H' r = some (.tup (ps.map V.ref)) → Sls H' ps (((sortS (rowsP bs)).filter (chose s n)).filter isSeal) → Q (.ref r) H'
def s4D (s : Stp) : PyData := .tuple [nmD s.1, .str s.2.1, .str s.2.2.1, nmD s.2.2.2.1]
theorem S4s.dp {K : PySem.W.Frag} {H : Hp} : ∀ {ps : List Addr} {ss : List Stp}, S4s H ps ss → DpAll K H (ps.map V.ref) (ss.map s4D)
  | _, _, .nil => .nil
  | _, _, .cons h t => by
    obtain ⟨a, b, h1, h2, h3⟩ := h
    exact .cons (.tup (SqT.of h1) (.cons (nmD_dp h2) (.cons (.str _) (.cons (.str _) (.cons (nmD_dp h3) .nil))))) (S4s.dp t)
theorem Sls.dp {K : PySem.W.Frag} {H : Hp} : ∀ {ps : List Addr} {ss : List Stp}, Sls H ps ss → DpAll K H (ps.map V.ref) (ss.map keyS)
  | _, _, .nil => .nil
  | _, _, .cons h t => by
    obtain ⟨a, b, h1, h2, h3⟩ := h
    exact .cons (.tup (SqT.of h1) (.cons (nmD_dp h2) (.cons (nmD_dp h3) .nil))) (Sls.dp t)
theorem nm_nice (n : Nm) : Nice 1 (nmD n) := by
  refine Or.inr ⟨_, Or.inr rfl, (show 3 ≤ 100000 by decide), fun e he => ?_⟩
  simp only [List.mem_cons, List.not_mem_nil, or_false] at he
  rcases he with rfl | rfl | rfl <;> exact Nice.flat rfl
theorem s4_nice {ss : List Stp} (h : ss.length ≤ 100000) : Nice 3 (.tuple (ss.map s4D)) := by
  refine Or.inr ⟨_, Or.inr rfl, by rw [List.length_map]; exact h, fun e he => ?_⟩
  obtain ⟨r, _, rfl⟩ := List.mem_map.mp he
  refine Or.inr ⟨_, Or.inr rfl, (show 4 ≤ 100000 by decide), fun e he => ?_⟩
  simp only [List.mem_cons, List.not_mem_nil, or_false] at he
  rcases he with rfl | rfl | rfl | rfl
  · exact nm_nice _
  · exact Nice.flat rfl
  · exact Nice.flat rfl
  · exact nm_nice _
theorem sl_nice {ss : List Stp} (h : ss.length ≤ 100000) : Nice 3 (.tuple (ss.map keyS)) := by
  refine Or.inr ⟨_, Or.inr rfl, by rw [List.length_map]; exact h, fun e he => ?_⟩
  obtain ⟨r, _, rfl⟩ := List.mem_map.mp he
  refine Or.inr ⟨_, Or.inr rfl, (show 2 ≤ 100000 by decide), fun e he => ?_⟩
  simp only [List.mem_cons, List.not_mem_nil, or_false] at he
  rcases he with rfl | rfl
  · exact nm_nice _
  · exact nm_nice _
theorem NeX.mut {H H' : Hp} {D : Addr} {o : HO} (x : NeX H H') (n : H D = none) : NeX H (upd H' D o) := fun a u h e => (upd_ne (ne_of_none e n)).trans (x a u h e)
theorem NeX.trans {H H1 H2 : Hp} (a : NeX H H1) (b : NeX H1 H2) : NeX H H2 := fun x o n e => b x o n (a x o n e)
theorem NeX.of_same {H H' : Hp} (s : Same H H') : NeX H H' := fun a o _ e => s a o e
theorem NeX.refl {H : Hp} : NeX H H := fun _ _ _ e => e
theorem sortS_seals (l : List Stp) : ((sortS l).filter isSeal).mergeSort (PySem.W.dataLe false keyS) = (sortS l).filter isSeal := by
  have T := PySem.W.sortLe_total (PyProof.Rows.listOrd PyProof.Rows.itemOrd) false fun s => PySem.W.keyToks (keyS s)
  have h2 := List.pairwise_mergeSort (le := PySem.W.dataLe false keyS) T.trans (fun a b => Bool.or_eq_true_iff.mpr (T.total a b)) l
  exact List.mergeSort_of_pairwise (List.Pairwise.filter _ h2)
theorem filter_takeS {l : List Stp} {p : Stp → Bool} {j : Nat} {g : Stp} (h : l[j]? = some g) : (l.take (j + 1)).filter p = (l.take j).filter p ++ (if p g = true then [g] else []) := by
  obtain ⟨hl, e⟩ := List.getElem?_eq_some_iff.mp h
  rw [List.take_succ_eq_append_getElem hl, List.filter_append, e]
  congr 1
  by_cases c : p g = true
  · rw [if_pos c]
    simp [c]
  · rw [if_neg c]
    simp [c]
def spRightU (P1 P2 P3 : Addr) : Sp := fun vs H Q _ => ∃ (l N : Addr) (qs : List Addr) (gs : List Pg) (ns : List Addr) (es : List (Str × Int)), vs = [.ref l, .ref N] ∧ H l = some (.lst (qs.map V.ref)) ∧ Pgs H qs gs ∧ gs.length ≤ 100 ∧ (gs.map (·.1)).Nodup ∧
  H N = some (.lst (ns.map V.ref)) ∧ NtsE H ns es ∧ TabL H P1 qSteps ∧ TabL H P2 qLaw ∧ TabL H P3 qBook ∧ P1 ≠ P2 ∧ P1 ≠ P3 ∧ P2 ≠ P3 ∧
  ∀ H', NeX H H' → TabL H' P1 qSteps → TabL H' P2 qLaw → TabL H' P3 qBook → Q (.bl true) H'
def spSomeN : Sp := fun vs H Q _ => ∃ (f c o l : Addr) (low n : Int) (ws : List Wt) (E : List Ed) (qs : List Addr) (gs : List Pg), vs = [.ref f, .ref o, .int low, .ref l] ∧ Fe H f c n ∧ n ≤ 900000 ∧ OfAt H o ws E ∧ OfE ws E ∧ H l = some (.lst (qs.map V.ref)) ∧ l ≠ f ∧ Pgs H qs gs ∧ gs.length ≤ 100 ∧
  ∀ (N : Addr) (ns : List Addr) (es : List (Str × Int)) (H' : Hp), Fe H' f c (n + 40) → But f H H' → H N = none → N ≠ f → H' N = some (.lst (ns.map V.ref)) → NtsE H' ns es → es.length ≤ 400000 → Q (.ref N) H'
/-- as in labl.lean -/
def rLenS (K : PySem.W.Frag) : List V → Hp → VK → Prop := fun xs H Q => ∃ (p : Addr) (ys : List V), xs = [.ref p] ∧ (SqL K H p ys ∨ SqT K H p ys) ∧ Q (.int (ys.length : Int)) H
theorem paired_take {α β : Type} {F : α → β → Prop} : ∀ {as : List α} {bs : List β} (n : Nat), Paired F as bs → Paired F (as.take n) (bs.take n)
  | _, _, 0, _ => by
    rw [List.take_zero, List.take_zero]
    exact .nil
  | _, _, _ + 1, .nil => .nil
  | _, _, n + 1, .cons a b => .cons a (paired_take n b)
theorem paired_drop {α β : Type} {F : α → β → Prop} : ∀ {as : List α} {bs : List β} (n : Nat), Paired F as bs → Paired F (as.drop n) (bs.drop n)
  | _, _, 0, h => h
  | _, _, _ + 1, .nil => .nil
  | _, _, n + 1, .cons _ b => paired_drop n b
theorem paired_cut {β : Type} {F : Addr → β → Prop} {ns : List Addr} {es : List β} (h : Paired F ns es) (lo hi : Option Int) : ∃ ns' es', cutV (ns.map V.ref) lo hi = ns'.map V.ref ∧ Paired F ns' es' := by
  unfold cutV
  rw [← List.map_drop, ← List.map_take]
  exact ⟨_, _, rfl, paired_take _ (paired_drop _ h)⟩
theorem paired_pick {β : Type} {F : Addr → β → Prop} {ps : List Addr} {es : List β} {d : Int} (h : Paired F ps es) (d0 : 0 ≤ d) (d1 : d < (((ps.map V.ref).length : Nat) : Int)) : ∃ p e, atI (ps.map V.ref) d = some (.ref p) ∧ F p e := by
  rw [List.length_map] at d1
  obtain ⟨k, rfl⟩ : ∃ k : Nat, d = (k : Int) := ⟨d.toNat, by omega⟩
  have hk : k < ps.length := by omega
  obtain ⟨m, m1, m2⟩ := paired_get h (List.getElem?_eq_getElem hk)
  exact ⟨ps[k], m, atI_nat (by rw [List.getElem?_map, List.getElem?_eq_getElem hk]; rfl), m2⟩
def ntD (e : Str × Int) : PyData := .tuple [.str e.1, .int e.2]
theorem nts_plain : ∀ fs : List (Str × Int), PyData.plainAll (fs.map ntD) = true ∧ PyData.depthAll (fs.map ntD) ≤ 5
  | [] => ⟨rfl, by simp [PyData.depthAll]⟩
  | e :: fs => by
    obtain ⟨h1, h2⟩ := nts_plain fs
    refine ⟨?_, ?_⟩
    · rw [List.map_cons]
      simp [PyData.plainAll, PyData.plain, ntD, h1]
    · rw [List.map_cons]
      simp only [PyData.depthAll, ntD, PyData.depth] at *
      omega
theorem NtsE.dp {K : PySem.W.Frag} {H : Hp} : ∀ {ns : List Addr} {es : List (Str × Int)}, NtsE H ns es → DpAll K H (ns.map V.ref) (es.map ntD)
  | _, _, .nil => .nil
  | _, _, .cons h t => .cons (.tup (SqT.of h) (.cons (.str _) (.cons (.int _) .nil))) (NtsE.dp t)
section
variable {f c P1 P2 P3 : Addr} {H H' : Hp} {n : Int}
theorem LwS.nx (h : LwS f c P1 P2 P3 H n) (x : NeX H H') (t1 : TabL H' P1 qSteps) (t2 : TabL H' P2 qLaw) (t3 : TabL H' P3 qBook) : LwS f c P1 P2 P3 H' n := ⟨h.fe.nx x, t1, t2, t3⟩
theorem LwS.lsteps (h : LwS f c P1 P2 P3 H n) (n1 : P1 ≠ P2) (n3 : P2 ≠ P3) (b : But P2 H H') (t2 : TabL H' P2 qLaw) : LwS f c P1 P2 P3 H' n ∧ NeX H H' := by
  obtain ⟨φ, hP⟩ := h.t2.at
  have x := NeX.of_but hP b
  exact ⟨⟨h.fe.nx x, h.t2.other n1 b h.t1, t2, h.t2.other n3.symm b h.t3⟩, x⟩
end
theorem paired_with {α β : Type} {F G : α → β → Prop} {P : β → Prop} (f : ∀ a b, F a b → G a b) : ∀ {as : List α} {bs : List β}, Paired F as bs → (∀ b ∈ bs, P b) → Paired (fun a b => G a b ∧ P b) as bs
  | _, _, .nil, _ => .nil
  | _, _, .cons a b, h => .cons ⟨f _ _ a, h _ List.mem_cons_self⟩ (paired_with f b fun x hx => h x (List.mem_cons_of_mem _ hx))
/-! ### list.extend(a tuple) -/
theorem extend_tup {a b : Addr} {us ws : Array Value} {n m : Nat} {dd : Option Addr} {sl : Array (Option Value)} (h0 : ¬(!us.isEmpty && Builtin.List.listTooLong (us.size + ws.size)) = true) (h1 : us.size ≤ sizeLine) (h2 : us.size + ws.size ≤ sizeLine + 1) :
    Meets (Builtin.«list.extend» ⟨[.ref a, .ref b], []⟩) fun _ R s => s.heap.get? a = some { cls := .type "list", dict := none, data := .seq us n, slots := #[] } ∧ s.heap.get? b = some { cls := .type "tuple", dict := dd, data := .seq ws m, slots := sl } ∧
      R (.ok (.ret Value.none)) { s with heap := s.heap.update a (Obj.mapSeq (· ++ ws)), toks := s.toks } := by
  refine .of_wp fun prog w A R s h => ?_
  rcases s with ⟨hp, gg, dr, tk, os⟩
  rcases h with ⟨ga, gb, q⟩
  have k1 := AutoSeq1.idx_int
  have k2 := AutoSeq1.sub_tuple_tuple
  have k3 := AutoSeq1.sub_list_list
  have k4 := AutoSeq1.sub_tuple_list
  have k5 := AutoSeq1.sub_list_tuple
  have zz : (us ++ ws).size ≤ sizeLine + 1 := by rw [Array.size_append]; exact h2
  wp_walk using (wpAny_updateSeq ga rfl (hz := h1) (_hz' := zz)), AutoSeq1.wpAny_loadPart' ga, AutoSeq1.wpAny_loadPart' gb
  exact ⟨_, rfl, q⟩
def rExtT (K : PySem.W.Frag) : V → List V → Hp → VK → Prop := fun x vs H Q => ∃ l b xs zs, x = .ref l ∧ vs = [.ref b] ∧ H l = some (.lst xs) ∧ SqT K H b zs ∧ xs.length + zs.length ≤ sizeLine ∧ Q .non (upd H l (.lst (xs ++ zs)))
theorem mt_extT {X : Cx} : MtM X "list.extend" (rExtT X.K) := by
  intro pins s σ H x vs v us Q I rx rv h
  obtain ⟨l, b, xs, zs, rfl, rfl, hH, hB, hz, q⟩ := h
  cases rx
  obtain ⟨u, rfl, ru⟩ := rv.one
  cases ru
  obtain ⟨z, its, n, r, hl, e⟩ := I.lstM hH
  obtain ⟨its2, r2, ⟨o2, e2, hc2, n2, hd2⟩, z2⟩ := I.tuple hB
  have hl2 := r2.length
  obtain ⟨cls, dd, dat, sl⟩ := o2
  have hc2 : cls = .type "tuple" := hc2
  have hd2 : dat = .seq its2.toArray n2 := hd2
  subst hc2 hd2
  have hsz : its.toArray.size + its2.toArray.size ≤ sizeLine := by rw [List.size_toArray, List.size_toArray]; omega
  have hlong : ¬ (!its.toArray.isEmpty && Builtin.List.listTooLong (its.toArray.size + its2.toArray.size)) = true := by
    rw [notLongL hsz, Bool.and_false]
    exact Bool.false_ne_true
  refine call_meets F.slot_list_extend ⟨_, e, rfl⟩ F.entry_list_extend (F.args_list_extend_2 _ _)
    (extend_tup hlong (by rw [List.size_toArray]; omega) (by omega)) ⟨e, e2, ?_⟩
  refine ⟨.non, _, I.lset (its' := its ++ its2) hH e (by simp) (r.append r2) ?_, rfl, q⟩
  rw [List.length_append]
  omega
/-! ### books whose runs are of kind; last steps, what is seen -/
def RkL (xs : List Str) (low : Int) (r : Rn) : Prop := r.1 ∈ xs ∧ low ≤ r.2.1 ∧ r.2.1 < r.2.2 ∧ r.2.2 ≤ low + 34
structure RsL (xs : List Str) (low : Int) (rs : List Rn) : Prop where
  ca : Canon rs
  ok : ∀ r ∈ rs, RkL xs low r
def DdL (E : List Ed) (xs : List Str) (low : Int) : Dd → Prop
  | .mv a b rs => (a, b) ∈ E ∧ RsL xs low rs
  | .bag a b n => (a, b) ∈ E ∧ 1 ≤ n ∧ n ≤ 30
  | .rd _ rs => RsL xs low rs
  | _ => True
theorem RsL.nil {xs : List Str} {low : Int} : RsL xs low [] := ⟨canon_nil, fun _ h => nomatch h⟩
theorem RsL.full {xs : List Str} {low : Int} {rs : List Rn} (h : RsL xs low rs) : Full rs := h.ca.2
/-- runs apart have each a beginning of its own -/
theorem canon_lows : ∀ {rs : List Rn}, Canon rs → (rs.map fun r => (r.1, r.2.1)).Nodup
  | [], _ => List.nodup_nil
  | x :: rs, h => by
    rw [List.map_cons, List.nodup_cons]
    refine ⟨fun z => ?_, canon_lows h.tail⟩
    obtain ⟨y, hy, e⟩ := List.mem_map.mp z
    have e1 : y.1 = x.1 := (Prod.mk.inj e).1
    have e2 : y.2.1 = x.2.1 := (Prod.mk.inj e).2
    have fx := h.2 x List.mem_cons_self
    rcases (apart_iff x y).mp ((List.pairwise_cons.mp h.1).1 y hy) with ⟨_, l⟩ | l
    · omega
    · rw [e1] at l
      exact sl_irr _ l
theorem RsL.len {xs : List Str} {low : Int} {rs : List Rn} (h : RsL xs low rs) (hx : xs.length ≤ 8) : rs.length ≤ 272 := by
  have z := sub_len (m := xs.flatMap fun x => (List.range 34).map fun (k : Nat) => (x, low + (k : Int))) (canon_lows h.ca) fun p hp => by
    obtain ⟨r, hr, rfl⟩ := List.mem_map.mp hp
    obtain ⟨h1, h2, h3, h4⟩ := h.ok r hr
    refine List.mem_flatMap.mpr ⟨r.1, h1, List.mem_map.mpr ⟨(r.2.1 - low).toNat, List.mem_range.mpr (by omega), ?_⟩⟩
    exact Prod.ext rfl (show low + (((r.2.1 - low).toNat : Nat) : Int) = r.2.1 by omega)
  have l : (xs.flatMap fun x => (List.range 34).map fun (k : Nat) => (x, low + (k : Int))).length = 34 * xs.length := by
    clear hx z h
    induction xs with
    | nil => rfl
    | cons x xs ih => rw [List.flatMap_cons, List.length_append, ih, List.length_map, List.length_range, List.length_cons]; omega
  rw [List.length_map, l] at z
  omega
theorem push_allK (D : Rn → Prop) (h : ∀ l r : Rn, D l → D r → D (l.1, l.2.1, if r.2.2 > l.2.2 then r.2.2 else l.2.2)) : ∀ (l acc : List Rn), (∀ x ∈ l, D x) → (∀ x ∈ acc, D x) → ∀ x ∈ l.foldl push acc, D x
  | [], acc, _, h2 => h2
  | r :: l, acc, h1, h2 => by
    refine push_allK D h l _ (fun x hx => h1 x (List.mem_cons_of_mem _ hx)) ?_
    have hr := h1 r List.mem_cons_self
    rcases nil_or_snoc acc with rfl | ⟨i, z, rfl⟩
    · intro x hx
      rw [List.mem_singleton.mp (show x ∈ [r] from hx)]
      exact hr
    · rw [push_snoc]
      split
      · intro x hx
        rcases List.mem_append.mp hx with hx | hx
        · exact h2 x hx
        · rw [List.mem_singleton.mp hx]
          exact hr
      · intro x hx
        rcases List.mem_append.mp hx with hx | hx
        · exact h2 x (List.mem_append_left _ hx)
        · rw [List.mem_singleton.mp hx]
          exact h z r (h2 z (List.mem_append_right _ List.mem_cons_self)) hr
theorem runsOf_L {xs : List Str} {low : Int} {rs : List Rn} (h : ∀ r ∈ rs, RkL xs low r) : RsL xs low (runsOf rs) ∧ ∀ s n, has (runsOf rs) s n ↔ has rs s n := by
  obtain ⟨c, k⟩ := runsOf_ok (rs := rs) fun r hr => (h r hr).2.2.1
  refine ⟨⟨c, ?_⟩, k⟩
  refine push_allK (RkL xs low) (fun l r hl hr => ?_) _ [] (fun x hx => h x (List.mem_mergeSort.mp hx)) fun _ h => nomatch h
  obtain ⟨a1, a2, a3, a4⟩ := hl
  obtain ⟨b1, b2, b3, b4⟩ := hr
  refine ⟨a1, a2, ?_, ?_⟩
  · show l.2.1 < if r.2.2 > l.2.2 then r.2.2 else l.2.2
    split <;> omega
  · show (if r.2.2 > l.2.2 then r.2.2 else l.2.2) ≤ _
    split <;> omega
theorem tog_L {xs : List Str} {low : Int} {a b : List Rn} (ha : RsL xs low a) (hb : RsL xs low b) : RsL xs low (togL a b) ∧ ∀ s n, has (togL a b) s n ↔ has a s n ∨ has b s n := by
  obtain ⟨h1, h2⟩ := runsOf_L (xs := xs) (low := low) (rs := a ++ b) fun r hr => by
    rcases List.mem_append.mp hr with hr | hr
    · exact ha.ok r hr
    · exact hb.ok r hr
  exact ⟨h1, fun s n => (h2 s n).trans (has_app a b s n)⟩
theorem less_L {xs : List Str} {low : Int} {a b : List Rn} (ha : RsL xs low a) (hb : RsL xs low b) : RsL xs low (lessL a b) ∧ ∀ s n, has (lessL a b) s n ↔ has a s n ∧ ¬ has b s n := by
  obtain ⟨h1, h2, h3⟩ := less_ok a b ha.ca hb.ca
  refine ⟨⟨h1, fun r hr => ?_⟩, h3⟩
  obtain ⟨u, hu, e1, e2, e3⟩ := h2 r hr
  obtain ⟨u1, u2, u3, u4⟩ := ha.ok u hu
  exact ⟨by rw [e1]; exact u1, by omega, h1.2 r hr, by omega⟩
theorem hasR_iff (rs : List Rn) (s : Str) (n : Int) : hasR rs s n = true ↔ has rs s n := by
  unfold hasR has
  rw [List.any_eq_true]
  simp only [Bool.and_eq_true, decide_eq_true_eq]
theorem has_some {xs : List Str} {low : Int} {rs : List Rn} (h : RsL xs low rs) (n : rs ≠ []) : ∃ s m, has rs s m := by
  match rs, n with
  | x :: l, _ => exact ⟨x.1, x.2.1, x, List.mem_cons_self, rfl, Int.le_refl _, h.ca.2 x List.mem_cons_self⟩
theorem has_in {xs : List Str} {low : Int} {rs : List Rn} (h : RsL xs low rs) {s : Str} {n : Int} (k : has rs s n) : s ∈ xs ∧ low ≤ n ∧ n < low + 34 := by
  obtain ⟨r, hr, e, k1, k2⟩ := k
  obtain ⟨h1, h2, h3, h4⟩ := h.ok r hr
  exact ⟨e ▸ h1, by omega, by omega⟩
/-! rows of kind -/
theorem stp_runs {E : List Ed} {xs : List Str} {low : Int} {bs : List Pg} {g : Pg} (h : DdL E xs low g.2) {s : Stp} (hs : s ∈ stp bs g) : RsL xs low s.2.2.2.2 := by
  obtain ⟨nm, dd⟩ := g
  cases dd with
  | mv a b rs => rw [List.mem_singleton.mp (show s ∈ [(nm, a, b, nm, rs)] from hs)]; exact h.2
  | rd m rs => rw [List.mem_singleton.mp (show s ∈ [(m, (abN bs m).1, (abN bs m).2, nm, rs)] from hs)]; exact h
  | bag a b n => exact nomatch (show s ∈ [] from hs)
  | ct a n => exact nomatch (show s ∈ [] from hs)
  | vd m => exact nomatch (show s ∈ [] from hs)
theorem rowsP_ok {E : List Ed} {xs : List Str} {low : Int} {bs : List Pg} (h : ∀ g ∈ bs, DdL E xs low g.2) : ∀ s ∈ rowsP bs, RsL xs low s.2.2.2.2 := fun s hs => by
  obtain ⟨g, hg, k⟩ := List.mem_flatMap.mp hs
  exact stp_runs (h g (List.mem_filter.mp hg).1) k
theorem rowsL_ok {E : List Ed} {xs : List Str} {low : Int} {bs : List Pg} (h : ∀ g ∈ bs, DdL E xs low g.2) : ∀ s ∈ rowsL bs, RsL xs low s.2.2.2.2 := fun s hs => by
  obtain ⟨g, hg, k⟩ := List.mem_flatMap.mp hs
  exact stp_runs (h g (List.mem_filter.mp hg).1) k
/-! the last steps -/
abbrev Lst := Nm × Str × List Rn
def lastF : List Rn → List Stp → List Lst
  | _, [] => []
  | acc, x :: l => (if lessL x.2.2.2.2 acc = [] then [] else [(x.2.2.2.1, x.2.2.1, lessL x.2.2.2.2 acc)]) ++ lastF (togL acc x.2.2.2.2) l
theorem lastF_cons (acc : List Rn) (x : Stp) (l : List Stp) : lastF acc (x :: l) = (if lessL x.2.2.2.2 acc = [] then [] else [(x.2.2.2.1, x.2.2.1, lessL x.2.2.2.2 acc)]) ++ lastF (togL acc x.2.2.2.2) l := rfl
theorem lastF_len : ∀ (R : List Stp) (acc : List Rn), (lastF acc R).length ≤ R.length
  | [], _ => Nat.le_refl _
  | x :: l, acc => by
    have z := lastF_len l (togL acc x.2.2.2.2)
    unfold lastF
    rw [List.length_append, List.length_cons]
    split
    · exact Nat.le_trans (by rw [List.length_nil]; omega) (Nat.le_succ_of_le z)
    · rw [List.length_singleton]
      omega
theorem lastF_from : ∀ (R : List Stp) (acc : List Rn) (y : Lst), y ∈ lastF acc R → ∃ x ∈ R, x.2.2.2.1 = y.1 ∧ x.2.2.1 = y.2.1
  | [], _, _, h => nomatch h
  | x :: l, acc, y, h => by
    unfold lastF at h
    rcases List.mem_append.mp h with h | h
    · split at h
      · exact nomatch h
      · rw [List.mem_singleton.mp h]
        exact ⟨x, List.mem_cons_self, rfl, rfl⟩
    · obtain ⟨z, hz, k⟩ := lastF_from l _ y h
      exact ⟨z, List.mem_cons_of_mem _ hz, k⟩
theorem lastF_ok {xs : List Str} {low : Int} : ∀ (R : List Stp) (acc : List Rn), RsL xs low acc → (∀ s ∈ R, RsL xs low s.2.2.2.2) → ∀ y ∈ lastF acc R, RsL xs low y.2.2 ∧ y.2.2 ≠ []
  | [], _, _, _, _, h => nomatch h
  | x :: l, acc, ha, hR, y, h => by
    have hx := hR x List.mem_cons_self
    unfold lastF at h
    rcases List.mem_append.mp h with h | h
    · split at h
      · exact nomatch h
      · rename_i c
        rw [List.mem_singleton.mp h]
        exact ⟨(less_L hx ha).1, c⟩
    · exact lastF_ok l _ (tog_L ha hx).1 (fun s hs => hR s (List.mem_cons_of_mem _ hs)) y h
theorem lastF_has {xs : List Str} {low : Int} (G : Nm → Str → Prop) (s : Str) (n : Int) : ∀ (R : List Stp) (acc : List Rn), RsL xs low acc → (∀ s ∈ R, RsL xs low s.2.2.2.2) →
    ((∃ y ∈ lastF acc R, G y.1 y.2.1 ∧ has y.2.2 s n) ↔ ¬ has acc s n ∧ ∃ x, R.find? (chose s n) = some x ∧ G x.2.2.2.1 x.2.2.1)
  | [], _, _, _ => by
    refine ⟨fun ⟨_, h, _⟩ => (nomatch h), fun ⟨_, _, h, _⟩ => (nomatch h)⟩
  | x :: l, acc, ha, hR => by
    have hx := hR x List.mem_cons_self
    obtain ⟨l1, l2⟩ := less_L hx ha
    obtain ⟨t1, t2⟩ := tog_L ha hx
    have ih := lastF_has G s n l (togL acc x.2.2.2.2) t1 fun s hs => hR s (List.mem_cons_of_mem _ hs)
    have first : (∃ y ∈ (if lessL x.2.2.2.2 acc = [] then [] else [(x.2.2.2.1, x.2.2.1, lessL x.2.2.2.2 acc)] : List Lst), G y.1 y.2.1 ∧ has y.2.2 s n) ↔ (G x.2.2.2.1 x.2.2.1 ∧ has x.2.2.2.2 s n ∧ ¬ has acc s n) := by
      constructor
      · rintro ⟨y, hy, g, k⟩
        split at hy
        · exact nomatch hy
        · rw [List.mem_singleton.mp hy] at g k
          exact ⟨g, (l2 s n).mp k⟩
      · rintro ⟨g, k⟩
        have k := (l2 s n).mpr k
        refine ⟨(x.2.2.2.1, x.2.2.1, lessL x.2.2.2.2 acc), ?_, g, k⟩
        rw [if_neg (fun z => by rw [z] at k; exact has_nil _ _ k)]
        exact List.mem_cons_self
    have e : (∃ y ∈ lastF acc (x :: l), G y.1 y.2.1 ∧ has y.2.2 s n) ↔ ((G x.2.2.2.1 x.2.2.1 ∧ has x.2.2.2.2 s n ∧ ¬ has acc s n) ∨ (¬ (has acc s n ∨ has x.2.2.2.2 s n) ∧ ∃ x, l.find? (chose s n) = some x ∧ G x.2.2.2.1 x.2.2.1)) := by
      rw [← first, ← t2, ← ih, lastF_cons]
      constructor
      · rintro ⟨y, hy, k⟩
        rcases List.mem_append.mp hy with hy | hy
        · exact .inl ⟨y, hy, k⟩
        · exact .inr ⟨y, hy, k⟩
      · rintro (⟨y, hy, k⟩ | ⟨y, hy, k⟩)
        · exact ⟨y, List.mem_append_left _ hy, k⟩
        · exact ⟨y, List.mem_append_right _ hy, k⟩
    rw [e, List.find?_cons]
    cases c : chose s n x with
    | true =>
      have c' : has x.2.2.2.2 s n := (hasR_iff _ _ _).mp c
      constructor
      · rintro (⟨g, _, k⟩ | ⟨k, _⟩)
        · exact ⟨k, x, rfl, g⟩
        · exact absurd (.inr c') k
      · rintro ⟨k, y, hy, g⟩
        cases Option.some.inj hy
        exact .inl ⟨g, c', k⟩
    | false =>
      have c' : ¬ has x.2.2.2.2 s n := fun z => by
        have z := (hasR_iff _ _ _).mpr z
        have c : hasR x.2.2.2.2 s n = false := c
        rw [z] at c
        cases c
      constructor
      · rintro (⟨_, k, _⟩ | ⟨k, z⟩)
        · exact absurd k c'
        · exact ⟨fun q => k (.inl q), z⟩
      · rintro ⟨k, z⟩
        exact .inr ⟨fun q => q.elim k c', z⟩
theorem find_last {α : Type} (p : α → Bool) (l : List α) : l.reverse.find? p = (l.filter p).getLast? := by
  rw [← List.head?_filter, List.filter_reverse, List.head?_reverse]
/-- what the book told last of a note -/
def lastOf (gs : List Pg) (s : Str) (n : Int) : Option Stp := (sortS ((rowsL gs).filter (chose s n))).getLast?
def lasts0 (bs : List Pg) : List Lst := lastF [] (sortS (rowsP bs)).reverse
theorem sortS_mem {l : List Stp} {x : Stp} : x ∈ sortS l ↔ x ∈ l := List.mem_mergeSort
theorem lasts_has {E : List Ed} {xs : List Str} {low : Int} {bs gs : List Pg} (p : bs.Perm gs) (nd : (gs.map (·.1)).Nodup) (h : ∀ g ∈ gs, DdL E xs low g.2) (G : Nm → Str → Prop) (s : Str) (n : Int) :
    (∃ y ∈ lasts0 bs, G y.1 y.2.1 ∧ has y.2.2 s n) ↔ ∃ x, lastOf gs s n = some x ∧ G x.2.2.2.1 x.2.2.1 := by
  have hb : ∀ g ∈ bs, DdL E xs low g.2 := fun g hg => h g (p.mem_iff.mp hg)
  have z := lastF_has (xs := xs) (low := low) G s n (sortS (rowsP bs)).reverse [] RsL.nil fun s hs => rowsP_ok hb s (sortS_mem.mp (List.mem_reverse.mp hs))
  rw [find_last, steps_eq p nd] at z
  refine z.trans ⟨fun k => k.2, fun k => ⟨has_nil _ _, k⟩⟩
theorem lastOf_in {E : List Ed} {xs : List Str} {low : Int} {gs : List Pg} (h : ∀ g ∈ gs, DdL E xs low g.2) {s : Str} {n : Int} {x : Stp} (k : lastOf gs s n = some x) : s ∈ xs ∧ low ≤ n ∧ n < low + 34 := by
  have m := sortS_mem.mp (List.mem_of_getLast? k)
  obtain ⟨m1, m2⟩ := List.mem_filter.mp m
  exact has_in (rowsL_ok h x m1) ((hasR_iff _ _ _).mp m2)
theorem lasts_ok {E : List Ed} {xs : List Str} {low : Int} {bs : List Pg} (h : ∀ g ∈ bs, DdL E xs low g.2) : ∀ y ∈ lasts0 bs, RsL xs low y.2.2 ∧ y.2.2 ≠ [] :=
  lastF_ok _ _ RsL.nil fun s hs => rowsP_ok h s (sortS_mem.mp (List.mem_reverse.mp hs))
/-! what is seen -/
def seenL (L : List Lst) (p : Str) : List Rn := runsOf ((L.filter fun y => decide (y.2.1 = p)).flatMap fun y => y.2.2)
theorem seen_ok {xs : List Str} {low : Int} {L : List Lst} (h : ∀ y ∈ L, RsL xs low y.2.2) (p : Str) : RsL xs low (seenL L p) ∧ ∀ s n, has (seenL L p) s n ↔ ∃ y ∈ L, y.2.1 = p ∧ has y.2.2 s n := by
  obtain ⟨h1, h2⟩ := runsOf_L (xs := xs) (low := low) (rs := (L.filter fun y => decide (y.2.1 = p)).flatMap fun y => y.2.2) fun r hr => by
    obtain ⟨y, hy, k⟩ := List.mem_flatMap.mp hr
    exact (h y (List.mem_filter.mp hy).1).ok r k
  refine ⟨h1, fun s n => (h2 s n).trans ⟨?_, ?_⟩⟩
  · rintro ⟨r, hr, k⟩
    obtain ⟨y, hy, kr⟩ := List.mem_flatMap.mp hr
    obtain ⟨y1, y2⟩ := List.mem_filter.mp hy
    exact ⟨y, y1, of_decide_eq_true y2, r, kr, k⟩
  · rintro ⟨y, hy, e, r, kr, k⟩
    exact ⟨r, List.mem_flatMap.mpr ⟨y, List.mem_filter.mpr ⟨hy, decide_eq_true e⟩, kr⟩, k⟩
/-! notes gathered -/
abbrev Nt := Str × Int
def oneR (e : Nt) : Rn := (e.1, e.2, e.2 + 1)
def ntLt (a b : Nt) : Prop := sl a.1 b.1 ∨ (a.1 = b.1 ∧ a.2 < b.2)
def gathL (es : List Nt) : List Rn := (es.map oneR).foldl join []
theorem gath_ok {es : List Nt} (h : es.Pairwise ntLt) : Canon (gathL es) ∧ ∀ s n, has (gathL es) s n ↔ (s, n) ∈ es := by
  have v : (es.map oneR).Pairwise Vk := List.Pairwise.map _ (fun a b k => by
    rcases k with k | ⟨k1, k2⟩
    · exact .inr k
    · exact .inl ⟨k1, show a.2 + 1 ≤ b.2 by omega⟩) h
  have f : Full (es.map oneR) := fun r hr => by
    obtain ⟨e, _, rfl⟩ := List.mem_map.mp hr
    show e.2 < e.2 + 1
    omega
  have w : (es.map oneR).Pairwise Wk := List.Pairwise.map _ (fun a b k => by
    rcases k with k | ⟨k1, k2⟩
    · exact .inr k
    · exact .inl ⟨k1, show a.2 ≤ b.2 by omega⟩) h
  have e : gathL es = merge (es.map oneR) := fold_join _ [] (fun x hx => nomatch hx) v f
  rw [e]
  obtain ⟨m1, m2⟩ := merge_ok w f
  refine ⟨m1, fun s n => (m2 s n).trans ⟨?_, fun k => ?_⟩⟩
  · rintro ⟨r, hr, e1, k1, k2⟩
    obtain ⟨e, he, rfl⟩ := List.mem_map.mp hr
    have e1 : e.1 = s := e1
    have k1 : e.2 ≤ n := k1
    have k2 : n < e.2 + 1 := k2
    have : e = (s, n) := Prod.ext e1 (show e.2 = n by omega)
    rw [← this]
    exact he
  · exact ⟨oneR (s, n), List.mem_map.mpr ⟨_, k, rfl⟩, rfl, Int.le_refl _, show n < n + 1 by omega⟩
theorem ntD_le (a b : Nt) : PySem.W.dataLe false ntD a b = true ↔ sl a.1 b.1 ∨ (a.1 = b.1 ∧ a.2 ≤ b.2) := lexLe_iff a.1 a.2 b.1 b.2
def sortN (es : List Nt) : List Nt := es.mergeSort (PySem.W.dataLe false ntD)
theorem sortN_up {es : List Nt} (nd : es.Nodup) : (sortN es).Pairwise ntLt := by
  have up := List.pairwise_mergeSort (le := PySem.W.dataLe false ntD) (fun a b c h1 h2 => by
    rw [ntD_le] at *
    rcases h1 with k | ⟨e, k⟩ <;> rcases h2 with k' | ⟨e', k'⟩
    · exact .inl (sl_tr k k')
    · exact .inl (e' ▸ k)
    · exact .inl (e ▸ k')
    · exact .inr ⟨e.trans e', by omega⟩) (fun a b => by
    rw [Bool.or_eq_true, ntD_le, ntD_le]
    rcases sl_tot a.1 b.1 with k | k | k
    · exact .inl (.inl k)
    · by_cases c : a.2 ≤ b.2
      · exact .inl (.inr ⟨k, c⟩)
      · exact .inr (.inr ⟨k.symm, by omega⟩)
    · exact .inr (.inl k)) es
  have nd3 : (sortN es).Nodup := (List.mergeSort_perm es _).nodup_iff.mpr nd
  refine (up.and nd3).imp fun {a b} h => ?_
  rcases (ntD_le a b).mp h.1 with k | ⟨e, k⟩
  · exact .inl k
  · refine .inr ⟨e, ?_⟩
    have : a.2 ≠ b.2 := fun z => h.2 (Prod.ext e z)
    omega
theorem gathS_ok {es : List Nt} (nd : es.Nodup) : Canon (gathL (sortN es)) ∧ ∀ s n, has (gathL (sortN es)) s n ↔ (s, n) ∈ es := by
  obtain ⟨h1, h2⟩ := gath_ok (sortN_up nd)
  exact ⟨h1, fun s n => (h2 s n).trans List.mem_mergeSort⟩
/-! ### drawn books of kind: promises -/
def spWordsL : Sp := fun vs H Q _ => ∃ (f c : Addr) (m : Nat) (n : Int), vs = [.ref f, .int m] ∧ Fe H f c n ∧ n ≤ 800000 ∧ m ≤ 8 ∧
  ∀ (l : Addr) (xs : List Str) (H' : Hp), Fe H' f c (n + 4) → But f H H' → H l = none → H' l = some (.lst (xs.map V.str)) → xs.length = m → (∀ x ∈ xs, NmOk x ∧ x ≠ gNone) → xs.Nodup → Q (.ref l) H'
def spOfficeL : Sp := fun vs H Q _ => ∃ (f c : Addr) (n : Int), vs = [.ref f] ∧ Fe H f c n ∧ n ≤ 600000 ∧
  ∀ (o : Addr) (ws : List Wt) (E : List Ed) (H' : Hp), Fe H' f c (n + 200) → But f H H' → H o = none → OfAt H' o ws E → OfE ws E → (ws.map (·.1)).Pairwise sl → Q (.ref o) H'
def spLowL : Sp := fun vs H Q _ => ∃ (f c : Addr) (n : Int), vs = [.ref f] ∧ Fe H f c n ∧ n ≤ 800000 ∧
  ∀ (d : Int) (H' : Hp), 0 ≤ d → d ≤ 999999960 → Fe H' f c (n + 3) → But f H H' → (∀ a, H a = none → H' a = none) → Q (.int d) H'
def spRunsL : Sp := fun vs H Q _ => ∃ (f c l : Addr) (low n : Int) (xs : List Str), vs = [.ref f, .ref l, .int low] ∧ Fe H f c n ∧ n ≤ 700000 ∧ 0 ≤ low ∧ low ≤ 999999960 ∧ H l = some (.lst (xs.map V.str)) ∧ l ≠ f ∧ 0 < xs.length ∧ xs.length ≤ 8 ∧ xs.Pairwise sl ∧
  ∀ (u : Addr) (rs : List Rn) (H' : Hp), Fe H' f c (n + 60) → But f H H' → H u = none → RnsT H' u rs → rs.length ≤ 20 → RsL xs low rs → Q (.ref u) H'
def spDeedL : Sp := fun vs H Q _ => ∃ (f c o L Kd : Addr) (k : Nat) (low n : Int) (ws : List Wt) (E : List Ed) (ps : List Addr) (ns : List Nm) (ks : List Str), vs = [.ref f, .ref o, .ref L, .ref Kd, .int k, .int low] ∧ Fe H f c n ∧ n ≤ 600000 ∧
  OfAt H o ws E ∧ OfE ws E ∧ (ws.map (·.1)).Pairwise sl ∧ H L = some (.lst (ps.map V.ref)) ∧ L ≠ f ∧ Nms H ps ns ∧ ns.length ≤ 39 ∧ H Kd = some (.lst (ks.map V.str)) ∧ Kd ≠ f ∧ ks.length = ns.length ∧ k < ks.length ∧ 0 ≤ low ∧ low ≤ 999999960 ∧
  ∀ (t : Addr) (d : Dd) (H' : Hp), Fe H' f c (n + 100) → But f H H' → H t = none → DdAt H' t d → DdL E (ws.map (·.1)) low d → Q (.ref t) H'
def spPagesL : Sp := fun vs H Q _ => ∃ (f c o : Addr) (m : Nat) (low n : Int) (ws : List Wt) (E : List Ed), vs = [.ref f, .ref o, .int m, .int low] ∧ Fe H f c n ∧ n ≤ 500000 ∧ OfAt H o ws E ∧ OfE ws E ∧ (ws.map (·.1)).Pairwise sl ∧ m ≤ 39 ∧ 0 ≤ low ∧ low ≤ 999999960 ∧
  ∀ (l : Addr) (qs : List Addr) (gs : List Pg) (H' : Hp), Fe H' f c (n + 5000) → But f H H' → H l = none → H' l = some (.lst (qs.map V.ref)) → Pgs H' qs gs → gs.length = m → (gs.map (·.1)).Nodup → (∀ g ∈ gs, NmK g.1) → (∀ g ∈ gs, DdL E (ws.map (·.1)) low g.2) → Q (.ref l) H'
def spKnotL : Sp := fun vs H Q _ => ∃ (f c o : Addr) (low n : Int) (ws : List Wt) (E : List Ed), vs = [.ref f, .ref o, .int low] ∧ Fe H f c n ∧ n ≤ 550000 ∧ OfAt H o ws E ∧ OfE ws E ∧ (ws.map (·.1)).Pairwise sl ∧ 0 ≤ low ∧ low ≤ 999999960 ∧
  ∀ (l : Addr) (qs : List Addr) (gs : List Pg) (H' : Hp), Fe H' f c (n + 500) → But f H H' → H l = none → H' l = some (.lst (qs.map V.ref)) → Pgs H' qs gs → gs.map (fun g => g.1.2.1) = [500, 501, 502, 503, 504] → (∀ g ∈ gs, 0 ≤ g.1.1 ∧ g.1.1 ≤ 99 ∧ g.1.2.2 = wB) → (∀ g ∈ gs, DdL E (ws.map (·.1)) low g.2) → Q (.ref l) H'
def spBegunL : Sp := fun vs H Q _ => ∃ (f c : Addr) (n : Int), vs = [.ref f] ∧ Fe H f c n ∧ n ≤ 400000 ∧
  ∀ (t o l : Addr) (low : Int) (ws : List Wt) (E : List Ed) (qs : List Addr) (gs : List Pg) (H' : Hp), Fe H' f c (n + 6000) → But f H H' → H t = none → H' t = some (.tup [.ref o, .int low, .ref l]) → OfAt H' o ws E → OfE ws E → (ws.map (·.1)).Pairwise sl → H l = none → l ≠ f → 0 ≤ low → low ≤ 999999960 →
    H' l = some (.lst (qs.map V.ref)) → Pgs H' qs gs → gs.length ≤ 44 → (gs.map (·.1)).Nodup → (∀ g ∈ gs, NmB g.1) → 0 < gs.length → (∀ g ∈ gs, DdL E (ws.map (·.1)) low g.2) → Q (.ref t) H'
/-! words that are drawn are different -/
theorem words_nd {ws xs : List Str} {d s : Int} (wl : ws.length = 8) (nd : ws.Nodup) (xl : xs.length ≤ 8) (s0 : 0 ≤ s) (s4 : s < 4) (h : ∀ j : Nat, j < xs.length → xs[j]? = ws[((d + (1 + 2 * s) * (j : Int)).fmod 8).toNat]?) : xs.Nodup := by
  refine List.pairwise_iff_getElem.mpr fun i j hi hj ij e => ?_
  have h1 := h i hi
  have h2 := h j hj
  rw [List.getElem?_eq_getElem hi] at h1
  rw [List.getElem?_eq_getElem hj, ← e, h1] at h2
  have b : ∀ z : Int, (z.fmod 8).toNat < ws.length := fun z => by
    rw [wl]
    have := mod_lo z 8 (by decide)
    have := mod_hi z 8 (by decide)
    omega
  have z := (List.getElem?_inj (b _) nd).mp h2
  have l1 := mod_lo (d + (1 + 2 * s) * (i : Int)) 8 (by decide)
  have l2 := mod_lo (d + (1 + 2 * s) * (j : Int)) 8 (by decide)
  rw [Int.fmod_eq_emod_of_nonneg _ (by decide)] at z l1
  rw [Int.fmod_eq_emod_of_nonneg _ (by decide)] at z l2
  have s' : s = 0 ∨ s = 1 ∨ s = 2 ∨ s = 3 := by omega
  rcases s' with rfl | rfl | rfl | rfl <;> omega
theorem wordsOf_nd {a b : Nat} (h : a ≠ b) : ((wordsOf a b).map fun l => (⟨l.toArray⟩ : Str)).Nodup := by
  have h' : b ≠ a := fun z => h z.symm
  have n : (wordsOf a b).Nodup := by simp [wordsOf, h, h']
  refine List.Pairwise.map _ ?_ n
  intro x y hxy e
  have e := congrArg (fun z : Str => z.cps.toList) e
  exact hxy (by simpa using e)
theorem atI_pos {α : Type} {l : List α} {i : Int} {x : α} (h0 : 0 ≤ i) (h : atI l i = some x) : l[i.toNat]? = some x := by
  unfold atI ixN at h
  rw [if_pos h0] at h
  split at h
  · exact h
  · cases h
theorem abc_ne {d1 d2 : Int} (h0 : 0 ≤ d1) (h1 : d1 < 26) (k0 : 0 ≤ d2) (k1 : d2 < 25) {ca cb : Nat} (ha : atI abc.cps.toList d1 = some ca) (hb : atI abc.cps.toList ((d1 + 1 + d2).fmod 26) = some cb) : ca ≠ cb := by
  have nd : abc.cps.toList.Nodup := by decide +kernel
  have l : abc.cps.toList.length = 26 := by decide +kernel
  have m0 := mod_lo (d1 + 1 + d2) 26 (by decide)
  have ha := atI_pos h0 ha
  have hb := atI_pos m0 hb
  rintro rfl
  rw [← ha] at hb
  have z := (List.getElem?_inj (i := d1.toNat) (by omega) nd).mp hb.symm
  rw [Int.fmod_eq_emod_of_nonneg _ (by decide)] at z m0
  omega
theorem sort_strsL (xs : List Str) (nd : xs.Nodup) : ∃ ys : List Str, sortD (xs.map V.str) (xs.map .str) = ys.map V.str ∧ ys.length = xs.length ∧ (∀ y ∈ ys, y ∈ xs) ∧ ys.Pairwise sl :=
  ⟨_, sort_strs xs, List.length_mergeSort _, fun y hy => List.mem_mergeSort.mp hy, sorted_up nd⟩
theorem sl_nodup {xs : List Str} (h : xs.Pairwise sl) : xs.Nodup := h.imp fun {a b} (k : sl a b) (e : a = b) => by
  rw [e] at k
  exact sl_irr _ k
theorem sl_take {ys : List Str} (h : ys.Pairwise sl) {i : Nat} {y : Str} (hy : ys[i]? = some y) : ∀ x ∈ ys.take i, sl x y := fun x hx => by
  obtain ⟨j, hj⟩ := List.mem_iff_getElem?.mp hx
  have hji : j < i := by
    have := (List.getElem?_eq_some_iff.mp hj).1
    rw [List.length_take] at this
    omega
  rw [List.getElem?_take_of_lt hji] at hj
  obtain ⟨a1, a2⟩ := List.getElem?_eq_some_iff.mp hj
  obtain ⟨b1, b2⟩ := List.getElem?_eq_some_iff.mp hy
  rw [← a2, ← b2]
  exact List.pairwise_iff_getElem.mp h j i a1 b1 hji
/-- one run more behind all -/
theorem canon_snoc {rs : List Rn} {r : Rn} (h : Canon rs) (f : r.2.1 < r.2.2) (k : ∀ x ∈ rs, (x.1 = r.1 ∧ x.2.2 < r.2.1) ∨ sl x.1 r.1) : Canon (rs ++ [r]) := by
  refine ⟨List.pairwise_append.mpr ⟨h.1, List.pairwise_singleton _ _, fun x hx y hy => ?_⟩, fun x hx => ?_⟩
  · rw [List.mem_singleton.mp hy]
    exact (apart_iff _ _).mpr (k x hx)
  · rcases List.mem_append.mp hx with hx | hx
    · exact h.2 x hx
    · rw [List.mem_singleton.mp hx]
      exact f
/-! the program's side: promises -/
def LsAt (H : Hp) (p : Addr) (y : Lst) : Prop := ∃ a u : Addr, H p = some (.tup [.ref a, .str y.2.1, .ref u]) ∧ H a = some (.tup (nmV y.1)) ∧ RnsT H u y.2.2
abbrev LsP (H : Hp) (ps : List Addr) (ys : List Lst) : Prop := Paired (LsAt H) ps ys
theorem LsAt.tk {H H' : Hp} {p : Addr} {y : Lst} (t : Tk H H') (h : LsAt H p y) : LsAt H' p y := by
  obtain ⟨a, u, h1, h2, h3⟩ := h
  exact ⟨a, u, t _ _ h1, t _ _ h2, h3.tk t⟩
theorem LsP.tk {H H' : Hp} {ps : List Addr} {ys : List Lst} (t : Tk H H') (h : LsP H ps ys) : LsP H' ps ys := paired_imp (fun _ _ => LsAt.tk t) h
def lsD (y : Lst) : PyData := .tuple [nmD y.1, .str y.2.1, rnsD y.2.2]
theorem LsP.dp {K : PySem.W.Frag} {H : Hp} : ∀ {ps : List Addr} {ys : List Lst}, LsP H ps ys → DpAll K H (ps.map V.ref) (ys.map lsD)
  | _, _, .nil => .nil
  | _, _, .cons h t => by
    obtain ⟨a, u, h1, h2, rp, h3, h4, _⟩ := h
    exact .cons (.tup (SqT.of h1) (.cons (.tup (SqT.of h2) (.cons (.int _) (.cons (.int _) (.cons (.str _) .nil)))) (.cons (.str _) (.cons (prd_dp h3 h4) .nil)))) (LsP.dp t)
theorem rns_alike : ∀ a b : List Rn, PySem.W.alikeAll (a.map rnD) (b.map rnD) = true
  | [], b => by cases b <;> simp [PySem.W.alikeAll]
  | x :: a, [] => by simp [PySem.W.alikeAll]
  | x :: a, y :: b => by
    have z := rns_alike a b
    rw [List.map_cons, List.map_cons]
    simp [PySem.W.alikeAll, PySem.W.alike, rnD, z]
theorem ls_alike (ys : List Lst) : PySem.W.AllAlike (ys.map lsD) := by
  intro d hd e he
  obtain ⟨a, _, rfl⟩ := List.mem_map.mp hd
  obtain ⟨b, _, rfl⟩ := List.mem_map.mp he
  have z := rns_alike a.2.2 b.2.2
  simp [lsD, nmD, rnsD, PySem.W.alike, PySem.W.alikeAll, z]
theorem ls_sortable (ys : List Lst) : PySem.W.Sortable (ys.map lsD) := by
  refine Or.inl fun d hd => ?_
  obtain ⟨a, _, rfl⟩ := List.mem_map.mp hd
  exact ⟨_, _, rfl⟩
theorem ls_depth (ys : List Lst) : ∀ d ∈ ys.map lsD, d.depth ≤ 60 := by
  intro d hd
  obtain ⟨a, _, rfl⟩ := List.mem_map.mp hd
  have z := rns_depth a.2.2
  simp only [lsD, nmD, rnsD, PyData.depth, PyData.depthAll]
  omega
def lastsL (bs : List Pg) : List Lst := (lasts0 bs).mergeSort (PySem.W.dataLe false lsD)
theorem lastsL_mem {bs : List Pg} {y : Lst} : y ∈ lastsL bs ↔ y ∈ lasts0 bs := List.mem_mergeSort
theorem lastsL_len {bs : List Pg} {n : Nat} (h : bs.length ≤ n) : (lastsL bs).length ≤ n := by
  unfold lastsL
  rw [List.length_mergeSort]
  refine Nat.le_trans (lastF_len _ _) ?_
  rw [List.length_reverse]
  unfold sortS
  rw [List.length_mergeSort]
  exact rowsP_len h
def spLastS (P : Addr) : Sp := fun vs H Q _ => ∃ (b : Addr) (bs : List Pg) (xs : List Str) (low : Int), vs = [.ref b] ∧ BkAt H b bs ∧ bs.length ≤ 1000 ∧ (bs.map (·.1)).Nodup ∧ xs.length ≤ 8 ∧ (∀ s ∈ rowsP bs, RsL xs low s.2.2.2.2) ∧ TabL H P qSteps ∧
  ∀ (l : Addr) (ps : List Addr) (H' : Hp), But P H H' → TabL H' P qSteps → H l = none → H' l = some (.lst (ps.map V.ref)) → LsP H' ps (lastsL bs) → Q (.ref l) H'
def spSeen (P : Addr) : Sp := fun vs H Q _ => ∃ (b : Addr) (p : Str) (bs : List Pg) (xs : List Str) (low : Int), vs = [.ref b, .str p] ∧ BkAt H b bs ∧ bs.length ≤ 300 ∧ (bs.map (·.1)).Nodup ∧ xs.length ≤ 8 ∧ (∀ s ∈ rowsP bs, RsL xs low s.2.2.2.2) ∧ TabL H P qSteps ∧
  ∀ (t : Addr) (qs : List Addr) (H' : Hp), But P H H' → TabL H' P qSteps → H t = none → H' t = some (.tup (qs.map V.ref)) → Prd H' qs (seenL (lastsL bs) p) → Q (.ref t) H'
theorem lasts_ok' {xs : List Str} {low : Int} {bs : List Pg} (h : ∀ s ∈ rowsP bs, RsL xs low s.2.2.2.2) : ∀ y ∈ lastsL bs, RsL xs low y.2.2 ∧ y.2.2 ≠ [] := fun y hy =>
  lastF_ok _ _ RsL.nil (fun s hs => h s (sortS_mem.mp (List.mem_reverse.mp hs))) y (lastsL_mem.mp hy)
/-! ### k28, k27, ..: the law's side: notes, gathered, lasts -/
def loN (low : Int) : Int := if low - 1 > 0 then low - 1 else 0
def hiN (low : Int) : Int := if low + 35 < 10 ^ (9 : Int).toNat then low + 35 else 10 ^ (9 : Int).toNat
theorem loN_at {low : Int} (h0 : 0 ≤ low) : 0 ≤ loN low ∧ loN low ≤ low ∧ low - 1 ≤ loN low := by
  unfold loN
  split <;> omega
theorem hiN_at {low : Int} (h1 : low ≤ 999999960) : hiN low = low + 35 := by
  unfold hiN
  rw [show (10 : Int) ^ (9 : Int).toNat = 1000000000 from rfl, if_pos (by omega)]
def notesOf (ws : List Str) (lo : Int) (m : Nat) : List Nt := ws.flatMap fun w => (List.range m).map fun (k : Nat) => (w, lo + (k : Int))
theorem notesOf_len (ws : List Str) (lo : Int) (m : Nat) : (notesOf ws lo m).length = m * ws.length := by
  unfold notesOf
  induction ws with
  | nil => rfl
  | cons w ws ih =>
    rw [List.flatMap_cons, List.length_append, ih, List.length_map, List.length_range, List.length_cons, Nat.mul_succ]
    omega
theorem notesOf_mem {ws : List Str} {lo : Int} {m : Nat} {s : Str} {n : Int} : (s, n) ∈ notesOf ws lo m ↔ s ∈ ws ∧ lo ≤ n ∧ n < lo + (m : Int) := by
  unfold notesOf
  rw [List.mem_flatMap]
  constructor
  · rintro ⟨w, hw, k⟩
    obtain ⟨k, hk, e⟩ := List.mem_map.mp k
    have e1 : w = s := (Prod.mk.inj e).1
    have e2 : lo + (k : Int) = n := (Prod.mk.inj e).2
    have := List.mem_range.mp hk
    exact ⟨e1 ▸ hw, by omega, by omega⟩
  · rintro ⟨hs, h1, h2⟩
    refine ⟨s, hs, List.mem_map.mpr ⟨(n - lo).toNat, List.mem_range.mpr (by omega), ?_⟩⟩
    exact Prod.ext rfl (show lo + (((n - lo).toNat : Nat) : Int) = n by omega)
theorem notesOf_nd {ws : List Str} (h : ws.Pairwise sl) (lo : Int) (m : Nat) : (notesOf ws lo m).Nodup := by
  unfold notesOf
  refine List.pairwise_flatMap.mpr ⟨fun w _ => ?_, h.imp fun {a b} k x hx y hy e => ?_⟩
  · refine List.Pairwise.map _ (fun a b (hab : a ≠ b) e => hab ?_) (List.nodup_range (n := m))
    have := (Prod.mk.inj e).2
    omega
  · obtain ⟨_, _, rfl⟩ := List.mem_map.mp hx
    obtain ⟨_, _, rfl⟩ := List.mem_map.mp hy
    have e1 : a = b := (Prod.mk.inj e).1
    rw [e1] at k
    exact sl_irr _ k
theorem notesOf_snoc (ws : List Str) (w : Str) (lo : Int) (m : Nat) : notesOf (ws ++ [w]) lo m = notesOf ws lo m ++ (List.range m).map fun (k : Nat) => (w, lo + (k : Int)) := by
  unfold notesOf
  rw [List.flatMap_append, List.flatMap_cons, List.flatMap_nil, List.append_nil]
def notesO (ws : List Wt) (low : Int) : List Nt := notesOf (ws.map (·.1)) (loN low) (hiN low - loN low).toNat
structure NotesOk (ws : List Wt) (low : Int) (es : List Nt) : Prop where
  nd : es.Nodup
  len : es.length ≤ 288
  all : ∀ s n, s ∈ ws.map (·.1) → low ≤ n → n < low + 34 → (s, n) ∈ es
theorem notesO_ok {ws : List Wt} {low : Int} (h : (ws.map (·.1)).Pairwise sl) (w8 : ws.length ≤ 8) (h0 : 0 ≤ low) (h1 : low ≤ 999999960) : NotesOk ws low (notesO ws low) := by
  obtain ⟨a1, a2, a3⟩ := loN_at h0
  have b := hiN_at h1
  refine ⟨notesOf_nd h _ _, ?_, fun s n hs k1 k2 => notesOf_mem.mpr ⟨hs, by omega, by omega⟩⟩
  unfold notesO
  rw [notesOf_len, List.length_map]
  have z : (hiN low - loN low).toNat ≤ 36 := by omega
  exact Nat.le_trans (Nat.mul_le_mul z w8) (by decide)
def spNotesL : Sp := fun vs H Q _ => ∃ (o : Addr) (low : Int) (ws : List Wt) (E : List Ed), vs = [.ref o, .int low] ∧ OfAt H o ws E ∧ ws.length ≤ 8 ∧ 0 ≤ low ∧ low ≤ 999999960 ∧
  ∀ (r : Addr) (ps : List Addr) (H' : Hp), Same H H' → H r = none → H' r = some (.lst (ps.map V.ref)) → NtsE H' ps (notesO ws low) → Q (.ref r) H'
def spGathL : Sp := fun vs H Q _ => ∃ (l : Addr) (ps : List Addr) (es : List Nt), vs = [.ref l] ∧ H l = some (.lst (ps.map V.ref)) ∧ NtsE H ps es ∧ es.length ≤ 1000 ∧
  ∀ (t : Addr) (qs : List Addr) (H' : Hp), Same H H' → H t = none → H' t = some (.tup (qs.map V.ref)) → Prd H' qs (gathL (sortN es)) → Q (.ref t) H'
theorem nts_dp {K : PySem.W.Frag} {H : Hp} : ∀ {ps : List Addr} {es : List Nt}, NtsE H ps es → DpAll K H (ps.map V.ref) (es.map ntD)
  | _, _, .nil => .nil
  | _, _, .cons a b => .cons (.tup (SqT.of a) (.cons (.str _) (.cons (.int _) .nil))) (nts_dp b)
theorem nts_alike (es : List Nt) : PySem.W.AllAlike (es.map ntD) := by
  intro d hd e he
  obtain ⟨a, _, rfl⟩ := List.mem_map.mp hd
  obtain ⟨b, _, rfl⟩ := List.mem_map.mp he
  simp [ntD, PySem.W.alike, PySem.W.alikeAll]
theorem nts_sortable (es : List Nt) : PySem.W.Sortable (es.map ntD) := by
  refine Or.inl fun d hd => ?_
  obtain ⟨a, _, rfl⟩ := List.mem_map.mp hd
  exact ⟨_, _, rfl⟩
theorem nts_depth (es : List Nt) : ∀ d ∈ es.map ntD, d.depth ≤ 60 := by
  intro d hd
  obtain ⟨a, _, rfl⟩ := List.mem_map.mp hd
  simp only [ntD, PyData.depth, PyData.depthAll]
  omega
theorem gathL_snoc (es : List Nt) (e : Nt) : gathL (es ++ [e]) = join (gathL es) (oneR e) := by
  unfold gathL
  rw [List.map_append, List.foldl_append]
  rfl
theorem gathL_len (es : List Nt) : (gathL es).length ≤ es.length := by
  have z : ∀ (l acc : List Rn), (l.foldl join acc).length ≤ acc.length + l.length := fun l => by
    induction l with
    | nil => exact fun acc => Nat.le_refl _
    | cons r l ih =>
      intro acc
      have z1 := ih (join acc r)
      have z2 := join_len acc r
      rw [List.foldl_cons, List.length_cons]
      omega
  have := z (es.map oneR) []
  rw [List.length_nil, List.length_map, Nat.zero_add] at this
  exact this
/-! the law's lasts -/
def ntKey (e : Nt) : List Key := [Sum.inr e.1, Sum.inl e.2]
theorem ntKey_inj {a b : Nt} (h : ntKey a = ntKey b) : a = b := by
  unfold ntKey at h
  injection h with h1 h2
  injection h2 with h2 _
  injection h1 with h1
  injection h2 with h2
  exact Prod.ext h1 h2
theorem ntKey_at {H : Hp} {p : Addr} {e : Nt} (h : NtAt H p e.1 e.2) : H p = some (.tup ((ntKey e).map kV)) := h
abbrev Ln := Nt × Stp
def lnsOf (gs : List Pg) (es : List Nt) : List Ln := es.filterMap fun e => (lastOf gs e.1 e.2).map fun x => (e, x)
def LnAt (H : Hp) (p : List Key × V) (y : Ln) : Prop := p.1 = ntKey y.1 ∧ ∃ t a : Addr, p.2 = .ref t ∧ H t = some (.tup [.str y.2.2.2.1, .ref a]) ∧ H a = some (.tup (nmV y.2.2.2.2.1))
abbrev LnsD (H : Hp) (kvs : List (List Key × V)) (ys : List Ln) : Prop := Paired (LnAt H) kvs ys
theorem LnsD.tk {H H' : Hp} {kvs : List (List Key × V)} {ys : List Ln} (t : Tk H H') (h : LnsD H kvs ys) : LnsD H' kvs ys :=
  paired_imp (fun _ _ ⟨e, u, a, h1, h2, h3⟩ => ⟨e, u, a, h1, t _ _ h2, t _ _ h3⟩) h
theorem LnsD.keys {H : Hp} : ∀ {kvs : List (List Key × V)} {ys : List Ln}, LnsD H kvs ys → kvs.map (·.1) = ys.map fun y => ntKey y.1
  | _, _, .nil => rfl
  | _, _, .cons a b => by rw [List.map_cons, List.map_cons, LnsD.keys b, a.1]
theorem lns_mem {gs : List Pg} {es : List Nt} {y : Ln} : y ∈ lnsOf gs es ↔ y.1 ∈ es ∧ lastOf gs y.1.1 y.1.2 = some y.2 := by
  unfold lnsOf
  rw [List.mem_filterMap]
  constructor
  · rintro ⟨e, he, k⟩
    obtain ⟨x, hx, rfl⟩ := Option.map_eq_some_iff.mp k
    exact ⟨he, hx⟩
  · rintro ⟨h1, h2⟩
    exact ⟨y.1, h1, by rw [h2]; rfl⟩
theorem lns_firsts {gs : List Pg} : ∀ (es : List Nt), ((lnsOf gs es).map (·.1)).Sublist es
  | [] => List.Sublist.slnil
  | e :: es => by
    have ih := lns_firsts (gs := gs) es
    unfold lnsOf at ih ⊢
    rw [List.filterMap_cons]
    cases lastOf gs e.1 e.2 with
    | none => exact ih.cons _
    | some x => exact ih.cons₂ e
theorem lns_nd {gs : List Pg} {es : List Nt} (nd : es.Nodup) : ((lnsOf gs es).map fun y => ntKey y.1).Nodup := by
  have z := nd.sublist (lns_firsts (gs := gs) es)
  have e : ((lnsOf gs es).map fun y => ntKey y.1) = ((lnsOf gs es).map (·.1)).map ntKey := by rw [List.map_map]; rfl
  rw [e]
  exact List.Pairwise.map _ (fun a b hab k => hab (ntKey_inj k)) z
theorem lns_len {gs : List Pg} (es : List Nt) : (lnsOf gs es).length ≤ es.length := List.length_filterMap_le _ _
theorem lns_snoc {gs : List Pg} (es : List Nt) (e : Nt) : lnsOf gs (es ++ [e]) = lnsOf gs es ++ (match lastOf gs e.1 e.2 with | some x => [(e, x)] | none => []) := by
  unfold lnsOf
  rw [List.filterMap_append, List.filterMap_cons, List.filterMap_nil]
  cases lastOf gs e.1 e.2 <;> rfl
theorem valV_nd {κ : Type} [DecidableEq κ] : ∀ {kvs : List (κ × V)} {i : Nat} {k : κ} {v : V}, (kvs.map (·.1)).Nodup → kvs[i]? = some (k, v) → valV kvs k = some v
  | [], i, _, _, _, h => by simp at h
  | p :: kvs, 0, k, v, _, h => by
    have h : p = (k, v) := by simpa using h
    rw [valV_pos (by rw [h]), h]
  | p :: kvs, i + 1, k, v, nd, h => by
    have h : kvs[i]? = some (k, v) := by simpa using h
    rw [List.map_cons, List.nodup_cons] at nd
    rw [valV_neg fun e => nd.1 (by rw [e]; exact List.mem_map.mpr ⟨_, List.mem_of_getElem? h, rfl⟩)]
    exact valV_nd nd.2 h
theorem valV_none {κ : Type} [DecidableEq κ] {k : κ} : ∀ {kvs : List (κ × V)}, k ∉ kvs.map (·.1) → valV kvs k = none
  | [], _ => rfl
  | p :: kvs, h => by
    rw [List.map_cons, List.mem_cons, not_or] at h
    rw [valV_neg fun e => h.1 e.symm]
    exact valV_none h.2
def spLastsD (P : Addr) : Sp := fun vs H Q _ => ∃ (l N : Addr) (qs : List Addr) (gs : List Pg) (ns : List Addr) (es : List Nt), vs = [.ref l, .ref N] ∧ H l = some (.lst (qs.map V.ref)) ∧ Pgs H qs gs ∧ gs.length ≤ 100 ∧ (gs.map (·.1)).Nodup ∧
  H N = some (.lst (ns.map V.ref)) ∧ NtsE H ns es ∧ es.length ≤ 1000 ∧ es.Nodup ∧ TabL H P qLaw ∧
  ∀ (D : Addr) (kvs : List (List Key × V)) (H' : Hp), But P H H' → TabL H' P qLaw → H D = none → H' D = some (.dT kvs) → LnsD H' kvs (lnsOf gs es) → Q (.ref D) H'
theorem rl_plain (rs : List Rn) : (PyData.list (rs.map rnD)).plain = true := rns_plain rs
theorem rl_depth (rs : List Rn) : (PyData.list (rs.map rnD)).depth ≤ 60 := rnsD_depth rs
/-! what the law does with its lasts -/
theorem seen_due {E : List Ed} {ws : List Wt} {low : Int} {gs bs : List Pg} {es : List Nt} (pm : bs.Perm gs) (nd : (gs.map (·.1)).Nodup) (h : ∀ g ∈ gs, DdL E (ws.map (·.1)) low g.2) (ok : NotesOk ws low es) (p : Str) :
    seenL (lastsL bs) p = gathL (sortN (((lnsOf gs es).filter fun y => decide (y.2.2.2.1 = p)).map (·.1))) := by
  have hb : ∀ g ∈ bs, DdL E (ws.map (·.1)) low g.2 := fun g hg => h g (pm.mem_iff.mp hg)
  have nd2 : (((lnsOf gs es).filter fun y => decide (y.2.2.2.1 = p)).map (·.1)).Nodup := ok.nd.sublist ((List.Sublist.map _ List.filter_sublist).trans (lns_firsts es))
  obtain ⟨g1, g2⟩ := gathS_ok nd2
  obtain ⟨s1, s2⟩ := seen_ok (fun y hy => (lasts_ok' (rowsP_ok hb) y hy).1) p
  refine canon_uniq s1.ca g1 fun s n => ?_
  rw [g2, s2]
  have z := lasts_has pm nd h (fun _ t => t = p) s n
  have z1 : (∃ y ∈ lastsL bs, y.2.1 = p ∧ has y.2.2 s n) ↔ ∃ y ∈ lasts0 bs, y.2.1 = p ∧ has y.2.2 s n := ⟨fun ⟨y, hy, k⟩ => ⟨y, lastsL_mem.mp hy, k⟩, fun ⟨y, hy, k⟩ => ⟨y, lastsL_mem.mpr hy, k⟩⟩
  rw [z1, z]
  constructor
  · rintro ⟨x, hx, e⟩
    obtain ⟨k1, k2, k3⟩ := lastOf_in h hx
    exact List.mem_map.mpr ⟨((s, n), x), List.mem_filter.mpr ⟨lns_mem.mpr ⟨ok.all s n k1 k2 k3, hx⟩, decide_eq_true e⟩, rfl⟩
  · intro k
    obtain ⟨⟨e, x⟩, hy, rfl⟩ := List.mem_map.mp k
    obtain ⟨hy, e⟩ := List.mem_filter.mp hy
    exact ⟨x, (lns_mem.mp hy).2, of_decide_eq_true e⟩
theorem strs_cut (xs : List Str) (lo hi : Option Int) : ∃ ss : List Str, cutV (xs.map V.str) lo hi = ss.map V.str ∧ ss.length ≤ xs.length := by
  refine ⟨(xs.drop (HT.sIx (xs.map V.str).length 0 lo)).take (HT.sIx (xs.map V.str).length (xs.map V.str).length hi - HT.sIx (xs.map V.str).length 0 lo), ?_, ?_⟩
  · unfold cutV
    rw [← List.map_drop, ← List.map_take]
  · rw [List.length_take, List.length_drop]
    omega
section
variable {f c P1 P2 P3 : Addr} {H H' : Hp} {n m : Int}
theorem LwS.one (h : LwS f c P1 P2 P3 H n) (n2 : P2 ≠ P1) (n3 : P3 ≠ P1) (b : But P1 H H') (t : TabL H' P1 qSteps) : LwS f c P1 P2 P3 H' n ∧ LwX f H H' := by
  obtain ⟨φ, hP⟩ := h.t1.at
  have nx := NeX.of_but hP b
  exact ⟨⟨h.fe.nx nx, t, h.t1.other n2 b h.t2, h.t1.other n3 b h.t3⟩, .of_nx nx⟩
theorem LwS.two (h : LwS f c P1 P2 P3 H n) (n1 : P1 ≠ P2) (n3 : P3 ≠ P2) (b : But P2 H H') (t : TabL H' P2 qLaw) : LwS f c P1 P2 P3 H' n ∧ LwX f H H' := by
  obtain ⟨φ, hP⟩ := h.t2.at
  have nx := NeX.of_but hP b
  exact ⟨⟨h.fe.nx nx, h.t2.other n1 b h.t1, t, h.t2.other n3 b h.t3⟩, .of_nx nx⟩
/-- a dict stays, too -/
theorem But.dT {f c FD : Addr} {H H' : Hp} {n : Int} {kvs : List (List Key × V)} (b : But f H H') (hf : Fe H f c n) (h : H FD = some (.dT kvs)) : H' FD = some (.dT kvs) := by
  obtain ⟨xs, hx⟩ := hf.at
  exact b _ _ (ne_of h hx fun z => nomatch z) h
theorem But.dT2 {P FD : Addr} {H H' : Hp} {q : Str} {kvs : List (List Key × V)} (b : But P H H') (t : TabL H P q) (h : H FD = some (.dT kvs)) : H' FD = some (.dT kvs) := by
  obtain ⟨φ, hx⟩ := t.at
  exact b _ _ (ne_of h hx fun z => nomatch z) h
end
/-- under a lock: all but the dict stay -/
structure Lk (FD : Addr) (od : Obj) (kvs : List (List Key × V)) (H H' : Hp) : Prop where
  st : ∀ a o, a ≠ FD → H a = some o → H' a = some o
  fz : H' FD = some (.frz od (.dT kvs))
theorem Lk.same {FD : Addr} {od : Obj} {kvs : List (List Key × V)} {H H' : Hp} (h : Lk FD od kvs H H') (e : H FD = some (.dT kvs)) : Same H (upd H' FD (.dT kvs)) := fun a o k => by
  by_cases c : a = FD
  · rw [c, upd_same, ← e, ← c, k]
  · rw [upd_ne c]
    exact h.st a o c k
theorem Lk.tk {FD : Addr} {od : Obj} {kvs : List (List Key × V)} {H H' : Hp} (h : Lk FD od kvs H H') (e : H FD = some (.dT kvs)) : Tk H H' := fun a xs k => h.st a _ (ne_of k e fun z => nomatch z) k
theorem Lk.new {FD D : Addr} {od : Obj} {kvs : List (List Key × V)} {H : Hp} {o : HO} (n : upd H FD (.frz od (.dT kvs)) D = none) : D ≠ FD ∧ Lk FD od kvs H (upd (upd H FD (.frz od (.dT kvs))) D o) := by
  have ne : D ≠ FD := fun z => by rw [z, upd_same] at n; cases n
  refine ⟨ne, fun a o k e => ?_, (upd_ne (Ne.symm ne)).trans upd_same⟩
  have aD : a ≠ D := fun z => by
    rw [upd_ne ne] at n
    rw [z, n] at e
    cases e
  rw [upd_ne aD, upd_ne k]
  exact e
theorem Lk.put {FD D : Addr} {od : Obj} {kvs : List (List Key × V)} {H H' : Hp} {o : HO} (h : Lk FD od kvs H H') (n : H D = none) (ne : D ≠ FD) : Lk FD od kvs H (upd H' D o) :=
  ⟨fun a u k e => (upd_ne (ne_of_none e n)).trans (h.st a u k e), (upd_ne (Ne.symm ne)).trans h.fz⟩
def spRightV (P1 P2 P3 : Addr) : Sp := fun vs H Q _ => ∃ (f c o l N : Addr) (low n : Int) (ws : List Wt) (E : List Ed) (qs : List Addr) (gs : List Pg) (ns : List Addr) (es : List Nt), vs = [.ref f, .ref o, .ref l, .ref N] ∧ LwS f c P1 P2 P3 H n ∧ n ≤ 900000 ∧
  OfAt H o ws E ∧ OfE ws E ∧ H l = some (.lst (qs.map V.ref)) ∧ l ≠ f ∧ Pgs H qs gs ∧ gs.length ≤ 100 ∧ (gs.map (·.1)).Nodup ∧ (∀ g ∈ gs, DdL E (ws.map (·.1)) low g.2) ∧ H N = some (.lst (ns.map V.ref)) ∧ N ≠ f ∧ NtsE H ns es ∧ NotesOk ws low es ∧ P1 ≠ P2 ∧ P1 ≠ P3 ∧ P2 ≠ P3 ∧
  ∀ H', LwS f c P1 P2 P3 H' (n + 1) → LwX f H H' → Q (.bl true) H'
theorem strs_keys (xs : List Str) : (xs.map (Sum.inr : Str → Key)).map kV = xs.map V.str := by
  rw [List.map_map]
  rfl
theorem strs_allF (xs : List Str) : (xs.map V.str).all flatV = true := by
  rw [List.all_eq_true]
  intro x hx
  obtain ⟨s, _, rfl⟩ := List.mem_map.mp hx
  rfl
/-! ### k03: how many notes, where one is, the k-th -/
def cnt (r : Rn) : Int := r.2.2 - r.2.1
def cntL (rs : List Rn) : Int := (rs.map cnt).sum
theorem cntL_cons (r : Rn) (rs : List Rn) : cntL (r :: rs) = cnt r + cntL rs := by
  unfold cntL
  rw [List.map_cons, List.sum_cons]
theorem cntL_app (a b : List Rn) : cntL (a ++ b) = cntL a + cntL b := by
  unfold cntL
  rw [List.map_append, List.sum_append]
theorem cntL_nn : ∀ {rs : List Rn}, Full rs → 0 ≤ cntL rs
  | [], _ => Int.le_refl _
  | r :: rs, h => by
    have h1 := h r List.mem_cons_self
    have h2 := cntL_nn (rs := rs) fun x hx => h x (List.mem_cons_of_mem _ hx)
    rw [cntL_cons]
    unfold cnt
    omega
theorem cntL_hi : ∀ {rs : List Rn}, (∀ r ∈ rs, RnOk r) → cntL rs ≤ 1000000000 * rs.length
  | [], _ => Int.le_refl _
  | r :: rs, h => by
    obtain ⟨h1, h3, h4⟩ := h r List.mem_cons_self
    have h2 := cntL_hi (rs := rs) fun x hx => h x (List.mem_cons_of_mem _ hx)
    rw [cntL_cons, List.length_cons]
    unfold cnt
    omega
def spMany (K : PySem.W.Frag) (P : Addr) : Sp := fun vs H Q _ => ∃ (a : Addr) (rs : List Rn), vs = [.ref a] ∧ TpAt K H a rs ∧ rs.length ≤ 3000 ∧ (∀ r ∈ rs, RnOk r) ∧ H P = some (TabO P) ∧
  ∀ H', Same H H' → Q (.int (cntL rs)) H'
theorem range_sum {α : Type} (f : α → Int) (xs : List α) : ((((List.range xs.length).filter fun _ => true).map fun i => (xs[i]?).elim 0 f)).sum = (xs.map f).sum := by
  have e : ((List.range xs.length).filter fun _ => true) = List.range xs.length := List.filter_eq_self.mpr fun _ _ => rfl
  rw [e]
  congr 1
  apply List.ext_getElem?
  intro i
  rw [List.getElem?_map, List.getElem?_map]
  by_cases h : i < xs.length
  · rw [List.getElem?_range h, List.getElem?_eq_getElem h]
    simp [h]
  · rw [List.getElem?_eq_none (by simpa using h), List.getElem?_eq_none (by omega)]
    rfl
theorem cntL_take {rs : List Rn} {i : Nat} {r : Rn} (h : rs[i]? = some r) : cntL (rs.take (i + 1)) = cntL (rs.take i) + cnt r := by
  obtain ⟨hi, e⟩ := List.getElem?_eq_some_iff.mp h
  rw [List.take_succ_eq_append_getElem hi, cntL_app, e]
  unfold cntL
  simp
/-! ### k29: sums and worth of what is seen -/
def WtsB (ws : List Wt) : Prop := ∀ w ∈ ws, 0 ≤ w.2 ∧ w.2 ≤ 1000000
def spOfficeW : Sp := fun vs H Q _ => ∃ (f c : Addr) (n : Int), vs = [.ref f] ∧ Fe H f c n ∧ n ≤ 600000 ∧
  ∀ (o : Addr) (ws : List Wt) (E : List Ed) (H' : Hp), Fe H' f c (n + 200) → But f H H' → H o = none → OfAt H' o ws E → OfE ws E → (ws.map (·.1)).Pairwise sl → WtsB ws → Q (.ref o) H'
def spBegunW : Sp := fun vs H Q _ => ∃ (f c : Addr) (n : Int), vs = [.ref f] ∧ Fe H f c n ∧ n ≤ 400000 ∧
  ∀ (t o l : Addr) (low : Int) (ws : List Wt) (E : List Ed) (qs : List Addr) (gs : List Pg) (H' : Hp), Fe H' f c (n + 6000) → But f H H' → H t = none → H' t = some (.tup [.ref o, .int low, .ref l]) → OfAt H' o ws E → OfE ws E → (ws.map (·.1)).Pairwise sl → H l = none → l ≠ f → 0 ≤ low → low ≤ 999999960 →
    H' l = some (.lst (qs.map V.ref)) → Pgs H' qs gs → gs.length ≤ 44 → (gs.map (·.1)).Nodup → (∀ g ∈ gs, NmB g.1) → 0 < gs.length → (∀ g ∈ gs, DdL E (ws.map (·.1)) low g.2) → WtsB ws → Q (.ref t) H'
def worthL (ws : List Wt) (s : Str) : Int := match ws.find? fun w => decide (w.1 = s) with
  | some w => w.2
  | none => 0
def spWorth : Sp := fun vs H Q _ => ∃ (o : Addr) (s : Str) (ws : List Wt) (E : List Ed), vs = [.ref o, .str s] ∧ OfAt H o ws E ∧ ∀ H', Same H H' → Q (.int (worthL ws s)) H'
theorem worthL_in {ws : List Wt} (h : (ws.map (·.1)).Pairwise sl) {w : Wt} (hw : w ∈ ws) : worthL ws w.1 = w.2 := by
  unfold worthL
  induction ws with
  | nil => exact nomatch hw
  | cons x ws ih =>
    rw [List.map_cons, List.pairwise_cons] at h
    rw [List.find?_cons]
    rcases List.mem_cons.mp hw with rfl | hw
    · rw [decide_eq_true rfl]
    · have ne : ¬ x.1 = w.1 := fun e => by
        have z := h.1 w.1 (List.mem_map.mpr ⟨w, hw, rfl⟩)
        rw [e] at z
        exact sl_irr _ z
      rw [decide_eq_false ne]
      exact ih h.2 hw
def sumsL (ws : List Wt) (rs : List Rn) : List (Str × Int) := ws.map fun w => (w.1, cntL (ofL w.1 rs))
def spSums (P P4 : Addr) : Sp := fun vs H Q _ => ∃ (o b : Addr) (p : Str) (ws : List Wt) (E : List Ed) (bs : List Pg) (xs : List Str) (low : Int), vs = [.ref o, .ref b, .str p] ∧ OfAt H o ws E ∧ ws.length ≤ 8 ∧ BkAt H b bs ∧ bs.length ≤ 300 ∧ (bs.map (·.1)).Nodup ∧ xs.length ≤ 8 ∧ (∀ s ∈ rowsP bs, RsL xs low s.2.2.2.2) ∧
  0 ≤ low ∧ low ≤ 999999960 ∧ TabL H P qSteps ∧ H P4 = some (TabO P4) ∧ P4 ≠ P ∧
  ∀ (t : Addr) (qs : List Addr) (H' : Hp), But P H H' → TabL H' P qSteps → H t = none → H' t = some (.tup (qs.map V.ref)) → NtsE H' qs (sumsL ws (seenL (lastsL bs) p)) → Q (.ref t) H'
def worthS (ws : List Wt) (es : List (Str × Int)) : Int := (es.map fun e => worthL ws e.1 * e.2).sum
def spWorthS (P P4 P5 : Addr) : Sp := fun vs H Q _ => ∃ (o b : Addr) (p : Str) (ws : List Wt) (E : List Ed) (bs : List Pg) (xs : List Str) (low : Int), vs = [.ref o, .ref b, .str p] ∧ OfAt H o ws E ∧ ws.length ≤ 8 ∧ WtsB ws ∧ BkAt H b bs ∧ bs.length ≤ 300 ∧ (bs.map (·.1)).Nodup ∧ xs.length ≤ 8 ∧ (∀ s ∈ rowsP bs, RsL xs low s.2.2.2.2) ∧
  0 ≤ low ∧ low ≤ 999999960 ∧ TabL H P qSteps ∧ H P4 = some (TabO P4) ∧ P4 ≠ P ∧ H P5 = some (TabO P5) ∧ P5 ≠ P ∧
  ∀ H', But P H H' → TabL H' P qSteps → Q (.int (worthS ws (sumsL ws (seenL (lastsL bs) p)))) H'
def manyY (ys : List Ln) (s p : Str) : Int := (((ys.filter fun y => decide (y.1.1 = s) && decide (y.2.2.2.1 = p)).length : Nat) : Int)
def spManyY : Sp := fun vs H Q _ => ∃ (D : Addr) (s p : Str) (kvs : List (List Key × V)) (ys : List Ln), vs = [.ref D, .str s, .str p] ∧ H D = some (.dT kvs) ∧ LnsD H kvs ys ∧ (kvs.map (·.1)).Nodup ∧ ys.length ≤ 1000 ∧ ∀ H', Same H H' → Q (.int (manyY ys s p)) H'
/-! counting what is gathered -/
theorem ofL_snoc (s : Str) (rs : List Rn) (r : Rn) : cntL (ofL s (rs ++ [r])) = cntL (ofL s rs) + (if r.1 = s then cnt r else 0) := by
  unfold ofL
  rw [List.filter_append, cntL_app]
  congr 1
  by_cases c : r.1 = s
  · simp [c, cntL]
  · simp [c, cntL]
theorem snoc_indR {α : Type} {P : List α → Prop} (h0 : P []) (h1 : ∀ l a, P l → P (l ++ [a])) (l : List α) : P l := by
  have z : ∀ l : List α, P l.reverse := fun l => by
    induction l with
    | nil => exact h0
    | cons a l ih => rw [List.reverse_cons]; exact h1 _ _ ih
  have := z l.reverse
  rw [List.reverse_reverse] at this
  exact this
theorem cnt_gath (s : Str) (es : List Nt) : cntL (ofL s (gathL es)) = (((es.filter fun e => decide (e.1 = s)).length : Nat) : Int) := by
  induction es using snoc_indR with
  | h0 => rfl
  | h1 es e ih =>
    have more : (((es ++ [e]).filter fun e => decide (e.1 = s)).length : Int) = (((es.filter fun e => decide (e.1 = s)).length : Nat) : Int) + (if e.1 = s then 1 else 0) := by
      rw [List.filter_append, List.length_append]
      by_cases c : e.1 = s <;> simp [c]
    rw [more, ← ih, gathL_snoc]
    have c1 : cnt (oneR e) = 1 := by
      unfold cnt oneR
      show e.2 + 1 - e.2 = 1
      omega
    rcases nil_or_snoc (gathL es) with z | ⟨i, z, k⟩
    · rw [z]
      show cntL (ofL s ([] ++ [oneR e])) = _
      rw [ofL_snoc]
      by_cases c : e.1 = s
      · rw [if_pos c, if_pos (show (oneR e).1 = s from c), c1]
      · rw [if_neg c, if_neg (show ¬ (oneR e).1 = s from c)]
    · rw [k, join_snoc]
      by_cases c2 : z.1 = (oneR e).1 ∧ z.2.2 = (oneR e).2.1
      · rw [if_pos c2, ofL_snoc, ofL_snoc]
        obtain ⟨d1, d2⟩ := c2
        have d1 : z.1 = e.1 := d1
        have d2 : z.2.2 = e.2 := d2
        by_cases c : e.1 = s
        · rw [if_pos c, if_pos (show z.1 = s by rw [d1]; exact c), if_pos (show (oneR e).1 = s from c)]
          show _ + (e.2 + 1 - z.2.1) = _ + (z.2.2 - z.2.1) + 1
          omega
        · rw [if_neg c, if_neg (show ¬ z.1 = s by rw [d1]; exact c), if_neg (show ¬ (oneR e).1 = s from c)]
          omega
      · rw [if_neg c2, ofL_snoc]
        by_cases c : e.1 = s
        · rw [if_pos c, if_pos (show (oneR e).1 = s from c), c1]
        · rw [if_neg c, if_neg (show ¬ (oneR e).1 = s from c)]
theorem cnt_seen {E : List Ed} {ws : List Wt} {low : Int} {gs bs : List Pg} {es : List Nt} (pm : bs.Perm gs) (nd : (gs.map (·.1)).Nodup) (h : ∀ g ∈ gs, DdL E (ws.map (·.1)) low g.2) (ok : NotesOk ws low es) (s p : Str) :
    cntL (ofL s (seenL (lastsL bs) p)) = manyY (lnsOf gs es) s p := by
  rw [seen_due pm nd h ok p, cnt_gath]
  unfold manyY
  have e1 : ((sortN (((lnsOf gs es).filter fun y => decide (y.2.2.2.1 = p)).map (·.1))).filter fun e => decide (e.1 = s)).length = ((((lnsOf gs es).filter fun y => decide (y.2.2.2.1 = p)).map (·.1)).filter fun e => decide (e.1 = s)).length :=
    ((List.mergeSort_perm _ _).filter _).length_eq
  rw [e1, List.filter_map, List.length_map, List.filter_filter]
  rfl
theorem sums_due {E : List Ed} {ws : List Wt} {low : Int} {gs bs : List Pg} {es : List Nt} (pm : bs.Perm gs) (nd : (gs.map (·.1)).Nodup) (h : ∀ g ∈ gs, DdL E (ws.map (·.1)) low g.2) (ok : NotesOk ws low es) (p : Str) :
    sumsL ws (seenL (lastsL bs) p) = ws.map fun w => (w.1, manyY (lnsOf gs es) w.1 p) := by
  unfold sumsL
  refine List.map_congr_left fun w _ => ?_
  rw [cnt_seen pm nd h ok]
def wDue (ws : List Wt) (f : Str → Int) : Int := (ws.map fun w => f w.1 * w.2).sum
theorem worth_due {ws : List Wt} (h : (ws.map (·.1)).Pairwise sl) (f : Str → Int) : worthS ws (ws.map fun w => (w.1, f w.1)) = wDue ws f := by
  unfold worthS wDue
  rw [List.map_map]
  refine congrArg List.sum (List.map_congr_left fun w hw => ?_)
  show worthL ws w.1 * f w.1 = f w.1 * w.2
  rw [worthL_in h hw, Int.mul_comm]
theorem wDue_take {ws : List Wt} {f : Str → Int} {i : Nat} {w : Wt} (h : ws[i]? = some w) : wDue (ws.take (i + 1)) f = wDue (ws.take i) f + f w.1 * w.2 := by
  obtain ⟨hi, e⟩ := List.getElem?_eq_some_iff.mp h
  unfold wDue
  rw [List.take_succ_eq_append_getElem hi, List.map_append, List.sum_append, e]
  simp
theorem manyY_bd (ys : List Ln) (s p : Str) : 0 ≤ manyY ys s p ∧ manyY ys s p ≤ ys.length := by
  unfold manyY
  have := List.length_filter_le (fun y : Ln => decide (y.1.1 = s) && decide (y.2.2.2.1 = p)) ys
  omega
theorem nts_nice {es : List (Str × Int)} (h : es.length ≤ 100000) : Nice 2 (.tuple (es.map ntD)) := by
  refine .inr ⟨_, .inr rfl, by rw [List.length_map]; exact h, fun d hd => ?_⟩
  obtain ⟨e, _, rfl⟩ := List.mem_map.mp hd
  refine .inr ⟨_, .inr rfl, (show 2 ≤ 100000 by decide), fun d hd => ?_⟩
  rcases List.mem_cons.mp hd with rfl | hd
  · rfl
  · rw [List.mem_singleton.mp hd]
    rfl
theorem RsL.cnt {xs : List Str} {low : Int} {rs : List Rn} (h : RsL xs low rs) (x8 : xs.length ≤ 8) (s : Str) : 0 ≤ cntL (ofL s rs) ∧ cntL (ofL s rs) ≤ 10000 := by
  have l := h.len x8
  have z : ∀ l : List Rn, (∀ r ∈ l, RkL xs low r) → 0 ≤ cntL l ∧ cntL l ≤ 34 * (l.length : Int) := fun l => by
    induction l with
    | nil => exact fun _ => ⟨Int.le_refl _, Int.le_refl _⟩
    | cons r l ih =>
      intro k
      obtain ⟨a1, a2⟩ := ih fun x hx => k x (List.mem_cons_of_mem _ hx)
      obtain ⟨_, b1, b2, b3⟩ := k r List.mem_cons_self
      rw [cntL_cons, List.length_cons]
      unfold Pn.cnt
      omega
  obtain ⟨a1, a2⟩ := z (ofL s rs) fun r hr => h.ok r (List.mem_filter.mp hr).1
  have l2 : (ofL s rs).length ≤ rs.length := List.length_filter_le _ _
  omega
theorem RsL.rnok {xs : List Str} {low : Int} {rs : List Rn} (h : RsL xs low rs) (l0 : 0 ≤ low) (l1 : low ≤ 999999960) : ∀ r ∈ rs, RnOk r := fun r hr => by
  obtain ⟨_, b1, b2, b3⟩ := h.ok r hr
  exact ⟨by omega, b2, by omega⟩
/-! five tables -/
structure TbO (P4 P5 : Addr) (H : Hp) : Prop where
  a : H P4 = some (TabO P4)
  b : H P5 = some (TabO P5)
theorem TbO.same {P4 P5 : Addr} {H H' : Hp} (h : TbO P4 P5 H) (s : Same H H') : TbO P4 P5 H' := ⟨s _ _ h.a, s _ _ h.b⟩
theorem TbO.but {P4 P5 P : Addr} {H H' : Hp} (h : TbO P4 P5 H) (b : But P H H') (n4 : P4 ≠ P) (n5 : P5 ≠ P) : TbO P4 P5 H' := ⟨b _ _ n4 h.a, b _ _ n5 h.b⟩
theorem TbO.butF {P4 P5 f c : Addr} {n : Int} {H H' : Hp} (h : TbO P4 P5 H) (hf : Fe H f c n) (b : But f H H') : TbO P4 P5 H' := by
  obtain ⟨xs, hx⟩ := hf.at
  exact ⟨b _ _ (ne_of h.a hx fun z => nomatch z) h.a, b _ _ (ne_of h.b hx fun z => nomatch z) h.b⟩
def spRightW (P1 P2 P3 P4 P5 : Addr) : Sp := fun vs H Q _ => ∃ (f c o l N : Addr) (low n : Int) (ws : List Wt) (E : List Ed) (qs : List Addr) (gs : List Pg) (ns : List Addr) (es : List Nt), vs = [.ref f, .ref o, .ref l, .ref N] ∧ LwS f c P1 P2 P3 H n ∧ n ≤ 900000 ∧
  OfAt H o ws E ∧ OfE ws E ∧ H l = some (.lst (qs.map V.ref)) ∧ l ≠ f ∧ Pgs H qs gs ∧ gs.length ≤ 100 ∧ (gs.map (·.1)).Nodup ∧ (∀ g ∈ gs, DdL E (ws.map (·.1)) low g.2) ∧ H N = some (.lst (ns.map V.ref)) ∧ N ≠ f ∧ NtsE H ns es ∧ NotesOk ws low es ∧ P1 ≠ P2 ∧ P1 ≠ P3 ∧ P2 ≠ P3 ∧
  WtsB ws ∧ (ws.map (·.1)).Pairwise sl ∧ 0 ≤ low ∧ low ≤ 999999960 ∧ TbO P4 P5 H ∧ (P1 ≠ P4 ∧ P2 ≠ P4 ∧ P3 ≠ P4) ∧ (P1 ≠ P5 ∧ P2 ≠ P5 ∧ P3 ≠ P5) ∧
  ∀ H', LwS f c P1 P2 P3 H' (n + 1) → LwX f H H' → TbO P4 P5 H' → Q (.bl true) H'
def LL (a b : Addr) : Addr → Bool := fun t => !(decide (t = a) || decide (t = b))
theorem LL_c {a b P : Addr} (h1 : P ≠ a) (h2 : P ≠ b) : LL a b P = true := by simp [LL, h1, h2]
theorem LL_o {a b P : Addr} (h : P = a ∨ P = b) : LL a b P = false := by
  rcases h with rfl | rfl <;> simp [LL]
theorem hoLL_c {a b P : Addr} (h1 : P ≠ a) (h2 : P ≠ b) : hoT (LL a b) P = TabC P [] := by
  unfold hoT
  rw [if_pos (LL_c h1 h2)]
theorem hoLL_o {a b P : Addr} (h : P = a ∨ P = b) : hoT (LL a b) P = TabO P := by
  unfold hoT
  rw [if_neg (by rw [LL_o h]; exact Bool.false_ne_true)]
theorem endLL_c {a b P : Addr} {H : Hp} {q : Str} (h1 : P ≠ a) (h2 : P ≠ b) (t : TabL H P q) : endT (LL a b) H P := by
  unfold endT
  rw [if_pos (LL_c h1 h2)]
  obtain ⟨C, hC, _⟩ := t
  exact ⟨C, hC⟩
theorem endLL_o {a b P : Addr} {H : Hp} (h : P = a ∨ P = b) (t : H P = some (TabO P)) : endT (LL a b) H P := by
  unfold endT
  rw [if_neg (by rw [LL_o h]; exact Bool.false_ne_true)]
  exact t
/-! ### k30: balances -/
def brt (a b p : Str) (n : Int) : Int := if b = p then n else if a = p then -n else 0
def spBrought : Sp := fun vs H Q _ => ∃ (t : Addr) (w a b p : Str) (n : Int) (r : List V), vs = [.ref t, .str p, .int n] ∧ H t = some (.tup (.str w :: .str a :: .str b :: r)) ∧ ∀ H', Same H H' → Q (.int (brt a b p n)) H'
abbrev Tr := Nm × Int
/-- what a counted page brings, told or not -/
def trOf (p : Str) (g : Pg) : List Tr := match g.2 with
  | .mv a b rs => if a = p ∨ b = p then [(g.1, brt a b p (cntL rs))] else []
  | .bag a b n => if a = p ∨ b = p then [(g.1, brt a b p n)] else []
  | _ => []
def trafL (bs : List Pg) (p : Str) : List Tr := (thatL bs wCd).flatMap (trOf p)
def balL (bs : List Pg) (p : Str) : Int := ((trafL bs p).map (·.2)).sum
def TrAt (H : Hp) (p : Addr) (y : Tr) : Prop := ∃ a : Addr, H p = some (.tup [.ref a, .int y.2]) ∧ H a = some (.tup (nmV y.1))
abbrev TrS (H : Hp) (ps : List Addr) (ys : List Tr) : Prop := Paired (TrAt H) ps ys
theorem TrS.tk {H H' : Hp} {ps : List Addr} {ys : List Tr} (t : Tk H H') (h : TrS H ps ys) : TrS H' ps ys := paired_imp (fun _ _ ⟨a, h1, h2⟩ => ⟨a, t _ _ h1, t _ _ h2⟩) h
/-- runs of kind, small numbers -/
structure DdB (E : List Ed) (xs : List Str) (low : Int) (bs : List Pg) : Prop where
  ok : ∀ g ∈ bs, DdL E xs low g.2
  x8 : xs.length ≤ 8
  l0 : 0 ≤ low
  l1 : low ≤ 999999960
def spTraffic (P4 : Addr) : Sp := fun vs H Q _ => ∃ (b : Addr) (p : Str) (bs : List Pg) (E : List Ed) (xs : List Str) (low : Int), vs = [.ref b, .str p] ∧ BkAt H b bs ∧ bs.length ≤ 300 ∧ DdB E xs low bs ∧ H P4 = some (TabO P4) ∧
  ∀ (l : Addr) (qs : List Addr) (H' : Hp), Same H H' → H l = none → H' l = some (.lst (qs.map V.ref)) → TrS H' qs (trafL bs p) → Q (.ref l) H'
def spBalance (P4 P5 : Addr) : Sp := fun vs H Q _ => ∃ (b : Addr) (p : Str) (bs : List Pg) (E : List Ed) (xs : List Str) (low : Int), vs = [.ref b, .str p] ∧ BkAt H b bs ∧ bs.length ≤ 300 ∧ DdB E xs low bs ∧ H P4 = some (TabO P4) ∧ H P5 = some (TabO P5) ∧
  ∀ H', Same H H' → Q (.int (balL bs p)) H'
def mvOf (p s : Str) (g : Pg) : Int := match g.2 with
  | .mv a b rs => brt a b p (cntL (ofL s rs))
  | _ => 0
def movedL (bs : List Pg) (p s : Str) : Int := ((thatL bs wCd).map (mvOf p s)).sum
def spMoved (P4 : Addr) : Sp := fun vs H Q _ => ∃ (b : Addr) (p s : Str) (bs : List Pg) (E : List Ed) (xs : List Str) (low : Int), vs = [.ref b, .str p, .str s] ∧ BkAt H b bs ∧ bs.length ≤ 300 ∧ DdB E xs low bs ∧ H P4 = some (TabO P4) ∧
  ∀ H', Same H H' → Q (.int (movedL bs p s)) H'
/-! the law's side -/
def soV : Option Str → V
  | none => .non
  | some s => .str s
def lmD (so : Option Str) : Dd → Int
  | .mv _ _ rs => match so with | none => cntL rs | some s => cntL (ofL s rs)
  | .bag _ _ n => match so with | none => n | some _ => 0
  | _ => 0
def isMB : Dd → Bool
  | .mv .. => true
  | .bag .. => true
  | _ => false
def spLMany (K : PySem.W.Frag) : Sp := fun vs H Q _ => ∃ (t : Addr) (so : Option Str) (d : Dd), vs = [.ref t, soV so] ∧ DdAt H t d ∧ isMB d = true ∧ ∀ H', Same H H' → Q (.int (lmD so d)) H'
def endsOfD : Dd → Str × Str
  | .mv a b _ => (a, b)
  | .bag a b _ => (a, b)
  | _ => (default, default)
def lbOf (p : Str) (so : Option Str) (g : Pg) : Int := if isMB g.2 = true then (if (endsOfD g.2).2 = p then lmD so g.2 else 0) - (if (endsOfD g.2).1 = p then lmD so g.2 else 0) else 0
def lbalL (gs : List Pg) (p : Str) (so : Option Str) : Int := ((gs.filter fun g => decide (lawW gs g = wCd)).map (lbOf p so)).sum
def spLBal : Sp := fun vs H Q _ => ∃ (l : Addr) (p : Str) (so : Option Str) (qs : List Addr) (gs : List Pg), vs = [.ref l, .str p, soV so] ∧ H l = some (.lst (qs.map V.ref)) ∧ Pgs H qs gs ∧ gs.length ≤ 100 ∧ (gs.map (·.1)).Nodup ∧ ∀ H', Same H H' → Q (.int (lbalL gs p so)) H'
/-! both tell the same -/
theorem brt_ne {a b p : Str} (h : a ≠ b) (n : Int) : brt a b p n = (if b = p then n else 0) - (if a = p then n else 0) := by
  unfold brt
  by_cases c1 : b = p
  · rw [if_pos c1, if_pos c1, if_neg (fun z => h (z.trans c1.symm))]
    omega
  · rw [if_neg c1, if_neg c1]
    split <;> omega
theorem sum_perm {α : Type} {l m : List α} (p : l.Perm m) (f : α → Int) : (l.map f).sum = (m.map f).sum := by
  induction p with
  | nil => rfl
  | cons a _ ih => rw [List.map_cons, List.map_cons, List.sum_cons, List.sum_cons, ih]
  | swap a b l => rw [List.map_cons, List.map_cons, List.map_cons, List.map_cons, List.sum_cons, List.sum_cons, List.sum_cons, List.sum_cons]; omega
  | trans _ _ h1 h2 => exact h1.trans h2
theorem that_perm {bs gs : List Pg} (p : bs.Perm gs) : (thatL bs wCd).Perm (gs.filter fun g => decide (lawW gs g = wCd)) := by
  unfold thatL
  have e : (fun g => decide (standS bs g = wCd)) = fun g => decide (lawW gs g = wCd) := by
    funext g
    exact decide_eq_decide.mpr (stand_counted p g)
  rw [e]
  exact p.filter _
def RoadsOk (E : List Ed) : Prop := ∀ e ∈ E, e.1 ≠ e.2
theorem tr_sum {E : List Ed} {xs : List Str} {low : Int} (ro : RoadsOk E) {g : Pg} (h : DdL E xs low g.2) (p : Str) : ((trOf p g).map (·.2)).sum = lbOf p none g := by
  obtain ⟨nm, d⟩ := g
  cases d with
  | mv a b rs =>
    have ne : a ≠ b := ro (a, b) h.1
    show ((if a = p ∨ b = p then [(nm, brt a b p (cntL rs))] else [] : List Tr).map (·.2)).sum = (if b = p then cntL rs else 0) - (if a = p then cntL rs else 0)
    rw [← brt_ne ne]
    by_cases c : a = p ∨ b = p
    · rw [if_pos c]
      show brt a b p (cntL rs) + 0 = _
      omega
    · rw [if_neg c]
      rw [not_or] at c
      unfold brt
      rw [if_neg c.2, if_neg c.1]
      rfl
  | bag a b n =>
    have ne : a ≠ b := ro (a, b) h.1
    show ((if a = p ∨ b = p then [(nm, brt a b p n)] else [] : List Tr).map (·.2)).sum = (if b = p then n else 0) - (if a = p then n else 0)
    rw [← brt_ne ne]
    by_cases c : a = p ∨ b = p
    · rw [if_pos c]
      show brt a b p n + 0 = _
      omega
    · rw [if_neg c]
      rw [not_or] at c
      unfold brt
      rw [if_neg c.2, if_neg c.1]
      rfl
  | rd m rs => rfl
  | ct a n => rfl
  | vd m => rfl
theorem bal_eq {E : List Ed} {xs : List Str} {low : Int} {bs gs : List Pg} (ro : RoadsOk E) (pm : bs.Perm gs) (h : ∀ g ∈ gs, DdL E xs low g.2) (p : Str) : balL bs p = lbalL gs p none := by
  have z : ∀ l : List Pg, (∀ g ∈ l, DdL E xs low g.2) → ((l.flatMap (trOf p)).map (·.2)).sum = (l.map (lbOf p none)).sum := fun l => by
    induction l with
    | nil => exact fun _ => rfl
    | cons g l ih =>
      intro k
      rw [List.flatMap_cons, List.map_append, List.sum_append, ih fun x hx => k x (List.mem_cons_of_mem _ hx), tr_sum ro (k g List.mem_cons_self), List.map_cons, List.sum_cons]
  unfold balL trafL lbalL
  rw [z (thatL bs wCd) fun g hg => h g (pm.mem_iff.mp (List.mem_filter.mp (show g ∈ bs.filter _ from hg)).1)]
  exact sum_perm (that_perm pm) _
theorem moved_eq {E : List Ed} {xs : List Str} {low : Int} {bs gs : List Pg} (ro : RoadsOk E) (pm : bs.Perm gs) (h : ∀ g ∈ gs, DdL E xs low g.2) (p s : Str) : movedL bs p s = lbalL gs p (some s) := by
  unfold movedL lbalL
  rw [sum_perm (that_perm pm)]
  refine congrArg List.sum (List.map_congr_left fun g hg => ?_)
  have hd := h g (List.mem_filter.mp hg).1
  obtain ⟨nm, d⟩ := g
  cases d with
  | mv a b rs => exact brt_ne (ro (a, b) hd.1) _
  | bag a b n =>
    show (0 : Int) = (if b = p then 0 else 0) - (if a = p then 0 else 0)
    split <;> split <;> rfl
  | rd m rs => rfl
  | ct a n => rfl
  | vd m => rfl
theorem cut13 (w a b : Str) (x : V) : cutV [V.str w, .str a, .str b, x] (some 1) (some 3) = [V.str a, .str b] := rfl
theorem in_two (p a b : Str) : inV (V.str p) [V.str a, .str b] = (decide (a = p) || decide (b = p)) := by
  unfold inV
  by_cases c1 : a = p <;> by_cases c2 : b = p <;> simp [eqV, c1, c2]
theorem ix2 (x y z : V) (r : List V) : atI (x :: y :: z :: r) 2 = some z := by
  have e : (2 : Int) = ((2 : Nat) : Int) := rfl
  rw [e]
  exact atI_nat rfl
theorem RsL.cnt0 {xs : List Str} {low : Int} {rs : List Rn} (h : RsL xs low rs) (x8 : xs.length ≤ 8) : 0 ≤ cntL rs ∧ cntL rs ≤ 10000 := by
  have l := h.len x8
  have z : ∀ l : List Rn, (∀ r ∈ l, RkL xs low r) → 0 ≤ cntL l ∧ cntL l ≤ 34 * (l.length : Int) := fun l => by
    induction l with
    | nil => exact fun _ => ⟨Int.le_refl _, Int.le_refl _⟩
    | cons r l ih =>
      intro k
      obtain ⟨a1, a2⟩ := ih fun x hx => k x (List.mem_cons_of_mem _ hx)
      obtain ⟨_, b1, b2, b3⟩ := k r List.mem_cons_self
      rw [cntL_cons, List.length_cons]
      unfold Pn.cnt
      omega
  obtain ⟨a1, a2⟩ := z rs h.ok
  omega
theorem in_mb (d : Dd) : inV (V.str (wOf d)) [V.str (Str.ofString "move"), .str (Str.ofString "bag")] = isMB d := by
  cases d with
  | mv a b rs => exact (by decide +kernel : inV (V.str wMove) [V.str (Str.ofString "move"), .str (Str.ofString "bag")] = true)
  | bag a b n => exact (by decide +kernel : inV (V.str wBag) [V.str (Str.ofString "move"), .str (Str.ofString "bag")] = true)
  | rd m rs => exact (by decide +kernel : inV (V.str wRead) [V.str (Str.ofString "move"), .str (Str.ofString "bag")] = false)
  | ct a n => exact (by decide +kernel : inV (V.str wCount) [V.str (Str.ofString "move"), .str (Str.ofString "bag")] = false)
  | vd m => exact (by decide +kernel : inV (V.str wVoid) [V.str (Str.ofString "move"), .str (Str.ofString "bag")] = false)
theorem endsOf_at {H : Hp} {t : Addr} : ∀ {d : Dd}, DdAt H t d → isMB d = true → ∃ w r, H t = some (.tup (.str w :: .str (endsOfD d).1 :: .str (endsOfD d).2 :: r))
  | .mv .., ⟨_, h, _⟩, _ => ⟨_, _, h⟩
  | .bag .., h, _ => ⟨_, _, h⟩
  | .rd .., _, h => nomatch h
  | .ct .., _, h => nomatch h
  | .vd .., _, h => nomatch h
/-! ### a set display of one written text, found.add(text), by SXO: sorted(..) of it stays known -/
section
variable {P : Program} {w : World} {A : Around} {E : Value → Shared → Prop} {s : Shared} {a : Addr} {S : Key → Prop} {n : Nat}
theorem SX.typeIs {s : Shared} (R : SX w s.heap a S n) : Shared.TypeIs s (.ref a) "set" := by
  obtain ⟨o, es, ep, t, ⟨q1, q2, q3⟩, _⟩ := R
  exact ⟨o, q1, q2.1⟩
theorem SX.noDict {s : Shared} (R : SX w s.heap a S n) : ∀ b, Value.ref a = .ref b → ∃ ob, s.heap.get? b = some ob ∧ ob.dict = none := fun b e => by
  injection e with e
  subst e
  obtain ⟨o, es, ep, t, ⟨q1, q2, q3⟩, _⟩ := R
  exact ⟨o, q1, q2.2.1⟩
theorem sx_add_call {k : Key} {v : Value} {Q : Value → Shared → Prop} (R : SX w s.heap a S n) (room : n + 1 < scanBound) (hk : keyIs k v = true)
    (fin : ∀ h' m, Heap.SameBut a s.heap h' → m ≤ n + 1 → SX w h' a (fun j => S j ∨ j = k) m → Q .none { s with heap := h', toks := s.toks + 1 }) :
    wpAny (model P w) A (call (.builtin "set.add") [.ref a, v]) Q E s := by
  refine wpAny_call_entry F.slot_set_add R.typeIs F.entry_set_add ?_ (F.args_set_add_2 _ _)
  unfold Builtin.«set.add» Builtin.Frozenset.oneOther
  simp only [List.isEmpty_nil, bind_assoc]
  unfold Builtin.Frozenset.addrOf setAdd
  refine wpAny_bind (wpAny_pure ?_)
  try dsimp only
  refine wpAny_bind (wpAny_pure ?_)
  try dsimp only
  refine wpAny_bind ?_
  refine wpAny_holding ?_
  refine wpAny_bind ((mixKind P w).pyHash (k := k) hk ?_)
  refine sx_add (s := { s with toks := s.toks + 1 }) R room hk fun h' m sb hm R' b => ?_
  show wpAny _ _ (ret Value.none) _ _ _
  exact wpAny_pure ⟨_, rfl, fin h' m sb hm R'⟩
theorem set_one {t : Sem Value} {x : Str} {b : Bool} {Q : Value → Shared → Prop} (ht : ∀ (s1 : Shared) (Q1 : Value → Shared → Prop), (∀ k tk, Q1 (.str x k) { s1 with toks := tk }) → wpAny (model P w) A t Q1 E s1)
    (fin : ∀ h' tk m, m ≤ 1 → SX w h' s.heap.objs.size (fun j => j = .inr x) m → (∀ b o, s.heap.get? b = some o → h'.get? b = some o) → Q (.ref s.heap.objs.size) { s with heap := h', toks := tk }) :
    wpAny (model P w) A (setDisplay .oneByOne b [(false, t)]) Q E s := by
  unfold setDisplay
  try dsimp only
  rw [if_neg (by decide)]
  refine wpAny_bind (wpAny_newSet_raw fun led hled => ?_)
  subst hled
  have at1 : (s.heap.push { cls := .type "set", dict := none, data := .set #[] 0 (.fresh 0 0 (!w.params.followText "set-order")) }).get? s.heap.objs.size = some { cls := .type "set", dict := none, data := .set #[] 0 (.fresh 0 0 (!w.params.followText "set-order")) } := Heap.get?_push_size _ rfl
  have R0 : SX w _ s.heap.objs.size _ 0 := sx_new (ks := []) at1
  have k0 : ∀ b o, s.heap.get? b = some o → (s.heap.push { cls := .type "set", dict := none, data := .set #[] 0 (.fresh 0 0 (!w.params.followText "set-order")) }).get? b = some o := fun b o e => Heap.get?_push_of_some _ e
  generalize s.heap.push { cls := .type "set", dict := none, data := .set #[] 0 (.fresh 0 0 (!w.params.followText "set-order")) } = h1 at *
  refine wpAny_bind (wpAny_holding ?_)
  show wpAny _ _ (evalAll [t] >>= _) _ _ _
  unfold evalAll
  refine wpAny_bind (wpAny_bind (ht _ _ fun k tk => ?_))
  unfold evalAll
  refine wpAny_bind (wpAny_holding (wpAny_pure ?_))
  refine wpAny_pure ?_
  refine wpAny_bind (wpAny_holding ?_)
  rw [List.forIn_cons]
  refine wpAny_bind (wpAny_bind ?_)
  refine wpAny_bind ?_
  unfold setAdd
  refine wpAny_holding ?_
  refine wpAny_bind ((mixKind P w).pyHash (k := .inr x) (kV_is (P := P) (w := w) (k := .inr x) (u := .str x k) ⟨k, rfl⟩) ?_)
  refine sx_add (k := .inr x) R0 (by decide) (kV_is (P := P) (w := w) (k := .inr x) (u := .str x k) ⟨k, rfl⟩) fun h' m sb hm R' b => ?_
  have R2 : SX w h' s.heap.objs.size (fun j => j = .inr x) m := R'.like fun j => by simp
  have kk : ∀ b o, s.heap.get? b = some o → h'.get? b = some o := fun b o e => by
    rw [sb.2 b (fun z => Nat.lt_irrefl _ (z ▸ Heap.lt_size e))]
    exact k0 b o e
  have fin2 := fin h' (tk + 1) m (by omega) R2 kk
  repeat (first | exact fin2 | refine wpAny_pure ?_ | refine wpAny_bind ?_ | rw [List.forIn_nil] | rw [if_neg (by decide)])
end
section
variable {X : Cx}
/-- {'text'} -/
def tSet1 (w : World) (x : Str) : TE := fun _ H Q => ∀ p c o, H p = none → c ≤ 1 → o = SXO w p (fun j => j = .inr x) c → Q (.ref p) (upd H p o)
theorem pe_set1 {x : Str} {j : Nat} {pos cpos : Pos} (hcd : PySem.W.kdsCode X.K X.env.code = true) : PE X (.Set [.Constant (.str x) j cpos] 0 pos) (tSet1 X.w x) := by
  refine ⟨fun pins s σ H Q I h => ?_⟩
  rw [arm_eval_Set]
  refine wpAny_bind (wpAny_standAt ?_)
  refine wpAny_bind (PySem.W.kds_main I.kIn hcd fun b => ?_)
  have er : displayRoad 0 [Expr.Constant (.str x) j cpos] = .oneByOne := rfl
  rw [er]
  show wpAny _ _ (setDisplay .oneByOne b [(false, do let v ← eval (.Constant (.str x) j cpos) X.env; standAt pos; pure v)]) _ _ _
  refine set_one (x := x) (fun s1 Q1 h1 => ?_) fun h' tk m hm R keep => ?_
  · refine wpAny_bind (Calls.Constant_str ?_)
    exact wpAny_bind (wpAny_standAt (wpAny_pure (h1 _ _)))
  · exact ⟨.ref _, upd H s.heap.objs.size (SXO X.w s.heap.objs.size (fun j => j = .inr x) m), I.laid (t' := tk) keep (Nat.le_refl _) (sxo_new R), rfl, h _ _ _ (I.hok.fresh (Nat.le_refl _)) hm rfl⟩
/-- found.add(k) -/
def rSAddX (w : World) : V → List V → Hp → VK → Prop := fun x xs H Q => ∃ (a : Addr) (k : Key) (S : Key → Prop) (n : Nat), x = V.ref a ∧ xs = [kV k] ∧ H a = some (SXO w a S n) ∧ n ≤ 4000 ∧
  ∀ m o, m ≤ n + 1 → o = SXO w a (fun j => S j ∨ j = k) m → Q .non (upd H a o)
theorem mt_saddX : MtR X "set.add" (rSAddX X.w) := by
  intro pins s σ H x xs v us Q I rx rxs h
  obtain ⟨a, k, S, n, rfl, rfl, ha, room, q⟩ := h
  cases rx
  cases rxs with
  | cons ry rt =>
    cases rt
    have R : SX X.w s.heap a S n := (I.hok a _ ha).1
    refine sx_add_call R (show n + 1 < 4096 by omega) (kV_is (P := X.prog) (w := X.w) ry) fun h' m sb hm new => ?_
    have he : ∃ u, h'.get? a = some u := by
      have ⟨o, _, _, _, ho, _⟩ := new
      exact ⟨o, ho.1⟩
    exact ⟨.non, upd H a (SXO X.w a (fun j => S j ∨ j = k) m), I.write (e := a) (t' := s.toks + 1) (by rw [ha]; trivial) (.inl rfl) (fun b u hb hu => (sb.2 b hb).trans hu) he (sxo_new new), rfl, q m _ hm rfl⟩
def tSAddX (w : World) (to : TE) (t : TA) : TE := fun σ H Q => to σ H fun x H1 => (∃ a S n, x = V.ref a ∧ H1 a = some (SXO w a S n)) ∧ t σ H1 fun xs H2 => rSAddX w x xs H2 Q
variable {o e : Expr} {es : List Expr} {to : TE} {t : TA} {apos cpos : Pos}
theorem pe_saddX (ho : PE X o to) (ha : PA X (e :: es) t)
    (hbase : attributeBase o "add" X.env (eval o X.env) = eval o X.env := by rfl)
    (hfew : ((backTo cpos (starEach (e :: es) X.env)).all (fun x => !x.1) && (backToKw cpos (keywordEach [] X.env)).all (fun x => x.1.isSome)
      && decide ((e :: es).length + ([] : List Keyword).length + (if ([] : List Keyword).isEmpty then 0 else 1) < 30)) = true := by rfl)
    (hline : (apos.endLine == cpos.line) = true := by rfl) (hs : starEach (e :: es) X.env = (false, eval e X.env) :: starEach es X.env := by rfl) (hplain : (backTo cpos (starEach es X.env)).any (·.1) = false := by rfl) :
    PE X (.Call (.Attribute o "add" apos) (e :: es) [] cpos) (tSAddX X.w to t) := by
  refine ⟨fun pins s σ H Q I h => ?_⟩
  refine wpAny_Call_method_late hbase hfew hline rfl (thn (ho.run pins s σ H _ I h) fun v s1 ⟨x, H1, I1, r1, ty, q1⟩ => ?_)
  obtain ⟨a, S, n, rfl, hka⟩ := ty
  have hS : SX X.w s1.heap a S n := (I1.hok a _ hka).1
  cases r1
  refine ⟨"set", "set.add", F.plainAttrs_set, F.slot_set_add, F.type_set_add, hS.typeIs, hS.noDict, ?_⟩
  have hA := ha.run cpos pins s1 σ H1 _ I1 q1
  rw [hs] at hA ⊢
  refine Calls.callWith_builtin (by show (false || (backTo cpos (starEach es X.env)).any (·.1)) = false; rw [hplain] <;> rfl) (Calls.evalArgs_plain ?_)
  exact thn hA fun us s2 ⟨vs, H2, I2, r2, q2⟩ => mt_saddX pins s2 σ H2 (.ref a) vs (.ref a) us Q I2 rfl r2 q2
/-- a def whose code object is the module's -/
theorem okC {Pr : Program} {w : World} {K : PySem.W.Frag} {mg : Str → Option Value} {base : Heap} {x qual : Str} {st : Stmt} {f : Addr} {fd : FuncData} {N ps : List Str} {k : Nat} {sp : Sp} (F : Fun K x qual st f fd) (S : FnScope N ps (defScope st)) (len : ∀ vs H Q E, sp vs H Q E → vs.length = ps.length)
    (hbody : ∀ (cdv : Value) (A : Around) (outer : List Env) (s : Shared) (H : Hp) (vs : List V) (Q : VK) (E : XK), Room k (A.deeper (envOfC qual (defScope st) s.heap.objs.size f cdv)) → PySem.W.kdsCode K cdv = true → sp vs H Q E →
      ∃ t, PSs (cxOf CX0 Pr w K mg base N qual (defScope st) f cdv A outer s H E).nox (defBody st) t ∧ t { nx := fun _ H' => Q .non H', rt := Q } (start N vs) H) : FnOk Pr w K mg base CX0 (k + 1) f fd ps sp := by
  obtain ⟨oc, od, kV, doc, pm, an, cdv, ct, osl, rfl, lk, hcd⟩ := F.ex
  refine fn_of lk hcd S len fun A outer s H vs Q E hr hsp => ?_
  obtain ⟨t, h, q⟩ := hbody cdv A outer s H vs Q E hr (kdsCode_of hcd) hsp
  exact ⟨t, h.nox, q⟩
end
/-! ### {element for .. in .. if ..}: a set of ints or texts, known as SXO -/
def tScX (w : World) (wi : TI) (g : TG) (tt : TT) (te : TE) (vs : List Nat) : TE := fun σ H Q => wi σ H fun J H1 => ∀ D o, H1 D = none → o = SXO w D (fun j => j ∈ ([] : List Key)) 0 →
  ∃ W : Nat → Nat → Hp → Prop, (∃ m, W 0 m (upd H1 D o)) ∧ ∀ i m H', W i m H' → (J.stop i H' ∧ Q (.ref D) H') ∨
    (J.go i H' ∧ ∃ Nx : Hp → Prop, (∀ Hn, Nx Hn → ∃ m', m' < m ∧ W (i + 1) m' Hn) ∧ ∀ x Hy, J.yld i H' x Hy → g x (wipe σ vs) Hy fun σ2 H2 =>
      wipe σ2 vs = wipe σ vs ∧ tt σ2 H2 fun yes H3 => if yes = true then te σ2 H3 fun y H4 =>
        ∃ (k : Key) (S : Key → Prop) (n : Nat), y = kV k ∧ H4 D = some (SXO w D S n) ∧ n ≤ 4000 ∧ ∀ m' o', m' ≤ n + 1 → o' = SXO w D (fun j => S j ∨ j = k) m' → Nx (upd H4 D o') else Nx H3)
section
variable {X : Cx} {ex tg iter : Expr} {ifs : List Expr} {scope : Scope} {own : List (Str × Nat)} {pos : Pos} {wi : TI} {g : TG} {tt : TT} {te : TE}
theorem pe_scX (calm : X.calm = true) (nd : X.N.Nodup) (pi : PI X tg iter wi) (ok : BlkOk X.N X.env.scope scope own)
    (pgs : ∀ (s : Shared) (H : Hp) (C : Addr) (cl : List (Str × Addr)) (fp : List Addr), PG (X.blk s H scope (compEnvC scope cl C X.env) fp) tg g)
    (pts : ∀ (s : Shared) (H : Hp) (C : Addr) (cl : List (Str × Addr)) (fp : List Addr), PTs (X.blk s H scope (compEnvC scope cl C X.env) fp) ifs tt)
    (pes : ∀ (s : Shared) (H : Hp) (C : Addr) (cl : List (Str × Addr)) (fp : List Addr), PE (X.blk s H scope (compEnvC scope cl C X.env) fp) ex te)
    (plain : ∀ x, foldedSetIterable iter X.env x = pure x := by intro _; rfl) :
    PE X (.SetComp ex [⟨tg, iter, ifs, 0⟩] scope pos) (tScX X.w wi g tt te (own.map (·.2))) := by
  refine ⟨fun pins s σ H Q I wish => ?_⟩
  rw [arm_eval_SetComp]
  have caught : ∀ y ∈ scope.names, y.2 = .free → ∃ c, X.env.cells.lookup y.1 = some c := fun y m e => (ok.free y m e).elim (fun k => I.ok.has _ (.inl k)) fun k => I.ok.has _ (.inr k)
  refine wpAny_comprehension_free rfl plain (closure_ok caught) ok.kind (fun y m e => by rw [ok.uniq y m, e]) (thn (pi.run pins s σ H _ I wish) fun xv sa ha => thn ha fun itv sb hb => ?_)
  obtain ⟨it, fp, tn, J, Hb, rfl, Ib, T, stb, fb, goal⟩ := hb
  refine wpAny_newSet_raw fun led hled => newEnv_comp ?_
  subst hled
  obtain ⟨D, eD⟩ : ∃ D, sb.heap.objs.size = D := ⟨_, rfl⟩
  rw [eD]
  obtain ⟨ob, eob⟩ : ∃ ob : Obj, ({ cls := .type "set", dict := none, data := .set #[] 0 (.fresh 0 0 (!X.w.params.followText "set-order")) } : Obj) = ob := ⟨_, rfl⟩
  rw [eob]
  obtain ⟨W, ⟨m0, start⟩, turn⟩ := goal D _ (Ib.hok.fresh (Nat.le_of_eq eD)) rfl
  obtain ⟨sc, esc⟩ : ∃ sc : Shared, { sb with heap := sb.heap.push ob } = sc := ⟨_, rfl⟩
  rw [esc]
  have heapc : sc.heap = sb.heap.push ob := by rw [← esc]
  have Ic : Inv X pins σ (upd Hb D (SXO X.w D (fun j => j ∈ ([] : List Key)) 0)) sc := by
    subst esc eD
    subst eob
    refine Ib.laid (t' := sb.toks) (fun _ _ e => Heap.get?_push_of_some _ e) (Nat.le_refl _) (sxo_new ?_)
    exact sx_new (ks := []) (Heap.get?_push_size _ rfl)
  have inFp : ∀ b ∈ fp, b < sb.heap.objs.size := fun b hb => let ⟨_, e, _⟩ := T.obj _ _ stb b hb; Heap.lt_size e
  have fc : ∀ b ∈ fp, FpOk X pins (upd Hb D (SXO X.w D (fun j => j ∈ ([] : List Key)) 0)) b ∧ b < sc.heap.objs.size := fun b hb => by
    have lt := inFp b hb
    refine ⟨⟨(upd_ne (Nat.ne_of_lt (eD ▸ lt))).trans (fb b hb).1, (fb b hb).2⟩, ?_⟩
    rw [heapc, Heap.size_push]
    exact Nat.lt_succ_of_lt lt
  have stc : tn 0 sc.heap := T.keep _ _ _ stb fun b _ o e => heapc ▸ Heap.get?_push_of_some _ e
  generalize upd Hb D (SXO X.w D (fun j => j ∈ ([] : List Key)) 0) = Hc at *
  have Id := block_start Ic ok nd fc
  generalize ecl : cellsFrom (sc.heap.objs.size + 1) scope.names (cloFrom X.env.cells scope.names []) = cl at *
  have p1 := pgs sc Hc sc.heap.objs.size cl fp
  have p2 := pts sc Hc sc.heap.objs.size cl fp
  have p3 := pes sc Hc sc.heap.objs.size cl fp
  change codeAny _ _ (.compStart _ 0 (.ref it) (.ref D) (compEnvC scope cl sc.heap.objs.size X.env)) (compPost (model X.prog X.w) X.A X.xe none (EP X pins σ Q) (.ref D) sc.heap.objs.size) _
  have here : (compEnvC scope cl sc.heap.objs.size X.env).locals = sc.heap.objs.size := rfl
  generalize compEnvC scope cl sc.heap.objs.size X.env = ce at *
  obtain ⟨sd, esd⟩ : ∃ sd : Shared, { sc with heap := pushCells (sc.heap.push { cls := .type "dict", data := .dict #[] }) scope.names } = sd := ⟨_, rfl⟩
  rw [esd] at Id ⊢
  have std : tn 0 sd.heap := T.keep _ _ _ stc fun b _ o e => by
    rw [← esd]
    exact pushCells_keeps _ _ _ _ (Heap.get?_push_of_some _ e)
  have still : ∀ {τ : L2.St} {Hx : Hp} {sx : Shared}, Inv (X.blk sc Hc scope ce fp) [] τ Hx sx → (∀ b ∈ fp, Hx b = none) → ∀ b ∈ fp, FpOk (X.blk sc Hc scope ce fp) [] Hx b := fun {τ Hx sx} Ix free b hb => by
    obtain ⟨z1, z2⟩ := Ix.ok.exf b hb
    exact ⟨free b hb, z1, Ix.ok.exfs b hb, .inl hb, z2, fun p hp => (nomatch (show p ∈ ([] : List (Addr × Obj)) from hp))⟩
  have walk : codeAny (model X.prog X.w) X.A (.compLoop (.SetComp ex [⟨tg, iter, ifs, 0⟩] scope pos) 0 (.ref it) (.ref D) ce) (compPost (model X.prog X.w) X.A X.xe none (EP X pins σ Q) (.ref D) sc.heap.objs.size) sd := by
    refine compLoop_set_any (fun n sx => ∃ i Hx, Inv (X.blk sc Hc scope ce fp) [] (wipe σ (own.map (·.2))) Hx sx ∧ tn i sx.heap ∧ (∀ b ∈ fp, Hx b = none) ∧ W i n Hx) ?_ m0 ⟨0, Hc, Id, std, fun b hb => (fc b hb).1.1, start⟩
    rintro n se ⟨i, He, Ie, ste, ne, we⟩
    rcases turn i n He we with ⟨stop, told⟩ | ⟨go, Nx, down, step⟩
    · refine thnF (T.done (X.blk sc Hc scope ce fp) rfl rfl rfl calm i [] se _ He (fun _ _ => False) Ie (still Ie ne) ste stop) fun r sf ⟨er, If⟩ => ?_
      subst er
      have out : Inv X pins σ He sf := Ic.call' (ch := fp) If.os If.base If.hok If.bare fun b hb => let ⟨⟨_, y1, _, y3, y4, y5⟩, _⟩ := fc b hb; ⟨y3, y1, y4, y5⟩
      have gone : He sc.heap.objs.size = none := here ▸ If.free
      obtain ⟨m, ns, _⟩ := If.loc
      have ns : sf.heap.Ns ce.locals m := ns
      rw [here] at ns
      obtain ⟨f0, f1, _, f3, f4, f5⟩ := Ic.fpOk (Nat.le_refl _) gone
      exact ⟨m, ns, fun h2 but => ⟨.ref D, He, out.turned (t' := sf.toks) (fun b o hb e => (but.2 b hb).trans e) f0 f1 f3 f4 f5, rfl, told⟩⟩
    · refine thnF (T.item (X.blk sc Hc scope ce fp) rfl rfl rfl calm i [] se _ He (fun _ _ => False) Ie (still Ie ne) ste go) fun r sf ⟨u, er, more⟩ => ?_
      subst er
      refine thnF more fun _ sg ⟨x, Hg, Ig, rg, yg, stg, ng⟩ => ?_
      refine thnF (p1.run _ sg _ Hg x u _ (Ig.pinned (still Ig ng) (T.obj _ _ stg)) rg (step x Hg yg)) fun _ sh ⟨τ, Hh, Ih, sameW, qh⟩ => ?_
      refine thnF (p2.run _ sh τ Hh _ Ih qh) fun yes si ⟨Hi, Ii, qi⟩ => ?_
      have over : ∀ {sx : Shared} {Hx : Hp}, Inv (X.blk sc Hc scope ce fp) ([] ++ pinsAt fp sg.heap) τ Hx sx → Nx Hx → ∃ m, m < n ∧ ∃ i Hx, Inv (X.blk sc Hc scope ce fp) [] (wipe σ (own.map (·.2))) Hx sx ∧ tn i sx.heap ∧ (∀ b ∈ fp, Hx b = none) ∧ W i m Hx := fun {sx Hx} Ix nx => by
        obtain ⟨m', less, w'⟩ := down Hx nx
        have pinned : ∀ b ∈ fp, ∀ o, sg.heap.get? b = some o → sx.heap.get? b = some o ∧ Hx b = none := fun b hb o e => by
          obtain ⟨z1, z2, _⟩ := Ix.pin (b, o) (List.mem_append_right _ (List.mem_append_right _ (mem_pinsAt hb e)))
          exact ⟨z1, z2⟩
        refine ⟨m', less, i + 1, Hx, (Ix.unpinned (pins := [])).weak ?_ (fun j v e => (wipe_some (sameW ▸ e)).1), T.keep _ _ _ stg fun b hb o e => (pinned b hb o e).1, fun b hb => ?_, w'⟩
        · rw [← sameW, wipe_length]
        · obtain ⟨o, e, _⟩ := T.obj _ _ stg b hb
          exact (pinned b hb o e).2
      cases yes with
      | false => exact over Ii qi
      | true =>
        refine thnF (p3.run _ si τ Hi _ Ii qi) fun kv sj ⟨y, Hj, Ij, rj, k, S, cn, ey, hD, few, nx⟩ => ?_
        subst ey
        have R : SX X.w sj.heap D S cn := (Ij.hok D _ hD).1
        refine sx_add_call R (show cn + 1 < 4096 by omega) (kV_is (P := X.prog) (w := X.w) rj) fun h' m sb' hm new => ?_
        have he : ∃ u, h'.get? D = some u := by
          have ⟨o, _, _, _, ho, _⟩ := new
          exact ⟨o, ho.1⟩
        exact over (Ij.write (e := D) (t' := sj.toks + 1) (by rw [hD]; trivial) (.inl rfl) (fun b u hb hu => (sb'.2 b hb).trans hu) he (sxo_new new)) (nx m _ hm rfl)
  exact codeAny_compStart_set walk (T.self X.A 0 _ _ _ std walk)
end
/-- such a comprehension over a tuple -/
theorem scX_tup {w : World} {K : PySem.W.Frag} {a : Addr} {xs : List V} {g : TG} {tt : TT} {te : TE} {vs : List Nat} {σ : L2.St} {H1 : Hp} {D : Addr} {o : HO} {Qd : Hp → Prop} (Pv : Nat → Hp → Prop)
    (first : Pv 0 (upd H1 D o)) (stays : ∀ i H, i ≤ xs.length → Pv i H → SqT K H a xs)
    (each : ∀ i x H, xs[i]? = some x → Pv i H → g x (wipe σ vs) H fun σ2 H2 => wipe σ2 vs = wipe σ vs ∧ tt σ2 H2 fun yes H3 =>
      if yes = true then te σ2 H3 fun y H4 => ∃ (k : Key) (S : Key → Prop) (n : Nat), y = kV k ∧ H4 D = some (SXO w D S n) ∧ n ≤ 4000 ∧ ∀ m' o', m' ≤ n + 1 → o' = SXO w D (fun j => S j ∨ j = k) m' → Pv (i + 1) (upd H4 D o') else Pv (i + 1) H3)
    (last : ∀ H, Pv xs.length H → Qd H) :
    ∃ W : Nat → Nat → Hp → Prop, (∃ m, W 0 m (upd H1 D o)) ∧ ∀ i m H', W i m H' → ((Itt K a).stop i H' ∧ Qd H') ∨
      ((Itt K a).go i H' ∧ ∃ Nx : Hp → Prop, (∀ Hn, Nx Hn → ∃ m', m' < m ∧ W (i + 1) m' Hn) ∧ ∀ x Hy, (Itt K a).yld i H' x Hy → g x (wipe σ vs) Hy fun σ2 H2 =>
        wipe σ2 vs = wipe σ vs ∧ tt σ2 H2 fun yes H3 => if yes = true then te σ2 H3 fun y H4 =>
          ∃ (k : Key) (S : Key → Prop) (n : Nat), y = kV k ∧ H4 D = some (SXO w D S n) ∧ n ≤ 4000 ∧ ∀ m' o', m' ≤ n + 1 → o' = SXO w D (fun j => S j ∨ j = k) m' → Nx (upd H4 D o') else Nx H3) := by
  have wk := walk_tup (K := K) (a := a) (xs := xs)
  refine ⟨fun i m H => m = xs.length - i ∧ i ≤ xs.length ∧ Pv i H, ⟨xs.length, by simp, Nat.zero_le _, first⟩, ?_⟩
  rintro i m H ⟨rfl, hi, p⟩
  have q := stays i H hi p
  by_cases hlt : i < xs.length
  · refine .inr ⟨wk.goes i H hlt q, Pv (i + 1), fun Hn p' => ⟨xs.length - (i + 1), by omega, rfl, hlt, p'⟩, fun x Hy y => ?_⟩
    obtain ⟨rfl, hx⟩ := wk.yields i H x Hy hlt q y
    exact each i x _ hx p
  · have e : i = xs.length := by omega
    subst e
    exact .inl ⟨wk.stops H q, last H p⟩
/-! ### d.get(text, x) of a dict whose keys are tuples -/
section
variable {prog : Program} {w : World} {K : Type} [DecidableEq K] {knd : HeapKind prog w K} {A : Around} {E : Value → Shared → Prop} {s : Shared}
theorem tell_txt {x : Str} {t : Tok} {stored : List Value} {Q : Bool → Shared → Prop}
    (hst : ∀ v ∈ stored, ∃ k' b, v = .ref b ∧ knd.is s.heap k' b) (h : Q false s) : wpAny (model prog w) A (tableMayTell (.str x t) stored) Q E s := by
  unfold tableMayTell
  split
  · exact wpAny_pure h
  · refine wpAny_bind (wpAny_pure ?_)
    simp only [Bool.not_true, Bool.false_eq_true, if_false]
    refine wpAny_bind ?_
    refine wpAny_forIn_list _ (fun rest r s' => s' = s ∧ r = (none, ()) ∧ ∀ v ∈ rest, ∃ k' b, v = .ref b ∧ knd.is s.heap k' b) _ ?_ ?_ _ _ ⟨rfl, rfl, hst⟩
    · rintro x rest r s' ⟨rfl, rfl, hr⟩
      obtain ⟨k', b, rfl, hb⟩ := hr x List.mem_cons_self
      refine wpAny_bind (knd.quiet hb ?_)
      simp only [Bool.not_true, Bool.false_eq_true, if_false]
      exact wpAny_pure ⟨rfl, rfl, fun v hv => hr v (List.mem_cons_of_mem _ hv)⟩
    · rintro r s' ⟨rfl, rfl, _⟩
      exact wpAny_pure h
theorem find_txt {d : Addr} {o : Obj} {es : Array DictEntry} {ep : Nat} {xs : List (K × Addr × Value)} {x : Str} {t : Tok} {hash : Int} {Q : Option Nat → Shared → Prop}
    (ho : s.heap.get? d = some o) (hd : o.data = .dict es ep) (he : es.toList = xs.map (entryOfKey knd)) (his : ∀ x ∈ xs, knd.is s.heap x.1 x.2.1)
    (hx0 : xs ≠ []) (hq : ∀ y ∈ xs, SeqAt.EqAt A s (.ref y.2.1) (.str x t) false) (hnone : Q none s) : wpAny (model prog w) A (dictFind d (.str x t) hash) Q E s := by
  have hsz : es.size = xs.length := size_of_entries he
  have hmem : ∀ e ∈ es, ∃ x ∈ xs, e = entryOfKey knd x := by
    intro e hin
    have : e ∈ xs.map (entryOfKey knd) := he ▸ Array.mem_toList_iff.mpr hin
    obtain ⟨x, hx, rfl⟩ := List.mem_map.mp this
    exact ⟨x, hx, rfl⟩
  have hst : ∀ v ∈ (placesWithHash es.size (fun i => es[i]?.map (·.hash)) hash).filterMap (fun i => es[i]?.map (·.key)), ∃ k' b, v = .ref b ∧ knd.is s.heap k' b := by
    intro v hv
    obtain ⟨i, _, hi⟩ := List.mem_filterMap.mp hv
    cases hei : es[i]? with
    | none => rw [hei] at hi; cases hi
    | some e =>
      rw [hei] at hi
      obtain rfl : e.key = v := by simpa using hi
      obtain ⟨x, hx, rfl⟩ := hmem e (Array.mem_of_getElem? hei)
      exact ⟨x.1, x.2.1, rfl, his x hx⟩
  unfold dictFind
  try with_reducible refine wpAny_holding ?_
  refine wpAny_bind (wpAny_dictEntries ho hd ?_)
  dsimp only
  have na : (es.all fun e => isExactStrKey e.key) = false := by
    obtain ⟨y, ys, rfl⟩ : ∃ y ys, xs = y :: ys := by
      cases xs with
      | nil => exact absurd rfl hx0
      | cons y ys => exact ⟨y, ys, rfl⟩
    have h0 : entryOfKey knd y ∈ es := by
      rw [← Array.mem_toList_iff, he]
      exact List.mem_cons_self
    rw [Bool.eq_false_iff]
    intro z
    rw [Array.all_eq_true'] at z
    exact nomatch z _ h0
  rw [if_neg (show ¬ (es.all fun e => isExactStrKey e.key) = true by rw [na]; exact Bool.false_ne_true)]
  by_cases hp : placesWithHash es.size (fun i => es[i]?.map (·.hash)) hash = []
  · rw [hp, if_pos (by simp [carriedByValue])]
    unfold dictWalkPlain
    refine wpAny_bind ?_
    rw [List.forIn_nil]
    exact wpAny_pure (wpAny_pure hnone)
  · obtain ⟨i0, hi0⟩ := List.exists_mem_of_ne_nil _ hp
    have l0 : i0 < es.size := List.mem_range.mp (List.mem_filter.mp (show i0 ∈ (List.range es.size).filter _ from hi0)).1
    obtain ⟨y0, hy0, e0⟩ := hmem es[i0] (Array.getElem_mem l0)
    have hall : ¬ ((Value.str x t :: (placesWithHash es.size (fun i => es[i]?.map (·.hash)) hash).filterMap (fun i => es[i]?.map (·.key))).all carriedByValue) = true := fun z => by
      rw [List.all_cons, Bool.and_eq_true] at z
      have m : Value.ref y0.2.1 ∈ (placesWithHash es.size (fun i => es[i]?.map (·.hash)) hash).filterMap (fun i => es[i]?.map (·.key)) :=
        List.mem_filterMap.mpr ⟨i0, hi0, by rw [Array.getElem?_eq_getElem l0, e0]; rfl⟩
      exact nomatch List.all_eq_true.mp z.2 _ m
    rw [if_neg hall]
    by_cases hone : (((placesWithHash es.size (fun i => es[i]?.map (·.hash)) hash).filterMap (fun i => es[i]?.map (·.key))) == [Value.str x t]) = true <;>
    (first | rw [if_pos hone] | rw [if_neg hone]) <;> (first | refine wpAny_bind (wpAny_pure ?_) | refine wpAny_bind (tell_txt hst ?_)) <;> (
      rw [if_neg (by simp)]
      refine wpAny_bind ?_
      refine wpAny_forIn_list _ (fun rest b s' => s' = s ∧ b = (none, none)) _ ?_ ?_ _ _ ⟨rfl, rfl⟩
      · rintro i rest b s' ⟨rfl, rfl⟩
        cases hei : es[i]? with
        | none => exact wpAny_pure ⟨rfl, rfl⟩
        | some e =>
          obtain ⟨y, hy, rfl⟩ := hmem e (Array.mem_of_getElem? hei)
          dsimp only
          by_cases hh : ((entryOfKey knd y).hash == hash) = true
          · rw [if_pos hh]
            refine wpAny_bind (wpAny_dictEpoch ho hd (wpAny_bind (hq y hy prog w _ _ (wpAny_bind (wpAny_dictEpoch ho hd ?_)))))
            show wpAny _ _ (if (ep != ep) = true then _ else _) _ E _
            rw [if_neg (by simp)]
            simp only [Bool.false_eq_true, if_false]
            refine wpAny_bind (wpAny_rule ?_)
            first | rw [if_neg (by simp)] | skip
            exact wpAny_pure ⟨rfl, rfl⟩
          · rw [if_neg hh]
            exact wpAny_pure ⟨rfl, rfl⟩
      · rintro b s' ⟨rfl, rfl⟩
        exact wpAny_pure hnone)
theorem meets_txt {d : Addr} {x : Str} {t : Tok} (hd : (d == sysModules) = false) (dflt : Value) :
    MeetsIn prog w (Builtin.«dict.get» ⟨[.ref d, .str x t, dflt], []⟩) (fun A R s => ∃ xs, xs ≠ [] ∧ s.heap.DictOfH knd d xs ∧ (∀ tk, ∀ y ∈ xs, SeqAt.EqAt A.in1 { s with toks := tk } (.ref y.2.1) (.str x t) false) ∧ ∀ tk, R (.ok (.ret dflt)) { s with toks := tk }) :=
  .of_wp fun A R s ⟨xs, hx0, hm, hq, h⟩ => by
    show wpAny _ _ (dictGet d (.str x t) >>= _) _ _ s
    obtain ⟨o, es, ep, ho, _, hdd, he, his, hn⟩ := hm
    refine wpAny_bind ?_
    unfold dictGet
    try with_reducible refine wpAny_holding ?_
    refine wpAny_bind ((mixKind prog w).pyHash (k := .inr x) (kV_is (P := prog) (w := w) (k := .inr x) (u := .str x t) ⟨t, rfl⟩) ?_)
    refine wpAny_bind (find_txt (s := { s with toks := s.toks + 1 }) ho hdd he his hx0 (hq _) ?_)
    refine wpAny_pure ?_
    show wpAny _ _ (Builtin.Dict.missed d (.str x t) >>= _) _ _ _
    exact wpAny_bind (wpAny_missed_other hd (wpAny_pure ⟨dflt, rfl, h _⟩))
end
/-- what a dict holds at a key: also at a text where all its keys are tuples -/
def DGetX (H : Hp) (a : Addr) (y : V) (r : Option V) : Prop := DGet H a y r ∨ ∃ x kvs, y = .str x ∧ kvs ≠ [] ∧ H a = some (.dT kvs) ∧ r = none
section
variable {X : Cx} {pins : List (Addr × Obj)} {σ : L2.St} {H : Hp} {s : Shared} {A : Around} {E : Value → Shared → Prop} {a : Addr} {y d : V} {o : Option V} {u r : Value}
theorem isTupleKey_is {P : Program} {w : World} {h : Heap} {ks : List Key} {b : Addr} (k : (tupleKind (mixKind P w)).is h ks b) : ∃ items, h.IsTuple b items :=
  let ⟨o, items, n, h1, h2, h3, _⟩ := (show IsTupleKey (mixKind P w) h ks b from k)
  ⟨items, o, h1, h2, n, h3⟩
theorem kt_all {H : Hp} {P : Program} {w : World} {h : Heap} {kvs : List (List Key × V)} {xs : List (List Key × Addr × Value)} (q : KT H kvs xs) : kvs ≠ [] → xs ≠ [] := fun n z => by
  subst z
  cases q
  exact n rfl
theorem d_getX {Q : Value → Shared → Prop} (hu : A.units + 1 < cLine) (I : Inv X pins σ H s) (g : DGetX H a y o) (ry : RelV y u) (rd : RelV d r) (h : ∀ w' s', Inv X pins σ H s' → RelV (o.getD d) w' → Q w' s') :
    wpAny (model X.prog X.w) A (call (.builtin "dict.get") [.ref a, u, r]) Q E s := by
  rcases g with g | ⟨x, kvs, rfl, kn, e, rfl⟩
  · exact d_get2 hu I g ry rd h
  · obtain ⟨t, rfl⟩ : ∃ t, u = .str x t := ry
    obtain ⟨z, hd, xs, rel, dd⟩ := dt_of I.hok e
    refine call_meetsIn PySem.F.slot_dict_get dd.typeIs PySem.F.entry_dict_get (PySem.F.args_dict_get_3 _ _ _) (meets_txt (knd := tupleKind (mixKind X.prog X.w)) (x := x) (t := t) hd r) ⟨xs, kt_all (P := X.prog) (w := X.w) (h := s.heap) rel kn, dd, fun tk y hy => ?_, fun tk => h _ _ (I.tok _) rd⟩
    obtain ⟨o', es, ep, h1, h2, h3, h4, his, h5⟩ := dd
    obtain ⟨items, ht⟩ := isTupleKey_is (his y hy)
    exact SeqAt.EqAt.tuple_str x t ht hu
end
def tDGetX (td ty tx : TE) : TE := fun σ H Q => td σ H fun x H1 => ∃ a, x = .ref a ∧ IsD H1 a ∧ ty σ H1 fun y H2 => tx σ H2 fun z H3 => ∃ o, DGetX H3 a y o ∧ Q (o.getD z) H3
theorem pe_dgetx {X : Cx} {o e f : Expr} {apos cpos : Pos} {td ty tx : TE} (hu : X.A.units + 1 < cLine) (ho : PE X o td) (he : PE X e ty) (hf : PE X f tx) (m : M2 X o "get" apos e f cpos) : PE X (.Call (.Attribute o "get" apos) [e, f] [] cpos) (tDGetX td ty tx) := by
  refine ⟨fun pins s σ H Q I h => ?_⟩
  refine wpAny_Call_method m.base m.few m.line PySem.F.plainAttrs_dict PySem.F.slot_dict_get PySem.F.type_dict_get (thn (ho.run pins s σ H _ I h) fun u s1 ⟨x, H1, I1, rx, a, ex, d, q1⟩ => ?_)
  subst ex
  obtain rfl : u = Value.ref a := rx
  obtain ⟨t1, t2, _⟩ := isD_at I1 d
  refine ⟨t1, t2, ?_⟩
  rw [m.trees]
  refine Calls.callWith_builtin rfl (Calls.evalArgs_plain (Calls.spliced_cons (thn (he.run pins s1 σ H1 _ I1 q1) fun iv s2 ⟨y, H2, I2, ry, q2⟩ =>
    Calls.spliced_cons (thn (hf.run pins s2 σ H2 _ I2 q2) fun fv s3 ⟨z, H3, I3, rz, ov, g, q3⟩ => Calls.spliced_nil ?_))))
  exact d_getX hu I3 g ry rz fun w' s4 I4 rw' => ⟨_, H3, I4, rw', q3⟩
/-! ### k30: day by day -/
abbrev Dy := Int × Int
def DyAt (H : Hp) (p : Addr) (y : Dy) : Prop := H p = some (.tup [.int y.1, .int y.2])
abbrev DyS (H : Hp) (ps : List Addr) (ys : List Dy) : Prop := Paired (DyAt H) ps ys
theorem DyS.tk {H H' : Hp} {ps : List Addr} {ys : List Dy} (t : Tk H H') (h : DyS H ps ys) : DyS H' ps ys := paired_imp (fun _ _ h1 => t _ _ h1) h
def upTo (bs : List Pg) (d : Int) : List Pg := bs.filter fun g => decide (g.1.1 ≤ d)
def DaysOf (bs : List Pg) (ds : List Int) : Prop := ds.Pairwise (· < ·) ∧ (∀ d, d ∈ ds ↔ ∃ g ∈ bs, g.1.1 = d) ∧ ds.length ≤ bs.length
def spByDays (P4 P5 : Addr) : Sp := fun vs H Q _ => ∃ (b : Addr) (p : Str) (bs : List Pg) (E : List Ed) (xs : List Str) (low : Int), vs = [.ref b, .str p] ∧ BkAt H b bs ∧ bs.length ≤ 300 ∧ DdB E xs low bs ∧ H P4 = some (TabO P4) ∧ H P5 = some (TabO P5) ∧
  ∀ (l : Addr) (ds : List Int) (qs : List Addr) (H' : Hp), Same H H' → H l = none → H' l = some (.lst (qs.map V.ref)) → DaysOf bs ds → DyS H' qs (ds.map fun d => (d, balL (upTo bs d) p)) → Q (.ref l) H'
def spLDays : Sp := fun vs H Q _ => ∃ (l : Addr) (p : Str) (qs : List Addr) (gs : List Pg), vs = [.ref l, .str p] ∧ H l = some (.lst (qs.map V.ref)) ∧ Pgs H qs gs ∧ gs.length ≤ 100 ∧ (gs.map (·.1)).Nodup ∧
  ∀ (t : Addr) (ds : List Int) (ts : List Addr) (H' : Hp), Same H H' → H t = none → H' t = some (.lst (ts.map V.ref)) → DaysOf gs ds → DyS H' ts (ds.map fun d => (d, lbalL (upTo gs d) p none)) → Q (.ref t) H'
theorem lt_same : ∀ {l m : List Int}, l.Pairwise (· < ·) → m.Pairwise (· < ·) → (∀ d, d ∈ l ↔ d ∈ m) → l = m
  | [], [], _, _, _ => rfl
  | [], y :: _, _, _, h => nomatch (h y).mpr List.mem_cons_self
  | x :: _, [], _, _, h => nomatch (h x).mp List.mem_cons_self
  | x :: l, y :: m, hl, hm, h => by
    rw [List.pairwise_cons] at hl hm
    have e : x = y := by
      rcases List.mem_cons.mp ((h x).mp List.mem_cons_self) with k | k
      · exact k
      · rcases List.mem_cons.mp ((h y).mpr List.mem_cons_self) with k2 | k2
        · exact k2.symm
        · have a1 := hm.1 x k
          have a2 := hl.1 y k2
          omega
    subst e
    refine congrArg (x :: ·) (lt_same hl.2 hm.2 fun d => ⟨fun k => ?_, fun k => ?_⟩)
    · rcases List.mem_cons.mp ((h d).mp (List.mem_cons_of_mem _ k)) with z | z
      · have a1 := hl.1 d k
        omega
      · exact z
    · rcases List.mem_cons.mp ((h d).mpr (List.mem_cons_of_mem _ k)) with z | z
      · have a1 := hm.1 d k
        omega
      · exact z
theorem DaysOf.eq {bs gs : List Pg} {ds es : List Int} (p : bs.Perm gs) (h1 : DaysOf bs ds) (h2 : DaysOf gs es) : ds = es := by
  refine lt_same h1.1 h2.1 fun d => (h1.2.1 d).trans (Iff.trans ?_ (h2.2.1 d).symm)
  exact ⟨fun ⟨g, hg, e⟩ => ⟨g, p.mem_iff.mp hg, e⟩, fun ⟨g, hg, e⟩ => ⟨g, p.mem_iff.mpr hg, e⟩⟩
theorem days_eq {E : List Ed} {xs : List Str} {low : Int} {bs gs : List Pg} {ds es : List Int} (ro : RoadsOk E) (pm : bs.Perm gs) (h : ∀ g ∈ gs, DdL E xs low g.2) (h1 : DaysOf bs ds) (h2 : DaysOf gs es) (p : Str) :
    (ds.map fun d => (d, balL (upTo bs d) p)) = es.map fun d => (d, lbalL (upTo gs d) p none) := by
  rw [h1.eq pm h2]
  refine List.map_congr_left fun d _ => ?_
  rw [bal_eq ro (show (upTo bs d).Perm (upTo gs d) from pm.filter _) (fun g hg => h g (List.mem_filter.mp hg).1)]
theorem DdB.up {E : List Ed} {xs : List Str} {low : Int} {bs : List Pg} (h : DdB E xs low bs) (d : Int) : DdB E xs low (upTo bs d) := ⟨fun g hg => h.ok g (List.mem_filter.mp (show g ∈ bs.filter _ from hg)).1, h.x8, h.l0, h.l1⟩
theorem upTo_len (bs : List Pg) (d : Int) : (upTo bs d).length ≤ bs.length := List.length_filter_le _ _
def dyD (y : Dy) : PyData := .tuple [.int y.1, .int y.2]
theorem dys_dp {K : PySem.W.Frag} {H : Hp} : ∀ {ps : List Addr} {es : List Dy}, DyS H ps es → DpAll K H (ps.map V.ref) (es.map dyD)
  | _, _, .nil => .nil
  | _, _, .cons a b => .cons (.tup (SqT.of a) (.cons (.int _) (.cons (.int _) .nil))) (dys_dp b)
theorem dys_nice {es : List Dy} (h : es.length ≤ 100000) : Nice 2 (.list (es.map dyD)) := by
  refine .inr ⟨_, .inl rfl, by rw [List.length_map]; exact h, fun d hd => ?_⟩
  obtain ⟨e, _, rfl⟩ := List.mem_map.mp hd
  refine .inr ⟨_, .inr rfl, (show 2 ≤ 100000 by decide), fun d hd => ?_⟩
  rcases List.mem_cons.mp hd with rfl | hd
  · rfl
  · rw [List.mem_singleton.mp hd]
    rfl
/-! what dict(pages).get(..) finds -/
theorem dd_second {H : Hp} {t : Addr} : ∀ {d : Dd}, DdAt H t d → ∃ (w : Str) (v : V) (r : List V), H t = some (.tup (.str w :: v :: r)) ∧ ((∃ x, v = .str x) ∨ ∃ q m, v = .ref q ∧ H q = some (.tup (nmV m)))
  | .mv a b rs, ⟨u, h, _⟩ => ⟨_, _, _, h, .inl ⟨_, rfl⟩⟩
  | .bag a b n, h => ⟨_, _, _, h, .inl ⟨_, rfl⟩⟩
  | .rd m rs, ⟨q, u, h, h2, _⟩ => ⟨_, _, _, h, .inr ⟨q, m, rfl, h2⟩⟩
  | .ct a n, h => ⟨_, _, _, h, .inl ⟨_, rfl⟩⟩
  | .vd m, ⟨q, h, h2⟩ => ⟨_, _, _, h, .inr ⟨q, m, rfl, h2⟩⟩
/-- a tuple that begins with its word; a move or a bag goes on with two places -/
def Two (H : Hp) (t : Addr) : Prop := ∃ (w : Str) (r : List V), H t = some (.tup (.str w :: r)) ∧ (cutV (.str w :: r) (some 1) (some 3)).length ≤ 2 ∧
  (inV (V.str w) [V.str (Str.ofString "move"), .str (Str.ofString "bag")] = true → ∃ a b : Str, cutV (.str w :: r) (some 1) (some 3) = [V.str a, .str b])
theorem cut_two (x : V) (r : List V) : (cutV (x :: r) (some 1) (some 3)).length ≤ 2 := by
  match r with
  | [] => exact (by decide : (0 : Nat) ≤ 2)
  | [_] => exact (by decide : (1 : Nat) ≤ 2)
  | [_, _] => exact (by decide : (2 : Nat) ≤ 2)
  | a :: b :: c :: r =>
    unfold cutV
    rw [List.length_take]
    have e3 : HT.sIx (x :: a :: b :: c :: r).length (x :: a :: b :: c :: r).length (some 3) = 3 := by
      simp [HT.sIx]
    have e1 : HT.sIx (x :: a :: b :: c :: r).length 0 (some 1) = 1 := by
      simp [HT.sIx]
    rw [e3, e1]
    omega
theorem DdAt.two {H : Hp} {t : Addr} : ∀ {d : Dd}, DdAt H t d → Two H t
  | .mv a b rs, ⟨u, h, _⟩ => ⟨_, _, h, cut_two _ _, fun _ => ⟨a, b, rfl⟩⟩
  | .bag a b n, h => ⟨_, _, h, cut_two _ _, fun _ => ⟨a, b, rfl⟩⟩
  | .rd m rs, ⟨q, u, h, _⟩ => ⟨_, _, h, cut_two _ _, fun z => by rw [show inV (V.str wRead) [V.str (Str.ofString "move"), .str (Str.ofString "bag")] = isMB (.rd m rs) from in_mb (.rd m rs)] at z; exact nomatch z⟩
  | .ct a n, h => ⟨_, _, h, cut_two _ _, fun z => by rw [show inV (V.str wCount) [V.str (Str.ofString "move"), .str (Str.ofString "bag")] = isMB (.ct a n) from in_mb (.ct a n)] at z; exact nomatch z⟩
  | .vd m, ⟨q, h, _⟩ => ⟨_, _, h, cut_two _ _, fun z => by rw [show inV (V.str wVoid) [V.str (Str.ofString "move"), .str (Str.ofString "bag")] = isMB (.vd m) from in_mb (.vd m)] at z; exact nomatch z⟩
theorem none_two {H : Hp} {t : Addr} (h : H t = some (.tup [.str (Str.ofString "none")])) : Two H t :=
  ⟨_, [], h, cut_two _ _, fun z => nomatch (show false = true from (by decide +kernel : inV (V.str (Str.ofString "none")) [V.str (Str.ofString "move"), .str (Str.ofString "bag")] = false) ▸ z)⟩
theorem Two.tk {H H' : Hp} {t : Addr} (k : Tk H H') : Two H t → Two H' t := fun ⟨w, r, h, l, m⟩ => ⟨w, r, k _ _ h, l, m⟩
theorem pgs_getx {H : Hp} {D t : Addr} {gs : List Pg} {xs : List (List Key × Addr × V)} {v : V} (hD : H D = some (.dT (putAll [] xs))) (kx : xs.map (·.1) = gs.map fun g => nmKey g.1) (nd : (gs.map (·.1)).Nodup) (g0 : 0 < gs.length)
    (at0 : ∀ g ∈ gs, ∃ x ∈ xs, x.1 = nmKey g.1 ∧ ∃ td, x.2.2 = .ref td ∧ DdAt H td g.2) (hv : (∃ x, v = .str x) ∨ ∃ q m, v = .ref q ∧ H q = some (.tup (nmV m))) (ht : Two H t) : ∃ o, DGetX H D v o ∧ ∃ T, o.getD (.ref t) = .ref T ∧ Two H T := by
  have ndx : (xs.map (·.1)).Nodup := by
    rw [kx]
    have z : gs.map (fun g => nmKey g.1) = (gs.map (·.1)).map nmKey := by rw [List.map_map]; rfl
    rw [z]
    exact List.Pairwise.map _ (fun a b n e => n (nmKey_inj e)) nd
  rcases hv with ⟨x, rfl⟩ | ⟨q, m, rfl, hq⟩
  · refine ⟨none, .inr ⟨x, _, rfl, fun z => ?_, hD, rfl⟩, t, rfl, ht⟩
    obtain ⟨y, hy, _⟩ := at0 gs[0] (List.getElem_mem g0)
    have e := (putAll_val (acc := []) (k := y.1) ndx).1 y hy rfl
    rw [z] at e
    exact nomatch e
  · by_cases c : m ∈ gs.map (·.1)
    · obtain ⟨g, hg, rfl⟩ := List.mem_map.mp c
      obtain ⟨y, hy, ey, td, et, hd⟩ := at0 g hg
      refine ⟨some (.ref td), .inl (.inr ⟨_, nmKey g.1, q, .inl hD, rfl, hq, ?_⟩), td, rfl, hd.two⟩
      rw [(putAll_val (acc := []) (k := nmKey g.1) ndx).1 y hy ey, et]
    · refine ⟨none, .inl (.inr ⟨_, nmKey m, q, .inl hD, rfl, hq, ?_⟩), t, rfl, ht⟩
      rw [(putAll_val (acc := []) (k := nmKey m) ndx).2 ?_]
      · rfl
      · rw [kx]
        intro z
        obtain ⟨g, hg, e⟩ := List.mem_map.mp z
        exact c (List.mem_map.mpr ⟨g, hg, nmKey_inj e⟩)
def spOfficeR : Sp := fun vs H Q _ => ∃ (f c : Addr) (n : Int), vs = [.ref f] ∧ Fe H f c n ∧ n ≤ 600000 ∧
  ∀ (o : Addr) (ws : List Wt) (E : List Ed) (H' : Hp), Fe H' f c (n + 200) → But f H H' → H o = none → OfAt H' o ws E → OfE ws E → (ws.map (·.1)).Pairwise sl → RoadsOk E → Q (.ref o) H'
def spBegunR : Sp := fun vs H Q _ => ∃ (f c : Addr) (n : Int), vs = [.ref f] ∧ Fe H f c n ∧ n ≤ 400000 ∧
  ∀ (t o l : Addr) (low : Int) (ws : List Wt) (E : List Ed) (qs : List Addr) (gs : List Pg) (H' : Hp), Fe H' f c (n + 6000) → But f H H' → H t = none → H' t = some (.tup [.ref o, .int low, .ref l]) → OfAt H' o ws E → OfE ws E → (ws.map (·.1)).Pairwise sl → H l = none → l ≠ f → 0 ≤ low → low ≤ 999999960 →
    H' l = some (.lst (qs.map V.ref)) → Pgs H' qs gs → gs.length ≤ 44 → (gs.map (·.1)).Nodup → (∀ g ∈ gs, NmB g.1) → 0 < gs.length → (∀ g ∈ gs, DdL E (ws.map (·.1)) low g.2) → RoadsOk E → Q (.ref t) H'
/-- what the right of the law knows: the feed, the law's table of pages, two plain tables -/
structure BwS (f c P3 P4 P5 : Addr) (H : Hp) (n : Int) : Prop where
  fe : Fe H f c n
  t3 : TabL H P3 qBook
  y : TbO P4 P5 H
section
variable {f c P3 P4 P5 : Addr} {H H' : Hp} {n m : Int}
theorem BwS.same (h : BwS f c P3 P4 P5 H n) (s : Same H H') : BwS f c P3 P4 P5 H' n := ⟨h.fe.same s, h.t3.same s, h.y.same s⟩
theorem BwS.draw (h : BwS f c P3 P4 P5 H n) (b : But f H H') (e : Fe H' f c m) : BwS f c P3 P4 P5 H' m ∧ LwX f H H' := ⟨⟨e, h.t3.butE h.fe b, h.y.butF h.fe b⟩, ⟨Tk.but h.fe b, fun a xs n e => b a _ n e⟩⟩
theorem BwS.book (h : BwS f c P3 P4 P5 H n) (n1 : P4 ≠ P3) (n2 : P5 ≠ P3) (b : But P3 H H') (t : TabL H' P3 qBook) : BwS f c P3 P4 P5 H' n ∧ LwX f H H' := by
  obtain ⟨φ, hP⟩ := h.t3.at
  have nx := NeX.of_but hP b
  exact ⟨⟨h.fe.nx nx, t, h.y.but b n1 n2⟩, .of_nx nx⟩
theorem BwS.mono (h : BwS f c P3 P4 P5 H n) (l : n ≤ m) : BwS f c P3 P4 P5 H m := ⟨h.fe.mono l, h.t3, h.y⟩
end
def spRightB (P3 P4 P5 : Addr) : Sp := fun vs H Q _ => ∃ (f c o l : Addr) (low n : Int) (ws : List Wt) (E : List Ed) (qs : List Addr) (gs : List Pg), vs = [.ref f, .ref o, .ref l] ∧ BwS f c P3 P4 P5 H n ∧ n ≤ 900000 ∧
  OfAt H o ws E ∧ OfE ws E ∧ RoadsOk E ∧ H l = some (.lst (qs.map V.ref)) ∧ l ≠ f ∧ Pgs H qs gs ∧ gs.length ≤ 100 ∧ 0 < gs.length ∧ (gs.map (·.1)).Nodup ∧ (∀ g ∈ gs, DdL E (ws.map (·.1)) low g.2) ∧ 0 ≤ low ∧ low ≤ 999999960 ∧ P3 ≠ P4 ∧ P3 ≠ P5 ∧
  ∀ H', BwS f c P3 P4 P5 H' (n + 200) → LwX f H H' → Q (.bl true) H'
theorem pgs_last {H : Hp} {qs : List Addr} {gs : List Pg} (h : Pgs H qs gs) (n : 0 < gs.length) : ∃ u g, g ∈ gs ∧ atI (qs.map V.ref) (-1) = some (.ref u) ∧ PgAt H u g := by
  have l := h.len
  rcases nil_or_snoc qs with rfl | ⟨i, z, rfl⟩
  · rw [← l] at n
    exact absurd n (by decide)
  · have e : (i ++ [z])[i.length]? = some z := by simp
    obtain ⟨g, hg, k⟩ := Pgs.get h e
    exact ⟨z, g, List.mem_of_getElem? hg, by rw [List.map_append]; exact atI_last _ _, k⟩
def top (i : Nat) : Stmt := PySem.Challenge.pw_pressnotes_k30_balances.main.body.getD i (.Pass ⟨0, 0, 0, 0⟩)
abbrev s_many_in : Stmt := top 1
abbrev s_named_by_voids : Stmt := top 3
abbrev s_counted_bags : Stmt := top 4
abbrev s_standing_of : Stmt := top 5
abbrev s_pages_that_are : Stmt := top 6
abbrev s_counted_pages : Stmt := top 7
abbrev s_until : Stmt := top 8
abbrev s_of_series : Stmt := top 10
abbrev s_brought : Stmt := top 12
abbrev s_traffic : Stmt := top 13
abbrev s_balance : Stmt := top 14
abbrev s_moved : Stmt := top 15
abbrev s_by_days : Stmt := top 16
abbrev s_lfeed : Stmt := top 18
abbrev s_ldraw : Stmt := top 19
abbrev s_lfar : Stmt := top 20
abbrev s_lwords : Stmt := top 21
abbrev s_loffice : Stmt := top 22
abbrev s_lruns : Stmt := top 23
abbrev s_lnames : Stmt := top 24
abbrev s_ldeed : Stmt := top 25
abbrev s_lpages : Stmt := top 26
abbrev s_llow : Stmt := top 27
abbrev s_lknot : Stmt := top 28
abbrev s_lbegun : Stmt := top 29
abbrev s_lbook : Stmt := top 30
abbrev s_lsorts : Stmt := top 31
abbrev s_lsame : Stmt := top 32
abbrev s_lmany : Stmt := top 33
abbrev s_lbalance : Stmt := top 34
abbrev s_ldays : Stmt := top 35
abbrev s_lright : Stmt := top 36
abbrev s_law : Stmt := top 37
theorem sc_many_in : FnScope ["runs", "series", "low", "high"] ["runs"] (defScope s_many_in) := ⟨rfl, rfl, rfl, by decide +kernel, rfl, by decide +kernel, by decide +kernel⟩
theorem sc_named_by_voids : FnScope ["book", "name", "deed"] ["book"] (defScope s_named_by_voids) := ⟨rfl, rfl, rfl, by decide +kernel, rfl, by decide +kernel, by decide +kernel⟩
theorem sc_counted_bags : FnScope ["book", "gone", "name", "deed"] ["book"] (defScope s_counted_bags) := ⟨rfl, rfl, rfl, by decide +kernel, rfl, by decide +kernel, by decide +kernel⟩
theorem sc_standing_of : FnScope ["page", "gone", "bags", "name", "deed"] ["page", "gone", "bags"] (defScope s_standing_of) := ⟨rfl, rfl, rfl, by decide +kernel, rfl, by decide +kernel, by decide +kernel⟩
theorem sc_pages_that_are : FnScope ["book", "standing", "gone", "bags", "page"] ["book", "standing"] (defScope s_pages_that_are) := ⟨rfl, rfl, rfl, by decide +kernel, rfl, by decide +kernel, by decide +kernel⟩
theorem sc_counted_pages : FnScope ["book"] ["book"] (defScope s_counted_pages) := ⟨rfl, rfl, rfl, by decide +kernel, rfl, by decide +kernel, by decide +kernel⟩
theorem sc_until : FnScope ["book", "day", "page"] ["book", "day"] (defScope s_until) := ⟨rfl, rfl, rfl, by decide +kernel, rfl, by decide +kernel, by decide +kernel⟩
theorem sc_of_series : FnScope ["runs", "series", "run"] ["runs", "series"] (defScope s_of_series) := ⟨rfl, rfl, rfl, by decide +kernel, rfl, by decide +kernel, by decide +kernel⟩
theorem sc_brought : FnScope ["deed", "place", "many"] ["deed", "place", "many"] (defScope s_brought) := ⟨rfl, rfl, rfl, by decide +kernel, rfl, by decide +kernel, by decide +kernel⟩
theorem sc_traffic : FnScope ["book", "place", "found", "name", "deed"] ["book", "place"] (defScope s_traffic) := ⟨rfl, rfl, rfl, by decide +kernel, rfl, by decide +kernel, by decide +kernel⟩
theorem sc_balance : FnScope ["book", "place", "name", "many"] ["book", "place"] (defScope s_balance) := ⟨rfl, rfl, rfl, by decide +kernel, rfl, by decide +kernel, by decide +kernel⟩
theorem sc_moved : FnScope ["book", "place", "series", "total", "name", "deed"] ["book", "place", "series"] (defScope s_moved) := ⟨rfl, rfl, rfl, by decide +kernel, rfl, by decide +kernel, by decide +kernel⟩
theorem sc_by_days : FnScope ["book", "place", "days", "name", "deed", "day"] ["book", "place"] (defScope s_by_days) := ⟨rfl, rfl, rfl, by decide +kernel, rfl, by decide +kernel, by decide +kernel⟩
theorem sc_lfeed : FnScope ["_law_script", "_law_cells", "_law_cell", "_law_great"] ["_law_script"] (defScope s_lfeed) := ⟨rfl, rfl, rfl, by decide +kernel, rfl, by decide +kernel, by decide +kernel⟩
theorem sc_ldraw : FnScope ["_law_feed_here", "_law_many_here", "_law_found", "_law_k", "_law_cell", "_law_mixed"] ["_law_feed_here", "_law_many_here"] (defScope s_ldraw) := ⟨rfl, rfl, rfl, by decide +kernel, rfl, by decide +kernel, by decide +kernel⟩
theorem sc_lfar : FnScope ["_law_feed_here", "_law_many_here"] ["_law_feed_here", "_law_many_here"] (defScope s_lfar) := ⟨rfl, rfl, rfl, by decide +kernel, rfl, by decide +kernel, by decide +kernel⟩
theorem sc_lwords : FnScope ["_law_feed_here", "_law_many_here", "_law_letters", "_law_first", "_law_x", "_law_y", "_law_some", "_law_start", "_law_step", "_law_k"] ["_law_feed_here", "_law_many_here"] (defScope s_lwords) := ⟨rfl, rfl, rfl, by decide +kernel, rfl, by decide +kernel, by decide +kernel⟩
theorem sc_loffice : FnScope ["_law_feed_here", "_law_series", "_law_worths", "_law_one", "_law_places", "_law_roads", "_law_k", "_law_other"] ["_law_feed_here"] (defScope s_loffice) := ⟨rfl, rfl, rfl, by decide +kernel, rfl, by decide +kernel, by decide +kernel⟩
theorem sc_lruns : FnScope ["_law_feed_here", "_law_series", "_law_low_here", "_law_found", "_law_one", "_law_at", "_law_k", "_law_to"] ["_law_feed_here", "_law_series", "_law_low_here"] (defScope s_lruns) := ⟨rfl, rfl, rfl, by decide +kernel, rfl, by decide +kernel, by decide +kernel⟩
theorem sc_lnames : FnScope ["_law_feed_here", "_law_many_here", "_law_hands", "_law_early", "_law_found", "_law_k", "_law_day", "_law_number", "_law_hand", "_law_more"] ["_law_feed_here", "_law_many_here"] (defScope s_lnames) := ⟨rfl, rfl, rfl, by decide +kernel, rfl, by decide +kernel, by decide +kernel⟩
theorem sc_ldeed : FnScope ["_law_feed_here", "_law_office_here", "_law_names_here", "_law_kinds", "_law_k", "_law_low_here", "_law_series", "_law_row", "_law_places", "_law_road", "_law_some", "_law_j", "_law_other", "_law_roads", "_law_one"] ["_law_feed_here", "_law_office_here", "_law_names_here", "_law_kinds", "_law_k", "_law_low_here"] (defScope s_ldeed) := ⟨rfl, rfl, rfl, by decide +kernel, rfl, by decide +kernel, by decide +kernel⟩
theorem sc_lpages : FnScope ["_law_feed_here", "_law_office_here", "_law_many_here", "_law_low_here", "_law_names_here", "_law_words_here", "_law_kinds", "_law_k"] ["_law_feed_here", "_law_office_here", "_law_many_here", "_law_low_here"] (defScope s_lpages) := ⟨rfl, rfl, rfl, by decide +kernel, rfl, by decide +kernel, by decide +kernel⟩
theorem sc_llow : FnScope ["_law_feed_here"] ["_law_feed_here"] (defScope s_llow) := ⟨rfl, rfl, rfl, by decide +kernel, rfl, by decide +kernel, by decide +kernel⟩
theorem sc_lknot : FnScope ["_law_feed_here", "_law_office_here", "_law_low_here", "_law_series", "_law_row", "_law_roads", "_law_road", "_law_one", "_law_other", "_law_bag", "_law_pages_here", "_law_k", "_law_name"] ["_law_feed_here", "_law_office_here", "_law_low_here"] (defScope s_lknot) := ⟨rfl, rfl, rfl, by decide +kernel, rfl, by decide +kernel, by decide +kernel⟩
theorem sc_lbegun : FnScope ["_law_feed_here", "_law_office_here", "_law_low_here", "_law_many_here", "_law_pages_here"] ["_law_feed_here"] (defScope s_lbegun) := ⟨rfl, rfl, rfl, by decide +kernel, rfl, by decide +kernel, by decide +kernel⟩
theorem sc_lbook : FnScope ["_law_pages_here"] ["_law_pages_here"] (defScope s_lbook) := ⟨rfl, rfl, rfl, by decide +kernel, rfl, by decide +kernel, by decide +kernel⟩
theorem sc_lsorts : FnScope ["_law_pages_here", "_law_gone", "_law_name", "_law_deed_here", "_law_found", "_law_bags"] ["_law_pages_here"] (defScope s_lsorts) := ⟨rfl, rfl, rfl, by decide +kernel, rfl, by decide +kernel, by decide +kernel⟩
theorem sc_lsame : FnScope ["_law_found", "_law_due", "_law_kind", "_law_k"] ["_law_found", "_law_due"] (defScope s_lsame) := ⟨rfl, rfl, rfl, by decide +kernel, rfl, by decide +kernel, by decide +kernel⟩
theorem sc_lmany : FnScope ["_law_deed_here", "_law_series", "_law_one", "_law_at", "_law_to"] ["_law_deed_here", "_law_series"] (defScope s_lmany) := ⟨rfl, rfl, rfl, by decide +kernel, rfl, by decide +kernel, by decide +kernel⟩
theorem sc_lbalance : FnScope ["_law_pages_here", "_law_place", "_law_series", "_law_sorts_here", "_law_total", "_law_name", "_law_deed_here"] ["_law_pages_here", "_law_place", "_law_series"] (defScope s_lbalance) := ⟨rfl, rfl, rfl, by decide +kernel, rfl, by decide +kernel, by decide +kernel⟩
theorem sc_ldays : FnScope ["_law_pages_here", "_law_place", "_law_found", "_law_day", "_law_page"] ["_law_pages_here", "_law_place"] (defScope s_ldays) := ⟨rfl, rfl, rfl, by decide +kernel, rfl, by decide +kernel, by decide +kernel⟩
theorem sc_lright : FnScope ["_law_feed_here", "_law_office_here", "_law_pages_here", "_law_book_here", "_law_series", "_law_row", "_law_places", "_law_road", "_law_first", "_law_some", "_law_place", "_law_one", "_law_deed_here", "_law_due", "_law_told"] ["_law_feed_here", "_law_office_here", "_law_pages_here"] (defScope s_lright) := ⟨rfl, rfl, rfl, by decide +kernel, rfl, by decide +kernel, by decide +kernel⟩
theorem sc_law : FnScope ["_law_script", "_law_feed_here", "_law_office_here", "_law_low_here", "_law_pages_here", "_law_gone", "_law_after"] ["_law_script"] (defScope s_law) := ⟨rfl, rfl, rfl, by decide +kernel, rfl, by decide +kernel, by decide +kernel⟩
structure Txt (mg : Str → Option Value) (f_many_in f_named_by_voids f_counted_bags f_standing_of f_pages_that_are f_counted_pages f_until f_of_series f_brought f_traffic f_balance f_moved f_by_days f_lfeed f_ldraw f_lfar f_lwords f_loffice f_lruns f_lnames f_ldeed f_lpages f_llow f_lknot f_lbegun f_lbook f_lsorts f_lsame f_lmany f_lbalance f_ldays f_lright f_law : Addr) : Prop where
  m_many_in : mg "many_in" = some (.ref f_many_in)
  m_named_by_voids : mg "named_by_voids" = some (.ref f_named_by_voids)
  m_counted_bags : mg "counted_bags" = some (.ref f_counted_bags)
  m_standing_of : mg "standing_of" = some (.ref f_standing_of)
  m_pages_that_are : mg "pages_that_are" = some (.ref f_pages_that_are)
  m_counted_pages : mg "counted_pages" = some (.ref f_counted_pages)
  m_until : mg "until" = some (.ref f_until)
  m_of_series : mg "of_series" = some (.ref f_of_series)
  m_brought : mg "brought" = some (.ref f_brought)
  m_traffic : mg "traffic" = some (.ref f_traffic)
  m_balance : mg "balance" = some (.ref f_balance)
  m_moved : mg "moved" = some (.ref f_moved)
  m_by_days : mg "by_days" = some (.ref f_by_days)
  m_lfeed : mg "_law_feed" = some (.ref f_lfeed)
  m_ldraw : mg "_law_draw" = some (.ref f_ldraw)
  m_lfar : mg "_law_far" = some (.ref f_lfar)
  m_lwords : mg "_law_words" = some (.ref f_lwords)
  m_loffice : mg "_law_office" = some (.ref f_loffice)
  m_lruns : mg "_law_runs" = some (.ref f_lruns)
  m_lnames : mg "_law_names" = some (.ref f_lnames)
  m_ldeed : mg "_law_deed" = some (.ref f_ldeed)
  m_lpages : mg "_law_pages" = some (.ref f_lpages)
  m_llow : mg "_law_low" = some (.ref f_llow)
  m_lknot : mg "_law_knot" = some (.ref f_lknot)
  m_lbegun : mg "_law_begun" = some (.ref f_lbegun)
  m_lbook : mg "_law_book" = some (.ref f_lbook)
  m_lsorts : mg "_law_sorts" = some (.ref f_lsorts)
  m_lsame : mg "_law_same" = some (.ref f_lsame)
  m_lmany : mg "_law_many" = some (.ref f_lmany)
  m_lbalance : mg "_law_balance" = some (.ref f_lbalance)
  m_ldays : mg "_law_days" = some (.ref f_ldays)
  m_lright : mg "_law_right" = some (.ref f_lright)
  m_law : mg "law" = some (.ref f_law)
  len : mg "len" = none
  range : mg "range" = none
  sorted : mg "sorted" = none
  tuple : mg "tuple" = none
  isinstance : mg "isinstance" = none
  abs : mg "abs" = none
  int : mg "int" = none
  list : mg "list" = none
  set : mg "set" = none
  all : mg "all" = none
  str : mg "str" = none
  bool : mg "bool" = none
  any : mg "any" = none
  dict : mg "dict" = none
  sum : mg "sum" = none
section
variable {P : Program} {w : World} {K : PySem.W.Frag} {mg : Str → Option Value} {base : Heap} {f_many_in f_named_by_voids f_counted_bags f_standing_of f_pages_that_are f_counted_pages f_until f_of_series f_brought f_traffic f_balance f_moved f_by_days f_lfeed f_ldraw f_lfar f_lwords f_loffice f_lruns f_lnames f_ldeed f_lpages f_llow f_lknot f_lbegun f_lbook f_lsorts f_lsame f_lmany f_lbalance f_ldays f_lright f_law c_lbook P_lbook c_balance P_balance c_many_in P_many_in : Addr} {d_many_in d_named_by_voids d_counted_bags d_standing_of d_pages_that_are d_counted_pages d_until d_of_series d_brought d_traffic d_balance d_moved d_by_days d_lfeed d_ldraw d_lfar d_lwords d_loffice d_lruns d_lnames d_ldeed d_lpages d_llow d_lknot d_lbegun d_lbook d_lsorts d_lsame d_lmany d_lbalance d_ldays d_lright d_law : FuncData}
theorem ok_of_series (F : Fun K "of_series" "of_series" s_of_series f_of_series d_of_series) (T : Txt mg f_many_in f_named_by_voids f_counted_bags f_standing_of f_pages_that_are f_counted_pages f_until f_of_series f_brought f_traffic f_balance f_moved f_by_days f_lfeed f_ldraw f_lfar f_lwords f_loffice f_lruns f_lnames f_ldeed f_lpages f_llow f_lknot f_lbegun f_lbook f_lsorts f_lsame f_lmany f_lbalance f_ldays f_lright f_law) :
    FnOk P w K mg base CX0 (1) f_of_series d_of_series ["runs", "series"] (spOfs K) := by
  refine F.ok sc_of_series (fun vs H Q E h => ?_) (fun cdv A outer s H vs Q E hr h => ?_)

  · obtain ⟨a, s, rs, rfl, _⟩ := h
    rfl
  obtain ⟨a, s, rs, rfl, ⟨qs, h1, h2⟩, l1, q⟩ := h
  refine ⟨_, (pss_one (ps_ret (pe_callTy call_tuple_of (by rfl) T.tuple (by decide +kernel) (pa_cons (pe_lc (own := [("run", 2)]) (g := (gName 2)) (by rfl) sc_of_series.nd (pi_tup (pv 0)) (blkOk_by (own := [("run", 2)]) (N := ["runs", "series", "run"]) (sc := defScope s_of_series) (by decide +kernel)) (fun _ _ _ _ _ => (pg_name (i := 2) sc_of_series.nd rfl (.inl rfl))) (fun _ _ _ _ _ => (pts_one (pt_cmpR op_eq (pe_ix (show IxR _ (rIxT K) from ix_tup) (pv 2) pe_int (fun _ _ => rfl)) (pv 1) (nomark _)))) (fun _ _ _ _ _ => (pv 2))) pa_nil)))), ?_⟩
  have e1 := h2.len
  refine ⟨_, rfl, a, rfl, ⟨_, h1⟩, fun D hD => ?_⟩
  refine lc_tup (K := K) (a := a) (xs := qs.map V.ref) (fun i H' => ∃ fs : List Addr, Same H H' ∧ H' D = some (.lst (fs.map V.ref)) ∧ Prd H' fs (ofL s (rs.take i))) ⟨[], same_new hD _, upd_same, .nil⟩ (fun i H' _ h => SqT.sm h.choose_spec.1 h1) ?_ ?_
  · rintro i x H1 hx ⟨fs, S1, hD1, hp1⟩
    obtain ⟨u, hu, rfl⟩ : ∃ u, qs[i]? = some u ∧ x = V.ref u := by
      rw [List.getElem?_map] at hx
      cases e : qs[i]? with
      | none => rw [e] at hx; cases hx
      | some p => rw [e] at hx; exact ⟨p, rfl, (Option.some.inj hx).symm⟩
    obtain ⟨r, hr1, hr2⟩ := Prd.get h2 hu
    obtain ⟨hi2, ek⟩ := List.getElem?_eq_some_iff.mp hr1
    have hr3 := S1 _ _ hr2
    have more : ofL s (rs.take (i + 1)) = ofL s (rs.take i) ++ if r.1 = s then [r] else [] := by
      unfold ofL
      rw [List.take_succ_eq_append_getElem hi2, List.filter_append, ek]
      congr 1
      by_cases c : r.1 = s <;> simp [c]
    refine ⟨rfl, _, rfl, u, _, _, _, rfl, rfl, SqT.of hr3, rfl, _, rfl, rfl, _, rfl, ?_⟩
    refine ite2 (fun c => ?_) (fun c => ?_)
    · have c1 : r.1 = s := V.str.inj (of_decide_eq_true c)
      rw [if_pos c1] at more
      refine ⟨_, rfl, _, hD1, ?_, fs ++ [u], same_mut S1 hD, ?_, ?_⟩
      · rw [List.length_map, hp1.len]
        have z : (ofL s (rs.take i)).length ≤ (rs.take i).length := List.length_filter_le _ _
        rw [List.length_take] at z
        exact Nat.lt_of_le_of_lt (show _ ≤ 10000 by omega) (by decide)
      · rw [upd_same, List.map_append]
        rfl
      · rw [more]
        exact Prd.put hD1 (Prd.app hp1 (Prd.one hr3))
    · have c1 : ¬ r.1 = s := fun z => c (decide_eq_true (congrArg V.str z))
      rw [if_neg c1, List.append_nil] at more
      exact ⟨fs, S1, hD1, by rw [more]; exact hp1⟩
  · rintro H1 ⟨fs, S1, hD1, hp1⟩
    rw [List.length_map, e1, List.take_length] at hp1
    refine ⟨D, _, rfl, .inl ⟨SqL.of hD1, fun t ht => ?_⟩⟩
    exact q t fs _ (S1.trans (same_new ht _)) (S1.free ht) upd_same (Prd.same (same_new ht _) hp1)

theorem ok_many_in (F : Fun K "many_in" "many_in" s_many_in f_many_in d_many_in) (T : Txt mg f_many_in f_named_by_voids f_counted_bags f_standing_of f_pages_that_are f_counted_pages f_until f_of_series f_brought f_traffic f_balance f_moved f_by_days f_lfeed f_ldraw f_lfar f_lwords f_loffice f_lruns f_lnames f_ldeed f_lpages f_llow f_lknot f_lbegun f_lbook f_lsorts f_lsame f_lmany f_lbalance f_ldays f_lright f_law)
    (hc_many_in : d_many_in.code = .ref c_many_in) (TB_many_in : GxR.TabB base mg c_many_in P_many_in) :
    FnOk P w K mg base CX0 (2) f_many_in d_many_in ["runs"] (spMany K P_many_in) := by
  refine okT F hc_many_in sc_many_in (fun vs H Q E h => ?_) (fun A outer s H vs Q E hr h => ?_)

  · obtain ⟨a, rs, rfl, _⟩ := h
    rfl
  obtain ⟨a, rs, rfl, ⟨qs, ha, hp⟩, hl, ok, ht, q⟩ := h
  refine ⟨_, (pss_one (ps_ret (pe_sumG (own := [("series", 1), ("low", 2), ("high", 3)]) (g := (gTup K 3 (gCons (gName 1) (gCons (gName 2) (gCons (gName 3) gNil))))) hr (by rfl) T.sum sc_many_in.nd TB_many_in rfl (pi_tup (pv 0)) (blkOk_by (own := [("series", 1), ("low", 2), ("high", 3)]) (N := ["runs", "series", "low", "high"]) (sc := defScope s_many_in) (by decide +kernel)) (by decide +kernel) (fun _ _ _ _ _ => (pg_tup rfl (pgs_cons (pg_name (i := 1) sc_many_in.nd rfl (.inl rfl)) (pgs_cons (pg_name (i := 2) sc_many_in.nd rfl (.inl rfl)) (pgs_cons (pg_name (i := 3) sc_many_in.nd rfl (.inl rfl)) pgs_nil))))) (fun _ _ _ _ _ => pts_nil) (fun _ _ _ _ _ => (pe_op op_sub (pv 3) (pv 2)))))), ?_⟩
  have el : (qs.map V.ref).length = rs.length := by rw [List.length_map, hp.len]
  refine ⟨_, rfl, a, rfl, ⟨_, ha⟩, ht, (qs.map V.ref).length, fun _ => true, (fun i => .int ((rs[i]?).elim 0 cnt)), (fun _ H' => Same H H'), gx_it (walk_tup (K := K) (a := a) (xs := qs.map V.ref)) _ (Same.refl _) (fun i H' _ s => SqT.sm s ha) ?_ ⟨fun i => (rs[i]?).elim 0 cnt, 1000000000, rfl, ?_, fun i _ => ?_, fun H' s => ?_⟩⟩
  · rintro i x H1 H2 hi s ⟨rfl, hx⟩
    obtain ⟨u, hu, rfl⟩ : ∃ u, qs[i]? = some u ∧ x = V.ref u := by
      rw [List.getElem?_map] at hx
      cases e : qs[i]? with
      | none => rw [e] at hx; cases hx
      | some p => rw [e] at hx; exact ⟨p, rfl, (Option.some.inj hx).symm⟩
    obtain ⟨r, hr, hr2⟩ := Prd.get hp hu
    refine ⟨u, _, rfl, SqT.of (s _ _ hr2), rfl, _, _, rfl, _, _, rfl, _, _, rfl, rfl, rfl, rfl, ?_⟩
    refine ⟨_, rfl, _, rfl, _, _, rfl, rfl, ?_, s⟩
    rw [hr]
    rfl
  · rw [el]
    omega
  · show ((rs[i]?).elim 0 cnt).natAbs ≤ 1000000000
    cases e : rs[i]? with
    | none => exact Nat.zero_le _
    | some r =>
      obtain ⟨o1, o2, o3⟩ := ok r (List.mem_of_getElem? e)
      show (cnt r).natAbs ≤ 1000000000
      unfold cnt
      omega
  · have e : (((List.range (qs.map V.ref).length).filter fun _ => true).map fun i => (rs[i]?).elim 0 cnt).sum = cntL rs := by
      rw [el]
      exact range_sum cnt rs
    rw [e]
    exact q H' s

theorem ok_named_by_voids (F : Fun K "named_by_voids" "named_by_voids" s_named_by_voids f_named_by_voids d_named_by_voids) (T : Txt mg f_many_in f_named_by_voids f_counted_bags f_standing_of f_pages_that_are f_counted_pages f_until f_of_series f_brought f_traffic f_balance f_moved f_by_days f_lfeed f_ldraw f_lfar f_lwords f_loffice f_lruns f_lnames f_ldeed f_lpages f_llow f_lknot f_lbegun f_lbook f_lsorts f_lsame f_lmany f_lbalance f_ldays f_lright f_law) :
    FnOk P w K mg base CX0 (1) f_named_by_voids d_named_by_voids ["book"] spGone := by
  refine F.ok sc_named_by_voids (fun vs H Q E h => ?_) (fun cdv A outer s H vs Q E hr h => ?_)

  · obtain ⟨b, gs, rfl, _⟩ := h
    rfl
  obtain ⟨b, gs, rfl, ⟨ps, hb, pgs⟩, lg, q⟩ := h
  refine ⟨_, (pss_one (ps_ret (pe_dcT (own := [("name", 1), ("deed", 2)]) (g := (gTup K 2 (gCons (gName 1) (gCons (gName 2) gNil)))) (un_of hr) (by rfl) sc_named_by_voids.nd (pi_tup (pv 0)) (blkOk_by (own := [("name", 1), ("deed", 2)]) (N := ["book", "name", "deed"]) (sc := defScope s_named_by_voids) (by decide +kernel)) (fun _ _ _ _ _ => (pg_tup rfl (pgs_cons (pg_name (i := 1) sc_named_by_voids.nd rfl (.inl rfl)) (pgs_cons (pg_name (i := 2) sc_named_by_voids.nd rfl (.inl rfl)) pgs_nil)))) (fun _ _ _ _ _ => (pts_one (pt_cmpR op_eq (pe_ix (show IxR _ (rIxT K) from ix_tup) (pv 2) pe_int (fun _ _ => rfl)) pe_str (nomark _)))) (fun _ _ _ _ _ => (pe_ix (show IxR _ (rIxT K) from ix_tup) (pv 2) pe_int (fun _ _ => rfl))) (fun _ _ _ _ _ => pe_bl)))), ?_⟩
  have pl := pgs.len
  refine ⟨_, rfl, b, rfl, ⟨_, SqT.of hb⟩, fun D hD => ?_⟩
  refine dcT_tup (K := K) (a := b) (xs := ps.map V.ref) (fun i H' => ∃ kvs, Same H H' ∧ H' D = some (.dT kvs) ∧ goneIs (voids (gs.take i)) kvs ∧ kvs.length ≤ i) ⟨[], same_new hD _, upd_same, fun n => rfl, Nat.le_refl _⟩ (fun i H' _ h => by obtain ⟨_, S, _⟩ := h; exact SqT.of (S _ _ hb)) ?_ ?_
  · rintro i y H1 hy ⟨kvs, S1, hD1, go, kl⟩
    obtain ⟨u, hu, rfl⟩ : ∃ u, ps[i]? = some u ∧ y = V.ref u := by
      rw [List.getElem?_map] at hy
      cases e : ps[i]? with
      | none => rw [e] at hy; cases hy
      | some p => rw [e] at hy; exact ⟨p, rfl, (Option.some.inj hy).symm⟩
    obtain ⟨g, hg, na, dt, at1, at2, at3⟩ := Pgs.get pgs hu
    have hi := (List.getElem?_eq_some_iff.mp hg).1
    obtain ⟨r, hd⟩ := at3.head
    refine ⟨u, _, rfl, SqT.of (S1 _ _ at1), rfl, _, _, rfl, _, _, rfl, rfl, rfl, ?_⟩
    refine ⟨_, rfl, dt, _, _, _, rfl, rfl, SqT.of (S1 _ _ hd), ix0 _ _, rfl, _, rfl, ?_⟩
    refine ite2 (fun c1 => ?_) (fun c1 => ?_)
    · have c1 : wOf g.2 = wVoid := V.str.inj (of_decide_eq_true c1)
      obtain ⟨m, em⟩ := wOf_void c1
      obtain ⟨qn, r2, h2, h3⟩ := at3.nm (m := m) (by rw [em]; rfl)
      refine ⟨_, rfl, dt, _, _, _, rfl, rfl, SqT.of (S1 _ _ h2), ix1 _ _ _, kvs, nmKey m, qn, rfl, S1 _ _ h3, hD1, Nat.lt_of_le_of_lt (show _ ≤ 1000 by omega) (by decide), _, same_mut S1 hD, upd_same, fun n => ?_, Nat.le_trans (putK_le _ _ _) (by omega)⟩
      rw [val_nm, go n]
      have z := voids_take hg n
      rw [em] at z
      have z : n ∈ voids (gs.take (i + 1)) ↔ n ∈ voids (gs.take i) ∨ n = m := z.trans (or_congr Iff.rfl List.mem_singleton)
      by_cases cn : n = m
      · rw [if_pos cn, if_pos (z.mpr (.inr cn))]
      · rw [if_neg cn]
        by_cases cv : n ∈ voids (gs.take i)
        · rw [if_pos cv, if_pos (z.mpr (.inl cv))]
        · rw [if_neg cv, if_neg (fun k => (z.mp k).elim cv cn)]
    · have c1 : wOf g.2 ≠ wVoid := fun z => c1 (decide_eq_true (congrArg V.str z))
      refine ⟨kvs, S1, hD1, fun n => ?_, by omega⟩
      rw [go n]
      have z := voids_take hg n
      have e : voidOf g.2 = [] := by
        cases eg : g.2 with
        | vd m => exact absurd (by rw [eg]; rfl) c1
        | mv => rfl
        | bag => rfl
        | rd => rfl
        | ct => rfl
      rw [e] at z
      by_cases cv : n ∈ voids (gs.take i)
      · rw [if_pos cv, if_pos (z.mpr (.inl cv))]
      · rw [if_neg cv, if_neg (fun k => (z.mp k).elim cv (fun k => nomatch k))]
  · rintro H1 ⟨kvs, S1, hD1, go, kl⟩
    rw [List.length_map, pl, List.take_length] at go
    exact q D kvs H1 S1 hD hD1 go

theorem ok_counted_bags (F : Fun K "counted_bags" "counted_bags" s_counted_bags f_counted_bags d_counted_bags) (T : Txt mg f_many_in f_named_by_voids f_counted_bags f_standing_of f_pages_that_are f_counted_pages f_until f_of_series f_brought f_traffic f_balance f_moved f_by_days f_lfeed f_ldraw f_lfar f_lwords f_loffice f_lruns f_lnames f_ldeed f_lpages f_llow f_lknot f_lbegun f_lbook f_lsorts f_lsame f_lmany f_lbalance f_ldays f_lright f_law)
    (F_named_by_voids : Fun K "named_by_voids" "named_by_voids" s_named_by_voids f_named_by_voids d_named_by_voids) (b_named_by_voids : Binds K d_named_by_voids ["book"] []) (G_named_by_voids : FnOk P w K mg base CX0 (1) f_named_by_voids d_named_by_voids ["book"] spGone) :
    FnOk P w K mg base CX0 (2) f_counted_bags d_counted_bags ["book"] spBags := by
  refine F.ok sc_counted_bags (fun vs H Q E h => ?_) (fun cdv A outer s H vs Q E hr h => ?_)

  · obtain ⟨b, gs, rfl, _⟩ := h
    rfl
  obtain ⟨b, gs, rfl, bk, lg, q⟩ := h
  refine ⟨_, (pss_cons (ps_set (i := 1) sc_counted_bags.nd rfl (.inr rfl) (pe_call G_named_by_voids hr (by rfl) T.m_named_by_voids F_named_by_voids.kp b_named_by_voids .nil pass0 (pa_cons (pv 0) pa_nil)))
  (pss_one (ps_ret (pe_dcT (own := [("name", 2), ("deed", 3)]) (g := (gTup K 2 (gCons (gName 2) (gCons (gName 3) gNil)))) (un_of hr) (by rfl) sc_counted_bags.nd (pi_tup (pv 0)) (blkOk_by (own := [("name", 2), ("deed", 3)]) (N := ["book", "gone", "name", "deed"]) (sc := defScope s_counted_bags) (by decide +kernel)) (fun _ _ _ _ _ => (pg_tup rfl (pgs_cons (pg_name (i := 2) sc_counted_bags.nd rfl (.inl rfl)) (pgs_cons (pg_name (i := 3) sc_counted_bags.nd rfl (.inl rfl)) pgs_nil)))) (fun _ _ _ _ _ => (pts_one (PW.pt (pw_and (pt_cmpR op_eq (pe_ix (show IxR _ (rIxT K) from ix_tup) (pv 3) pe_int (fun _ _ => rfl)) pe_str (nomark _)) (pw_and1 (pt_cmp (pc_dnotin (hu_of hr) (pv 2) (pv 1)))))))) (fun _ _ _ _ _ => (pv 2)) (fun _ _ _ _ _ => (pv 3)))))), ?_⟩
  refine ⟨_, rfl, b, gs, rfl, bk, lg, fun G kg H0 S0 nG hG go => ?_⟩
  obtain ⟨ps, hb, pgs⟩ := bk.tk (Tk.same S0)
  have pl := pgs.len
  refine ⟨_, rfl, b, rfl, ⟨_, SqT.of hb⟩, fun D hD => ?_⟩
  refine dcT_tup (K := K) (a := b) (xs := ps.map V.ref) (fun i H' => ∃ kvs, Same H0 H' ∧ H' D = some (.dT kvs) ∧ bagsIs H' (voids gs) (gs.take i) kvs ∧ kvs.length ≤ i) ⟨[], same_new hD _, upd_same, fun n => .inr ⟨fun g hg => (by rw [List.take_zero] at hg; exact nomatch hg), rfl⟩, Nat.le_refl _⟩ (fun i H' _ h => by obtain ⟨_, S, _⟩ := h; exact SqT.of (S _ _ hb)) ?_ ?_
  · rintro i y H1 hy ⟨kvs, S1, hD1, bi, kl⟩
    obtain ⟨u, hu, rfl⟩ : ∃ u, ps[i]? = some u ∧ y = V.ref u := by
      rw [List.getElem?_map] at hy
      cases e : ps[i]? with
      | none => rw [e] at hy; cases hy
      | some p => rw [e] at hy; exact ⟨p, rfl, (Option.some.inj hy).symm⟩
    obtain ⟨g, hg, na, dt, at1, at2, at3⟩ := Pgs.get pgs hu
    obtain ⟨hi, eg⟩ := List.getElem?_eq_some_iff.mp hg
    obtain ⟨r, hd⟩ := at3.head
    have tk1 : gs.take (i + 1) = gs.take i ++ [g] := by rw [List.take_succ_eq_append_getElem hi, eg]
    have non : ∀ {Hx : Hp}, Tk H1 Hx → (isBag g.2 = true → g.1 ∈ voids gs) → bagsIs Hx (voids gs) (gs.take (i + 1)) kvs := fun {Hx} t no n => by
      rw [tk1]
      rcases (bi.tk t) n with ⟨g', a, rest⟩ | ⟨a, e⟩
      · exact .inl ⟨g', List.mem_append_left _ a, rest⟩
      · refine .inr ⟨fun g' hg' e1 e2 => ?_, e⟩
        rcases List.mem_append.mp hg' with z | z
        · exact a g' z e1 e2
        · cases List.mem_singleton.mp z
          rw [← e1]
          exact no e2
    refine ⟨u, _, rfl, SqT.of (S1 _ _ at1), rfl, _, _, rfl, _, _, rfl, rfl, rfl, ?_⟩
    refine ⟨_, rfl, dt, _, _, _, rfl, rfl, SqT.of (S1 _ _ hd), ix0 _ _, rfl, _, rfl, ?_⟩
    refine ite2 (fun c1 => ?_) (fun c1 => ?_)
    · have c1 : wOf g.2 = wBag := V.str.inj (of_decide_eq_true c1)
      have dg : DGet H1 G (.ref na) (valV kg (nmKey g.1)) := DGet.t (S1 _ _ hG) (S1 _ _ at2)
      refine ⟨_, rfl, _, rfl, G, _, rfl, dg, _, rfl, ?_⟩
      rw [go g.1]
      by_cases cv : g.1 ∈ voids gs
      · rw [if_pos cv]
        exact ⟨kvs, S1, hD1, non (Tk.refl _) fun _ => cv, by omega⟩
      · rw [if_neg cv]
        refine ⟨_, rfl, _, rfl, kvs, nmKey g.1, na, rfl, S1 _ _ at2, hD1, Nat.lt_of_le_of_lt (show _ ≤ 1000 by omega) (by decide), _, same_mut S1 hD, upd_same, fun n => ?_, Nat.le_trans (putK_le _ _ _) (by omega)⟩
        have tD : Tk H1 (upd H1 D (.dT (putK kvs (nmKey g.1) (.ref dt)))) := fun p xs h => by
          rw [upd_ne (ne_of h hD1 (fun z => nomatch z))]
          exact h
        rw [val_nm, tk1]
        by_cases cn : n = g.1
        · rw [if_pos cn]
          exact .inl ⟨g, List.mem_append_right _ List.mem_cons_self, cn.symm, wOf_bag.mp c1, cn ▸ cv, dt, rfl, (at3.tk (Tk.same S1)).tk tD⟩
        · rw [if_neg cn]
          rcases (bi.tk tD) n with ⟨g', a, rest⟩ | ⟨a, e⟩
          · exact .inl ⟨g', List.mem_append_left _ a, rest⟩
          · refine .inr ⟨fun g' hg' e1 e2 => ?_, e⟩
            rcases List.mem_append.mp hg' with z | z
            · exact a g' z e1 e2
            · cases List.mem_singleton.mp z
              exact (cn e1.symm).elim
    · have c1 : wOf g.2 ≠ wBag := fun z => c1 (decide_eq_true (congrArg V.str z))
      exact ⟨kvs, S1, hD1, non (Tk.refl _) fun e => (c1 (wOf_bag.mpr e)).elim, by omega⟩
  · rintro H1 ⟨kvs, S1, hD1, bi, kl⟩
    rw [List.length_map, pl, List.take_length] at bi
    exact q D kvs H1 (S0.trans S1) (S0.free hD) hD1 bi

theorem ok_standing_of (F : Fun K "standing_of" "standing_of" s_standing_of f_standing_of d_standing_of) (T : Txt mg f_many_in f_named_by_voids f_counted_bags f_standing_of f_pages_that_are f_counted_pages f_until f_of_series f_brought f_traffic f_balance f_moved f_by_days f_lfeed f_ldraw f_lfar f_lwords f_loffice f_lruns f_lnames f_ldeed f_lpages f_llow f_lknot f_lbegun f_lbook f_lsorts f_lsame f_lmany f_lbalance f_ldays f_lright f_law) :
    FnOk P w K mg base CX0 (1) f_standing_of d_standing_of ["page", "gone", "bags"] spStand := by
  refine F.ok sc_standing_of (fun vs H Q E h => ?_) (fun cdv A outer s H vs Q E hr h => ?_)

  · obtain ⟨p, d1, d2, g, gs, k1, k2, rfl, _⟩ := h
    rfl
  obtain ⟨p, d1, d2, g, gs, k1, k2, rfl, ⟨na, dt, at1, at2, at3⟩, h1, go, h2, bi, q⟩ := h
  refine ⟨_, (pss_cons (ps_asg (pv 0) (pg_tup rfl (pgs_cons (pg_name (i := 3) sc_standing_of.nd rfl (.inl rfl)) (pgs_cons (pg_name (i := 4) sc_standing_of.nd rfl (.inl rfl)) pgs_nil))))
  (pss_cons (ps_if (pt_cmpR op_eq (pe_ix ix_tup (pv 4) pe_int (fun _ _ => rfl)) pe_str (nomark _))
  (pss_one (ps_ret pe_str))
  pss_nil)
  (pss_cons (ps_if (pt_cmp (pc_din (hu_of hr) (pv 3) (pv 1)))
  (pss_one (ps_ret pe_str))
  pss_nil)
  (pss_cons (ps_if (PW.pt (pw_and (pt_cmpR op_eq (pe_ix ix_tup (pv 4) pe_int (fun _ _ => rfl)) pe_str (nomark _)) (pw_and1 (pt_cmp (pc_dnotin (hu_of hr) (pe_ix ix_tup (pv 4) pe_int (fun _ _ => rfl)) (pv 2))))))
  (pss_one (ps_ret pe_str))
  pss_nil)
  (pss_one (ps_ret pe_str)))))), ?_⟩
  obtain ⟨r, hd⟩ := at3.head
  refine ⟨_, rfl, p, _, rfl, SqT.of at1, rfl, _, _, rfl, _, _, rfl, rfl, ?_⟩
  refine ⟨_, rfl, dt, _, _, _, rfl, rfl, SqT.of hd, ix0 _ _, rfl, _, rfl, ?_⟩
  refine ite2 (fun c1 => ?_) (fun c1 => ?_)
  · have c1 : wOf g.2 = wVoid := V.str.inj (of_decide_eq_true c1)
    have z := q H (Same.refl _)
    unfold standS at z
    rw [if_pos c1] at z
    exact z
  have c1 : wOf g.2 ≠ wVoid := fun z => c1 (decide_eq_true (congrArg V.str z))
  have dg : DGet H d1 (.ref na) (valV k1 (nmKey g.1)) := DGet.t h1 at2
  refine ⟨_, rfl, _, rfl, d1, _, rfl, dg, _, rfl, ?_⟩
  rw [go g.1]
  by_cases cv : g.1 ∈ voids gs
  · rw [if_pos cv]
    have z := q H (Same.refl _)
    unfold standS at z
    rw [if_neg c1, if_pos cv] at z
    exact z
  rw [if_neg cv]
  have z := q H (Same.refl _)
  unfold standS at z
  rw [if_neg c1, if_neg cv] at z
  refine ⟨_, rfl, dt, _, _, _, rfl, rfl, SqT.of hd, ix0 _ _, rfl, _, rfl, ?_⟩
  refine ite2 (fun c2 => ?_) (fun c2 => ?_)
  · have c2 : wOf g.2 = wRead := V.str.inj (of_decide_eq_true c2)
    obtain ⟨m, rs, em⟩ := wOf_read c2
    obtain ⟨qn, r2, h5, h6⟩ := at3.nm (m := m) (by rw [em]; rfl)
    have dg2 : DGet H d2 (.ref qn) (valV k2 (nmKey m)) := DGet.t h2 h6
    refine ⟨_, rfl, dt, _, _, _, rfl, rfl, SqT.of h5, ix1 _ _ _, _, rfl, d2, _, rfl, dg2, _, rfl, ?_⟩
    rw [bags_some bi m]
    rw [em] at z
    have z : Q (.str (if cbB gs m = true then (("counted" : String) : Str) else (("waiting" : String) : Str))) H := z
    cases cc : cbB gs m with
    | true =>
      rw [cc] at z
      exact z
    | false =>
      rw [cc] at z
      exact z
  · have c2 : wOf g.2 ≠ wRead := fun z => c2 (decide_eq_true (congrArg V.str z))
    cases eg : g.2 with
    | rd m rs => exact absurd (by rw [eg]; rfl) c2
    | vd m => rw [eg] at z; exact z
    | mv a b rs => rw [eg] at z; exact z
    | bag a b k => rw [eg] at z; exact z
    | ct a k => rw [eg] at z; exact z

theorem ok_pages_that_are (F : Fun K "pages_that_are" "pages_that_are" s_pages_that_are f_pages_that_are d_pages_that_are) (T : Txt mg f_many_in f_named_by_voids f_counted_bags f_standing_of f_pages_that_are f_counted_pages f_until f_of_series f_brought f_traffic f_balance f_moved f_by_days f_lfeed f_ldraw f_lfar f_lwords f_loffice f_lruns f_lnames f_ldeed f_lpages f_llow f_lknot f_lbegun f_lbook f_lsorts f_lsame f_lmany f_lbalance f_ldays f_lright f_law)
    (F_named_by_voids : Fun K "named_by_voids" "named_by_voids" s_named_by_voids f_named_by_voids d_named_by_voids) (b_named_by_voids : Binds K d_named_by_voids ["book"] []) (G_named_by_voids : FnOk P w K mg base CX0 (2) f_named_by_voids d_named_by_voids ["book"] spGone)
    (F_counted_bags : Fun K "counted_bags" "counted_bags" s_counted_bags f_counted_bags d_counted_bags) (b_counted_bags : Binds K d_counted_bags ["book"] []) (G_counted_bags : FnOk P w K mg base CX0 (2) f_counted_bags d_counted_bags ["book"] spBags)
    (F_standing_of : Fun K "standing_of" "standing_of" s_standing_of f_standing_of d_standing_of) (b_standing_of : Binds K d_standing_of ["page", "gone", "bags"] []) (G_standing_of : FnOk P w K mg base CX0 (2) f_standing_of d_standing_of ["page", "gone", "bags"] spStand) :
    FnOk P w K mg base CX0 (3) f_pages_that_are d_pages_that_are ["book", "standing"] spThat := by
  refine F.ok sc_pages_that_are (fun vs H Q E h => ?_) (fun cdv A outer s H vs Q E hr h => ?_)

  · obtain ⟨b, wd, gs, rfl, _⟩ := h
    rfl
  obtain ⟨b, wd, gs, rfl, bk, lg, q⟩ := h
  refine ⟨_, (pss_cons (ps_set (i := 2) sc_pages_that_are.nd rfl (.inr rfl) (pe_call G_named_by_voids hr (by rfl) T.m_named_by_voids F_named_by_voids.kp b_named_by_voids .nil pass0 (pa_cons (pv 0) pa_nil)))
  (pss_cons (ps_set (i := 3) sc_pages_that_are.nd rfl (.inr rfl) (pe_call G_counted_bags hr (by rfl) T.m_counted_bags F_counted_bags.kp b_counted_bags .nil pass0 (pa_cons (pv 0) pa_nil)))
  (pss_one (ps_ret (pe_lc (own := [("page", 4)]) (g := (gName 4)) (by rfl) sc_pages_that_are.nd (pi_tup (pv 0)) (blkOk_by (own := [("page", 4)]) (N := ["book", "standing", "gone", "bags", "page"]) (sc := defScope s_pages_that_are) (by decide +kernel)) (fun _ _ _ _ _ => (pg_name (i := 4) sc_pages_that_are.nd rfl (.inl rfl))) (fun _ _ _ _ _ => (pts_one (pt_cmpR op_eq (pe_call G_standing_of hr (by rfl) T.m_standing_of F_standing_of.kp b_standing_of .nil pass0 (pa_cons (pv 4) (pa_cons (pv 2) (pa_cons (pv 3) pa_nil)))) (pv 1) (nomark _)))) (fun _ _ _ _ _ => (pv 4))))))), ?_⟩
  refine ⟨_, rfl, b, gs, rfl, bk, lg, fun G kg H1 S1 nG hG go => ?_⟩
  refine ⟨_, rfl, b, gs, rfl, bk.tk (Tk.same S1), lg, fun B kb H2 S2 nB hB bi => ?_⟩
  have S12 := S1.trans S2
  obtain ⟨ps, hb, pgs⟩ := bk.tk (Tk.same S12)
  have pl := pgs.len
  refine ⟨_, rfl, b, rfl, ⟨_, SqT.of hb⟩, fun D hD => ?_⟩
  refine lc_tup (K := K) (a := b) (xs := ps.map V.ref) (fun i H' => ∃ qs : List Addr, Same H2 H' ∧ H' D = some (.lst (qs.map V.ref)) ∧ Pgs H' qs ((gs.take i).filter fun g => decide (standS gs g = wd))) ⟨[], same_new hD _, upd_same, .nil⟩ (fun i H' _ h => by obtain ⟨_, S, _⟩ := h; exact SqT.of (S _ _ hb)) ?_ ?_
  · rintro i y H3 hy ⟨qs, S3, hD3, pq⟩
    obtain ⟨u, hu, rfl⟩ : ∃ u, ps[i]? = some u ∧ y = V.ref u := by
      rw [List.getElem?_map] at hy
      cases e : ps[i]? with
      | none => rw [e] at hy; cases hy
      | some p => rw [e] at hy; exact ⟨p, rfl, (Option.some.inj hy).symm⟩
    obtain ⟨g, hg, na, dt, at1, at2, at3⟩ := Pgs.get pgs hu
    obtain ⟨hi, eg⟩ := List.getElem?_eq_some_iff.mp hg
    have more : (gs.take (i + 1)).filter (fun g => decide (standS gs g = wd)) = (gs.take i).filter (fun g => decide (standS gs g = wd)) ++ if decide (standS gs g = wd) = true then [g] else [] := by
      rw [List.take_succ_eq_append_getElem hi, List.filter_append, eg]
      congr 1
      by_cases cz : standS gs g = wd <;> simp [cz]
    have pga : PgAt H2 u g := ⟨na, dt, at1, at2, at3⟩
    have ql := pq.len
    have fl : ((gs.take i).filter fun g => decide (standS gs g = wd)).length ≤ i := Nat.le_trans (List.length_filter_le _ _) (List.length_take_le _ _)
    refine ⟨rfl, _, rfl, _, rfl, _, rfl, u, G, B, g, gs, kg, kb, rfl, pga.tk (Tk.same S3), (S2.trans S3) _ _ hG, go, S3 _ _ hB, bi.tk (Tk.same S3), fun H4 S4 => ?_⟩
    have S34 := S3.trans S4
    refine ⟨_, rfl, rfl, _, rfl, ?_⟩
    refine ite2 (fun c1 => ?_) (fun c1 => ?_)
    · have c1 : standS gs g = wd := V.str.inj (of_decide_eq_true c1)
      rw [if_pos (decide_eq_true c1)] at more
      have hD4 := S4 _ _ hD3
      refine ⟨_, rfl, _, hD4, ?_, qs ++ [u], same_mut S34 hD, ?_, ?_⟩
      · rw [List.length_map, ql]
        exact Nat.lt_of_le_of_lt (show _ ≤ 1000 by omega) (by decide)
      · rw [upd_same, List.map_append]
        rfl
      · rw [more]
        exact ((pq.tk (Tk.same S4)).app (Pgs.mk1 (pga.tk (Tk.same S34)))).tk (Tk.put hD4)
    · have c1 : ¬ standS gs g = wd := fun z => c1 (decide_eq_true (congrArg V.str z))
      rw [if_neg (by rw [decide_eq_true_eq]; exact c1), List.append_nil] at more
      exact ⟨qs, S34, S4 _ _ hD3, by rw [more]; exact pq.tk (Tk.same S4)⟩
  · rintro H3 ⟨qs, S3, hD3, pq⟩
    rw [List.length_map, pl, List.take_length] at pq
    exact q D qs H3 (S12.trans S3) (S12.free hD) hD3 pq

theorem ok_counted_pages (F : Fun K "counted_pages" "counted_pages" s_counted_pages f_counted_pages d_counted_pages) (T : Txt mg f_many_in f_named_by_voids f_counted_bags f_standing_of f_pages_that_are f_counted_pages f_until f_of_series f_brought f_traffic f_balance f_moved f_by_days f_lfeed f_ldraw f_lfar f_lwords f_loffice f_lruns f_lnames f_ldeed f_lpages f_llow f_lknot f_lbegun f_lbook f_lsorts f_lsame f_lmany f_lbalance f_ldays f_lright f_law)
    (F_pages_that_are : Fun K "pages_that_are" "pages_that_are" s_pages_that_are f_pages_that_are d_pages_that_are) (b_pages_that_are : Binds K d_pages_that_are ["book", "standing"] []) (G_pages_that_are : FnOk P w K mg base CX0 (3) f_pages_that_are d_pages_that_are ["book", "standing"] spThat) :
    FnOk P w K mg base CX0 (4) f_counted_pages d_counted_pages ["book"] (spThatOf (("counted" : String) : Str)) := by
  refine F.ok sc_counted_pages (fun vs H Q E h => ?_) (fun cdv A outer s H vs Q E hr h => ?_)

  · obtain ⟨b, gs, rfl, _⟩ := h
    rfl
  obtain ⟨b, gs, rfl, bk, lg, q⟩ := h
  refine ⟨_, (pss_one (ps_ret (pe_call G_pages_that_are hr (by rfl) T.m_pages_that_are F_pages_that_are.kp b_pages_that_are .nil pass0 (pa_cons (pv 0) (pa_cons pe_str pa_nil))))), ?_⟩
  exact ⟨_, rfl, b, _, gs, rfl, bk, lg, q⟩

theorem ok_until (F : Fun K "until" "until" s_until f_until d_until) (T : Txt mg f_many_in f_named_by_voids f_counted_bags f_standing_of f_pages_that_are f_counted_pages f_until f_of_series f_brought f_traffic f_balance f_moved f_by_days f_lfeed f_ldraw f_lfar f_lwords f_loffice f_lruns f_lnames f_ldeed f_lpages f_llow f_lknot f_lbegun f_lbook f_lsorts f_lsame f_lmany f_lbalance f_ldays f_lright f_law) :
    FnOk P w K mg base CX0 (1) f_until d_until ["book", "day"] spUntil := by
  refine F.ok sc_until (fun vs H Q E h => ?_) (fun cdv A outer s H vs Q E hr h => ?_)

  · obtain ⟨b, bs, d, rfl, _⟩ := h
    rfl
  obtain ⟨b, gs, d, rfl, ⟨ps, hb, pgs⟩, bl, q⟩ := h
  refine ⟨_, (pss_one (ps_ret (pe_callTy call_tuple_of (by rfl) T.tuple (by decide +kernel) (pa_cons (pe_lc (own := [("page", 2)]) (g := (gName 2)) (by rfl) sc_until.nd (pi_tup (pv 0)) (blkOk_by (own := [("page", 2)]) (N := ["book", "day", "page"]) (sc := defScope s_until) (by decide +kernel)) (fun _ _ _ _ _ => (pg_name (i := 2) sc_until.nd rfl (.inl rfl))) (fun _ _ _ _ _ => (pts_one (pt_cmpR op_le (pe_ix (show IxR _ (rIxT K) from ix_tup) (pe_ix (show IxR _ (rIxT K) from ix_tup) (pv 2) pe_int (fun _ _ => rfl)) pe_int (fun _ _ => rfl)) (pv 1) (nomark _)))) (fun _ _ _ _ _ => (pv 2))) pa_nil)))), ?_⟩
  have pl := pgs.len
  refine ⟨_, rfl, b, rfl, ⟨_, SqT.of hb⟩, fun D hD => ?_⟩
  refine lc_tup (K := K) (a := b) (xs := ps.map V.ref) (fun i H' => ∃ qs : List Addr, Same H H' ∧ H' D = some (.lst (qs.map V.ref)) ∧ Pgs H' qs ((gs.take i).filter fun g => decide (g.1.1 ≤ d))) ⟨[], same_new hD _, upd_same, .nil⟩ (fun i H' _ h => by obtain ⟨_, S, _⟩ := h; exact SqT.of (S _ _ hb)) ?_ ?_
  · rintro i y H1 hy ⟨qs, S1, hD1, pq⟩
    obtain ⟨u, hu, rfl⟩ : ∃ u, ps[i]? = some u ∧ y = V.ref u := by
      rw [List.getElem?_map] at hy
      cases e : ps[i]? with
      | none => rw [e] at hy; cases hy
      | some p => rw [e] at hy; exact ⟨p, rfl, (Option.some.inj hy).symm⟩
    obtain ⟨g, hg, pga⟩ := Pgs.get pgs hu
    obtain ⟨na, dt, at1, at2, at3⟩ := id pga
    obtain ⟨hi, eg⟩ := List.getElem?_eq_some_iff.mp hg
    have more := filter_takeP (p := fun g => decide (g.1.1 ≤ d)) hg
    have ql := pq.len
    have fl : ((gs.take i).filter fun g => decide (g.1.1 ≤ d)).length ≤ i := Nat.le_trans (List.length_filter_le _ _) (List.length_take_le _ _)
    refine ⟨rfl, _, rfl, u, _, _, _, rfl, rfl, SqT.of (S1 _ _ at1), rfl, na, _, _, _, rfl, rfl, SqT.of (S1 _ _ at2), rfl, _, rfl, _, _, rfl, rfl, _, rfl, ?_⟩
    refine ite2 (fun c1 => ?_) (fun c1 => ?_)
    · rw [if_pos c1] at more
      refine ⟨_, rfl, _, hD1, ?_, qs ++ [u], same_mut S1 hD, ?_, ?_⟩
      · rw [List.length_map, ql]
        exact Nat.lt_of_le_of_lt (show _ ≤ 1000 by omega) (by decide)
      · rw [upd_same, List.map_append]
        rfl
      · rw [more]
        exact (pq.app (Pgs.mk1 (pga.tk (Tk.same S1)))).tk (Tk.put hD1)
    · rw [if_neg c1, List.append_nil] at more
      exact ⟨qs, S1, hD1, by rw [more]; exact pq⟩
  · rintro H1 ⟨qs, S1, hD1, pq⟩
    rw [List.length_map, pl, List.take_length] at pq
    refine ⟨D, _, rfl, .inl ⟨SqL.of hD1, fun t nt => ?_⟩⟩
    have N := same_new nt (.tup (qs.map V.ref))
    exact q t _ (S1.trans N) (S1.free nt) ⟨qs, upd_same, pq.tk (Tk.same N)⟩

theorem ok_brought (F : Fun K "brought" "brought" s_brought f_brought d_brought) (T : Txt mg f_many_in f_named_by_voids f_counted_bags f_standing_of f_pages_that_are f_counted_pages f_until f_of_series f_brought f_traffic f_balance f_moved f_by_days f_lfeed f_ldraw f_lfar f_lwords f_loffice f_lruns f_lnames f_ldeed f_lpages f_llow f_lknot f_lbegun f_lbook f_lsorts f_lsame f_lmany f_lbalance f_ldays f_lright f_law) :
    FnOk P w K mg base CX0 (1) f_brought d_brought ["deed", "place", "many"] spBrought := by
  refine F.ok sc_brought (fun vs H Q E h => ?_) (fun cdv A outer s H vs Q E hr h => ?_)

  · obtain ⟨t, w, a, b, p, n, r, rfl, _⟩ := h
    rfl
  obtain ⟨t, w, a, b, p, n, r, rfl, ht, q⟩ := h
  refine ⟨_, (pss_cons (ps_if (pt_cmpR op_eq (pe_ix ix_tup (pv 0) pe_int (fun _ _ => rfl)) (pv 1) (nomark _))
  (pss_one (ps_ret (pv 2)))
  pss_nil)
  (pss_cons (ps_if (pt_cmpR op_eq (pe_ix ix_tup (pv 0) pe_int (fun _ _ => rfl)) (pv 1) (nomark _))
  (pss_one (ps_ret (pe_un un_neg (pv 2))))
  pss_nil)
  (pss_one (ps_ret pe_int)))), ?_⟩
  have z := q H (Same.refl _)
  unfold brt at z
  refine ⟨_, rfl, t, _, _, _, rfl, rfl, SqT.of ht, ix2 _ _ _ _, _, rfl, rfl, _, rfl, ?_⟩
  refine ite2 (fun c => ?_) (fun c => ?_)
  · rw [if_pos (V.str.inj (of_decide_eq_true c))] at z
    exact ⟨_, rfl, z⟩
  · rw [if_neg (fun k => c (decide_eq_true (congrArg V.str k)))] at z
    refine ⟨_, rfl, t, _, _, _, rfl, rfl, SqT.of ht, ix1 _ _ _, _, rfl, rfl, _, rfl, ?_⟩
    refine ite2 (fun c2 => ?_) (fun c2 => ?_)
    · rw [if_pos (V.str.inj (of_decide_eq_true c2))] at z
      exact ⟨_, rfl, _, rfl, z⟩
    · rw [if_neg (fun k => c2 (decide_eq_true (congrArg V.str k)))] at z
      exact z

theorem ok_traffic (F : Fun K "traffic" "traffic" s_traffic f_traffic d_traffic) (T : Txt mg f_many_in f_named_by_voids f_counted_bags f_standing_of f_pages_that_are f_counted_pages f_until f_of_series f_brought f_traffic f_balance f_moved f_by_days f_lfeed f_ldraw f_lfar f_lwords f_loffice f_lruns f_lnames f_ldeed f_lpages f_llow f_lknot f_lbegun f_lbook f_lsorts f_lsame f_lmany f_lbalance f_ldays f_lright f_law)
    (F_counted_pages : Fun K "counted_pages" "counted_pages" s_counted_pages f_counted_pages d_counted_pages) (b_counted_pages : Binds K d_counted_pages ["book"] []) (G_counted_pages : FnOk P w K mg base CX0 (4) f_counted_pages d_counted_pages ["book"] (spThatOf (("counted" : String) : Str)))
    (F_brought : Fun K "brought" "brought" s_brought f_brought d_brought) (b_brought : Binds K d_brought ["deed", "place", "many"] []) (G_brought : FnOk P w K mg base CX0 (4) f_brought d_brought ["deed", "place", "many"] spBrought)
    (F_many_in : Fun K "many_in" "many_in" s_many_in f_many_in d_many_in) (b_many_in : Binds K d_many_in ["runs"] []) (G_many_in : FnOk P w K mg base CX0 (4) f_many_in d_many_in ["runs"] (spMany K P_many_in)) :
    FnOk P w K mg base CX0 (5) f_traffic d_traffic ["book", "place"] (spTraffic P_many_in) := by
  refine F.ok sc_traffic (fun vs H Q E h => ?_) (fun cdv A outer s H vs Q E hr h => ?_)

  · obtain ⟨b, p, bs, E, xs, low, rfl, _⟩ := h
    rfl
  obtain ⟨b, p, bs, E, xs, low, rfl, bk, bl, db, t4, q⟩ := h
  refine ⟨_, (pss_cons (ps_set (i := 2) sc_traffic.nd rfl (.inl rfl) (pe_lst pa_nil))
  (pss_cons (ps_for PassesOwn.never rfl (pi_list (pe_call G_counted_pages hr (by rfl) T.m_counted_pages F_counted_pages.kp b_counted_pages .nil pass0 (pa_cons (pv 0) pa_nil))) (pg_tup rfl (pgs_cons (pg_name (i := 3) sc_traffic.nd rfl (.inl rfl)) (pgs_cons (pg_name (i := 4) sc_traffic.nd rfl (.inl rfl)) pgs_nil)))
  (pss_one (ps_if (PW.pt (pw_and (pt_cmpR op_eq (pe_ix ix_tup (pv 4) pe_int (fun _ _ => rfl)) pe_str (nomark _)) (pw_and1 (pt_cmpR op_in_seq (pv 1) (pe_slice sl_tupTk (pv 4) (po_some pe_int) (po_some pe_int)) (by rfl)))))
  (pss_one (ps_expr (pe_bm PySem.F.plainAttrs_list PySem.F.slot_list_append PySem.F.type_list_append mt_append (pv 2) (pa_cons (pe_tup (pa_cons (pv 3) (pa_cons (pe_call G_brought hr (by rfl) T.m_brought F_brought.kp b_brought .nil pass0 (pa_cons (pv 4) (pa_cons (pv 1) (pa_cons (pe_call G_many_in hr (by rfl) T.m_many_in F_many_in.kp b_many_in .nil pass0 (pa_cons (pe_ix ix_tup (pv 4) pe_int (fun _ _ => rfl)) pa_nil)) pa_nil)))) pa_nil))) pa_nil))))
  (pss_one (ps_if (PW.pt (pw_and (pt_cmpR op_eq (pe_ix ix_tup (pv 4) pe_int (fun _ _ => rfl)) pe_str (nomark _)) (pw_and1 (pt_cmpR op_in_seq (pv 1) (pe_slice sl_tupTk (pv 4) (po_some pe_int) (po_some pe_int)) (by rfl)))))
  (pss_one (ps_expr (pe_bm PySem.F.plainAttrs_list PySem.F.slot_list_append PySem.F.type_list_append mt_append (pv 2) (pa_cons (pe_tup (pa_cons (pv 3) (pa_cons (pe_call G_brought hr (by rfl) T.m_brought F_brought.kp b_brought .nil pass0 (pa_cons (pv 4) (pa_cons (pv 1) (pa_cons (pe_ix ix_tup (pv 4) pe_int (fun _ _ => rfl)) pa_nil)))) pa_nil))) pa_nil))))
  pss_nil)))))
  (pss_one (ps_ret (pv 2))))), ?_⟩
  refine ⟨(show 0 ≤ sizeLine by decide), fun F nF => ?_⟩
  have N1 := same_new nF (.lst [])
  refine ⟨_, rfl, b, bs, rfl, bk.tk (Tk.same N1), by omega, fun l qs H1 S1 nl hl pq => ?_⟩
  have pq : Pgs H1 qs (thatL bs wCd) := pq
  have S01 := N1.trans S1
  have hF1 := S1 _ _ (upd_same (H := H) (a := F) (o := .lst []))
  have lF : l ≠ F := fun z => by rw [z, upd_same] at nl; cases nl
  have ql := pq.len
  have tl : (thatL bs wCd).length ≤ 300 := Nat.le_trans (List.length_filter_le _ _) bl
  have cnt1 : ∀ L : List Pg, (L.flatMap (trOf p)).length ≤ L.length := fun L => by
    induction L with
    | nil => exact Nat.le_refl _
    | cons g L ih =>
      have z : (trOf p g).length ≤ 1 := by
        unfold trOf
        split
        · split <;> simp
        · split <;> simp
        · simp
      rw [List.flatMap_cons, List.length_append, List.length_cons]
      omega
  refine ⟨l, rfl, ⟨_, SqL.of hl⟩, ?_⟩
  refine for_list (K := K) (a := l) (xs := qs.map V.ref) (fun i σ H' => ∃ (ps : List Addr) (v3 v4 : Option V), σ = [some (.ref b), some (.str p), some (.ref F), v3, v4] ∧ (∀ a o, a ≠ F → H1 a = some o → H' a = some o) ∧ H' F = some (.lst (ps.map V.ref)) ∧ TrS H' ps (((thatL bs wCd).take i).flatMap (trOf p))) ⟨[], none, none, rfl, fun _ _ _ e => e, hF1, .nil⟩ (fun i σ H' _ h => by obtain ⟨_, _, _, _, k, _⟩ := h; exact SqL.of (k _ _ lF hl)) ?_ ?_
  · rintro i x σ H2 hx ⟨ps, v3, v4, rfl, k2, hF2, tr2⟩
    obtain ⟨u, hu, rfl⟩ : ∃ u, qs[i]? = some u ∧ x = V.ref u := by
      rw [List.getElem?_map] at hx
      cases e : qs[i]? with
      | none => rw [e] at hx; cases hx
      | some p => rw [e] at hx; exact ⟨p, rfl, (Option.some.inj hx).symm⟩
    obtain ⟨g, hg, na, td, p1, p2, p3⟩ := Pgs.get pq hu
    obtain ⟨hi, eg⟩ := List.getElem?_eq_some_iff.mp hg
    have gin : g ∈ bs := (List.mem_filter.mp (show g ∈ bs.filter _ from List.mem_of_getElem? hg)).1
    have dok := db.ok g gin
    have kt : Tk H1 H2 := fun p zs e => k2 p _ (fun z => by rw [z, hF1] at e; cases e) e
    have more : (((thatL bs wCd).take (i + 1)).flatMap (trOf p)) = (((thatL bs wCd).take i).flatMap (trOf p)) ++ trOf p g := by
      rw [List.take_succ_eq_append_getElem hi, List.flatMap_append, eg, List.flatMap_cons, List.flatMap_nil, List.append_nil]
    have pl : ps.length ≤ 300 := by
      have z1 := paired_len tr2
      have z2 := cnt1 ((thatL bs wCd).take i)
      rw [List.length_take] at z2
      omega
    have P3 := p3.tk kt
    have k2' : ∀ {Hx : Hp}, Same H2 Hx → H P_many_in = some (TabO P_many_in) → Hx P_many_in = some (TabO P_many_in) := fun s z => s _ _ (k2 _ _ (ne_of (S01 _ _ z) hF1 fun w => nomatch w) (S01 _ _ z))
    have q1 := kt _ _ p1
    have q2 := kt _ _ p2
    have skip : trOf p g = [] → ∃ (ps : List Addr) (v3 v4 : Option V), [some (V.ref b), some (.str p), some (.ref F), some (.ref na), some (.ref td)] = [some (V.ref b), some (.str p), some (.ref F), v3, v4] ∧ (∀ a o, a ≠ F → H1 a = some o → H2 a = some o) ∧ H2 F = some (.lst (ps.map V.ref)) ∧ TrS H2 ps (((thatL bs wCd).take (i + 1)).flatMap (trOf p)) := fun e => by
      rw [more, e, List.append_nil]
      exact ⟨ps, _, _, rfl, k2, hF2, tr2⟩
    have skipS : trOf p g = [] → ∀ {Hx : Hp}, Same H2 Hx → ∃ (ps : List Addr) (v3 v4 : Option V), [some (V.ref b), some (.str p), some (.ref F), some (.ref na), some (.ref td)] = [some (V.ref b), some (.str p), some (.ref F), v3, v4] ∧ (∀ a o, a ≠ F → H1 a = some o → Hx a = some o) ∧ Hx F = some (.lst (ps.map V.ref)) ∧ TrS Hx ps (((thatL bs wCd).take (i + 1)).flatMap (trOf p)) := fun e Hx s => by
      rw [more, e, List.append_nil]
      exact ⟨ps, _, _, rfl, fun a o n z => s _ _ (k2 a o n z), s _ _ hF2, TrS.tk (Tk.same s) tr2⟩
    have put : ∀ {m : Int}, trOf p g = [(g.1, m)] → ∀ {Hx : Hp} {T : Addr}, Same H2 Hx → Hx T = none → ∃ (xs : List V), upd Hx T (.tup [.ref na, .int m]) F = some (.lst xs) ∧ xs.length < sizeLine ∧ ∃ (ps : List Addr) (v3 v4 : Option V), [some (V.ref b), some (.str p), some (.ref F), some (.ref na), some (.ref td)] = [some (V.ref b), some (.str p), some (.ref F), v3, v4] ∧ (∀ a o, a ≠ F → H1 a = some o → upd (upd Hx T (.tup [.ref na, .int m])) F (.lst (xs ++ [.ref T])) a = some o) ∧ upd (upd Hx T (.tup [.ref na, .int m])) F (.lst (xs ++ [.ref T])) F = some (.lst (ps.map V.ref)) ∧ TrS (upd (upd Hx T (.tup [.ref na, .int m])) F (.lst (xs ++ [.ref T]))) ps (((thatL bs wCd).take (i + 1)).flatMap (trOf p)) := fun {m} e {Hx T} s nT => by
      have NT := same_new nT (.tup [.ref na, .int m])
      have hF3 := NT _ _ (s _ _ hF2)
      refine ⟨_, hF3, ?_, ps ++ [T], _, _, rfl, fun a o n z => (upd_ne n).trans (NT _ _ (s _ _ (k2 a o n z))), by rw [upd_same, List.map_append]; rfl, ?_⟩
      · rw [List.length_map]
        exact Nat.lt_of_le_of_lt (show _ ≤ 1000 by omega) (by decide)
      · rw [more, e]
        exact TrS.tk (Tk.put hF3) (paired_snoc (TrS.tk (Tk.same (s.trans NT)) tr2) ⟨na, upd_same, NT _ _ (s _ _ q2)⟩)
    refine ⟨u, _, rfl, SqT.of q1, rfl, _, _, rfl, _, _, rfl, rfl, ?_⟩
    obtain ⟨nm, d⟩ := g
    cases d with
    | mv a c rs =>
      obtain ⟨ru, ht, hru⟩ := P3
      have ht : H2 td = some (.tup [.str wMove, .str a, .str c, .ref ru]) := ht
      refine ⟨_, rfl, td, _, _, _, rfl, rfl, SqT.of ht, rfl, rfl, _, rfl, iteT ?_⟩
      refine ⟨_, rfl, _, rfl, 1, rfl, 3, rfl, td, _, rfl, ht, fun sl H3 S3 hsl => ?_⟩
      rw [cut13] at hsl
      refine ⟨sl, _, rfl, .inr (SqT.of hsl), rfl, rfl, _, congrArg V.bl ((if_neg Bool.false_ne_true).trans (in_two p a c)), ?_⟩
      by_cases cc : a = p ∨ c = p
      · have eb : (decide (a = p) || decide (c = p)) = true := by
          rcases cc with k | k <;> simp [k]
        rw [eb]
        refine iteT ?_
        have hru3 := hru.tk (Tk.same S3)
        obtain ⟨rp, u1, u2, u3⟩ := hru3
        refine ⟨_, rfl, .inl ⟨rfl, _, SqL.of (S3 _ _ hF2)⟩, _, rfl, _, rfl, _, rfl, _, rfl, td, _, _, _, rfl, rfl, SqT.of (S3 _ _ ht), rfl, ru, rs, rfl, ⟨rp, SqT.of u1, u2⟩, by omega, dok.2.rnok db.l0 db.l1, k2' S3 t4, fun H4 S4 => ?_⟩
        refine ⟨td, wMove, a, c, p, cntL rs, _, rfl, S4 _ _ (S3 _ _ ht), fun H5 S5 => ⟨(show 2 ≤ sizeLine by decide), fun T nT => ?_⟩⟩
        obtain ⟨xs', z1, z2, z3⟩ := put (m := brt a c p (cntL rs)) (by unfold trOf; exact if_pos cc) (S3.trans (S4.trans S5)) nT
        exact ⟨F, xs', _, rfl, rfl, z1, z2, z3⟩
      · have eb : (decide (a = p) || decide (c = p)) = false := by
          rw [not_or] at cc
          simp [cc.1, cc.2]
        rw [eb]
        refine iteF ?_
        have ht3 := S3 _ _ ht
        refine ⟨_, rfl, td, _, _, _, rfl, rfl, SqT.of ht3, rfl, rfl, _, rfl, iteF ?_⟩
        exact skipS (by unfold trOf; exact if_neg cc) S3
    | bag a c n =>
      have ht : H2 td = some (.tup [.str wBag, .str a, .str c, .int n]) := P3
      refine ⟨_, rfl, td, _, _, _, rfl, rfl, SqT.of ht, rfl, rfl, _, rfl, iteF ?_⟩
      refine ⟨_, rfl, td, _, _, _, rfl, rfl, SqT.of ht, rfl, rfl, _, rfl, iteT ?_⟩
      refine ⟨_, rfl, _, rfl, 1, rfl, 3, rfl, td, _, rfl, ht, fun sl H3 S3 hsl => ?_⟩
      rw [cut13] at hsl
      refine ⟨sl, _, rfl, .inr (SqT.of hsl), rfl, rfl, _, congrArg V.bl ((if_neg Bool.false_ne_true).trans (in_two p a c)), ?_⟩
      by_cases cc : a = p ∨ c = p
      · have eb : (decide (a = p) || decide (c = p)) = true := by
          rcases cc with k | k <;> simp [k]
        rw [eb]
        refine iteT ?_
        refine ⟨_, rfl, .inl ⟨rfl, _, SqL.of (S3 _ _ hF2)⟩, _, rfl, _, rfl, _, rfl, _, rfl, td, _, _, _, rfl, rfl, SqT.of (S3 _ _ ht), rfl, ?_⟩
        refine ⟨td, wBag, a, c, p, n, _, rfl, S3 _ _ ht, fun H5 S5 => ⟨(show 2 ≤ sizeLine by decide), fun T nT => ?_⟩⟩
        obtain ⟨xs', z1, z2, z3⟩ := put (m := brt a c p n) (by unfold trOf; exact if_pos cc) (S3.trans S5) nT
        exact ⟨F, xs', _, rfl, rfl, z1, z2, z3⟩
      · have eb : (decide (a = p) || decide (c = p)) = false := by
          rw [not_or] at cc
          simp [cc.1, cc.2]
        rw [eb]
        exact iteF (skipS (by unfold trOf; exact if_neg cc) S3)
    | rd m rs =>
      obtain ⟨z, y, ht, _⟩ := P3
      exact ⟨_, rfl, td, _, _, _, rfl, rfl, SqT.of ht, rfl, rfl, _, rfl, iteF ⟨_, rfl, td, _, _, _, rfl, rfl, SqT.of ht, rfl, rfl, _, rfl, iteF (skip rfl)⟩⟩
    | ct a n => exact ⟨_, rfl, td, _, _, _, rfl, rfl, SqT.of P3, rfl, rfl, _, rfl, iteF ⟨_, rfl, td, _, _, _, rfl, rfl, SqT.of P3, rfl, rfl, _, rfl, iteF (skip rfl)⟩⟩
    | vd m =>
      obtain ⟨z, ht, _⟩ := P3
      exact ⟨_, rfl, td, _, _, _, rfl, rfl, SqT.of ht, rfl, rfl, _, rfl, iteF ⟨_, rfl, td, _, _, _, rfl, rfl, SqT.of ht, rfl, rfl, _, rfl, iteF (skip rfl)⟩⟩
  · rintro σ H2 ⟨ps, v3, v4, rfl, k2, hF2, tr2⟩
    rw [List.length_map, ql, List.take_length] at tr2
    refine ⟨_, rfl, q F ps H2 ?_ nF hF2 tr2⟩
    exact fun a o e => k2 a o (ne_of_none e nF) (S01 _ _ e)

theorem ok_balance (F : Fun K "balance" "balance" s_balance f_balance d_balance) (T : Txt mg f_many_in f_named_by_voids f_counted_bags f_standing_of f_pages_that_are f_counted_pages f_until f_of_series f_brought f_traffic f_balance f_moved f_by_days f_lfeed f_ldraw f_lfar f_lwords f_loffice f_lruns f_lnames f_ldeed f_lpages f_llow f_lknot f_lbegun f_lbook f_lsorts f_lsame f_lmany f_lbalance f_ldays f_lright f_law)
    (F_traffic : Fun K "traffic" "traffic" s_traffic f_traffic d_traffic) (b_traffic : Binds K d_traffic ["book", "place"] []) (G_traffic : FnOk P w K mg base CX0 (5) f_traffic d_traffic ["book", "place"] (spTraffic P_many_in))
    (hc_balance : d_balance.code = .ref c_balance) (TB_balance : GxR.TabB base mg c_balance P_balance) :
    FnOk P w K mg base CX0 (7) f_balance d_balance ["book", "place"] (spBalance P_many_in P_balance) := by
  refine okT F hc_balance sc_balance (fun vs H Q E h => ?_) (fun A outer s H vs Q E hr h => ?_)

  · obtain ⟨b, p, bs, E, xs, low, rfl, _⟩ := h
    rfl
  obtain ⟨b, p, bs, E, xs, low, rfl, bk, bl, db, t4, t5, q⟩ := h
  refine ⟨_, (pss_one (ps_ret (pe_sumG (own := [("name", 2), ("many", 3)]) (g := (gTup K 2 (gCons (gName 2) (gCons (gName 3) gNil)))) hr (by rfl) T.sum sc_balance.nd TB_balance rfl (pi_list (pe_call G_traffic (hr.mono (by decide)) (by rfl) T.m_traffic F_traffic.kp b_traffic .nil pass0 (pa_cons (pv 0) (pa_cons (pv 1) pa_nil)))) (blkOk_by (own := [("name", 2), ("many", 3)]) (N := ["book", "place", "name", "many"]) (sc := defScope s_balance) (by decide +kernel)) (by decide +kernel) (fun _ _ _ _ _ => (pg_tup rfl (pgs_cons (pg_name (i := 2) sc_balance.nd rfl (.inl rfl)) (pgs_cons (pg_name (i := 3) sc_balance.nd rfl (.inl rfl)) pgs_nil)))) (fun _ _ _ _ _ => pts_nil) (fun _ _ _ _ _ => (pv 3))))), ?_⟩
  refine ⟨_, rfl, _, rfl, b, p, bs, E, xs, low, rfl, bk, bl, db, t4, fun l qs H1 S1 nl hl tr => ?_⟩
  have ql := paired_len tr
  have t51 := S1 _ _ t5
  have el : (qs.map V.ref).length = (trafL bs p).length := by rw [List.length_map, ql]
  have trb : ∀ y ∈ trafL bs p, y.2.natAbs ≤ 10000 := fun y hy => by
    obtain ⟨g, hg, k⟩ := List.mem_flatMap.mp hy
    have dok := db.ok g (List.mem_filter.mp (show g ∈ bs.filter _ from hg)).1
    have bb : ∀ (a c : Str) (n : Int), 0 ≤ n → n ≤ 10000 → (brt a c p n).natAbs ≤ 10000 := fun a c n h0 h1 => by
      unfold brt
      split
      · omega
      · split <;> omega
    obtain ⟨nm, d⟩ := g
    cases d with
    | mv a c rs =>
      have k : y ∈ (if a = p ∨ c = p then [(nm, brt a c p (cntL rs))] else [] : List Tr) := k
      have cb := dok.2.cnt0 db.x8
      split at k
      · rw [List.mem_singleton.mp k]
        exact bb a c _ cb.1 cb.2
      · exact nomatch k
    | bag a c n =>
      have k : y ∈ (if a = p ∨ c = p then [(nm, brt a c p n)] else [] : List Tr) := k
      have d1 := dok.2.1
      have d2 := dok.2.2
      split at k
      · rw [List.mem_singleton.mp k]
        exact bb a c _ (by omega) (by omega)
      · exact nomatch k
    | rd m rs => exact nomatch k
    | ct a n => exact nomatch k
    | vd m => exact nomatch k
  have tlen : (trafL bs p).length ≤ 300 := by
    have cnt1 : ∀ L : List Pg, (L.flatMap (trOf p)).length ≤ L.length := fun L => by
      induction L with
      | nil => exact Nat.le_refl _
      | cons g L ih =>
        have z : (trOf p g).length ≤ 1 := by
          unfold trOf
          split
          · split <;> simp
          · split <;> simp
          · simp
        rw [List.flatMap_cons, List.length_append, List.length_cons]
        omega
    exact Nat.le_trans (cnt1 _) (Nat.le_trans (List.length_filter_le _ _) bl)
  refine ⟨l, rfl, ⟨_, SqL.of hl⟩, t51, (qs.map V.ref).length, fun _ => true, (fun i => .int (((trafL bs p)[i]?).elim 0 (·.2))), (fun _ H' => Same H1 H'), gx_it (walk_list (K := K) (a := l) (xs := qs.map V.ref)) (fun _ H' => Same H1 H') (Same.refl _) (fun i H' _ s => SqL.sm s (SqL.of hl)) ?_ ⟨fun i => ((trafL bs p)[i]?).elim 0 (·.2), 10000, rfl, ?_, fun i _ => ?_, fun H' s => ?_⟩⟩
  · rintro i x H2 H3 hi s ⟨rfl, hx⟩
    obtain ⟨u, hu, rfl⟩ : ∃ u, qs[i]? = some u ∧ x = V.ref u := by
      rw [List.getElem?_map] at hx
      cases e : qs[i]? with
      | none => rw [e] at hx; cases hx
      | some p => rw [e] at hx; exact ⟨p, rfl, (Option.some.inj hx).symm⟩
    obtain ⟨y, hy, a, h1, h2⟩ := paired_get tr hu
    refine ⟨u, _, rfl, SqT.of (s _ _ h1), rfl, _, _, rfl, _, _, rfl, rfl, rfl, rfl, ?_⟩
    refine ⟨_, rfl, ?_, s⟩
    rw [hy]
    rfl
  · rw [el]
    omega
  · show (((trafL bs p)[i]?).elim 0 (·.2)).natAbs ≤ 10000
    cases he : (trafL bs p)[i]? with
    | none => exact Nat.zero_le _
    | some e => exact trb e (List.mem_of_getElem? he)
  · have e : (((List.range (qs.map V.ref).length).filter fun _ => true).map fun i => ((trafL bs p)[i]?).elim 0 (·.2)).sum = balL bs p := by
      rw [el]
      exact range_sum (fun e : Tr => e.2) _
    rw [e]
    exact q H' (S1.trans s)

theorem ok_moved (F : Fun K "moved" "moved" s_moved f_moved d_moved) (T : Txt mg f_many_in f_named_by_voids f_counted_bags f_standing_of f_pages_that_are f_counted_pages f_until f_of_series f_brought f_traffic f_balance f_moved f_by_days f_lfeed f_ldraw f_lfar f_lwords f_loffice f_lruns f_lnames f_ldeed f_lpages f_llow f_lknot f_lbegun f_lbook f_lsorts f_lsame f_lmany f_lbalance f_ldays f_lright f_law)
    (F_counted_pages : Fun K "counted_pages" "counted_pages" s_counted_pages f_counted_pages d_counted_pages) (b_counted_pages : Binds K d_counted_pages ["book"] []) (G_counted_pages : FnOk P w K mg base CX0 (4) f_counted_pages d_counted_pages ["book"] (spThatOf (("counted" : String) : Str)))
    (F_brought : Fun K "brought" "brought" s_brought f_brought d_brought) (b_brought : Binds K d_brought ["deed", "place", "many"] []) (G_brought : FnOk P w K mg base CX0 (4) f_brought d_brought ["deed", "place", "many"] spBrought)
    (F_many_in : Fun K "many_in" "many_in" s_many_in f_many_in d_many_in) (b_many_in : Binds K d_many_in ["runs"] []) (G_many_in : FnOk P w K mg base CX0 (4) f_many_in d_many_in ["runs"] (spMany K P_many_in))
    (F_of_series : Fun K "of_series" "of_series" s_of_series f_of_series d_of_series) (b_of_series : Binds K d_of_series ["runs", "series"] []) (G_of_series : FnOk P w K mg base CX0 (4) f_of_series d_of_series ["runs", "series"] (spOfs K)) :
    FnOk P w K mg base CX0 (5) f_moved d_moved ["book", "place", "series"] (spMoved P_many_in) := by
  refine F.ok sc_moved (fun vs H Q E h => ?_) (fun cdv A outer s H vs Q E hr h => ?_)

  · obtain ⟨b, p, s, bs, E, xs, low, rfl, _⟩ := h
    rfl
  obtain ⟨b, p, s, bs, E, xs, low, rfl, bk, bl, db, t4, q⟩ := h
  refine ⟨_, (pss_cons (ps_set (i := 3) sc_moved.nd rfl (.inl rfl) pe_int)
  (pss_cons (ps_for PassesOwn.never rfl (pi_list (pe_call G_counted_pages hr (by rfl) T.m_counted_pages F_counted_pages.kp b_counted_pages .nil pass0 (pa_cons (pv 0) pa_nil))) (pg_tup rfl (pgs_cons (pg_name (i := 4) sc_moved.nd rfl (.inl rfl)) (pgs_cons (pg_name (i := 5) sc_moved.nd rfl (.inl rfl)) pgs_nil)))
  (pss_one (ps_if (pt_cmpR op_eq (pe_ix ix_tup (pv 5) pe_int (fun _ _ => rfl)) pe_str (nomark _))
  (pss_one (ps_aug (i := 3) sc_moved.nd rfl (.inl rfl) (pe_call G_brought hr (by rfl) T.m_brought F_brought.kp b_brought .nil pass0 (pa_cons (pv 5) (pa_cons (pv 1) (pa_cons (pe_call G_many_in hr (by rfl) T.m_many_in F_many_in.kp b_many_in .nil pass0 (pa_cons (pe_call G_of_series hr (by rfl) T.m_of_series F_of_series.kp b_of_series .nil pass0 (pa_cons (pe_ix ix_tup (pv 5) pe_int (fun _ _ => rfl)) (pa_cons (pv 2) pa_nil))) pa_nil)) pa_nil)))) ip_add))
  pss_nil)))
  (pss_one (ps_ret (pv 3))))), ?_⟩
  refine ⟨_, rfl, b, bs, rfl, bk, by omega, fun l qs H1 S1 nl hl pq => ?_⟩
  have pq : Pgs H1 qs (thatL bs wCd) := pq
  have ql := pq.len
  refine ⟨l, rfl, ⟨_, SqL.of hl⟩, ?_⟩
  refine for_list (K := K) (a := l) (xs := qs.map V.ref) (fun i σ H' => ∃ (v4 v5 : Option V), σ = [some (.ref b), some (.str p), some (.str s), some (.int (((thatL bs wCd).take i).map (mvOf p s)).sum), v4, v5] ∧ Same H1 H') ⟨none, none, rfl, Same.refl _⟩ (fun i σ H' _ h => by obtain ⟨_, _, _, k⟩ := h; exact SqL.of (k _ _ hl)) ?_ ?_
  · rintro i x σ H2 hx ⟨v4, v5, rfl, S2⟩
    obtain ⟨u, hu, rfl⟩ : ∃ u, qs[i]? = some u ∧ x = V.ref u := by
      rw [List.getElem?_map] at hx
      cases e : qs[i]? with
      | none => rw [e] at hx; cases hx
      | some p => rw [e] at hx; exact ⟨p, rfl, (Option.some.inj hx).symm⟩
    obtain ⟨g, hg, na, td, p1, p2, p3⟩ := Pgs.get pq hu
    obtain ⟨hi, eg⟩ := List.getElem?_eq_some_iff.mp hg
    have gin : g ∈ bs := (List.mem_filter.mp (show g ∈ bs.filter _ from List.mem_of_getElem? hg)).1
    have dok := db.ok g gin
    have more : (((thatL bs wCd).take (i + 1)).map (mvOf p s)).sum = (((thatL bs wCd).take i).map (mvOf p s)).sum + mvOf p s g := by
      rw [List.take_succ_eq_append_getElem hi, List.map_append, List.sum_append, eg]
      simp
    have P3 := p3.tk (Tk.same S2)
    refine ⟨u, _, rfl, SqT.of (S2 _ _ p1), rfl, _, _, rfl, _, _, rfl, rfl, ?_⟩
    rw [more]
    obtain ⟨nm, d⟩ := g
    cases d with
    | mv a c rs =>
      obtain ⟨ru, ht, rp, u1, u2, u3⟩ := P3
      have ht : H2 td = some (.tup [.str wMove, .str a, .str c, .ref ru]) := ht
      refine ⟨_, rfl, td, _, _, _, rfl, rfl, SqT.of ht, rfl, rfl, _, rfl, iteT ?_⟩
      refine ⟨_, rfl, _, rfl, _, rfl, _, rfl, td, _, _, _, rfl, rfl, SqT.of ht, rfl, _, rfl, ru, s, rs, rfl, ⟨rp, SqT.of u1, u2⟩, by omega, fun t tqs H3 S3 nt3 ht3 hq3 => ?_⟩
      have fl : (ofL s rs).length ≤ rs.length := List.length_filter_le _ _
      refine ⟨t, _, rfl, ⟨tqs, SqT.of ht3, hq3⟩, by omega, fun r hr => dok.2.rnok db.l0 db.l1 r (List.mem_filter.mp hr).1, S3 _ _ (S2 _ _ (S1 _ _ t4)), fun H4 S4 => ?_⟩
      refine ⟨td, wMove, a, c, p, cntL (ofL s rs), _, rfl, S4 _ _ (S3 _ _ ht), fun H5 S5 => ?_⟩
      exact ⟨_, _, rfl, rfl, _, _, rfl, S2.trans (S3.trans (S4.trans S5))⟩
    | bag a c n =>
      have e0 : mvOf p s (nm, .bag a c n) = 0 := rfl
      rw [e0, Int.add_zero]
      exact ⟨_, rfl, td, _, _, _, rfl, rfl, SqT.of P3, rfl, rfl, _, rfl, iteF ⟨_, _, rfl, S2⟩⟩
    | rd m rs =>
      have e0 : mvOf p s (nm, .rd m rs) = 0 := rfl
      rw [e0, Int.add_zero]
      obtain ⟨z, y, ht, _⟩ := P3
      exact ⟨_, rfl, td, _, _, _, rfl, rfl, SqT.of ht, rfl, rfl, _, rfl, iteF ⟨_, _, rfl, S2⟩⟩
    | ct a n =>
      have e0 : mvOf p s (nm, .ct a n) = 0 := rfl
      rw [e0, Int.add_zero]
      exact ⟨_, rfl, td, _, _, _, rfl, rfl, SqT.of P3, rfl, rfl, _, rfl, iteF ⟨_, _, rfl, S2⟩⟩
    | vd m =>
      have e0 : mvOf p s (nm, .vd m) = 0 := rfl
      rw [e0, Int.add_zero]
      obtain ⟨z, ht, _⟩ := P3
      exact ⟨_, rfl, td, _, _, _, rfl, rfl, SqT.of ht, rfl, rfl, _, rfl, iteF ⟨_, _, rfl, S2⟩⟩
  · rintro σ H2 ⟨v4, v5, rfl, S2⟩
    rw [List.length_map, ql, List.take_length]
    exact ⟨_, rfl, q H2 (S1.trans S2)⟩

theorem ok_by_days (F : Fun K "by_days" "by_days" s_by_days f_by_days d_by_days) (T : Txt mg f_many_in f_named_by_voids f_counted_bags f_standing_of f_pages_that_are f_counted_pages f_until f_of_series f_brought f_traffic f_balance f_moved f_by_days f_lfeed f_ldraw f_lfar f_lwords f_loffice f_lruns f_lnames f_ldeed f_lpages f_llow f_lknot f_lbegun f_lbook f_lsorts f_lsame f_lmany f_lbalance f_ldays f_lright f_law)
    (F_until : Fun K "until" "until" s_until f_until d_until) (b_until : Binds K d_until ["book", "day"] []) (G_until : FnOk P w K mg base CX0 (8) f_until d_until ["book", "day"] spUntil)
    (F_balance : Fun K "balance" "balance" s_balance f_balance d_balance) (b_balance : Binds K d_balance ["book", "place"] []) (G_balance : FnOk P w K mg base CX0 (8) f_balance d_balance ["book", "place"] (spBalance P_many_in P_balance)) :
    FnOk P w K mg base CX0 (9) f_by_days d_by_days ["book", "place"] (spByDays P_many_in P_balance) := by
  refine F.ok sc_by_days (fun vs H Q E h => ?_) (fun cdv A outer s H vs Q E hr h => ?_)

  · obtain ⟨b, p, bs, E, xs, low, rfl, _⟩ := h
    rfl
  obtain ⟨b, p, bs, E, xs, low, rfl, ⟨ps, hb, pgs⟩, bl, db, t4, t5, q⟩ := h
  refine ⟨_, (pss_cons (ps_set (i := 2) sc_by_days.nd rfl (.inl rfl) (pe_callB (cr_sortSI hr rfl) (by rfl) T.sorted (by decide +kernel) (pa_cons (pe_scX (own := [("name", 3), ("deed", 4)]) (g := (gTup K 2 (gCons (gName 3) (gCons (gName 4) gNil)))) (by rfl) sc_by_days.nd (pi_tup (pv 0)) (blkOk_by (own := [("name", 3), ("deed", 4)]) (N := ["book", "place", "days", "name", "deed", "day"]) (sc := defScope s_by_days) (by decide +kernel)) (fun _ _ _ _ _ => (pg_tup rfl (pgs_cons (pg_name (i := 3) sc_by_days.nd rfl (.inl rfl)) (pgs_cons (pg_name (i := 4) sc_by_days.nd rfl (.inl rfl)) pgs_nil)))) (fun _ _ _ _ _ => pts_nil) (fun _ _ _ _ _ => (pe_ix (show IxR _ (rIxT K) from ix_tup) (pv 3) pe_int (fun _ _ => rfl)))) pa_nil)))
  (pss_one (ps_ret (pe_lc (own := [("day", 5)]) (g := (gName 5)) (by rfl) sc_by_days.nd (pi_list (pv 2)) (blkOk_by (own := [("day", 5)]) (N := ["book", "place", "days", "name", "deed", "day"]) (sc := defScope s_by_days) (by decide +kernel)) (fun _ _ _ _ _ => (pg_name (i := 5) sc_by_days.nd rfl (.inl rfl))) (fun _ _ _ _ _ => pts_nil) (fun _ _ _ _ _ => (pe_tup (pa_cons (pv 5) (pa_cons (pe_call G_balance hr (by rfl) T.m_balance F_balance.kp b_balance .nil pass0 (pa_cons (pe_call G_until hr (by rfl) T.m_until F_until.kp b_until .nil pass0 (pa_cons (pv 0) (pa_cons (pv 5) pa_nil))) (pa_cons (pv 1) pa_nil))) pa_nil)))))))), ?_⟩
  have pl := pgs.len
  have pml : (ps.map V.ref).length = bs.length := by rw [List.length_map, pl]
  refine ⟨_, rfl, b, rfl, ⟨_, SqT.of hb⟩, fun D o nD eo => ?_⟩
  refine scX_tup (K := K) (w := w) (a := b) (xs := ps.map V.ref) (fun i H' => Same H H' ∧ ∃ (S : Key → Prop) (n : Nat), H' D = some (SXO w D S n) ∧ n ≤ i ∧ ∀ k, S k ↔ ∃ g ∈ bs.take i, k = .inl g.1.1) ⟨same_new nD _, (fun j => j ∈ ([] : List Key)), 0, by rw [upd_same, eo]; rfl, Nat.le_refl _, fun k => by simp⟩ (fun i H' _ h => SqT.of (h.1 _ _ hb)) ?_ ?_
  · rintro i y H1 hy ⟨S1, S, n, hD, ni, mem⟩
    obtain ⟨u, hu, rfl⟩ : ∃ u, ps[i]? = some u ∧ y = V.ref u := by
      rw [List.getElem?_map] at hy
      cases e : ps[i]? with
      | none => rw [e] at hy; cases hy
      | some p => rw [e] at hy; exact ⟨p, rfl, (Option.some.inj hy).symm⟩
    obtain ⟨g, hg, na, td, p1, p2, p3⟩ := Pgs.get pgs hu
    obtain ⟨hi, eg⟩ := List.getElem?_eq_some_iff.mp hg
    refine ⟨u, _, rfl, SqT.of (S1 _ _ p1), rfl, _, _, rfl, _, _, rfl, rfl, rfl, ?_⟩
    refine iteT (B := True) ?_
    refine iteT ?_
    refine ⟨_, rfl, na, _, _, _, rfl, rfl, SqT.of (S1 _ _ p2), rfl, .inl g.1.1, S, n, rfl, hD, by omega, fun m' o' hm eo' => ⟨same_mut S1 nD, (fun j => S j ∨ j = .inl g.1.1), m', upd_same.trans (congrArg some eo'), by omega, fun k => ?_⟩⟩
    rw [List.take_succ_eq_append_getElem hi, eg]
    refine ⟨fun z => ?_, fun ⟨x, hx, e⟩ => ?_⟩
    · rcases z with z | rfl
      · obtain ⟨x, hx, e⟩ := (mem k).mp z
        exact ⟨x, List.mem_append_left _ hx, e⟩
      · exact ⟨g, List.mem_append_right _ List.mem_cons_self, rfl⟩
    · rcases List.mem_append.mp hx with hx | hx
      · exact .inl ((mem k).mpr ⟨x, hx, e⟩)
      · rw [List.mem_singleton.mp hx] at e
        exact .inr e
  · rintro H1 ⟨S1, S, n, hD, ni, mem⟩
    rw [pml, List.take_length] at *
    refine ⟨D, S, n, _, rfl, hD, rfl, fun k hk => ?_, by omega, fun ds L pw mem2 len nL => ?_⟩
    · obtain ⟨x, _, e⟩ := (mem k).mp hk
      exact ⟨_, e⟩
    have dsof : DaysOf bs ds := ⟨pw, fun d => (mem2 d).trans ((mem _).trans ⟨fun ⟨x, hx, e⟩ => ⟨x, hx, (Sum.inl.inj e).symm⟩, fun ⟨x, hx, e⟩ => ⟨x, hx, congrArg Sum.inl e.symm⟩⟩), by omega⟩
    have NL := same_new nL (.lst (ds.map V.int))
    have hL : upd H1 L (.lst (ds.map V.int)) L = some (.lst (ds.map V.int)) := upd_same
    have S2 := S1.trans NL
    generalize upd H1 L (.lst (ds.map V.int)) = H2 at *
    refine ⟨_, rfl, L, rfl, ⟨_, SqL.of hL⟩, fun R nR => ?_⟩
    refine lc_list (K := K) (a := L) (xs := ds.map V.int) (fun i H' => ∃ qs : List Addr, Same H2 H' ∧ H' R = some (.lst (qs.map V.ref)) ∧ DyS H' qs ((ds.take i).map fun d => (d, balL (upTo bs d) p))) ⟨[], same_new nR _, upd_same, .nil⟩ (fun i H' _ h => by obtain ⟨_, S, _⟩ := h; exact SqL.of (S _ _ hL)) ?_ ?_
    · rintro i x H3 hx ⟨qs, S3, hR, dy⟩
      obtain ⟨d, hd, rfl⟩ : ∃ d, ds[i]? = some d ∧ x = V.int d := by
        rw [List.getElem?_map] at hx
        cases e : ds[i]? with
        | none => rw [e] at hx; cases hx
        | some y => rw [e] at hx; exact ⟨y, rfl, (Option.some.inj hx).symm⟩
      obtain ⟨hi, ed⟩ := List.getElem?_eq_some_iff.mp hd
      refine ⟨rfl, _, rfl, _, rfl, _, rfl, b, bs, d, rfl, ⟨ps, S3 _ _ (S2 _ _ hb), pgs.tk (Tk.same (S2.trans S3))⟩, by omega, fun t H4 S4 nt ht => ?_⟩
      refine ⟨_, rfl, t, p, _, E, xs, low, rfl, ht, Nat.le_trans (upTo_len bs d) bl, db.up d, S4 _ _ (S3 _ _ (S2 _ _ t4)), S4 _ _ (S3 _ _ (S2 _ _ t5)), fun H5 S5 => ⟨(show 2 ≤ sizeLine by decide), fun T nT => ?_⟩⟩
      have NT := same_new nT (.tup [.int d, .int (balL (upTo bs d) p)])
      have S35 := S4.trans (S5.trans NT)
      have hR5 := S35 _ _ hR
      have ql : qs.length ≤ 300 := by
        rw [paired_len dy, List.length_map, List.length_take]
        have := dsof.2.2
        omega
      refine ⟨_, hR5, ?_, qs ++ [T], same_mut (S3.trans S35) nR, ?_, ?_⟩
      · rw [List.length_map]
        exact Nat.lt_of_le_of_lt (show _ ≤ 1000 by omega) (by decide)
      · rw [upd_same, List.map_append]
        rfl
      · rw [List.take_succ_eq_append_getElem hi, List.map_append, ed]
        exact DyS.tk (Tk.put hR5) (paired_snoc (DyS.tk (Tk.same S35) dy) upd_same)
    · rintro H3 ⟨qs, S3, hR, dy⟩
      rw [List.length_map, List.take_length] at dy
      exact q R ds qs H3 (S2.trans S3) (S2.free nR) hR dsof dy

theorem ok_lfeed (F : Fun K "_law_feed" "_law_feed" s_lfeed f_lfeed d_lfeed) (T : Txt mg f_many_in f_named_by_voids f_counted_bags f_standing_of f_pages_that_are f_counted_pages f_until f_of_series f_brought f_traffic f_balance f_moved f_by_days f_lfeed f_ldraw f_lfar f_lwords f_loffice f_lruns f_lnames f_ldeed f_lpages f_llow f_lknot f_lbegun f_lbook f_lsorts f_lsame f_lmany f_lbalance f_ldays f_lright f_law) :
    FnOk P w K mg base CX0 (1) f_lfeed d_lfeed ["_law_script"] (spFeedE K) := by
  refine F.ok sc_lfeed (fun vs H Q E h => ?_) (fun cdv A outer s H vs Q E hr h => ?_)

  · obtain ⟨a, ns, rfl, _⟩ := h
    rfl
  obtain ⟨a, ns, rfl, hs, q⟩ := h
  refine ⟨_, (pss_cons (ps_set (i := 1) sc_lfeed.nd rfl (.inl rfl) (pe_op op_cat (pe_lc (own := [("_law_cell", 2)]) (g := (gName 2)) (by rfl) sc_lfeed.nd (pi_list (pe_slice sl_list (pv 0) po_none (po_some pe_int))) (blkOk_by (own := [("_law_cell", 2)]) (N := ["_law_script", "_law_cells", "_law_cell", "_law_great"]) (sc := defScope s_lfeed) (by decide +kernel)) (fun _ _ _ _ _ => (pg_name (i := 2) sc_lfeed.nd rfl (.inl rfl))) (fun _ _ _ _ _ => pts_nil) (fun _ _ _ _ _ => (pe_callB call_abs (by rfl) T.abs (by decide +kernel) (pa_cons (pv 2) pa_nil)))) (pe_lst (pa_cons pe_int pa_nil))))
  (pss_cons (ps_set (i := 3) sc_lfeed.nd rfl (.inl rfl) pe_int)
  (pss_cons (ps_if (pt_cmpR op_ge (pe_ix ix_list (pv 1) pe_int (fun _ _ => rfl)) (pe_op op_pow pe_int pe_int) (nomark _))
  (pss_one (ps_set (i := 3) sc_lfeed.nd rfl (.inl rfl) (pe_ix ix_list (pv 1) pe_int (fun _ _ => rfl))))
  pss_nil)
  (pss_one (ps_ret (pe_lst (pa_cons (pv 3) (pa_cons (pv 1) (pa_cons pe_int pa_nil))))))))), ?_⟩
  refine ⟨_, rfl, _, rfl, a, _, rfl, hs, fun c hc => ?_⟩
  have e : cutV (ns.map V.int) none (some 63) = (ns.take 63).map V.int := (cut_take _ 63).trans (List.map_take).symm
  have l63 : (ns.take 63).length ≤ 63 := List.length_take_le _ _
  generalize hxs : ns.take 63 = xs at *
  rw [e]
  have N1 := same_new hc (.lst (xs.map V.int))
  have hc1 : upd H c (.lst (xs.map V.int)) c = some (.lst (xs.map V.int)) := upd_same
  generalize upd H c (.lst (xs.map V.int)) = H1 at *
  refine ⟨c, rfl, ⟨_, SqL.of hc1⟩, fun D hD => ?_⟩
  refine lc_list (K := K) (a := c) (xs := xs.map V.int) (fun i H' => Same H1 H' ∧ H' D = some (.lst (((xs.take i).map fun (x : Int) => if x < 0 then -x else x).map V.int))) ⟨same_new hD _, upd_same⟩ (fun i H' _ h => SqL.of (h.1 _ _ hc1)) ?_ ?_
  · rintro i y H2 hy ⟨S2, hD2⟩
    obtain ⟨x, hx, rfl⟩ : ∃ x, xs[i]? = some x ∧ y = V.int x := by
      rw [List.getElem?_map] at hy
      cases e' : xs[i]? with
      | none => rw [e'] at hy; cases hy
      | some p => rw [e'] at hy; exact ⟨p, rfl, (Option.some.inj hy).symm⟩
    obtain ⟨hi, ex⟩ := List.getElem?_eq_some_iff.mp hx
    refine ⟨rfl, _, rfl, x, rfl, _, hD2, ?_, same_mut S2 hD, ?_⟩
    · rw [List.length_map, List.length_map, List.length_take]
      exact Nat.lt_of_le_of_lt (show _ ≤ 100 by omega) (by decide)
    · rw [upd_same, List.take_succ_eq_append_getElem hi, List.map_append, List.map_append, ex]
      rfl
  rintro H2 ⟨S2, hD2⟩
  rw [List.length_map, List.take_length] at hD2
  generalize hys : xs.map (fun (x : Int) => if x < 0 then -x else x) = ys at *
  have ly : ys.length ≤ 63 := by rw [← hys, List.length_map]; exact l63
  refine ⟨(show 1 ≤ sizeLine by decide), fun z hz => ?_⟩
  have Nz := same_new hz (.lst [.int 0])
  refine ⟨D, z, _, _, rfl, rfl, Nz _ _ hD2, upd_same, ?_, fun C hC => ?_⟩
  · rw [List.length_map]
    exact Nat.le_trans (show ys.length + 1 ≤ 100 by omega) (by decide)
  have NC := same_new hC (.lst (ys.map V.int ++ [.int 0]))
  have S3 := N1.trans (S2.trans (Nz.trans NC))
  have hC3 : upd (upd H2 z (.lst [.int 0])) C (.lst (ys.map V.int ++ [.int 0])) C = some (.lst ((ys ++ [0]).map V.int)) := by rw [upd_same, List.map_append]; rfl
  have ly2 : (ys ++ [0]).length ≤ 64 ∧ 0 < (ys ++ [0]).length := by rw [List.length_append, List.length_singleton]; omega
  generalize upd (upd H2 z (.lst [.int 0])) C (.lst (ys.map V.int ++ [.int 0])) = H3 at *
  generalize ys ++ [0] = cs at *
  obtain ⟨c0, hc0⟩ : ∃ c0, cs[0]? = some c0 := ⟨_, List.getElem?_eq_getElem ly2.2⟩
  have at0 : atI (cs.map V.int) ((0 : Nat) : Int) = some (.int c0) := atI_nat (by rw [List.getElem?_map, hc0]; rfl)
  have fin : ∀ (gr : Int) (f : Addr), H3 f = none → Q (.ref f) (upd H3 f (.lst [.int gr, .ref C, .int 0])) := fun gr f hf => by
    refine q f C _ (S3.free hf) (S3.trans (same_new hf _)) ⟨cs, 0, gr, upd_same, (upd_ne (ne_of_none hC3 hf)).trans hC3, ly2.2, ly2.1, Int.le_refl _, Int.le_refl _⟩
  refine ⟨_, rfl, C, _, _, _, rfl, rfl, SqL.of hC3, at0, _, _, rfl, rfl, ⟨by decide, by decide, by decide⟩, _, _, rfl, rfl, _, rfl, ?_⟩
  refine ite2 (fun c1 => ?_) (fun c1 => ?_)
  · refine ⟨_, rfl, C, _, _, _, rfl, rfl, SqL.of hC3, at0, ?_⟩
    exact ⟨_, rfl, _, rfl, (show 3 ≤ sizeLine by decide), fun f hf => fin _ f hf⟩
  · exact ⟨_, rfl, _, rfl, (show 3 ≤ sizeLine by decide), fun f hf => fin _ f hf⟩

theorem ok_ldraw (F : Fun K "_law_draw" "_law_draw" s_ldraw f_ldraw d_ldraw) (T : Txt mg f_many_in f_named_by_voids f_counted_bags f_standing_of f_pages_that_are f_counted_pages f_until f_of_series f_brought f_traffic f_balance f_moved f_by_days f_lfeed f_ldraw f_lfar f_lwords f_loffice f_lruns f_lnames f_ldeed f_lpages f_llow f_lknot f_lbegun f_lbook f_lsorts f_lsame f_lmany f_lbalance f_ldays f_lright f_law) :
    FnOk P w K mg base CX0 (1) f_ldraw d_ldraw ["_law_feed_here", "_law_many_here"] spDrawE := by
  refine F.ok sc_ldraw (fun vs H Q E h => ?_) (fun cdv A outer s H vs Q E hr h => ?_)

  · obtain ⟨f, c, m, n, rfl, _⟩ := h
    rfl
  obtain ⟨f, c, m, n, rfl, ⟨cells, k, g, hf, hc, c0, c64, h0, hn⟩, hn2, hm0, hm1, q0⟩ := h
  refine ⟨_, (pss_cons (ps_if (pt_cmpR op_gt (pe_ix ix_list (pv 0) pe_int (fun _ _ => rfl)) pe_int (nomark _))
  (pss_cons (ps_set (i := 2) sc_ldraw.nd rfl (.inl rfl) (pe_op op_modN (pe_ix ix_list (pv 0) pe_int (fun _ _ => rfl)) (pv 1)))
  (pss_cons (ps_asg (pe_op op_fdivN (pe_ix ix_list (pv 0) pe_int (fun _ _ => rfl)) (pv 1)) (pg_sub (pv 0) pe_int set_list))
  (pss_one (ps_ret (pv 2)))))
  pss_nil)
  (pss_cons (ps_asg (pe_op op_add (pe_ix ix_list (pv 0) pe_int (fun _ _ => rfl)) pe_int) (pg_sub (pv 0) pe_int set_list))
  (pss_cons (ps_set (i := 3) sc_ldraw.nd rfl (.inl rfl) (pe_ix ix_list (pv 0) pe_int (fun _ _ => rfl)))
  (pss_cons (ps_set (i := 4) sc_ldraw.nd rfl (.inl rfl) (pe_op op_modN (pe_ix ix_list (pe_ix ix_list (pv 0) pe_int (fun _ _ => rfl)) (pe_op op_modN (pv 3) (pe_callB call_len_seq (by rfl) T.len (by decide +kernel) (pa_cons (pe_ix ix_list (pv 0) pe_int (fun _ _ => rfl)) pa_nil))) (fun _ _ => rfl)) pe_int))
  (pss_cons (ps_set (i := 5) sc_ldraw.nd rfl (.inl rfl) (pe_op op_modN (pe_op op_add (pe_op op_add (pe_op op_add (pe_op op_mul (pv 4) pe_int) (pe_op op_mul (pe_op op_mul pe_int (pv 3)) (pv 3))) (pe_op op_mul pe_int (pv 3))) pe_int) pe_int))
  (pss_cons (ps_set (i := 5) sc_ldraw.nd rfl (.inl rfl) (pe_op op_modN (pe_op op_add (pe_op op_mul (pv 5) pe_int) (pv 3)) pe_int))
  (pss_one (ps_ret (pe_op op_modN (pe_op op_modN (pe_op op_mul (pv 5) pe_int) pe_int) (pv 1)))))))))), ?_⟩
  have hcf : c ≠ f := fe_ne hf hc
  have fr : ∀ (o : HO) (a : Addr), H a = none → upd H f o a = none := fun o a ha => by rw [upd_ne (Ne.symm (ne_of_none hf ha))]; exact ha
  refine ⟨_, rfl, f, _, _, _, rfl, rfl, SqL.of hf, rfl, _, _, rfl, rfl, _, rfl, ?_⟩
  refine ite2 (fun cg => ?_) (fun cg => ?_)
  · refine ⟨_, rfl, f, _, _, _, rfl, rfl, SqL.of hf, rfl, _, rfl, _, _, rfl, rfl, by omega, ?_⟩
    refine ⟨_, rfl, f, _, _, _, rfl, rfl, SqL.of hf, rfl, _, rfl, _, _, rfl, rfl, ⟨by omega, by omega⟩, ?_⟩
    refine ⟨_, rfl, f, _, _, 0, rfl, rfl, hf, rfl, ?_⟩
    refine ⟨_, rfl, ?_⟩
    exact q0 _ _ (mod_lo _ _ hm0) (mod_hi _ _ hm0) ⟨cells, k, _, upd_same, (upd_ne hcf).trans hc, c0, c64, h0, by omega⟩ But.feed (fr _)
  refine ⟨_, rfl, f, _, _, _, rfl, rfl, SqL.of hf, rfl, _, _, rfl, rfl, ?_⟩
  refine ⟨_, rfl, f, _, _, 2, rfl, rfl, hf, rfl, ?_⟩
  generalize hG : upd H f (HO.lst ([V.int g, V.ref c, V.int k].set 2 ((fun i j => V.int (i + j)) k 1))) = G
  have hfG : G f = some (.lst [.int g, .ref c, .int (k + 1)]) := by rw [← hG]; exact upd_same
  have hcG : G c = some (.lst (cells.map V.int)) := by rw [← hG]; exact (upd_ne hcf).trans hc
  have BG : But f H G := by rw [← hG]; exact But.feed
  have FG : ∀ a, H a = none → G a = none := by rw [← hG]; exact fr _
  refine ⟨_, rfl, f, _, _, _, rfl, rfl, SqL.of hfG, rfl, ?_⟩
  obtain ⟨cell, hcell⟩ := at_mod (k + 1) c0
  refine ⟨_, rfl, f, _, _, _, rfl, rfl, SqL.of hfG, rfl, _, rfl, _, rfl, f, _, _, _, rfl, rfl, SqL.of hfG, rfl, c, _, rfl, .inl (SqL.of hcG), _, _, rfl, rfl, ?_, c, _, _, _, rfl, rfl, SqL.of hcG, hcell, _, _, rfl, rfl, (by show (_ : Int) ≠ 0; decide), ?_⟩
  · rw [List.length_map]
    omega
  refine ⟨_, rfl, _, _, rfl, rfl, .inr ⟨by decide, by decide⟩, _, rfl, _, _, rfl, rfl, .inl ⟨by decide, by decide⟩, _, rfl, _, _, rfl, rfl, .inl ⟨by omega, by omega⟩, _, _, rfl, rfl, _, rfl, _, _, rfl, rfl, .inl ⟨by decide, by decide⟩, _, _, rfl, rfl, _, _, rfl, rfl, _, _, rfl, rfl, (by show (_ : Int) ≠ 0; decide), ?_⟩
  refine ⟨_, rfl, _, _, rfl, rfl, .inr ⟨by decide, by decide⟩, _, rfl, _, _, rfl, rfl, _, _, rfl, rfl, (by show (_ : Int) ≠ 0; decide), ?_⟩
  refine ⟨_, rfl, _, _, rfl, rfl, .inr ⟨by decide, by decide⟩, _, _, rfl, rfl, (by show (_ : Int) ≠ 0; decide), _, rfl, _, _, rfl, rfl, by omega, ?_⟩
  exact q0 _ _ (mod_lo _ _ hm0) (mod_hi _ _ hm0) ⟨cells, k + 1, g, hfG, hcG, c0, c64, by omega, by omega⟩ BG FG

theorem ok_lfar (F : Fun K "_law_far" "_law_far" s_lfar f_lfar d_lfar) (T : Txt mg f_many_in f_named_by_voids f_counted_bags f_standing_of f_pages_that_are f_counted_pages f_until f_of_series f_brought f_traffic f_balance f_moved f_by_days f_lfeed f_ldraw f_lfar f_lwords f_loffice f_lruns f_lnames f_ldeed f_lpages f_llow f_lknot f_lbegun f_lbook f_lsorts f_lsame f_lmany f_lbalance f_ldays f_lright f_law)
    (F_ldraw : Fun K "_law_draw" "_law_draw" s_ldraw f_ldraw d_ldraw) (b_ldraw : Binds K d_ldraw ["_law_feed_here", "_law_many_here"] []) (G_ldraw : FnOk P w K mg base CX0 (1) f_ldraw d_ldraw ["_law_feed_here", "_law_many_here"] spDrawE) :
    FnOk P w K mg base CX0 (2) f_lfar d_lfar ["_law_feed_here", "_law_many_here"] spFarE := by
  refine F.ok sc_lfar (fun vs H Q E h => ?_) (fun cdv A outer s H vs Q E hr h => ?_)

  · obtain ⟨f, c, m, n, rfl, _⟩ := h
    rfl
  obtain ⟨f, c, m, n, rfl, hf, hn, hm0, hm1, q⟩ := h
  refine ⟨_, (pss_one (ps_ret (pe_op op_modN (pe_op op_add (pe_op op_mul (pe_call G_ldraw hr (by rfl) T.m_ldraw F_ldraw.kp b_ldraw .nil pass0 (pa_cons (pv 0) (pa_cons (pe_op op_pow pe_int pe_int) pa_nil))) (pe_op op_pow pe_int pe_int)) (pe_call G_ldraw hr (by rfl) T.m_ldraw F_ldraw.kp b_ldraw .nil pass0 (pa_cons (pv 0) (pa_cons (pe_op op_pow pe_int pe_int) pa_nil)))) (pv 1)))), ?_⟩
  refine ⟨_, rfl, _, _, rfl, rfl, ⟨by decide, by decide, by decide⟩, f, c, 10 ^ 6, n, rfl, hf, by omega, by decide, by decide, fun d1 H1 d10 d11 hf1 b1 n1 => ?_⟩
  refine ⟨_, _, rfl, rfl, ⟨by decide, by decide, by decide⟩, _, _, rfl, rfl, .inr ⟨by decide, by decide⟩, ?_⟩
  refine ⟨_, rfl, _, _, rfl, rfl, ⟨by decide, by decide, by decide⟩, f, c, 10 ^ 6, n + 1, rfl, hf1, by omega, by decide, by decide, fun d2 H2 d20 d21 hf2 b2 n2 => ⟨_, _, rfl, rfl, _, rfl, _, _, rfl, rfl, by omega, ?_⟩⟩
  exact q _ H2 (mod_lo _ _ hm0) (mod_hi _ _ hm0) (hf2.mono (by omega)) (b1.trans b2) fun a ha => n2 a (n1 a ha)

theorem ok_llow (F : Fun K "_law_low" "_law_low" s_llow f_llow d_llow) (T : Txt mg f_many_in f_named_by_voids f_counted_bags f_standing_of f_pages_that_are f_counted_pages f_until f_of_series f_brought f_traffic f_balance f_moved f_by_days f_lfeed f_ldraw f_lfar f_lwords f_loffice f_lruns f_lnames f_ldeed f_lpages f_llow f_lknot f_lbegun f_lbook f_lsorts f_lsame f_lmany f_lbalance f_ldays f_lright f_law)
    (F_ldraw : Fun K "_law_draw" "_law_draw" s_ldraw f_ldraw d_ldraw) (b_ldraw : Binds K d_ldraw ["_law_feed_here", "_law_many_here"] []) (G_ldraw : FnOk P w K mg base CX0 (2) f_ldraw d_ldraw ["_law_feed_here", "_law_many_here"] spDrawE)
    (F_lfar : Fun K "_law_far" "_law_far" s_lfar f_lfar d_lfar) (b_lfar : Binds K d_lfar ["_law_feed_here", "_law_many_here"] []) (G_lfar : FnOk P w K mg base CX0 (2) f_lfar d_lfar ["_law_feed_here", "_law_many_here"] spFarE) :
    FnOk P w K mg base CX0 (3) f_llow d_llow ["_law_feed_here"] spLowL := by
  refine F.ok sc_llow (fun vs H Q E h => ?_) (fun cdv A outer s H vs Q E hr h => ?_)

  · obtain ⟨f, c, n, rfl, _⟩ := h
    rfl
  obtain ⟨f, c, n, rfl, hf, hn, q⟩ := h
  refine ⟨_, (pss_cons (ps_if (pt_cmpR op_gt (pe_call G_ldraw hr (by rfl) T.m_ldraw F_ldraw.kp b_ldraw .nil pass0 (pa_cons (pv 0) (pa_cons pe_int pa_nil))) pe_int (nomark _))
  (pss_one (ps_ret pe_int))
  pss_nil)
  (pss_one (ps_ret (pe_call G_lfar hr (by rfl) T.m_lfar F_lfar.kp b_lfar .nil pass0 (pa_cons (pv 0) (pa_cons (pe_op op_sub (pe_op op_pow pe_int pe_int) pe_int) pa_nil)))))), ?_⟩
  refine ⟨_, rfl, f, c, 4, n, rfl, hf, by omega, by decide, by decide, fun d1 H1 d10 d11 hf1 b1 n1 => ?_⟩
  refine ⟨_, _, rfl, rfl, _, rfl, ?_⟩
  refine ite2 (fun c1 => ?_) (fun c1 => ?_)
  · exact q 0 H1 (by decide) (by decide) (hf1.mono (by omega)) b1 n1
  · have z9 : (10 : Int) ^ Int.toNat 9 = 1000000000 := by decide
    refine ⟨_, rfl, _, _, rfl, rfl, ⟨by decide, by decide, by decide⟩, _, _, rfl, rfl, f, c, _, n + 1, rfl, hf1, by omega, by rw [z9]; decide, by rw [z9]; decide, fun d2 H2 d20 d21 hf2 b2 n2 => ?_⟩
    rw [z9] at d21
    exact q d2 H2 d20 (by omega) (hf2.mono (by omega)) (b1.trans b2) fun a ha => n2 a (n1 a ha)

theorem ok_lwords (F : Fun K "_law_words" "_law_words" s_lwords f_lwords d_lwords) (T : Txt mg f_many_in f_named_by_voids f_counted_bags f_standing_of f_pages_that_are f_counted_pages f_until f_of_series f_brought f_traffic f_balance f_moved f_by_days f_lfeed f_ldraw f_lfar f_lwords f_loffice f_lruns f_lnames f_ldeed f_lpages f_llow f_lknot f_lbegun f_lbook f_lsorts f_lsame f_lmany f_lbalance f_ldays f_lright f_law)
    (F_ldraw : Fun K "_law_draw" "_law_draw" s_ldraw f_ldraw d_ldraw) (b_ldraw : Binds K d_ldraw ["_law_feed_here", "_law_many_here"] []) (G_ldraw : FnOk P w K mg base CX0 (1) f_ldraw d_ldraw ["_law_feed_here", "_law_many_here"] spDrawE) :
    FnOk P w K mg base CX0 (2) f_lwords d_lwords ["_law_feed_here", "_law_many_here"] spWordsL := by
  refine F.ok sc_lwords (fun vs H Q E h => ?_) (fun cdv A outer s H vs Q E hr h => ?_)

  · obtain ⟨f, c, m, n, rfl, _⟩ := h
    rfl
  obtain ⟨f, c, m, n, rfl, hf, hn, hm, q⟩ := h
  refine ⟨_, (pss_cons (ps_set (i := 2) sc_lwords.nd rfl (.inl rfl) pe_str)
  (pss_cons (ps_set (i := 3) sc_lwords.nd rfl (.inl rfl) (pe_call G_ldraw hr (by rfl) T.m_ldraw F_ldraw.kp b_ldraw .nil pass0 (pa_cons (pv 0) (pa_cons pe_int pa_nil))))
  (pss_cons (ps_par (by rfl) sc_lwords.nd (i := 4) (j := 5) rfl rfl (by decide) rfl rfl (pa_cons (pe_ix ix_str (pv 2) (pv 3) (fun _ _ => rfl)) (pa_cons (pe_ix ix_str (pv 2) (pe_op op_modN (pe_op op_add (pe_op op_add (pv 3) pe_int) (pe_call G_ldraw hr (by rfl) T.m_ldraw F_ldraw.kp b_ldraw .nil pass0 (pa_cons (pv 0) (pa_cons pe_int pa_nil)))) pe_int) (fun _ _ => rfl)) pa_nil)) (by rfl))
  (pss_cons (ps_set (i := 6) sc_lwords.nd rfl (.inr rfl) (pe_lst (pa_cons (pv 4) (pa_cons (pe_op op_add_str (pv 4) (pv 5)) (pa_cons (pe_op op_add_str (pe_op op_add_str (pv 4) (pv 5)) (pv 4)) (pa_cons (pv 5) (pa_cons (pe_op op_add_str (pv 5) (pv 4)) (pa_cons (pe_op op_add_str (pv 4) (pv 4)) (pa_cons (pe_op op_add_str (pv 5) (pv 5)) (pa_cons (pe_op op_add_str (pv 4) (pe_op op_repS (pv 5) pe_int)) pa_nil))))))))))
  (pss_cons (ps_set (i := 7) sc_lwords.nd rfl (.inr rfl) (pe_call G_ldraw hr (by rfl) T.m_ldraw F_ldraw.kp b_ldraw .nil pass0 (pa_cons (pv 0) (pa_cons pe_int pa_nil))))
  (pss_cons (ps_set (i := 8) sc_lwords.nd rfl (.inr rfl) (pe_op op_add pe_int (pe_op op_mul pe_int (pe_call G_ldraw hr (by rfl) T.m_ldraw F_ldraw.kp b_ldraw .nil pass0 (pa_cons (pv 0) (pa_cons pe_int pa_nil))))))
  (pss_one (ps_ret (pe_lc (own := [("_law_k", 9)]) (g := (gName 9)) (by rfl) sc_lwords.nd (pi_range1 (by rfl) T.range (pa_cons (pv 1) pa_nil)) (blkOk_by (own := [("_law_k", 9)]) (N := ["_law_feed_here", "_law_many_here", "_law_letters", "_law_first", "_law_x", "_law_y", "_law_some", "_law_start", "_law_step", "_law_k"]) (sc := defScope s_lwords) (by decide +kernel)) (fun _ _ _ _ _ => (pg_name (i := 9) sc_lwords.nd rfl (.inl rfl))) (fun _ _ _ _ _ => pts_nil) (fun _ _ _ _ _ => (pe_ix (show IxR _ (rIxL K) from ix_list) (pv 6) (pe_op op_modN (pe_op op_add (pv 7) (pe_op op_mul (pv 8) (pv 9))) pe_int) (fun _ _ => rfl)))))))))))), ?_⟩
  have s2 : 1 + 1 ≤ sizeLine := by decide
  refine ⟨_, rfl, f, c, 26, n, rfl, hf, by omega, by decide, by decide, fun d1 H1 d10 d11 hf1 b1 n1 => ?_⟩
  obtain ⟨ca, ha, ha2⟩ := abc_at d1 d10 d11
  refine ⟨_, rfl, _, rfl, abc, _, ca, rfl, rfl, (by decide +kernel), ha, ?_⟩
  refine ⟨_, rfl, _, rfl, _, _, rfl, rfl, _, rfl, f, c, 25, n + 1, rfl, hf1, by omega, by decide, by decide, fun d2 H2 d20 d21 hf2 b2 n2 => ?_⟩
  obtain ⟨cb, hb, hb2⟩ := abc_at ((d1 + 1 + d2).fmod 26) (mod_lo _ _ (by decide)) (mod_hi _ _ (by decide))
  refine ⟨_, _, rfl, rfl, _, _, rfl, rfl, (by show (_ : Int) ≠ 0; decide), abc, _, cb, rfl, rfl, (by decide +kernel), hb, _, _, rfl, ?_⟩
  have B2 := b1.trans b2
  refine ⟨_, rfl, _, rfl, _, rfl, _, _, rfl, rfl, s2, _, rfl, _, rfl, _, _, rfl, rfl, s2, _, rfl, _, _, rfl, rfl, (show 2 + 1 ≤ sizeLine by decide), ?_⟩
  refine ⟨_, rfl, _, rfl, _, rfl, _, _, rfl, rfl, s2, _, rfl, _, rfl, _, _, rfl, rfl, s2, _, rfl, _, rfl, _, _, rfl, rfl, s2, ?_⟩
  refine ⟨_, rfl, _, rfl, _, _, rfl, rfl, mulk_ok cb 7 (by decide) (by decide), _, _, rfl, rfl, (show 1 + 7 ≤ sizeLine by decide), (show 8 ≤ sizeLine by decide), fun L hL => ?_⟩
  have neL := hf2.ne hL
  have wq := words_eq ca cb
  have NL := same_new hL (.lst (((wordsOf ca cb).map fun l => (⟨l.toArray⟩ : Str)).map V.str))
  rw [← wq] at NL
  have hL1 : upd H2 L (.lst [V.str ⟨#[ca]⟩, .str (⟨#[ca]⟩ ++ ⟨#[cb]⟩), .str (⟨#[ca]⟩ ++ ⟨#[cb]⟩ ++ ⟨#[ca]⟩), .str ⟨#[cb]⟩, .str (⟨#[cb]⟩ ++ ⟨#[ca]⟩), .str (⟨#[ca]⟩ ++ ⟨#[ca]⟩), .str (⟨#[cb]⟩ ++ ⟨#[cb]⟩), .str (⟨#[ca]⟩ ++ Txt.mul ⟨#[cb]⟩ 7)]) L = some (.lst (((wordsOf ca cb).map fun l => (⟨l.toArray⟩ : Str)).map V.str)) := by rw [upd_same, wq]
  have hf3 := hf2.same NL
  refine ⟨_, rfl, f, c, 8, n + 1 + 1, rfl, hf3, by omega, by decide, by decide, fun d3 H3 d30 d31 hf4 b3 n3 => ?_⟩
  refine ⟨_, rfl, f, c, 4, n + 1 + 1 + 1, rfl, hf4, by omega, by decide, by decide, fun d4 H4 d40 d41 hf5 b4 n4 => ?_⟩
  refine ⟨_, _, rfl, rfl, .inl ⟨by decide, by decide⟩, _, _, rfl, rfl, ?_⟩
  have B4 : But f H H4 := B2.trans ((But.of_same NL).trans (b3.trans b4))
  have hL4 := (b3.trans b4) _ _ neL.1 hL1
  clear hL1 wq NL
  generalize hws : ((wordsOf ca cb).map fun l => (⟨l.toArray⟩ : Str)) = ws at *
  have wl : ws.length = 8 := by rw [← hws]; rfl
  have wnd : ws.Nodup := by
    rw [← hws]
    exact wordsOf_nd (abc_ne d10 d11 d20 d21 ha hb)
  have wok : ∀ x ∈ ws, NmOk x ∧ x ≠ gNone := by
    rw [← hws]
    intro x hx
    obtain ⟨l, hl, rfl⟩ := List.mem_map.mp hx
    exact words_ok ha2 hb2 l hl
  refine ⟨_, rfl, m, rfl, by omega, by omega, fun D hD => ?_⟩
  refine lc_range (lo := 0) (n := (m : Int).toNat) (fun i H' => ∃ xs : List Str, Same H4 H' ∧ H' D = some (.lst (xs.map V.str)) ∧ xs.length = i ∧ (∀ x ∈ xs, NmOk x ∧ x ≠ gNone) ∧ ∀ j : Nat, j < xs.length → xs[j]? = ws[((d3 + (1 + 2 * d4) * (j : Int)).fmod 8).toNat]?) ⟨[], same_new hD _, upd_same, rfl, fun _ h => (nomatch h), fun j hj => absurd hj (Nat.not_lt_zero _)⟩ ?_ ?_
  · rintro i H' hi ⟨xs, S, hD', len, ok, ixs⟩
    have w0 := mod_lo (d3 + (1 + 2 * d4) * (0 + (i : Int))) 8 (by decide)
    have w1 := mod_hi (d3 + (1 + 2 * d4) * (0 + (i : Int))) 8 (by decide)
    obtain ⟨nm, nm1, nm2⟩ := pick_str (xs := ws) w0 (by rw [List.length_map, wl]; exact w1)
    refine ⟨rfl, _, rfl, _, rfl, _, rfl, _, rfl, _, _, rfl, rfl, .inl ⟨by omega, by omega⟩, _, _, rfl, rfl, _, _, rfl, rfl, (by show (_ : Int) ≠ 0; decide), L, _, _, _, rfl, rfl, SqL.of (S _ _ hL4), nm2, _, hD', ?_, xs ++ [nm], same_mut S hD, ?_, ?_, fun y hy => ?_, fun j hj => ?_⟩
    · rw [List.length_map, len]
      exact Nat.lt_of_lt_of_le (show _ < 100 by omega) (by decide)
    · rw [upd_same, List.map_append]
      rfl
    · rw [List.length_append, List.length_singleton, len]
    · rcases List.mem_append.mp hy with hy | hy
      · exact ok y hy
      · rw [List.mem_singleton.mp hy]
        exact wok _ nm1
    · rw [List.length_append, List.length_singleton] at hj
      by_cases c : j < xs.length
      · rw [List.getElem?_append_left c]
        exact ixs j c
      · have e : j = xs.length := by omega
        rw [e, List.getElem?_append_right (Nat.le_refl _), Nat.sub_self]
        have nm3 := atI_pos w0 nm2
        rw [List.getElem?_map] at nm3
        rw [len]
        rw [Int.zero_add] at nm3
        cases e2 : ws[((d3 + (1 + 2 * d4) * (i : Int)).fmod 8).toNat]? with
        | none => rw [e2] at nm3; cases nm3
        | some z =>
          rw [e2] at nm3
          have nm3 := V.str.inj (Option.some.inj nm3)
          rw [nm3]
          rfl
  · rintro H5 ⟨xs, S5, hD5, len, okx, ixs⟩
    exact q D xs H5 ((hf5.same S5).mono (by omega)) (B4.trans (But.of_same S5)) (B4.backE hf5 hD) hD5 (by omega) okx (words_nd wl wnd (by omega) d40 d41 ixs)

theorem ok_lnames (F : Fun K "_law_names" "_law_names" s_lnames f_lnames d_lnames) (T : Txt mg f_many_in f_named_by_voids f_counted_bags f_standing_of f_pages_that_are f_counted_pages f_until f_of_series f_brought f_traffic f_balance f_moved f_by_days f_lfeed f_ldraw f_lfar f_lwords f_loffice f_lruns f_lnames f_ldeed f_lpages f_llow f_lknot f_lbegun f_lbook f_lsorts f_lsame f_lmany f_lbalance f_ldays f_lright f_law)
    (F_ldraw : Fun K "_law_draw" "_law_draw" s_ldraw f_ldraw d_ldraw) (b_ldraw : Binds K d_ldraw ["_law_feed_here", "_law_many_here"] []) (G_ldraw : FnOk P w K mg base CX0 (2) f_ldraw d_ldraw ["_law_feed_here", "_law_many_here"] spDrawE)
    (F_lwords : Fun K "_law_words" "_law_words" s_lwords f_lwords d_lwords) (b_lwords : Binds K d_lwords ["_law_feed_here", "_law_many_here"] []) (G_lwords : FnOk P w K mg base CX0 (2) f_lwords d_lwords ["_law_feed_here", "_law_many_here"] spWordsL) :
    FnOk P w K mg base CX0 (3) f_lnames d_lnames ["_law_feed_here", "_law_many_here"] spNamesE := by
  refine F.ok sc_lnames (fun vs H Q E h => ?_) (fun cdv A outer s H vs Q E hr h => ?_)

  · obtain ⟨f, c, m, n, rfl, _⟩ := h
    rfl
  obtain ⟨f, c, m, n, rfl, hf, hn, hm, q⟩ := h
  refine ⟨_, (pss_cons (ps_set (i := 2) sc_lnames.nd rfl (.inl rfl) (pe_call G_lwords hr (by rfl) T.m_lwords F_lwords.kp b_lwords .nil pass0 (pa_cons (pv 0) (pa_cons pe_int pa_nil))))
  (pss_cons (ps_set (i := 3) sc_lnames.nd rfl (.inl rfl) (pe_ix ix_list (pe_lst (pa_cons pe_int (pa_cons pe_int (pa_cons pe_int (pa_cons pe_int pa_nil))))) (pe_call G_ldraw hr (by rfl) T.m_ldraw F_ldraw.kp b_ldraw .nil pass0 (pa_cons (pv 0) (pa_cons pe_int pa_nil))) (fun _ _ => rfl)))
  (pss_cons (ps_set (i := 4) sc_lnames.nd rfl (.inl rfl) (pe_lst pa_nil))
  (pss_cons (ps_for PassesOwn.never rfl (pi_range1 (by rfl) T.range (pa_cons (pv 1) pa_nil)) (pg_name (i := 5) sc_lnames.nd rfl (.inl rfl))
  (pss_cons (ps_set (i := 6) sc_lnames.nd rfl (.inl rfl) (pe_op op_add (pv 3) (pe_call G_ldraw hr (by rfl) T.m_ldraw F_ldraw.kp b_ldraw .nil pass0 (pa_cons (pv 0) (pa_cons pe_int pa_nil)))))
  (pss_cons (ps_set (i := 7) sc_lnames.nd rfl (.inl rfl) (pe_op op_add (pe_ix ix_list (pe_lst (pa_cons pe_int (pa_cons pe_int (pa_cons pe_int pa_nil)))) (pe_call G_ldraw hr (by rfl) T.m_ldraw F_ldraw.kp b_ldraw .nil pass0 (pa_cons (pv 0) (pa_cons pe_int pa_nil))) (fun _ _ => rfl)) (pe_call G_ldraw hr (by rfl) T.m_ldraw F_ldraw.kp b_ldraw .nil pass0 (pa_cons (pv 0) (pa_cons pe_int pa_nil)))))
  (pss_cons (ps_set (i := 8) sc_lnames.nd rfl (.inl rfl) (pe_ix ix_list (pv 2) (pe_call G_ldraw hr (by rfl) T.m_ldraw F_ldraw.kp b_ldraw .nil pass0 (pa_cons (pv 0) (pa_cons pe_int pa_nil))) (fun _ _ => rfl)))
  (pss_cons (ps_for PassesOwn.never rfl (pi_range1 (by rfl) T.range (pa_cons pe_int pa_nil)) (pg_name (i := 9) sc_lnames.nd rfl (.inl rfl))
  (pss_one (ps_if (pt_cmpR (op_inLP hr) (pe_tup (pa_cons (pv 6) (pa_cons (pv 7) (pa_cons (pv 8) pa_nil)))) (pv 4) (by rfl))
  (pss_one (ps_set (i := 7) sc_lnames.nd rfl (.inl rfl) (pe_op op_add (pv 7) pe_int)))
  pss_nil)))
  (pss_one (ps_expr (pe_bm PySem.F.plainAttrs_list PySem.F.slot_list_append PySem.F.type_list_append mt_append (pv 4) (pa_cons (pe_tup (pa_cons (pv 6) (pa_cons (pv 7) (pa_cons (pv 8) pa_nil)))) pa_nil)))))))))
  (pss_one (ps_ret (pv 4))))))), ?_⟩
  refine ⟨_, rfl, f, c, 3, n, rfl, hf, by omega, by decide, fun W xs H1 hf1 b1 nW hW wl wok _ => ?_⟩
  have Wf : W ≠ f := by
    obtain ⟨zs, hz⟩ := hf.at
    exact Ne.symm (ne_of_none hz nW)
  refine ⟨(show 4 ≤ sizeLine by decide), fun la hla => ?_⟩
  refine ⟨_, rfl, f, c, 4, n + 4, rfl, hf1.new hla, by omega, by decide, by decide, fun d1 H2 d10 d11 hf2 b2 n2 => ?_⟩
  obtain ⟨ea, ea0, ea1, eat⟩ := fewE d10 d11
  have hla1 := b2 _ _ ((hf1.ne hla).1) upd_same
  refine ⟨la, _, _, _, rfl, rfl, SqL.of hla1, eat, ?_⟩
  have B2 : But f H H2 := b1.trans ((But.new hla).trans b2)
  have hW2 := ((But.new hla).trans b2) _ _ Wf hW
  clear hla1 eat
  refine ⟨(show 0 ≤ sizeLine by decide), fun R hR => ?_⟩
  have NR := same_new hR (.lst [])
  have neR := hf2.ne hR
  have hf3 := hf2.same NR
  have B3 := B2.trans (But.of_same NR (f := f))
  have R0 := B2.backE hf2 hR
  have hW3 := NR _ _ hW2
  have hR3 : upd H2 R (.lst []) R = some (.lst []) := upd_same
  generalize upd H2 R (HO.lst []) = H3 at *
  refine ⟨_, rfl, m, rfl, by omega, by omega, ?_⟩
  refine for_range (lo := 0) (n := (m : Int).toNat) (fun i σ H' => ∃ (ps : List Addr) (ns : List Nm) (v5 v6 v7 v8 v9 : Option V), σ = [some (.ref f), some (.int m), some (.ref W), some (.int ea), some (.ref R), v5, v6, v7, v8, v9] ∧ Fe H' f c (n + 5 + 4 * i) ∧ But f H H' ∧ H' R = some (.lst (ps.map V.ref)) ∧ H' W = some (.lst (xs.map V.str)) ∧ Nms H' ps ns ∧ ns.length = i ∧ ns.Nodup ∧ ∀ e ∈ ns, NmK e) ?_ ?_ ?_
  · exact ⟨[], [], none, none, none, none, none, rfl, hf3.mono (by omega), B3, hR3, hW3, .nil, rfl, List.nodup_nil, fun _ h => nomatch h⟩
  · rintro i σ H4 hi ⟨ps, ns, v5, v6, v7, v8, v9, rfl, hf4, B4, hR4, hW4, nm4, len, nd, ok⟩
    refine ⟨_, rfl, _, rfl, f, c, 6, _, rfl, hf4, by omega, by decide, by decide, fun e1 H5 e10 e11 hf5 b5 n5 => ⟨_, _, rfl, rfl, ?_⟩⟩
    refine ⟨(show 3 ≤ sizeLine by decide), fun lb hlb => ?_⟩
    refine ⟨_, rfl, f, c, 3, _, rfl, hf5.new hlb, by omega, by decide, by decide, fun e2 H6 e20 e21 hf6 b6 n6 => ?_⟩
    obtain ⟨k0, k01, k02⟩ := few3 e20 e21
    refine ⟨lb, _, _, _, rfl, rfl, SqL.of (b6 _ _ ((hf5.ne hlb).1) upd_same), k02, ?_⟩
    refine ⟨_, rfl, f, c, 3, _, rfl, hf6, by omega, by decide, by decide, fun e3 H7 e30 e31 hf7 b7 n7 => ⟨_, _, rfl, rfl, ?_⟩⟩
    have B47 : But f H4 H7 := b5.trans ((But.new hlb).trans (b6.trans b7))
    refine ⟨_, rfl, _, rfl, f, c, 3, _, rfl, hf7, by omega, by decide, by decide, fun e4 H8 e40 e41 hf8 b8 n8 => ?_⟩
    have B48 := B47.trans b8
    have hW8 := B48 _ _ Wf hW4
    have hR8 := B48 _ _ neR.1 hR4
    have nm8 := nm4.tk (Tk.but hf4 B48)
    obtain ⟨hand, ha1, ha2⟩ := pick_str (xs := xs) (d := e4) e40 (by rw [List.length_map, wl]; exact e41)
    refine ⟨W, _, _, _, rfl, rfl, SqL.of hW8, ha2, ?_⟩
    refine ⟨40, rfl, by decide, by decide, ?_⟩
    refine for_range (lo := 0) (n := 40) (fun j σ H' => ∃ (t : Nat) (v9 : Option V), σ = [some (.ref f), some (.int m), some (.ref W), some (.int ea), some (.ref R), some (.int (0 + (i : Int))), some (.int (ea + e1)), some (.int (k0 + e3 + (t : Int))), some (.str hand), v9] ∧ Same H8 H' ∧ t ≤ j ∧ (∀ s : Nat, s < t → (ea + e1, k0 + e3 + (s : Int), hand) ∈ ns) ∧ (t = j ∨ (ea + e1, k0 + e3 + (t : Int), hand) ∉ ns)) ?_ ?_ ?_
    · refine ⟨0, v9, ?_, Same.refl _, Nat.le_refl _, fun s hs => absurd hs (Nat.not_lt_zero _), .inl rfl⟩
      rw [show k0 + e3 + ((0 : Nat) : Int) = k0 + e3 from by omega]
      rfl
    · rintro j σ H9 hj ⟨t, v9, rfl, S9, tj, all, oth⟩
      refine ⟨_, rfl, _, rfl, _, rfl, (show 3 ≤ sizeLine by decide), fun u hu => ?_⟩
      have Nu := same_new hu (.tup [.int (ea + e1), .int (k0 + e3 + (t : Int)), .str hand])
      have S10 := S9.trans Nu
      refine ⟨_, rfl, nmD (ea + e1, k0 + e3 + (t : Int), hand), ns.map nmD, .tup (SqT.of upd_same) (.cons (.int _) (.cons (.int _) (.cons (.str _) .nil))), .lst (SqL.of (S10 _ _ hR8)) (nm8.tk (Tk.same S10)).dp, rfl, nms_plain _, nm_dep _, ?_⟩
      rw [nm_any, Bool.false_xor]
      refine ⟨_, rfl, ?_⟩
      refine ite2 (fun c1 => ?_) (fun c1 => ?_)
      · have c1 := of_decide_eq_true c1
        refine ⟨_, rfl, _, _, rfl, rfl, ?_⟩
        refine ⟨t + 1, some (.int (0 + (j : Int))), ?_, S10, by omega, fun s hs => ?_, ?_⟩
        · rw [show k0 + e3 + ((t + 1 : Nat) : Int) = k0 + e3 + (t : Int) + 1 from by omega]
          rfl
        · rcases Nat.lt_or_ge s t with z | z
          · exact all s z
          · rw [show s = t by omega]
            exact c1
        · rcases oth with z | z
          · exact .inl (by omega)
          · exact (z c1).elim
      · have c1 : (ea + e1, k0 + e3 + (t : Int), hand) ∉ ns := fun z => c1 (decide_eq_true z)
        exact ⟨t, _, rfl, S10, by omega, all, .inr c1⟩
    · rintro σ H9 ⟨t, v9, rfl, S9, tj, all, oth⟩
      have room := names_room all
      have fresh : (ea + e1, k0 + e3 + (t : Int), hand) ∉ ns := by
        rcases oth with z | z
        · omega
        · exact z
      have hR9 := S9 _ _ hR8
      refine ⟨_, rfl, .inl ⟨rfl, _, SqL.of hR9⟩, _, rfl, _, rfl, _, rfl, (show 3 ≤ sizeLine by decide), fun u hu => ?_⟩
      have Nu := same_new hu (.tup [.int (ea + e1), .int (k0 + e3 + (t : Int)), .str hand])
      have S10 := S9.trans Nu
      have hR10 := Nu _ _ hR9
      have pl := nm4.len
      refine ⟨R, _, _, rfl, rfl, hR10, ?_, ?_⟩
      · rw [List.length_map, pl]
        exact Nat.lt_of_le_of_lt (show _ ≤ 100 by omega) (by decide)
      refine ⟨ps ++ [u], ns ++ [(ea + e1, k0 + e3 + (t : Int), hand)], _, _, _, _, _, rfl, ((hf8.same S10).upd neR).mono (by omega), (B4.trans (B48.trans (But.of_same S10))).mut R0, ?_, (upd_ne (fun z => ?_)).trans (S10 _ _ hW8), ?_, ?_, ?_, fun e he => ?_⟩
      · rw [upd_same, List.map_append]
        rfl
      · rw [z, R0] at nW
        have z2 := hR4
        have z3 := hW4
        rw [z] at z3
        exact absurd hW2 (by rw [z]; rw [hR]; simp)
      · exact ((nm8.tk (Tk.same S10)).app (Nms.mk1 upd_same)).tk (Tk.put hR10)
      · rw [List.length_append, List.length_singleton, len]
      · refine List.nodup_append.mpr ⟨nd, (by simp), fun a ha b hb => ?_⟩
        rw [List.mem_singleton.mp hb]
        rintro rfl
        exact fresh ha
      · rcases List.mem_append.mp he with he | he
        · exact ok e he
        · rw [List.mem_singleton.mp he]
          refine ⟨?_, ?_, ?_, (wok _ ha1).1⟩
          · show 0 ≤ ea + e1
            omega
          · show ea + e1 ≤ 99999
            omega
          · show (0 ≤ k0 + e3 + (t : Int) ∧ k0 + e3 + (t : Int) ≤ 99) ∨ (950 ≤ k0 + e3 + (t : Int) ∧ k0 + e3 + (t : Int) ≤ 999)
            rcases k01 with rfl | rfl
            · left
              omega
            · right
              omega
  · rintro σ H4 ⟨ps, ns, v5, v6, v7, v8, v9, rfl, hf4, B4, hR4, hW4, nm4, len, nd, ok⟩
    exact ⟨_, rfl, q R ps ns H4 (hf4.mono (by omega)) B4 R0 hR4 nm4 (by omega) nd ok⟩

theorem ok_lruns (F : Fun K "_law_runs" "_law_runs" s_lruns f_lruns d_lruns) (T : Txt mg f_many_in f_named_by_voids f_counted_bags f_standing_of f_pages_that_are f_counted_pages f_until f_of_series f_brought f_traffic f_balance f_moved f_by_days f_lfeed f_ldraw f_lfar f_lwords f_loffice f_lruns f_lnames f_ldeed f_lpages f_llow f_lknot f_lbegun f_lbook f_lsorts f_lsame f_lmany f_lbalance f_ldays f_lright f_law)
    (F_ldraw : Fun K "_law_draw" "_law_draw" s_ldraw f_ldraw d_ldraw) (b_ldraw : Binds K d_ldraw ["_law_feed_here", "_law_many_here"] []) (G_ldraw : FnOk P w K mg base CX0 (1) f_ldraw d_ldraw ["_law_feed_here", "_law_many_here"] spDrawE) :
    FnOk P w K mg base CX0 (2) f_lruns d_lruns ["_law_feed_here", "_law_series", "_law_low_here"] spRunsL := by
  refine F.ok sc_lruns (fun vs H Q E h => ?_) (fun cdv A outer s H vs Q E hr h => ?_)

  · obtain ⟨f, c, l, low, n, xs, rfl, _⟩ := h
    rfl
  obtain ⟨f, c, l, low, n, xs, rfl, hf, hn, lo0, lo1, hl, lf, x0, x8, xsl, q⟩ := h
  refine ⟨_, (pss_cons (ps_set (i := 3) sc_lruns.nd rfl (.inl rfl) (pe_lst pa_nil))
  (pss_cons (ps_for PassesOwn.never rfl (pi_list (pe_callB (cr_sortedD hr) (by rfl) T.sorted (by decide +kernel) (pa_cons (pv 1) pa_nil))) (pg_name (i := 4) sc_lruns.nd rfl (.inl rfl))
  (pss_cons (ps_set (i := 5) sc_lruns.nd rfl (.inl rfl) (pv 2))
  (pss_one (ps_for PassesOwn.never rfl (pi_range1 (by rfl) T.range (pa_cons (pe_call G_ldraw hr (by rfl) T.m_ldraw F_ldraw.kp b_ldraw .nil pass0 (pa_cons (pv 0) (pa_cons pe_int pa_nil))) pa_nil)) (pg_name (i := 6) sc_lruns.nd rfl (.inl rfl))
  (pss_cons (ps_set (i := 5) sc_lruns.nd rfl (.inl rfl) (pe_op op_add (pv 5) (pe_call G_ldraw hr (by rfl) T.m_ldraw F_ldraw.kp b_ldraw .nil pass0 (pa_cons (pv 0) (pa_cons pe_int pa_nil)))))
  (pss_cons (ps_set (i := 7) sc_lruns.nd rfl (.inl rfl) (pe_op op_add (pe_op op_add (pv 5) pe_int) (pe_call G_ldraw hr (by rfl) T.m_ldraw F_ldraw.kp b_ldraw .nil pass0 (pa_cons (pv 0) (pa_cons pe_int pa_nil)))))
  (pss_cons (ps_expr (pe_bm PySem.F.plainAttrs_list PySem.F.slot_list_append PySem.F.type_list_append mt_append (pv 3) (pa_cons (pe_tup (pa_cons (pv 4) (pa_cons (pv 5) (pa_cons (pv 7) pa_nil)))) pa_nil)))
  (pss_one (ps_set (i := 5) sc_lruns.nd rfl (.inl rfl) (pe_op op_add (pv 7) pe_int))))))))))
  (pss_cons (ps_if (pt_cmpR (op_eqP hr) (pv 3) (pe_lst pa_nil) (nomark _))
  (pss_cons (ps_set (i := 5) sc_lruns.nd rfl (.inl rfl) (pe_op op_add (pv 2) (pe_call G_ldraw hr (by rfl) T.m_ldraw F_ldraw.kp b_ldraw .nil pass0 (pa_cons (pv 0) (pa_cons pe_int pa_nil)))))
  (pss_one (ps_expr (pe_bm PySem.F.plainAttrs_list PySem.F.slot_list_append PySem.F.type_list_append mt_append (pv 3) (pa_cons (pe_tup (pa_cons (pe_ix ix_list (pv 1) pe_int (fun _ _ => rfl)) (pa_cons (pv 5) (pa_cons (pe_op op_add (pe_op op_add (pv 5) pe_int) (pe_call G_ldraw hr (by rfl) T.m_ldraw F_ldraw.kp b_ldraw .nil pass0 (pa_cons (pv 0) (pa_cons pe_int pa_nil)))) pa_nil)))) pa_nil)))))
  pss_nil)
  (pss_one (ps_ret (pe_callTy call_tuple_of (by rfl) T.tuple (by decide +kernel) (pa_cons (pv 3) pa_nil))))))), ?_⟩
  refine ⟨(show 0 ≤ sizeLine by decide), fun R hR => ?_⟩
  have NR := same_new hR (.lst [])
  have neR := hf.ne hR
  refine ⟨_, rfl, l, _, xs.map .str, rfl, SqL.of (NR _ _ hl), strs_all xs, strs_alike xs, strs_sortable xs, strs_flat xs, fun p hp => ?_⟩
  rw [sort_strs]
  have ysl := sorted_up (sl_nodup xsl)
  have ym : ∀ y, y ∈ (xs.mergeSort fun a b => decide (a.cps.toList ≤ b.cps.toList)) ↔ y ∈ xs := fun y => List.mem_mergeSort
  have yl : (xs.mergeSort fun a b => decide (a.cps.toList ≤ b.cps.toList)).length = xs.length := List.length_mergeSort _
  generalize (xs.mergeSort fun a b => decide (a.cps.toList ≤ b.cps.toList)) = ys at *
  have Np := same_new hp (.lst (ys.map V.str))
  have nep := (hf.same NR).ne hp
  have pR : p ≠ R := Ne.symm (ne_of_none upd_same hp)
  have S0 := NR.trans Np
  refine ⟨p, rfl, ⟨_, SqL.of upd_same⟩, ?_⟩
  refine for_list (K := K) (a := p) (xs := ys.map V.str) (fun i σ H' => ∃ (ps : List Addr) (rs : List Rn) (v4 v5 v6 v7 : Option V), σ = [some (.ref f), some (.ref l), some (.int low), some (.ref R), v4, v5, v6, v7] ∧ Fe H' f c (n + 5 * i) ∧ But f H H' ∧ H' R = some (.lst (ps.map V.ref)) ∧ H' p = some (.lst (ys.map V.str)) ∧ Prd H' ps rs ∧ rs.length ≤ 2 * i ∧ RsL xs low rs ∧ ∀ r ∈ rs, r.1 ∈ ys.take i) ?_ ?_ ?_ ?_
  · exact ⟨[], [], none, none, none, none, rfl, (hf.same S0).mono (by omega), But.of_same S0, Np _ _ upd_same, upd_same, .nil, Nat.le_refl _, RsL.nil, fun _ h => nomatch h⟩
  · rintro i σ H' _ ⟨_, _, _, _, _, _, _, _, _, _, h, _⟩
    exact SqL.of h
  · rintro i y σ H1 hy ⟨ps, rs, v4, v5, v6, v7, rfl, hf1, B1, hR1, hp1, pr1, le1, ok1, inx1⟩
    obtain ⟨one, hone, rfl⟩ : ∃ one, (ys)[i]? = some one ∧ y = V.str one := by
      rw [List.getElem?_map] at hy
      cases e' : (ys)[i]? with
      | none => rw [e'] at hy; cases hy
      | some p => rw [e'] at hy; exact ⟨p, rfl, (Option.some.inj hy).symm⟩
    have hi := (List.getElem?_eq_some_iff.mp hone).1
    have one_in : one ∈ ys.take (i + 1) := by
      obtain ⟨hi', eo⟩ := List.getElem?_eq_some_iff.mp hone
      rw [List.take_succ_eq_append_getElem hi', eo]
      exact List.mem_append_right _ List.mem_cons_self
    have inx := (ym one).mp (List.mem_of_getElem? hone)
    refine ⟨_, rfl, ?_⟩
    refine ⟨_, rfl, f, c, 3, _, rfl, hf1, by omega, by decide, by decide, fun d H2 d0 d1 hf2 b2 n2 => ⟨d, rfl, by omega, by omega, ?_⟩⟩
    have B2 := B1.trans b2
    refine for_range (lo := 0) (n := d.toNat) (fun j σ H' => ∃ (ps : List Addr) (rs : List Rn) (at_ : Int) (v6 v7 : Option V), low ≤ at_ ∧ at_ ≤ low + 16 * j ∧ σ = [some (.ref f), some (.ref l), some (.int low), some (.ref R), some (.str one), some (.int at_), v6, v7] ∧ Fe H' f c (n + 5 * i + 1 + 2 * j) ∧ But f H H' ∧ H' R = some (.lst (ps.map V.ref)) ∧ H' p = some (.lst (ys.map V.str)) ∧ Prd H' ps rs ∧ rs.length ≤ 2 * i + j ∧ RsL xs low rs ∧ (∀ r ∈ rs, r.1 ∈ ys.take (i + 1)) ∧ ∀ r ∈ rs, (r.1 = one ∧ r.2.2 < at_) ∨ sl r.1 one) ?_ ?_ ?_
    · exact ⟨ps, rs, low, _, _, Int.le_refl _, by omega, rfl, hf2.mono (by omega), B2, b2 _ _ neR.1 hR1, b2 _ _ nep.1 hp1, pr1.tk (Tk.but hf1 b2), by omega, ok1, fun r hr => List.take_subset_take_left _ (Nat.le_succ i) (inx1 r hr), fun r hr => .inr (sl_take ysl hone _ (inx1 r hr))⟩
    · rintro j σ H3 hj ⟨ps, rs, at_, v6, v7, at0, at1, rfl, hf3, B3, hR3, hp3, pr3, le3, ok3, inx3, beh3⟩
      refine ⟨_, rfl, _, rfl, f, c, 9, _, rfl, hf3, by omega, by decide, by decide, fun e1 H4 e10 e11 hf4 b4 n4 => ⟨_, _, rfl, rfl, ?_⟩⟩
      refine ⟨_, rfl, _, _, rfl, rfl, _, rfl, f, c, 7, _, rfl, hf4, by omega, by decide, by decide, fun e2 H5 e20 e21 hf5 b5 n5 => ⟨_, _, rfl, rfl, ?_⟩⟩
      have b45 := b4.trans b5
      have hR5 := b45 _ _ neR.1 hR3
      refine ⟨_, rfl, .inl ⟨rfl, _, SqL.of hR5⟩, _, rfl, _, rfl, _, rfl, (show 3 ≤ sizeLine by decide), fun u hu => ?_⟩
      have Nu := same_new hu (.tup [.str one, .int (at_ + e1), .int (at_ + e1 + 1 + e2)])
      have hR6 := Nu _ _ hR5
      have pl := pr3.len
      refine ⟨R, _, _, rfl, rfl, hR6, ?_, ?_⟩
      · rw [List.length_map, pl]
        exact Nat.lt_of_le_of_lt (show _ ≤ 100 by omega) (by decide)
      refine ⟨_, rfl, _, _, rfl, rfl, ?_⟩
      refine ⟨ps ++ [u], rs ++ [(one, at_ + e1, at_ + e1 + 1 + e2)], at_ + e1 + 1 + e2 + 1, _, _, by omega, by omega, rfl, ((hf5.same Nu).upd neR).mono (by omega), (B3.trans (b45.trans (But.of_same Nu))).mut hR, ?_, (upd_ne pR).trans (Nu _ _ (b45 _ _ nep.1 hp3)), ?_, ?_, ⟨canon_snoc ok3.ca (show at_ + e1 < at_ + e1 + 1 + e2 by omega) fun r hr => ?_, fun r hr => ?_⟩, fun r hr => ?_, fun r hr => ?_⟩
      · rw [upd_same, List.map_append]
        rfl
      · exact (((pr3.tk (Tk.but hf3 b45)).tk (Tk.same Nu)).app (Prd.one upd_same)).tk (Tk.put hR6)
      · rw [List.length_append, List.length_singleton]
        omega
      · rcases beh3 r hr with ⟨z1, z2⟩ | z
        · exact .inl ⟨z1, show r.2.2 < at_ + e1 by omega⟩
        · exact .inr z
      · rcases List.mem_append.mp hr with hr | hr
        · exact ok3.ok r hr
        · rw [List.mem_singleton.mp hr]
          refine ⟨inx, ?_, ?_, ?_⟩
          · show low ≤ at_ + e1
            omega
          · show at_ + e1 < at_ + e1 + 1 + e2
            omega
          · show at_ + e1 + 1 + e2 ≤ low + 34
            omega
      · rcases List.mem_append.mp hr with hr | hr
        · exact inx3 r hr
        · rw [List.mem_singleton.mp hr]
          exact one_in
      · rcases List.mem_append.mp hr with hr | hr
        · rcases beh3 r hr with ⟨z1, z2⟩ | z
          · exact .inl ⟨z1, by omega⟩
          · exact .inr z
        · rw [List.mem_singleton.mp hr]
          exact .inl ⟨rfl, show at_ + e1 + 1 + e2 < at_ + e1 + 1 + e2 + 1 by omega⟩
    · rintro σ H3 ⟨ps, rs, at_, v6, v7, at0, at1, rfl, hf3, B3, hR3, hp3, pr3, le3, ok3, inx3, beh3⟩
      exact ⟨ps, rs, _, _, _, _, rfl, hf3.mono (by omega), B3, hR3, hp3, pr3, by omega, ok3, inx3⟩
  rintro σ H1 ⟨ps, rs, v4, v5, v6, v7, rfl, hf1, B1, hR1, hp1, pr1, le1, ok1, inx1⟩
  rw [List.length_map, yl] at hf1 le1
  have fin : ∀ (H' : Hp) (ps : List Addr) (rs : List Rn), Fe H' f c (n + 50) → But f H H' → H' R = some (.lst (ps.map V.ref)) → Prd H' ps rs → rs.length ≤ 20 → RsL xs low rs → ∀ t, H' t = none → Q (.ref t) (upd H' t (.tup (ps.map V.ref))) := fun H' ps rs h1 h2 h3 h4 h5 h6 t ht => by
    have Nt := same_new ht (.tup (ps.map V.ref))
    exact q t rs _ ((h1.same Nt).mono (by omega)) (h2.trans (But.of_same Nt)) (h2.backE h1 ht) ⟨ps, upd_same, h4.tk (Tk.same Nt), by omega⟩ h5 h6
  refine ⟨_, rfl, (show 0 ≤ sizeLine by decide), fun z hz => ?_⟩
  have Nz := same_new hz (.lst [])
  have hR2 := Nz _ _ hR1
  have pr2 := pr1.tk (Tk.same Nz)
  have hf2 := hf1.same Nz
  have B2 := B1.trans (But.of_same Nz (f := f))
  refine ⟨.list (rs.map rnD), .list [], .lst (SqL.of hR2) (prd_all pr2), .lst (SqL.of upd_same) .nil, rn_plainL rs, rfl, rn_depthL rs, _, rfl, ?_⟩
  refine ite2 (fun c1 => ?_) (fun c1 => ?_)
  · have rs0 : rs = [] := by
      cases rs with
      | nil => rfl
      | cons x l => exact absurd c1 (by simp [PyData.eqv, PyData.eqvAll])
    have pl := pr1.len
    have ps0 : ps = [] := by
      cases ps with
      | nil => rfl
      | cons x l => rw [rs0] at pl; cases pl
    subst rs0 ps0
    refine ⟨_, rfl, _, rfl, f, c, 20, _, rfl, hf2, by omega, by decide, by decide, fun e1 H4 e10 e11 hf4 b4 n4 => ⟨_, _, rfl, rfl, ?_⟩⟩
    have hR4 := b4 _ _ neR.1 hR2
    obtain ⟨s0, s01, s02⟩ := pick_str (xs := xs) (d := ((0 : Nat) : Int)) (by decide) (by rw [List.length_map]; omega)
    have hl4 := (B2.trans b4) _ _ lf hl
    refine ⟨_, rfl, .inl ⟨rfl, _, SqL.of hR4⟩, _, rfl, l, _, _, _, rfl, rfl, SqL.of hl4, s02, _, rfl, _, rfl, _, _, rfl, rfl, _, rfl, f, c, 9, _, rfl, hf4, by omega, by decide, by decide, fun e2 H5 e20 e21 hf5 b5 n5 => ⟨_, _, rfl, rfl, (show 3 ≤ sizeLine by decide), fun u hu => ?_⟩⟩
    have hR5 := b5 _ _ neR.1 hR4
    have Nu := same_new hu (.tup [.str s0, .int (low + e1), .int (low + e1 + 1 + e2)])
    have hR6 := Nu _ _ hR5
    refine ⟨R, _, _, rfl, rfl, hR6, (show 0 < sizeLine by decide), ?_⟩
    refine ⟨_, rfl, R, _, rfl, .inl ⟨SqL.of upd_same, fun t ht => ?_⟩⟩
    refine fin _ [u] [(s0, low + e1, low + e1 + 1 + e2)] (((hf5.same Nu).upd neR).mono (by omega)) ((B2.trans (b4.trans (b5.trans (But.of_same Nu)))).mut hR) upd_same (Prd.tk (Tk.put hR6) (Prd.one (r := (s0, low + e1, low + e1 + 1 + e2)) upd_same)) (show 1 ≤ 20 by decide) ⟨⟨List.pairwise_singleton _ _, fun r hr => ?_⟩, fun r hr => ?_⟩ t ht
    · rw [List.mem_singleton.mp hr]
      show low + e1 < low + e1 + 1 + e2
      omega
    rw [List.mem_singleton.mp hr]
    refine ⟨s01, ?_, ?_, ?_⟩
    · show low ≤ low + e1
      omega
    · show low + e1 < low + e1 + 1 + e2
      omega
    · show low + e1 + 1 + e2 ≤ low + 34
      omega
  · refine ⟨_, rfl, R, _, rfl, .inl ⟨SqL.of hR2, fun t ht => ?_⟩⟩
    exact fin _ ps rs (hf2.mono (by omega)) B2 hR2 pr2 (by omega) ok1 t ht

theorem ok_ldeed (F : Fun K "_law_deed" "_law_deed" s_ldeed f_ldeed d_ldeed) (T : Txt mg f_many_in f_named_by_voids f_counted_bags f_standing_of f_pages_that_are f_counted_pages f_until f_of_series f_brought f_traffic f_balance f_moved f_by_days f_lfeed f_ldraw f_lfar f_lwords f_loffice f_lruns f_lnames f_ldeed f_lpages f_llow f_lknot f_lbegun f_lbook f_lsorts f_lsame f_lmany f_lbalance f_ldays f_lright f_law)
    (F_ldraw : Fun K "_law_draw" "_law_draw" s_ldraw f_ldraw d_ldraw) (b_ldraw : Binds K d_ldraw ["_law_feed_here", "_law_many_here"] []) (G_ldraw : FnOk P w K mg base CX0 (2) f_ldraw d_ldraw ["_law_feed_here", "_law_many_here"] spDrawE)
    (F_lruns : Fun K "_law_runs" "_law_runs" s_lruns f_lruns d_lruns) (b_lruns : Binds K d_lruns ["_law_feed_here", "_law_series", "_law_low_here"] []) (G_lruns : FnOk P w K mg base CX0 (2) f_lruns d_lruns ["_law_feed_here", "_law_series", "_law_low_here"] spRunsL) :
    FnOk P w K mg base CX0 (3) f_ldeed d_ldeed ["_law_feed_here", "_law_office_here", "_law_names_here", "_law_kinds", "_law_k", "_law_low_here"] spDeedL := by
  refine F.ok sc_ldeed (fun vs H Q E h => ?_) (fun cdv A outer s H vs Q E hr h => ?_)

  · obtain ⟨f, c, o, L, Kd, k, low, n, ws, E1, ps, ns, ks, rfl, _⟩ := h
    rfl
  obtain ⟨f, c, o, L, Kd, k, low, n, ws, E1, ps, ns, ks, rfl, hf, hn, hof, okE, wsl, hL, Lf, nms, nl, hK, Kf, kl, hk, lo0, lo1, q⟩ := h
  refine ⟨_, (pss_cons (ps_setLc (i := 6) (own := [("_law_row", 7)]) (g := (gName 7)) (by rfl) sc_ldeed.nd rfl rfl (sw_true rfl rfl rfl (by decide +kernel)) (pi_tup (pe_ix ix_tup (pv 1) pe_int (fun _ _ => rfl))) (blkOk_by (own := [("_law_row", 7)]) (N := ["_law_feed_here", "_law_office_here", "_law_names_here", "_law_kinds", "_law_k", "_law_low_here", "_law_series", "_law_row", "_law_places", "_law_road", "_law_some", "_law_j", "_law_other", "_law_roads", "_law_one"]) (sc := defScope s_ldeed) (by decide +kernel)) (fun _ _ _ _ _ => (pg_name (i := 7) sc_ldeed.nd rfl (.inl rfl))) (fun _ _ _ _ _ => pts_nil) (fun _ _ _ _ _ => (pe_ix (show IxR _ (rIxT K) from ix_tup) (pv 7) pe_int (fun _ _ => rfl))))
  (pss_cons (ps_if (pt_cmpR op_eq (pe_ix ix_list (pv 3) (pv 4) (fun _ _ => rfl)) pe_str (nomark _))
  (pss_cons (ps_set (i := 8) sc_ldeed.nd rfl (.inl rfl) (pe_callB (cr_sortSS hr rfl) (by rfl) T.sorted (by decide +kernel) (pa_cons (pe_callTy (cr_setOf rfl) (by rfl) T.set (by decide +kernel) (pa_cons (pe_lc (own := [("_law_road", 9)]) (g := (gName 9)) (by rfl) sc_ldeed.nd (pi_tup (pe_ix ix_tup (pv 1) pe_int (fun _ _ => rfl))) (blkOk_by (own := [("_law_road", 9)]) (N := ["_law_feed_here", "_law_office_here", "_law_names_here", "_law_kinds", "_law_k", "_law_low_here", "_law_series", "_law_row", "_law_places", "_law_road", "_law_some", "_law_j", "_law_other", "_law_roads", "_law_one"]) (sc := defScope s_ldeed) (by decide +kernel)) (fun _ _ _ _ _ => (pg_name (i := 9) sc_ldeed.nd rfl (.inl rfl))) (fun _ _ _ _ _ => pts_nil) (fun _ _ _ _ _ => (pe_ix (show IxR _ (rIxT K) from ix_tup) (pv 9) pe_int (fun _ _ => rfl)))) pa_nil)) pa_nil)))
  (pss_one (ps_ret (pe_tup (pa_cons pe_str (pa_cons (pe_ix ix_list (pv 8) (pe_call G_ldraw hr (by rfl) T.m_ldraw F_ldraw.kp b_ldraw .nil pass0 (pa_cons (pv 0) (pa_cons (pe_callB call_len_seq (by rfl) T.len (by decide +kernel) (pa_cons (pv 8) pa_nil)) pa_nil))) (fun _ _ => rfl)) (pa_cons (pe_call G_ldraw hr (by rfl) T.m_ldraw F_ldraw.kp b_ldraw .nil pass0 (pa_cons (pv 0) (pa_cons pe_int pa_nil))) pa_nil)))))))
  pss_nil)
  (pss_cons (ps_if (PW.pt (pw_or (pt_cmpR op_eq (pe_ix ix_list (pv 3) (pv 4) (fun _ _ => rfl)) pe_str (nomark _)) (pw_or1 (pt_cmpR op_eq (pe_ix ix_list (pv 3) (pv 4) (fun _ _ => rfl)) pe_str (nomark _)))))
  (pss_cons (ps_setLc (i := 10) (own := [("_law_j", 11)]) (g := (gName 11)) (by rfl) sc_ldeed.nd rfl rfl (sw_true rfl rfl rfl (by decide +kernel)) (pi_range1 (by rfl) T.range (pa_cons (pe_callB call_len_seq (by rfl) T.len (by decide +kernel) (pa_cons (pv 2) pa_nil)) pa_nil)) (blkOk_by (own := [("_law_j", 11)]) (N := ["_law_feed_here", "_law_office_here", "_law_names_here", "_law_kinds", "_law_k", "_law_low_here", "_law_series", "_law_row", "_law_places", "_law_road", "_law_some", "_law_j", "_law_other", "_law_roads", "_law_one"]) (sc := defScope s_ldeed) (by decide +kernel)) (fun _ _ _ _ _ => (pg_name (i := 11) sc_ldeed.nd rfl (.inl rfl))) (fun _ _ _ _ _ => (pts_one (pt_cmpR op_eq (pe_ix (show IxR _ (rIxL K) from ix_list) (pv 3) (pv 11) (fun _ _ => rfl)) pe_str (nomark _)))) (fun _ _ _ _ _ => (pe_ix (show IxR _ (rIxL K) from ix_list) (pv 2) (pv 11) (fun _ _ => rfl))))
  (C8.pss_cut (ps_if (PW.pt (pw_or (pt_cmpR op_eq (pe_ix ix_list (pv 3) (pv 4) (fun _ _ => rfl)) pe_str (nomark _)) (pw_or (pt_cmpR (op_eqP hr) (pv 10) (pe_lst pa_nil) (nomark _)) (pw_or1 (pt_cmpR op_eq (pe_call G_ldraw hr (by rfl) T.m_ldraw F_ldraw.kp b_ldraw .nil pass0 (pa_cons (pv 0) (pa_cons pe_int pa_nil))) pe_int (nomark _))))))
  (pss_one (ps_set (i := 10) sc_ldeed.nd rfl (.inl rfl) (pe_op op_cat (pv 2) (pe_lst (pa_cons (pe_tup (pa_cons pe_int (pa_cons pe_int (pa_cons pe_str pa_nil)))) pa_nil)))))
  pss_nil)
  (pss_cons (ps_set (i := 12) sc_ldeed.nd rfl (.inl rfl) (pe_ix ix_list (pv 10) (pe_call G_ldraw hr (by rfl) T.m_ldraw F_ldraw.kp b_ldraw .nil pass0 (pa_cons (pv 0) (pa_cons (pe_callB call_len_seq (by rfl) T.len (by decide +kernel) (pa_cons (pv 10) pa_nil)) pa_nil))) (fun _ _ => rfl)))
  (pss_cons (ps_if (pt_cmpR op_eq (pe_ix ix_list (pv 3) (pv 4) (fun _ _ => rfl)) pe_str (nomark _))
  (pss_one (ps_ret (pe_tup (pa_cons pe_str (pa_cons (pv 12) pa_nil)))))
  pss_nil)
  (pss_one (ps_ret (pe_tup (pa_cons pe_str (pa_cons (pv 12) (pa_cons (pe_call G_lruns hr (by rfl) T.m_lruns F_lruns.kp b_lruns .nil pass0 (pa_cons (pv 0) (pa_cons (pv 6) (pa_cons (pv 5) pa_nil)))) pa_nil))))))))))
  pss_nil)
  (pss_cons (ps_set (i := 13) sc_ldeed.nd rfl (.inl rfl) (pe_callTy call_list_of (by rfl) T.list (by decide +kernel) (pa_cons (pe_ix ix_tup (pv 1) pe_int (fun _ _ => rfl)) pa_nil)))
  (C8.pss_cut (ps_if (pt_cmpR op_eq (pe_ix ix_list (pv 3) (pv 4) (fun _ _ => rfl)) pe_str (nomark _))
  (pss_one (ps_setLc (i := 13) (own := [("_law_road", 9)]) (g := (gName 9)) (by rfl) sc_ldeed.nd rfl rfl (sw_true rfl rfl rfl (by decide +kernel)) (pi_list (pv 13)) (blkOk_by (own := [("_law_road", 9)]) (N := ["_law_feed_here", "_law_office_here", "_law_names_here", "_law_kinds", "_law_k", "_law_low_here", "_law_series", "_law_row", "_law_places", "_law_road", "_law_some", "_law_j", "_law_other", "_law_roads", "_law_one"]) (sc := defScope s_ldeed) (by decide +kernel)) (fun _ _ _ _ _ => (pg_name (i := 9) sc_ldeed.nd rfl (.inl rfl))) (fun _ _ _ _ _ => (pts_one (pt_cmpR op_ne (pe_ix (show IxR _ (rIxT K) from ix_tup) (pv 9) pe_int (fun _ _ => rfl)) pe_str (nomark _)))) (fun _ _ _ _ _ => (pv 9))))
  pss_nil)
  (pss_cons (ps_asg (pe_ix ix_list (pv 13) (pe_call G_ldraw hr (by rfl) T.m_ldraw F_ldraw.kp b_ldraw .nil pass0 (pa_cons (pv 0) (pa_cons (pe_callB call_len_seq (by rfl) T.len (by decide +kernel) (pa_cons (pv 13) pa_nil)) pa_nil))) (fun _ _ => rfl)) (pg_tup rfl (pgs_cons (pg_name (i := 14) sc_ldeed.nd rfl (.inl rfl)) (pgs_cons (pg_name (i := 12) sc_ldeed.nd rfl (.inl rfl)) pgs_nil))))
  (pss_cons (ps_if (pt_cmpR op_eq (pe_ix ix_list (pv 3) (pv 4) (fun _ _ => rfl)) pe_str (nomark _))
  (pss_one (ps_ret (pe_tup (pa_cons pe_str (pa_cons (pv 14) (pa_cons (pv 12) (pa_cons (pe_op op_add pe_int (pe_call G_ldraw hr (by rfl) T.m_ldraw F_ldraw.kp b_ldraw .nil pass0 (pa_cons (pv 0) (pa_cons pe_int pa_nil)))) pa_nil)))))))
  pss_nil)
  (pss_one (ps_ret (pe_tup (pa_cons pe_str (pa_cons (pv 14) (pa_cons (pv 12) (pa_cons (pe_call G_lruns hr (by rfl) T.m_lruns F_lruns.kp b_lruns .nil pass0 (pa_cons (pv 0) (pa_cons (pv 6) (pa_cons (pv 5) pa_nil)))) pa_nil)))))))))))))), ?_⟩
  have pl := nms.len
  obtain ⟨kd, hkd⟩ : ∃ kd, ks[k]? = some kd := ⟨_, List.getElem?_eq_getElem hk⟩
  have atk : atI (ks.map V.str) (k : Int) = some (.str kd) := atI_nat (by rw [List.getElem?_map, hkd]; rfl)
  obtain ⟨w', r', wp, rp, ho, hw, hrr, hws, hrd⟩ := id hof
  have wl := hws.len
  have rl := hrd.len
  have w0 := okE.w0
  have w8 := okE.w8
  have e16 := okE.e16
  refine ⟨_, rfl, o, _, _, _, rfl, rfl, SqT.of ho, rfl, w', rfl, ⟨_, SqT.of hw⟩, fun S hS => ?_⟩
  refine lc_tup (K := K) (a := w') (xs := wp.map V.ref) (fun i H' => Same H H' ∧ H' S = some (.lst (((ws.take i).map (·.1)).map V.str))) ⟨same_new hS _, upd_same⟩ (fun i H' _ h => SqT.of (h.1 _ _ hw)) ?_ ?_
  · rintro i y H1 hy ⟨S1, hS1⟩
    obtain ⟨u, hu, rfl⟩ : ∃ u, wp[i]? = some u ∧ y = V.ref u := by
      rw [List.getElem?_map] at hy
      cases e : wp[i]? with
      | none => rw [e] at hy; cases hy
      | some p => rw [e] at hy; exact ⟨p, rfl, (Option.some.inj hy).symm⟩
    obtain ⟨e, he1, he2⟩ := Wts.get hws hu
    obtain ⟨hi, ee⟩ := List.getElem?_eq_some_iff.mp he1
    refine ⟨rfl, _, rfl, u, _, _, _, rfl, rfl, SqT.of (S1 _ _ he2), rfl, _, hS1, ?_, same_mut S1 hS, ?_⟩
    · rw [List.length_map, List.length_map, List.length_take]
      exact Nat.lt_of_le_of_lt (show _ ≤ 100 by omega) (by decide)
    · rw [upd_same, List.take_succ_eq_append_getElem hi, List.map_append, List.map_append, ee]
      rfl
  rintro H1 ⟨S1, hS1⟩
  rw [List.length_map, wl, List.take_length] at hS1
  have hf1 := hf.same S1
  have neS := hf.ne hS
  have xl : (ws.map (·.1)).length = ws.length := List.length_map _
  generalize ws.map (·.1) = xs at *
  have hK1 := S1 _ _ hK
  have hL1 := S1 _ _ hL
  have B1 : But f H H1 := But.of_same S1
  refine ⟨_, rfl, _, rfl, Kd, _, _, _, rfl, rfl, SqL.of hK1, atk, rfl, _, rfl, ?_⟩
  refine ite2 (fun c1 => ?_) (fun c1 => ?_)
  · refine ⟨_, rfl, o, _, _, _, rfl, rfl, SqT.of (S1 _ _ ho), rfl, r', rfl, ⟨_, SqT.of (S1 _ _ hrr)⟩, fun D hD => ?_⟩
    refine lc_tup (K := K) (a := r') (xs := rp.map V.ref) (fun i H' => Same H1 H' ∧ H' D = some (.lst (((E1.take i).map (·.2)).map V.str))) ⟨same_new hD _, upd_same⟩ (fun i H' _ h => SqT.of (h.1 _ _ (S1 _ _ hrr))) ?_ ?_
    · rintro i y H2 hy ⟨S2, hD2⟩
      obtain ⟨u, hu, rfl⟩ : ∃ u, rp[i]? = some u ∧ y = V.ref u := by
        rw [List.getElem?_map] at hy
        cases e : rp[i]? with
        | none => rw [e] at hy; cases hy
        | some p => rw [e] at hy; exact ⟨p, rfl, (Option.some.inj hy).symm⟩
      obtain ⟨e, he1, he2⟩ := Rds.get hrd hu
      obtain ⟨hi, ee⟩ := List.getElem?_eq_some_iff.mp he1
      refine ⟨rfl, _, rfl, u, _, _, _, rfl, rfl, SqT.of ((S1.trans S2) _ _ he2), rfl, _, hD2, ?_, same_mut S2 hD, ?_⟩
      · rw [List.length_map, List.length_map, List.length_take]
        exact Nat.lt_of_le_of_lt (show _ ≤ 100 by omega) (by decide)
      · rw [upd_same, List.take_succ_eq_append_getElem hi, List.map_append, List.map_append, ee]
        rfl
    rintro H2 ⟨S2, hD2⟩
    rw [List.length_map, rl, List.take_length] at hD2
    refine ⟨D, (E1.map (·.2)).map Sum.inr, rfl, by rw [List.map_map]; exact SqL.of hD2, by rw [List.length_map, List.length_map]; omega, fun p2 c2 o2 hp2 hc2 ho2 => ?_⟩
    refine ⟨p2, _, c2, o2, rfl, upd_same, ho2, fun j hj => ?_, ?_, fun pl2 p3 up2 mem2 len2 hp3 => ?_⟩
    · obtain ⟨x, _, rfl⟩ := List.mem_map.mp hj
      exact ⟨x, rfl⟩
    · rw [List.length_map, List.length_map] at hc2
      omega
    have N2 := same_new hp2 o2
    have N3 := same_new hp3 (.lst (pl2.map V.str))
    have N23 := N2.trans N3
    have fd3 := (hf1.same S2).same N23
    have nep3 := ((hf1.same S2).same N2).ne hp3
    have l0 : 0 < pl2.length := by
      obtain ⟨e, he, _⟩ := okE.road
      exact List.length_pos_of_mem ((mem2 e.2).mpr (List.mem_map.mpr ⟨e.2, List.mem_map.mpr ⟨e, he, rfl⟩, rfl⟩))
    have l16 : pl2.length ≤ 16 := by
      rw [List.length_map, List.length_map] at hc2
      omega
    refine ⟨_, rfl, _, rfl, _, rfl, p3, _, rfl, .inl (SqL.of upd_same), f, c, _, n, rfl, fd3, by omega, by rw [List.length_map]; omega, by rw [List.length_map]; omega, fun d1 H4 d10 d11 hf4 b4 n4 => ?_⟩
    obtain ⟨s0, s01, s02⟩ := pick_str (xs := pl2) (d := d1) d10 d11
    refine ⟨p3, _, _, _, rfl, rfl, SqL.of (b4 _ _ nep3.1 upd_same), s02, ?_⟩
    refine ⟨_, rfl, f, c, 20, n + 1, rfl, hf4, by omega, by decide, by decide, fun d2 H5 d20 d21 hf5 b5 n5 => ⟨(show 3 ≤ sizeLine by decide), fun t ht => ?_⟩⟩
    have Nt := same_new ht (.tup [.str wCount, .str s0, .int d2])
    have B5 : But f H H5 := B1.trans ((But.of_same (S2.trans N23)).trans (b4.trans b5))
    exact q t (.ct s0 d2) _ ((hf5.same Nt).mono (by omega)) (B5.trans (But.of_same Nt)) (B5.backE hf5 ht) upd_same trivial
  have c1 : kd ≠ wCount := fun z => c1 (decide_eq_true (congrArg V.str z))
  refine ⟨_, rfl, _, rfl, Kd, _, _, _, rfl, rfl, SqL.of hK1, atk, rfl, _, rfl, ?_⟩
  refine ite2 (fun c2 => ?_) (fun c2 => ?_)
  ·
    refine ⟨_, rfl, L, _, rfl, .inl (SqL.of hL1), (((ps.map V.ref).length : Nat) : Int), rfl, ?_, ?_, fun D hD => ?_⟩
    · rw [List.length_map]
      omega
    · rw [List.length_map]
      omega
    have plm : ((((ps.map V.ref).length : Nat) : Int)).toNat = ps.length := by rw [List.length_map]; omega
    refine lc_range (lo := 0) (n := ((((ps.map V.ref).length : Nat) : Int)).toNat) (fun i H' => ∃ (qs : List Addr) (ms : List Nm), Same H1 H' ∧ H' D = some (.lst (qs.map V.ref)) ∧ Nms H' qs ms ∧ ms.length ≤ i) ⟨[], [], same_new hD _, upd_same, .nil, Nat.le_refl _⟩ ?_ ?_
    · rintro j H2 hj ⟨qs, ms, S2, hD2, nq, ml⟩
      rw [plm] at hj
      have jk : j < ks.length := by omega
      obtain ⟨kj, hkj⟩ : ∃ kj, ks[j]? = some kj := ⟨_, List.getElem?_eq_getElem jk⟩
      have atj : atI (ks.map V.str) (0 + (j : Int)) = some (.str kj) := by
        rw [Int.zero_add]
        exact atI_nat (by rw [List.getElem?_map, hkj]; rfl)
      obtain ⟨pj, hpj⟩ : ∃ pj, ps[j]? = some pj := ⟨_, List.getElem?_eq_getElem hj⟩
      have atp : atI (ps.map V.ref) (0 + (j : Int)) = some (.ref pj) := by
        rw [Int.zero_add]
        exact atI_nat (by rw [List.getElem?_map, hpj]; rfl)
      obtain ⟨mj, _, hmj⟩ := Nms.get nms hpj
      have ql := nq.len
      refine ⟨rfl, _, rfl, _, rfl, Kd, _, _, _, rfl, rfl, SqL.of (S2 _ _ hK1), atj, rfl, _, rfl, ?_⟩
      refine ite2 (fun cj => ?_) (fun cj => ?_)
      · refine ⟨_, rfl, _, rfl, L, _, _, _, rfl, rfl, SqL.of (S2 _ _ hL1), atp, _, hD2, ?_, qs ++ [pj], ms ++ [mj], same_mut S2 hD, ?_, ?_, ?_⟩
        · rw [List.length_map, ql]
          exact Nat.lt_of_le_of_lt (show _ ≤ 1000 by omega) (by decide)
        · rw [upd_same, List.map_append]
          rfl
        · exact (nq.app (Nms.mk1 ((S1.trans S2) _ _ hmj))).tk (Tk.put hD2)
        · rw [List.length_append, List.length_singleton]
          omega
      · exact ⟨qs, ms, S2, hD2, nq, by omega⟩
    rintro H2 ⟨qs, ms, S2, hD2, nq, ml⟩
    rw [plm] at ml
    have neD := hf1.ne hD
    have hf2 := hf1.same S2
    have B2 : But f H1 H2 := But.of_same S2
    refine ⟨fun σ H' => ∃ (D2 : Addr) (qs : List Addr) (ms : List Nm) (v7 v8 v9 v11 v12 v13 v14 : Option V), σ = [some (.ref f), some (.ref o), some (.ref L), some (.ref Kd), some (.int k), some (.int low), some (.ref S), v7, v8, v9, some (.ref D2), v11, v12, v13, v14] ∧ Fe H' f c (n + 1) ∧ But f H1 H' ∧ H' D2 = some (.lst (qs.map V.ref)) ∧ D2 ≠ f ∧ Nms H' qs ms ∧ 0 < ms.length ∧ ms.length ≤ 40, ?_, ?_⟩
    · refine ⟨_, rfl, _, rfl, Kd, _, _, _, rfl, rfl, SqL.of (S2 _ _ hK1), atk, rfl, _, rfl, ?_⟩
      refine ite2 (fun c3 => ?_) (fun c3 => ?_)
      ·
        have hLx := B2 _ _ Lf hL1
        have nmx := (nms.tk (Tk.same S1)).tk (Tk.but hf1 B2)
        refine ⟨_, rfl, (show 3 ≤ sizeLine by decide), fun ta hta => ⟨(show 1 ≤ sizeLine by decide), fun lb hlb => ?_⟩⟩
        have Na := same_new hta (.tup (nmV (7, 7, (("gone" : String) : Str))))
        have Nb := same_new hlb (.lst [.ref ta])
        refine ⟨L, lb, _, _, rfl, rfl, (Na.trans Nb) _ _ hLx, upd_same, ?_, fun p hp => ?_⟩
        · rw [List.length_map]
          exact Nat.le_trans (show ps.length + 1 ≤ 1000 by omega) (by decide)
        have Np := same_new hp (.lst (ps.map V.ref ++ [.ref ta]))
        have Nab := Na.trans (Nb.trans Np)
        have nep := ((hf2.same Na).same Nb).ne hp
        refine ⟨p, ps ++ [ta], ns ++ [(7, 7, (("gone" : String) : Str))], _, _, _, _, _, _, _, rfl, (hf2.same Nab).mono (by omega), B2.trans (But.of_same Nab), ?_, nep.1, ?_, ?_, ?_⟩
        · rw [upd_same, List.map_append]
          rfl
        · exact (nmx.tk (Tk.same Nab)).app (Nms.mk1 ((Nb.trans Np) _ _ upd_same))
        · rw [List.length_append, List.length_singleton]
          omega
        · rw [List.length_append, List.length_singleton]
          omega
      refine ⟨_, rfl, (show 0 ≤ sizeLine by decide), fun z hz => ?_⟩
      have Nz := same_new hz (.lst [])
      have hD3 := Nz _ _ hD2
      have nq3 := nq.tk (Tk.same Nz)
      have hf3 := hf2.same Nz
      have B3 := B2.trans (But.of_same Nz (f := f))
      refine ⟨.list (ms.map nmD), .list [], .lst (SqL.of hD3) nq3.dp, .lst (SqL.of upd_same) .nil, nms_plain _, rfl, nms_depth _, _, rfl, ?_⟩
      refine ite2 (fun c4 => ?_) (fun c4 => ?_)
      ·
        have hLx := B3 _ _ Lf hL1
        have nmx := (nms.tk (Tk.same S1)).tk (Tk.but hf1 B3)
        refine ⟨_, rfl, (show 3 ≤ sizeLine by decide), fun ta hta => ⟨(show 1 ≤ sizeLine by decide), fun lb hlb => ?_⟩⟩
        have Na := same_new hta (.tup (nmV (7, 7, (("gone" : String) : Str))))
        have Nb := same_new hlb (.lst [.ref ta])
        refine ⟨L, lb, _, _, rfl, rfl, (Na.trans Nb) _ _ hLx, upd_same, ?_, fun p hp => ?_⟩
        · rw [List.length_map]
          exact Nat.le_trans (show ps.length + 1 ≤ 1000 by omega) (by decide)
        have Np := same_new hp (.lst (ps.map V.ref ++ [.ref ta]))
        have Nab := Na.trans (Nb.trans Np)
        have nep := ((hf3.same Na).same Nb).ne hp
        refine ⟨p, ps ++ [ta], ns ++ [(7, 7, (("gone" : String) : Str))], _, _, _, _, _, _, _, rfl, (hf3.same Nab).mono (by omega), B3.trans (But.of_same Nab), ?_, nep.1, ?_, ?_, ?_⟩
        · rw [upd_same, List.map_append]
          rfl
        · exact (nmx.tk (Tk.same Nab)).app (Nms.mk1 ((Nb.trans Np) _ _ upd_same))
        · rw [List.length_append, List.length_singleton]
          omega
        · rw [List.length_append, List.length_singleton]
          omega
      have m0 : 0 < ms.length := by
        cases ms with
        | nil => exact absurd rfl c4
        | cons x l => exact Nat.succ_pos _
      refine ⟨_, rfl, f, c, 6, n, rfl, hf3, by omega, by decide, by decide, fun d5 H5 d50 d51 hf5 b5 n5 => ?_⟩
      refine ⟨rfl, _, rfl, ?_⟩
      have B5 := B3.trans b5
      refine ite2 (fun c5 => ?_) (fun c5 => ?_)
      ·
        have hLx := B5 _ _ Lf hL1
        have nmx := (nms.tk (Tk.same S1)).tk (Tk.but hf1 B5)
        refine ⟨_, rfl, (show 3 ≤ sizeLine by decide), fun ta hta => ⟨(show 1 ≤ sizeLine by decide), fun lb hlb => ?_⟩⟩
        have Na := same_new hta (.tup (nmV (7, 7, (("gone" : String) : Str))))
        have Nb := same_new hlb (.lst [.ref ta])
        refine ⟨L, lb, _, _, rfl, rfl, (Na.trans Nb) _ _ hLx, upd_same, ?_, fun p hp => ?_⟩
        · rw [List.length_map]
          exact Nat.le_trans (show ps.length + 1 ≤ 1000 by omega) (by decide)
        have Np := same_new hp (.lst (ps.map V.ref ++ [.ref ta]))
        have Nab := Na.trans (Nb.trans Np)
        have nep := ((hf5.same Na).same Nb).ne hp
        refine ⟨p, ps ++ [ta], ns ++ [(7, 7, (("gone" : String) : Str))], _, _, _, _, _, _, _, rfl, (hf5.same Nab).mono (by omega), B5.trans (But.of_same Nab), ?_, nep.1, ?_, ?_, ?_⟩
        · rw [upd_same, List.map_append]
          rfl
        · exact (nmx.tk (Tk.same Nab)).app (Nms.mk1 ((Nb.trans Np) _ _ upd_same))
        · rw [List.length_append, List.length_singleton]
          omega
        · rw [List.length_append, List.length_singleton]
          omega
      exact ⟨D, qs, ms, _, _, _, _, _, _, _, rfl, hf5, B5, b5 _ _ neD.1 hD3, neD.1, nq3.tk (Tk.but hf3 b5), m0, by omega⟩
    clear nq ml hD2 hf2 B2
    rintro σ H3 ⟨D2, qs, ms, v7, v8, v9, v11, v12, v13, v14, rfl, hf3, B3, hD3, Df, nq, m0, m40⟩
    have ql := nq.len
    refine ⟨_, rfl, _, rfl, _, rfl, D2, _, rfl, .inl (SqL.of hD3), f, c, _, n + 1, rfl, hf3, by omega, by rw [List.length_map]; omega, by rw [List.length_map]; omega, fun d6 H6 d60 d61 hf6 b6 n6 => ?_⟩
    have nq6 := nq.tk (Tk.but hf3 b6)
    obtain ⟨pm, mm, _, pm1, pm2⟩ := pick_nm nq6 d60 d61
    refine ⟨D2, _, _, _, rfl, rfl, SqL.of (b6 _ _ Df hD3), pm1, ?_⟩
    have B6 := B3.trans b6
    have B6' := B1.trans B6
    refine ⟨_, rfl, _, rfl, Kd, _, _, _, rfl, rfl, SqL.of (B6 _ _ Kf hK1), atk, rfl, _, rfl, ?_⟩
    refine ite2 (fun c7 => ?_) (fun c7 => ?_)
    · refine ⟨_, rfl, (show 2 ≤ sizeLine by decide), fun t ht => ?_⟩
      have Nt := same_new ht (.tup [.str wVoid, .ref pm])
      exact q t (.vd mm) _ ((hf6.same Nt).mono (by omega)) (B6'.trans (But.of_same Nt)) (B6'.backE hf6 ht) ⟨pm, upd_same, Nt _ _ pm2⟩ trivial
    · refine ⟨_, rfl, _, rfl, _, rfl, _, rfl, f, c, S, low, n + 1 + 1, xs, rfl, hf6, by omega, lo0, lo1, B6 _ _ neS.1 hS1, neS.1, by omega, by omega, wsl, fun u rs H7 hf7 b7 nu rt rl7 rok => ?_⟩
      refine ⟨(show 3 ≤ sizeLine by decide), fun t ht => ?_⟩
      have Nt := same_new ht (.tup [.str wRead, .ref pm, .ref u])
      have B7 := B6'.trans b7
      exact q t (.rd mm rs) _ ((hf7.same Nt).mono (by omega)) (B7.trans (But.of_same Nt)) (B7.backE hf7 ht) ⟨pm, u, upd_same, Nt _ _ (Tk.but hf6 b7 _ _ pm2), rt.tk (Tk.same Nt)⟩ rok
  refine ⟨_, rfl, _, rfl, Kd, _, _, _, rfl, rfl, SqL.of hK1, atk, rfl, _, rfl, ?_⟩
  refine ite2 (fun c3 => ?_) (fun c3 => ?_)
  ·
    refine ⟨_, rfl, L, _, rfl, .inl (SqL.of hL1), (((ps.map V.ref).length : Nat) : Int), rfl, ?_, ?_, fun D hD => ?_⟩
    · rw [List.length_map]
      omega
    · rw [List.length_map]
      omega
    have plm : ((((ps.map V.ref).length : Nat) : Int)).toNat = ps.length := by rw [List.length_map]; omega
    refine lc_range (lo := 0) (n := ((((ps.map V.ref).length : Nat) : Int)).toNat) (fun i H' => ∃ (qs : List Addr) (ms : List Nm), Same H1 H' ∧ H' D = some (.lst (qs.map V.ref)) ∧ Nms H' qs ms ∧ ms.length ≤ i) ⟨[], [], same_new hD _, upd_same, .nil, Nat.le_refl _⟩ ?_ ?_
    · rintro j H2 hj ⟨qs, ms, S2, hD2, nq, ml⟩
      rw [plm] at hj
      have jk : j < ks.length := by omega
      obtain ⟨kj, hkj⟩ : ∃ kj, ks[j]? = some kj := ⟨_, List.getElem?_eq_getElem jk⟩
      have atj : atI (ks.map V.str) (0 + (j : Int)) = some (.str kj) := by
        rw [Int.zero_add]
        exact atI_nat (by rw [List.getElem?_map, hkj]; rfl)
      obtain ⟨pj, hpj⟩ : ∃ pj, ps[j]? = some pj := ⟨_, List.getElem?_eq_getElem hj⟩
      have atp : atI (ps.map V.ref) (0 + (j : Int)) = some (.ref pj) := by
        rw [Int.zero_add]
        exact atI_nat (by rw [List.getElem?_map, hpj]; rfl)
      obtain ⟨mj, _, hmj⟩ := Nms.get nms hpj
      have ql := nq.len
      refine ⟨rfl, _, rfl, _, rfl, Kd, _, _, _, rfl, rfl, SqL.of (S2 _ _ hK1), atj, rfl, _, rfl, ?_⟩
      refine ite2 (fun cj => ?_) (fun cj => ?_)
      · refine ⟨_, rfl, _, rfl, L, _, _, _, rfl, rfl, SqL.of (S2 _ _ hL1), atp, _, hD2, ?_, qs ++ [pj], ms ++ [mj], same_mut S2 hD, ?_, ?_, ?_⟩
        · rw [List.length_map, ql]
          exact Nat.lt_of_le_of_lt (show _ ≤ 1000 by omega) (by decide)
        · rw [upd_same, List.map_append]
          rfl
        · exact (nq.app (Nms.mk1 ((S1.trans S2) _ _ hmj))).tk (Tk.put hD2)
        · rw [List.length_append, List.length_singleton]
          omega
      · exact ⟨qs, ms, S2, hD2, nq, by omega⟩
    rintro H2 ⟨qs, ms, S2, hD2, nq, ml⟩
    rw [plm] at ml
    have neD := hf1.ne hD
    have hf2 := hf1.same S2
    have B2 : But f H1 H2 := But.of_same S2
    refine ⟨fun σ H' => ∃ (D2 : Addr) (qs : List Addr) (ms : List Nm) (v7 v8 v9 v11 v12 v13 v14 : Option V), σ = [some (.ref f), some (.ref o), some (.ref L), some (.ref Kd), some (.int k), some (.int low), some (.ref S), v7, v8, v9, some (.ref D2), v11, v12, v13, v14] ∧ Fe H' f c (n + 1) ∧ But f H1 H' ∧ H' D2 = some (.lst (qs.map V.ref)) ∧ D2 ≠ f ∧ Nms H' qs ms ∧ 0 < ms.length ∧ ms.length ≤ 40, ?_, ?_⟩
    · refine ⟨_, rfl, _, rfl, Kd, _, _, _, rfl, rfl, SqL.of (S2 _ _ hK1), atk, rfl, _, rfl, ?_⟩
      refine ite2 (fun c3 => ?_) (fun c3 => ?_)
      ·
        have hLx := B2 _ _ Lf hL1
        have nmx := (nms.tk (Tk.same S1)).tk (Tk.but hf1 B2)
        refine ⟨_, rfl, (show 3 ≤ sizeLine by decide), fun ta hta => ⟨(show 1 ≤ sizeLine by decide), fun lb hlb => ?_⟩⟩
        have Na := same_new hta (.tup (nmV (7, 7, (("gone" : String) : Str))))
        have Nb := same_new hlb (.lst [.ref ta])
        refine ⟨L, lb, _, _, rfl, rfl, (Na.trans Nb) _ _ hLx, upd_same, ?_, fun p hp => ?_⟩
        · rw [List.length_map]
          exact Nat.le_trans (show ps.length + 1 ≤ 1000 by omega) (by decide)
        have Np := same_new hp (.lst (ps.map V.ref ++ [.ref ta]))
        have Nab := Na.trans (Nb.trans Np)
        have nep := ((hf2.same Na).same Nb).ne hp
        refine ⟨p, ps ++ [ta], ns ++ [(7, 7, (("gone" : String) : Str))], _, _, _, _, _, _, _, rfl, (hf2.same Nab).mono (by omega), B2.trans (But.of_same Nab), ?_, nep.1, ?_, ?_, ?_⟩
        · rw [upd_same, List.map_append]
          rfl
        · exact (nmx.tk (Tk.same Nab)).app (Nms.mk1 ((Nb.trans Np) _ _ upd_same))
        · rw [List.length_append, List.length_singleton]
          omega
        · rw [List.length_append, List.length_singleton]
          omega
      refine ⟨_, rfl, (show 0 ≤ sizeLine by decide), fun z hz => ?_⟩
      have Nz := same_new hz (.lst [])
      have hD3 := Nz _ _ hD2
      have nq3 := nq.tk (Tk.same Nz)
      have hf3 := hf2.same Nz
      have B3 := B2.trans (But.of_same Nz (f := f))
      refine ⟨.list (ms.map nmD), .list [], .lst (SqL.of hD3) nq3.dp, .lst (SqL.of upd_same) .nil, nms_plain _, rfl, nms_depth _, _, rfl, ?_⟩
      refine ite2 (fun c4 => ?_) (fun c4 => ?_)
      ·
        have hLx := B3 _ _ Lf hL1
        have nmx := (nms.tk (Tk.same S1)).tk (Tk.but hf1 B3)
        refine ⟨_, rfl, (show 3 ≤ sizeLine by decide), fun ta hta => ⟨(show 1 ≤ sizeLine by decide), fun lb hlb => ?_⟩⟩
        have Na := same_new hta (.tup (nmV (7, 7, (("gone" : String) : Str))))
        have Nb := same_new hlb (.lst [.ref ta])
        refine ⟨L, lb, _, _, rfl, rfl, (Na.trans Nb) _ _ hLx, upd_same, ?_, fun p hp => ?_⟩
        · rw [List.length_map]
          exact Nat.le_trans (show ps.length + 1 ≤ 1000 by omega) (by decide)
        have Np := same_new hp (.lst (ps.map V.ref ++ [.ref ta]))
        have Nab := Na.trans (Nb.trans Np)
        have nep := ((hf3.same Na).same Nb).ne hp
        refine ⟨p, ps ++ [ta], ns ++ [(7, 7, (("gone" : String) : Str))], _, _, _, _, _, _, _, rfl, (hf3.same Nab).mono (by omega), B3.trans (But.of_same Nab), ?_, nep.1, ?_, ?_, ?_⟩
        · rw [upd_same, List.map_append]
          rfl
        · exact (nmx.tk (Tk.same Nab)).app (Nms.mk1 ((Nb.trans Np) _ _ upd_same))
        · rw [List.length_append, List.length_singleton]
          omega
        · rw [List.length_append, List.length_singleton]
          omega
      have m0 : 0 < ms.length := by
        cases ms with
        | nil => exact absurd rfl c4
        | cons x l => exact Nat.succ_pos _
      refine ⟨_, rfl, f, c, 6, n, rfl, hf3, by omega, by decide, by decide, fun d5 H5 d50 d51 hf5 b5 n5 => ?_⟩
      refine ⟨rfl, _, rfl, ?_⟩
      have B5 := B3.trans b5
      refine ite2 (fun c5 => ?_) (fun c5 => ?_)
      ·
        have hLx := B5 _ _ Lf hL1
        have nmx := (nms.tk (Tk.same S1)).tk (Tk.but hf1 B5)
        refine ⟨_, rfl, (show 3 ≤ sizeLine by decide), fun ta hta => ⟨(show 1 ≤ sizeLine by decide), fun lb hlb => ?_⟩⟩
        have Na := same_new hta (.tup (nmV (7, 7, (("gone" : String) : Str))))
        have Nb := same_new hlb (.lst [.ref ta])
        refine ⟨L, lb, _, _, rfl, rfl, (Na.trans Nb) _ _ hLx, upd_same, ?_, fun p hp => ?_⟩
        · rw [List.length_map]
          exact Nat.le_trans (show ps.length + 1 ≤ 1000 by omega) (by decide)
        have Np := same_new hp (.lst (ps.map V.ref ++ [.ref ta]))
        have Nab := Na.trans (Nb.trans Np)
        have nep := ((hf5.same Na).same Nb).ne hp
        refine ⟨p, ps ++ [ta], ns ++ [(7, 7, (("gone" : String) : Str))], _, _, _, _, _, _, _, rfl, (hf5.same Nab).mono (by omega), B5.trans (But.of_same Nab), ?_, nep.1, ?_, ?_, ?_⟩
        · rw [upd_same, List.map_append]
          rfl
        · exact (nmx.tk (Tk.same Nab)).app (Nms.mk1 ((Nb.trans Np) _ _ upd_same))
        · rw [List.length_append, List.length_singleton]
          omega
        · rw [List.length_append, List.length_singleton]
          omega
      exact ⟨D, qs, ms, _, _, _, _, _, _, _, rfl, hf5, B5, b5 _ _ neD.1 hD3, neD.1, nq3.tk (Tk.but hf3 b5), m0, by omega⟩
    clear nq ml hD2 hf2 B2
    rintro σ H3 ⟨D2, qs, ms, v7, v8, v9, v11, v12, v13, v14, rfl, hf3, B3, hD3, Df, nq, m0, m40⟩
    have ql := nq.len
    refine ⟨_, rfl, _, rfl, _, rfl, D2, _, rfl, .inl (SqL.of hD3), f, c, _, n + 1, rfl, hf3, by omega, by rw [List.length_map]; omega, by rw [List.length_map]; omega, fun d6 H6 d60 d61 hf6 b6 n6 => ?_⟩
    have nq6 := nq.tk (Tk.but hf3 b6)
    obtain ⟨pm, mm, _, pm1, pm2⟩ := pick_nm nq6 d60 d61
    refine ⟨D2, _, _, _, rfl, rfl, SqL.of (b6 _ _ Df hD3), pm1, ?_⟩
    have B6 := B3.trans b6
    have B6' := B1.trans B6
    refine ⟨_, rfl, _, rfl, Kd, _, _, _, rfl, rfl, SqL.of (B6 _ _ Kf hK1), atk, rfl, _, rfl, ?_⟩
    refine ite2 (fun c7 => ?_) (fun c7 => ?_)
    · refine ⟨_, rfl, (show 2 ≤ sizeLine by decide), fun t ht => ?_⟩
      have Nt := same_new ht (.tup [.str wVoid, .ref pm])
      exact q t (.vd mm) _ ((hf6.same Nt).mono (by omega)) (B6'.trans (But.of_same Nt)) (B6'.backE hf6 ht) ⟨pm, upd_same, Nt _ _ pm2⟩ trivial
    · refine ⟨_, rfl, _, rfl, _, rfl, _, rfl, f, c, S, low, n + 1 + 1, xs, rfl, hf6, by omega, lo0, lo1, B6 _ _ neS.1 hS1, neS.1, by omega, by omega, wsl, fun u rs H7 hf7 b7 nu rt rl7 rok => ?_⟩
      refine ⟨(show 3 ≤ sizeLine by decide), fun t ht => ?_⟩
      have Nt := same_new ht (.tup [.str wRead, .ref pm, .ref u])
      have B7 := B6'.trans b7
      exact q t (.rd mm rs) _ ((hf7.same Nt).mono (by omega)) (B7.trans (But.of_same Nt)) (B7.backE hf7 ht) ⟨pm, u, upd_same, Nt _ _ (Tk.but hf6 b7 _ _ pm2), rt.tk (Tk.same Nt)⟩ rok
  refine ⟨_, rfl, o, _, _, _, rfl, rfl, SqT.of (S1 _ _ ho), rfl, r', _, rfl, .inr (SqT.of (S1 _ _ hrr)), fun RL hRL => ?_⟩
  have NL := same_new hRL (.lst (rp.map V.ref))
  have neR := hf1.ne hRL
  have hf2 := hf1.same NL
  have rd2 := hrd.tk (Tk.same (S1.trans NL))
  have hRL2 : upd H1 RL (.lst (rp.map V.ref)) RL = some (.lst (rp.map V.ref)) := upd_same
  have hS2 := NL _ _ hS1
  have hK2 := NL _ _ hK1
  have B2 : But f H (upd H1 RL (.lst (rp.map V.ref))) := B1.trans (But.of_same NL)
  generalize upd H1 RL (.lst (rp.map V.ref)) = H2 at *
  obtain ⟨e0, he0, he0n⟩ := okE.road
  refine ⟨fun σ H' => ∃ (D2 : Addr) (qs : List Addr) (es : List Ed) (v7 v8 v9 v10 v11 v12 v14 : Option V), σ = [some (.ref f), some (.ref o), some (.ref L), some (.ref Kd), some (.int k), some (.int low), some (.ref S), v7, v8, v9, v10, v11, v12, some (.ref D2), v14] ∧ Fe H' f c n ∧ Same H2 H' ∧ H' D2 = some (.lst (qs.map V.ref)) ∧ D2 ≠ f ∧ Rds H' qs es ∧ 0 < es.length ∧ es.length ≤ 16 ∧ ∀ e ∈ es, e ∈ E1, ?_, ?_⟩
  · refine ⟨_, rfl, _, rfl, Kd, _, _, _, rfl, rfl, SqL.of hK2, atk, rfl, _, rfl, ?_⟩
    refine ite2 (fun c4 => ?_) (fun c4 => ?_)
    · refine ⟨_, rfl, RL, rfl, ⟨_, SqL.of hRL2⟩, fun D hD => ?_⟩
      refine lc_list (K := K) (a := RL) (xs := rp.map V.ref) (fun i H' => ∃ qs : List Addr, Same H2 H' ∧ H' D = some (.lst (qs.map V.ref)) ∧ Rds H' qs ((E1.take i).filter fun e => !decide (e.1 = gNone))) ⟨[], same_new hD _, upd_same, .nil⟩ (fun i H' _ h => by obtain ⟨_, S, _⟩ := h; exact SqL.of (S _ _ hRL2)) ?_ ?_
      · rintro i y H3 hy ⟨qs, S3, hD3, rq⟩
        obtain ⟨u, hu, rfl⟩ : ∃ u, rp[i]? = some u ∧ y = V.ref u := by
          rw [List.getElem?_map] at hy
          cases e : rp[i]? with
          | none => rw [e] at hy; cases hy
          | some p => rw [e] at hy; exact ⟨p, rfl, (Option.some.inj hy).symm⟩
        obtain ⟨e, he1, he2⟩ := Rds.get rd2 hu
        obtain ⟨hi, ee⟩ := List.getElem?_eq_some_iff.mp he1
        have ql := rq.len
        have fl : ((E1.take i).filter fun e => !decide (e.1 = gNone)).length ≤ i := Nat.le_trans (List.length_filter_le _ _) (List.length_take_le _ _)
        have more : (E1.take (i + 1)).filter (fun e => !decide (e.1 = gNone)) = (E1.take i).filter (fun e => !decide (e.1 = gNone)) ++ if (!decide (e.1 = gNone)) = true then [e] else [] := by
          rw [List.take_succ_eq_append_getElem hi, List.filter_append, ee]
          congr 1
          by_cases cz : e.1 = gNone <;> simp [cz]
        refine ⟨rfl, _, rfl, u, _, _, _, rfl, rfl, SqT.of (S3 _ _ he2), rfl, rfl, _, rfl, ?_⟩
        refine ite2 (fun cz => ?_) (fun cz => ?_)
        · have cz : (!decide (e.1 = gNone)) = true := by
            by_cases z : e.1 = gNone
            · rw [z] at cz
              simp [gNone] at cz
            · simp [z]
          rw [if_pos cz] at more
          refine ⟨_, rfl, _, hD3, ?_, qs ++ [u], same_mut S3 hD, ?_, ?_⟩
          · rw [List.length_map, ql]
            exact Nat.lt_of_le_of_lt (show _ ≤ 1000 by omega) (by decide)
          · rw [upd_same, List.map_append]
            rfl
          · rw [more]
            exact (rq.app (Rds.mk1 (S3 _ _ he2))).tk (Tk.put hD3)
        · have cz : ¬ (!decide (e.1 = gNone)) = true := by
            by_cases z : e.1 = gNone
            · simp [z]
            · exact (cz (by
                have : V.str e.1 ≠ V.str gNone := fun k => z (V.str.inj k)
                show (!decide (V.str e.1 = V.str gNone)) = true
                simp [this])).elim
          rw [if_neg cz, List.append_nil] at more
          exact ⟨qs, S3, hD3, by rw [more]; exact rq⟩
      · rintro H3 ⟨qs, S3, hD3, rq⟩
        rw [List.length_map, rl, List.take_length] at rq
        refine ⟨D, qs, _, _, _, _, _, _, _, _, rfl, hf2.same S3, S3, hD3, (hf2.ne hD).1, rq, ?_, Nat.le_trans (List.length_filter_le _ _) e16, fun e he => (List.mem_filter.mp he).1⟩
        exact List.length_pos_of_mem (List.mem_filter.mpr ⟨he0, by simp [he0n]⟩)
    · exact ⟨RL, rp, E1, _, _, _, _, _, _, _, rfl, hf2, Same.refl _, hRL2, neR.1, rd2, List.length_pos_of_mem he0, e16, fun _ z => z⟩
  rintro σ H3 ⟨D2, qs, es, v7, v8, v9, v10, v11, v12, v14, rfl, hf3, S3, hD3, Df, rq, m0, m16, esE⟩
  have ql := rq.len
  refine ⟨_, rfl, _, rfl, _, rfl, D2, _, rfl, .inl (SqL.of hD3), f, c, _, n, rfl, hf3, by omega, by rw [List.length_map]; omega, by rw [List.length_map]; omega, fun d6 H6 d60 d61 hf6 b6 n6 => ?_⟩
  have rq6 := rq.tk (Tk.but hf3 b6)
  obtain ⟨pm, em, emm, pm1, pm2⟩ := pick_ed rq6 d60 d61
  have B6 := B2.trans ((But.of_same S3).trans b6)
  have hK6 := b6 _ _ Kf (S3 _ _ hK2)
  have hS6 := b6 _ _ neS.1 (S3 _ _ hS2)
  refine ⟨D2, _, _, _, rfl, rfl, SqL.of (b6 _ _ Df hD3), pm1, ?_⟩
  refine ⟨pm, _, rfl, SqT.of pm2, rfl, _, _, rfl, _, _, rfl, rfl, ?_⟩
  refine ⟨_, rfl, _, rfl, Kd, _, _, _, rfl, rfl, SqL.of hK6, atk, rfl, _, rfl, ?_⟩
  refine ite2 (fun c7 => ?_) (fun c7 => ?_)
  · refine ⟨_, rfl, _, rfl, _, rfl, f, c, 12, n + 1, rfl, hf6, by omega, by decide, by decide, fun d7 H7 d70 d71 hf7 b7 n7 => ⟨_, _, rfl, rfl, (show 4 ≤ sizeLine by decide), fun t ht => ?_⟩⟩
    have Nt := same_new ht (.tup [.str wBag, .str em.1, .str em.2, .int (1 + d7)])
    have B7 := B6.trans b7
    exact q t (.bag em.1 em.2 (1 + d7)) _ ((hf7.same Nt).mono (by omega)) (B7.trans (But.of_same Nt)) (B7.backE hf7 ht) upd_same ⟨esE _ emm, by omega, by omega⟩
  · refine ⟨_, rfl, _, rfl, _, rfl, _, rfl, _, rfl, f, c, S, low, n + 1, xs, rfl, hf6, by omega, lo0, lo1, hS6, neS.1, by omega, by omega, wsl, fun u rs H7 hf7 b7 nu rt rl7 rok => ?_⟩
    refine ⟨(show 4 ≤ sizeLine by decide), fun t ht => ?_⟩
    have Nt := same_new ht (.tup [.str wMove, .str em.1, .str em.2, .ref u])
    have B7 := B6.trans b7
    exact q t (.mv em.1 em.2 rs) _ ((hf7.same Nt).mono (by omega)) (B7.trans (But.of_same Nt)) (B7.backE hf7 ht) ⟨u, upd_same, rt.tk (Tk.same Nt)⟩ ⟨esE _ emm, rok⟩

theorem ok_lpages (F : Fun K "_law_pages" "_law_pages" s_lpages f_lpages d_lpages) (T : Txt mg f_many_in f_named_by_voids f_counted_bags f_standing_of f_pages_that_are f_counted_pages f_until f_of_series f_brought f_traffic f_balance f_moved f_by_days f_lfeed f_ldraw f_lfar f_lwords f_loffice f_lruns f_lnames f_ldeed f_lpages f_llow f_lknot f_lbegun f_lbook f_lsorts f_lsame f_lmany f_lbalance f_ldays f_lright f_law)
    (F_ldraw : Fun K "_law_draw" "_law_draw" s_ldraw f_ldraw d_ldraw) (b_ldraw : Binds K d_ldraw ["_law_feed_here", "_law_many_here"] []) (G_ldraw : FnOk P w K mg base CX0 (3) f_ldraw d_ldraw ["_law_feed_here", "_law_many_here"] spDrawE)
    (F_lnames : Fun K "_law_names" "_law_names" s_lnames f_lnames d_lnames) (b_lnames : Binds K d_lnames ["_law_feed_here", "_law_many_here"] []) (G_lnames : FnOk P w K mg base CX0 (3) f_lnames d_lnames ["_law_feed_here", "_law_many_here"] spNamesE)
    (F_ldeed : Fun K "_law_deed" "_law_deed" s_ldeed f_ldeed d_ldeed) (b_ldeed : Binds K d_ldeed ["_law_feed_here", "_law_office_here", "_law_names_here", "_law_kinds", "_law_k", "_law_low_here"] []) (G_ldeed : FnOk P w K mg base CX0 (3) f_ldeed d_ldeed ["_law_feed_here", "_law_office_here", "_law_names_here", "_law_kinds", "_law_k", "_law_low_here"] spDeedL) :
    FnOk P w K mg base CX0 (4) f_lpages d_lpages ["_law_feed_here", "_law_office_here", "_law_many_here", "_law_low_here"] spPagesL := by
  refine F.ok sc_lpages (fun vs H Q E h => ?_) (fun cdv A outer s H vs Q E hr h => ?_)

  · obtain ⟨f, c, o, m, low, n, ws, E1, rfl, _⟩ := h
    rfl
  obtain ⟨f, c, o, m, low, n, ws, E1, rfl, hf, hn, hof, okE, wsl, hm, lo0, lo1, q⟩ := h
  refine ⟨_, (pss_cons (ps_set (i := 4) sc_lpages.nd rfl (.inr rfl) (pe_call G_lnames hr (by rfl) T.m_lnames F_lnames.kp b_lnames .nil pass0 (pa_cons (pv 0) (pa_cons (pv 2) pa_nil))))
  (pss_cons (ps_set (i := 5) sc_lpages.nd rfl (.inr rfl) (pe_lst (pa_cons pe_str (pa_cons pe_str (pa_cons pe_str (pa_cons pe_str (pa_cons pe_str (pa_cons pe_str (pa_cons pe_str (pa_cons pe_str (pa_cons pe_str (pa_cons pe_str (pa_cons pe_str (pa_cons pe_str pa_nil))))))))))))))
  (pss_cons (ps_set (i := 6) sc_lpages.nd rfl (.inr rfl) (pe_lc (own := [("_law_k", 7)]) (g := (gName 7)) (by rfl) sc_lpages.nd (pi_range1 (by rfl) T.range (pa_cons (pv 2) pa_nil)) (blkOk_by (own := [("_law_k", 7)]) (N := ["_law_feed_here", "_law_office_here", "_law_many_here", "_law_low_here", "_law_names_here", "_law_words_here", "_law_kinds", "_law_k"]) (sc := defScope s_lpages) (by decide +kernel)) (fun _ _ _ _ _ => (pg_name (i := 7) sc_lpages.nd rfl (.inl rfl))) (fun _ _ _ _ _ => pts_nil) (fun _ _ _ _ _ => (pe_ix (show IxR _ (rIxL K) from ix_list) (pv 5) (pe_call G_ldraw hr (by rfl) T.m_ldraw F_ldraw.kp b_ldraw .nil pass0 (pa_cons (pv 0) (pa_cons pe_int pa_nil))) (fun _ _ => rfl)))))
  (pss_one (ps_ret (pe_lc (own := [("_law_k", 7)]) (g := (gName 7)) (by rfl) sc_lpages.nd (pi_range1 (by rfl) T.range (pa_cons (pv 2) pa_nil)) (blkOk_by (own := [("_law_k", 7)]) (N := ["_law_feed_here", "_law_office_here", "_law_many_here", "_law_low_here", "_law_names_here", "_law_words_here", "_law_kinds", "_law_k"]) (sc := defScope s_lpages) (by decide +kernel)) (fun _ _ _ _ _ => (pg_name (i := 7) sc_lpages.nd rfl (.inl rfl))) (fun _ _ _ _ _ => pts_nil) (fun _ _ _ _ _ => (pe_tup (pa_cons (pe_ix (show IxR _ (rIxL K) from ix_list) (pv 4) (pv 7) (fun _ _ => rfl)) (pa_cons (pe_call G_ldeed hr (by rfl) T.m_ldeed F_ldeed.kp b_ldeed .nil pass0 (pa_cons (pv 0) (pa_cons (pv 1) (pa_cons (pv 4) (pa_cons (pv 6) (pa_cons (pv 7) (pa_cons (pv 3) pa_nil))))))) pa_nil)))))))))), ?_⟩
  refine ⟨_, rfl, _, rfl, f, c, m, n, rfl, hf, by omega, hm, fun L ps ns H1 hf1 b1 nL hL nms len nd ok => ?_⟩
  have pl := nms.len
  have Lf : L ≠ f := by
    obtain ⟨zs, hz⟩ := hf.at
    exact Ne.symm (ne_of_none hz nL)
  refine ⟨(show 12 ≤ sizeLine by decide), fun W hW => ?_⟩
  have NW := same_new hW (.lst (gMenu.map V.str))
  have neW := hf1.ne hW
  have hf2 := hf1.same NW
  have B2 : But f H (upd H1 W (.lst (gMenu.map V.str))) := b1.trans (But.of_same NW)
  have hW2 : upd H1 W (.lst (gMenu.map V.str)) W = some (.lst (gMenu.map V.str)) := upd_same
  have hL2 := NW _ _ hL
  have nms2 := nms.tk (Tk.same NW)
  change tSeq _ _ _ _ (upd H1 W (.lst (gMenu.map V.str)))
  generalize upd H1 W (.lst (gMenu.map V.str)) = H2 at *
  refine ⟨_, rfl, m, rfl, by omega, by omega, fun D hD => ?_⟩
  have neD := hf2.ne hD
  refine lc_range (lo := 0) (n := (m : Int).toNat) (fun i H' => ∃ ks : List Str, Fe H' f c (n + 200 + i) ∧ But f H2 H' ∧ H' D = some (.lst (ks.map V.str)) ∧ ks.length = i) ⟨[], (hf2.new hD).mono (by omega), But.new hD, upd_same, rfl⟩ ?_ ?_
  · rintro i H3 hi ⟨ks, hf3, B3, hD3, kl⟩
    refine ⟨rfl, _, rfl, _, rfl, f, c, 12, _, rfl, hf3, by omega, by decide, by decide, fun d H4 d0 d1 hf4 b4 n4 => ?_⟩
    obtain ⟨nm, _, nm2⟩ := pick_str (xs := gMenu) (d := d) d0 d1
    have hD4 := b4 _ _ neD.1 hD3
    refine ⟨W, _, _, _, rfl, rfl, SqL.of ((B3.trans b4) _ _ neW.1 hW2), nm2, _, hD4, ?_, ks ++ [nm], (hf4.upd neD).mono (by omega), (B3.trans b4).mut hD, ?_, ?_⟩
    · rw [List.length_map, kl]
      exact Nat.lt_of_lt_of_le (show _ < 100 by omega) (by decide)
    · rw [upd_same, List.map_append]
      rfl
    · rw [List.length_append, List.length_singleton, kl]
  rintro H3 ⟨ks, hf3, B3, hD3, kl⟩
  have kl : ks.length = m := by omega
  have hf3 : Fe H3 f c (n + 200 + m) := hf3.mono (by omega)
  have B3' := B2.trans B3
  have hL3 := B3 _ _ Lf hL2
  have nms3 := nms2.tk (Tk.but hf2 B3)
  have of3 := hof.tk (Tk.but hf B3')
  refine ⟨_, rfl, m, rfl, by omega, by omega, fun Z hZ => ?_⟩
  have neZ := hf3.ne hZ
  refine lc_range (lo := 0) (n := (m : Int).toNat) (fun i H' => ∃ (qs : List Addr) (gs : List Pg), Fe H' f c (n + 300 + 100 * i) ∧ But f H3 H' ∧ H' Z = some (.lst (qs.map V.ref)) ∧ Pgs H' qs gs ∧ gs.map (·.1) = ns.take i ∧ ∀ g ∈ gs, DdL E1 (ws.map (·.1)) low g.2) ⟨[], [], (hf3.new hZ).mono (by omega), But.new hZ, upd_same, .nil, by rw [List.take_zero]; rfl, fun _ h => nomatch h⟩ ?_ ?_
  · rintro i H4 hi ⟨qs, gs, hf4, B4, hZ4, pq, gn, gok⟩
    have im : i < m := by omega
    obtain ⟨pi, hpi⟩ : ∃ pi, ps[i]? = some pi := ⟨_, List.getElem?_eq_getElem (by omega)⟩
    obtain ⟨e, he1, he2⟩ := Nms.get nms3 hpi
    obtain ⟨hin, ee⟩ := List.getElem?_eq_some_iff.mp he1
    have atp : atI (ps.map V.ref) (0 + (i : Int)) = some (.ref pi) := by
      rw [Int.zero_add]
      exact atI_nat (by rw [List.getElem?_map, hpi]; rfl)
    have tk4 := Tk.but hf3 B4
    refine ⟨rfl, _, rfl, _, rfl, L, _, _, _, rfl, rfl, SqL.of (B4 _ _ Lf hL3), atp, ?_⟩
    refine ⟨_, rfl, _, rfl, _, rfl, _, rfl, _, rfl, _, rfl, f, c, o, L, D, i, low, _, ws, E1, ps, ns, ks, by rw [Int.zero_add]; rfl, hf4, by omega, of3.tk tk4, okE, wsl, B4 _ _ Lf hL3, Lf, nms3.tk tk4, by omega, B4 _ _ neD.1 hD3, neD.1, by omega, by omega, lo0, lo1, fun t dd H5 hf5 b5 nt dat dok => ?_⟩
    refine ⟨(show 2 ≤ sizeLine by decide), fun p hp => ?_⟩
    have Np := same_new hp (.tup [.ref pi, .ref t])
    have hZ6 := Np _ _ (b5 _ _ neZ.1 hZ4)
    have tk5 := Tk.but hf4 b5
    have ql := pq.len
    have gl : gs.length = i := by
      have z := congrArg List.length gn
      rw [List.length_map, List.length_take] at z
      omega
    refine ⟨_, hZ6, ?_, qs ++ [p], gs ++ [(e, dd)], ((hf5.same Np).upd neZ).mono (by omega), ((B4.trans b5).trans (But.of_same Np)).mut hZ, ?_, ?_, ?_, fun g hg => ?_⟩
    · rw [List.length_map, ql]
      exact Nat.lt_of_lt_of_le (show _ < 100 by omega) (by decide)
    · rw [upd_same, List.map_append]
      rfl
    · refine (((pq.tk tk5).tk (Tk.same Np)).app (Pgs.mk1 ⟨pi, t, upd_same, Np _ _ (tk5 _ _ (tk4 _ _ he2)), dat.tk (Tk.same Np)⟩)).tk (Tk.put hZ6)
    · rw [List.map_append, gn, List.take_succ_eq_append_getElem hin, ee]
      rfl
    · rcases List.mem_append.mp hg with hg | hg
      · exact gok g hg
      · rw [List.mem_singleton.mp hg]
        exact dok
  · rintro H4 ⟨qs, gs, hf4, B4, hZ4, pq, gn, gok⟩
    rw [show (m : Int).toNat = ns.length by omega, List.take_length] at gn
    refine q Z qs gs H4 (hf4.mono (by omega)) (B3'.trans B4) (B3'.backE hf3 hZ) hZ4 pq ?_ (by rw [gn]; exact nd) (fun g hg => ok g.1 (by rw [← gn]; exact List.mem_map.mpr ⟨g, hg, rfl⟩)) gok
    have z := congrArg List.length gn
    rw [List.length_map] at z
    omega

theorem ok_lknot (F : Fun K "_law_knot" "_law_knot" s_lknot f_lknot d_lknot) (T : Txt mg f_many_in f_named_by_voids f_counted_bags f_standing_of f_pages_that_are f_counted_pages f_until f_of_series f_brought f_traffic f_balance f_moved f_by_days f_lfeed f_ldraw f_lfar f_lwords f_loffice f_lruns f_lnames f_ldeed f_lpages f_llow f_lknot f_lbegun f_lbook f_lsorts f_lsame f_lmany f_lbalance f_ldays f_lright f_law)
    (F_ldraw : Fun K "_law_draw" "_law_draw" s_ldraw f_ldraw d_ldraw) (b_ldraw : Binds K d_ldraw ["_law_feed_here", "_law_many_here"] []) (G_ldraw : FnOk P w K mg base CX0 (2) f_ldraw d_ldraw ["_law_feed_here", "_law_many_here"] spDrawE)
    (F_lruns : Fun K "_law_runs" "_law_runs" s_lruns f_lruns d_lruns) (b_lruns : Binds K d_lruns ["_law_feed_here", "_law_series", "_law_low_here"] []) (G_lruns : FnOk P w K mg base CX0 (2) f_lruns d_lruns ["_law_feed_here", "_law_series", "_law_low_here"] spRunsL) :
    FnOk P w K mg base CX0 (3) f_lknot d_lknot ["_law_feed_here", "_law_office_here", "_law_low_here"] spKnotL := by
  refine F.ok sc_lknot (fun vs H Q E h => ?_) (fun cdv A outer s H vs Q E hr h => ?_)

  · obtain ⟨f, c, o, low, n, ws, E1, rfl, _⟩ := h
    rfl
  obtain ⟨f, c, o, low, n, ws, E1, rfl, hf, hn, hof, okE, wsl, lo0, lo1, q⟩ := h
  refine ⟨_, (pss_cons (ps_setLc (i := 3) (own := [("_law_row", 4)]) (g := (gName 4)) (by rfl) sc_lknot.nd rfl rfl (sw_true rfl rfl rfl (by decide +kernel)) (pi_tup (pe_ix ix_tup (pv 1) pe_int (fun _ _ => rfl))) (blkOk_by (own := [("_law_row", 4)]) (N := ["_law_feed_here", "_law_office_here", "_law_low_here", "_law_series", "_law_row", "_law_roads", "_law_road", "_law_one", "_law_other", "_law_bag", "_law_pages_here", "_law_k", "_law_name"]) (sc := defScope s_lknot) (by decide +kernel)) (fun _ _ _ _ _ => (pg_name (i := 4) sc_lknot.nd rfl (.inl rfl))) (fun _ _ _ _ _ => pts_nil) (fun _ _ _ _ _ => (pe_ix (show IxR _ (rIxT K) from ix_tup) (pv 4) pe_int (fun _ _ => rfl))))
  (pss_cons (ps_setLc (i := 5) (own := [("_law_road", 6)]) (g := (gName 6)) (by rfl) sc_lknot.nd rfl rfl (sw_true rfl rfl rfl (by decide +kernel)) (pi_tup (pe_ix ix_tup (pv 1) pe_int (fun _ _ => rfl))) (blkOk_by (own := [("_law_road", 6)]) (N := ["_law_feed_here", "_law_office_here", "_law_low_here", "_law_series", "_law_row", "_law_roads", "_law_road", "_law_one", "_law_other", "_law_bag", "_law_pages_here", "_law_k", "_law_name"]) (sc := defScope s_lknot) (by decide +kernel)) (fun _ _ _ _ _ => (pg_name (i := 6) sc_lknot.nd rfl (.inl rfl))) (fun _ _ _ _ _ => (pts_one (pt_cmpR op_ne (pe_ix (show IxR _ (rIxT K) from ix_tup) (pv 6) pe_int (fun _ _ => rfl)) pe_str (nomark _)))) (fun _ _ _ _ _ => (pv 6)))
  (pss_cons (ps_asg (pe_ix ix_list (pv 5) (pe_call G_ldraw hr (by rfl) T.m_ldraw F_ldraw.kp b_ldraw .nil pass0 (pa_cons (pv 0) (pa_cons (pe_callB call_len_seq (by rfl) T.len (by decide +kernel) (pa_cons (pv 5) pa_nil)) pa_nil))) (fun _ _ => rfl)) (pg_tup rfl (pgs_cons (pg_name (i := 7) sc_lknot.nd rfl (.inl rfl)) (pgs_cons (pg_name (i := 8) sc_lknot.nd rfl (.inl rfl)) pgs_nil))))
  (pss_cons (ps_set (i := 9) sc_lknot.nd rfl (.inl rfl) (pe_tup (pa_cons (pe_op op_add pe_int (pe_call G_ldraw hr (by rfl) T.m_ldraw F_ldraw.kp b_ldraw .nil pass0 (pa_cons (pv 0) (pa_cons pe_int pa_nil)))) (pa_cons pe_int (pa_cons pe_str pa_nil)))))
  (pss_cons (ps_set (i := 10) sc_lknot.nd rfl (.inl rfl) (pe_lst (pa_cons (pe_tup (pa_cons (pv 9) (pa_cons (pe_tup (pa_cons pe_str (pa_cons (pv 7) (pa_cons (pv 8) (pa_cons (pe_op op_add pe_int (pe_call G_ldraw hr (by rfl) T.m_ldraw F_ldraw.kp b_ldraw .nil pass0 (pa_cons (pv 0) (pa_cons pe_int pa_nil)))) pa_nil))))) pa_nil))) pa_nil)))
  (pss_cons (ps_for PassesOwn.never rfl (pi_range1 (by rfl) T.range (pa_cons pe_int pa_nil)) (pg_name (i := 11) sc_lknot.nd rfl (.inl rfl))
  (pss_cons (ps_set (i := 12) sc_lknot.nd rfl (.inl rfl) (pe_tup (pa_cons (pe_call G_ldraw hr (by rfl) T.m_ldraw F_ldraw.kp b_ldraw .nil pass0 (pa_cons (pv 0) (pa_cons pe_int pa_nil))) (pa_cons (pe_op op_add pe_int (pv 11)) (pa_cons pe_str pa_nil)))))
  (pss_one (ps_expr (pe_bm PySem.F.plainAttrs_list PySem.F.slot_list_append PySem.F.type_list_append mt_append (pv 10) (pa_cons (pe_tup (pa_cons (pv 12) (pa_cons (pe_tup (pa_cons pe_str (pa_cons (pv 9) (pa_cons (pe_call G_lruns hr (by rfl) T.m_lruns F_lruns.kp b_lruns .nil pass0 (pa_cons (pv 0) (pa_cons (pv 3) (pa_cons (pv 2) pa_nil)))) pa_nil)))) pa_nil))) pa_nil))))))
  (pss_cons (ps_asg (pe_ix ix_tup (pe_ix ix_tup (pv 1) pe_int (fun _ _ => rfl)) (pe_call G_ldraw hr (by rfl) T.m_ldraw F_ldraw.kp b_ldraw .nil pass0 (pa_cons (pv 0) (pa_cons (pe_callB call_len_seq (by rfl) T.len (by decide +kernel) (pa_cons (pe_ix ix_tup (pv 1) pe_int (fun _ _ => rfl)) pa_nil)) pa_nil))) (fun _ _ => rfl)) (pg_tup rfl (pgs_cons (pg_name (i := 7) sc_lknot.nd rfl (.inl rfl)) (pgs_cons (pg_name (i := 8) sc_lknot.nd rfl (.inl rfl)) pgs_nil))))
  (pss_cons (ps_expr (pe_bm PySem.F.plainAttrs_list PySem.F.slot_list_append PySem.F.type_list_append mt_append (pv 10) (pa_cons (pe_tup (pa_cons (pe_tup (pa_cons (pe_call G_ldraw hr (by rfl) T.m_ldraw F_ldraw.kp b_ldraw .nil pass0 (pa_cons (pv 0) (pa_cons pe_int pa_nil))) (pa_cons pe_int (pa_cons pe_str pa_nil)))) (pa_cons (pe_tup (pa_cons pe_str (pa_cons (pv 7) (pa_cons (pv 8) (pa_cons (pe_call G_lruns hr (by rfl) T.m_lruns F_lruns.kp b_lruns .nil pass0 (pa_cons (pv 0) (pa_cons (pv 3) (pa_cons (pv 2) pa_nil)))) pa_nil))))) pa_nil))) pa_nil)))
  (pss_one (ps_ret (pv 10))))))))))), ?_⟩
  obtain ⟨w', r', wp, rp, ho, hw, hrr, hws, hrd⟩ := id hof
  have wl := hws.len
  have rl := hrd.len
  have w0 := okE.w0
  have w8 := okE.w8
  have e16 := okE.e16
  refine ⟨_, rfl, o, _, _, _, rfl, rfl, SqT.of ho, rfl, w', rfl, ⟨_, SqT.of hw⟩, fun S hS => ?_⟩
  refine lc_tup (K := K) (a := w') (xs := wp.map V.ref) (fun i H' => Same H H' ∧ H' S = some (.lst (((ws.take i).map (·.1)).map V.str))) ⟨same_new hS _, upd_same⟩ (fun i H' _ h => SqT.of (h.1 _ _ hw)) ?_ ?_
  · rintro i y H1 hy ⟨S1, hS1⟩
    obtain ⟨u, hu, rfl⟩ : ∃ u, wp[i]? = some u ∧ y = V.ref u := by
      rw [List.getElem?_map] at hy
      cases e : wp[i]? with
      | none => rw [e] at hy; cases hy
      | some p => rw [e] at hy; exact ⟨p, rfl, (Option.some.inj hy).symm⟩
    obtain ⟨e, he1, he2⟩ := Wts.get hws hu
    obtain ⟨hi, ee⟩ := List.getElem?_eq_some_iff.mp he1
    refine ⟨rfl, _, rfl, u, _, _, _, rfl, rfl, SqT.of (S1 _ _ he2), rfl, _, hS1, ?_, same_mut S1 hS, ?_⟩
    · rw [List.length_map, List.length_map, List.length_take]
      exact Nat.lt_of_le_of_lt (show _ ≤ 100 by omega) (by decide)
    · rw [upd_same, List.take_succ_eq_append_getElem hi, List.map_append, List.map_append, ee]
      rfl
  rintro H1 ⟨S1, hS1⟩
  rw [List.length_map, wl, List.take_length] at hS1
  have hf1 := hf.same S1
  have neS := hf.ne hS
  have xl : (ws.map (·.1)).length = ws.length := List.length_map _
  generalize ws.map (·.1) = xs at *
  have B1 : But f H H1 := But.of_same S1
  refine ⟨_, rfl, o, _, _, _, rfl, rfl, SqT.of (S1 _ _ ho), rfl, r', rfl, ⟨_, SqT.of (S1 _ _ hrr)⟩, fun D hD => ?_⟩
  refine lc_tup (K := K) (a := r') (xs := rp.map V.ref) (fun i H' => ∃ qs : List Addr, Same H1 H' ∧ H' D = some (.lst (qs.map V.ref)) ∧ Rds H' qs ((E1.take i).filter fun e => !decide (e.1 = gNone))) ⟨[], same_new hD _, upd_same, .nil⟩ (fun i H' _ h => by obtain ⟨_, S, _⟩ := h; exact SqT.of ((S1.trans S) _ _ hrr)) ?_ ?_
  · rintro i y H3 hy ⟨qs, S3, hD3, rq⟩
    obtain ⟨u, hu, rfl⟩ : ∃ u, rp[i]? = some u ∧ y = V.ref u := by
      rw [List.getElem?_map] at hy
      cases e : rp[i]? with
      | none => rw [e] at hy; cases hy
      | some p => rw [e] at hy; exact ⟨p, rfl, (Option.some.inj hy).symm⟩
    obtain ⟨e, he1, he2⟩ := Rds.get hrd hu
    obtain ⟨hi, ee⟩ := List.getElem?_eq_some_iff.mp he1
    have ql := rq.len
    have he3 := (S1.trans S3) _ _ he2
    have fl : ((E1.take i).filter fun e => !decide (e.1 = gNone)).length ≤ i := Nat.le_trans (List.length_filter_le _ _) (List.length_take_le _ _)
    have more : (E1.take (i + 1)).filter (fun e => !decide (e.1 = gNone)) = (E1.take i).filter (fun e => !decide (e.1 = gNone)) ++ if (!decide (e.1 = gNone)) = true then [e] else [] := by
      rw [List.take_succ_eq_append_getElem hi, List.filter_append, ee]
      congr 1
      by_cases cz : e.1 = gNone <;> simp [cz]
    refine ⟨rfl, _, rfl, u, _, _, _, rfl, rfl, SqT.of he3, rfl, rfl, _, rfl, ?_⟩
    refine ite2 (fun cz => ?_) (fun cz => ?_)
    · have cz : (!decide (e.1 = gNone)) = true := by
        by_cases z : e.1 = gNone
        · rw [z] at cz
          simp [gNone] at cz
        · simp [z]
      rw [if_pos cz] at more
      refine ⟨_, rfl, _, hD3, ?_, qs ++ [u], same_mut S3 hD, ?_, ?_⟩
      · rw [List.length_map, ql]
        exact Nat.lt_of_le_of_lt (show _ ≤ 1000 by omega) (by decide)
      · rw [upd_same, List.map_append]
        rfl
      · rw [more]
        exact (rq.app (Rds.mk1 he3)).tk (Tk.put hD3)
    · have cz : ¬ (!decide (e.1 = gNone)) = true := by
        by_cases z : e.1 = gNone
        · simp [z]
        · exact (cz (by
            have : V.str e.1 ≠ V.str gNone := fun k => z (V.str.inj k)
            show (!decide (V.str e.1 = V.str gNone)) = true
            simp [this])).elim
      rw [if_neg cz, List.append_nil] at more
      exact ⟨qs, S3, hD3, by rw [more]; exact rq⟩
  rintro H2 ⟨qs, S2, hD2, rq⟩
  rw [List.length_map, rl, List.take_length] at rq
  obtain ⟨e0, he0, he0n⟩ := okE.road
  have fl0 : 0 < (E1.filter fun e => !decide (e.1 = gNone)).length := List.length_pos_of_mem (List.mem_filter.mpr ⟨he0, by simp [he0n]⟩)
  have fl1 : (E1.filter fun e => !decide (e.1 = gNone)).length ≤ E1.length := List.length_filter_le _ _
  have ql := rq.len
  have neD := hf1.ne hD
  have hf2 := hf1.same S2
  have B2 : But f H H2 := B1.trans (But.of_same S2)
  refine ⟨_, rfl, _, rfl, _, rfl, D, _, rfl, .inl (SqL.of hD2), f, c, _, n, rfl, hf2, by omega, by rw [List.length_map]; omega, by rw [List.length_map]; omega, fun d6 H6 d60 d61 hf6 b6 n6 => ?_⟩
  have rq6 := rq.tk (Tk.but hf2 b6)
  obtain ⟨pm, em, emm, pm1, pm2⟩ := pick_ed rq6 d60 d61
  refine ⟨D, _, _, _, rfl, rfl, SqL.of (b6 _ _ neD.1 hD2), pm1, ?_⟩
  refine ⟨pm, _, rfl, SqT.of pm2, rfl, _, _, rfl, _, _, rfl, rfl, ?_⟩
  have B6 := B2.trans b6
  have hS6 := b6 _ _ neS.1 (S2 _ _ hS1)
  refine ⟨_, rfl, f, c, 4, n + 1, rfl, hf6, by omega, by decide, by decide, fun d7 H7 d70 d71 hf7 b7 n7 => ⟨_, _, rfl, rfl, (show 3 ≤ sizeLine by decide), fun bg hbg => ?_⟩⟩
  have Nb := same_new hbg (.tup (nmV (1 + d7, 500, wB)))
  have hf8 := hf7.same Nb
  refine ⟨_, rfl, _, rfl, _, rfl, _, rfl, f, c, 30, n + 1 + 1, rfl, hf8, by omega, by decide, by decide, fun d9 H9 d90 d91 hf9 b9 n9 => ⟨_, _, rfl, rfl, (show 4 ≤ sizeLine by decide), fun t1 ht1 => ?_⟩⟩
  have N1 := same_new ht1 (.tup [.str wBag, .str em.1, .str em.2, .int (1 + d9)])
  refine ⟨(show 2 ≤ sizeLine by decide), fun p1 hp1 => ⟨(show 1 ≤ sizeLine by decide), fun PL hPL => ?_⟩⟩
  have N2 := same_new hp1 (.tup [.ref bg, .ref t1])
  have N3 := same_new hPL (.lst [.ref p1])
  have N13 := N1.trans (N2.trans N3)
  have fd10 := hf9.same N13
  have nePL := ((hf9.same N1).same N2).ne hPL
  have b69 : But f H6 _ := b7.trans ((But.of_same Nb).trans (b9.trans (But.of_same N13)))
  have B10 := B6.trans b69
  have PL0 : H PL = none := B6.backE hf6 (b7.backE hf7 ((But.of_same Nb).backE hf8 (b9.backE hf9 (N1.free (N2.free hPL)))))
  have hbg9 := N13 _ _ (Tk.but hf8 b9 _ _ (upd_same (H := H7) (a := bg) (o := .tup (nmV (1 + d7, 500, wB)))))
  have hS10 := b69 _ _ neS.1 hS6
  refine ⟨3, rfl, by decide, by decide, ?_⟩
  refine for_range (lo := 0) (n := 3) (fun i σ H' => ∃ (qs : List Addr) (gs : List Pg) (v4 v6 v11 v12 : Option V), σ = [some (.ref f), some (.ref o), some (.int low), some (.ref S), v4, some (.ref D), v6, some (.str em.1), some (.str em.2), some (.ref bg), some (.ref PL), v11, v12] ∧ Fe H' f c (n + 4 + 61 * i) ∧ But f H H' ∧ H' PL = some (.lst (qs.map V.ref)) ∧ H' S = some (.lst (xs.map V.str)) ∧ H' bg = some (.tup (nmV (1 + d7, 500, wB))) ∧ Pgs H' qs gs ∧ gs.map (fun g => g.1.2.1) = ([500, 501, 502, 503, 504] : List Int).take (i + 1) ∧ ∀ g ∈ gs, (0 ≤ g.1.1 ∧ g.1.1 ≤ 99 ∧ g.1.2.2 = wB) ∧ DdL E1 xs low g.2) ?_ ?_ ?_
  · refine ⟨[p1], [((1 + d7, 500, wB), .bag em.1 em.2 (1 + d9))], _, _, _, _, rfl, fd10.mono (by omega), B10, upd_same, hS10, hbg9, Pgs.mk1 ⟨bg, t1, N3 _ _ upd_same, hbg9, (N2.trans N3) _ _ upd_same⟩, rfl, fun g hg => ?_⟩
    rw [List.mem_singleton.mp hg]
    refine ⟨⟨?_, ?_, rfl⟩, (List.mem_filter.mp emm).1, ?_, ?_⟩
    · show 0 ≤ 1 + d7
      omega
    · show 1 + d7 ≤ 99
      omega
    · show 1 ≤ 1 + d9
      omega
    · show 1 + d9 ≤ 30
      omega
  · rintro i σ Ha hi ⟨qs, gs, v4, v6, v11, v12, rfl, hfa, Ba, hPa, hSa, hba, pga, num, oka⟩
    refine ⟨_, rfl, f, c, 6, _, rfl, hfa, by omega, by decide, by decide, fun e1 Hb e10 e11 hfb bb nb => ⟨_, rfl, _, _, rfl, rfl, (show 3 ≤ sizeLine by decide), fun nm hnm => ?_⟩⟩
    have Nn := same_new hnm (.tup (nmV (e1, 501 + (0 + (i : Int)), wB)))
    have hfn := hfb.same Nn
    have Bn := bb.trans (But.of_same Nn (f := f))
    have hPn := Bn _ _ nePL.1 hPa
    refine ⟨_, rfl, .inl ⟨rfl, _, SqL.of hPn⟩, _, rfl, _, rfl, _, rfl, _, rfl, _, rfl, f, c, S, low, _, xs, rfl, hfn, by omega, lo0, lo1, Bn _ _ neS.1 hSa, neS.1, by omega, by omega, wsl, fun u rs Hc hfc bc nu rt rlen rok => ⟨(show 3 ≤ sizeLine by decide), fun t ht => ⟨(show 2 ≤ sizeLine by decide), fun p hp => ?_⟩⟩⟩
    have Mt := same_new ht (.tup [.str wRead, .ref bg, .ref u])
    have Mp := same_new hp (.tup [.ref nm, .ref t])
    have Mtp := Mt.trans Mp
    have tka : Tk Ha Hc := (Tk.but hfa Bn).trans (Tk.but hfn bc)
    have hPc := Mtp _ _ (bc _ _ nePL.1 hPn)
    have gl : gs.length = i + 1 := by
      have z := congrArg List.length num
      rw [List.length_map, List.length_take] at z
      have z5 : ([500, 501, 502, 503, 504] : List Int).length = 5 := rfl
      omega
    have gq := pga.len
    refine ⟨PL, _, _, rfl, rfl, hPc, ?_, ?_⟩
    · rw [List.length_map, gq]
      exact Nat.lt_of_le_of_lt (show _ ≤ 100 by omega) (by decide)
    have tP := Tk.put (o := .lst (qs.map V.ref ++ [.ref p])) hPc
    refine ⟨qs ++ [p], gs ++ [((e1, 501 + (0 + (i : Int)), wB), .rd (1 + d7, 500, wB) rs)], _, _, _, _, rfl, ((hfc.same Mtp).upd nePL).mono (by omega), ((Ba.trans (Bn.trans (bc.trans (But.of_same Mtp)))).mut PL0), ?_, ?_, ?_, ?_, ?_, fun g hg => ?_⟩
    · rw [upd_same, List.map_append]
      rfl
    · refine (upd_ne (fun z => ?_)).trans (Mtp _ _ (bc _ _ neS.1 (Bn _ _ neS.1 hSa)))
      have z1 := N13 _ _ (b9 _ _ neS.1 (Nb _ _ (b7 _ _ neS.1 hS6)))
      have z2 := (N1.trans N2) _ _ (b9 _ _ neS.1 (Nb _ _ (b7 _ _ neS.1 hS6)))
      rw [z, hPL] at z2
      cases z2
    · exact tP _ _ (Mtp _ _ (tka _ _ hba))
    · exact (((pga.tk tka).tk (Tk.same Mtp)).app (Pgs.mk1 (e := ((e1, 501 + (0 + (i : Int)), wB), .rd (1 + d7, 500, wB) rs)) ⟨nm, t, upd_same, Mtp _ _ (Tk.but hfn bc _ _ upd_same), bg, u, Mp _ _ upd_same, Mtp _ _ (tka _ _ hba), rt.tk (Tk.same Mtp)⟩)).tk tP
    · rw [List.map_append, num]
      rcases (show i = 0 ∨ i = 1 ∨ i = 2 by omega) with rfl | rfl | rfl <;> rfl
    · rcases List.mem_append.mp hg with hg | hg
      · exact oka g hg
      · rw [List.mem_singleton.mp hg]
        refine ⟨⟨e10, ?_, rfl⟩, rok⟩
        show e1 ≤ 99
        omega
  · rintro σ Ha ⟨qs, gs, v4, v6, v11, v12, rfl, hfa, Ba, hPa, hSa, hba, pga, num, oka⟩
    have tk0 := Tk.but hf Ba
    refine ⟨_, rfl, o, _, _, _, rfl, rfl, SqT.of (tk0 _ _ ho), rfl, _, rfl, _, rfl, o, _, _, _, rfl, rfl, SqT.of (tk0 _ _ ho), rfl, r', _, rfl, .inr (SqT.of (tk0 _ _ hrr)), f, c, _, _, rfl, hfa, by omega, ?_, ?_, fun e2 Hb e20 e21 hfb bb nb => ?_⟩
    · rw [List.length_map, rl]
      have := List.length_pos_of_mem he0
      omega
    · rw [List.length_map]
      omega
    have tkb := tk0.trans (Tk.but hfa bb)
    obtain ⟨pm', em', emm', pm1', pm2'⟩ := pick_ed (hrd.tk tkb) e20 e21
    refine ⟨r', _, _, _, rfl, rfl, SqT.of (tkb _ _ hrr), pm1', ?_⟩
    refine ⟨pm', _, rfl, SqT.of pm2', rfl, _, _, rfl, _, _, rfl, rfl, ?_⟩
    have hPb := bb _ _ nePL.1 hPa
    refine ⟨_, rfl, .inl ⟨rfl, _, SqL.of hPb⟩, _, rfl, f, c, 6, _, rfl, hfb, by omega, by decide, by decide, fun e3 Hc e30 e31 hfc bc nc => ⟨(show 3 ≤ sizeLine by decide), fun nm hnm => ?_⟩⟩
    have Nn := same_new hnm (.tup (nmV (e3, 504, wB)))
    have hfn := hfc.same Nn
    have Bn := bc.trans (But.of_same Nn (f := f))
    refine ⟨_, rfl, _, rfl, _, rfl, _, rfl, _, rfl, f, c, S, low, _, xs, rfl, hfn, by omega, lo0, lo1, (bb.trans Bn) _ _ neS.1 hSa, neS.1, by omega, by omega, wsl, fun u rs Hd hfd bd nu rt rlen rok => ⟨(show 4 ≤ sizeLine by decide), fun t ht => ⟨(show 2 ≤ sizeLine by decide), fun p hp => ?_⟩⟩⟩
    have Mt := same_new ht (.tup [.str wMove, .str em'.1, .str em'.2, .ref u])
    have Mp := same_new hp (.tup [.ref nm, .ref t])
    have Mtp := Mt.trans Mp
    have bad := bb.trans (Bn.trans bd)
    have tka : Tk Ha Hd := Tk.but hfa bad
    have hPd := Mtp _ _ (bad _ _ nePL.1 hPa)
    have gl : gs.length = 4 := by
      have z := congrArg List.length num
      rw [List.length_map] at z
      exact z
    have gq := pga.len
    refine ⟨PL, _, _, rfl, rfl, hPd, ?_, ?_⟩
    · rw [List.length_map, gq, gl]
      decide
    have tP := Tk.put (o := .lst (qs.map V.ref ++ [.ref p])) hPd
    have all : ∀ g ∈ gs ++ [((e3, 504, wB), Dd.mv em'.1 em'.2 rs)], (0 ≤ g.1.1 ∧ g.1.1 ≤ 99 ∧ g.1.2.2 = wB) ∧ DdL E1 xs low g.2 := fun g hg => by
      rcases List.mem_append.mp hg with hg | hg
      · exact oka g hg
      · rw [List.mem_singleton.mp hg]
        refine ⟨⟨e30, ?_, rfl⟩, emm', rok⟩
        show e3 ≤ 99
        omega
    refine ⟨_, rfl, ?_⟩
    refine q PL (qs ++ [p]) (gs ++ [((e3, 504, wB), .mv em'.1 em'.2 rs)]) _ (((hfd.same Mtp).upd nePL).mono (by omega)) ((Ba.trans (bad.trans (But.of_same Mtp))).mut PL0) PL0 ?_ ?_ ?_ (fun g hg => (all g hg).1) fun g hg => (all g hg).2
    · rw [upd_same, List.map_append]
      rfl
    · exact (((pga.tk tka).tk (Tk.same Mtp)).app (Pgs.mk1 (e := ((e3, 504, wB), .mv em'.1 em'.2 rs)) ⟨nm, t, upd_same, Mtp _ _ (Tk.but hfn bd _ _ upd_same), u, Mp _ _ upd_same, rt.tk (Tk.same Mtp)⟩)).tk tP
    · rw [List.map_append, num]
      rfl

theorem ok_loffice (F : Fun K "_law_office" "_law_office" s_loffice f_loffice d_loffice) (T : Txt mg f_many_in f_named_by_voids f_counted_bags f_standing_of f_pages_that_are f_counted_pages f_until f_of_series f_brought f_traffic f_balance f_moved f_by_days f_lfeed f_ldraw f_lfar f_lwords f_loffice f_lruns f_lnames f_ldeed f_lpages f_llow f_lknot f_lbegun f_lbook f_lsorts f_lsame f_lmany f_lbalance f_ldays f_lright f_law)
    (F_lwords : Fun K "_law_words" "_law_words" s_lwords f_lwords d_lwords) (b_lwords : Binds K d_lwords ["_law_feed_here", "_law_many_here"] []) (G_lwords : FnOk P w K mg base CX0 (2) f_lwords d_lwords ["_law_feed_here", "_law_many_here"] spWordsL)
    (F_ldraw : Fun K "_law_draw" "_law_draw" s_ldraw f_ldraw d_ldraw) (b_ldraw : Binds K d_ldraw ["_law_feed_here", "_law_many_here"] []) (G_ldraw : FnOk P w K mg base CX0 (2) f_ldraw d_ldraw ["_law_feed_here", "_law_many_here"] spDrawE) :
    FnOk P w K mg base CX0 (3) f_loffice d_loffice ["_law_feed_here"] spOfficeR := by
  refine F.ok sc_loffice (fun vs H Q E h => ?_) (fun cdv A outer s H vs Q E hr h => ?_)

  · obtain ⟨f, c, n, rfl, _⟩ := h
    rfl
  obtain ⟨f, c, n, rfl, hf, hn, q⟩ := h
  refine ⟨_, (pss_cons (ps_set (i := 1) sc_loffice.nd rfl (.inl rfl) (pe_callB (cr_sortedD hr) (by rfl) T.sorted (by decide +kernel) (pa_cons (pe_call G_lwords hr (by rfl) T.m_lwords F_lwords.kp b_lwords .nil pass0 (pa_cons (pv 0) (pa_cons (pe_op op_add pe_int (pe_call G_ldraw hr (by rfl) T.m_ldraw F_ldraw.kp b_ldraw .nil pass0 (pa_cons (pv 0) (pa_cons pe_int pa_nil)))) pa_nil))) pa_nil)))
  (pss_cons (ps_setLc (i := 2) (own := [("_law_one", 3)]) (g := (gName 3)) (by rfl) sc_loffice.nd rfl rfl (sw_true rfl rfl rfl (by decide +kernel)) (pi_list (pv 1)) (blkOk_by (own := [("_law_one", 3)]) (N := ["_law_feed_here", "_law_series", "_law_worths", "_law_one", "_law_places", "_law_roads", "_law_k", "_law_other"]) (sc := defScope s_loffice) (by decide +kernel)) (fun _ _ _ _ _ => (pg_name (i := 3) sc_loffice.nd rfl (.inl rfl))) (fun _ _ _ _ _ => pts_nil) (fun _ _ _ _ _ => (pe_tup (pa_cons (pv 3) (pa_cons (pe_op op_add pe_int (pe_call G_ldraw hr (by rfl) T.m_ldraw F_ldraw.kp b_ldraw .nil pass0 (pa_cons (pv 0) (pa_cons (pe_ix (show IxR _ (rIxL K) from ix_list) (pe_lst (pa_cons pe_int (pa_cons (pe_op op_pow pe_int pe_int) pa_nil))) (pe_call G_ldraw hr (by rfl) T.m_ldraw F_ldraw.kp b_ldraw .nil pass0 (pa_cons (pv 0) (pa_cons pe_int pa_nil))) (fun _ _ => rfl)) pa_nil)))) pa_nil)))))
  (pss_cons (ps_set (i := 4) sc_loffice.nd rfl (.inl rfl) (pe_call G_lwords hr (by rfl) T.m_lwords F_lwords.kp b_lwords .nil pass0 (pa_cons (pv 0) (pa_cons (pe_op op_add (pe_op op_add pe_int (pe_call G_ldraw hr (by rfl) T.m_ldraw F_ldraw.kp b_ldraw .nil pass0 (pa_cons (pv 0) (pa_cons pe_int pa_nil)))) (pe_op op_mul pe_int (pe_callTy call_int1 (by rfl) T.int (by decide +kernel) (pa_cons (pe_cmpR op_eq (pe_call G_ldraw hr (by rfl) T.m_ldraw F_ldraw.kp b_ldraw .nil pass0 (pa_cons (pv 0) (pa_cons pe_int pa_nil))) pe_int (nomark _)) pa_nil)))) pa_nil))))
  (pss_cons (ps_set (i := 5) sc_loffice.nd rfl (.inl rfl) (pe_dispT (un_of hr) (pps_cons (pe_tup (pa_cons pe_str (pa_cons (pe_ix ix_list (pv 4) pe_int (fun _ _ => rfl)) pa_nil))) pe_bl (pps_cons (pe_tup (pa_cons (pe_ix ix_list (pv 4) pe_int (fun _ _ => rfl)) (pa_cons (pe_ix ix_list (pv 4) pe_int (fun _ _ => rfl)) pa_nil))) pe_bl pps_nil)) (by rfl) (by rfl) (fun z => by cases z) (by decide)))
  (pss_cons (ps_for PassesOwn.never rfl (pi_range1 (by rfl) T.range (pa_cons (pe_call G_ldraw hr (by rfl) T.m_ldraw F_ldraw.kp b_ldraw .nil pass0 (pa_cons (pv 0) (pa_cons pe_int pa_nil))) pa_nil)) (pg_name (i := 6) sc_loffice.nd rfl (.inl rfl))
  (pss_cons (ps_set (i := 3) sc_loffice.nd rfl (.inl rfl) (pe_ix ix_list (pe_op op_cat (pe_lst (pa_cons pe_str pa_nil)) (pv 4)) (pe_call G_ldraw hr (by rfl) T.m_ldraw F_ldraw.kp b_ldraw .nil pass0 (pa_cons (pv 0) (pa_cons (pe_op op_add (pe_callB call_len_seq (by rfl) T.len (by decide +kernel) (pa_cons (pv 4) pa_nil)) pe_int) pa_nil))) (fun _ _ => rfl)))
  (pss_cons (ps_set (i := 7) sc_loffice.nd rfl (.inl rfl) (pe_ix ix_list (pv 4) (pe_call G_ldraw hr (by rfl) T.m_ldraw F_ldraw.kp b_ldraw .nil pass0 (pa_cons (pv 0) (pa_cons (pe_callB call_len_seq (by rfl) T.len (by decide +kernel) (pa_cons (pv 4) pa_nil)) pa_nil))) (fun _ _ => rfl)))
  (pss_one (ps_if (pt_cmpR op_ne (pv 3) (pv 7) (nomark _))
  (pss_one (ps_dput (hu_of hr) (pv 5) (pe_tup (pa_cons (pv 3) (pa_cons (pv 7) pa_nil))) pe_bl rfl))
  pss_nil)))))
  (C8.pss_cut (ps_if (pt_cmpR op_eq (pe_call G_ldraw hr (by rfl) T.m_ldraw F_ldraw.kp b_ldraw .nil pass0 (pa_cons (pv 0) (pa_cons pe_int pa_nil))) pe_int (nomark _))
  (pss_one (ps_expr (pe_bm PySem.F.plainAttrs_dict PySem.F.slot_dict_pop PySem.F.type_dict_pop (mt_popT1 (hu_of hr)) (pv 5) (pa_cons (pe_tup (pa_cons pe_str (pa_cons (pe_ix ix_list (pv 4) pe_int (fun _ _ => rfl)) pa_nil))) pa_nil))))
  pss_nil)
  (pss_one (ps_ret (pe_tup (pa_cons (pe_callTy call_tuple_of (by rfl) T.tuple (by decide +kernel) (pa_cons (pv 2) pa_nil)) (pa_cons (pe_callTy call_tuple_of (by rfl) T.tuple (by decide +kernel) (pa_cons (pe_callB (cr_sortDT hr rfl) (by rfl) T.sorted (by decide +kernel) (pa_cons (pv 5) pa_nil)) pa_nil)) pa_nil))))))))))), ?_⟩
  refine ⟨_, rfl, _, rfl, f, c, 4, n, rfl, hf, by omega, by decide, by decide, fun d1 H1 d10 d11 hf1 b1 n1 => ⟨_, _, rfl, rfl, ?_⟩⟩
  refine ⟨f, c, (1 + d1).toNat, _, ?_, hf1, by omega, by omega, fun l1 xs1 H2 hf2 b2 nl1 hl1 xl1 xok1 xnd1 => ?_⟩
  · rw [show (((1 + d1).toNat : Nat) : Int) = 1 + d1 by omega]
    rfl
  have sdp : DpAll K H2 (xs1.map V.str) (xs1.map .str) := by
    clear hl1 xl1 xok1 xnd1
    induction xs1 with
    | nil => exact .nil
    | cons x xs ih => exact .cons (.str x) ih
  have al : PySem.W.AllAlike (xs1.map PyData.str) := fun d hd e he => by
    obtain ⟨a, _, rfl⟩ := List.mem_map.mp hd
    obtain ⟨b, _, rfl⟩ := List.mem_map.mp he
    simp [PySem.W.alike]
  have so : PySem.W.Sortable (xs1.map PyData.str) := .inr fun d hd => by
    obtain ⟨a, _, rfl⟩ := List.mem_map.mp hd
    exact ⟨nofun, nofun⟩
  refine ⟨l1, _, _, rfl, SqL.of hl1, sdp, al, so, ?_, fun l2 nl2 => ?_⟩
  · intro d hd
    obtain ⟨a, _, rfl⟩ := List.mem_map.mp hd
    simp [PyData.depth]
  obtain ⟨ys1, ey, ly, iy, ysl⟩ := sort_strsL xs1 xnd1
  rw [ey]
  have N2 := same_new nl2 (.lst (ys1.map V.str))
  have hf3 := hf2.same N2
  have hl2 : upd H2 l2 (.lst (ys1.map V.str)) l2 = some (.lst (ys1.map V.str)) := upd_same
  have B3 : But f H (upd H2 l2 (.lst (ys1.map V.str))) := b1.trans (b2.trans (But.of_same N2))
  have ne2 := hf2.ne nl2
  generalize hH3 : upd H2 l2 (.lst (ys1.map V.str)) = H3 at *
  clear hH3 N2 hl1 sdp al so ey
  have yl : ys1.length ≤ 4 ∧ 0 < ys1.length := by omega
  have yok : ∀ y ∈ ys1, NmOk y := fun y hy => (xok1 y (iy y hy)).1
  refine ⟨_, rfl, l2, rfl, ⟨_, SqL.of hl2⟩, fun D hD => ?_⟩
  have neD := hf3.ne hD
  refine lc_list (K := K) (a := l2) (xs := ys1.map V.str) (fun i H' => ∃ (ps : List Addr) (ws : List Wt), Fe H' f c (n + 5 + 2 * i) ∧ But f H3 H' ∧ H' D = some (.lst (ps.map V.ref)) ∧ Wts H' ps ws ∧ ws.length = i ∧ (∀ w ∈ ws, NmOk w.1) ∧ ws.map (·.1) = ys1.take i) ⟨[], [], (hf3.new hD).mono (by omega), But.new hD, upd_same, .nil, rfl, fun _ z => (nomatch z), by rw [List.take_zero]; rfl⟩ (fun i H' _ h => by obtain ⟨_, _, _, b, _⟩ := h; exact SqL.of (b _ _ ne2.1 hl2)) ?_ ?_
  · rintro i v H4 hv ⟨ps, ws, hf4, b4, hD4, wt4, wl4, wk4, wm4⟩
    obtain ⟨s, hs, rfl⟩ : ∃ s, (ys1)[i]? = some s ∧ v = V.str s := by
      rw [List.getElem?_map] at hv
      cases e' : (ys1)[i]? with
      | none => rw [e'] at hv; cases hv
      | some p => rw [e'] at hv; exact ⟨p, rfl, (Option.some.inj hv).symm⟩
    obtain ⟨hi, es0⟩ := List.getElem?_eq_some_iff.mp hs
    refine ⟨rfl, _, rfl, _, rfl, _, _, rfl, rfl, ⟨by decide, by decide, by decide⟩, (show 2 ≤ sizeLine by decide), fun lo nlo => ?_⟩
    have NL := same_new nlo (.lst [V.int 9, .int (10 ^ (6 : Int).toNat)])
    have hlo : upd H4 lo (.lst [V.int 9, .int (10 ^ (6 : Int).toNat)]) lo = some (.lst [V.int 9, .int (10 ^ (6 : Int).toNat)]) := upd_same
    have nelo := hf4.ne nlo
    refine ⟨_, rfl, f, c, 2, _, rfl, hf4.same NL, by omega, by decide, by decide, fun e H5 e0 e1 hf5 b5 n5 => ?_⟩
    obtain ⟨kk, k0, k1, ke⟩ := two_of e0 e1
    refine ⟨lo, _, _, _, rfl, rfl, SqL.of (b5 _ _ nelo.1 hlo), ke, f, c, kk, _, rfl, hf5, by omega, by omega, by omega, fun d H6 d0 d2 hf6 b6 n6 => ⟨_, _, rfl, rfl, (show 2 ≤ sizeLine by decide), fun T nT => ?_⟩⟩
    have B6 : But f H4 H6 := (But.of_same NL).trans (b5.trans b6)
    have NT := same_new nT (.tup [.str s, .int (1 + d)])
    have tk : Tk H4 (upd H6 T (.tup [.str s, .int (1 + d)])) := (Tk.but hf4 B6).trans (Tk.same NT)
    have hD7 := NT _ _ (B6 _ _ neD.1 hD4)
    refine ⟨_, hD7, ?_, ps ++ [T], ws ++ [(s, 1 + d)], ((hf6.same NT).upd neD).mono (by omega), (b4.trans (B6.trans (But.of_same NT))).mut hD, ?_, ?_, ?_, ?_, ?_⟩
    · rw [List.length_map, Wts.len wt4, wl4]
      exact Nat.lt_of_lt_of_le (show i < 100 by omega) (by decide)
    · rw [upd_same, List.map_append]
      rfl
    · exact (Wts.tk (tk.trans (tkmut hD7)) wt4).app1 (tkmut hD7 _ _ upd_same)
    · rw [List.length_append, List.length_singleton, wl4]
    · intro w hw
      rcases List.mem_append.mp hw with hw | hw
      · exact wk4 w hw
      · rw [List.mem_singleton.mp hw]
        exact yok s (List.mem_of_getElem? hs)
    · rw [List.map_append, wm4, List.take_succ_eq_append_getElem hi, es0]
      rfl
  rintro H4 ⟨ps, ws, hf4, b4, hD4, wt4, wl4, wk4, wm4⟩
  rw [List.length_map] at wl4 hf4 wm4
  rw [List.take_length] at wm4
  have B4 := B3.trans b4
  have hf4' : Fe H4 f c (n + 13) := hf4.mono (by omega)
  refine ⟨_, rfl, _, rfl, f, c, 4, _, rfl, hf4', by omega, by decide, by decide, fun d2 H5 d20 d21 hf5 b5 n5 => ⟨_, _, rfl, rfl, ?_⟩⟩
  refine ⟨_, rfl, f, c, 8, _, rfl, hf5, by omega, by decide, by decide, fun d3 H6 d30 d31 hf6 b6 n6 => ⟨rfl, .inr ⟨_, rfl, ?_⟩⟩⟩
  obtain ⟨z, z0, z1, ze⟩ : ∃ z : Int, 0 ≤ z ∧ z ≤ 1 ∧ (if decide (V.int d3 = V.int 0) = true then (1 : Int) else 0) = z := by
    by_cases cz : decide (V.int d3 = V.int 0) = true
    · exact ⟨1, by decide, by decide, by rw [if_pos cz]⟩
    · exact ⟨0, by decide, by decide, by rw [if_neg cz]⟩
  rw [ze]
  refine ⟨_, _, rfl, rfl, .inl ⟨by decide, by decide⟩, _, _, rfl, rfl, ?_⟩
  refine ⟨f, c, (2 + d2 + 3 * z).toNat, _, ?_, hf6, by omega, by omega, fun l3 xs H7 hf7 b7 nl3 hl3 xl xok xnd3 => ?_⟩
  · rw [show (((2 + d2 + 3 * z).toNat : Nat) : Int) = 2 + d2 + 3 * z by omega]
    rfl
  obtain ⟨x0, x1, xr, rfl⟩ : ∃ x0 x1 xr, xs = x0 :: x1 :: xr := by
    match xs, (show 2 ≤ xs.length by omega) with
    | x0 :: x1 :: xr, _ => exact ⟨x0, x1, xr, rfl⟩
  have xl8 : (x0 :: x1 :: xr).length ≤ 8 := by omega
  have x01 : x0 ≠ x1 := fun z => (List.nodup_cons.mp xnd3).1 (z ▸ List.mem_cons_self)
  have B7 := B4.trans (b5.trans (b6.trans b7))
  have wt7 := Wts.tk (Tk.but hf4' (b5.trans (b6.trans b7))) wt4
  have hD7 := (b5.trans (b6.trans b7)) _ _ neD.1 hD4
  have hf7' : Fe H7 f c (n + 20) := hf7.mono (by omega)
  have ne3 : l3 ≠ f ∧ l3 ≠ c := hf6.ne nl3
  have x0k := xok x0 List.mem_cons_self
  have x1k := xok x1 (List.mem_cons_of_mem _ List.mem_cons_self)
  clear hf7 hf6 hf5 hf4 hf4' b5 b6 b7 b4 n5 n6 xl
  refine fun R nR => ?_
  have N8 := same_new nR (.dT [])
  have neR := hf7'.ne nR
  have H0R : H R = none := B7.backE hf7' nR
  have ix0' : atI ((x0 :: x1 :: xr).map V.str) 0 = some (.str x0) := ix0 _ _
  have ix1' : atI ((x0 :: x1 :: xr).map V.str) 1 = some (.str x1) := ix1 _ _ _
  have hl8 := N8 _ _ hl3
  refine ⟨_, rfl, l3, _, _, _, rfl, rfl, SqL.of hl8, ix0', (show 2 ≤ sizeLine by decide), fun T1 nT1 => ?_⟩
  have N9 := same_new nT1 (.tup [.str (Str.ofString "none"), .str x0])
  refine ⟨_, rfl, l3, _, _, _, rfl, rfl, SqL.of (N9 _ _ hl8), ix0', _, rfl, l3, _, _, _, rfl, rfl, SqL.of (N9 _ _ hl8), ix1', (show 2 ≤ sizeLine by decide), fun T2 nT2 => ?_⟩
  have N10 := same_new nT2 (.tup [.str x0, .str x1])
  have N810 := N8.trans (N9.trans N10)
  have hR10 : upd (upd (upd H7 R (.dT [])) T1 (.tup [.str (Str.ofString "none"), .str x0])) T2 (.tup [.str x0, .str x1]) R = some (.dT []) := N10 _ _ (N9 _ _ upd_same)
  refine ⟨hR10, [(edK (gNone, x0), T1, .bl true), (edK (x0, x1), T2, .bl true)], rfl, ?_, (show 2 ≤ 15 by decide), ?_⟩
  · intro x hx
    simp only [List.mem_cons, List.not_mem_nil, or_false] at hx
    rcases hx with rfl | rfl
    · exact N10 _ _ upd_same
    · exact upd_same
  have hl10 := N810 _ _ hl3
  have hD10 := N810 _ _ hD7
  have wt10 := Wts.tk (Tk.same N810) wt7
  have hf10 := hf7'.same N810
  have B10 := B7.trans (But.of_same N810)
  generalize hH10 : upd (upd (upd H7 R (.dT [])) T1 (.tup [.str (Str.ofString "none"), .str x0])) T2 (.tup [.str x0, .str x1]) = H10 at *
  have tkR : ∀ {Hx : Hp} {kv : List (List Key × V)} {o : HO}, Hx R = some (.dT kv) → Tk Hx (upd Hx R o) := fun h a ys e => (upd_ne (ne_of e h fun z => nomatch z)).trans e
  have keep : ∀ {Hx : Hp} {kv : List (List Key × V)} {o : HO} {a : Addr} {xs : List V}, Hx R = some (.dT kv) → Hx a = some (.lst xs) → upd Hx R o a = some (.lst xs) := fun h e => (upd_ne (ne_of e h fun z => nomatch z)).trans e
  have kv0 : KeyL edK (putAll [] [(edK (gNone, x0), T1, .bl true), (edK (x0, x1), T2, .bl true)]) [(gNone, x0), (x0, x1)] := by
    have z1 : KeyL edK (putK [] (edK (gNone, x0)) (.bl true)) [(gNone, x0)] := rfl
    have z2 := KeyL.put (fun a b => edK_inj) z1 (x0, x1) (.bl true)
    rw [if_neg (fun k => x0k.2 (by
      have e := List.mem_singleton.mp k
      exact congrArg Prod.fst e))] at z2
    exact z2
  refine ⟨_, rfl, f, c, 13, _, rfl, hf10.upd neR, by omega, by decide, by decide, fun d4 H11 d40 d41 hf11 b11 n11 => ⟨d4, rfl, by omega, by omega, ?_⟩⟩
  have hR11 := b11 _ _ neR.1 (show upd H10 R _ R = _ from upd_same)
  refine for_range (lo := 0) (n := d4.toNat) (fun i σ H' => ∃ (es : List Ed) (kvs : List (List Key × V)) (v3 v6 v7 : Option V), σ = [some (.ref f), some (.ref l2), some (.ref D), v3, some (.ref l3), some (.ref R), v6, v7] ∧ Fe H' f c (n + 21 + 2 * i) ∧ But f H H' ∧
    H' R = some (.dT kvs) ∧ KeyL edK kvs es ∧ es.length ≤ 2 + i ∧ (gNone, x0) ∈ es ∧ (x0, x1) ∈ es ∧ (∀ e ∈ es, NmOk e.1 ∧ NmOk e.2 ∧ e.1 ≠ e.2) ∧ H' D = some (.lst (ps.map V.ref)) ∧ H' l3 = some (.lst ((x0 :: x1 :: xr).map V.str)) ∧ Wts H' ps ws) ?_ ?_ ?_
  · refine ⟨_, _, none, none, none, rfl, hf11.mono (by omega), (B10.mut H0R).trans b11, hR11, kv0, Nat.le_refl _, List.mem_cons_self, List.mem_cons_of_mem _ List.mem_cons_self, ?_, b11 _ _ neD.1 (keep hR10 hD10), b11 _ _ ne3.1 (keep hR10 hl10), Wts.tk ((tkR hR10).trans (Tk.but (hf10.upd neR) b11)) wt10⟩
    intro e he
    simp only [List.mem_cons, List.not_mem_nil, or_false] at he
    rcases he with rfl | rfl
    · exact ⟨gn_ok, x0k.1, fun z => x0k.2 z.symm⟩
    · exact ⟨x0k.1, x1k.1, x01⟩
  · rintro i σ H12 hi ⟨es, kvs, v3, v6, v7, rfl, hf12, B12, hR12, kl, el, m1, m2, eok, hD12, hl12, wt12⟩
    have il : i ≤ 12 := by omega
    refine ⟨(show 1 ≤ sizeLine by decide), fun la nla => ?_⟩
    have N13 := same_new nla (.lst [.str (Str.ofString "none")])
    refine ⟨_, rfl, la, l3, _, _, rfl, rfl, upd_same, N13 _ _ hl12, ?_, fun lb nlb => ?_⟩
    · show 1 + ((x0 :: x1 :: xr).map V.str).length ≤ sizeLine
      rw [List.length_map]
      exact Nat.le_trans (show _ ≤ 100 by omega) (by decide)
    have N14 := same_new nlb (.lst ([.str (Str.ofString "none")] ++ (x0 :: x1 :: xr).map V.str))
    have N1314 := N13.trans N14
    have hlb : upd (upd H12 la (.lst [.str (Str.ofString "none")])) lb (.lst ([.str (Str.ofString "none")] ++ (x0 :: x1 :: xr).map V.str)) lb = some (.lst ([.str (Str.ofString "none")] ++ (x0 :: x1 :: xr).map V.str)) := upd_same
    have nelb := (hf12.same N13).ne nlb
    have ll : ((x0 :: x1 :: xr).map V.str).length = (x0 :: x1 :: xr).length := List.length_map _
    have lp : 2 ≤ ((x0 :: x1 :: xr).map V.str).length := by
      rw [ll, List.length_cons, List.length_cons]
      omega
    refine ⟨_, rfl, _, rfl, l3, _, rfl, .inl (SqL.of (N1314 _ _ hl12)), _, _, rfl, rfl, f, c, _, _, rfl, hf12.same N1314, by omega, by omega, by omega, fun d5 H15 d50 d51 hf15 b15 n15 => ?_⟩
    obtain ⟨v, ve, vm⟩ := atI_some2 (xs := [V.str (Str.ofString "none")] ++ (x0 :: x1 :: xr).map V.str) d50 (by rw [List.length_append]; show d5 < ((1 + ((x0 :: x1 :: xr).map V.str).length : Nat) : Int); omega)
    obtain ⟨a1, rfl, a1k⟩ : ∃ a1, v = .str a1 ∧ NmOk a1 := by
      rcases List.mem_append.mp vm with k | k
      · exact ⟨gNone, List.mem_singleton.mp k, gn_ok⟩
      · obtain ⟨y, hy, rfl⟩ := List.mem_map.mp k
        exact ⟨y, rfl, (xok y hy).1⟩
    refine ⟨lb, _, _, _, rfl, rfl, SqL.of (b15 _ _ nelb.1 hlb), ve, ?_⟩
    have B15 : But f H12 H15 := (But.of_same N1314).trans b15
    have hl15 := B15 _ _ ne3.1 hl12
    refine ⟨_, rfl, _, rfl, _, rfl, l3, _, rfl, .inl (SqL.of hl15), f, c, _, _, rfl, hf15, by omega, by omega, by omega, fun d6 H16 d60 d61 hf16 b16 n16 => ?_⟩
    obtain ⟨u, ue, um⟩ := atI_some2 (xs := (x0 :: x1 :: xr).map V.str) d60 d61
    obtain ⟨a2, ha2, rfl⟩ := List.mem_map.mp um
    have B16 : But f H12 H16 := B15.trans b16
    have hl16 := B16 _ _ ne3.1 hl12
    have hR16 := B16 _ _ neR.1 hR12
    refine ⟨l3, _, _, _, rfl, rfl, SqL.of hl16, ue, ?_⟩
    refine ⟨_, rfl, _, rfl, rfl, _, rfl, ?_⟩
    refine ite2 (fun c1 => ?_) (fun c1 => ?_)
    · refine ⟨_, rfl, _, rfl, _, rfl, (show 2 ≤ sizeLine by decide), fun T3 nT3 => ?_⟩
      have N17 := same_new nT3 (.tup [.str a1, .str a2])
      refine ⟨R, _, rfl, DPut.t (k := edK (a1, a2)) (N17 _ _ hR16) upd_same (by rw [kl.len]; exact Nat.lt_of_le_of_lt (show _ ≤ 100 by omega) (by decide)), ?_⟩
      have hR17 := N17 _ _ hR16
      refine ⟨_, _, _, _, _, rfl, ((hf16.same N17).upd neR).mono (by omega), (B12.trans (B16.trans (But.of_same N17))).mut H0R, upd_same, KeyL.put (fun a b => edK_inj) kl (a1, a2) (.bl true), ?_, ?_, ?_, ?_, keep hR17 (N17 _ _ (B16 _ _ neD.1 hD12)), keep hR17 (N17 _ _ hl16), Wts.tk ((Tk.but hf12 B16).trans ((Tk.same N17).trans (tkR hR17))) wt12⟩
      · split
        · omega
        · rw [List.length_append, List.length_singleton]
          omega
      · split
        · exact m1
        · exact List.mem_append_left _ m1
      · split
        · exact m2
        · exact List.mem_append_left _ m2
      · intro e he
        split at he
        · exact eok e he
        · rcases List.mem_append.mp he with he | he
          · exact eok e he
          · rw [List.mem_singleton.mp he]
            exact ⟨a1k, (xok a2 ha2).1, fun z => by rw [show a1 = a2 from z] at c1; simp at c1⟩
    · exact ⟨es, kvs, _, _, _, rfl, hf16.mono (by omega), B12.trans B16, hR16, kl, by omega, m1, m2, eok, B16 _ _ neD.1 hD12, hl16, Wts.tk (Tk.but hf12 B16) wt12⟩
  rintro σ H12 ⟨es, kvs, v3, v6, v7, rfl, hf12, B12, hR12, kl, el, m1, m2, eok, hD12, hl12, wt12⟩
  have dl : d4.toNat ≤ 12 := by omega
  refine ⟨fun σ H' => ∃ (es : List Ed) (kvs : List (List Key × V)), σ = [some (.ref f), some (.ref l2), some (.ref D), v3, some (.ref l3), some (.ref R), v6, v7] ∧ Fe H' f c (n + 60) ∧ But f H H' ∧
    H' R = some (.dT kvs) ∧ KeyL edK kvs es ∧ es.length ≤ 14 ∧ (x0, x1) ∈ es ∧ (∀ e ∈ es, NmOk e.1 ∧ NmOk e.2 ∧ e.1 ≠ e.2) ∧ H' D = some (.lst (ps.map V.ref)) ∧ Wts H' ps ws, ?_, ?_⟩
  · refine ⟨_, rfl, f, c, 6, _, rfl, hf12, by omega, by decide, by decide, fun d7 H13 d70 d71 hf13 b13 n13 => ⟨rfl, _, rfl, ?_⟩⟩
    have hR13 := b13 _ _ neR.1 hR12
    refine ite2 (fun c7 => ?_) (fun c7 => ?_)
    · obtain ⟨v, hv⟩ := kl.val m1
      have hl13 := b13 _ _ ne3.1 hl12
      refine ⟨_, rfl, .inr (.inr (.inl ⟨rfl, .inr ⟨_, hR13⟩⟩)), _, rfl, l3, _, _, _, rfl, rfl, SqL.of hl13, ix0', (show 2 ≤ sizeLine by decide), fun T4 nT4 => ?_⟩
      have N14 := same_new nT4 (.tup [.str (Str.ofString "none"), .str x0])
      have hR14 := N14 _ _ hR13
      refine ⟨R, kvs, edK (gNone, x0), T4, v, rfl, rfl, hR14, upd_same, hv, ?_⟩
      refine ⟨_, _, rfl, ((hf13.same N14).upd neR).mono (by omega), (B12.trans (b13.trans (But.of_same N14))).mut H0R, upd_same, kl.drop (fun a b => edK_inj) (gNone, x0), Nat.le_trans (List.length_filter_le _ _) (by omega), List.mem_filter.mpr ⟨m2, decide_eq_true fun k => x0k.2 (congrArg Prod.fst k)⟩, fun e he => eok e (List.mem_filter.mp he).1, keep hR14 (N14 _ _ (b13 _ _ neD.1 hD12)), Wts.tk ((Tk.but hf12 b13).trans ((Tk.same N14).trans (tkR hR14))) wt12⟩
    · exact ⟨es, kvs, rfl, hf13.mono (by omega), B12.trans b13, hR13, kl, by omega, m2, eok, b13 _ _ neD.1 hD12, Wts.tk (Tk.but hf12 b13) wt12⟩
  rintro σ H13 ⟨es, kvs, rfl, hf13, B13, hR13, kl, el, m2, eok, hD13, wt13⟩
  refine ⟨_, rfl, D, _, rfl, .inl ⟨SqL.of hD13, fun tw ntw => ?_⟩⟩
  have N14 := same_new ntw (.tup (ps.map V.ref))
  have hR14 := N14 _ _ hR13
  have alk : PySem.W.AllAlike ((kvs.map (·.1)).map keyD) ∧ PySem.W.Sortable ((kvs.map (·.1)).map keyD) ∧ (kvs.map (·.1)).map keyD = es.map edD := by
    have e0 : (kvs.map (·.1)).map keyD = es.map edD := by
      rw [show kvs.map (·.1) = es.map edK from kl, List.map_map]
      rfl
    rw [e0]
    exact ⟨eds_alike es, eds_sortable es, rfl⟩
  refine ⟨_, rfl, R, kvs, rfl, hR14, by rw [kl.len]; omega, alk.1, alk.2.1, fun as lr ka nlr => ?_⟩
  rw [alk.2.2]
  rw [show kvs.map (·.1) = es.map edK from kl] at ka
  have N15 := same_new nlr (.lst (sortD (as.map V.ref) (es.map edD)))
  have rds := Rds.tk (Tk.same N15) (keys_rds ka)
  obtain ⟨rs, e1, e2⟩ := sort_paired (F := fun p e => upd (upd H13 tw (.tup (ps.map V.ref))) lr (.lst (sortD (as.map V.ref) (es.map edD))) p = some (.tup (edV e))) edD rds
  refine ⟨lr, rs.map V.ref, rfl, .inl ⟨SqL.of (by rw [← e1]; exact upd_same), fun tr ntr => ?_⟩⟩
  have N16 := same_new ntr (.tup (rs.map V.ref))
  refine ⟨(show 2 ≤ sizeLine by decide), fun o no => ?_⟩
  have N17 := same_new no (.tup [.ref tw, .ref tr])
  have N1417 := N14.trans (N15.trans (N16.trans N17))
  refine q o ws (es.mergeSort (PySem.W.dataLe false edD)) _ ((hf13.same N1417).mono (by omega)) (B13.trans (But.of_same N1417)) ?_ ⟨tw, tr, ps, rs, upd_same, N17 _ _ (N16 _ _ (N15 _ _ upd_same)), N17 _ _ upd_same, Wts.tk (Tk.same N1417) wt13, Rds.tk ((Tk.same N16).trans (Tk.same N17)) e2⟩ ⟨?_, ?_, ?_, ?_, ?_, ?_⟩ (by rw [wm4]; exact ysl) fun e he => (eok e (List.mem_mergeSort.mp he)).2.2
  · exact B13.backE hf13 ((N14.trans (N15.trans N16)).free no)
  · omega
  · omega
  · rw [List.length_mergeSort]
    omega
  · exact ⟨(x0, x1), List.mem_mergeSort.mpr m2, x0k.2⟩
  · exact fun e he => ⟨(eok e (List.mem_mergeSort.mp he)).1, (eok e (List.mem_mergeSort.mp he)).2.1⟩
  · exact fun w hw => wk4 w hw

theorem ok_lbegun (F : Fun K "_law_begun" "_law_begun" s_lbegun f_lbegun d_lbegun) (T : Txt mg f_many_in f_named_by_voids f_counted_bags f_standing_of f_pages_that_are f_counted_pages f_until f_of_series f_brought f_traffic f_balance f_moved f_by_days f_lfeed f_ldraw f_lfar f_lwords f_loffice f_lruns f_lnames f_ldeed f_lpages f_llow f_lknot f_lbegun f_lbook f_lsorts f_lsame f_lmany f_lbalance f_ldays f_lright f_law)
    (F_ldraw : Fun K "_law_draw" "_law_draw" s_ldraw f_ldraw d_ldraw) (b_ldraw : Binds K d_ldraw ["_law_feed_here", "_law_many_here"] []) (G_ldraw : FnOk P w K mg base CX0 (4) f_ldraw d_ldraw ["_law_feed_here", "_law_many_here"] spDrawE)
    (F_loffice : Fun K "_law_office" "_law_office" s_loffice f_loffice d_loffice) (b_loffice : Binds K d_loffice ["_law_feed_here"] []) (G_loffice : FnOk P w K mg base CX0 (4) f_loffice d_loffice ["_law_feed_here"] spOfficeR)
    (F_llow : Fun K "_law_low" "_law_low" s_llow f_llow d_llow) (b_llow : Binds K d_llow ["_law_feed_here"] []) (G_llow : FnOk P w K mg base CX0 (4) f_llow d_llow ["_law_feed_here"] spLowL)
    (F_lpages : Fun K "_law_pages" "_law_pages" s_lpages f_lpages d_lpages) (b_lpages : Binds K d_lpages ["_law_feed_here", "_law_office_here", "_law_many_here", "_law_low_here"] []) (G_lpages : FnOk P w K mg base CX0 (4) f_lpages d_lpages ["_law_feed_here", "_law_office_here", "_law_many_here", "_law_low_here"] spPagesL)
    (F_lknot : Fun K "_law_knot" "_law_knot" s_lknot f_lknot d_lknot) (b_lknot : Binds K d_lknot ["_law_feed_here", "_law_office_here", "_law_low_here"] []) (G_lknot : FnOk P w K mg base CX0 (4) f_lknot d_lknot ["_law_feed_here", "_law_office_here", "_law_low_here"] spKnotL) :
    FnOk P w K mg base CX0 (5) f_lbegun d_lbegun ["_law_feed_here"] spBegunR := by
  refine F.ok sc_lbegun (fun vs H Q E h => ?_) (fun cdv A outer s H vs Q E hr h => ?_)

  · obtain ⟨f, c, n, rfl, _⟩ := h
    rfl
  obtain ⟨f, c, n, rfl, hf, hn, q⟩ := h
  refine ⟨_, (pss_cons (ps_set (i := 1) sc_lbegun.nd rfl (.inl rfl) (pe_call G_loffice hr (by rfl) T.m_loffice F_loffice.kp b_loffice .nil pass0 (pa_cons (pv 0) pa_nil)))
  (pss_cons (ps_set (i := 2) sc_lbegun.nd rfl (.inl rfl) (pe_call G_llow hr (by rfl) T.m_llow F_llow.kp b_llow .nil pass0 (pa_cons (pv 0) pa_nil)))
  (pss_cons (ps_set (i := 3) sc_lbegun.nd rfl (.inl rfl) (pe_op op_add pe_int (pe_call G_ldraw hr (by rfl) T.m_ldraw F_ldraw.kp b_ldraw .nil pass0 (pa_cons (pv 0) (pa_cons pe_int pa_nil)))))
  (C8.pss_cut (ps_if (pt_cmpR op_eq (pe_call G_ldraw hr (by rfl) T.m_ldraw F_ldraw.kp b_ldraw .nil pass0 (pa_cons (pv 0) (pa_cons pe_int pa_nil))) pe_int (nomark _))
  (pss_one (ps_set (i := 3) sc_lbegun.nd rfl (.inl rfl) (pe_op op_add pe_int (pe_call G_ldraw hr (by rfl) T.m_ldraw F_ldraw.kp b_ldraw .nil pass0 (pa_cons (pv 0) (pa_cons pe_int pa_nil))))))
  pss_nil)
  (pss_cons (ps_set (i := 4) sc_lbegun.nd rfl (.inl rfl) (pe_call G_lpages hr (by rfl) T.m_lpages F_lpages.kp b_lpages .nil pass0 (pa_cons (pv 0) (pa_cons (pv 1) (pa_cons (pv 3) (pa_cons (pv 2) pa_nil))))))
  (C8.pss_cut (ps_if (pt_cmpR op_eq (pe_call G_ldraw hr (by rfl) T.m_ldraw F_ldraw.kp b_ldraw .nil pass0 (pa_cons (pv 0) (pa_cons pe_int pa_nil))) pe_int (nomark _))
  (pss_one (ps_set (i := 4) sc_lbegun.nd rfl (.inl rfl) (pe_op op_cat (pv 4) (pe_call G_lknot hr (by rfl) T.m_lknot F_lknot.kp b_lknot .nil pass0 (pa_cons (pv 0) (pa_cons (pv 1) (pa_cons (pv 2) pa_nil)))))))
  pss_nil)
  (pss_one (ps_ret (pe_tup (pa_cons (pv 1) (pa_cons (pv 2) (pa_cons (pv 4) pa_nil)))))))))))), ?_⟩
  refine ⟨_, rfl, f, c, n, rfl, hf, by omega, fun o ws E1 H1 hf1 b1 no of1 okE wsl ro => ?_⟩
  refine ⟨_, rfl, f, c, n + 200, rfl, hf1, by omega, fun low H2 lo0 lo1 hf2 b2 n2 => ?_⟩
  refine ⟨_, rfl, f, c, 12, n + 200 + 3, rfl, hf2, by omega, by decide, by decide, fun d1 H3 d10 d11 hf3 b3 n3 => ⟨_, _, rfl, rfl, ?_⟩⟩
  have B3 : But f H H3 := b1.trans (b2.trans b3)
  have of3 := of1.tk (Tk.but hf1 (b2.trans b3))
  refine ⟨fun σ H' => ∃ (m : Nat), σ = [some (.ref f), some (.ref o), some (.int low), some (.int m), none] ∧ Fe H' f c (n + 210) ∧ But f H3 H' ∧ m ≤ 39 ∧ 0 < m, ?_, ?_⟩
  · refine ⟨_, rfl, f, c, 8, _, rfl, hf3, by omega, by decide, by decide, fun d2 H4 d20 d21 hf4 b4 n4 => ?_⟩
    refine ⟨rfl, _, rfl, ?_⟩
    refine ite2 (fun c1 => ?_) (fun c1 => ?_)
    · refine ⟨_, rfl, f, c, 8, _, rfl, hf4, by omega, by decide, by decide, fun d3 H5 d30 d31 hf5 b5 n5 => ⟨_, _, rfl, rfl, ?_⟩⟩
      refine ⟨(24 + d3).toNat, ?_, hf5.mono (by omega), b4.trans b5, by omega, by omega⟩
      rw [show (((24 + d3).toNat : Nat) : Int) = 24 + d3 by omega]
      rfl
    · refine ⟨(1 + d1).toNat, ?_, hf4.mono (by omega), b4, by omega, by omega⟩
      rw [show (((1 + d1).toNat : Nat) : Int) = 1 + d1 by omega]
      rfl
  rintro σ H4 ⟨m, rfl, hf4, b4, m39, m0⟩
  have of4 := of3.tk (Tk.but hf3 b4)
  have B4 := B3.trans b4
  refine ⟨_, rfl, _, rfl, _, rfl, _, rfl, f, c, o, m, low, _, ws, E1, rfl, hf4, by omega, of4, okE, wsl, m39, lo0, lo1, fun l qs gs H5 hf5 b5 nl hl pg gl nd ok dok => ?_⟩
  have of5 := of4.tk (Tk.but hf4 b5)
  have B5 := B4.trans b5
  have l0 : H l = none := B4.backE hf4 nl
  have lf := (hf4.ne nl).1
  refine ⟨fun σ H' => ∃ (l : Addr) (qs : List Addr) (gs : List Pg), σ = [some (.ref f), some (.ref o), some (.int low), some (.int m), some (.ref l)] ∧ Fe H' f c (n + 5900) ∧ But f H5 H' ∧ H l = none ∧ l ≠ f ∧ H' l = some (.lst (qs.map V.ref)) ∧ Pgs H' qs gs ∧ gs.length ≤ 44 ∧ (gs.map (·.1)).Nodup ∧ (∀ g ∈ gs, NmB g.1) ∧ 0 < gs.length ∧ ∀ g ∈ gs, DdL E1 (ws.map (·.1)) low g.2, ?_, ?_⟩
  · refine ⟨_, rfl, f, c, 2, _, rfl, hf5, by omega, by decide, by decide, fun d2 H6 d20 d21 hf6 b6 n6 => ?_⟩
    refine ⟨rfl, _, rfl, ?_⟩
    have pg6 := pg.tk (Tk.but hf5 b6)
    have hl6 := b6 _ _ lf hl
    refine ite2 (fun c1 => ?_) (fun c1 => ?_)
    · refine ⟨_, rfl, _, rfl, _, rfl, _, rfl, f, c, o, low, _, ws, E1, rfl, hf6, by omega, of5.tk (Tk.but hf5 b6), okE, wsl, lo0, lo1, fun k ks hs H7 hf7 b7 nk hk kp num kok kdk => ?_⟩
      have pl := pg.len
      have kl : hs.length = 5 := by
        have z := congrArg List.length num
        rw [List.length_map] at z
        exact z
      have kq := kp.len
      refine ⟨l, k, _, _, rfl, rfl, b7 _ _ lf hl6, hk, ?_, fun p hp => ?_⟩
      · rw [List.length_map, List.length_map]
        exact Nat.le_trans (show _ ≤ 100 by omega) (by decide)
      have Np := same_new hp (.lst (qs.map V.ref ++ ks.map V.ref))
      have b67 := b6.trans b7
      refine ⟨p, qs ++ ks, gs ++ hs, rfl, (hf7.same Np).mono (by omega), b67.trans (But.of_same Np), (B5.trans b67).backE hf7 hp, (hf7.ne hp).1, ?_, ?_, ?_, ?_, fun g hg => ?_, by rw [List.length_append]; omega, fun g hg => ?_⟩
      · rw [upd_same, List.map_append]
      · exact ((pg6.tk (Tk.but hf6 b7)).app kp).tk (Tk.same Np)
      · rw [List.length_append]
        omega
      · rw [List.map_append]
        refine List.nodup_append.mpr ⟨nd, knot_nodup num, fun a ha b hb e => ?_⟩
        obtain ⟨g1, hg1, rfl⟩ := List.mem_map.mp ha
        obtain ⟨g2, hg2, rfl⟩ := List.mem_map.mp hb
        have z1 := (ok g1 hg1).2.2.1
        have z2 := knot_num num hg2
        rw [e] at z1
        omega
      · rcases List.mem_append.mp hg with hg | hg
        · exact (ok g hg).b
        · have z2 := knot_num num hg
          obtain ⟨y1, y2, y3⟩ := kok g hg
          exact ⟨y1, by omega, by omega, by omega, by omega, by rw [y3]; exact wB_ok⟩
      · rcases List.mem_append.mp hg with hg | hg
        · exact dok g hg
        · exact kdk g hg
    · exact ⟨l, qs, gs, rfl, hf6.mono (by omega), b6, l0, lf, hl6, pg6, by omega, nd, fun g hg => (ok g hg).b, by omega, dok⟩
  clear pg hl nd ok gl nl lf l0 dok
  rintro σ H6 ⟨l, qs, gs, rfl, hf6, b6, l0, lf, hl, pg, gl, nd, ok, g0, dok⟩
  refine ⟨_, rfl, _, rfl, _, rfl, (show 3 ≤ sizeLine by decide), fun t ht => ?_⟩
  have Nt := same_new ht (.tup [.ref o, .int low, .ref l])
  have B6 := B5.trans b6
  exact q t o l low ws E1 qs gs _ ((hf6.same Nt).mono (by omega)) (B6.trans (But.of_same Nt)) (B6.backE hf6 ht) upd_same ((of5.tk (Tk.but hf5 b6)).tk (Tk.same Nt)) okE wsl l0 lf lo0 lo1 (Nt _ _ hl) (pg.tk (Tk.same Nt)) gl nd ok g0 dok ro

theorem ok_lsame {k n : Nat} (F : Fun K "_law_same" "_law_same" s_lsame f_lsame d_lsame) (T : Txt mg f_many_in f_named_by_voids f_counted_bags f_standing_of f_pages_that_are f_counted_pages f_until f_of_series f_brought f_traffic f_balance f_moved f_by_days f_lfeed f_ldraw f_lfar f_lwords f_loffice f_lruns f_lnames f_ldeed f_lpages f_llow f_lknot f_lbegun f_lbook f_lsorts f_lsame f_lmany f_lbalance f_ldays f_lright f_law)
    (F_lsame : Fun K "_law_same" "_law_same" s_lsame f_lsame d_lsame) (b_lsame : Binds K d_lsame ["_law_found", "_law_due"] []) (G_lsame : FnOk P w K mg base CX0 (k + 1) f_lsame d_lsame ["_law_found", "_law_due"] (spAlike K n)) :
    FnOk P w K mg base CX0 (k + 2) f_lsame d_lsame ["_law_found", "_law_due"] (spAlike K (n + 1)) := by
  refine F.ok sc_lsame (fun vs H Q E h => ?_) (fun cdv A outer s H vs Q E hr h => ?_)

  · obtain ⟨x, y, d, rfl, _⟩ := h
    rfl
  obtain ⟨x, y, d, rfl, hx, hy, hn, q⟩ := h
  refine ⟨_, (pss_cons (ps_if (pt_val (pe_callB call_isiT (by rfl) T.isinstance (by decide +kernel) (pa_cons (pv 1) (pa_cons (pe_tup (pa_cons (pe_bltn (v := .ty "tuple") (by rfl) T.tuple (by decide +kernel) rfl) (pa_cons (pe_bltn (v := .ty "list") (by rfl) T.list (by decide +kernel) rfl) pa_nil))) pa_nil))))
  (pss_cons (ps_set (i := 2) sc_lsame.nd rfl (.inl rfl) (pe_ifExp (pt_val (pe_callB call_isi (by rfl) T.isinstance (by decide +kernel) (pa_cons (pv 1) (pa_cons (pe_bltn (v := .ty "tuple") (by rfl) T.tuple (by decide +kernel) rfl) pa_nil)))) (pe_callB call_isi (by rfl) T.isinstance (by decide +kernel) (pa_cons (pv 0) (pa_cons (pe_bltn (v := .ty "tuple") (by rfl) T.tuple (by decide +kernel) rfl) pa_nil))) (pe_callB call_isi (by rfl) T.isinstance (by decide +kernel) (pa_cons (pv 0) (pa_cons (pe_bltn (v := .ty "list") (by rfl) T.list (by decide +kernel) rfl) pa_nil)))))
  (pss_cons (ps_if (PW.pt (pw_or (pt_not (pt_val (pv 2))) (pw_or1 (pt_cmpR op_ne (pe_callB call_len_seq (by rfl) T.len (by decide +kernel) (pa_cons (pv 0) pa_nil)) (pe_callB call_len_seq (by rfl) T.len (by decide +kernel) (pa_cons (pv 1) pa_nil)) (nomark _)))))
  (pss_one (ps_ret pe_bl))
  pss_nil)
  (pss_one (ps_ret (pe_callB (cr_all rfl) (by rfl) T.all (by decide +kernel) (pa_cons (pe_lc (own := [("_law_k", 3)]) (g := (gName 3)) (by rfl) sc_lsame.nd (pi_range1 (by rfl) T.range (pa_cons (pe_callB call_len_seq (by rfl) T.len (by decide +kernel) (pa_cons (pv 1) pa_nil)) pa_nil)) (blkOk_by (own := [("_law_k", 3)]) (N := ["_law_found", "_law_due", "_law_kind", "_law_k"]) (sc := defScope s_lsame) (by decide +kernel)) (fun _ _ _ _ _ => (pg_name (i := 3) sc_lsame.nd rfl (.inl rfl))) (fun _ _ _ _ _ => pts_nil) (fun _ _ _ _ _ => (pe_call G_lsame hr (by rfl) T.m_lsame F_lsame.kp b_lsame .nil pass0 (pa_cons (pe_ix (show IxR _ (rIxA K) from ix_any) (pv 0) (pv 3) (fun _ _ => rfl)) (pa_cons (pe_ix (show IxR _ (rIxA K) from ix_any) (pv 1) (pv 3) (fun _ _ => rfl)) pa_nil))))) pa_nil))))))
  pss_nil)
  (pss_cons (ps_if (pt_cmpR op_isN (pv 1) pe_non (nomark _))
  (pss_one (ps_ret (pe_cmpR op_isN (pv 0) pe_non (nomark _))))
  pss_nil)
  (pss_cons (ps_if (pt_val (pe_callB call_isi (by rfl) T.isinstance (by decide +kernel) (pa_cons (pv 1) (pa_cons (pe_bltn (v := .ty "str") (by rfl) T.str (by decide +kernel) rfl) pa_nil))))
  (pss_one (ps_ret (pe_and (pe_callB call_isi (by rfl) T.isinstance (by decide +kernel) (pa_cons (pv 0) (pa_cons (pe_bltn (v := .ty "str") (by rfl) T.str (by decide +kernel) rfl) pa_nil))) (pe_one (pe_cmpR (op_eqP hr) (pv 0) (pv 1) (nomark _))))))
  pss_nil)
  (pss_cons (ps_if (pt_val (pe_callB call_isi (by rfl) T.isinstance (by decide +kernel) (pa_cons (pv 1) (pa_cons (pe_bltn (v := .ty "bool") (by rfl) T.bool (by decide +kernel) rfl) pa_nil))))
  (pss_one (ps_ret (pe_and (pe_callB call_isi (by rfl) T.isinstance (by decide +kernel) (pa_cons (pv 0) (pa_cons (pe_bltn (v := .ty "bool") (by rfl) T.bool (by decide +kernel) rfl) pa_nil))) (pe_one (pe_cmpR (op_eqP hr) (pv 0) (pv 1) (nomark _))))))
  pss_nil)
  (pss_one (ps_ret (pe_and (pe_callB call_isi (by rfl) T.isinstance (by decide +kernel) (pa_cons (pv 0) (pa_cons (pe_bltn (v := .ty "int") (by rfl) T.int (by decide +kernel) rfl) pa_nil))) (pe_and (pe_not (pe_callB call_isi (by rfl) T.isinstance (by decide +kernel) (pa_cons (pv 0) (pa_cons (pe_bltn (v := .ty "bool") (by rfl) T.bool (by decide +kernel) rfl) pa_nil)))) (pe_one (pe_cmpR (op_eqP hr) (pv 0) (pv 1) (nomark _))))))))))), ?_⟩
  cases hx with
  | @lst a xs ds s1 A1 =>
    obtain ⟨b, ys, rfl, s2, A2⟩ : ∃ b ys, y = .ref b ∧ SqL K H b ys ∧ DpAll K H ys ds := by
      cases hy with
      | lst s A => exact ⟨_, _, rfl, s, A⟩
    have nn : ∃ m, n = m + 1 ∧ ds.length ≤ 100000 ∧ ∀ e ∈ ds, Nice m e := by
      cases n with
      | zero => exact nomatch hn
      | succ m =>
        rcases hn with hn | ⟨es, he, h1, h2⟩
        · exact nomatch hn
        · rcases he with he | he <;> cases he
          exact ⟨m, rfl, h1, h2⟩
    obtain ⟨m, rfl, hl1, hall⟩ := nn
    have l1 := DpAll.len A1
    have l2 := DpAll.len A2
    have hlen : xs.length = ys.length := by omega
    refine ⟨_, rfl, (show 2 ≤ sizeLine by decide), fun tp htp => ?_⟩
    have S1 : Same H (upd H tp (.tup [.ty "tuple", .ty "list"])) := same_new htp _
    have tyx := ty_of (Dp.sm S1 (.lst s1 A1 : Dp K H (.ref a) (.list ds)))
    have tyy := ty_of (Dp.sm S1 (.lst s2 A2 : Dp K H (.ref b) (.list ds)))
    refine ⟨_, tp, _, _, _, _, rfl, upd_same, .cons (.ty _) (.cons (.ty _) .nil), tyy, kit2 k_list_tuple k_list_list, true, rfl, iteT ?_⟩
    refine ⟨_, rfl, _, _, _, _, _, rfl, .ty _, tyy, k_list_tuple, _, rfl, iteF ?_⟩
    refine ⟨_, rfl, _, _, _, _, _, rfl, .ty _, tyx, k_list_list, ?_⟩
    have q1 := SqL.sm S1 s1
    have q2 := SqL.sm S1 s2
    refine ⟨_, rfl, _, rfl, iteF ?_⟩
    refine ⟨_, rfl, a, xs, rfl, .inl q1, _, rfl, b, ys, rfl, .inl q2, rfl, ?_⟩
    have e0 : (!decide (V.int ((xs.length : Nat) : Int) = V.int ((ys.length : Nat) : Int))) = false := by
      rw [hlen, decide_eq_true rfl]
      rfl
    rw [e0]
    refine ⟨_, rfl, iteF ?_⟩
    have sl : ys.length ≤ 100000 := by omega
    refine ⟨_, rfl, b, ys, rfl, .inl q2, _, rfl, by omega, by omega, fun D hD => ?_⟩
    refine lc_range (lo := 0) (n := ((ys.length : Nat) : Int).toNat) (fun i H' => Same (upd H tp (.tup [.ty "tuple", .ty "list"])) H' ∧ H' D = some (.lst ((List.replicate i true).map V.bl))) ⟨same_new hD _, upd_same⟩ ?_ ?_
    · rintro i H1 hi ⟨S2, hD2⟩
      have hi1 : i < xs.length := by omega
      have hi2 : i < ys.length := by omega
      obtain ⟨d1, hd1, D1⟩ := DpAll.get A1 (List.getElem?_eq_getElem hi1)
      obtain ⟨d2, hd2, D2⟩ := DpAll.get A2 (List.getElem?_eq_getElem hi2)
      rw [hd1] at hd2
      cases hd2
      have S3 : Same H H1 := S1.trans S2
      have ix : ∀ {zs : List V} (h : i < zs.length), atI zs (0 + (i : Int)) = some zs[i] := fun h => by
        rw [Int.zero_add]
        exact atI_nat (List.getElem?_eq_getElem h)
      refine ⟨rfl, _, rfl, _, rfl, .inl ⟨a, xs, _, _, rfl, rfl, SqL.sm S3 s1, ix hi1, ?_⟩⟩
      refine ⟨_, rfl, _, rfl, .inl ⟨b, ys, _, _, rfl, rfl, SqL.sm S3 s2, ix hi2, ?_⟩⟩
      refine ⟨xs[i], ys[i], d1, rfl, Dp.sm S3 D1, Dp.sm S3 D2, hall d1 (List.mem_of_getElem? hd1), fun H3 S4 => ?_⟩
      refine ⟨_, S4 _ _ hD2, ?_, same_mut (S2.trans S4) hD, ?_⟩
      · rw [List.length_map, List.length_replicate]
        exact Nat.lt_of_lt_of_le hi1 (Nat.le_trans (by omega) (show 100000 ≤ sizeLine by decide))
      · rw [upd_same, List.replicate_succ', List.map_append]
        rfl
    · rintro H2 ⟨S2, hD2⟩
      refine ⟨D, _, rfl, SqL.of hD2, ?_⟩
      have e : (List.replicate ((ys.length : Nat) : Int).toNat true).all id = true := by
        rw [List.all_eq_true]
        intro z hz
        rw [List.eq_of_mem_replicate hz]
        rfl
      rw [e]
      exact q _ (S1.trans S2)
  | @tup a xs ds s1 A1 =>
    obtain ⟨b, ys, rfl, s2, A2⟩ : ∃ b ys, y = .ref b ∧ SqT K H b ys ∧ DpAll K H ys ds := by
      cases hy with
      | tup s A => exact ⟨_, _, rfl, s, A⟩
    have nn : ∃ m, n = m + 1 ∧ ds.length ≤ 100000 ∧ ∀ e ∈ ds, Nice m e := by
      cases n with
      | zero => exact nomatch hn
      | succ m =>
        rcases hn with hn | ⟨es, he, h1, h2⟩
        · exact nomatch hn
        · rcases he with he | he <;> cases he
          exact ⟨m, rfl, h1, h2⟩
    obtain ⟨m, rfl, hl1, hall⟩ := nn
    have l1 := DpAll.len A1
    have l2 := DpAll.len A2
    have hlen : xs.length = ys.length := by omega
    refine ⟨_, rfl, (show 2 ≤ sizeLine by decide), fun tp htp => ?_⟩
    have S1 : Same H (upd H tp (.tup [.ty "tuple", .ty "list"])) := same_new htp _
    have tyx := ty_of (Dp.sm S1 (.tup s1 A1 : Dp K H (.ref a) (.tuple ds)))
    have tyy := ty_of (Dp.sm S1 (.tup s2 A2 : Dp K H (.ref b) (.tuple ds)))
    refine ⟨_, tp, _, _, _, _, rfl, upd_same, .cons (.ty _) (.cons (.ty _) .nil), tyy, kit2 k_tuple_tuple k_tuple_list, true, rfl, iteT ?_⟩
    refine ⟨_, rfl, _, _, _, _, _, rfl, .ty _, tyy, k_tuple_tuple, _, rfl, iteT ?_⟩
    refine ⟨_, rfl, _, _, _, _, _, rfl, .ty _, tyx, k_tuple_tuple, ?_⟩
    have q1 := SqT.sm S1 s1
    have q2 := SqT.sm S1 s2
    refine ⟨_, rfl, _, rfl, iteF ?_⟩
    refine ⟨_, rfl, a, xs, rfl, .inr q1, _, rfl, b, ys, rfl, .inr q2, rfl, ?_⟩
    have e0 : (!decide (V.int ((xs.length : Nat) : Int) = V.int ((ys.length : Nat) : Int))) = false := by
      rw [hlen, decide_eq_true rfl]
      rfl
    rw [e0]
    refine ⟨_, rfl, iteF ?_⟩
    have sl : ys.length ≤ 100000 := by omega
    refine ⟨_, rfl, b, ys, rfl, .inr q2, _, rfl, by omega, by omega, fun D hD => ?_⟩
    refine lc_range (lo := 0) (n := ((ys.length : Nat) : Int).toNat) (fun i H' => Same (upd H tp (.tup [.ty "tuple", .ty "list"])) H' ∧ H' D = some (.lst ((List.replicate i true).map V.bl))) ⟨same_new hD _, upd_same⟩ ?_ ?_
    · rintro i H1 hi ⟨S2, hD2⟩
      have hi1 : i < xs.length := by omega
      have hi2 : i < ys.length := by omega
      obtain ⟨d1, hd1, D1⟩ := DpAll.get A1 (List.getElem?_eq_getElem hi1)
      obtain ⟨d2, hd2, D2⟩ := DpAll.get A2 (List.getElem?_eq_getElem hi2)
      rw [hd1] at hd2
      cases hd2
      have S3 : Same H H1 := S1.trans S2
      have ix : ∀ {zs : List V} (h : i < zs.length), atI zs (0 + (i : Int)) = some zs[i] := fun h => by
        rw [Int.zero_add]
        exact atI_nat (List.getElem?_eq_getElem h)
      refine ⟨rfl, _, rfl, _, rfl, .inr ⟨a, xs, _, _, rfl, rfl, SqT.sm S3 s1, ix hi1, ?_⟩⟩
      refine ⟨_, rfl, _, rfl, .inr ⟨b, ys, _, _, rfl, rfl, SqT.sm S3 s2, ix hi2, ?_⟩⟩
      refine ⟨xs[i], ys[i], d1, rfl, Dp.sm S3 D1, Dp.sm S3 D2, hall d1 (List.mem_of_getElem? hd1), fun H3 S4 => ?_⟩
      refine ⟨_, S4 _ _ hD2, ?_, same_mut (S2.trans S4) hD, ?_⟩
      · rw [List.length_map, List.length_replicate]
        exact Nat.lt_of_lt_of_le hi1 (Nat.le_trans (by omega) (show 100000 ≤ sizeLine by decide))
      · rw [upd_same, List.replicate_succ', List.map_append]
        rfl
    · rintro H2 ⟨S2, hD2⟩
      refine ⟨D, _, rfl, SqL.of hD2, ?_⟩
      have e : (List.replicate ((ys.length : Nat) : Int).toNat true).all id = true := by
        rw [List.all_eq_true]
        intro z hz
        rw [List.eq_of_mem_replicate hz]
        rfl
      rw [e]
      exact q _ (S1.trans S2)
  | non =>
    cases hy
    refine ⟨_, rfl, (show 2 ≤ sizeLine by decide), fun tp htp => ?_⟩
    have S1 : Same H (upd H tp (.tup [.ty "tuple", .ty "list"])) := same_new htp _
    refine ⟨_, tp, _, _, _, _, rfl, upd_same, .cons (.ty _) (.cons (.ty _) .nil), .base (.non), kit2 k_NoneType_tuple k_NoneType_list, false, rfl, iteF ?_⟩
    refine ⟨_, rfl, rfl, _, rfl, iteT ?_⟩
    exact ⟨_, rfl, rfl, q _ S1⟩
  | str x1 =>
    cases hy
    refine ⟨_, rfl, (show 2 ≤ sizeLine by decide), fun tp htp => ?_⟩
    have S1 : Same H (upd H tp (.tup [.ty "tuple", .ty "list"])) := same_new htp _
    refine ⟨_, tp, _, _, _, _, rfl, upd_same, .cons (.ty _) (.cons (.ty _) .nil), .base (.str x1), kit2 k_str_tuple k_str_list, false, rfl, iteF ?_⟩
    refine ⟨_, rfl, rfl, _, rfl, iteF ?_⟩
    have e0 : PyData.eqv (.str x1) (.str x1) = true := by simp [PyData.eqv]
    refine ⟨_, rfl, _, _, _, _, _, rfl, .ty _, .base (.str x1), k_str_str, _, rfl, iteT ?_⟩
    refine ⟨_, rfl, _, _, _, _, _, rfl, .ty _, .base (.str x1), k_str_str, _, rfl, iteT ?_⟩
    refine ⟨_, rfl, _, rfl, .str x1, .str x1, (.str x1), (.str x1), rfl, rfl, by simp [PyData.depth], ?_⟩
    rw [Bool.false_xor, e0]
    exact q _ S1
  | bl b =>
    cases hy
    refine ⟨_, rfl, (show 2 ≤ sizeLine by decide), fun tp htp => ?_⟩
    have S1 : Same H (upd H tp (.tup [.ty "tuple", .ty "list"])) := same_new htp _
    refine ⟨_, tp, _, _, _, _, rfl, upd_same, .cons (.ty _) (.cons (.ty _) .nil), .base (.bl b), kit2 k_bool_tuple k_bool_list, false, rfl, iteF ?_⟩
    refine ⟨_, rfl, rfl, _, rfl, iteF ?_⟩
    have e0 : PyData.eqv (.bool b) (.bool b) = true := by simp [PyData.eqv]
    refine ⟨_, rfl, _, _, _, _, _, rfl, .ty _, .base (.bl b), k_bool_str, _, rfl, iteF ?_⟩
    refine ⟨_, rfl, _, _, _, _, _, rfl, .ty _, .base (.bl b), k_bool_bool, _, rfl, iteT ?_⟩
    refine ⟨_, rfl, _, _, _, _, _, rfl, .ty _, .base (.bl b), k_bool_bool, _, rfl, iteT ?_⟩
    refine ⟨_, rfl, _, rfl, .bool b, .bool b, (.bl b), (.bl b), rfl, rfl, by simp [PyData.depth], ?_⟩
    rw [Bool.false_xor, e0]
    exact q _ S1
  | int i =>
    cases hy
    refine ⟨_, rfl, (show 2 ≤ sizeLine by decide), fun tp htp => ?_⟩
    have S1 : Same H (upd H tp (.tup [.ty "tuple", .ty "list"])) := same_new htp _
    refine ⟨_, tp, _, _, _, _, rfl, upd_same, .cons (.ty _) (.cons (.ty _) .nil), .base (.int i), kit2 k_int_tuple k_int_list, false, rfl, iteF ?_⟩
    refine ⟨_, rfl, rfl, _, rfl, iteF ?_⟩
    have e0 : PyData.eqv (.int i) (.int i) = true := by simp [PyData.eqv]
    refine ⟨_, rfl, _, _, _, _, _, rfl, .ty _, .base (.int i), k_int_str, _, rfl, iteF ?_⟩
    refine ⟨_, rfl, _, _, _, _, _, rfl, .ty _, .base (.int i), k_int_bool, _, rfl, iteF ?_⟩
    refine ⟨_, rfl, _, _, _, _, _, rfl, .ty _, .base (.int i), k_int_int, _, rfl, iteT ?_⟩
    refine ⟨_, rfl, _, _, _, _, _, rfl, .ty _, .base (.int i), k_int_bool, _, rfl, _, rfl, iteT ?_⟩
    refine ⟨_, rfl, _, rfl, .int i, .int i, (.int i), (.int i), rfl, rfl, by simp [PyData.depth], ?_⟩
    rw [Bool.false_xor, e0]
    exact q _ S1

theorem ok_lbook (F : Fun K "_law_book" "_law_book" s_lbook f_lbook d_lbook) (T : Txt mg f_many_in f_named_by_voids f_counted_bags f_standing_of f_pages_that_are f_counted_pages f_until f_of_series f_brought f_traffic f_balance f_moved f_by_days f_lfeed f_ldraw f_lfar f_lwords f_loffice f_lruns f_lnames f_ldeed f_lpages f_llow f_lknot f_lbegun f_lbook f_lsorts f_lsame f_lmany f_lbalance f_ldays f_lright f_law)
    (hc_lbook : d_lbook.code = .ref c_lbook) (TB_lbook : GxR.TabB base mg c_lbook P_lbook) :
    FnOk P w K mg base CX0 (2) f_lbook d_lbook ["_law_pages_here"] (spBook P_lbook) := by
  refine okT F hc_lbook sc_lbook (fun vs H Q E h => ?_) (fun A outer s H vs Q E hr h => ?_)

  · obtain ⟨l, qs, gs, rfl, _⟩ := h
    rfl
  obtain ⟨l, qs, gs, rfl, hl, pg, gl, hT, q⟩ := h
  refine ⟨_, (pss_one (ps_ret (pe_callTy call_tuple_of (by rfl) T.tuple (by decide +kernel) (pa_cons (pe_sortK hr (by rfl) T.sorted TB_lbook rfl (pa_cons (pv 0) pa_nil) (key1 (by decide) (by decide)) (by rfl) (by rfl) (by rfl) (by rfl) (by decide) (by rfl) (fun _ _ _ _ _ _ => rfl)) pa_nil)))), ?_⟩
  have nd : ∀ k ∈ (gs.map (·.1)).map nmD, noL k = true ∧ k.depth ≤ 50 := fun k hk => by
    obtain ⟨n, _, rfl⟩ := List.mem_map.mp hk
    exact ⟨rfl, by simp [nmD, PyData.depth, PyData.depthAll]⟩
  refine ⟨_, rfl, l, _, _, rfl, SqL.of hl, hT, pgs_keyd pg, nms_alike _, nms_sortable _, nd, fun p H2 b2 hT2 np hp2 => ?_⟩
  obtain ⟨φ, hPx⟩ := hT.at
  have tk := Tk.of_but hPx b2
  obtain ⟨rs, e1, e2⟩ := sort_paired (F := fun p g => PgAt H2 p g) (fun g : Pg => nmD g.1) (pg.tk tk)
  have e3 : ((gs.map (·.1)).map nmD) = gs.map fun g : Pg => nmD g.1 := by rw [List.map_map]; rfl
  rw [e3, e1] at hp2
  refine ⟨p, _, rfl, .inl ⟨SqL.of hp2, fun t nt => ?_⟩⟩
  have N := same_new nt (.tup (rs.map V.ref))
  refine q t _ (b2.trans (But.of_same N)) (hT2.same N) ?_ ⟨rs, upd_same, Pgs.tk (fun a xs e => N _ _ e) e2⟩
  cases e : H t with
  | none => rfl
  | some o =>
    obtain ⟨φ2, hP2⟩ := hT2.at
    have z := b2 _ _ (fun z => by rw [z, hP2] at nt; cases nt) e
    rw [nt] at z
    cases z

theorem ok_lsorts (F : Fun K "_law_sorts" "_law_sorts" s_lsorts f_lsorts d_lsorts) (T : Txt mg f_many_in f_named_by_voids f_counted_bags f_standing_of f_pages_that_are f_counted_pages f_until f_of_series f_brought f_traffic f_balance f_moved f_by_days f_lfeed f_ldraw f_lfar f_lwords f_loffice f_lruns f_lnames f_ldeed f_lpages f_llow f_lknot f_lbegun f_lbook f_lsorts f_lsame f_lmany f_lbalance f_ldays f_lright f_law) :
    FnOk P w K mg base CX0 (1) f_lsorts d_lsorts ["_law_pages_here"] spSorts := by
  refine F.ok sc_lsorts (fun vs H Q E h => ?_) (fun cdv A outer s H vs Q E hr h => ?_)

  · obtain ⟨l, qs, gs, rfl, _⟩ := h
    rfl
  obtain ⟨l, qs, gs, rfl, hl, pg, gl, nd, q⟩ := h
  refine ⟨_, (pss_cons (ps_set (i := 1) sc_lsorts.nd rfl (.inl rfl) pe_dnewT)
  (pss_cons (ps_for PassesOwn.never rfl (pi_list (pv 0)) (pg_tup rfl (pgs_cons (pg_name (i := 2) sc_lsorts.nd rfl (.inl rfl)) (pgs_cons (pg_name (i := 3) sc_lsorts.nd rfl (.inl rfl)) pgs_nil)))
  (pss_one (ps_if (pt_cmpR op_eq (pe_ix ix_tup (pv 3) pe_int (fun _ _ => rfl)) pe_str (nomark _))
  (pss_one (ps_dput (hu_of hr) (pv 1) (pe_ix ix_tup (pv 3) pe_int (fun _ _ => rfl)) pe_bl rfl))
  pss_nil)))
  (pss_cons (ps_set (i := 4) sc_lsorts.nd rfl (.inr rfl) pe_dnewT)
  (pss_cons (ps_for PassesOwn.never rfl (pi_list (pv 0)) (pg_tup rfl (pgs_cons (pg_name (i := 2) sc_lsorts.nd rfl (.inl rfl)) (pgs_cons (pg_name (i := 3) sc_lsorts.nd rfl (.inl rfl)) pgs_nil)))
  (pss_cons (ps_dput (hu_of hr) (pv 4) (pv 2) pe_str rfl)
  (pss_cons (ps_if (pt_cmp (pc_din (hu_of hr) (pv 2) (pv 1)))
  (pss_one (ps_dput (hu_of hr) (pv 4) (pv 2) pe_str rfl))
  pss_nil)
  (pss_one (ps_if (pt_cmpR op_eq (pe_ix ix_tup (pv 3) pe_int (fun _ _ => rfl)) pe_str (nomark _))
  (pss_one (ps_dput (hu_of hr) (pv 4) (pv 2) pe_str rfl))
  pss_nil)))))
  (pss_cons (ps_setLc (i := 5) (own := [("_law_name", 2), ("_law_deed_here", 3)]) (g := (gTup K 2 (gCons (gName 2) (gCons (gName 3) gNil)))) (by rfl) sc_lsorts.nd rfl rfl (sw_true rfl rfl rfl (by decide +kernel)) (pi_list (pv 0)) (blkOk_by (own := [("_law_name", 2), ("_law_deed_here", 3)]) (N := ["_law_pages_here", "_law_gone", "_law_name", "_law_deed_here", "_law_found", "_law_bags"]) (sc := defScope s_lsorts) (by decide +kernel)) (fun _ _ _ _ _ => (pg_tup rfl (pgs_cons (pg_name (i := 2) sc_lsorts.nd rfl (.inl rfl)) (pgs_cons (pg_name (i := 3) sc_lsorts.nd rfl (.inl rfl)) pgs_nil)))) (fun _ _ _ _ _ => (pts_one (PW.pt (pw_and (pt_cmpR op_eq (pe_ix (show IxR _ (rIxT K) from ix_tup) (pv 3) pe_int (fun _ _ => rfl)) pe_str (nomark _)) (pw_and1 (pt_cmpR op_eq (pe_dget (hu_of hr) (pv 4) (pv 2) (fun _ _ => rfl)) pe_str (nomark _))))))) (fun _ _ _ _ _ => (pv 2)))
  (pss_cons (ps_for PassesOwn.never rfl (pi_list (pv 0)) (pg_tup rfl (pgs_cons (pg_name (i := 2) sc_lsorts.nd rfl (.inl rfl)) (pgs_cons (pg_name (i := 3) sc_lsorts.nd rfl (.inl rfl)) pgs_nil)))
  (pss_one (ps_if (PW.pt (pw_and (pt_cmpR op_eq (pe_ix ix_tup (pv 3) pe_int (fun _ _ => rfl)) pe_str (nomark _)) (pw_and (pt_cmpR op_eq (pe_dget (hu_of hr) (pv 4) (pv 2) (fun _ _ => rfl)) pe_str (nomark _)) (pw_and1 (pt_cmpR (op_notinLP hr) (pe_ix ix_tup (pv 3) pe_int (fun _ _ => rfl)) (pv 5) (by rfl))))))
  (pss_one (ps_dput (hu_of hr) (pv 4) (pv 2) pe_str rfl))
  pss_nil)))
  (pss_one (ps_ret (pv 4))))))))), ?_⟩
  have lq := pg.len
  refine fun G nG => ?_
  have N0 := same_new nG (.dT [])
  refine ⟨_, rfl, l, rfl, ⟨_, SqL.of (N0 _ _ hl)⟩, ?_⟩
  refine for_list (K := K) (a := l) (xs := qs.map V.ref) (fun i σ H' => ∃ (kv : List (List Key × V)) (v2 v3 : Option V), σ = [some (.ref l), some (.ref G), v2, v3, none, none] ∧ Same H H' ∧ H' G = some (.dT kv) ∧ kv.length ≤ i ∧ goneIs (voids (gs.take i)) kv) ?_ ?_ ?_ ?_
  · exact ⟨[], none, none, rfl, N0, upd_same, Nat.le_refl _, fun n => rfl⟩
  · rintro i σ H' _ ⟨_, _, _, _, S, _⟩
    exact SqL.of (S _ _ hl)
  · rintro i y σ H1 hy ⟨kv, v2, v3, rfl, S1, hG1, kl, gone⟩
    obtain ⟨u, hu, rfl⟩ : ∃ u, qs[i]? = some u ∧ y = V.ref u := by
      rw [List.getElem?_map] at hy
      cases e' : qs[i]? with
      | none => rw [e'] at hy; cases hy
      | some p => rw [e'] at hy; exact ⟨p, rfl, (Option.some.inj hy).symm⟩
    obtain ⟨g, hg, at_g⟩ := Pgs.get pg hu
    obtain ⟨na, td, p1, p2, p3⟩ := id at_g
    have him := List.mem_of_getElem? hg
    have hi := (List.getElem?_eq_some_iff.mp hg).1
    obtain ⟨r, hd⟩ := p3.head
    refine ⟨u, _, rfl, SqT.of (S1 _ _ p1), rfl, _, _, rfl, _, _, rfl, rfl, ?_⟩
    refine ⟨_, rfl, td, _, _, _, rfl, rfl, SqT.of (S1 _ _ hd), ix0 _ _, rfl, _, rfl, ?_⟩
    refine ite2 (fun c => ?_) (fun c => ?_)
    · have cv : wOf g.2 = wVoid := V.str.inj (of_decide_eq_true c)
      obtain ⟨m, em⟩ := wOf_void cv
      obtain ⟨qn, r2, h3, h4⟩ := p3.nm (show named g.2 = some m by rw [em]; rfl)
      refine ⟨_, rfl, _, rfl, td, _, _, _, rfl, rfl, SqT.of (S1 _ _ h3), ix1 _ _ _, G, _, rfl, DPut.t (k := nmKey m) hG1 (S1 _ _ h4) (Nat.lt_of_le_of_lt (show _ ≤ 100 by omega) (by decide)), ?_⟩
      refine ⟨_, _, _, rfl, same_mut S1 nG, upd_same, Nat.le_trans (length_putK _ _ _) (by omega), fun n => ?_⟩
      rw [val_nm, gone n]
      have e : n ∈ voids (gs.take (i + 1)) ↔ n ∈ voids (gs.take i) ∨ n = m := by
        rw [voids_take hg, em]
        show _ ∨ n ∈ [m] ↔ _
        rw [List.mem_singleton]
      by_cases c1 : n = m
      · rw [if_pos c1, if_pos (e.mpr (.inr c1))]
      · rw [if_neg c1]
        by_cases c2 : n ∈ voids (gs.take i)
        · rw [if_pos c2, if_pos (e.mpr (.inl c2))]
        · rw [if_neg c2, if_neg (fun k => (e.mp k).elim c2 c1)]
    · refine ⟨kv, _, _, rfl, S1, hG1, by omega, fun n => ?_⟩
      have e : n ∈ voids (gs.take (i + 1)) ↔ n ∈ voids (gs.take i) := by
        rw [voids_take hg]
        refine ⟨fun k => k.elim id fun k => ?_, .inl⟩
        cases hg2 : g.2 with
        | vd m => exact absurd (decide_eq_true (by rw [hg2]; rfl)) c
        | mv a b rs => rw [hg2] at k; exact nomatch k
        | bag a b n => rw [hg2] at k; exact nomatch k
        | rd m rs => rw [hg2] at k; exact nomatch k
        | ct a n => rw [hg2] at k; exact nomatch k
      rw [gone n]
      by_cases c2 : n ∈ voids (gs.take i)
      · rw [if_pos c2, if_pos (e.mpr c2)]
      · rw [if_neg c2, if_neg (fun k => c2 (e.mp k))]
  rintro σ H1 ⟨kg, v2, v3, rfl, S1, hG1, kgl, gone⟩
  rw [List.length_map, lq, List.take_length] at gone
  rw [List.length_map, lq] at kgl
  refine fun F nF => ?_
  have nGF : G ≠ F := ne_of_none hG1 nF
  have N2 := same_new nF (.dT [])
  have S2 := S1.trans N2
  have hG2 : upd H1 F (.dT []) G = some (.dT kg) := N2 _ _ hG1
  have nF0 : H F = none := S1.free nF
  refine ⟨_, rfl, l, rfl, ⟨_, SqL.of (S2 _ _ hl)⟩, ?_⟩
  refine for_list (K := K) (a := l) (xs := qs.map V.ref) (fun i σ H' => ∃ (kv : List (List Key × V)) (v2 v3 : Option V), σ = [some (.ref l), some (.ref G), v2, v3, some (.ref F), none] ∧ Same H H' ∧ H' G = some (.dT kg) ∧ H' F = some (.dT kv) ∧ KeyL nmKey kv ((gs.take i).map (·.1)) ∧ ∀ j g, j < i → gs[j]? = some g → valV kv (nmKey g.1) = some (.str (w1 gs g))) ?_ ?_ ?_ ?_
  · exact ⟨[], _, _, rfl, S2, hG2, upd_same, rfl, fun j g hj => absurd hj (Nat.not_lt_zero _)⟩
  · rintro i σ H' _ ⟨_, _, _, _, S, _⟩
    exact SqL.of (S _ _ hl)
  · clear S2 hG2
    rintro i y σ H2 hy ⟨kv, v2, v3, rfl, S2, hG2, hF2, kl, vals⟩
    obtain ⟨u, hu, rfl⟩ : ∃ u, qs[i]? = some u ∧ y = V.ref u := by
      rw [List.getElem?_map] at hy
      cases e' : qs[i]? with
      | none => rw [e'] at hy; cases hy
      | some p => rw [e'] at hy; exact ⟨p, rfl, (Option.some.inj hy).symm⟩
    obtain ⟨g, hg, at_g⟩ := Pgs.get pg hu
    obtain ⟨na, td, p1, p2, p3⟩ := id at_g
    have him := List.mem_of_getElem? hg
    have hi := (List.getElem?_eq_some_iff.mp hg).1
    obtain ⟨r, hd⟩ := p3.head
    refine ⟨u, _, rfl, SqT.of (S2 _ _ p1), rfl, _, _, rfl, _, _, rfl, rfl, ?_⟩
    have klen : kv.length ≤ 100 := by
      rw [kl.len, List.length_map, List.length_take]
      omega
    refine ⟨_, rfl, _, rfl, F, _, rfl, DPut.t (k := nmKey g.1) hF2 (S2 _ _ p2) (Nat.lt_of_le_of_lt klen (by decide)), ?_⟩
    have put : ∀ (w : Str) (Hx : Hp) (kx : List (List Key × V)), Same H Hx → Hx G = some (.dT kg) → Hx F = some (.dT kx) → KeyL nmKey kx ((gs.take (i + 1)).map (·.1)) → (∀ j h, j < i → gs[j]? = some h → valV kx (nmKey h.1) = some (.str (w1 gs h))) →
        Same H (upd Hx F (.dT (putK kx (nmKey g.1) (.str w)))) ∧ upd Hx F (.dT (putK kx (nmKey g.1) (.str w))) G = some (.dT kg) ∧ KeyL nmKey (putK kx (nmKey g.1) (.str w)) ((gs.take (i + 1)).map (·.1)) ∧ (∀ j h, j < i → gs[j]? = some h → valV (putK kx (nmKey g.1) (.str w)) (nmKey h.1) = some (.str (w1 gs h))) ∧ valV (putK kx (nmKey g.1) (.str w)) (nmKey g.1) = some (.str w) := by
      intro w Hx kx Sx hGx hFx klx vx
      refine ⟨same_mut Sx nF0, (upd_ne nGF).trans hGx, ?_, fun j h hj hh => ?_, ?_⟩
      · have z := KeyL.put (fun a b => nmKey_inj) klx g.1 (.str w)
        rw [if_pos (by rw [take_names hg]; exact List.mem_append_right _ List.mem_cons_self)] at z
        exact z
      · rw [val_nm, if_neg (fun e => by have := names_nth nd hh hg e; omega)]
        exact vx j h hj hh
      · rw [val_nm, if_pos rfl]
    have k1 : KeyL nmKey (putK kv (nmKey g.1) (.str (Str.ofString "counted"))) ((gs.take (i + 1)).map (·.1)) := by
      have z := KeyL.put (fun a b => nmKey_inj) kl g.1 (.str (Str.ofString "counted"))
      rw [if_neg (name_new nd hg), ← take_names hg] at z
      exact z
    have v1 : ∀ j h, j < i → gs[j]? = some h → valV (putK kv (nmKey g.1) (.str (Str.ofString "counted"))) (nmKey h.1) = some (.str (w1 gs h)) := fun j h hj hh => by
      rw [val_nm, if_neg (fun e => by have := names_nth nd hh hg e; omega)]
      exact vals j h hj hh
    have e1 : valV (putK kv (nmKey g.1) (.str (Str.ofString "counted"))) (nmKey g.1) = some (.str (Str.ofString "counted")) := by rw [val_nm, if_pos rfl]
    have S3 := same_mut (o := .dT (putK kv (nmKey g.1) (.str (Str.ofString "counted")))) S2 nF0
    have hG3 : upd H2 F (.dT (putK kv (nmKey g.1) (.str (Str.ofString "counted")))) G = some (.dT kg) := (upd_ne nGF).trans hG2
    have hF3 : upd H2 F (.dT (putK kv (nmKey g.1) (.str (Str.ofString "counted")))) F = some (.dT (putK kv (nmKey g.1) (.str (Str.ofString "counted")))) := upd_same
    generalize hH3 : upd H2 F (.dT (putK kv (nmKey g.1) (.str (Str.ofString "counted")))) = H3 at *
    generalize hkv : putK kv (nmKey g.1) (.str (Str.ofString "counted")) = kw at *
    clear hH3 hkv
    have fin : ∀ (Hx : Hp) (kx : List (List Key × V)), Same H Hx → Hx G = some (.dT kg) → Hx F = some (.dT kx) → KeyL nmKey kx ((gs.take (i + 1)).map (·.1)) → (∀ j h, j < i → gs[j]? = some h → valV kx (nmKey h.1) = some (.str (w1 gs h))) → valV kx (nmKey g.1) = some (.str (w1 gs g)) →
        ∃ (kv : List (List Key × V)) (v2 v3 : Option V), [some (.ref l), some (.ref G), some (.ref na), some (.ref td), some (.ref F), none] = [some (V.ref l), some (.ref G), v2, v3, some (.ref F), none] ∧ Same H Hx ∧ Hx G = some (.dT kg) ∧ Hx F = some (.dT kv) ∧ KeyL nmKey kv ((gs.take (i + 1)).map (·.1)) ∧ ∀ j g, j < i + 1 → gs[j]? = some g → valV kv (nmKey g.1) = some (.str (w1 gs g)) := fun Hx kx a b c d e f =>
      ⟨kx, _, _, rfl, a, b, c, d, fun j h hj hh => by
        by_cases cj : j < i
        · exact e j h cj hh
        · have : j = i := by omega
          subst this
          cases Option.some.inj (hh.symm.trans hg)
          exact f⟩
    have klw : kw.length ≤ 101 := by
      rw [k1.len, List.length_map, List.length_take]
      omega
    have nv : (Str.ofString "void") = wVoid := rfl
    refine ⟨_, rfl, _, rfl, G, _, rfl, DGet.t (k := nmKey g.1) hG3 (S3 _ _ p2), _, rfl, ?_⟩
    rw [gone g.1]
    by_cases c1 : g.1 ∈ voids gs
    · rw [if_pos c1]
      refine iteT ⟨_, rfl, _, rfl, F, _, rfl, DPut.t (k := nmKey g.1) hF3 (S3 _ _ p2) (Nat.lt_of_le_of_lt klw (by decide)), ?_⟩
      obtain ⟨S4, hG4, k4, v4, e4⟩ := put (Str.ofString "voided") H3 kw S3 hG3 hF3 k1 v1
      have hF4 : upd H3 F (.dT (putK kw (nmKey g.1) (.str (Str.ofString "voided")))) F = some (.dT (putK kw (nmKey g.1) (.str (Str.ofString "voided")))) := upd_same
      generalize hH4 : upd H3 F (.dT (putK kw (nmKey g.1) (.str (Str.ofString "voided")))) = H4 at *
      generalize hk4 : putK kw (nmKey g.1) (.str (Str.ofString "voided")) = k5 at *
      have kl5 : k5.length ≤ 101 := by
        rw [k4.len, List.length_map, List.length_take]
        omega
      refine ⟨_, rfl, td, _, _, _, rfl, rfl, SqT.of (S4 _ _ hd), ix0 _ _, rfl, _, rfl, ?_⟩
      refine ite2 (fun c => ?_) (fun c => ?_)
      · refine ⟨_, rfl, _, rfl, F, _, rfl, DPut.t (k := nmKey g.1) hF4 (S4 _ _ p2) (Nat.lt_of_le_of_lt kl5 (by decide)), ?_⟩
        obtain ⟨S6, hG6, k6, v6, e6⟩ := put (Str.ofString "void") H4 k5 S4 hG4 hF4 k4 v4
        refine fin _ _ S6 hG6 upd_same k6 v6 (e6.trans ?_)
        unfold w1
        rw [if_pos (show wOf g.2 = wVoid from V.str.inj (of_decide_eq_true c))]
      · refine fin _ _ S4 hG4 hF4 k4 v4 (e4.trans ?_)
        unfold w1
        rw [if_neg (fun z => c (decide_eq_true (by rw [z]; rfl))), if_pos c1]
    · rw [if_neg c1]
      refine iteF ?_
      refine ⟨_, rfl, td, _, _, _, rfl, rfl, SqT.of (S3 _ _ hd), ix0 _ _, rfl, _, rfl, ?_⟩
      refine ite2 (fun c => ?_) (fun c => ?_)
      · refine ⟨_, rfl, _, rfl, F, _, rfl, DPut.t (k := nmKey g.1) hF3 (S3 _ _ p2) (Nat.lt_of_le_of_lt klw (by decide)), ?_⟩
        obtain ⟨S6, hG6, k6, v6, e6⟩ := put (Str.ofString "void") H3 kw S3 hG3 hF3 k1 v1
        refine fin _ _ S6 hG6 upd_same k6 v6 (e6.trans ?_)
        unfold w1
        rw [if_pos (show wOf g.2 = wVoid from V.str.inj (of_decide_eq_true c))]
      · refine fin _ _ S3 hG3 hF3 k1 v1 (e1.trans ?_)
        unfold w1
        rw [if_neg (fun z => c (decide_eq_true (by rw [z]; rfl))), if_neg c1]
  clear S2 hG2
  rintro σ H2 ⟨kv, v2, v3, rfl, S2, hG2, hF2, kl, vals⟩
  rw [List.length_map, lq] at vals
  rw [List.length_map, lq, List.take_length] at kl
  have val : ∀ g ∈ gs, valV kv (nmKey g.1) = some (.str (w1 gs g)) := fun g hg => by
    obtain ⟨j, hj⟩ := List.mem_iff_getElem?.mp hg
    exact vals j g (List.getElem?_eq_some_iff.mp hj).1 hj
  refine ⟨_, rfl, l, rfl, ⟨_, SqL.of (S2 _ _ hl)⟩, fun B nB => ?_⟩
  have N3 := same_new nB (.lst [])
  have nBF : F ≠ B := ne_of_none hF2 nB
  refine lc_list (K := K) (a := l) (xs := qs.map V.ref) (fun i H' => ∃ (as : List Addr) (ns : List Nm), Same H2 H' ∧ H' B = some (.lst (as.map V.ref)) ∧ Nms H' as ns ∧ as.length ≤ i ∧ ∀ n, n ∈ ns ↔ ∃ j g, j < i ∧ gs[j]? = some g ∧ g.1 = n ∧ isBag g.2 = true ∧ g.1 ∉ voids gs) ⟨[], [], N3, upd_same, .nil, Nat.le_refl _, fun n => ⟨fun z => (nomatch z), fun ⟨j, g, hj, _⟩ => absurd hj (Nat.not_lt_zero _)⟩⟩ (fun i H' _ h => by obtain ⟨_, _, S, _⟩ := h; exact SqL.of (S _ _ (S2 _ _ hl))) ?_ ?_
  · rintro i y H3 hy ⟨as, ns, S3, hB3, nm3, al, mem⟩
    obtain ⟨u, hu, rfl⟩ : ∃ u, qs[i]? = some u ∧ y = V.ref u := by
      rw [List.getElem?_map] at hy
      cases e' : qs[i]? with
      | none => rw [e'] at hy; cases hy
      | some p => rw [e'] at hy; exact ⟨p, rfl, (Option.some.inj hy).symm⟩
    obtain ⟨g, hg, at_g⟩ := Pgs.get pg hu
    obtain ⟨na, td, p1, p2, p3⟩ := id at_g
    have him := List.mem_of_getElem? hg
    have hi := (List.getElem?_eq_some_iff.mp hg).1
    obtain ⟨r, hd⟩ := p3.head
    have T3 := S2.trans S3
    have dg : DGet H3 F (.ref na) (some (.str (w1 gs g))) := by
      rw [← val g him]
      exact DGet.t (k := nmKey g.1) (S3 _ _ hF2) (T3 _ _ p2)
    have skip : ¬ (isBag g.2 = true ∧ g.1 ∉ voids gs) → ∃ (as : List Addr) (ns : List Nm), Same H2 H3 ∧ H3 B = some (.lst (as.map V.ref)) ∧ Nms H3 as ns ∧ as.length ≤ i + 1 ∧ ∀ n, n ∈ ns ↔ ∃ j g, j < i + 1 ∧ gs[j]? = some g ∧ g.1 = n ∧ isBag g.2 = true ∧ g.1 ∉ voids gs := fun no =>
      ⟨as, ns, S3, hB3, nm3, by omega, fun n => by
        rw [mem n]
        refine ⟨fun ⟨j, h, hj, a⟩ => ⟨j, h, by omega, a⟩, fun ⟨j, h, hj, a1, a2, a3⟩ => ?_⟩
        by_cases cj : j < i
        · exact ⟨j, h, cj, a1, a2, a3⟩
        · have : j = i := by omega
          subst this
          cases Option.some.inj (a1.symm.trans hg)
          exact absurd a3 no⟩
    refine ⟨u, _, rfl, SqT.of (T3 _ _ p1), rfl, _, _, rfl, _, _, rfl, rfl, rfl, ?_⟩
    refine ⟨_, rfl, td, _, _, _, rfl, rfl, SqT.of (T3 _ _ hd), ix0 _ _, rfl, _, rfl, ?_⟩
    refine ite2 (fun c => ?_) (fun c => ?_)
    · have cb : isBag g.2 = true := wOf_bag.mp (V.str.inj (of_decide_eq_true c))
      refine ⟨_, rfl, _, rfl, F, _, rfl, dg, rfl, _, rfl, ?_⟩
      refine ite2 (fun c2 => ?_) (fun c2 => ?_)
      · have cv := (w1_bag cb).mp (V.str.inj (of_decide_eq_true c2))
        refine ⟨_, rfl, _, hB3, ?_, as ++ [na], ns ++ [g.1], same_mut S3 nB, ?_, ?_, ?_, fun n => ?_⟩
        · rw [List.length_map]
          exact Nat.lt_of_le_of_lt (show _ ≤ 100 by omega) (by decide)
        · rw [upd_same, List.map_append]
          rfl
        · exact (nm3.tk (tkmut hB3)).app (.cons (tkmut hB3 _ _ (T3 _ _ p2)) .nil)
        · rw [List.length_append, List.length_singleton]
          omega
        · rw [List.mem_append, mem n, List.mem_singleton]
          constructor
          · rintro (⟨j, h, hj, a⟩ | rfl)
            · exact ⟨j, h, by omega, a⟩
            · exact ⟨i, g, Nat.lt_succ_self _, hg, rfl, cb, cv⟩
          · rintro ⟨j, h, hj, a1, a2, a3⟩
            by_cases cj : j < i
            · exact .inl ⟨j, h, cj, a1, a2, a3⟩
            · have : j = i := by omega
              subst this
              cases Option.some.inj (a1.symm.trans hg)
              exact .inr a2.symm
      · exact skip fun z => c2 (decide_eq_true (congrArg V.str ((w1_bag cb).mpr z.2)))
    · exact skip fun z => c (decide_eq_true (congrArg V.str (wOf_bag.mpr z.1)))
  rintro H3 ⟨as, ns, S3, hB3, nm3, al, mem⟩
  rw [List.length_map, lq] at al
  have bags : ∀ n, n ∈ ns ↔ cbB gs n = true := fun n => by
    rw [mem n, cbB_iff]
    constructor
    · rintro ⟨j, h, hj, a1, a2, a3, a4⟩
      exact ⟨h, List.mem_of_getElem? a1, a2, a3, a2 ▸ a4⟩
    · rintro ⟨h, hh, a1, a2, a3⟩
      obtain ⟨j, hj⟩ := List.mem_iff_getElem?.mp hh
      exact ⟨j, h, by rw [List.length_map, lq]; exact (List.getElem?_eq_some_iff.mp hj).1, hj, a1, a2, a1 ▸ a3⟩
  have T3 := S2.trans S3
  refine ⟨_, rfl, l, rfl, ⟨_, SqL.of (T3 _ _ hl)⟩, ?_⟩
  have nBF' : B ≠ F := Ne.symm nBF
  refine for_list (K := K) (a := l) (xs := qs.map V.ref) (fun i σ H' => ∃ (kx : List (List Key × V)) (v2 v3 : Option V), σ = [some (.ref l), some (.ref G), v2, v3, some (.ref F), some (.ref B)] ∧ Same H H' ∧ H' F = some (.dT kx) ∧ H' B = some (.lst (as.map V.ref)) ∧ Nms H' as ns ∧ KeyL nmKey kx (gs.map (·.1)) ∧ ∀ j g, gs[j]? = some g → valV kx (nmKey g.1) = some (.str (if j < i then lawW gs g else w1 gs g))) ?_ ?_ ?_ ?_
  · exact ⟨kv, _, _, rfl, T3, S3 _ _ hF2, hB3, nm3, kl, fun j g hj => by rw [if_neg (Nat.not_lt_zero _)]; exact val g (List.mem_of_getElem? hj)⟩
  · rintro i σ H' _ ⟨_, _, _, _, S, _⟩
    exact SqL.of (S _ _ hl)
  · rintro i y σ H4 hy ⟨kx, v2, v3, rfl, S4, hF4, hB4, nm4, kl4, val4⟩
    obtain ⟨u, hu, rfl⟩ : ∃ u, qs[i]? = some u ∧ y = V.ref u := by
      rw [List.getElem?_map] at hy
      cases e' : qs[i]? with
      | none => rw [e'] at hy; cases hy
      | some p => rw [e'] at hy; exact ⟨p, rfl, (Option.some.inj hy).symm⟩
    obtain ⟨g, hg, at_g⟩ := Pgs.get pg hu
    obtain ⟨na, td, p1, p2, p3⟩ := id at_g
    have him := List.mem_of_getElem? hg
    have hi := (List.getElem?_eq_some_iff.mp hg).1
    obtain ⟨r, hd⟩ := p3.head
    have dg : DGet H4 F (.ref na) (some (.str (w1 gs g))) := by
      have z := val4 i g hg
      rw [if_neg (Nat.lt_irrefl _)] at z
      rw [← z]
      exact DGet.t (k := nmKey g.1) hF4 (S4 _ _ p2)
    have stay : lawW gs g = w1 gs g → ∀ j h, gs[j]? = some h → valV kx (nmKey h.1) = some (.str (if j < i + 1 then lawW gs h else w1 gs h)) := fun e j h hj => by
      rw [val4 j h hj]
      by_cases c1 : j < i
      · rw [if_pos c1, if_pos (by omega)]
      · rw [if_neg c1]
        by_cases c2 : j < i + 1
        · have : j = i := by omega
          subst this
          cases Option.some.inj (hj.symm.trans hg)
          rw [if_pos c2, e]
        · rw [if_neg c2]
    refine ⟨u, _, rfl, SqT.of (S4 _ _ p1), rfl, _, _, rfl, _, _, rfl, rfl, ?_⟩
    refine ⟨_, rfl, td, _, _, _, rfl, rfl, SqT.of (S4 _ _ hd), ix0 _ _, rfl, _, rfl, ?_⟩
    refine ite2 (fun c => ?_) (fun c => ?_)
    · obtain ⟨m, rr, em⟩ := wOf_read (show wOf g.2 = wRead from V.str.inj (of_decide_eq_true c))
      obtain ⟨qn, r2, h3, h4⟩ := p3.nm (show named g.2 = some m by rw [em]; rfl)
      have lw : lawW gs g = if w1 gs g = (("counted" : String) : Str) ∧ cbB gs m = false then (("waits" : String) : Str) else w1 gs g := by
        unfold lawW
        rw [em]
      refine ⟨_, rfl, _, rfl, F, _, rfl, dg, rfl, _, rfl, ?_⟩
      refine ite2 (fun c2 => ?_) (fun c2 => ?_)
      · have cc : w1 gs g = (("counted" : String) : Str) := V.str.inj (of_decide_eq_true c2)
        refine ⟨_, rfl, td, _, _, _, rfl, rfl, SqT.of (S4 _ _ h3), ix1 _ _ _, _, rfl, nmD m, ns.map nmD, nmD_dp (S4 _ _ h4), .lst (SqL.of hB4) (Nms.dp nm4), rfl, nms_plain ns, nm_dep m, _, rfl, ?_⟩
        rw [Bool.true_xor, nm_any]
        by_cases c3 : m ∈ ns
        · rw [decide_eq_true c3]
          refine ⟨kx, _, _, rfl, S4, hF4, hB4, nm4, kl4, stay ?_⟩
          rw [lw, if_neg (fun z => by rw [(bags m).mp c3] at z; exact nomatch z.2)]
        · rw [decide_eq_false c3]
          refine ⟨_, rfl, _, rfl, F, _, rfl, DPut.t (k := nmKey g.1) hF4 (S4 _ _ p2) (by rw [kl4.len, List.length_map]; exact Nat.lt_of_le_of_lt gl (by decide)), ?_⟩
          have tkF : Tk H4 (upd H4 F (.dT (putK kx (nmKey g.1) (.str (Str.ofString "waits"))))) := fun a ys e => (upd_ne (ne_of e hF4 fun z => nomatch z)).trans e
          refine ⟨_, _, _, rfl, same_mut S4 nF0, upd_same, (upd_ne nBF').trans hB4, nm4.tk tkF, ?_, fun j h hj => ?_⟩
          · have z := KeyL.put (fun a b => nmKey_inj) kl4 g.1 (.str (Str.ofString "waits"))
            rw [if_pos (List.mem_map.mpr ⟨g, him, rfl⟩)] at z
            exact z
          · rw [val_nm]
            have cbf : cbB gs m = false := by
              cases e : cbB gs m with
              | false => rfl
              | true => exact absurd ((bags m).mpr e) c3
            by_cases c1 : h.1 = g.1
            · have := names_nth nd hj hg c1
              subst this
              cases Option.some.inj (hj.symm.trans hg)
              rw [if_pos rfl, if_pos (Nat.lt_succ_self _), lw, if_pos ⟨cc, cbf⟩]
            · rw [if_neg c1, val4 j h hj]
              by_cases c4 : j < i
              · rw [if_pos c4, if_pos (by omega)]
              · rw [if_neg c4, if_neg (fun c5 => c1 (by
                  have : j = i := by omega
                  subst this
                  cases Option.some.inj (hj.symm.trans hg)
                  rfl))]
      · refine ⟨kx, _, _, rfl, S4, hF4, hB4, nm4, kl4, stay ?_⟩
        rw [lw, if_neg (fun z => c2 (decide_eq_true (congrArg V.str z.1)))]
    · refine ⟨kx, _, _, rfl, S4, hF4, hB4, nm4, kl4, stay ?_⟩
      unfold lawW
      cases hg2 : g.2 with
      | rd m rr => exact absurd (decide_eq_true (congrArg V.str (show wOf g.2 = _ by rw [hg2]; rfl))) c
      | mv a b rs => rfl
      | bag a b n => rfl
      | ct a n => rfl
      | vd m => rfl
  rintro σ H4 ⟨kx, v2, v3, rfl, S4, hF4, hB4, nm4, kl4, val4⟩
  refine ⟨_, rfl, q F kx H4 S4 nF0 hF4 kl4 fun g hg => ?_⟩
  obtain ⟨j, hj⟩ := List.mem_iff_getElem?.mp hg
  have z := val4 j g hj
  rw [if_pos (by rw [List.length_map, lq]; exact (List.getElem?_eq_some_iff.mp hj).1)] at z
  exact z

theorem ok_lmany (F : Fun K "_law_many" "_law_many" s_lmany f_lmany d_lmany) (T : Txt mg f_many_in f_named_by_voids f_counted_bags f_standing_of f_pages_that_are f_counted_pages f_until f_of_series f_brought f_traffic f_balance f_moved f_by_days f_lfeed f_ldraw f_lfar f_lwords f_loffice f_lruns f_lnames f_ldeed f_lpages f_llow f_lknot f_lbegun f_lbook f_lsorts f_lsame f_lmany f_lbalance f_ldays f_lright f_law) :
    FnOk P w K mg base CX0 (1) f_lmany d_lmany ["_law_deed_here", "_law_series"] (spLMany K) := by
  refine F.ok sc_lmany (fun vs H Q E h => ?_) (fun cdv A outer s H vs Q E hr h => ?_)

  · obtain ⟨t, so, d, rfl, _⟩ := h
    rfl
  obtain ⟨t, so, d, rfl, hd, mb, q⟩ := h
  refine ⟨_, (pss_cons (ps_if (pt_cmpR op_eq (pe_ix ix_tup (pv 0) pe_int (fun _ _ => rfl)) pe_str (nomark _))
  (pss_one (ps_ret (pe_ifExp (pt_cmpR op_isN (pv 1) pe_non (nomark _)) (pe_ix ix_tup (pv 0) pe_int (fun _ _ => rfl)) pe_int)))
  pss_nil)
  (pss_one (ps_ret (pe_callB (cr_sum rfl) (by rfl) T.sum (by decide +kernel) (pa_cons (pe_lc (own := [("_law_one", 2), ("_law_at", 3), ("_law_to", 4)]) (g := (gTup K 3 (gCons (gName 2) (gCons (gName 3) (gCons (gName 4) gNil))))) (by rfl) sc_lmany.nd (pi_tup (pe_ix ix_tup (pv 0) pe_int (fun _ _ => rfl))) (blkOk_by (own := [("_law_one", 2), ("_law_at", 3), ("_law_to", 4)]) (N := ["_law_deed_here", "_law_series", "_law_one", "_law_at", "_law_to"]) (sc := defScope s_lmany) (by decide +kernel)) (fun _ _ _ _ _ => (pg_tup rfl (pgs_cons (pg_name (i := 2) sc_lmany.nd rfl (.inl rfl)) (pgs_cons (pg_name (i := 3) sc_lmany.nd rfl (.inl rfl)) (pgs_cons (pg_name (i := 4) sc_lmany.nd rfl (.inl rfl)) pgs_nil))))) (fun _ _ _ _ _ => (pts_one (PW.pt (pw_or (pt_cmpR op_isN (pv 1) pe_non (nomark _)) (pw_or1 (pt_cmpR op_eq (pv 2) (pv 1) (nomark _))))))) (fun _ _ _ _ _ => (pe_op op_sub (pv 4) (pv 3)))) pa_nil))))), ?_⟩
  cases d with
  | bag a b n =>
    have ht : H t = some (.tup [.str wBag, .str a, .str b, .int n]) := hd
    refine ⟨_, rfl, t, _, _, _, rfl, rfl, SqT.of ht, rfl, rfl, _, rfl, iteT ?_⟩
    cases so with
    | none => exact ⟨_, rfl, rfl, _, rfl, iteT ⟨_, rfl, t, _, _, _, rfl, rfl, SqT.of ht, rfl, q H (Same.refl _)⟩⟩
    | some s => exact ⟨_, rfl, rfl, _, rfl, iteF (q H (Same.refl _))⟩
  | mv a b rs =>
    obtain ⟨u, ht, qs, hu, hp, hl⟩ := hd
    refine ⟨_, rfl, t, _, _, _, rfl, rfl, SqT.of ht, rfl, rfl, _, rfl, iteF ?_⟩
    have ql := hp.len
    refine ⟨_, rfl, t, _, _, _, rfl, rfl, SqT.of ht, rfl, u, rfl, ⟨_, SqT.of hu⟩, fun D nD => ?_⟩
    cases so with
    | none =>
      refine lc_tup (K := K) (a := u) (xs := qs.map V.ref) (fun i H' => Same H H' ∧ H' D = some (.lst (((rs.take i).map cnt).map V.int))) ⟨same_new nD _, upd_same⟩ (fun i H' _ h => SqT.of (h.1 _ _ hu)) ?_ ?_
      · rintro i x H1 hx ⟨S1, hD⟩
        obtain ⟨w, hw, rfl⟩ : ∃ w, qs[i]? = some w ∧ x = V.ref w := by
          rw [List.getElem?_map] at hx
          cases e : qs[i]? with
          | none => rw [e] at hx; cases hx
          | some p => rw [e] at hx; exact ⟨p, rfl, (Option.some.inj hx).symm⟩
        obtain ⟨r, hr, hr2⟩ := Prd.get hp hw
        obtain ⟨hi, er⟩ := List.getElem?_eq_some_iff.mp hr
        refine ⟨w, _, rfl, SqT.of (S1 _ _ hr2), rfl, _, _, rfl, _, _, rfl, _, _, rfl, rfl, rfl, _, rfl, rfl, _, rfl, iteT ?_⟩
        refine ⟨_, rfl, _, rfl, _, _, rfl, rfl, _, hD, ?_, same_mut S1 nD, ?_⟩
        · rw [List.length_map, List.length_map, List.length_take]
          exact Nat.lt_of_le_of_lt (show _ ≤ 1000 by omega) (by decide)
        · rw [upd_same, List.take_succ_eq_append_getElem hi, List.map_append, List.map_append, er]
          rfl
      · rintro H1 ⟨S1, hD⟩
        rw [List.length_map, ql, List.take_length] at hD
        exact ⟨D, _, rfl, SqL.of hD, q H1 S1⟩
    | some s =>
      refine lc_tup (K := K) (a := u) (xs := qs.map V.ref) (fun i H' => Same H H' ∧ H' D = some (.lst (((ofL s (rs.take i)).map cnt).map V.int))) ⟨same_new nD _, upd_same⟩ (fun i H' _ h => SqT.of (h.1 _ _ hu)) ?_ ?_
      · rintro i x H1 hx ⟨S1, hD⟩
        obtain ⟨w, hw, rfl⟩ : ∃ w, qs[i]? = some w ∧ x = V.ref w := by
          rw [List.getElem?_map] at hx
          cases e : qs[i]? with
          | none => rw [e] at hx; cases hx
          | some p => rw [e] at hx; exact ⟨p, rfl, (Option.some.inj hx).symm⟩
        obtain ⟨r, hr, hr2⟩ := Prd.get hp hw
        obtain ⟨hi, er⟩ := List.getElem?_eq_some_iff.mp hr
        have more : ofL s (rs.take (i + 1)) = ofL s (rs.take i) ++ (if r.1 = s then [r] else []) := by
          unfold ofL
          rw [List.take_succ_eq_append_getElem hi, List.filter_append, er]
          congr 1
          by_cases c : r.1 = s <;> simp [c]
        have fl : (ofL s (rs.take i)).length ≤ 1000 := by
          refine Nat.le_trans (List.length_filter_le _ _) ?_
          rw [List.length_take]
          omega
        refine ⟨w, _, rfl, SqT.of (S1 _ _ hr2), rfl, _, _, rfl, _, _, rfl, _, _, rfl, rfl, rfl, _, rfl, rfl, _, rfl, iteF ?_⟩
        refine ⟨_, rfl, _, rfl, rfl, _, rfl, ?_⟩
        refine ite2 (fun c => ?_) (fun c => ?_)
        · rw [if_pos (V.str.inj (of_decide_eq_true c))] at more
          refine ⟨_, rfl, _, rfl, _, _, rfl, rfl, _, hD, ?_, same_mut S1 nD, ?_⟩
          · rw [List.length_map, List.length_map]
            exact Nat.lt_of_le_of_lt fl (by decide)
          · rw [upd_same, more, List.map_append, List.map_append]
            rfl
        · rw [if_neg (fun k => c (decide_eq_true (congrArg V.str k))), List.append_nil] at more
          exact ⟨S1, by rw [more]; exact hD⟩
      · rintro H1 ⟨S1, hD⟩
        rw [List.length_map, ql, List.take_length] at hD
        exact ⟨D, _, rfl, SqL.of hD, q H1 S1⟩
  | rd m rs => exact nomatch mb
  | ct a n => exact nomatch mb
  | vd m => exact nomatch mb

theorem ok_lbalance (F : Fun K "_law_balance" "_law_balance" s_lbalance f_lbalance d_lbalance) (T : Txt mg f_many_in f_named_by_voids f_counted_bags f_standing_of f_pages_that_are f_counted_pages f_until f_of_series f_brought f_traffic f_balance f_moved f_by_days f_lfeed f_ldraw f_lfar f_lwords f_loffice f_lruns f_lnames f_ldeed f_lpages f_llow f_lknot f_lbegun f_lbook f_lsorts f_lsame f_lmany f_lbalance f_ldays f_lright f_law)
    (F_lsorts : Fun K "_law_sorts" "_law_sorts" s_lsorts f_lsorts d_lsorts) (b_lsorts : Binds K d_lsorts ["_law_pages_here"] []) (G_lsorts : FnOk P w K mg base CX0 (2) f_lsorts d_lsorts ["_law_pages_here"] spSorts)
    (F_lmany : Fun K "_law_many" "_law_many" s_lmany f_lmany d_lmany) (b_lmany : Binds K d_lmany ["_law_deed_here", "_law_series"] []) (G_lmany : FnOk P w K mg base CX0 (2) f_lmany d_lmany ["_law_deed_here", "_law_series"] (spLMany K)) :
    FnOk P w K mg base CX0 (3) f_lbalance d_lbalance ["_law_pages_here", "_law_place", "_law_series"] spLBal := by
  refine F.ok sc_lbalance (fun vs H Q E h => ?_) (fun cdv A outer s H vs Q E hr h => ?_)

  · obtain ⟨l, p, so, qs, gs, rfl, _⟩ := h
    rfl
  obtain ⟨l, p, so, qs, gs, rfl, hl, pg, gl, nd, q⟩ := h
  refine ⟨_, (pss_cons (ps_set (i := 3) sc_lbalance.nd rfl (.inl rfl) (pe_call G_lsorts hr (by rfl) T.m_lsorts F_lsorts.kp b_lsorts .nil pass0 (pa_cons (pv 0) pa_nil)))
  (pss_cons (ps_set (i := 4) sc_lbalance.nd rfl (.inl rfl) pe_int)
  (pss_cons (ps_for PassesOwn.never rfl (pi_list (pv 0)) (pg_tup rfl (pgs_cons (pg_name (i := 5) sc_lbalance.nd rfl (.inl rfl)) (pgs_cons (pg_name (i := 6) sc_lbalance.nd rfl (.inl rfl)) pgs_nil)))
  (pss_one (ps_if (PW.pt (pw_and (pt_cmpR op_eq (pe_dget (hu_of hr) (pv 3) (pv 5) (fun _ _ => rfl)) pe_str (nomark _)) (pw_and1 (pt_cmpR op_in_seq (pe_ix ix_tup (pv 6) pe_int (fun _ _ => rfl)) (pe_tup (pa_cons pe_str (pa_cons pe_str pa_nil))) (by rfl)))))
  (pss_cons (ps_if (pt_cmpR op_eq (pe_ix ix_tup (pv 6) pe_int (fun _ _ => rfl)) (pv 1) (nomark _))
  (pss_one (ps_set (i := 4) sc_lbalance.nd rfl (.inl rfl) (pe_op op_add (pv 4) (pe_call G_lmany hr (by rfl) T.m_lmany F_lmany.kp b_lmany .nil pass0 (pa_cons (pv 6) (pa_cons (pv 2) pa_nil))))))
  pss_nil)
  (pss_one (ps_if (pt_cmpR op_eq (pe_ix ix_tup (pv 6) pe_int (fun _ _ => rfl)) (pv 1) (nomark _))
  (pss_one (ps_set (i := 4) sc_lbalance.nd rfl (.inl rfl) (pe_op op_sub (pv 4) (pe_call G_lmany hr (by rfl) T.m_lmany F_lmany.kp b_lmany .nil pass0 (pa_cons (pv 6) (pa_cons (pv 2) pa_nil))))))
  pss_nil)))
  pss_nil)))
  (pss_one (ps_ret (pv 4)))))), ?_⟩
  refine ⟨_, rfl, l, qs, gs, rfl, hl, pg, gl, nd, fun D kvs H1 S1 nD hD kl val => ?_⟩
  have lq := pg.len
  have pg1 := pg.tk (Tk.same S1)
  have wl : ∀ (i : Nat) (g : Pg), gs[i]? = some g → (((gs.take (i + 1)).filter fun g => decide (lawW gs g = wCd)).map (lbOf p so)).sum = (((gs.take i).filter fun g => decide (lawW gs g = wCd)).map (lbOf p so)).sum + (if lawW gs g = wCd then lbOf p so g else 0) := fun i g hg => by
    obtain ⟨hi, eg⟩ := List.getElem?_eq_some_iff.mp hg
    rw [List.take_succ_eq_append_getElem hi, List.filter_append, List.map_append, List.sum_append, eg]
    by_cases c : lawW gs g = wCd <;> simp [c]
  refine ⟨_, rfl, l, rfl, ⟨_, SqL.of (S1 _ _ hl)⟩, ?_⟩
  refine for_list (K := K) (a := l) (xs := qs.map V.ref) (fun i σ H' => ∃ (v5 v6 : Option V), σ = [some (.ref l), some (.str p), some (soV so), some (.ref D), some (.int (((gs.take i).filter fun g => decide (lawW gs g = wCd)).map (lbOf p so)).sum), v5, v6] ∧ Same H1 H') ⟨none, none, rfl, Same.refl _⟩ (fun i σ H' _ h => by obtain ⟨_, _, _, k⟩ := h; exact SqL.of (k _ _ (S1 _ _ hl))) ?_ ?_
  · rintro i x σ H2 hx ⟨v5, v6, rfl, S2⟩
    obtain ⟨u, hu, rfl⟩ : ∃ u, qs[i]? = some u ∧ x = V.ref u := by
      rw [List.getElem?_map] at hx
      cases e : qs[i]? with
      | none => rw [e] at hx; cases hx
      | some p => rw [e] at hx; exact ⟨p, rfl, (Option.some.inj hx).symm⟩
    obtain ⟨g, hg, na, td, p1, p2, p3⟩ := Pgs.get pg1 hu
    have more := wl i g hg
    have P3 := p3.tk (Tk.same S2)
    have dg : DGet H2 D (.ref na) (some (.str (lawW gs g))) := by
      rw [← val g (List.mem_of_getElem? hg)]
      exact DGet.t (k := nmKey g.1) (S2 _ _ hD) (S2 _ _ p2)
    refine ⟨u, _, rfl, SqT.of (S2 _ _ p1), rfl, _, _, rfl, _, _, rfl, rfl, ?_⟩
    refine ⟨_, rfl, _, rfl, D, _, rfl, dg, rfl, _, rfl, ?_⟩
    refine ite2 (fun c => ?_) (fun c => ?_)
    · have c' : lawW gs g = wCd := V.str.inj (of_decide_eq_true c)
      rw [if_pos c'] at more
      rw [more]
      obtain ⟨r, hd⟩ := P3.head
      refine ⟨_, rfl, td, _, _, _, rfl, rfl, SqT.of hd, ix0 _ _, (show 2 ≤ sizeLine by decide), fun tp ntp => ?_⟩
      have Ntp := same_new ntp (.tup [.str (Str.ofString "move"), .str (Str.ofString "bag")])
      refine ⟨tp, _, rfl, .inr (SqT.of upd_same), rfl, rfl, _, congrArg V.bl ((if_neg Bool.false_ne_true).trans (in_mb g.2)), ?_⟩
      generalize upd H2 tp (.tup [.str (Str.ofString "move"), .str (Str.ofString "bag")]) = H3 at *
      have P4 := P3.tk (Tk.same Ntp)
      have S3 := S2.trans Ntp
      cases mb : isMB g.2 with
      | false =>
        have e0 : lbOf p so g = 0 := by unfold lbOf; rw [mb]; rfl
        rw [e0, Int.add_zero]
        exact iteF ⟨_, _, rfl, S3⟩
      | true =>
        refine iteT ?_
        obtain ⟨w, r', hw⟩ := endsOf_at P4 mb
        have e1 : lbOf p so g = (if (endsOfD g.2).2 = p then lmD so g.2 else 0) - (if (endsOfD g.2).1 = p then lmD so g.2 else 0) := by unfold lbOf; rw [if_pos mb]
        rw [e1]
        have fin : ∀ {m n : Int}, m = n → [some (V.ref l), some (.str p), some (soV so), some (.ref D), some (.int m), some (.ref na), some (.ref td)] = [some (V.ref l), some (.str p), some (soV so), some (.ref D), some (.int n), some (.ref na), some (.ref td)] := fun e => by rw [e]
        refine ⟨_, rfl, td, _, _, _, rfl, rfl, SqT.of hw, ix2 _ _ _ _, _, rfl, rfl, _, rfl, ?_⟩
        refine ite2 (fun c2 => ?_) (fun c2 => ?_)
        · rw [if_pos (V.str.inj (of_decide_eq_true c2))]
          refine ⟨_, rfl, _, rfl, _, rfl, td, so, g.2, rfl, P4, mb, fun H4 S4 => ⟨_, _, rfl, rfl, ?_⟩⟩
          refine ⟨_, rfl, td, _, _, _, rfl, rfl, SqT.of (S4 _ _ hw), ix1 _ _ _, _, rfl, rfl, _, rfl, ?_⟩
          refine ite2 (fun c3 => ?_) (fun c3 => ?_)
          · rw [if_pos (V.str.inj (of_decide_eq_true c3))]
            refine ⟨_, rfl, _, rfl, _, rfl, td, so, g.2, rfl, P4.tk (Tk.same S4), mb, fun H5 S5 => ⟨_, _, rfl, rfl, some (.ref na), some (.ref td), fin (by show _ + _ - _ = _; omega), S3.trans (S4.trans S5)⟩⟩
          · rw [if_neg (fun z => c3 (decide_eq_true (congrArg V.str z)))]
            exact ⟨some (.ref na), some (.ref td), fin (by show _ + _ = _; omega), S3.trans S4⟩
        · rw [if_neg (fun z => c2 (decide_eq_true (congrArg V.str z)))]
          refine ⟨_, rfl, td, _, _, _, rfl, rfl, SqT.of hw, ix1 _ _ _, _, rfl, rfl, _, rfl, ?_⟩
          refine ite2 (fun c3 => ?_) (fun c3 => ?_)
          · rw [if_pos (V.str.inj (of_decide_eq_true c3))]
            refine ⟨_, rfl, _, rfl, _, rfl, td, so, g.2, rfl, P4, mb, fun H5 S5 => ⟨_, _, rfl, rfl, some (.ref na), some (.ref td), fin (by show _ - _ = _; omega), S3.trans S5⟩⟩
          · rw [if_neg (fun z => c3 (decide_eq_true (congrArg V.str z)))]
            exact ⟨some (.ref na), some (.ref td), fin (by omega), S3⟩
    · have c' : ¬ lawW gs g = wCd := fun z => c (decide_eq_true (congrArg V.str z))
      rw [if_neg c', Int.add_zero] at more
      rw [more]
      exact ⟨_, _, rfl, S2⟩
  · rintro σ H2 ⟨v5, v6, rfl, S2⟩
    rw [List.length_map, lq, List.take_length]
    exact ⟨_, rfl, q H2 (S1.trans S2)⟩

theorem ok_ldays (F : Fun K "_law_days" "_law_days" s_ldays f_ldays d_ldays) (T : Txt mg f_many_in f_named_by_voids f_counted_bags f_standing_of f_pages_that_are f_counted_pages f_until f_of_series f_brought f_traffic f_balance f_moved f_by_days f_lfeed f_ldraw f_lfar f_lwords f_loffice f_lruns f_lnames f_ldeed f_lpages f_llow f_lknot f_lbegun f_lbook f_lsorts f_lsame f_lmany f_lbalance f_ldays f_lright f_law)
    (F_lbalance : Fun K "_law_balance" "_law_balance" s_lbalance f_lbalance d_lbalance) (b_lbalance : Binds K d_lbalance ["_law_pages_here", "_law_place", "_law_series"] []) (G_lbalance : FnOk P w K mg base CX0 (4) f_lbalance d_lbalance ["_law_pages_here", "_law_place", "_law_series"] spLBal) :
    FnOk P w K mg base CX0 (5) f_ldays d_ldays ["_law_pages_here", "_law_place"] spLDays := by
  refine F.ok sc_ldays (fun vs H Q E h => ?_) (fun cdv A outer s H vs Q E hr h => ?_)

  · obtain ⟨l, p, qs, gs, rfl, _⟩ := h
    rfl
  obtain ⟨l, p, qs, gs, rfl, hl, pg, gl, nd, q⟩ := h
  refine ⟨_, (pss_cons (ps_set (i := 2) sc_ldays.nd rfl (.inl rfl) (pe_lst pa_nil))
  (pss_cons (ps_for PassesOwn.never rfl (pi_list (pe_callB (cr_sortSI hr rfl) (by rfl) T.sorted (by decide +kernel) (pa_cons (pe_callTy (cr_setOf rfl) (by rfl) T.set (by decide +kernel) (pa_cons (pe_lc (own := [("_law_page", 4)]) (g := (gName 4)) (by rfl) sc_ldays.nd (pi_list (pv 0)) (blkOk_by (own := [("_law_page", 4)]) (N := ["_law_pages_here", "_law_place", "_law_found", "_law_day", "_law_page"]) (sc := defScope s_ldays) (by decide +kernel)) (fun _ _ _ _ _ => (pg_name (i := 4) sc_ldays.nd rfl (.inl rfl))) (fun _ _ _ _ _ => pts_nil) (fun _ _ _ _ _ => (pe_ix (show IxR _ (rIxT K) from ix_tup) (pe_ix (show IxR _ (rIxT K) from ix_tup) (pv 4) pe_int (fun _ _ => rfl)) pe_int (fun _ _ => rfl)))) pa_nil)) pa_nil))) (pg_name (i := 3) sc_ldays.nd rfl (.inr rfl))
  (pss_one (ps_expr (pe_bm PySem.F.plainAttrs_list PySem.F.slot_list_append PySem.F.type_list_append mt_append (pv 2) (pa_cons (pe_tup (pa_cons (pv 3) (pa_cons (pe_call G_lbalance hr (by rfl) T.m_lbalance F_lbalance.kp b_lbalance .nil pass0 (pa_cons (pe_lc (own := [("_law_page", 4)]) (g := (gName 4)) (by rfl) sc_ldays.nd (pi_list (pv 0)) (blkOk_by (own := [("_law_page", 4)]) (N := ["_law_pages_here", "_law_place", "_law_found", "_law_day", "_law_page"]) (sc := defScope s_ldays) (by decide +kernel)) (fun _ _ _ _ _ => (pg_name (i := 4) sc_ldays.nd rfl (.inl rfl))) (fun _ _ _ _ _ => (pts_one (pt_cmpR op_le (pe_ix (show IxR _ (rIxT K) from ix_tup) (pe_ix (show IxR _ (rIxT K) from ix_tup) (pv 4) pe_int (fun _ _ => rfl)) pe_int (fun _ _ => rfl)) (pv 3) (nomark _)))) (fun _ _ _ _ _ => (pv 4))) (pa_cons (pv 1) (pa_cons pe_non pa_nil)))) pa_nil))) pa_nil)))))
  (pss_one (ps_ret (pv 2))))), ?_⟩
  have lq := pg.len
  refine ⟨(show 0 ≤ sizeLine by decide), fun F nF => ?_⟩
  have NF := same_new nF (.lst [])
  have hF : upd H F (.lst []) F = some (.lst []) := upd_same
  have hl0 := NF _ _ hl
  have pg0 := pg.tk (Tk.same NF)
  generalize e0 : upd H F (.lst []) = H0 at *
  refine ⟨_, rfl, l, rfl, ⟨_, SqL.of hl0⟩, fun D nD => ?_⟩
  refine lc_list (K := K) (a := l) (xs := qs.map V.ref) (fun i H' => Same H0 H' ∧ H' D = some (.lst (((gs.take i).map fun g => g.1.1).map V.int))) ⟨same_new nD _, upd_same⟩ (fun i H' _ h => SqL.of (h.1 _ _ hl0)) ?_ ?_
  · rintro i x H1 hx ⟨S1, hD⟩
    obtain ⟨u, hu, rfl⟩ : ∃ u, qs[i]? = some u ∧ x = V.ref u := by
      rw [List.getElem?_map] at hx
      cases e : qs[i]? with
      | none => rw [e] at hx; cases hx
      | some p => rw [e] at hx; exact ⟨p, rfl, (Option.some.inj hx).symm⟩
    obtain ⟨g, hg, na, td, p1, p2, p3⟩ := Pgs.get pg0 hu
    obtain ⟨hi, eg⟩ := List.getElem?_eq_some_iff.mp hg
    refine ⟨rfl, _, rfl, u, _, _, _, rfl, rfl, SqT.of (S1 _ _ p1), rfl, na, _, _, _, rfl, rfl, SqT.of (S1 _ _ p2), rfl, _, hD, ?_, same_mut S1 nD, ?_⟩
    · rw [List.length_map, List.length_map, List.length_take]
      exact Nat.lt_of_le_of_lt (show _ ≤ 1000 by omega) (by decide)
    · rw [upd_same, List.take_succ_eq_append_getElem hi, List.map_append, List.map_append, eg]
      rfl
  rintro H1 ⟨S1, hD⟩
  rw [List.length_map, lq, List.take_length] at hD
  refine ⟨D, gs.map fun g => .inl g.1.1, rfl, ?_, ?_, fun Z c o nZ hc eo => ?_⟩
  · rw [List.map_map]
    rw [List.map_map] at hD
    exact SqL.of hD
  · rw [List.length_map]
    omega
  rw [List.length_map] at hc
  have NZ := same_new nZ o
  have hZ : upd H1 Z o Z = some o := upd_same
  have S2 := S1.trans NZ
  generalize upd H1 Z o = H2 at *
  refine ⟨Z, (fun j => j ∈ gs.map fun g => (.inl g.1.1 : Key)), c, o, rfl, hZ, eo, fun k hk => ?_, by omega, fun ds L pw mem len nL => ?_⟩
  · obtain ⟨x, _, e⟩ := List.mem_map.mp hk
    exact ⟨_, e.symm⟩
  have dsof : DaysOf gs ds := ⟨pw, fun d => (mem d).trans ⟨fun z => by obtain ⟨x, hx, e⟩ := List.mem_map.mp z; exact ⟨x, hx, Sum.inl.inj e⟩, fun ⟨x, hx, e⟩ => List.mem_map.mpr ⟨x, hx, congrArg Sum.inl e⟩⟩, by omega⟩
  have NL := same_new nL (.lst (ds.map V.int))
  have hL : upd H2 L (.lst (ds.map V.int)) L = some (.lst (ds.map V.int)) := upd_same
  have S3 := S2.trans NL
  generalize upd H2 L (.lst (ds.map V.int)) = H3 at *
  have hF3 := S3 _ _ hF
  have hl3 := S3 _ _ hl0
  have pg3 := pg0.tk (Tk.same S3)
  have LF : L ≠ F := fun z => by
    rw [z, S2 _ _ hF] at nL
    cases nL
  have lF : l ≠ F := fun z => by
    rw [z, nF] at hl
    cases hl
  have dl := dsof.2.2
  refine ⟨L, rfl, ⟨_, SqL.of hL⟩, ?_⟩
  refine for_list (K := K) (a := L) (xs := ds.map V.int) (fun i σ H' => ∃ (ts : List Addr) (v3 : Option V), σ = [some (.ref l), some (.str p), some (.ref F), v3, none] ∧ (∀ a o, a ≠ F → H3 a = some o → H' a = some o) ∧ H' F = some (.lst (ts.map V.ref)) ∧ DyS H' ts ((ds.take i).map fun d => (d, lbalL (upTo gs d) p none))) ⟨[], none, rfl, fun _ _ _ e => e, hF3, .nil⟩ (fun i σ H' _ h => by obtain ⟨_, _, _, k, _⟩ := h; exact SqL.of (k _ _ LF hL)) ?_ ?_
  · rintro i x σ H4 hx ⟨ts, v3, rfl, k4, hF4, dy⟩
    obtain ⟨d, hd, rfl⟩ : ∃ d, ds[i]? = some d ∧ x = V.int d := by
      rw [List.getElem?_map] at hx
      cases e : ds[i]? with
      | none => rw [e] at hx; cases hx
      | some y => rw [e] at hx; exact ⟨y, rfl, (Option.some.inj hx).symm⟩
    obtain ⟨hi, ed⟩ := List.getElem?_eq_some_iff.mp hd
    have hl4 := k4 _ _ lF hl3
    have kt : Tk H3 H4 := fun p zs e => k4 p _ (fun z => by rw [z, hF3] at e; cases e) e
    have pg4 := pg3.tk kt
    refine ⟨_, rfl, .inl ⟨rfl, _, SqL.of hF4⟩, _, rfl, _, rfl, l, rfl, ⟨_, SqL.of hl4⟩, fun D2 nD2 => ?_⟩
    refine lc_list (K := K) (a := l) (xs := qs.map V.ref) (fun j H' => ∃ zs : List Addr, Same H4 H' ∧ H' D2 = some (.lst (zs.map V.ref)) ∧ Pgs H' zs (upTo (gs.take j) d)) ⟨[], same_new nD2 _, upd_same, .nil⟩ (fun i H' _ h => by obtain ⟨_, S, _⟩ := h; exact SqL.of (S _ _ hl4)) ?_ ?_
    · rintro j y H5 hy ⟨zs, S5, hD5, pq⟩
      obtain ⟨u, hu, rfl⟩ : ∃ u, qs[j]? = some u ∧ y = V.ref u := by
        rw [List.getElem?_map] at hy
        cases e : qs[j]? with
        | none => rw [e] at hy; cases hy
        | some p => rw [e] at hy; exact ⟨p, rfl, (Option.some.inj hy).symm⟩
      obtain ⟨g, hg, pga⟩ := Pgs.get pg4 hu
      obtain ⟨na, dt, at1, at2, at3⟩ := id pga
      have more := filter_takeP (p := fun g => decide (g.1.1 ≤ d)) hg
      have ql := pq.len
      have fl : (upTo (gs.take j) d).length ≤ 100 := Nat.le_trans (upTo_len _ _) (by rw [List.length_take]; omega)
      refine ⟨rfl, _, rfl, u, _, _, _, rfl, rfl, SqT.of (S5 _ _ at1), rfl, na, _, _, _, rfl, rfl, SqT.of (S5 _ _ at2), rfl, _, rfl, _, _, rfl, rfl, _, rfl, ?_⟩
      refine ite2 (fun c1 => ?_) (fun c1 => ?_)
      · rw [if_pos c1] at more
        refine ⟨_, rfl, _, hD5, ?_, zs ++ [u], same_mut S5 nD2, ?_, ?_⟩
        · rw [List.length_map, ql]
          exact Nat.lt_of_le_of_lt (show _ ≤ 1000 by omega) (by decide)
        · rw [upd_same, List.map_append]
          rfl
        · unfold upTo
          rw [more]
          exact (pq.app (Pgs.mk1 (pga.tk (Tk.same S5)))).tk (Tk.put hD5)
      · rw [if_neg c1, List.append_nil] at more
        refine ⟨zs, S5, hD5, ?_⟩
        unfold upTo
        rw [more]
        exact pq
    rintro H5 ⟨zs, S5, hD5, pq⟩
    rw [List.length_map, lq, List.take_length] at pq
    refine ⟨_, rfl, D2, p, none, zs, upTo gs d, rfl, hD5, pq, Nat.le_trans (upTo_len _ _) gl, (List.filter_sublist.map _).nodup nd, fun H6 S6 => ⟨(show 2 ≤ sizeLine by decide), fun T nT => ?_⟩⟩
    have NT := same_new nT (.tup [.int d, .int (lbalL (upTo gs d) p none)])
    have S46 := S5.trans (S6.trans NT)
    have hF6 := S46 _ _ hF4
    have tl : ts.length ≤ 100 := by
      rw [paired_len dy, List.length_map, List.length_take]
      omega
    refine ⟨F, _, _, rfl, rfl, hF6, ?_, ts ++ [T], _, rfl, fun a o n z => (upd_ne n).trans (S46 _ _ (k4 a o n z)), ?_, ?_⟩
    · rw [List.length_map]
      exact Nat.lt_of_le_of_lt (show _ ≤ 1000 by omega) (by decide)
    · rw [upd_same, List.map_append]
      rfl
    · rw [List.take_succ_eq_append_getElem hi, List.map_append, ed]
      exact DyS.tk (Tk.put hF6) (paired_snoc (DyS.tk (Tk.same S46) dy) upd_same)
  · rintro σ H4 ⟨ts, v3, rfl, k4, hF4, dy⟩
    rw [List.length_map, List.take_length] at dy
    have m4 : Same H H4 := fun a o e => k4 a o (ne_of_none e nF) (S3 _ _ (NF _ _ e))
    exact ⟨_, rfl, q F ds ts H4 m4 nF hF4 dsof dy⟩

theorem ok_lright (F : Fun K "_law_right" "_law_right" s_lright f_lright d_lright) (T : Txt mg f_many_in f_named_by_voids f_counted_bags f_standing_of f_pages_that_are f_counted_pages f_until f_of_series f_brought f_traffic f_balance f_moved f_by_days f_lfeed f_ldraw f_lfar f_lwords f_loffice f_lruns f_lnames f_ldeed f_lpages f_llow f_lknot f_lbegun f_lbook f_lsorts f_lsame f_lmany f_lbalance f_ldays f_lright f_law)
    (F_lbook : Fun K "_law_book" "_law_book" s_lbook f_lbook d_lbook) (b_lbook : Binds K d_lbook ["_law_pages_here"] []) (G_lbook : FnOk P w K mg base CX0 (9) f_lbook d_lbook ["_law_pages_here"] (spBook P_lbook))
    (F_ldraw : Fun K "_law_draw" "_law_draw" s_ldraw f_ldraw d_ldraw) (b_ldraw : Binds K d_ldraw ["_law_feed_here", "_law_many_here"] []) (G_ldraw : FnOk P w K mg base CX0 (9) f_ldraw d_ldraw ["_law_feed_here", "_law_many_here"] spDrawE)
    (F_balance : Fun K "balance" "balance" s_balance f_balance d_balance) (b_balance : Binds K d_balance ["book", "place"] []) (G_balance : FnOk P w K mg base CX0 (9) f_balance d_balance ["book", "place"] (spBalance P_many_in P_balance))
    (F_moved : Fun K "moved" "moved" s_moved f_moved d_moved) (b_moved : Binds K d_moved ["book", "place", "series"] []) (G_moved : FnOk P w K mg base CX0 (9) f_moved d_moved ["book", "place", "series"] (spMoved P_many_in))
    (F_by_days : Fun K "by_days" "by_days" s_by_days f_by_days d_by_days) (b_by_days : Binds K d_by_days ["book", "place"] []) (G_by_days : FnOk P w K mg base CX0 (9) f_by_days d_by_days ["book", "place"] (spByDays P_many_in P_balance))
    (F_lbalance : Fun K "_law_balance" "_law_balance" s_lbalance f_lbalance d_lbalance) (b_lbalance : Binds K d_lbalance ["_law_pages_here", "_law_place", "_law_series"] []) (G_lbalance : FnOk P w K mg base CX0 (9) f_lbalance d_lbalance ["_law_pages_here", "_law_place", "_law_series"] spLBal)
    (F_ldays : Fun K "_law_days" "_law_days" s_ldays f_ldays d_ldays) (b_ldays : Binds K d_ldays ["_law_pages_here", "_law_place"] []) (G_ldays : FnOk P w K mg base CX0 (9) f_ldays d_ldays ["_law_pages_here", "_law_place"] spLDays)
    (F_lsame : Fun K "_law_same" "_law_same" s_lsame f_lsame d_lsame) (b_lsame : Binds K d_lsame ["_law_found", "_law_due"] []) (G_lsame : FnOk P w K mg base CX0 (9) f_lsame d_lsame ["_law_found", "_law_due"] (spAlike K 3)) :
    FnOk P w K mg base CX0 (10) f_lright d_lright ["_law_feed_here", "_law_office_here", "_law_pages_here"] (spRightB P_lbook P_many_in P_balance) := by
  refine F.ok sc_lright (fun vs H Q E h => ?_) (fun cdv A outer s H vs Q E hr h => ?_)

  · obtain ⟨f, c, o, l, low, n, ws, E, qs, gs, rfl, _⟩ := h
    rfl
  obtain ⟨f, c, o, l, low, n, ws, E, qs, gs, rfl, B0, hn, of0, ok0, ro, hl, lf, pg, gl, g0, nd, dok, l0, l1, d34, d35, q⟩ := h
  have e16 := ok0.e16
  have w8 := ok0.w8
  refine ⟨_, (pss_cons (ps_set (i := 3) sc_lright.nd rfl (.inl rfl) (pe_call G_lbook hr (by rfl) T.m_lbook F_lbook.kp b_lbook .nil pass0 (pa_cons (pv 2) pa_nil)))
  (pss_cons (ps_set (i := 4) sc_lright.nd rfl (.inl rfl) (pe_op op_cat (pe_lc (own := [("_law_row", 5)]) (g := (gName 5)) (by rfl) sc_lright.nd (pi_tup (pe_ix ix_tup (pv 1) pe_int (fun _ _ => rfl))) (blkOk_by (own := [("_law_row", 5)]) (N := ["_law_feed_here", "_law_office_here", "_law_pages_here", "_law_book_here", "_law_series", "_law_row", "_law_places", "_law_road", "_law_first", "_law_some", "_law_place", "_law_one", "_law_deed_here", "_law_due", "_law_told"]) (sc := defScope s_lright) (by decide +kernel)) (fun _ _ _ _ _ => (pg_name (i := 5) sc_lright.nd rfl (.inl rfl))) (fun _ _ _ _ _ => pts_nil) (fun _ _ _ _ _ => (pe_ix (show IxR _ (rIxT K) from ix_tup) (pv 5) pe_int (fun _ _ => rfl)))) (pe_lst (pa_cons pe_str pa_nil))))
  (pss_cons (ps_set (i := 6) sc_lright.nd rfl (.inl rfl) (pe_callB (cr_sortSS hr rfl) (by rfl) T.sorted (by decide +kernel) (pa_cons (pe_callTy (cr_setOf rfl) (by rfl) T.set (by decide +kernel) (pa_cons (pe_op op_cat (pe_op op_cat (pe_lc (own := [("_law_road", 7)]) (g := (gName 7)) (by rfl) sc_lright.nd (pi_tup (pe_ix ix_tup (pv 1) pe_int (fun _ _ => rfl))) (blkOk_by (own := [("_law_road", 7)]) (N := ["_law_feed_here", "_law_office_here", "_law_pages_here", "_law_book_here", "_law_series", "_law_row", "_law_places", "_law_road", "_law_first", "_law_some", "_law_place", "_law_one", "_law_deed_here", "_law_due", "_law_told"]) (sc := defScope s_lright) (by decide +kernel)) (fun _ _ _ _ _ => (pg_name (i := 7) sc_lright.nd rfl (.inl rfl))) (fun _ _ _ _ _ => pts_nil) (fun _ _ _ _ _ => (pe_ix (show IxR _ (rIxT K) from ix_tup) (pv 7) pe_int (fun _ _ => rfl)))) (pe_lc (own := [("_law_road", 7)]) (g := (gName 7)) (by rfl) sc_lright.nd (pi_tup (pe_ix ix_tup (pv 1) pe_int (fun _ _ => rfl))) (blkOk_by (own := [("_law_road", 7)]) (N := ["_law_feed_here", "_law_office_here", "_law_pages_here", "_law_book_here", "_law_series", "_law_row", "_law_places", "_law_road", "_law_first", "_law_some", "_law_place", "_law_one", "_law_deed_here", "_law_due", "_law_told"]) (sc := defScope s_lright) (by decide +kernel)) (fun _ _ _ _ _ => (pg_name (i := 7) sc_lright.nd rfl (.inl rfl))) (fun _ _ _ _ _ => pts_nil) (fun _ _ _ _ _ => (pe_ix (show IxR _ (rIxT K) from ix_tup) (pv 7) pe_int (fun _ _ => rfl))))) (pe_lst (pa_cons pe_str pa_nil))) pa_nil)) pa_nil)))
  (pss_cons (ps_set (i := 6) sc_lright.nd rfl (.inl rfl) (pe_op op_cat (pv 6) (pe_lst (pa_cons pe_str pa_nil))))
  (pss_cons (ps_set (i := 8) sc_lright.nd rfl (.inl rfl) (pe_call G_ldraw hr (by rfl) T.m_ldraw F_ldraw.kp b_ldraw .nil pass0 (pa_cons (pv 0) (pa_cons (pe_callB call_len_seq (by rfl) T.len (by decide +kernel) (pa_cons (pv 6) pa_nil)) pa_nil))))
  (pss_cons (ps_set (i := 9) sc_lright.nd rfl (.inl rfl) (pe_op op_cat (pe_op op_cat (pe_slice sl_list (pv 6) (po_some (pv 8)) po_none) (pv 6)) (pe_slice sl_list (pv 6) po_none (po_some (pv 8)))))
  (C8.pss_cut (ps_if (pt_cmpR op_gt (pe_callB call_len_seq (by rfl) T.len (by decide +kernel) (pa_cons (pv 2) pa_nil)) pe_int (nomark _))
  (pss_one (ps_set (i := 9) sc_lright.nd rfl (.inl rfl) (pe_slice sl_list (pv 9) po_none (po_some pe_int))))
  pss_nil)
  (pss_cons (ps_for PassesOwn.never rfl (pi_list (pv 9)) (pg_name (i := 10) sc_lright.nd rfl (.inl rfl))
  (pss_cons (ps_if (pt_not (pt_val (pe_call G_lsame hr (by rfl) T.m_lsame F_lsame.kp b_lsame .nil pass0 (pa_cons (pe_call G_balance hr (by rfl) T.m_balance F_balance.kp b_balance .nil pass0 (pa_cons (pv 3) (pa_cons (pv 10) pa_nil))) (pa_cons (pe_call G_lbalance hr (by rfl) T.m_lbalance F_lbalance.kp b_lbalance .nil pass0 (pa_cons (pv 2) (pa_cons (pv 10) (pa_cons pe_non pa_nil)))) pa_nil)))))
  (pss_one (ps_ret pe_bl))
  pss_nil)
  (pss_cons (ps_set (i := 11) sc_lright.nd rfl (.inl rfl) (pe_ix ix_list (pv 4) (pe_call G_ldraw hr (by rfl) T.m_ldraw F_ldraw.kp b_ldraw .nil pass0 (pa_cons (pv 0) (pa_cons (pe_callB call_len_seq (by rfl) T.len (by decide +kernel) (pa_cons (pv 4) pa_nil)) pa_nil))) (fun _ _ => rfl)))
  (pss_one (ps_if (pt_not (pt_val (pe_call G_lsame hr (by rfl) T.m_lsame F_lsame.kp b_lsame .nil pass0 (pa_cons (pe_call G_moved hr (by rfl) T.m_moved F_moved.kp b_moved .nil pass0 (pa_cons (pv 3) (pa_cons (pv 10) (pa_cons (pv 11) pa_nil)))) (pa_cons (pe_call G_lbalance hr (by rfl) T.m_lbalance F_lbalance.kp b_lbalance .nil pass0 (pa_cons (pv 2) (pa_cons (pv 10) (pa_cons (pv 11) pa_nil)))) pa_nil)))))
  (pss_one (ps_ret pe_bl))
  pss_nil)))))
  (pss_cons (ps_set (i := 9) sc_lright.nd rfl (.inl rfl) (pe_op op_cat (pe_slice sl_list (pv 6) (po_some (pv 8)) po_none) (pe_slice sl_list (pv 6) po_none (po_some (pe_op op_add (pv 8) pe_int)))))
  (C8.pss_cut (ps_if (pt_cmpR op_gt (pe_callB call_len_seq (by rfl) T.len (by decide +kernel) (pa_cons (pv 2) pa_nil)) pe_int (nomark _))
  (pss_cons (ps_set (i := 12) sc_lright.nd rfl (.inl rfl) (pe_dgetx (hu_of hr) (pe_callTy (call_dictLT rfl (hu_of2 hr)) (by rfl) T.dict (by decide +kernel) (pa_cons (pv 2) pa_nil)) (pe_ix ix_tup (pe_ix ix_tup (pe_ix ix_list (pv 2) (pe_un un_neg pe_int) (fun _ _ => rfl)) pe_int (fun _ _ => rfl)) pe_int (fun _ _ => rfl)) (pe_tup (pa_cons pe_str pa_nil)) ⟨rfl, rfl, rfl, rfl⟩))
  (pss_one (ps_set (i := 9) sc_lright.nd rfl (.inl rfl) (pe_op op_cat (pe_op op_rep (pe_callTy call_list_of (by rfl) T.list (by decide +kernel) (pa_cons (pe_slice sl_tupTk (pv 12) (po_some pe_int) (po_some pe_int)) pa_nil)) (pe_callTy call_int1 (by rfl) T.int (by decide +kernel) (pa_cons (pe_cmpR op_in_seq (pe_ix ix_tup (pv 12) pe_int (fun _ _ => rfl)) (pe_tup (pa_cons pe_str (pa_cons pe_str pa_nil))) (by rfl)) pa_nil))) (pe_slice sl_list (pv 9) po_none (po_some pe_int))))))
  pss_nil)
  (pss_cons (ps_for PassesOwn.never rfl (pi_list (pv 9)) (pg_name (i := 10) sc_lright.nd rfl (.inl rfl))
  (pss_cons (ps_set (i := 13) sc_lright.nd rfl (.inl rfl) (pe_call G_ldays hr (by rfl) T.m_ldays F_ldays.kp b_ldays .nil pass0 (pa_cons (pv 2) (pa_cons (pv 10) pa_nil))))
  (pss_cons (ps_set (i := 14) sc_lright.nd rfl (.inl rfl) (pe_call G_by_days hr (by rfl) T.m_by_days F_by_days.kp b_by_days .nil pass0 (pa_cons (pv 3) (pa_cons (pv 10) pa_nil))))
  (pss_cons (ps_if (pt_not (pt_val (pe_call G_lsame hr (by rfl) T.m_lsame F_lsame.kp b_lsame .nil pass0 (pa_cons (pv 14) (pa_cons (pv 13) pa_nil)))))
  (pss_one (ps_ret pe_bl))
  pss_nil)
  (pss_one (ps_expr (pe_bm PySem.F.plainAttrs_list PySem.F.slot_list_append PySem.F.type_list_append mt_append (pv 14) (pa_cons (pe_tup (pa_cons pe_int (pa_cons pe_int pa_nil))) pa_nil))))))))
  (pss_one (ps_ret pe_bl))))))))))))), ?_⟩
  refine ⟨_, rfl, l, qs, gs, rfl, hl, pg, gl, B0.t3, fun b H1 b1 t1 nb bk1 => ?_⟩
  obtain ⟨B1, X1⟩ := B0.book d34.symm d35.symm b1 t1
  have hl1 := X1.ls _ _ lf hl
  obtain ⟨w, r, wp, rp, o1, o2, o3, o4, o5⟩ := of0.tk X1.tk
  have wl := paired_len' o4
  have pg2 := pg.tk X1.tk
  have bl3 : (bookL gs).length ≤ 300 := by rw [(bookL_perm gs).length_eq]; omega
  have db : DdB E (ws.map (·.1)) low (bookL gs) := ⟨fun g hg => dok g ((bookL_perm gs).mem_iff.mp hg), by rw [List.length_map]; exact w8, l0, l1⟩
  refine ⟨_, rfl, o, _, _, _, rfl, rfl, SqT.of o1, rfl, w, rfl, ⟨_, SqT.of o2⟩, fun D0 nD0 => ?_⟩
  refine lc_tup (K := K) (a := w) (xs := wp.map V.ref) (fun i H' => Same H1 H' ∧ H' D0 = some (.lst (((ws.take i).map (·.1)).map V.str))) ⟨same_new nD0 _, upd_same⟩ (fun i H' _ h => SqT.of (h.1 _ _ o2)) ?_ ?_
  · rintro i x H2 hx ⟨S2, hD⟩
    obtain ⟨u, hu, rfl⟩ : ∃ u, wp[i]? = some u ∧ x = V.ref u := by
      rw [List.getElem?_map] at hx
      cases e : wp[i]? with
      | none => rw [e] at hx; cases hx
      | some p => rw [e] at hx; exact ⟨p, rfl, (Option.some.inj hx).symm⟩
    obtain ⟨e, he, ht⟩ := Wts.get o4 hu
    obtain ⟨hi, ee⟩ := List.getElem?_eq_some_iff.mp he
    refine ⟨rfl, _, rfl, u, _, _, _, rfl, rfl, SqT.of (S2 _ _ ht), rfl, _, hD, ?_, same_mut S2 nD0, ?_⟩
    · rw [List.length_map, List.length_map, List.length_take]
      exact Nat.lt_of_le_of_lt (show _ ≤ 1000 by omega) (by decide)
    · rw [upd_same, List.take_succ_eq_append_getElem hi, List.map_append, List.map_append, ee]
      rfl
  rintro H2 ⟨S2, hD0⟩
  rw [List.length_map, wl, List.take_length] at hD0
  refine ⟨(show 1 ≤ sizeLine by decide), fun Z0 nZ0 => ?_⟩
  have NZ0 := same_new nZ0 (.lst [.str (Str.ofString "zzzzzzzz")])
  refine ⟨D0, Z0, _, _, rfl, rfl, NZ0 _ _ hD0, upd_same, ?_, fun SE nSE => ?_⟩
  · rw [List.length_map, List.length_map]
    exact Nat.le_trans (show ws.length + 1 ≤ 1000 by omega) (by decide)
  obtain ⟨se, ese, sel⟩ : ∃ se : List Str, (ws.map (·.1)).map V.str ++ [V.str (Str.ofString "zzzzzzzz")] = se.map V.str ∧ se.length = ws.length + 1 := ⟨ws.map (·.1) ++ [Str.ofString "zzzzzzzz"], by rw [List.map_append]; rfl, by rw [List.length_append, List.length_map]; rfl⟩
  rw [ese]
  have NSE := same_new nSE (.lst (se.map V.str))
  have SEf : SE ≠ f := ((B1.fe.same (S2.trans NZ0)).ne nSE).1
  have hSE : upd (upd H2 Z0 (.lst [.str (Str.ofString "zzzzzzzz")])) SE (.lst (se.map V.str)) SE = some (.lst (se.map V.str)) := upd_same
  have S12 := S2.trans (NZ0.trans NSE)
  generalize upd (upd H2 Z0 (.lst [.str (Str.ofString "zzzzzzzz")])) SE (.lst (se.map V.str)) = H2' at *
  clear NSE NZ0 nSE nZ0 S2 hD0 nD0
  have B2 := B1.same S12
  have X2 : LwX f H H2' := X1.trans (.of_same S12)
  have bk2 := bk1.tk (Tk.same S12)
  have hl2 := S12 _ _ hl1
  replace pg2 := pg2.tk (Tk.same S12)
  replace o1 := S12 _ _ o1
  replace o3 := S12 _ _ o3
  replace o5 := o5.same S12
  refine ⟨_, rfl, o, _, _, _, rfl, rfl, SqT.of o1, rfl, r, rfl, ⟨_, SqT.of o3⟩, fun D1 nD1 => ?_⟩
  refine lc_tup (K := K) (a := r) (xs := rp.map V.ref) (fun i H' => Same H2' H' ∧ H' D1 = some (.lst (((E.take i).map (·.1)).map V.str))) ⟨same_new nD1 _, upd_same⟩ (fun i H' _ h => SqT.of (h.1 _ _ o3)) ?_ ?_
  · rintro i x H3 hx ⟨S3, hD⟩
    obtain ⟨u, hu, rfl⟩ : ∃ u, rp[i]? = some u ∧ x = V.ref u := by
      rw [List.getElem?_map] at hx
      cases e : rp[i]? with
      | none => rw [e] at hx; cases hx
      | some p => rw [e] at hx; exact ⟨p, rfl, (Option.some.inj hx).symm⟩
    obtain ⟨e, he, ht⟩ := Rds.get o5 hu
    obtain ⟨hi, ee⟩ := List.getElem?_eq_some_iff.mp he
    refine ⟨rfl, _, rfl, u, _, _, _, rfl, rfl, SqT.of (S3 _ _ ht), rfl, _, hD, ?_, same_mut S3 nD1, ?_⟩
    · rw [List.length_map, List.length_map, List.length_take]
      exact Nat.lt_of_le_of_lt (show _ ≤ 1000 by omega) (by decide)
    · rw [upd_same, List.take_succ_eq_append_getElem hi, List.map_append, List.map_append, ee]
      rfl
  rintro H3 ⟨S3, hD1⟩
  rw [List.length_map, o5.len, List.take_length] at hD1
  refine ⟨_, rfl, o, _, _, _, rfl, rfl, SqT.of (S3 _ _ o1), rfl, r, rfl, ⟨_, SqT.of (S3 _ _ o3)⟩, fun D2 nD2 => ?_⟩
  refine lc_tup (K := K) (a := r) (xs := rp.map V.ref) (fun i H' => Same H3 H' ∧ H' D2 = some (.lst (((E.take i).map (·.2)).map V.str))) ⟨same_new nD2 _, upd_same⟩ (fun i H' _ h => SqT.of (h.1 _ _ (S3 _ _ o3))) ?_ ?_
  · rintro i x H4 hx ⟨S4, hD⟩
    obtain ⟨u, hu, rfl⟩ : ∃ u, rp[i]? = some u ∧ x = V.ref u := by
      rw [List.getElem?_map] at hx
      cases e : rp[i]? with
      | none => rw [e] at hx; cases hx
      | some p => rw [e] at hx; exact ⟨p, rfl, (Option.some.inj hx).symm⟩
    obtain ⟨e, he, ht⟩ := Rds.get o5 hu
    obtain ⟨hi, ee⟩ := List.getElem?_eq_some_iff.mp he
    refine ⟨rfl, _, rfl, u, _, _, _, rfl, rfl, SqT.of ((S3.trans S4) _ _ ht), rfl, _, hD, ?_, same_mut S4 nD2, ?_⟩
    · rw [List.length_map, List.length_map, List.length_take]
      exact Nat.lt_of_le_of_lt (show _ ≤ 1000 by omega) (by decide)
    · rw [upd_same, List.take_succ_eq_append_getElem hi, List.map_append, List.map_append, ee]
      rfl
  rintro H4 ⟨S4, hD2⟩
  rw [List.length_map, o5.len, List.take_length] at hD2
  refine ⟨D1, D2, _, _, rfl, rfl, S4 _ _ hD1, hD2, ?_, fun C1 nC1 => ?_⟩
  · simp only [List.length_map]
    exact Nat.le_trans (show _ ≤ 1000 by omega) (by decide)
  have NC1 := same_new nC1 (.lst ((E.map (·.1)).map V.str ++ (E.map (·.2)).map V.str))
  refine ⟨(show 1 ≤ sizeLine by decide), fun C2 nC2 => ?_⟩
  have NC2 := same_new nC2 (.lst [.str (Str.ofString "none")])
  refine ⟨C1, C2, _, _, rfl, rfl, NC2 _ _ upd_same, upd_same, ?_, fun C3 nC3 => ?_⟩
  · simp only [List.length_map, List.length_append, List.length_singleton]
    exact Nat.le_trans (show _ ≤ 1000 by omega) (by decide)
  have NC3 := same_new nC3 (.lst ((E.map (·.1)).map V.str ++ (E.map (·.2)).map V.str ++ [.str (Str.ofString "none")]))
  have ek : (E.map (·.1)).map V.str ++ (E.map (·.2)).map V.str ++ [V.str (Str.ofString "none")] = ((E.map (·.1) ++ E.map (·.2) ++ [Str.ofString "none"]).map (Sum.inr : Str → Key)).map kV := by
    rw [strs_keys, List.map_append, List.map_append]
    rfl
  have al : (E.map (·.1) ++ E.map (·.2) ++ [Str.ofString "none"]).length ≤ 33 := by
    simp only [List.length_map, List.length_append, List.length_singleton]
    omega
  generalize E.map (·.1) ++ E.map (·.2) ++ [Str.ofString "none"] = AL at *
  refine ⟨C3, AL.map Sum.inr, rfl, by rw [← ek]; exact SqL.of upd_same, by rw [List.length_map]; omega, fun sp sc so nsp hsc hso => ?_⟩
  rw [List.length_map] at hsc
  have NS := same_new nsp so
  refine ⟨sp, _, sc, so, rfl, upd_same, hso, fun k hk => ?_, by omega, fun pls PL0 pw mem dl nPL0 => ?_⟩
  · obtain ⟨s, _, e⟩ := List.mem_map.mp hk
    exact ⟨_, e.symm⟩
  have NP := same_new nPL0 (.lst (pls.map V.str))
  refine ⟨_, rfl, (show 1 ≤ sizeLine by decide), fun Z nZ => ?_⟩
  have NZ := same_new nZ (.lst [.str (Str.ofString "zzzzzzzz")])
  refine ⟨PL0, Z, _, _, rfl, rfl, NZ _ _ upd_same, upd_same, ?_, fun PL nPL => ?_⟩
  · rw [List.length_map]
    exact Nat.le_trans (show pls.length + 1 ≤ 1000 by omega) (by decide)
  have NL := same_new nPL (.lst (pls.map V.str ++ [.str (Str.ofString "zzzzzzzz")]))
  have M5 := S3.trans (S4.trans (NC1.trans (NC2.trans (NC3.trans (NS.trans (NP.trans (NZ.trans NL)))))))
  obtain ⟨pl, epl, pll⟩ : ∃ pl : List Str, pls.map V.str ++ [V.str (Str.ofString "zzzzzzzz")] = pl.map V.str ∧ pl.length = pls.length + 1 := ⟨pls ++ [Str.ofString "zzzzzzzz"], by rw [List.map_append]; rfl, by rw [List.length_append]; rfl⟩
  rw [epl] at M5 ⊢
  have nPf : PL ≠ f := ((B2.fe.same (S3.trans (S4.trans (NC1.trans (NC2.trans (NC3.trans (NS.trans (NP.trans NZ)))))))).ne nPL).1
  have hPL : ∀ Hx, upd Hx PL (.lst (pl.map V.str)) PL = some (.lst (pl.map V.str)) := fun Hx => upd_same
  have hPL := hPL (upd (upd (upd (upd (upd (upd H4 C1 (.lst ((E.map (·.1)).map V.str ++ (E.map (·.2)).map V.str))) C2 (.lst [.str (Str.ofString "none")])) C3 (.lst ((E.map (·.1)).map V.str ++ (E.map (·.2)).map V.str ++ [.str (Str.ofString "none")]))) sp so) PL0 (.lst (pls.map V.str))) Z (.lst [.str (Str.ofString "zzzzzzzz")]))
  generalize upd (upd (upd (upd (upd (upd (upd H4 C1 (.lst ((E.map (·.1)).map V.str ++ (E.map (·.2)).map V.str))) C2 (.lst [.str (Str.ofString "none")])) C3 (.lst ((E.map (·.1)).map V.str ++ (E.map (·.2)).map V.str ++ [.str (Str.ofString "none")]))) sp so) PL0 (.lst (pls.map V.str))) Z (.lst [.str (Str.ofString "zzzzzzzz")])) PL (.lst (pl.map V.str)) = H5 at *
  clear NL NZ NP NS NC1 NC2 NC3 nPL nZ nPL0 nsp nC1 nC2 nC3 S3 S4 hD1 hD2 nD1 nD2 mem pw
  have B5 := B2.same M5
  refine ⟨_, rfl, _, rfl, PL, _, rfl, .inl (SqL.of hPL), f, c, _, _, rfl, B5.fe, by omega, by rw [List.length_map]; omega, by rw [List.length_map]; omega, fun d H6 d0 d1 hf6 b6 n6 => ?_⟩
  obtain ⟨B6, X6⟩ := B5.draw b6 hf6
  have X26 : LwX f H2' H6 := (LwX.of_same M5).trans X6
  have hPL6 := X6.ls _ _ nPf hPL
  refine ⟨_, rfl, _, rfl, d, rfl, PL, _, rfl, SqL.of hPL6, fun A1 nA1 => ?_⟩
  obtain ⟨s1, e1, k1⟩ := strs_cut pl (some d) none
  rw [e1]
  have NA1 := same_new nA1 (.lst (s1.map V.str))
  refine ⟨_, rfl, A1, PL, _, _, rfl, rfl, upd_same, NA1 _ _ hPL6, ?_, fun A2 nA2 => ?_⟩
  · rw [List.length_map, List.length_map]
    exact Nat.le_trans (show _ ≤ 1000 by omega) (by decide)
  have NA2 := same_new nA2 (.lst (s1.map V.str ++ pl.map V.str))
  refine ⟨_, rfl, _, rfl, d, rfl, PL, _, rfl, SqL.of (NA2 _ _ (NA1 _ _ hPL6)), fun A3 nA3 => ?_⟩
  obtain ⟨s2, e2, k2⟩ := strs_cut pl none (some d)
  rw [e2]
  have NA3 := same_new nA3 (.lst (s2.map V.str))
  refine ⟨A2, A3, _, _, rfl, rfl, NA3 _ _ upd_same, upd_same, ?_, fun S0 nS0 => ?_⟩
  · rw [List.length_append, List.length_map, List.length_map, List.length_map]
    exact Nat.le_trans (show _ ≤ 1000 by omega) (by decide)
  have NS0 := same_new nS0 (.lst (s1.map V.str ++ pl.map V.str ++ s2.map V.str))
  have M7 := NA1.trans (NA2.trans (NA3.trans NS0))
  have S0f : S0 ≠ f := ((B6.fe.same (NA1.trans (NA2.trans NA3))).ne nS0).1
  have hS7 : upd (upd (upd (upd H6 A1 (.lst (s1.map V.str))) A2 (.lst (s1.map V.str ++ pl.map V.str))) A3 (.lst (s2.map V.str))) S0 (.lst (s1.map V.str ++ pl.map V.str ++ s2.map V.str)) S0 = some (.lst ((s1 ++ pl ++ s2).map V.str)) := by rw [upd_same, List.map_append, List.map_append]
  have sl0 : (s1 ++ pl ++ s2).length ≤ 105 := by rw [List.length_append, List.length_append]; omega
  generalize s1 ++ pl ++ s2 = s0 at *
  generalize upd (upd (upd (upd H6 A1 (.lst (s1.map V.str))) A2 (.lst (s1.map V.str ++ pl.map V.str))) A3 (.lst (s2.map V.str))) S0 (.lst (s1.map V.str ++ pl.map V.str ++ s2.map V.str)) = H7 at *
  clear NS0 NA1 NA2 NA3 nS0 nA1 nA2 nA3
  have B7 := B6.same M7
  have X27 := X26.trans (.of_same M7)
  have hl7 := X27.ls _ _ lf hl2
  have hPL7 := M7 _ _ hPL6
  refine ⟨fun σ' H' => ∃ (S : Addr) (ss : List Str), σ' = [some (.ref f), some (.ref o), some (.ref l), some (.ref b), some (.ref SE), none, some (.ref PL), none, some (.int d), some (.ref S), none, none, none, none, none] ∧ Same H7 H' ∧ H' S = some (.lst (ss.map V.str)) ∧ ss.length ≤ 105 ∧ S ≠ f, ?_, ?_⟩
  · refine ⟨_, rfl, l, _, rfl, .inl (SqL.of hl7), _, _, rfl, rfl, _, rfl, ?_⟩
    refine ite2 (fun c1 => ?_) (fun c1 => ?_)
    · refine ⟨_, rfl, 8, rfl, S0, _, rfl, SqL.of hS7, fun B1' nB1 => ?_⟩
      obtain ⟨t1', f1, g1⟩ := strs_cut s0 none (some 8)
      rw [f1]
      exact ⟨B1', t1', rfl, same_new nB1 _, upd_same, by omega, (B7.fe.ne nB1).1⟩
    · exact ⟨S0, s0, rfl, Same.refl _, hS7, by omega, S0f⟩
  rintro σ' H8 ⟨S, ss, rfl, S8, hS8, sl8, Sf⟩
  have B8 := B7.same S8
  have X28 := X27.trans (.of_same S8)
  refine ⟨_, rfl, S, rfl, ⟨_, SqL.of hS8⟩, ?_⟩
  refine for_list (K := K) (a := S) (xs := ss.map V.str) (fun i σ H' => ∃ v10 v11 : Option V, σ = [some (.ref f), some (.ref o), some (.ref l), some (.ref b), some (.ref SE), none, some (.ref PL), none, some (.int d), some (.ref S), v10, v11, none, none, none] ∧ BwS f c P_lbook P_many_in P_balance H' (n + 1 + (i : Int)) ∧ LwX f H8 H') ⟨none, none, rfl, B8.mono (by omega), .refl⟩ (fun i σ H' _ h => by obtain ⟨_, _, _, _, x⟩ := h; exact SqL.of (x.ls _ _ Sf hS8)) ?_ ?_
  · rintro i x σ H9 hx ⟨v10, v11, rfl, B9, X9⟩
    obtain ⟨p, hp, rfl⟩ : ∃ s, ss[i]? = some s ∧ x = V.str s := by
      rw [List.getElem?_map] at hx
      cases e : ss[i]? with
      | none => rw [e] at hx; cases hx
      | some p => rw [e] at hx; exact ⟨p, rfl, (Option.some.inj hx).symm⟩
    have il := (List.getElem?_eq_some_iff.mp hp).1
    have X29 := X28.trans X9
    refine ⟨_, rfl, _, rfl, b, p, bookL gs, E, ws.map (·.1), low, rfl, bk2.tk X29.tk, bl3, db, B9.y.a, B9.y.b, fun H10 S10 => ?_⟩
    rw [bal_eq ro (bookL_perm gs) dok p]
    have X10 := X29.trans (.of_same S10)
    refine ⟨_, rfl, _, rfl, l, p, none, qs, gs, rfl, X10.ls _ _ lf hl2, pg2.tk X10.tk, gl, nd, fun H11 S11 => ?_⟩
    refine ⟨.int _, .int _, .int _, rfl, .int _, .int _, Nice.flat rfl, fun H12 S12' => ⟨true, rfl, iteF ?_⟩⟩
    have S912 := S10.trans (S11.trans S12')
    have B12 := B9.same S912
    have X12 := X29.trans (.of_same S912)
    have hSE12 := X12.ls _ _ SEf hSE
    refine ⟨_, rfl, _, rfl, _, rfl, SE, _, rfl, .inl (SqL.of hSE12), f, c, _, _, rfl, B12.fe, by omega, by rw [List.length_map]; omega, by rw [List.length_map]; omega, fun d2 H13 d20 d21 hf13 b13 n13 => ?_⟩
    obtain ⟨B13, X13'⟩ := B12.draw b13 hf13
    have X13 := X12.trans X13'
    rw [List.length_map] at d21
    obtain ⟨k, rfl⟩ : ∃ k : Nat, d2 = (k : Int) := ⟨d2.toNat, by omega⟩
    have hk : k < se.length := by omega
    refine ⟨SE, _, _, _, rfl, rfl, SqL.of (X13.ls _ _ SEf hSE), atI_nat (by rw [List.getElem?_map, List.getElem?_eq_getElem hk]; rfl), ?_⟩
    refine ⟨_, rfl, _, rfl, _, rfl, b, p, se[k], bookL gs, E, ws.map (·.1), low, rfl, bk2.tk X13.tk, bl3, db, B13.y.a, fun H14 S14 => ?_⟩
    rw [moved_eq ro (bookL_perm gs) dok p se[k]]
    have X14 := X13.trans (.of_same S14)
    refine ⟨_, rfl, _, rfl, _, rfl, l, p, some se[k], qs, gs, rfl, X14.ls _ _ lf hl2, pg2.tk X14.tk, gl, nd, fun H15 S15 => ?_⟩
    refine ⟨.int _, .int _, .int _, rfl, .int _, .int _, Nice.flat rfl, fun H16 S16 => ⟨true, rfl, iteF ?_⟩⟩
    have S1316 := S14.trans (S15.trans S16)
    exact ⟨_, _, rfl, (B13.same S1316).mono (by omega), X9.trans ((LwX.of_same S912).trans (X13'.trans (.of_same S1316)))⟩
  rintro σ H9 ⟨v10, v11, rfl, B9, X9⟩
  rw [List.length_map] at B9
  have X29 := X28.trans X9
  have hPL9 := X9.ls _ _ nPf (S8 _ _ hPL7)
  have hl9 := X29.ls _ _ lf hl2
  refine ⟨_, rfl, _, rfl, d, rfl, PL, _, rfl, SqL.of hPL9, fun A1 nA1 => ?_⟩
  obtain ⟨s3, e3, k3⟩ := strs_cut pl (some d) none
  rw [e3]
  have NA1 := same_new nA1 (.lst (s3.map V.str))
  refine ⟨_, rfl, _, rfl, _, _, rfl, rfl, d + 1, rfl, PL, _, rfl, SqL.of (NA1 _ _ hPL9), fun A2 nA2 => ?_⟩
  obtain ⟨s4, e4, k4⟩ := strs_cut pl none (some (d + 1))
  rw [e4]
  have NA2 := same_new nA2 (.lst (s4.map V.str))
  refine ⟨A1, A2, _, _, rfl, rfl, NA2 _ _ upd_same, upd_same, ?_, fun T0 nT0 => ?_⟩
  · rw [List.length_map, List.length_map]
    exact Nat.le_trans (show _ ≤ 1000 by omega) (by decide)
  have NT0 := same_new nT0 (.lst (s3.map V.str ++ s4.map V.str))
  have M10 := NA1.trans (NA2.trans NT0)
  have T0f : T0 ≠ f := ((B9.fe.same (NA1.trans NA2)).ne nT0).1
  have hT10 : upd (upd (upd H9 A1 (.lst (s3.map V.str))) A2 (.lst (s4.map V.str))) T0 (.lst (s3.map V.str ++ s4.map V.str)) T0 = some (.lst ((s3 ++ s4).map V.str)) := by rw [upd_same, List.map_append]
  have tl0 : (s3 ++ s4).length ≤ 70 := by rw [List.length_append]; omega
  generalize s3 ++ s4 = t0 at *
  generalize upd (upd (upd H9 A1 (.lst (s3.map V.str))) A2 (.lst (s4.map V.str))) T0 (.lst (s3.map V.str ++ s4.map V.str)) = H10 at *
  clear NT0 NA1 NA2 nT0 nA1 nA2
  have B10 := B9.same M10
  have X210 := X29.trans (.of_same M10)
  have hl10 := M10 _ _ hl9
  have pg10 := pg2.tk X210.tk
  refine ⟨fun σ' H' => ∃ (S : Addr) (ss : List Str) (v12 : Option V), σ' = [some (.ref f), some (.ref o), some (.ref l), some (.ref b), some (.ref SE), none, some (.ref PL), none, some (.int d), some (.ref S), v10, v11, v12, none, none] ∧ Same H10 H' ∧ H' S = some (.lst (ss.map V.str)) ∧ ss.length ≤ 105, ?_, ?_⟩
  · refine ⟨_, rfl, l, _, rfl, .inl (SqL.of hl10), _, _, rfl, rfl, _, rfl, ?_⟩
    refine ite2 (fun c1 => ?_) (fun c1 => ?_)
    · obtain ⟨xs, x1, x2, x3, x4⟩ := pgs_pairs (K := K) pg10
      refine ⟨_, rfl, l, qs, xs, rfl, SqL.of hl10, x1, x2, fun DD nDD => ?_⟩
      have NDD := same_new nDD (.dT (putAll [] xs))
      have hDD : upd H10 DD (.dT (putAll [] xs)) DD = some (.dT (putAll [] xs)) := upd_same
      generalize upd H10 DD (.dT (putAll [] xs)) = H11 at *
      refine ⟨DD, rfl, .inr ⟨_, .inl hDD⟩, ?_⟩
      obtain ⟨u, gz, gzm, au, na, td, p1, p2, p3⟩ := pgs_last (pg10.tk (Tk.same NDD)) g0
      obtain ⟨wz, vz, rz, hz, vk⟩ := dd_second p3
      refine ⟨_, rfl, _, rfl, l, _, _, _, rfl, rfl, SqL.of (NDD _ _ hl10), au, u, _, _, _, rfl, rfl, SqT.of p1, ix1 _ _ _, td, _, _, _, rfl, rfl, SqT.of hz, ix1 _ _ _, (show 1 ≤ sizeLine by decide), fun tn ntn => ?_⟩
      have NT := same_new ntn (.tup [.str (Str.ofString "none")])
      obtain ⟨o', dg, T, eT, two⟩ := pgs_getx (t := tn) (NT _ _ hDD) x3 nd g0 (fun g hg => let ⟨x, a, e, td, e2, k⟩ := x4 g hg; ⟨x, a, e, td, e2, k.tk (Tk.same (NDD.trans NT))⟩) (vk.imp id fun ⟨q, m, e, k⟩ => ⟨q, m, e, NT _ _ k⟩) (none_two upd_same)
      refine ⟨o', dg, ?_⟩
      rw [eT]
      obtain ⟨w0, r0, hT, cl, two2⟩ := two
      have hT2 := (NDD.trans NT) _ _ hT10
      have S12 := NDD.trans NT
      generalize upd H11 tn _ = H12 at *
      refine ⟨_, rfl, 1, rfl, 3, rfl, T, _, rfl, hT, fun sl H13 S13 hsl => ?_⟩
      refine ⟨sl, _, rfl, .inr (SqT.of hsl), fun L1 nL1 => ?_⟩
      have NL1 := same_new nL1 (.lst (cutV (.str w0 :: r0) (some 1) (some 3)))
      refine ⟨_, rfl, T, _, _, _, rfl, rfl, SqT.of (NL1 _ _ (S13 _ _ hT)), ix0 _ _, (show 2 ≤ sizeLine by decide), fun tp ntp => ?_⟩
      have Ntp := same_new ntp (.tup [.str (Str.ofString "move"), .str (Str.ofString "bag")])
      obtain ⟨kb, ekb⟩ : ∃ kb, inV (V.str w0) [V.str (Str.ofString "move"), .str (Str.ofString "bag")] = kb := ⟨_, rfl⟩
      rw [ekb] at two2
      obtain ⟨z2, ez, zl⟩ : ∃ z2 : List Str, (List.replicate (if kb = true then (1 : Int) else 0).toNat (cutV (.str w0 :: r0) (some 1) (some 3))).flatten = z2.map V.str ∧ z2.length ≤ 2 := by
        cases kb with
        | true =>
          obtain ⟨a, b, e⟩ := two2 rfl
          rw [e]
          exact ⟨[a, b], rfl, Nat.le_refl _⟩
        | false => exact ⟨[], rfl, by decide⟩
      have kb01 : 0 ≤ (if kb = true then (1 : Int) else 0) ∧ (if kb = true then (1 : Int) else 0) ≤ 1 := by cases kb <;> decide
      refine ⟨tp, _, rfl, .inr (SqT.of upd_same), rfl, rfl, .inr ⟨kb, congrArg (fun z => [V.bl z]) ((if_neg Bool.false_ne_true).trans ekb), L1, _, _, rfl, rfl, Ntp _ _ upd_same, ?_, ?_, ?_, fun RP nRP => ?_⟩⟩
      · exact Int.le_trans (by decide) kb01.1
      · exact Int.lt_of_le_of_lt kb01.2 (by decide)
      · exact Nat.le_trans (Nat.mul_le_mul cl (show _ ≤ 1 by omega)) (by decide)
      rw [ez]
      have NRP := same_new nRP (.lst (z2.map V.str))
      have S1014 := S12.trans (S13.trans (NL1.trans (Ntp.trans NRP)))
      refine ⟨_, rfl, 2, rfl, T0, _, rfl, SqL.of (S1014 _ _ hT10), fun A5 nA5 => ?_⟩
      obtain ⟨s5, e5, k5⟩ := strs_cut t0 none (some 2)
      rw [e5]
      have NA5 := same_new nA5 (.lst (s5.map V.str))
      refine ⟨RP, A5, _, _, rfl, rfl, NA5 _ _ upd_same, upd_same, ?_, fun U nU => ?_⟩
      · rw [List.length_map, List.length_map]
        exact Nat.le_trans (show _ ≤ 1000 by omega) (by decide)
      exact ⟨U, z2 ++ s5, _, rfl, S1014.trans (NA5.trans (same_new nU _)), by rw [upd_same, List.map_append], by rw [List.length_append]; omega⟩
    · exact ⟨T0, t0, none, rfl, Same.refl _, hT10, by omega⟩
  rintro σ' H11 ⟨U, us, v12, rfl, S11, hU11, ul⟩
  have B11 := B10.same S11
  have X211 := X210.trans (.of_same S11)
  refine ⟨_, rfl, U, rfl, ⟨_, SqL.of hU11⟩, ?_⟩
  refine for_list (K := K) (a := U) (xs := us.map V.str) (fun i σ H' => ∃ v10 v13 v14 : Option V, σ = [some (.ref f), some (.ref o), some (.ref l), some (.ref b), some (.ref SE), none, some (.ref PL), none, some (.int d), some (.ref U), v10, v11, v12, v13, v14] ∧ Same H11 H') ⟨v10, none, none, rfl, Same.refl _⟩ (fun i σ H' _ h => by obtain ⟨_, _, _, _, x⟩ := h; exact SqL.of (x _ _ hU11)) ?_ ?_
  · rintro i x σ H12 hx ⟨v10, v13, v14, rfl, S12⟩
    obtain ⟨p, hp, rfl⟩ : ∃ s, us[i]? = some s ∧ x = V.str s := by
      rw [List.getElem?_map] at hx
      cases e : us[i]? with
      | none => rw [e] at hx; cases hx
      | some p => rw [e] at hx; exact ⟨p, rfl, (Option.some.inj hx).symm⟩
    have X12 := X211.trans (.of_same S12)
    refine ⟨_, rfl, _, rfl, l, p, qs, gs, rfl, X12.ls _ _ lf hl2, pg2.tk X12.tk, gl, nd, fun t ds ts H13 S13 nt ht dso dys => ?_⟩
    have X13 := X12.trans (.of_same S13)
    have B13 := B11.same (S12.trans S13)
    refine ⟨_, rfl, _, rfl, b, p, bookL gs, E, ws.map (·.1), low, rfl, bk2.tk X13.tk, bl3, db, B13.y.a, B13.y.b, fun R ds2 rs H14 S14 nR hR dso2 dyr => ?_⟩
    rw [days_eq ro (bookL_perm gs) dok dso2 dso p] at dyr
    have dsl := dso.2.2
    have rl : rs.length ≤ 100 := by
      rw [paired_len dyr, List.length_map]
      omega
    refine ⟨_, rfl, _, rfl, .ref R, .ref t, _, rfl, .lst (SqL.of hR) (dys_dp dyr), .lst (SqL.of (S14 _ _ ht)) (dys_dp (DyS.tk (Tk.same S14) dys)), dys_nice (by rw [List.length_map]; omega), fun H15 S15 => ⟨true, rfl, iteF ?_⟩⟩
    refine ⟨_, rfl, .inl ⟨rfl, _, SqL.of (S15 _ _ hR)⟩, (show 2 ≤ sizeLine by decide), fun T nT => ?_⟩
    have NT := same_new nT (.tup [.int 0, .int 0])
    refine ⟨R, _, _, rfl, rfl, NT _ _ (S15 _ _ hR), ?_, _, _, _, rfl, ?_⟩
    · rw [List.length_map]
      exact Nat.lt_of_le_of_lt (show _ ≤ 1000 by omega) (by decide)
    · exact (S12.trans S13).trans (same_mut (S14.trans (S15.trans NT)) nR)
  · rintro σ H12 ⟨v10, v13, v14, rfl, S12⟩
    exact q H12 ((B11.same S12).mono (by omega)) (X2.trans (X211.trans (.of_same S12)))

theorem ok_law (F : Fun K "law" "law" s_law f_law d_law) (T : Txt mg f_many_in f_named_by_voids f_counted_bags f_standing_of f_pages_that_are f_counted_pages f_until f_of_series f_brought f_traffic f_balance f_moved f_by_days f_lfeed f_ldraw f_lfar f_lwords f_loffice f_lruns f_lnames f_ldeed f_lpages f_llow f_lknot f_lbegun f_lbook f_lsorts f_lsame f_lmany f_lbalance f_ldays f_lright f_law)
    (df1 : P_lbook ≠ P_many_in) (df2 : P_lbook ≠ P_balance)
    (F_lfeed : Fun K "_law_feed" "_law_feed" s_lfeed f_lfeed d_lfeed) (b_lfeed : Binds K d_lfeed ["_law_script"] []) (G_lfeed : FnOk P w K mg base CX0 (10) f_lfeed d_lfeed ["_law_script"] (spFeedE K))
    (F_ldraw : Fun K "_law_draw" "_law_draw" s_ldraw f_ldraw d_ldraw) (b_ldraw : Binds K d_ldraw ["_law_feed_here", "_law_many_here"] []) (G_ldraw : FnOk P w K mg base CX0 (10) f_ldraw d_ldraw ["_law_feed_here", "_law_many_here"] spDrawE)
    (F_lbegun : Fun K "_law_begun" "_law_begun" s_lbegun f_lbegun d_lbegun) (b_lbegun : Binds K d_lbegun ["_law_feed_here"] []) (G_lbegun : FnOk P w K mg base CX0 (10) f_lbegun d_lbegun ["_law_feed_here"] spBegunR)
    (F_lright : Fun K "_law_right" "_law_right" s_lright f_lright d_lright) (b_lright : Binds K d_lright ["_law_feed_here", "_law_office_here", "_law_pages_here"] []) (G_lright : FnOk P w K mg base CX0 (10) f_lright d_lright ["_law_feed_here", "_law_office_here", "_law_pages_here"] (spRightB P_lbook P_many_in P_balance))
    (F_by_days : Fun K "by_days" "by_days" s_by_days f_by_days d_by_days) (b_by_days : Binds K d_by_days ["book", "place"] []) (G_by_days : FnOk P w K mg base CX0 (10) f_by_days d_by_days ["book", "place"] (spByDays P_many_in P_balance))
    (F_balance : Fun K "balance" "balance" s_balance f_balance d_balance) (b_balance : Binds K d_balance ["book", "place"] []) (G_balance : FnOk P w K mg base CX0 (10) f_balance d_balance ["book", "place"] (spBalance P_many_in P_balance))
    (F_lsame : Fun K "_law_same" "_law_same" s_lsame f_lsame d_lsame) (b_lsame : Binds K d_lsame ["_law_found", "_law_due"] []) (G_lsame : FnOk P w K mg base CX0 (10) f_lsame d_lsame ["_law_found", "_law_due"] (spAlike K 3)) :
    FnG P w K mg base 11 f_law d_law ["_law_script"] (spLawL K (LL P_many_in P_balance) [P_lbook, P_balance, P_many_in]) := by
  refine okG F sc_law (fun vs H Q E h => ?_) (fun cdv A outer s H vs Q E hr hg h => ?_)

  · obtain ⟨a, ns, rfl, _⟩ := h
    rfl
  obtain ⟨a, ns, rfl, hs, ht, q⟩ := h
  refine ⟨_, (pss_cons (ps_set (i := 1) sc_law.nd rfl (.inl rfl) (pe_call G_lfeed hr (by rfl) T.m_lfeed F_lfeed.kp b_lfeed .nil pass0 (pa_cons (pv 0) pa_nil)))
  (pss_cons (ps_asg (pe_call G_lbegun hr (by rfl) T.m_lbegun F_lbegun.kp b_lbegun .nil pass0 (pa_cons (pv 1) pa_nil)) (pg_tup rfl (pgs_cons (pg_name (i := 2) sc_law.nd rfl (.inl rfl)) (pgs_cons (pg_name (i := 3) sc_law.nd rfl (.inl rfl)) (pgs_cons (pg_name (i := 4) sc_law.nd rfl (.inl rfl)) pgs_nil)))))
  (pss_cons (ps_if (pt_not (pt_val (pe_call G_lright hr (by rfl) T.m_lright F_lright.kp b_lright .nil pass0 (pa_cons (pv 1) (pa_cons (pv 2) (pa_cons (pv 4) pa_nil))))))
  (pss_one (ps_ret pe_bl))
  pss_nil)
  (pss_cons (ps_set (i := 5) sc_law.nd rfl (.inl rfl) (pe_ix ix_tup (pe_ix ix_list (pv 4) (pe_call G_ldraw hr (by rfl) T.m_ldraw F_ldraw.kp b_ldraw .nil pass0 (pa_cons (pv 1) (pa_cons (pe_callB call_len_seq (by rfl) T.len (by decide +kernel) (pa_cons (pv 4) pa_nil)) pa_nil))) (fun _ _ => rfl)) pe_int (fun _ _ => rfl)))
  (pss_cons (ps_set (i := 6) sc_law.nd rfl (.inl rfl) (pe_op op_cat (pv 4) (pe_lst (pa_cons (pe_tup (pa_cons (pe_tup (pa_cons (pe_call G_ldraw hr (by rfl) T.m_ldraw F_ldraw.kp b_ldraw .nil pass0 (pa_cons (pv 1) (pa_cons pe_int pa_nil))) (pa_cons pe_int (pa_cons pe_str pa_nil)))) (pa_cons (pe_tup (pa_cons pe_str (pa_cons (pv 5) pa_nil))) pa_nil))) pa_nil))))
  (pss_cons (ps_if (PW.pt (pw_or (pt_not (pt_val (pe_call G_lright hr (by rfl) T.m_lright F_lright.kp b_lright .nil pass0 (pa_cons (pv 1) (pa_cons (pv 2) (pa_cons (pv 6) pa_nil)))))) (pw_or1 (pt_not (pt_val (pe_call G_lright hr (by rfl) T.m_lright F_lright.kp b_lright .nil pass0 (pa_cons (pv 1) (pa_cons (pv 2) (pa_cons (pv 4) pa_nil)))))))))
  (pss_one (ps_ret pe_bl))
  pss_nil)
  (pss_one (ps_ret (pe_and (pe_call G_lsame hr (by rfl) T.m_lsame F_lsame.kp b_lsame .nil pass0 (pa_cons (pe_call G_by_days hr (by rfl) T.m_by_days F_by_days.kp b_by_days .nil pass0 (pa_cons (pe_tup pa_nil) (pa_cons pe_str pa_nil))) (pa_cons (pe_lst pa_nil) pa_nil))) (pe_one (pe_call G_lsame hr (by rfl) T.m_lsame F_lsame.kp b_lsame .nil pass0 (pa_cons (pe_call G_balance hr (by rfl) T.m_balance F_balance.kp b_balance .nil pass0 (pa_cons (pe_tup pa_nil) (pa_cons pe_str pa_nil))) (pa_cons pe_int pa_nil))))))))))))), ?_⟩
  refine ⟨_, rfl, a, ns, rfl, hs, fun f c H1 nf S1 fd1 => ?_⟩
  have T3 : TabL H P_lbook qBook := ⟨[], (ht _ (by simp)).trans (congrArg some (hoLL_c df1 df2)), fun c z => nomatch z⟩
  have y0 : TbO P_many_in P_balance H := ⟨(ht _ (by simp)).trans (congrArg some (hoLL_o (.inl rfl))), (ht _ (by simp)).trans (congrArg some (hoLL_o (.inr rfl)))⟩
  have B1 : BwS f c P_lbook P_many_in P_balance H1 0 := ⟨fd1, T3.same S1, y0.same S1⟩
  refine ⟨_, rfl, f, c, 0, rfl, fd1, by decide, fun t o l low ws E1 qs gs H2 fd2 b2 nt0 htt of2 ok2 wsl nl lf lo0 lo1 hl pg gl nd ok g0 dok ro => ?_⟩
  obtain ⟨B2, _⟩ := B1.draw b2 fd2
  have lq := pg.len
  refine ⟨t, _, rfl, SqT.of htt, rfl, _, _, rfl, _, _, rfl, _, _, rfl, rfl, ?_⟩
  refine ⟨_, rfl, _, rfl, _, rfl, f, c, o, l, low, _, ws, E1, qs, gs, rfl, B2, by omega, of2, ok2, ro, hl, lf, pg, by omega, g0, nd, dok, lo0, lo1, df1, df2, fun H4 B4 X4 => ⟨true, rfl, iteF ?_⟩⟩
  have hl4 := X4.ls _ _ lf hl
  have pg4 := pg.tk X4.tk
  refine ⟨_, rfl, _, rfl, _, rfl, l, _, rfl, .inl (SqL.of hl4), f, c, _, _, rfl, B4.fe, by omega, by rw [List.length_map]; omega, by rw [List.length_map]; omega, fun d H5 d0 d1 hf5 b5 n5 => ?_⟩
  obtain ⟨B5, X5⟩ := B4.draw b5 hf5
  have hl5 := X5.ls _ _ lf hl4
  have pg5 := pg4.tk X5.tk
  rw [List.length_map] at d1
  obtain ⟨k, rfl⟩ : ∃ k : Nat, d = (k : Int) := ⟨d.toNat, by omega⟩
  have hk : k < qs.length := by omega
  obtain ⟨g, hg, na, td, p1, p2, p3⟩ := Pgs.get pg5 (List.getElem?_eq_getElem hk)
  refine ⟨l, _, _, _, rfl, rfl, SqL.of hl5, atI_nat (by rw [List.getElem?_map, List.getElem?_eq_getElem hk]; rfl), qs[k], _, _, _, rfl, rfl, SqT.of p1, rfl, ?_⟩
  refine ⟨_, rfl, _, rfl, f, c, 9, _, rfl, B5.fe, by omega, by decide, by decide, fun d2 H6 d20 d21 hf6 b6 n6 => ?_⟩
  obtain ⟨B6, X6⟩ := B5.draw b6 hf6
  refine ⟨(show 3 ≤ sizeLine by decide), fun v1 nv1 => ?_⟩
  have N1 := same_new nv1 (.tup [.int d2, .int 700, .str (Str.ofString "v")])
  refine ⟨_, rfl, (show 2 ≤ sizeLine by decide), fun v2 nv2 => ?_⟩
  have N2 := same_new nv2 (.tup [.str (Str.ofString "void"), .ref na])
  refine ⟨(show 2 ≤ sizeLine by decide), fun v3 nv3 => ?_⟩
  have N3 := same_new nv3 (.tup [.ref v1, .ref v2])
  refine ⟨(show 1 ≤ sizeLine by decide), fun Z nZ => ?_⟩
  have NZ := same_new nZ (.lst [.ref v3])
  have hl6 := X6.ls _ _ lf hl5
  have S67 := N1.trans (N2.trans (N3.trans NZ))
  refine ⟨l, Z, _, _, rfl, rfl, S67 _ _ hl6, upd_same, ?_, fun A nA => ?_⟩
  · rw [List.length_map]
    exact Nat.le_trans (show _ ≤ 1000 by show qs.length + 1 ≤ 1000; omega) (by decide)
  have NA := same_new nA (.lst (qs.map V.ref ++ [.ref v3]))
  have S6A := S67.trans NA
  have hv : PgAt (upd (upd (upd (upd (upd H6 v1 (.tup [.int d2, .int 700, .str (Str.ofString "v")])) v2 (.tup [.str (Str.ofString "void"), .ref na])) v3 (.tup [.ref v1, .ref v2])) Z (.lst [.ref v3])) A (.lst (qs.map V.ref ++ [.ref v3]))) v3 ((d2, 700, Str.ofString "v"), Dd.vd g.1) :=
    ⟨v1, v2, (NZ.trans NA) _ _ upd_same, (N2.trans (N3.trans (NZ.trans NA))) _ _ upd_same, na, (N3.trans (NZ.trans NA)) _ _ upd_same, S6A _ _ (X6.tk _ _ p2)⟩
  have hA : upd (upd (upd (upd (upd H6 v1 (.tup [.int d2, .int 700, .str (Str.ofString "v")])) v2 (.tup [.str (Str.ofString "void"), .ref na])) v3 (.tup [.ref v1, .ref v2])) Z (.lst [.ref v3])) A (.lst (qs.map V.ref ++ [.ref v3])) A = some (.lst ((qs ++ [v3]).map V.ref)) := by
    rw [upd_same, List.map_append]
    rfl
  have Af : A ≠ f := ((B6.fe.same S67).ne nA).1
  generalize upd (upd (upd (upd (upd H6 v1 (.tup [.int d2, .int 700, .str (Str.ofString "v")])) v2 (.tup [.str (Str.ofString "void"), .ref na])) v3 (.tup [.ref v1, .ref v2])) Z (.lst [.ref v3])) A (.lst (qs.map V.ref ++ [.ref v3])) = H7 at *
  have B7 := B6.same S6A
  have X47 : LwX f H4 H7 := X5.trans (X6.trans (.of_same S6A))
  have X37 := X4.trans X47
  have pgA : Pgs H7 (qs ++ [v3]) (gs ++ [((d2, 700, Str.ofString "v"), Dd.vd g.1)]) := (pg4.tk X47.tk).app (Pgs.mk1 hv)
  have ndA : ((gs ++ [((d2, (700 : Int), Str.ofString "v"), Dd.vd g.1)]).map (·.1)).Nodup := by
    rw [List.map_append]
    refine List.nodup_append.mpr ⟨nd, List.pairwise_singleton _ _, fun x hx y hy e => ?_⟩
    obtain ⟨z, hz, rfl⟩ := List.mem_map.mp hx
    rw [List.mem_singleton.mp hy] at e
    have b := (ok z hz).2.2.2.2.1
    rw [e] at b
    exact b.elim (fun b => absurd b (by show ¬ (700 : Int) ≤ 599; decide)) fun b => absurd b (by show ¬ (950 : Int) ≤ 700; decide)
  have dokA : ∀ x ∈ gs ++ [((d2, (700 : Int), Str.ofString "v"), Dd.vd g.1)], DdL E1 (ws.map (·.1)) low x.2 := fun x hx => by
    rcases List.mem_append.mp hx with hx | hx
    · exact dok x hx
    · rw [List.mem_singleton.mp hx]
      exact trivial
  refine ⟨_, rfl, _, rfl, _, rfl, f, c, o, A, low, _, ws, E1, qs ++ [v3], _, rfl, B7, by omega, of2.tk X37.tk, ok2, ro, hA, Af, pgA, by rw [List.length_append, List.length_singleton]; omega, by rw [List.length_append, List.length_singleton]; omega, ndA, dokA, lo0, lo1, df1, df2, fun H8 B8 X8 => ⟨true, rfl, iteT (B := True) ?_⟩⟩
  have X38 := X37.trans X8
  refine ⟨_, rfl, _, rfl, _, rfl, f, c, o, l, low, _, ws, E1, qs, gs, rfl, B8, by omega, of2.tk X38.tk, ok2, ro, X38.ls _ _ lf hl, lf, pg.tk X38.tk, by omega, g0, nd, dok, lo0, lo1, df1, df2, fun H9 B9 X9 => ⟨true, rfl, iteF ?_⟩⟩
  have fin : ∀ {Hx : Hp}, Same H9 Hx → Q (.bl true) Hx := fun {Hx} s => by
    have Bx := B9.same s
    refine q _ fun u hu => ?_
    simp only [List.mem_cons, List.not_mem_nil, or_false] at hu
    rcases hu with rfl | rfl | rfl
    · exact endLL_c df1 df2 Bx.t3
    · exact endLL_o (.inr rfl) Bx.y.b
    · exact endLL_o (.inl rfl) Bx.y.a
  refine ⟨(show 0 ≤ sizeLine by decide), fun T1 nT1 => ?_⟩
  have NT1 := same_new nT1 (.tup [])
  have bk : BkAt (upd H9 T1 (.tup [])) T1 [] := ⟨[], upd_same, .nil⟩
  have db0 : DdB [] [] 0 [] := ⟨fun g hg => (nomatch hg), Nat.zero_le _, by decide, by decide⟩
  have B10 := B9.same NT1
  refine ⟨T1, Str.ofString "none", [], [], [], 0, rfl, bk, Nat.zero_le _, db0, B10.y.a, B10.y.b, fun R ds rs H10 S10 nR hR dso dyr => ?_⟩
  obtain rfl : ds = [] := List.eq_nil_of_length_eq_zero (Nat.le_zero.mp dso.2.2)
  cases dyr
  refine ⟨(show 0 ≤ sizeLine by decide), fun L1 nL1 => ?_⟩
  have NL1 := same_new nL1 (.lst [])
  refine ⟨.ref R, .ref L1, .list [], rfl, .lst (SqL.of (NL1 _ _ hR)) .nil, .lst (SqL.of upd_same) .nil, .inr ⟨[], .inl rfl, Nat.zero_le _, fun e he => nomatch he⟩, fun H12 S12 => ?_⟩
  have S912 := NT1.trans (S10.trans (NL1.trans S12))
  refine ⟨true, rfl, iteT ?_⟩
  refine ⟨(show 0 ≤ sizeLine by decide), fun T2 nT2 => ?_⟩
  have NT2 := same_new nT2 (.tup [])
  have bk2' : BkAt (upd H12 T2 (.tup [])) T2 [] := ⟨[], upd_same, .nil⟩
  have B13 := B9.same (S912.trans NT2)
  refine ⟨T2, Str.ofString "none", [], [], [], 0, rfl, bk2', Nat.zero_le _, db0, B13.y.a, B13.y.b, fun H14 S14 => ?_⟩
  exact ⟨.int _, .int _, .int _, rfl, .int _, .int _, Nice.flat rfl, fun H15 S15 => fin (S912.trans (NT2.trans (S14.trans S15)))⟩

end
def e_many_in : He.DefD := ⟨("many_in", none), "many_in", "many_in", defArgs s_many_in, defBody s_many_in, defScope s_many_in, [], []⟩
def e_named_by_voids : He.DefD := ⟨("named_by_voids", none), "named_by_voids", "named_by_voids", defArgs s_named_by_voids, defBody s_named_by_voids, defScope s_named_by_voids, [], []⟩
def e_counted_bags : He.DefD := ⟨("counted_bags", none), "counted_bags", "counted_bags", defArgs s_counted_bags, defBody s_counted_bags, defScope s_counted_bags, [], []⟩
def e_standing_of : He.DefD := ⟨("standing_of", none), "standing_of", "standing_of", defArgs s_standing_of, defBody s_standing_of, defScope s_standing_of, [], []⟩
def e_pages_that_are : He.DefD := ⟨("pages_that_are", none), "pages_that_are", "pages_that_are", defArgs s_pages_that_are, defBody s_pages_that_are, defScope s_pages_that_are, [], []⟩
def e_counted_pages : He.DefD := ⟨("counted_pages", none), "counted_pages", "counted_pages", defArgs s_counted_pages, defBody s_counted_pages, defScope s_counted_pages, [], []⟩
def e_until : He.DefD := ⟨("until", none), "until", "until", defArgs s_until, defBody s_until, defScope s_until, [], []⟩
def e_of_series : He.DefD := ⟨("of_series", none), "of_series", "of_series", defArgs s_of_series, defBody s_of_series, defScope s_of_series, [], []⟩
def e_brought : He.DefD := ⟨("brought", none), "brought", "brought", defArgs s_brought, defBody s_brought, defScope s_brought, [], []⟩
def e_traffic : He.DefD := ⟨("traffic", none), "traffic", "traffic", defArgs s_traffic, defBody s_traffic, defScope s_traffic, [], []⟩
def e_balance : He.DefD := ⟨("balance", none), "balance", "balance", defArgs s_balance, defBody s_balance, defScope s_balance, [], []⟩
def e_moved : He.DefD := ⟨("moved", none), "moved", "moved", defArgs s_moved, defBody s_moved, defScope s_moved, [], []⟩
def e_by_days : He.DefD := ⟨("by_days", none), "by_days", "by_days", defArgs s_by_days, defBody s_by_days, defScope s_by_days, [], []⟩
def e_lfeed : He.DefD := ⟨("_law_feed", none), "_law_feed", "_law_feed", defArgs s_lfeed, defBody s_lfeed, defScope s_lfeed, [], []⟩
def e_ldraw : He.DefD := ⟨("_law_draw", none), "_law_draw", "_law_draw", defArgs s_ldraw, defBody s_ldraw, defScope s_ldraw, [], []⟩
def e_lfar : He.DefD := ⟨("_law_far", none), "_law_far", "_law_far", defArgs s_lfar, defBody s_lfar, defScope s_lfar, [], []⟩
def e_lwords : He.DefD := ⟨("_law_words", none), "_law_words", "_law_words", defArgs s_lwords, defBody s_lwords, defScope s_lwords, [], []⟩
def e_loffice : He.DefD := ⟨("_law_office", none), "_law_office", "_law_office", defArgs s_loffice, defBody s_loffice, defScope s_loffice, [], []⟩
def e_lruns : He.DefD := ⟨("_law_runs", none), "_law_runs", "_law_runs", defArgs s_lruns, defBody s_lruns, defScope s_lruns, [], []⟩
def e_lnames : He.DefD := ⟨("_law_names", none), "_law_names", "_law_names", defArgs s_lnames, defBody s_lnames, defScope s_lnames, [], []⟩
def e_ldeed : He.DefD := ⟨("_law_deed", none), "_law_deed", "_law_deed", defArgs s_ldeed, defBody s_ldeed, defScope s_ldeed, [], []⟩
def e_lpages : He.DefD := ⟨("_law_pages", none), "_law_pages", "_law_pages", defArgs s_lpages, defBody s_lpages, defScope s_lpages, [], []⟩
def e_llow : He.DefD := ⟨("_law_low", none), "_law_low", "_law_low", defArgs s_llow, defBody s_llow, defScope s_llow, [], []⟩
def e_lknot : He.DefD := ⟨("_law_knot", none), "_law_knot", "_law_knot", defArgs s_lknot, defBody s_lknot, defScope s_lknot, [], []⟩
def e_lbegun : He.DefD := ⟨("_law_begun", none), "_law_begun", "_law_begun", defArgs s_lbegun, defBody s_lbegun, defScope s_lbegun, [], []⟩
def e_lbook : He.DefD := ⟨("_law_book", none), "_law_book", "_law_book", defArgs s_lbook, defBody s_lbook, defScope s_lbook, [], []⟩
def e_lsorts : He.DefD := ⟨("_law_sorts", none), "_law_sorts", "_law_sorts", defArgs s_lsorts, defBody s_lsorts, defScope s_lsorts, [], []⟩
def e_lsame : He.DefD := ⟨("_law_same", none), "_law_same", "_law_same", defArgs s_lsame, defBody s_lsame, defScope s_lsame, [], []⟩
def e_lmany : He.DefD := ⟨("_law_many", none), "_law_many", "_law_many", defArgs s_lmany, defBody s_lmany, defScope s_lmany, [], []⟩
def e_lbalance : He.DefD := ⟨("_law_balance", none), "_law_balance", "_law_balance", defArgs s_lbalance, defBody s_lbalance, defScope s_lbalance, [], []⟩
def e_ldays : He.DefD := ⟨("_law_days", none), "_law_days", "_law_days", defArgs s_ldays, defBody s_ldays, defScope s_ldays, [], []⟩
def e_lright : He.DefD := ⟨("_law_right", none), "_law_right", "_law_right", defArgs s_lright, defBody s_lright, defScope s_lright, [], []⟩
def e_law : He.DefD := ⟨("law", none), "law", "law", defArgs s_law, defBody s_law, defScope s_law, [], []⟩
def fn : List He.DefD := [e_many_in, e_named_by_voids, e_counted_bags, e_standing_of, e_pages_that_are, e_counted_pages, e_until, e_of_series, e_brought, e_traffic, e_balance, e_moved, e_by_days, e_lfeed, e_ldraw, e_lfar, e_lwords, e_loffice, e_lruns, e_lnames, e_ldeed, e_lpages, e_llow, e_lknot, e_lbegun, e_lbook, e_lsorts, e_lsame, e_lmany, e_lbalance, e_ldays, e_lright, e_law]
def fa : List He.Fa := [.glo "many_in", .glo "named_by_voids", .glo "counted_bags", .glo "standing_of", .glo "pages_that_are", .glo "counted_pages", .glo "until", .glo "of_series", .glo "brought", .glo "traffic", .glo "balance", .glo "moved", .glo "by_days", .glo "_law_feed", .glo "_law_draw", .glo "_law_far", .glo "_law_words", .glo "_law_office", .glo "_law_runs", .glo "_law_names", .glo "_law_deed", .glo "_law_pages", .glo "_law_low", .glo "_law_knot", .glo "_law_begun", .glo "_law_book", .glo "_law_sorts", .glo "_law_same", .glo "_law_many", .glo "_law_balance", .glo "_law_days", .glo "_law_right", .glo "law", .free "len", .free "range", .free "sorted", .free "tuple", .free "isinstance", .free "abs", .free "int", .free "list", .free "set", .free "all", .free "str", .free "bool", .free "any", .free "dict", .free "sum"]
abbrev R : PySem.W.OpenRow := PySem.W.OpenLaw.row PySem.Challenge.rw_pressnotes_k30_balances
def tf : List He.Defn := [("_law_book", none), ("balance", none), ("many_in", none)]
def exB (K : PySem.W.Frag) : Bool := decide ((He.cT K ("_law_book", none)).2 ≠ (He.cT K ("many_in", none)).2) && decide ((He.cT K ("_law_book", none)).2 ≠ (He.cT K ("balance", none)).2)
abbrev hk : PySem.W.Hook := He.hookX 6 fa fn [] tf exB
def ob (s : PySem.W.SharedT) : He.AlX := He.obsX 6 fa fn [] tf exB (HandSHeadRun.getT s)
theorem ob_eq (s : PySem.W.SharedT) : ob s = hk.obs s.abs := He.obsX_eq (HandSHeadRun.getT_eq s)
def loose : List Str := [("many_in" : PySem.Str), ("named_by_voids" : PySem.Str), ("counted_bags" : PySem.Str), ("standing_of" : PySem.Str), ("pages_that_are" : PySem.Str), ("counted_pages" : PySem.Str), ("until" : PySem.Str), ("of_series" : PySem.Str), ("brought" : PySem.Str), ("traffic" : PySem.Str), ("balance" : PySem.Str), ("moved" : PySem.Str), ("by_days" : PySem.Str), ("_law_feed" : PySem.Str), ("_law_draw" : PySem.Str), ("_law_far" : PySem.Str), ("_law_words" : PySem.Str), ("_law_office" : PySem.Str), ("_law_runs" : PySem.Str), ("_law_names" : PySem.Str), ("_law_deed" : PySem.Str), ("_law_pages" : PySem.Str), ("_law_low" : PySem.Str), ("_law_knot" : PySem.Str), ("_law_begun" : PySem.Str), ("_law_book" : PySem.Str), ("_law_sorts" : PySem.Str), ("_law_same" : PySem.Str), ("_law_many" : PySem.Str), ("_law_balance" : PySem.Str), ("_law_days" : PySem.Str), ("_law_right" : PySem.Str)]
theorem run (w : World) : HandSHeadRun.RunEq R (PySem.W.view R.prog [37]) hk ob 8000 [("many_in" : PySem.Str), ("named_by_voids" : PySem.Str), ("counted_bags" : PySem.Str), ("standing_of" : PySem.Str), ("pages_that_are" : PySem.Str), ("counted_pages" : PySem.Str), ("until" : PySem.Str), ("of_series" : PySem.Str), ("brought" : PySem.Str), ("traffic" : PySem.Str), ("balance" : PySem.Str), ("moved" : PySem.Str), ("by_days" : PySem.Str), ("_law_feed" : PySem.Str), ("_law_draw" : PySem.Str), ("_law_far" : PySem.Str), ("_law_words" : PySem.Str), ("_law_office" : PySem.Str), ("_law_runs" : PySem.Str), ("_law_names" : PySem.Str), ("_law_deed" : PySem.Str), ("_law_pages" : PySem.Str), ("_law_low" : PySem.Str), ("_law_knot" : PySem.Str), ("_law_begun" : PySem.Str), ("_law_book" : PySem.Str), ("_law_sorts" : PySem.Str), ("_law_same" : PySem.Str), ("_law_many" : PySem.Str), ("_law_balance" : PySem.Str), ("_law_days" : PySem.Str), ("_law_right" : PySem.Str)] w := by
  intro os
  kernel_rfl
theorem toFun {K : PySem.W.Frag} {x : Str} {st : Stmt} {f : Addr} {fd : FuncData} (F : FunD K x x (defArgs st) (defBody st) (defScope st) [] [] f fd) : Fun K x x st f fd := by
  obtain ⟨oc, od, dV, kV, doc, pm, an, cdv, ct, osl, e, lk, hcd, hd, hk⟩ := F.ex
  have z : dV = .none := by
    rcases hd with h | h
    · exact h.2
    · exact absurd rfl h.1
  subst z
  exact ⟨⟨oc, od, kV, doc, pm, an, cdv, ct, osl, e, lk, hcd⟩, F.kp⟩
theorem facts {w : World} {K : PySem.W.Frag} {h : Heap} {mg : Str → Option Value} {f : Addr} (X : K.In h) (G : h.Ns mainGlobals mg) (hfa : mg ("law" : Str) = some (.ref f)) (c : He.SaysD fa fn K) (df_lbook_many_in : (He.cT K ("_law_book", none)).2 ≠ (He.cT K ("many_in", none)).2) (df_lbook_balance : (He.cT K ("_law_book", none)).2 ≠ (He.cT K ("balance", none)).2) :
    ∃ fd : FuncData, (∀ (s : Shared) (v : Value), BindsTo s fd ⟨[v], []⟩ [("_law_script", v)]) ∧ ∀ base : Heap, K.In base → base.Ns mainGlobals mg → (∀ p ∈ tf.map (He.cT K), GxR.TabB base mg p.1 p.2) → FnG (PySem.Challenge.rw_pressnotes_k30_balances).prog w K mg base 11 f fd ["_law_script"] (spLawL K (LL (He.cT K ("many_in", none)).2 (He.cT K ("balance", none)).2) ((tf.map (He.cT K)).map (·.2))) := by
  obtain ⟨d_many_in, F0_many_in⟩ := c.def_ 0 (d := e_many_in) rfl
  have F_many_in := toFun (st := s_many_in) F0_many_in
  obtain ⟨d_named_by_voids, F0_named_by_voids⟩ := c.def_ 1 (d := e_named_by_voids) rfl
  have F_named_by_voids := toFun (st := s_named_by_voids) F0_named_by_voids
  obtain ⟨d_counted_bags, F0_counted_bags⟩ := c.def_ 2 (d := e_counted_bags) rfl
  have F_counted_bags := toFun (st := s_counted_bags) F0_counted_bags
  obtain ⟨d_standing_of, F0_standing_of⟩ := c.def_ 3 (d := e_standing_of) rfl
  have F_standing_of := toFun (st := s_standing_of) F0_standing_of
  obtain ⟨d_pages_that_are, F0_pages_that_are⟩ := c.def_ 4 (d := e_pages_that_are) rfl
  have F_pages_that_are := toFun (st := s_pages_that_are) F0_pages_that_are
  obtain ⟨d_counted_pages, F0_counted_pages⟩ := c.def_ 5 (d := e_counted_pages) rfl
  have F_counted_pages := toFun (st := s_counted_pages) F0_counted_pages
  obtain ⟨d_until, F0_until⟩ := c.def_ 6 (d := e_until) rfl
  have F_until := toFun (st := s_until) F0_until
  obtain ⟨d_of_series, F0_of_series⟩ := c.def_ 7 (d := e_of_series) rfl
  have F_of_series := toFun (st := s_of_series) F0_of_series
  obtain ⟨d_brought, F0_brought⟩ := c.def_ 8 (d := e_brought) rfl
  have F_brought := toFun (st := s_brought) F0_brought
  obtain ⟨d_traffic, F0_traffic⟩ := c.def_ 9 (d := e_traffic) rfl
  have F_traffic := toFun (st := s_traffic) F0_traffic
  obtain ⟨d_balance, F0_balance⟩ := c.def_ 10 (d := e_balance) rfl
  have F_balance := toFun (st := s_balance) F0_balance
  obtain ⟨d_moved, F0_moved⟩ := c.def_ 11 (d := e_moved) rfl
  have F_moved := toFun (st := s_moved) F0_moved
  obtain ⟨d_by_days, F0_by_days⟩ := c.def_ 12 (d := e_by_days) rfl
  have F_by_days := toFun (st := s_by_days) F0_by_days
  obtain ⟨d_lfeed, F0_lfeed⟩ := c.def_ 13 (d := e_lfeed) rfl
  have F_lfeed := toFun (st := s_lfeed) F0_lfeed
  obtain ⟨d_ldraw, F0_ldraw⟩ := c.def_ 14 (d := e_ldraw) rfl
  have F_ldraw := toFun (st := s_ldraw) F0_ldraw
  obtain ⟨d_lfar, F0_lfar⟩ := c.def_ 15 (d := e_lfar) rfl
  have F_lfar := toFun (st := s_lfar) F0_lfar
  obtain ⟨d_lwords, F0_lwords⟩ := c.def_ 16 (d := e_lwords) rfl
  have F_lwords := toFun (st := s_lwords) F0_lwords
  obtain ⟨d_loffice, F0_loffice⟩ := c.def_ 17 (d := e_loffice) rfl
  have F_loffice := toFun (st := s_loffice) F0_loffice
  obtain ⟨d_lruns, F0_lruns⟩ := c.def_ 18 (d := e_lruns) rfl
  have F_lruns := toFun (st := s_lruns) F0_lruns
  obtain ⟨d_lnames, F0_lnames⟩ := c.def_ 19 (d := e_lnames) rfl
  have F_lnames := toFun (st := s_lnames) F0_lnames
  obtain ⟨d_ldeed, F0_ldeed⟩ := c.def_ 20 (d := e_ldeed) rfl
  have F_ldeed := toFun (st := s_ldeed) F0_ldeed
  obtain ⟨d_lpages, F0_lpages⟩ := c.def_ 21 (d := e_lpages) rfl
  have F_lpages := toFun (st := s_lpages) F0_lpages
  obtain ⟨d_llow, F0_llow⟩ := c.def_ 22 (d := e_llow) rfl
  have F_llow := toFun (st := s_llow) F0_llow
  obtain ⟨d_lknot, F0_lknot⟩ := c.def_ 23 (d := e_lknot) rfl
  have F_lknot := toFun (st := s_lknot) F0_lknot
  obtain ⟨d_lbegun, F0_lbegun⟩ := c.def_ 24 (d := e_lbegun) rfl
  have F_lbegun := toFun (st := s_lbegun) F0_lbegun
  obtain ⟨d_lbook, F0_lbook⟩ := c.def_ 25 (d := e_lbook) rfl
  have F_lbook := toFun (st := s_lbook) F0_lbook
  obtain ⟨d_lsorts, F0_lsorts⟩ := c.def_ 26 (d := e_lsorts) rfl
  have F_lsorts := toFun (st := s_lsorts) F0_lsorts
  obtain ⟨d_lsame, F0_lsame⟩ := c.def_ 27 (d := e_lsame) rfl
  have F_lsame := toFun (st := s_lsame) F0_lsame
  obtain ⟨d_lmany, F0_lmany⟩ := c.def_ 28 (d := e_lmany) rfl
  have F_lmany := toFun (st := s_lmany) F0_lmany
  obtain ⟨d_lbalance, F0_lbalance⟩ := c.def_ 29 (d := e_lbalance) rfl
  have F_lbalance := toFun (st := s_lbalance) F0_lbalance
  obtain ⟨d_ldays, F0_ldays⟩ := c.def_ 30 (d := e_ldays) rfl
  have F_ldays := toFun (st := s_ldays) F0_ldays
  obtain ⟨d_lright, F0_lright⟩ := c.def_ 31 (d := e_lright) rfl
  have F_lright := toFun (st := s_lright) F0_lright
  obtain ⟨d_law, F0_law⟩ := c.def_ 32 (d := e_law) rfl
  have F_law := toFun (st := s_law) F0_law
  have T : Txt mg _ _ _ _ _ _ _ _ _ _ _ _ _ _ _ _ _ _ _ _ _ _ _ _ _ _ _ _ _ _ _ _ _ := ⟨He.glo_ok X G (c.fact 0 (f := .glo "many_in") rfl), He.glo_ok X G (c.fact 1 (f := .glo "named_by_voids") rfl), He.glo_ok X G (c.fact 2 (f := .glo "counted_bags") rfl), He.glo_ok X G (c.fact 3 (f := .glo "standing_of") rfl), He.glo_ok X G (c.fact 4 (f := .glo "pages_that_are") rfl), He.glo_ok X G (c.fact 5 (f := .glo "counted_pages") rfl), He.glo_ok X G (c.fact 6 (f := .glo "until") rfl), He.glo_ok X G (c.fact 7 (f := .glo "of_series") rfl), He.glo_ok X G (c.fact 8 (f := .glo "brought") rfl), He.glo_ok X G (c.fact 9 (f := .glo "traffic") rfl), He.glo_ok X G (c.fact 10 (f := .glo "balance") rfl), He.glo_ok X G (c.fact 11 (f := .glo "moved") rfl), He.glo_ok X G (c.fact 12 (f := .glo "by_days") rfl), He.glo_ok X G (c.fact 13 (f := .glo "_law_feed") rfl), He.glo_ok X G (c.fact 14 (f := .glo "_law_draw") rfl), He.glo_ok X G (c.fact 15 (f := .glo "_law_far") rfl), He.glo_ok X G (c.fact 16 (f := .glo "_law_words") rfl), He.glo_ok X G (c.fact 17 (f := .glo "_law_office") rfl), He.glo_ok X G (c.fact 18 (f := .glo "_law_runs") rfl), He.glo_ok X G (c.fact 19 (f := .glo "_law_names") rfl), He.glo_ok X G (c.fact 20 (f := .glo "_law_deed") rfl), He.glo_ok X G (c.fact 21 (f := .glo "_law_pages") rfl), He.glo_ok X G (c.fact 22 (f := .glo "_law_low") rfl), He.glo_ok X G (c.fact 23 (f := .glo "_law_knot") rfl), He.glo_ok X G (c.fact 24 (f := .glo "_law_begun") rfl), He.glo_ok X G (c.fact 25 (f := .glo "_law_book") rfl), He.glo_ok X G (c.fact 26 (f := .glo "_law_sorts") rfl), He.glo_ok X G (c.fact 27 (f := .glo "_law_same") rfl), He.glo_ok X G (c.fact 28 (f := .glo "_law_many") rfl), He.glo_ok X G (c.fact 29 (f := .glo "_law_balance") rfl), He.glo_ok X G (c.fact 30 (f := .glo "_law_days") rfl), He.glo_ok X G (c.fact 31 (f := .glo "_law_right") rfl), He.glo_ok X G (c.fact 32 (f := .glo "law") rfl), He.free_ok X G (c.fact 33 (f := .free "len") rfl), He.free_ok X G (c.fact 34 (f := .free "range") rfl), He.free_ok X G (c.fact 35 (f := .free "sorted") rfl), He.free_ok X G (c.fact 36 (f := .free "tuple") rfl), He.free_ok X G (c.fact 37 (f := .free "isinstance") rfl), He.free_ok X G (c.fact 38 (f := .free "abs") rfl), He.free_ok X G (c.fact 39 (f := .free "int") rfl), He.free_ok X G (c.fact 40 (f := .free "list") rfl), He.free_ok X G (c.fact 41 (f := .free "set") rfl), He.free_ok X G (c.fact 42 (f := .free "all") rfl), He.free_ok X G (c.fact 43 (f := .free "str") rfl), He.free_ok X G (c.fact 44 (f := .free "bool") rfl), He.free_ok X G (c.fact 45 (f := .free "any") rfl), He.free_ok X G (c.fact 46 (f := .free "dict") rfl), He.free_ok X G (c.fact 47 (f := .free "sum") rfl)⟩
  have el := hfa.symm.trans T.m_law
  cases el
  have b_many_in := F_many_in.binds (ps := ["runs"]) fun _ _ _ _ _ _ us hl => match us, hl with | [_], _ => rfl
  have b_named_by_voids := F_named_by_voids.binds (ps := ["book"]) fun _ _ _ _ _ _ us hl => match us, hl with | [_], _ => rfl
  have b_counted_bags := F_counted_bags.binds (ps := ["book"]) fun _ _ _ _ _ _ us hl => match us, hl with | [_], _ => rfl
  have b_standing_of := F_standing_of.binds (ps := ["page", "gone", "bags"]) fun _ _ _ _ _ _ us hl => match us, hl with | [_, _, _], _ => rfl
  have b_pages_that_are := F_pages_that_are.binds (ps := ["book", "standing"]) fun _ _ _ _ _ _ us hl => match us, hl with | [_, _], _ => rfl
  have b_counted_pages := F_counted_pages.binds (ps := ["book"]) fun _ _ _ _ _ _ us hl => match us, hl with | [_], _ => rfl
  have b_until := F_until.binds (ps := ["book", "day"]) fun _ _ _ _ _ _ us hl => match us, hl with | [_, _], _ => rfl
  have b_of_series := F_of_series.binds (ps := ["runs", "series"]) fun _ _ _ _ _ _ us hl => match us, hl with | [_, _], _ => rfl
  have b_brought := F_brought.binds (ps := ["deed", "place", "many"]) fun _ _ _ _ _ _ us hl => match us, hl with | [_, _, _], _ => rfl
  have b_traffic := F_traffic.binds (ps := ["book", "place"]) fun _ _ _ _ _ _ us hl => match us, hl with | [_, _], _ => rfl
  have b_balance := F_balance.binds (ps := ["book", "place"]) fun _ _ _ _ _ _ us hl => match us, hl with | [_, _], _ => rfl
  have b_moved := F_moved.binds (ps := ["book", "place", "series"]) fun _ _ _ _ _ _ us hl => match us, hl with | [_, _, _], _ => rfl
  have b_by_days := F_by_days.binds (ps := ["book", "place"]) fun _ _ _ _ _ _ us hl => match us, hl with | [_, _], _ => rfl
  have b_lfeed := F_lfeed.binds (ps := ["_law_script"]) fun _ _ _ _ _ _ us hl => match us, hl with | [_], _ => rfl
  have b_ldraw := F_ldraw.binds (ps := ["_law_feed_here", "_law_many_here"]) fun _ _ _ _ _ _ us hl => match us, hl with | [_, _], _ => rfl
  have b_lfar := F_lfar.binds (ps := ["_law_feed_here", "_law_many_here"]) fun _ _ _ _ _ _ us hl => match us, hl with | [_, _], _ => rfl
  have b_lwords := F_lwords.binds (ps := ["_law_feed_here", "_law_many_here"]) fun _ _ _ _ _ _ us hl => match us, hl with | [_, _], _ => rfl
  have b_loffice := F_loffice.binds (ps := ["_law_feed_here"]) fun _ _ _ _ _ _ us hl => match us, hl with | [_], _ => rfl
  have b_lruns := F_lruns.binds (ps := ["_law_feed_here", "_law_series", "_law_low_here"]) fun _ _ _ _ _ _ us hl => match us, hl with | [_, _, _], _ => rfl
  have b_lnames := F_lnames.binds (ps := ["_law_feed_here", "_law_many_here"]) fun _ _ _ _ _ _ us hl => match us, hl with | [_, _], _ => rfl
  have b_ldeed := F_ldeed.binds (ps := ["_law_feed_here", "_law_office_here", "_law_names_here", "_law_kinds", "_law_k", "_law_low_here"]) fun _ _ _ _ _ _ us hl => match us, hl with | [_, _, _, _, _, _], _ => rfl
  have b_lpages := F_lpages.binds (ps := ["_law_feed_here", "_law_office_here", "_law_many_here", "_law_low_here"]) fun _ _ _ _ _ _ us hl => match us, hl with | [_, _, _, _], _ => rfl
  have b_llow := F_llow.binds (ps := ["_law_feed_here"]) fun _ _ _ _ _ _ us hl => match us, hl with | [_], _ => rfl
  have b_lknot := F_lknot.binds (ps := ["_law_feed_here", "_law_office_here", "_law_low_here"]) fun _ _ _ _ _ _ us hl => match us, hl with | [_, _, _], _ => rfl
  have b_lbegun := F_lbegun.binds (ps := ["_law_feed_here"]) fun _ _ _ _ _ _ us hl => match us, hl with | [_], _ => rfl
  have b_lbook := F_lbook.binds (ps := ["_law_pages_here"]) fun _ _ _ _ _ _ us hl => match us, hl with | [_], _ => rfl
  have b_lsorts := F_lsorts.binds (ps := ["_law_pages_here"]) fun _ _ _ _ _ _ us hl => match us, hl with | [_], _ => rfl
  have b_lsame := F_lsame.binds (ps := ["_law_found", "_law_due"]) fun _ _ _ _ _ _ us hl => match us, hl with | [_, _], _ => rfl
  have b_lmany := F_lmany.binds (ps := ["_law_deed_here", "_law_series"]) fun _ _ _ _ _ _ us hl => match us, hl with | [_, _], _ => rfl
  have b_lbalance := F_lbalance.binds (ps := ["_law_pages_here", "_law_place", "_law_series"]) fun _ _ _ _ _ _ us hl => match us, hl with | [_, _, _], _ => rfl
  have b_ldays := F_ldays.binds (ps := ["_law_pages_here", "_law_place"]) fun _ _ _ _ _ _ us hl => match us, hl with | [_, _], _ => rfl
  have b_lright := F_lright.binds (ps := ["_law_feed_here", "_law_office_here", "_law_pages_here"]) fun _ _ _ _ _ _ us hl => match us, hl with | [_, _, _], _ => rfl
  have b_law := F_law.binds (ps := ["_law_script"]) fun _ _ _ _ _ _ us hl => match us, hl with | [_], _ => rfl
  refine ⟨d_law, fun s v => FunD.bindsA (ps := ["_law_script"]) F0_law (fun _ _ _ _ _ _ us hl => match us, hl with | [_], _ => rfl) s [v] rfl, fun base _ _ TBs => ?_⟩
  have hc_lbook := code_of (p := ("_law_book", none)) F0_lbook
  have TB_lbook := TBs (He.cT K ("_law_book", none)) (List.mem_map.mpr ⟨_, by simp [tf], rfl⟩)
  have hc_balance := code_of (p := ("balance", none)) F0_balance
  have TB_balance := TBs (He.cT K ("balance", none)) (List.mem_map.mpr ⟨_, by simp [tf], rfl⟩)
  have hc_many_in := code_of (p := ("many_in", none)) F0_many_in
  have TB_many_in := TBs (He.cT K ("many_in", none)) (List.mem_map.mpr ⟨_, by simp [tf], rfl⟩)
  have G_many_in : FnOk (PySem.Challenge.rw_pressnotes_k30_balances).prog w K mg base CX0 2 _ _ _ _ := ok_many_in F_many_in T hc_many_in TB_many_in
  have G_named_by_voids : FnOk (PySem.Challenge.rw_pressnotes_k30_balances).prog w K mg base CX0 1 _ _ _ _ := ok_named_by_voids F_named_by_voids T
  have G_counted_bags : FnOk (PySem.Challenge.rw_pressnotes_k30_balances).prog w K mg base CX0 2 _ _ _ _ := ok_counted_bags F_counted_bags T F_named_by_voids b_named_by_voids (G_named_by_voids.mono (by decide))
  have G_standing_of : FnOk (PySem.Challenge.rw_pressnotes_k30_balances).prog w K mg base CX0 1 _ _ _ _ := ok_standing_of F_standing_of T
  have G_pages_that_are : FnOk (PySem.Challenge.rw_pressnotes_k30_balances).prog w K mg base CX0 3 _ _ _ _ := ok_pages_that_are F_pages_that_are T F_named_by_voids b_named_by_voids (G_named_by_voids.mono (by decide)) F_counted_bags b_counted_bags (G_counted_bags.mono (by decide)) F_standing_of b_standing_of (G_standing_of.mono (by decide))
  have G_counted_pages : FnOk (PySem.Challenge.rw_pressnotes_k30_balances).prog w K mg base CX0 4 _ _ _ _ := ok_counted_pages F_counted_pages T F_pages_that_are b_pages_that_are (G_pages_that_are.mono (by decide))
  have G_until : FnOk (PySem.Challenge.rw_pressnotes_k30_balances).prog w K mg base CX0 1 _ _ _ _ := ok_until F_until T
  have G_of_series : FnOk (PySem.Challenge.rw_pressnotes_k30_balances).prog w K mg base CX0 1 _ _ _ _ := ok_of_series F_of_series T
  have G_brought : FnOk (PySem.Challenge.rw_pressnotes_k30_balances).prog w K mg base CX0 1 _ _ _ _ := ok_brought F_brought T
  have G_traffic : FnOk (PySem.Challenge.rw_pressnotes_k30_balances).prog w K mg base CX0 5 _ _ _ _ := ok_traffic F_traffic T F_counted_pages b_counted_pages (G_counted_pages.mono (by decide)) F_brought b_brought (G_brought.mono (by decide)) F_many_in b_many_in (G_many_in.mono (by decide))
  have G_balance : FnOk (PySem.Challenge.rw_pressnotes_k30_balances).prog w K mg base CX0 7 _ _ _ _ := ok_balance F_balance T F_traffic b_traffic (G_traffic.mono (by decide)) hc_balance TB_balance
  have G_moved : FnOk (PySem.Challenge.rw_pressnotes_k30_balances).prog w K mg base CX0 5 _ _ _ _ := ok_moved F_moved T F_counted_pages b_counted_pages (G_counted_pages.mono (by decide)) F_brought b_brought (G_brought.mono (by decide)) F_many_in b_many_in (G_many_in.mono (by decide)) F_of_series b_of_series (G_of_series.mono (by decide))
  have G_by_days : FnOk (PySem.Challenge.rw_pressnotes_k30_balances).prog w K mg base CX0 9 _ _ _ _ := ok_by_days F_by_days T F_until b_until (G_until.mono (by decide)) F_balance b_balance (G_balance.mono (by decide))
  have G_lfeed : FnOk (PySem.Challenge.rw_pressnotes_k30_balances).prog w K mg base CX0 1 _ _ _ _ := ok_lfeed F_lfeed T
  have G_ldraw : FnOk (PySem.Challenge.rw_pressnotes_k30_balances).prog w K mg base CX0 1 _ _ _ _ := ok_ldraw F_ldraw T
  have G_lfar : FnOk (PySem.Challenge.rw_pressnotes_k30_balances).prog w K mg base CX0 2 _ _ _ _ := ok_lfar F_lfar T F_ldraw b_ldraw (G_ldraw.mono (by decide))
  have G_llow : FnOk (PySem.Challenge.rw_pressnotes_k30_balances).prog w K mg base CX0 3 _ _ _ _ := ok_llow F_llow T F_ldraw b_ldraw (G_ldraw.mono (by decide)) F_lfar b_lfar (G_lfar.mono (by decide))
  have G_lwords : FnOk (PySem.Challenge.rw_pressnotes_k30_balances).prog w K mg base CX0 2 _ _ _ _ := ok_lwords F_lwords T F_ldraw b_ldraw (G_ldraw.mono (by decide))
  have G_lnames : FnOk (PySem.Challenge.rw_pressnotes_k30_balances).prog w K mg base CX0 3 _ _ _ _ := ok_lnames F_lnames T F_ldraw b_ldraw (G_ldraw.mono (by decide)) F_lwords b_lwords (G_lwords.mono (by decide))
  have G_lruns : FnOk (PySem.Challenge.rw_pressnotes_k30_balances).prog w K mg base CX0 2 _ _ _ _ := ok_lruns F_lruns T F_ldraw b_ldraw (G_ldraw.mono (by decide))
  have G_ldeed : FnOk (PySem.Challenge.rw_pressnotes_k30_balances).prog w K mg base CX0 3 _ _ _ _ := ok_ldeed F_ldeed T F_ldraw b_ldraw (G_ldraw.mono (by decide)) F_lruns b_lruns (G_lruns.mono (by decide))
  have G_lpages : FnOk (PySem.Challenge.rw_pressnotes_k30_balances).prog w K mg base CX0 4 _ _ _ _ := ok_lpages F_lpages T F_ldraw b_ldraw (G_ldraw.mono (by decide)) F_lnames b_lnames (G_lnames.mono (by decide)) F_ldeed b_ldeed (G_ldeed.mono (by decide))
  have G_lknot : FnOk (PySem.Challenge.rw_pressnotes_k30_balances).prog w K mg base CX0 3 _ _ _ _ := ok_lknot F_lknot T F_ldraw b_ldraw (G_ldraw.mono (by decide)) F_lruns b_lruns (G_lruns.mono (by decide))
  have G_loffice : FnOk (PySem.Challenge.rw_pressnotes_k30_balances).prog w K mg base CX0 3 _ _ _ _ := ok_loffice F_loffice T F_lwords b_lwords (G_lwords.mono (by decide)) F_ldraw b_ldraw (G_ldraw.mono (by decide))
  have G_lbegun : FnOk (PySem.Challenge.rw_pressnotes_k30_balances).prog w K mg base CX0 5 _ _ _ _ := ok_lbegun F_lbegun T F_ldraw b_ldraw (G_ldraw.mono (by decide)) F_loffice b_loffice (G_loffice.mono (by decide)) F_llow b_llow (G_llow.mono (by decide)) F_lpages b_lpages (G_lpages.mono (by decide)) F_lknot b_lknot (G_lknot.mono (by decide))
  have G_lbook : FnOk (PySem.Challenge.rw_pressnotes_k30_balances).prog w K mg base CX0 2 _ _ _ _ := ok_lbook F_lbook T hc_lbook TB_lbook
  have G_lsorts : FnOk (PySem.Challenge.rw_pressnotes_k30_balances).prog w K mg base CX0 1 _ _ _ _ := ok_lsorts F_lsorts T
  have G_lmany : FnOk (PySem.Challenge.rw_pressnotes_k30_balances).prog w K mg base CX0 1 _ _ _ _ := ok_lmany F_lmany T
  have G_lbalance : FnOk (PySem.Challenge.rw_pressnotes_k30_balances).prog w K mg base CX0 3 _ _ _ _ := ok_lbalance F_lbalance T F_lsorts b_lsorts (G_lsorts.mono (by decide)) F_lmany b_lmany (G_lmany.mono (by decide))
  have G_ldays : FnOk (PySem.Challenge.rw_pressnotes_k30_balances).prog w K mg base CX0 5 _ _ _ _ := ok_ldays F_ldays T F_lbalance b_lbalance (G_lbalance.mono (by decide))
  have A1 : FnOk (PySem.Challenge.rw_pressnotes_k30_balances).prog w K mg base CX0 2 _ _ _ (spAlike K 1) := ok_lsame F_lsame T F_lsame b_lsame alike_none
  have A2 : FnOk (PySem.Challenge.rw_pressnotes_k30_balances).prog w K mg base CX0 3 _ _ _ (spAlike K 2) := ok_lsame F_lsame T F_lsame b_lsame A1
  have G_lsame : FnOk (PySem.Challenge.rw_pressnotes_k30_balances).prog w K mg base CX0 4 _ _ _ (spAlike K 3) := ok_lsame F_lsame T F_lsame b_lsame A2
  have G_lright : FnOk (PySem.Challenge.rw_pressnotes_k30_balances).prog w K mg base CX0 10 _ _ _ _ := ok_lright F_lright T F_lbook b_lbook (G_lbook.mono (by decide)) F_ldraw b_ldraw (G_ldraw.mono (by decide)) F_balance b_balance (G_balance.mono (by decide)) F_moved b_moved (G_moved.mono (by decide)) F_by_days b_by_days (G_by_days.mono (by decide)) F_lbalance b_lbalance (G_lbalance.mono (by decide)) F_ldays b_ldays (G_ldays.mono (by decide)) F_lsame b_lsame (G_lsame.mono (by decide))
  exact ok_law F_law T df_lbook_many_in df_lbook_balance F_lfeed b_lfeed (G_lfeed.mono (by decide)) F_ldraw b_ldraw (G_ldraw.mono (by decide)) F_lbegun b_lbegun (G_lbegun.mono (by decide)) F_lright b_lright (G_lright.mono (by decide)) F_by_days b_by_days (G_by_days.mono (by decide)) F_balance b_balance (G_balance.mono (by decide)) F_lsame b_lsame (G_lsame.mono (by decide))

end Pn
open PySem PySem.W PySem.Calls PyProof.Rows
set_option maxRecDepth 100000 in
set_option maxHeartbeats 0 in
theorem PySem.Challenge.cw_pressnotes_k30_balances_holds : PySem.Challenge.rw_pressnotes_k30_balances.Holds := by
  w_on; o_law
  refine HandSHeadRun.head_any (r := OpenLaw.row PySem.Challenge.rw_pressnotes_k30_balances) (q := view (OpenLaw.row PySem.Challenge.rw_pressnotes_k30_balances).prog [37]) (H := Pn.hk) (ob := Pn.ob) (M := 8000) (loose := [("many_in" : PySem.Str), ("named_by_voids" : PySem.Str), ("counted_bags" : PySem.Str), ("standing_of" : PySem.Str), ("pages_that_are" : PySem.Str), ("counted_pages" : PySem.Str), ("until" : PySem.Str), ("of_series" : PySem.Str), ("brought" : PySem.Str), ("traffic" : PySem.Str), ("balance" : PySem.Str), ("moved" : PySem.Str), ("by_days" : PySem.Str), ("_law_feed" : PySem.Str), ("_law_draw" : PySem.Str), ("_law_far" : PySem.Str), ("_law_words" : PySem.Str), ("_law_office" : PySem.Str), ("_law_runs" : PySem.Str), ("_law_names" : PySem.Str), ("_law_deed" : PySem.Str), ("_law_pages" : PySem.Str), ("_law_low" : PySem.Str), ("_law_knot" : PySem.Str), ("_law_begun" : PySem.Str), ("_law_book" : PySem.Str), ("_law_sorts" : PySem.Str), ("_law_same" : PySem.Str), ("_law_many" : PySem.Str), ("_law_balance" : PySem.Str), ("_law_days" : PySem.Str), ("_law_right" : PySem.Str)]) (d := HandSHeadRun.topDef (OpenLaw.row PySem.Challenge.rw_pressnotes_k30_balances).prog 37) (kwd := []) Pn.ob_eq
    (by kernel_rfl) (fun s => by kernel_rfl) Pn.run (by kernel_rfl) (by kernel_rfl) (by kernel_rfl) (by rfl) (by first | assumption | decide +kernel) (by decide +kernel) ⟨rfl, rfl, rfl, rfl, rfl, by decide +kernel⟩ ?hw ?hc
  case hw => w_witness2
  case hc =>
    refine Pn.walkGL (l := PySem.Challenge.rw_pressnotes_k30_balances) (n := 63) (k := 11) (x := "_law_script") (sp := Pn.spLawL) rfl (by decide) (by kernel_rfl) ⟨rfl, by decide, by decide⟩ ?F (fun K L ts H a ns hl sq tt => ⟨a, ns, rfl, sq, tt, fun _ h => ⟨rfl, h⟩⟩)
    intro w mg fa h Y G hmg0
    obtain ⟨K, KX, c⟩ := Y
    have hmg : mg ("law" : PySem.Str) = some (.ref fa) := by
      have e : (HandSHeadRun.topDef (OpenLaw.row PySem.Challenge.rw_pressnotes_k30_balances).prog 37).name = ("law" : PySem.Str) := by kernel_rfl
      rw [← e]
      exact hmg0
    obtain ⟨fd, hb, hF⟩ := Pn.facts (w := w) KX G hmg c.t.d (of_decide_eq_true (Bool.and_eq_true_iff.mp c.more).1) (of_decide_eq_true (Bool.and_eq_true_iff.mp c.more).2)
    refine ⟨K, fd, Pn.tf.map (He.cT K), Pn.LL (He.cT K ("many_in", none)).2 (He.cT K ("balance", none)).2, KX, fun p hp => ?_, fun p hp => ?_, fun p hp => ?_, hb, hF⟩
    · obtain ⟨d, hd, rfl⟩ := List.mem_map.mp hp
      exact c.empty d hd
    · obtain ⟨d, hd, rfl⟩ := List.mem_map.mp hp
      exact c.out d hd
    · obtain ⟨d, hd, rfl⟩ := List.mem_map.mp hp
      exact PySem.W.codeHd_of_K KX (c.hd d hd)
