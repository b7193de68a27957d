import PyProof.Rows.All
import Wide.All
import OpenK.AllK
import Wide.FinOn
import HandS.ForMost
import HandS.Strs
import HandS.Sort
import HandS.SortInts
import HandS.IsInst
import HandS.Zip
import HandS.Deep
import HandS.TupLe
import HandS.TupAny
import HandS.Style
import HandS.Walk
import HandS.EndBits
import KE.SortData
import HandS.More
import HandS.Codes
import HandS.Set
import HandS.SetFor
import KE.DataCmp
import KE.DataEq
import HandS.ExcInit
import HandS.ExcField
import HandS.ExcOwn
import HandS.WordsExc
import KE.KExcIs
import HandS.HeadHook1
import HandS.Small
import PyProof.GenQ
import PyProof.CodeObjX
import PyProof.ConsumeS
import HandS.GenOver
import HandS.AnyAll
import KE.KNest
import HandS.Defaults
import HandS.HeadHook2
import HandS.HeadHook3
import HandS.HeadHook4
import KE.KNestM
import HandS.Wide
import HandS.SetIn
import HandS.SetKeys
import KE.GoesSet
import KE.GoesMore
import KE.GoesEnum
import HandS.HotCalls
import HandS.NoneIn
import KE.KDictPairs
import KE.KRevSl
import PyProof.ReprReads
import KE.KDictZip
import HandS.Conv
import HandS.MapObj
import KE.GoesZip
import PyProof.ZipIter
import KE.GoesZip
import KE.KStateDown
import Lean
import HandS.Head0
import HandS.Head1
import HandS.Head2
import HandS.HeadEnd
import PySem.Challenge.RW_pressnotes_k40_labels_judged
set_option Elab.async false
set_option linter.all false
set_option maxRecDepth 100000
set_option maxHeartbeats 4000000
namespace Pn
open PySem PySem.Spec PyProof.Rows L2
/-! ### Rules of our own: text times int, sorted of data, repr of data -/
theorem op_repS {X : Cx} : OpR X (binaryOp .Mult) (fun x y H Q => ∃ (z : Str) (n : Int), x = .str z ∧ y = .int n ∧ MulOk z n ∧ Q (.str (Txt.mul z n)) H) := by
  intro pins s σ H x y v u Q I rx ry h
  obtain ⟨z, n, rfl, rfl, ok, q⟩ := h
  obtain ⟨t, rfl⟩ := rx
  obtain ⟨t2, rfl⟩ := ry
  exact SB.mul ok fun t3 k => ⟨.str _, H, I.tok _, ⟨_, rfl⟩, q⟩
section
variable {X : Cx} {pins : List (Addr × Obj)} {σ : L2.St} {H : Hp} {s : Shared}
theorem each_rel : ∀ {ys : List V} {ds : List PyData} {us : List Value}, DpAll X.K H ys ds → Vals ys us → PySem.W.EachIs (fun (v : Value) (b : V × PyData) => RelV b.1 v) us (ys.zip ds)
  | _, _, _, .nil, .nil => .nil
  | _, _, _, .cons _ d, .cons r t => .cons r (each_rel d t)
theorem each_reads (I : Inv X pins σ H s) : ∀ {ys : List V} {ds : List PyData} {us : List Value}, DpAll X.K H ys ds → Vals ys us →
    PySem.W.EachIs (fun (v : Value) (b : V × PyData) => ∃ as, Reads s.heap v b.2 as) us (ys.zip ds)
  | _, _, _, .nil, .nil => .nil
  | _, _, _, .cons d1 d, .cons r t => .cons (Dp.reads I _ _ _ d1 r) (each_reads I d t)
theorem zip_snd : ∀ {ys : List V} {ds : List PyData}, DpAll X.K H ys ds → (ys.zip ds).map Prod.snd = ds
  | _, _, .nil => rfl
  | _, _, .cons _ d => by rw [List.zip_cons_cons, List.map_cons, zip_snd d]
theorem zip_len : ∀ {ys : List V} {ds : List PyData}, DpAll X.K H ys ds → (ys.zip ds).length = ys.length
  | _, _, .nil => rfl
  | _, _, .cons _ d => by rw [List.zip_cons_cons, List.length_cons, List.length_cons, zip_len d]
theorem vals_each : ∀ {bs : List (V × PyData)} {out : List Value}, PySem.W.EachIs (fun (v : Value) (b : V × PyData) => RelV b.1 v) out bs → Vals (bs.map Prod.fst) out
  | _, _, .nil => .nil
  | _, _, .cons r t => .cons r (vals_each t)
end
/-- what sorted makes of the values ys that read as the data ds -/
def sortD (ys : List V) (ds : List PyData) : List V := ((ys.zip ds).mergeSort (PySem.W.dataLe false Prod.snd)).map Prod.fst
def rSortedD (K : PySem.W.Frag) : List V → Hp → VK → Prop := fun xs H Q => ∃ (a : Addr) (ys : List V) (ds : List PyData), xs = [.ref a] ∧ SqL K H a ys ∧ DpAll K H ys ds ∧
  PySem.W.AllAlike ds ∧ PySem.W.Sortable ds ∧ (∀ d ∈ ds, d.depth ≤ 60) ∧ ∀ p, H p = none → Q (.ref p) (upd H p (.lst (sortD ys ds)))
theorem cr_sortedD {X : Cx} {k : Nat} (hr : Room k X.A) : CallR X (.builtin "sorted") (rSortedD X.K) := by
  intro pins s σ H vs us Q I r h
  obtain ⟨a, ys, ds, rfl, hs, hd, h1, h2, h3, q⟩ := h
  obtain ⟨its, rv, hl, hz⟩ := I.list hs
  rw [Vals.ref1 r]
  have un := hr.un
  refine PySem.W.sorted_data (enc := Prod.snd) (R := fun (v : Value) (b : V × PyData) => RelV b.1 v) (bs := ys.zip ds) hl.isList (each_rel hd rv) (each_reads I hd rv) (by rw [zip_snd hd]; exact h1) (by rw [zip_snd hd]; exact h2) (by rw [zip_len hd]; exact hz)
    (fun b hb => ?_) (fun out ho he => ?_)
  · have z := h3 b.2 (by rw [← zip_snd hd]; exact List.mem_map.mpr ⟨b, hb, rfl⟩)
    omega
  · obtain ⟨ep, he'⟩ := PyProof.Rows.sortedAll_at s.heap its out.toArray
    have rv2 := vals_each he
    have hlen : (sortD ys ds).length ≤ sizeLine := by
      unfold sortD
      rw [List.length_map, List.length_mergeSort, zip_len hd]
      exact hz
    exact ⟨.ref _, upd H (s.heap.objs.size + 1) (.lst (sortD ys ds)), I.laid (t' := s.toks) (fun _ _ => PyProof.Rows.sortedAll_old) (Nat.le_succ _) ⟨hlen, out, ep, rv2, he'⟩, rfl, q _ (I.hok.fresh (Nat.le_succ _))⟩
def rRepr (K : PySem.W.Frag) : List V → Hp → VK → Prop := fun xs H Q => ∃ (a : Addr) (d : PyData), xs = [.ref a] ∧ Dp K H (.ref a) d ∧ d.showable = true ∧ d.hasDict = false ∧ d.depth ≤ 60 ∧ d.shown.length ≤ sizeLine ∧ Q (.str d.shown) H
theorem cr_repr {X : Cx} {k : Nat} (hg : X.A.guards = some []) (hr : Room k X.A) : CallR X (.builtin "repr") (rRepr X.K) := by
  intro pins s σ H vs us Q I r h
  obtain ⟨a, d, rfl, hd, h1, h2, h3, h4, q⟩ := h
  rw [Vals.ref1 r]
  have un := hr.un
  obtain ⟨as, rd⟩ := Dp.reads I d _ _ hd rfl
  exact repr_of_reads' rd h1 (PyData.noDict_hsm h2) hg (by omega) (fun _ _ e => e) (fun h' u tk hk => ⟨.str _, H, I.kept hk, ⟨u, rfl⟩, q⟩) h4
/-- a walk over a range within a comprehension of two fors -/
theorem rng_w {lo : Int} {n : Nat} {H0 : Hp} {B : V → Hp → (Hp → Prop) → Prop} {Qd : Hp → Prop} (Pv : Nat → Hp → Prop) (h0 : Pv 0 H0)
    (hs : ∀ i H, i < n → Pv i H → B (.int (lo + i)) H (Pv (i + 1))) (hd : ∀ H, Pv n H → Qd H) :
    ∃ W : Nat → Nat → Hp → Prop, (∃ m, W 0 m H0) ∧ ∀ i m H, W i m H → ((Itr lo n).stop i H ∧ Qd H) ∨
      ((Itr lo n).go i H ∧ ∃ Nx : Hp → Prop, (∀ H', Nx H' → ∃ m', m' < m ∧ W (i + 1) m' H') ∧ ∀ x H', (Itr lo n).yld i H x H' → B x H' Nx) := by
  refine ⟨fun i m H => m + i = n ∧ Pv i H, ⟨n, rfl, h0⟩, ?_⟩
  rintro i m H ⟨e, p⟩
  by_cases c : i < n
  · refine Or.inr ⟨c, Pv (i + 1), fun H' p' => ⟨m - 1, by omega, by omega, p'⟩, fun x H' y => ?_⟩
    obtain ⟨rfl, rfl⟩ := y
    exact hs i _ c p
  · have z : i = n := by omega
    subst z
    exact Or.inl ⟨Nat.le_refl _, hd H p⟩
/-! a tuple that is known to have no dict (so that its methods can be called) -/
def Tpl (o : Obj) : Prop := o.cls = .type "tuple" ∧ o.dict = none
def tTupF (t : TA) : TE := fun σ H Q => t σ H fun xs H1 => xs.length ≤ sizeLine ∧ ∀ p o, H1 p = none → Tpl o → Q (.ref p) (upd H1 p (.frz o (.tup xs)))
theorem pe_tupF {X : Cx} {es : List Expr} {t : TA} {pos : Pos} {x1} (h : PA X es t) : PE X (.Tuple es x1 pos) (tTupF t) := by
  constructor
  intro pins s σ H Q I hq
  refine wpAny_Tuple_spliced (thn (h.run pos pins s σ H _ I hq) ?_)
  rintro us s1 ⟨xs, H1, I1, r, z, q⟩
  refine ⟨by rw [← r.length]; exact z, ?_⟩
  have new : (s1.heap.push { cls := .type "tuple", data := .seq us.toArray }).get? s1.heap.objs.size = some { cls := .type "tuple", data := .seq us.toArray } := Heap.get?_push_size _ rfl
  exact ⟨.ref s1.heap.objs.size, upd H1 _ (.frz { cls := .type "tuple", data := .seq us.toArray } (.tup xs)), I1.laid (t' := s1.toks) (fun _ _ e => Heap.get?_push_of_some _ e) (Nat.le_refl _) ⟨new, z, us, r, _, new, rfl, _, rfl⟩, rfl,
    q _ _ (I1.hok.fresh (Nat.le_refl _)) ⟨rfl, rfl⟩⟩
def tBMF (r : V → List V → Hp → VK → Prop) (to : TE) (t : TA) : TE := fun σ H Q => to σ H fun x H1 => (∃ p o u, x = .ref p ∧ H1 p = some (.frz o u) ∧ Tpl o) ∧ t σ H1 fun xs H2 => r x xs H2 Q
theorem pe_bmF {X : Cx} {o e : Expr} {es : List Expr} {to : TE} {t : TA} {name : Str} {apos cpos : Pos} {id : String} {r : V → List V → Hp → VK → Prop}
    (pa : PlainAttrs "tuple") (slot : Slot "tuple" name id) (hty : typeOf (.builtin id) = pure (.type "method_descriptor")) (hm : MtR X id r) (ho : PE X o to) (ha : PA X (e :: es) t)
    (hb : attributeBase o name X.env (eval o X.env) = eval o X.env := by rfl)
    (hf : ((backTo cpos (starEach (e :: es) X.env)).all (fun x => !x.1) && (backToKw cpos (keywordEach [] X.env)).all (fun x => x.1.isSome) && decide ((e :: es).length + ([] : List Keyword).length + (if ([] : List Keyword).isEmpty then 0 else 1) < 30)) = true := by rfl)
    (hl : (apos.endLine == cpos.line) = true := by rfl) (hs : starEach (e :: es) X.env = (false, eval e X.env) :: starEach es X.env := by rfl) (hp : (backTo cpos (starEach es X.env)).any (·.1) = false := by rfl) :
    PE X (.Call (.Attribute o name apos) (e :: es) [] cpos) (tBMF r to t) := by
  constructor
  intro pins s σ H Q I h
  refine wpAny_Call_method_late hb hf hl rfl (thn (ho.run pins s σ H _ I h) ?_)
  rintro v s1 ⟨x, H1, I1, r1, ⟨p, ob, u, rfl, hfz, hc, hd⟩, q1⟩
  obtain rfl : v = .ref p := r1
  obtain ⟨at1, _⟩ := I1.hok p _ hfz
  refine ⟨"tuple", id, pa, slot, hty, ⟨ob, at1, hc⟩, fun a e => by cases e; exact ⟨ob, at1, hd⟩, ?_⟩
  have run := ha.run cpos pins s1 σ H1 _ I1 q1
  rw [hs] at run ⊢
  refine Calls.callWith_builtin (by show (false || (backTo cpos (starEach es X.env)).any (·.1)) = false; rw [hp]; rfl) (Calls.evalArgs_plain ?_)
  exact thn run fun us s2 ⟨vs, H2, I2, r2, q2⟩ => hm pins s2 σ H2 (.ref p) vs (.ref p) us Q I2 rfl r2 q2
/-! ### A def that is run where no repr is under way, and a law's end over it -/
structure FnG (P : Program) (w : World) (K : PySem.W.Frag) (mg : Str → Option Value) (base : Heap) (k : Nat) (f : Addr)
    (fd : FuncData) (ps : List Str) (sp : Sp) : Prop where
  len : ∀ vs H Q E, sp vs H Q E → vs.length = ps.length
  run : ∀ (A : Around) (outer : List Env) (s : Shared) (H : Hp) (args : Args) (us : List Value) (vs : List V) (Q : VK) (E : XK),
    Room k A → A.guards = some [] → Env0 P w K mg base A outer s H → BindsTo s fd args (ps.zip us) → Vals vs us → sp vs H Q E →
    codeAny (model P w) A (.call (.ref f) args) (CR CX0 outer P w H s Q E) s
section
variable {P : Program} {w : World} {K : PySem.W.Frag} {mg : Str → Option Value} {base : Heap}
/-- a body's walk, told that no repr is under way -/
theorem okG {x qual : Str} {st : Stmt} {f : Addr} {fd : FuncData} {N ps : List Str} {k : Nat} {sp : Sp}
    (F : Fun K x qual st f fd) (S : FnScope N ps (defScope st)) (hlen : ∀ vs H Q E, sp vs H Q E → vs.length = ps.length)
    (hb : ∀ (cdv : Value) (A : Around) (outer : List Env) (s : Shared) (H : Hp) (vs : List V) (Q : VK) (E : XK),
      Room k (A.deeper (envOfC qual (defScope st) s.heap.objs.size f cdv)) → (A.deeper (envOfC qual (defScope st) s.heap.objs.size f cdv)).guards = some [] →
      sp vs H Q E → ∃ t, PSs (cxOf CX0 P w K mg base N qual (defScope st) f cdv A outer s H E).nox (defBody st) t ∧
        t { nx := fun _ H' => Q .non H', rt := Q } (start N vs) H) : FnG P w K mg base (k + 1) f fd ps sp := by
  obtain ⟨oc, od, kV, doc, pm, an, cdv, ct, osl, rfl, lk, hcd⟩ := F.ex
  refine ⟨hlen, fun A outer s H args us vs Q E room gu e0 bind rel wish => ?_⟩
  have lv := hlen _ _ _ _ wish
  have old : ∀ b o, base.get? b = some o → s.heap.get? b = some o := fun b o e => (e0.bs b o e).1
  have inK : K.In s.heap := e0.mod.kin.keeps old
  refine codeAny_call_function room.depth (inK _ _ lk) rfl S.co S.gen rfl (PySem.W.codeRec_of inK hcd) (bind _ _ _ _ ?_)
  refine wpAny_newFunctionEnv_cells S.kind (fun y hy => ?_) fun env ee s1 x1 => ?_
  · obtain ⟨n, v⟩ := y
    cases S.par n (List.of_mem_zip hy).1 with
    | inl q => exact Or.inl q
    | inr q => exact Or.inr ⟨q, PySem.W.cellsFrom_some _ _ _ (Or.inl q)⟩
  subst ee
  refine ⟨(e0.mod.nolimit.keeps old).keeps x1.toInCall.keep, codeAny_func ?_⟩
  obtain ⟨t, ht, hq⟩ := hb cdv A outer s H vs Q E (room.deeper _) gu wish
  have I0 := inv_start (CX := CX0) (E := E) S room.hd e0 lv rel x1
  refine wpAny_mono (ht.nox.run [] s1 (start N vs) H _ I0 hq) (fun fl s2 hs => ?_) fun _ _ z => z
  cases fl with
  | ret u =>
    obtain ⟨v, σ2, H2, J, rv, q⟩ := hs
    exact ⟨v, H2, J.os, J.bare, J.base, J.hok, rv, q⟩
  | next =>
    obtain ⟨σ2, H2, J, q⟩ := hs
    exact ⟨.non, H2, J.os, J.bare, J.base, J.hok, rfl, q⟩
  | brk => exact hs.choose_spec.choose_spec.2.elim
  | cont => exact hs.choose_spec.choose_spec.2.elim
end
section
variable {P : Program} {w : World} {K : PySem.W.Frag} {mg mb : Str → Option Value} {k : Nat} {fa a : Addr} {fd : FuncData} {x : Str} {sp : Sp} {s1 : Shared} {vs : List Value} {ns : List Int}
/-- what the caller is told of the law's call -/
def Told (s1 : Shared) (r : Result) (s' : Shared) : Prop := r = .ok (.ret (.bool true)) ∧ OldK s1.heap s'.heap ∧ s'.os = s1.os ∧ AllBare s'.gens
theorem told_from (H : Hp) (kin : K.In s1.heap) (glob : s1.heap.Ns mainGlobals mg) (blt : s1.heap.Ns builtinsNs mb) (same : ∀ y : Str, y ≠ "__name__" → mb y = bootBuiltins y) (lim : s1.heap.NoLimit) (bare : s1.gens = #[])
    (obj : s1.heap.get? a = some { cls := .type "list", data := .seq vs.toArray }) (room : Room k callerA)
    (F : ∀ base : Heap, K.In base → base.Ns mainGlobals mg → FnG P w K mg base k fa fd [x] sp) (bind : ∀ (s : Shared) (u : Value), BindsTo s fd ⟨[u], []⟩ [(x, u)])
    (only : Only H) (wish : sp [.ref a] H (fun v _ => v = .bl true) fun _ _ _ => False) (hok : HOk P w H s1.heap) (self : ∀ b u, H b = some u → b = a ∧ K.lookup a = none) :
    codeAny (model P w) callerA (.call (.ref fa) ⟨[.ref a], []⟩) (Told s1) s1 := by
  have free : ∀ b, (b ≠ a ∨ K.lookup a ≠ none) → H b = none := fun b hb => by
    cases e : H b with
    | none => rfl
    | some u =>
      obtain ⟨e1, e2⟩ := self b u e
      cases hb with
      | inl n => exact absurd e1 n
      | inr n => exact absurd e2 n
  have nsB : ∀ {b : Addr} {m : Str → Option Value}, s1.heap.Ns b m → (hidT s1.heap H).Ns b m := by
    rintro b m ⟨o, es, ep, e, d, r⟩
    refine ⟨o, es, ep, hidT_get e (free b (Or.inl fun z => ?_)), d, r⟩
    subst z
    rw [obj] at e
    cases e
    exact nomatch d
  have kinB : K.In (hidT s1.heap H) := fun b o e => by
    refine hidT_get (kin b o e) ?_
    by_cases z : b = a
    · subst z
      exact free b (Or.inr (by rw [e]; exact fun q => nomatch q))
    · exact free b (Or.inl z)
  have limB : (hidT s1.heap H).NoLimit := by
    obtain ⟨mc, h1, h2⟩ := lim
    exact ⟨mc, nsB h1, h2⟩
  have env : Env0 P w K mg (hidT s1.heap H) callerA [] s1 H :=
    { frames := rfl, mod := ⟨kinB, nsB glob, ⟨mb, nsB blt, same⟩, limB⟩, bs := fun _ _ e => of_hidT e, bsz := Nat.le_of_eq (hidT_size _ _), funs := trivial,
      frf := fun b z => (List.not_mem_nil (show b ∈ ([] : List Addr) from z)).elim, hok := hok, bare := .of_eq bare }
  refine codeAny_mono ((F _ kinB (nsB glob)).run callerA [] s1 H ⟨[.ref a], []⟩ [.ref a] [.ref a] _ _ room rfl env (bind s1 _) (.cons rfl .nil) wish) ?_
  rintro (e | fl) s2 h
  · exact (show False from h).elim
  · cases fl with
    | ret u =>
      obtain ⟨v, H2, os2, bare2, un, hok2, rel, q⟩ := h
      have q : v = V.bl true := q
      subst q
      obtain rfl : u = Value.bool true := rel
      refine ⟨rfl, OldK.of_keep fun b o e => ?_, os2, bare2⟩
      cases z : H b with
      | none => exact un.keep b o e z (fun y => List.not_mem_nil (show b ∈ ([] : List Addr) from y)) List.not_mem_nil
      | some u =>
        obtain y | ⟨ob, xs, y⟩ := only b
        · rw [z] at y
          cases y
        · obtain ⟨g1, _⟩ := hok b _ y
          obtain ⟨g2, _⟩ := hok2 b _ (un.frzs b ob _ y)
          rw [e] at g1
          cases g1
          exact g2
    | next => exact h.elim
    | brk => exact h.elim
    | cont => exact h.elim
theorem told_law (kin : K.In s1.heap) (glob : s1.heap.Ns mainGlobals mg) (blt : s1.heap.Ns builtinsNs mb) (same : ∀ y : Str, y ≠ "__name__" → mb y = bootBuiltins y) (lim : s1.heap.NoLimit) (bare : s1.gens = #[])
    (obj : s1.heap.get? a = some { cls := .type "list", data := .seq vs.toArray }) (are : IntsAre vs ns) (long : ns.length ≤ sizeLine) (room : Room k callerA)
    (F : ∀ base : Heap, K.In base → base.Ns mainGlobals mg → FnG P w K mg base k fa fd [x] sp) (bind : ∀ (s : Shared) (u : Value), BindsTo s fd ⟨[u], []⟩ [(x, u)])
    (wish : ∀ H : Hp, SqL K H a (ns.map V.int) → sp [.ref a] H (fun v _ => v = .bl true) fun _ _ _ => False) :
    codeAny (model P w) callerA (.call (.ref fa) ⟨[.ref a], []⟩) (Told s1) s1 := by
  have rv := vals_ints are
  have nl := are.length
  cases hk : K.lookup a with
  | some o =>
    have e := kin a o hk
    rw [obj] at e
    cases e
    have sq : SqL K (fun _ => none) a (ns.map V.int) := Or.inr ⟨_, vs.toArray, _, hk, rfl, rfl, rfl, by rw [List.size_toArray, nl]; exact long, by simpa using rv⟩
    exact told_from (fun _ => none) kin glob blt same lim bare obj room F bind (fun _ => Or.inl rfl) (wish _ sq) (fun _ _ z => nomatch z) fun _ _ z => nomatch z
  | none =>
    have h1 : upd (fun _ => none) a (.frz { cls := .type "list", data := .seq vs.toArray } (.lst (ns.map V.int))) a = some (.frz { cls := .type "list", data := .seq vs.toArray } (.lst (ns.map V.int))) := upd_same
    have at_ : ∀ b u, upd (fun _ => none) a (.frz { cls := .type "list", data := .seq vs.toArray } (.lst (ns.map V.int))) b = some u → b = a ∧ u = .frz { cls := .type "list", data := .seq vs.toArray } (.lst (ns.map V.int)) := fun b u z => by
      by_cases e : b = a
      · subst e
        rw [h1] at z
        exact ⟨rfl, (Option.some.inj z).symm⟩
      · rw [upd_ne e] at z
        exact nomatch z
    refine told_from _ kin glob blt same lim bare obj room F bind (fun b => ?_) (wish _ (Or.inl (Or.inr ⟨_, h1⟩))) (fun b u z => ?_) fun b u z => ⟨(at_ b u z).1, hk⟩
    · by_cases e : b = a
      · rw [e, h1]
        exact Or.inr ⟨_, _, rfl⟩
      · exact Or.inl (upd_ne e)
    · obtain ⟨e1, e2⟩ := at_ b u z
      subst e1
      subst e2
      exact ⟨obj, by rw [List.length_map]; exact long, vs, _, rv, obj⟩
end
/-- a law's end, its def told that no repr is under way -/
theorem walkG {l : PySem.W.OpenLaw} {n k : Nat} {q : Program} {loose : List Str} {XP : (Str → Option Value) → Heap → Prop} {YP : World → Heap → Prop} {d : DefRec} {x : Str} {sp : PySem.W.Frag → Sp}
    (hn : l.most = some n) (hn2 : n ≤ sizeLine) (hdf : d.params.defaults = []) (hr : Room k callerA)
    (F : ∀ (w : World) (mg : Str → Option Value) (fa : Addr) (h : Heap), YP w h → h.Ns mainGlobals mg → mg d.name = some (.ref fa) →
      ∃ (K : PySem.W.Frag) (fd : FuncData), K.In h ∧ (∀ (s : Shared) (u : Value), BindsTo s fd ⟨[u], []⟩ [(x, u)]) ∧
        ∀ base : Heap, K.In base → base.Ns mainGlobals mg → FnG l.prog w K mg base k fa fd [x] (sp K))
    (hsp : ∀ (K : PySem.W.Frag) (H : Hp) (a : Addr) (ns : List Int), ns.length ≤ n → SqL K H a (ns.map V.int) → sp K [.ref a] H (fun v _ => v = .bl true) fun _ _ _ => False) :
    PySem.W.WalkO q loose XP YP l.row.toRowW d [] (fun f vs => PySem.call f vs) := by
  refine Att.attach_call hn hdf fun w s0 s1 mg mb fa o pm cd doc a vs ns G Y ho hd hcd hmg hobj hints hlen hg => ?_
  obtain ⟨K, fd, kin, hb, hF⟩ := F w mg fa _ Y G.T.g hmg
  exact told_law kin G.T.g G.T.b G.T.builtins G.T.nolimit hg hobj hints (Nat.le_trans hlen hn2) hr hF hb fun H sq => hsp K H a ns hlen sq

theorem mod_lo (x y : Int) (h : 0 < y) : 0 ≤ x.fmod y := Int.fmod_nonneg_of_pos _ h
theorem mod_hi (x y : Int) (h : 0 < y) : x.fmod y < y := Int.fmod_lt_of_pos _ h
/-- the feed at f: its cells, a counter of at most n, what is left of a great number -/
def Fd (H : Hp) (f c : Addr) (n : Int) : Prop := ∃ (cells : List Int) (at_ g : Int),
  H f = some (.lst [.ref c, .int at_, .int g]) ∧ H c = some (.lst (cells.map V.int)) ∧ cells.length ≤ 63 ∧ 0 ≤ at_ ∧ at_ ≤ n
theorem fd_ne {H : Hp} {f c : Addr} {cells : List Int} {a g : Int} (hf : H f = some (.lst [.ref c, .int a, .int g])) (hc : H c = some (.lst (cells.map V.int))) : c ≠ f := by
  refine ne_of hc hf fun z => ?_
  have z := HO.lst.inj z
  cases cells with
  | nil => cases z
  | cons x r => rw [List.map_cons] at z; cases z
theorem at_mod {cells : List Int} (a : Int) (h : 0 < cells.length) : ∃ v, atI (cells.map V.int) (a.fmod (((cells.map V.int).length : Nat) : Int)) = some (.int v) := by
  have hp : (0 : Int) < (((cells.map V.int).length : Nat) : Int) := by rw [List.length_map]; omega
  have h1 := mod_lo a _ hp
  have h2 := mod_hi a _ hp
  rw [List.length_map] at h1 h2 ⊢
  obtain ⟨k, hk⟩ : ∃ k : Nat, a.fmod ((cells.length : Nat) : Int) = (k : Int) := ⟨(a.fmod ((cells.length : Nat) : Int)).toNat, by omega⟩
  rw [hk] at h2 ⊢
  have hk2 : k < cells.length := by omega
  exact ⟨cells[k], atI_nat (by rw [List.getElem?_map, List.getElem?_eq_getElem hk2] <;> rfl)⟩
/-- what drawing leaves: all but the feed as it was -/
def But (f : Addr) (H H' : Hp) : Prop := ∀ a o, a ≠ f → H a = some o → H' a = some o
theorem But.refl (f : Addr) (H : Hp) : But f H H := fun _ _ _ h => h
theorem But.trans {f : Addr} {H H1 H2 : Hp} (a : But f H H1) (b : But f H1 H2) : But f H H2 := fun x o n h => b x o n (a x o n h)
theorem But.of_same {f : Addr} {H H' : Hp} (s : Same H H') : But f H H' := fun a o _ h => s a o h
theorem But.new {f : Addr} {H : Hp} {p : Addr} {o : HO} (h : H p = none) : But f H (upd H p o) := fun a u _ e => by
  rw [upd_ne (ne_of_none e h)]; exact e
theorem same_new {H : Hp} {p : Addr} (h : H p = none) (o : HO) : Same H (upd H p o) := fun b u q => by rw [upd_ne (ne_of_none q h)]; exact q
theorem But.feed {f : Addr} {H : Hp} {o : HO} : But f H (upd H f o) := fun a u n e => (upd_ne n).trans e
theorem Fd.mono {H : Hp} {f c : Addr} {n m : Int} (h : Fd H f c n) (l : n ≤ m) : Fd H f c m := by
  obtain ⟨cells, a, g, h1, h2, h3, h4, h5⟩ := h
  exact ⟨cells, a, g, h1, h2, h3, h4, by omega⟩
theorem Fd.same {H H' : Hp} {f c : Addr} {n : Int} (h : Fd H f c n) (s : Same H H') : Fd H' f c n := by
  obtain ⟨cells, a, g, h1, h2, h3⟩ := h
  exact ⟨cells, a, g, s _ _ h1, s _ _ h2, h3⟩
theorem Fd.new {H : Hp} {f c p : Addr} {n : Int} {o : HO} (h : Fd H f c n) (hp : H p = none) : Fd (upd H p o) f c n := h.same (same_new hp o)
theorem Fd.at {H : Hp} {f c : Addr} {n : Int} (h : Fd H f c n) : ∃ xs, H f = some (.lst xs) := by
  obtain ⟨cells, a, g, h1, _⟩ := h
  exact ⟨_, h1⟩
theorem Fd.cell {H : Hp} {f c : Addr} {n : Int} (h : Fd H f c n) : ∃ xs, H c = some (.lst xs) := by
  obtain ⟨cells, a, g, h1, h2, _⟩ := h
  exact ⟨_, h2⟩
theorem Fd.ne {H : Hp} {f c l : Addr} {n : Int} (h : Fd H f c n) (hl : H l = none) : l ≠ f ∧ l ≠ c := by
  obtain ⟨xs, h1⟩ := h.at
  obtain ⟨ys, h2⟩ := h.cell
  exact ⟨Ne.symm (ne_of_none h1 hl), Ne.symm (ne_of_none h2 hl)⟩
theorem Fd.upd {H : Hp} {f c l : Addr} {n : Int} {o : HO} (h : Fd H f c n) (e : l ≠ f ∧ l ≠ c) : Fd (upd H l o) f c n := by
  obtain ⟨cells, a, g, h1, h2, h3⟩ := h
  exact ⟨cells, a, g, (upd_ne (Ne.symm e.1)).trans h1, (upd_ne (Ne.symm e.2)).trans h2, h3⟩
theorem But.mut {f : Addr} {H H' : Hp} {l : Addr} {o : HO} (b : But f H H') (hl : H l = none) : But f H (upd H' l o) := fun a u n e => by
  rw [upd_ne (ne_of_none e hl)]
  exact b a u n e
theorem But.back {f c : Addr} {H H' : Hp} {t : Addr} {n : Int} (b : But f H H') (hf : Fd H' f c n) (ht : H' t = none) : H t = none := by
  cases e : H t with
  | none => rfl
  | some o =>
    have ne : t ≠ f := (hf.ne ht).1
    rw [b t o ne e] at ht
    cases ht
theorem same_mut {H H' : Hp} {l : Addr} {o : HO} (s : Same H H') (hl : H l = none) : Same H (upd H' l o) := fun b u q => by
  rw [upd_ne (ne_of_none q hl)]
  exact s _ _ q
theorem cut_take (xs : List V) (n : Nat) : cutV xs none (some (n : Int)) = xs.take n := by
  unfold cutV
  rw [HT.sIx_nat, HT.sIx_none, List.drop_zero, Nat.sub_zero]
  rw [List.take_eq_take_iff]
  omega
theorem free_of {H : Hp} {a b : Addr} {o : HO} (h : upd H a o b = none) : H b = none := by
  by_cases e : b = a
  · subst e
    rw [upd_same] at h
    cases h
  · rw [upd_ne e] at h
    exact h
def spDraw : Sp := fun vs H Q _ => ∃ (f c : Addr) (m n : Int), vs = [.ref f, .int m] ∧ Fd H f c n ∧ n ≤ 1000000 ∧ 0 < m ∧ m ≤ 1000000000 ∧
  ∀ (d : Int) (H' : Hp), 0 ≤ d → d < m → Fd H' f c (n + 1) → But f H H' → (∀ a, H a = none → H' a = none) → Q (.int d) H'
def spFeed (K : PySem.W.Frag) : Sp := fun vs H Q _ => ∃ (a : Addr) (ns : List Int), vs = [.ref a] ∧ SqL K H a (ns.map V.int) ∧
  ∀ (f c : Addr) (H' : Hp), H f = none → Same H H' → Fd H' f c 0 → Q (.ref f) H'
/-! ### Data that is alike -/
def flatD : PyData → Bool
  | .none => true
  | .bool _ => true
  | .int _ => true
  | .str _ => true
  | _ => false
/-- data of at most n lists or tuples within one another, none of more than 100,000 -/
def Nice : Nat → PyData → Prop
  | 0, d => flatD d = true
  | n + 1, d => flatD d = true ∨ ∃ ds, (d = .list ds ∨ d = .tuple ds) ∧ ds.length ≤ 100000 ∧ ∀ e ∈ ds, Nice n e
theorem Nice.flat {n : Nat} {d : PyData} (h : flatD d = true) : Nice n d := by
  cases n with
  | zero => exact h
  | succ n => exact Or.inl h
theorem kit2 {K : PySem.W.Frag} {t c1 c2 : Value} {b1 b2 : Bool} (h1 : PySem.W.kitOne K t c1 = some b1) (h2 : PySem.W.kitOne K t c2 = some b2) : PySem.W.kitAny K t [c1, c2] = some (b1 || b2) := by
  unfold PySem.W.kitAny PySem.W.kitAny PySem.W.kitAny
  rw [h1, h2]
  cases b1 <;> cases b2 <;> rfl
theorem k_NoneType_tuple {K : PySem.W.Frag} : PySem.W.kitOne K (.type "NoneType") (.type "tuple") = some false := kit_ty (by decide +kernel)
theorem k_NoneType_list {K : PySem.W.Frag} : PySem.W.kitOne K (.type "NoneType") (.type "list") = some false := kit_ty (by decide +kernel)
theorem k_NoneType_bool {K : PySem.W.Frag} : PySem.W.kitOne K (.type "NoneType") (.type "bool") = some false := kit_ty (by decide +kernel)
theorem k_NoneType_str {K : PySem.W.Frag} : PySem.W.kitOne K (.type "NoneType") (.type "str") = some false := kit_ty (by decide +kernel)
theorem k_NoneType_int {K : PySem.W.Frag} : PySem.W.kitOne K (.type "NoneType") (.type "int") = some false := kit_ty (by decide +kernel)
theorem k_bool_tuple {K : PySem.W.Frag} : PySem.W.kitOne K (.type "bool") (.type "tuple") = some false := kit_ty (by decide +kernel)
theorem k_bool_list {K : PySem.W.Frag} : PySem.W.kitOne K (.type "bool") (.type "list") = some false := kit_ty (by decide +kernel)
theorem k_bool_bool {K : PySem.W.Frag} : PySem.W.kitOne K (.type "bool") (.type "bool") = some true := kit_ty (by decide +kernel)
theorem k_bool_str {K : PySem.W.Frag} : PySem.W.kitOne K (.type "bool") (.type "str") = some false := kit_ty (by decide +kernel)
theorem k_bool_int {K : PySem.W.Frag} : PySem.W.kitOne K (.type "bool") (.type "int") = some true := kit_ty (by decide +kernel)
theorem k_int_tuple {K : PySem.W.Frag} : PySem.W.kitOne K (.type "int") (.type "tuple") = some false := kit_ty (by decide +kernel)
theorem k_int_list {K : PySem.W.Frag} : PySem.W.kitOne K (.type "int") (.type "list") = some false := kit_ty (by decide +kernel)
theorem k_int_bool {K : PySem.W.Frag} : PySem.W.kitOne K (.type "int") (.type "bool") = some false := kit_ty (by decide +kernel)
theorem k_int_str {K : PySem.W.Frag} : PySem.W.kitOne K (.type "int") (.type "str") = some false := kit_ty (by decide +kernel)
theorem k_int_int {K : PySem.W.Frag} : PySem.W.kitOne K (.type "int") (.type "int") = some true := kit_ty (by decide +kernel)
theorem k_str_tuple {K : PySem.W.Frag} : PySem.W.kitOne K (.type "str") (.type "tuple") = some false := kit_ty (by decide +kernel)
theorem k_str_list {K : PySem.W.Frag} : PySem.W.kitOne K (.type "str") (.type "list") = some false := kit_ty (by decide +kernel)
theorem k_str_bool {K : PySem.W.Frag} : PySem.W.kitOne K (.type "str") (.type "bool") = some false := kit_ty (by decide +kernel)
theorem k_str_str {K : PySem.W.Frag} : PySem.W.kitOne K (.type "str") (.type "str") = some true := kit_ty (by decide +kernel)
theorem k_str_int {K : PySem.W.Frag} : PySem.W.kitOne K (.type "str") (.type "int") = some false := kit_ty (by decide +kernel)
theorem k_list_tuple {K : PySem.W.Frag} : PySem.W.kitOne K (.type "list") (.type "tuple") = some false := kit_ty (by decide +kernel)
theorem k_list_list {K : PySem.W.Frag} : PySem.W.kitOne K (.type "list") (.type "list") = some true := kit_ty (by decide +kernel)
theorem k_list_bool {K : PySem.W.Frag} : PySem.W.kitOne K (.type "list") (.type "bool") = some false := kit_ty (by decide +kernel)
theorem k_list_str {K : PySem.W.Frag} : PySem.W.kitOne K (.type "list") (.type "str") = some false := kit_ty (by decide +kernel)
theorem k_list_int {K : PySem.W.Frag} : PySem.W.kitOne K (.type "list") (.type "int") = some false := kit_ty (by decide +kernel)
theorem k_tuple_tuple {K : PySem.W.Frag} : PySem.W.kitOne K (.type "tuple") (.type "tuple") = some true := kit_ty (by decide +kernel)
theorem k_tuple_list {K : PySem.W.Frag} : PySem.W.kitOne K (.type "tuple") (.type "list") = some false := kit_ty (by decide +kernel)
theorem k_tuple_bool {K : PySem.W.Frag} : PySem.W.kitOne K (.type "tuple") (.type "bool") = some false := kit_ty (by decide +kernel)
theorem k_tuple_str {K : PySem.W.Frag} : PySem.W.kitOne K (.type "tuple") (.type "str") = some false := kit_ty (by decide +kernel)
theorem k_tuple_int {K : PySem.W.Frag} : PySem.W.kitOne K (.type "tuple") (.type "int") = some false := kit_ty (by decide +kernel)
def tyD : PyData → String
  | .none => "NoneType"
  | .bool _ => "bool"
  | .int _ => "int"
  | .str _ => "str"
  | .list _ => "list"
  | .tuple _ => "tuple"
  | _ => "object"
theorem ty_of {K : PySem.W.Frag} {H : Hp} {v : V} {d : PyData} (h : Dp K H v d) : TyX K H v (.type (tyD d)) := by
  cases h with
  | non => exact .base .non
  | bl b => exact .base (.bl b)
  | int i => exact .base (.int i)
  | str x => exact .base (.str x)
  | lst s _ =>
    rcases s with (e | ⟨o, e⟩) | ⟨o, its, n, e, c, _⟩
    · exact .base (.lst e)
    · exact .base (.frz e)
    · exact .kList e c
  | tup s _ =>
    rcases s with (e | ⟨o, e⟩) | ⟨o, its, n, e, c, _⟩
    · exact .base (.tup e)
    · exact .fTuple e
    · exact .kTuple e c
theorem SqL.sm {K : PySem.W.Frag} {H H' : Hp} {a : Addr} {xs : List V} (e : Same H H') (h : SqL K H a xs) : SqL K H' a xs := e.seq h
theorem SqT.sm {K : PySem.W.Frag} {H H' : Hp} {a : Addr} {xs : List V} (e : Same H H') (h : SqT K H a xs) : SqT K H' a xs := by
  rcases h with (h | ⟨o, h⟩) | h
  · exact Or.inl (Or.inl (e _ _ h))
  · exact Or.inl (Or.inr ⟨o, e _ _ h⟩)
  · exact Or.inr h
mutual
theorem Dp.sm {K : PySem.W.Frag} {H H' : Hp} (e : Same H H') : ∀ {v : V} {d : PyData}, Dp K H v d → Dp K H' v d
  | _, _, .non => .non
  | _, _, .bl b => .bl b
  | _, _, .int i => .int i
  | _, _, .str x => .str x
  | _, _, .lst s a => .lst (SqL.sm e s) (DpAll.sm e a)
  | _, _, .tup s a => .tup (SqT.sm e s) (DpAll.sm e a)
theorem DpAll.sm {K : PySem.W.Frag} {H H' : Hp} (e : Same H H') : ∀ {vs : List V} {ds : List PyData}, DpAll K H vs ds → DpAll K H' vs ds
  | _, _, .nil => .nil
  | _, _, .cons a b => .cons (Dp.sm e a) (DpAll.sm e b)
end
theorem DpAll.len {K : PySem.W.Frag} {H : Hp} : ∀ {vs : List V} {ds : List PyData}, DpAll K H vs ds → vs.length = ds.length
  | _, _, .nil => rfl
  | _, _, .cons _ b => congrArg (· + 1) (DpAll.len b)
theorem DpAll.get {K : PySem.W.Frag} {H : Hp} : ∀ {vs : List V} {ds : List PyData} {i : Nat} {v : V}, DpAll K H vs ds → vs[i]? = some v → ∃ d, ds[i]? = some d ∧ Dp K H v d
  | _, _, 0, _, .cons a _, h => by
    cases h
    exact ⟨_, rfl, a⟩
  | _, _, i + 1, v, .cons _ b, h => DpAll.get (i := i) (v := v) b h
theorem walk_zt {K : PySem.W.Frag} {a b : Addr} {xs ys : List V} (hl : xs.length = ys.length) : Walk (RZ.ItzT K a b) xs.length (fun H => SqT K H a xs ∧ SqT K H b ys) (YPair (fun i => xs[i]?) (fun i => ys[i]?)) := by
  refine ⟨fun i H hi q => ?_, fun H q => ⟨xs, ys, q.1, q.2, Or.inl (Nat.le_refl _)⟩, fun i H v H' hi q y => ?_⟩
  · exact ⟨xs, ys, xs[i], ys[i]'(by omega), q.1, q.2, List.getElem?_eq_getElem hi, List.getElem?_eq_getElem (by omega)⟩
  · obtain ⟨T, x, y, h1, h2, h3, h4, h5⟩ := y
    exact ⟨T, x, y, h1, h2, h3, h4 xs q.1, h5 ys q.2⟩
/-- alike(x, y), x and y the same data -/
def spAlike (K : PySem.W.Frag) : Nat → Sp
  | 0 => fun _ _ _ _ => False
  | n + 1 => fun vs H Q _ => ∃ (x y : V) (d : PyData), vs = [x, y] ∧ Dp K H x d ∧ Dp K H y d ∧ Nice n d ∧ ∀ H', Same H H' → Q (.bl true) H'
theorem alike_none {P : Program} {w : World} {K : PySem.W.Frag} {mg : Str → Option Value} {base : Heap} {k : Nat} {f : Addr} {fd : FuncData} {ps : List Str} : FnOk P w K mg base CX0 k f fd ps (spAlike K 0) :=
  ⟨fun _ _ _ _ h => h.elim, fun _ _ _ _ _ _ _ _ _ _ _ _ _ h => h.elim⟩
/-! ### Printings -/
inductive Wd where | sh | ro | co
  deriving DecidableEq
def Wd.s : Wd → Str
  | .sh => "sheet"
  | .ro => "row"
  | .co => "column"
structure Prt where
  series : Str
  first : Int
  cols : Int
  rows : Int
  sheets : Int
  o1 : Wd
  o2 : Wd
  o3 : Wd
def Prt.size (p : Prt) : Wd → Int
  | .sh => p.sheets
  | .ro => p.rows
  | .co => p.cols
def seatW (s r c : Int) : Wd → Int
  | .sh => s
  | .ro => r
  | .co => c
def Prt.num (p : Prt) (s r c : Int) : Int := p.first + ((seatW s r c p.o1 * p.size p.o2 + seatW s r c p.o2) * p.size p.o3 + seatW s r c p.o3)
structure PrOk (p : Prt) : Prop where
  len : p.series.length ≤ 8
  f0 : 0 ≤ p.first
  c1 : 1 ≤ p.cols
  c2 : p.cols ≤ 12
  r1 : 1 ≤ p.rows
  r2 : p.rows ≤ 12
  s1 : 1 ≤ p.sheets
  s2 : p.sheets ≤ 1000000
  most : p.first + p.cols * p.rows * p.sheets ≤ 1000000000
  d12 : p.o1 ≠ p.o2
  d13 : p.o1 ≠ p.o3
  d23 : p.o2 ≠ p.o3
  chr : (p.series.cps.toList.all fun c => decide (c < 16 ^ 8)) = true
def prV (p : Prt) (t : Addr) : List V := [.str p.series, .int p.first, .int p.cols, .int p.rows, .int p.sheets, .ref t]
def ordV (p : Prt) : List V := [.str p.o1.s, .str p.o2.s, .str p.o3.s]
/-- the printing p stands at a -/
def PrAt (H : Hp) (a : Addr) (p : Prt) : Prop := ∃ t, H a = some (.tup (prV p t)) ∧ ∃ o, H t = some (.frz o (.tup (ordV p))) ∧ Tpl o
theorem PrAt.same {H H' : Hp} {a : Addr} {p : Prt} (h : PrAt H a p) (s : Same H H') : PrAt H' a p := by
  obtain ⟨t, h1, o, h2, h3⟩ := h
  exact ⟨t, s _ _ h1, o, s _ _ h2, h3⟩
theorem PrAt.but {H H' : Hp} {f c a : Addr} {p : Prt} {n : Int} (h : PrAt H a p) (hf : Fd H f c n) (s : But f H H') : PrAt H' a p := by
  obtain ⟨t, h1, o, h2, h3⟩ := h
  obtain ⟨xs, hx⟩ := hf.at
  exact ⟨t, s _ _ (ne_of h1 hx (fun z => nomatch z)) h1, o, s _ _ (ne_of h2 hx (fun z => nomatch z)) h2, h3⟩
theorem sqF {K : PySem.W.Frag} {H : Hp} {a : Addr} {o : Obj} {xs : List V} (h : H a = some (.frz o (.tup xs))) : SqT K H a xs := Or.inl (Or.inr ⟨o, h⟩)
def dictW (f : Wd → Int) : List (Key × V) := [(Sum.inr Wd.sh.s, .int (f .sh)), (Sum.inr Wd.ro.s, .int (f .ro)), (Sum.inr Wd.co.s, .int (f .co))]
def dictC (f : Wd → Int) : List (Key × V) := [(Sum.inr Wd.co.s, .int (f .co)), (Sum.inr Wd.ro.s, .int (f .ro)), (Sum.inr Wd.sh.s, .int (f .sh))]
theorem valW (f : Wd → Int) (u : Wd) : valV (dictW f) (Sum.inr u.s) = some (.int (f u)) := by cases u <;> rfl
theorem valC (f : Wd → Int) (u : Wd) : valV (dictC f) (Sum.inr u.s) = some (.int (f u)) := by cases u <;> rfl
theorem PrOk.size_lo {p : Prt} (h : PrOk p) (u : Wd) : 1 ≤ p.size u := by cases u <;> simp only [Prt.size] <;> first | exact h.s1 | exact h.r1 | exact h.c1
theorem PrOk.size_hi {p : Prt} (h : PrOk p) (u : Wd) : p.size u ≤ 1000000 := by
  have h1 := h.s2; have h2 := h.r2; have h3 := h.c2
  cases u <;> simp only [Prt.size] <;> omega
def spHow (dict : (Wd → Int) → List (Key × V)) : Sp := fun vs H Q _ => ∃ (a : Addr) (p : Prt), vs = [.ref a] ∧ PrAt H a p ∧
  ∀ (d : Addr) (H' : Hp), Same H H' → H' d = some (.dK (dict p.size)) → Q (.ref d) H'
def spNum : Sp := fun vs H Q _ => ∃ (a : Addr) (p : Prt) (s r c : Int), vs = [.ref a, .int s, .int r, .int c] ∧ PrAt H a p ∧ PrOk p ∧
  ∀ (H' : Hp), Same H H' → Q (.int (p.num s r c)) H'
theorem get_dW {H : Hp} {d : Addr} {f : Wd → Int} (h : H d = some (.dK (dictW f))) (u : Wd) : DGet H d (.str u.s) (some (.int (f u))) := by
  have q := DGet.k (k := Sum.inr u.s) h
  rw [valW] at q
  exact q
theorem get_dC {H : Hp} {d : Addr} {f : Wd → Int} (h : H d = some (.dK (dictC f))) (u : Wd) : DGet H d (.str u.s) (some (.int (f u))) := by
  have q := DGet.k (k := Sum.inr u.s) h
  rw [valC] at q
  exact q
theorem Prt.num_eq (p : Prt) (s r c : Int) : p.first + (seatW s r c p.o1 * p.size p.o2 * p.size p.o3 + seatW s r c p.o2 * p.size p.o3 + seatW s r c p.o3) = p.num s r c := by
  unfold Prt.num
  rw [Int.add_mul]
theorem PrOk.big {p : Prt} (ok : PrOk p) (u : Wd) : -(2 ^ 64) < p.size u ∧ p.size u < 2 ^ 64 := by
  have := ok.size_lo u
  have := ok.size_hi u
  constructor <;> omega
/-- what draw and its like leave for the words of an order -/
def spOrder : Sp := fun vs H Q _ => ∃ (f c : Addr) (n : Int), vs = [.ref f] ∧ Fd H f c n ∧ n ≤ 900000 ∧
  ∀ (t : Addr) (o : Obj) (u1 u2 u3 : Wd) (H' : Hp), Tpl o → u1 ≠ u2 → u1 ≠ u3 → u2 ≠ u3 → Fd H' f c (n + 2) → But f H H' → H t = none → H' t = some (.frz o (.tup [.str u1.s, .str u2.s, .str u3.s])) → Q (.ref t) H'
def spPrint : Sp := fun vs H Q _ => ∃ (f c : Addr) (n k : Int), vs = [.ref f, .int k] ∧ Fd H f c n ∧ n ≤ 800000 ∧ (k = 0 ∨ k = 1) ∧
  ∀ (a : Addr) (p : Prt) (H' : Hp), Fd H' f c (n + 20) → But f H H' → PrAt H' a p → PrOk p → (k = 1 → p.cols ≤ 4 ∧ p.rows ≤ 4 ∧ p.sheets ≤ 6) → Q (.ref a) H'
theorem mul_bound {a b : Int} {m n : Int} (a0 : 0 ≤ a) (a1 : a ≤ m) (b0 : 0 ≤ b) (b1 : b ≤ n) : 0 ≤ a * b ∧ a * b ≤ m * n :=
  ⟨Int.mul_nonneg a0 b0, Int.mul_le_mul a1 b1 b0 (Int.le_trans a0 a1)⟩
theorem prod_bound {c r s : Int} (c0 : 0 ≤ c) (c1 : c ≤ 12) (r0 : 0 ≤ r) (r1 : r ≤ 12) (s0 : 0 ≤ s) (s1 : s ≤ 1000000) : 0 ≤ c * r * s ∧ c * r * s ≤ 144000000 := by
  obtain ⟨h1, h2⟩ := mul_bound c0 c1 r0 r1
  obtain ⟨h3, h4⟩ := mul_bound h1 h2 s0 s1
  exact ⟨h3, by omega⟩
def abc : Str := "abcdefghijklmnopqrstuvwxyz"
theorem abc_at (i : Int) (h0 : 0 ≤ i) (h1 : i < 26) : ∃ ch, atI abc.cps.toList i = some ch ∧ ch < 16 ^ 8 := by
  obtain ⟨k, rfl⟩ : ∃ k : Nat, i = (k : Int) := ⟨i.toNat, by omega⟩
  have hk : k < abc.cps.toList.length := by
    have e : abc.cps.toList.length = 26 := by decide +kernel
    omega
  have all : ∀ c ∈ abc.cps.toList, c < 16 ^ 8 := by decide +kernel
  exact ⟨abc.cps.toList[k], atI_nat (List.getElem?_eq_getElem hk), all _ (List.getElem_mem hk)⟩
theorem mul_chr {ch : Nat} (n : Int) (h : ch < 16 ^ 8) : ((Txt.mul ⟨#[ch]⟩ n).cps.toList.all fun c => decide (c < 16 ^ 8)) = true := by
  rw [mul_one_list, List.all_eq_true]
  intro c hc
  rw [List.eq_of_mem_replicate hc]
  exact decide_eq_true h
theorem mul1_ok (ch : Nat) (d : Int) (h0 : 0 ≤ d) (h1 : d < 100) : MulOk ⟨#[ch]⟩ (1 + d) := by
  refine ⟨?_, fun _ _ => ?_, fun _ _ => ?_⟩
  · simp only [Bool.or_eq_false_iff, decide_eq_false_iff_not]
    constructor <;> omega
  · have e : (⟨#[ch]⟩ : Str).length = 1 := rfl
    rw [e]
    have : (1 : Int) ≤ (2 ^ 63 - 1) / (1 + d) := by
      rw [Int.le_ediv_iff_mul_le (by omega)]
      omega
    omega
  · have e : (⟨#[ch]⟩ : Str).length = 1 := rfl
    rw [e, Nat.one_mul]
    unfold Builtin.Str.tooLong
    rw [decide_eq_false_iff_not, sizeLine_eq]
    omega
theorem mul1_len (ch : Nat) (d : Int) (N : Nat) (h : 1 + d ≤ (N : Int)) : (Txt.mul ⟨#[ch]⟩ (1 + d)).length ≤ N := len_mul_one rfl h
def rowNums (p : Prt) (s r : Int) : List Int := (List.range p.cols.toNat).map fun (c : Nat) => p.num s r c
def numsOn (p : Prt) (s : Int) : List Int := (List.range p.rows.toNat).flatMap fun (r : Nat) => rowNums p s r
theorem rowNums_len (p : Prt) (s r : Int) : (rowNums p s r).length = p.cols.toNat := by
  unfold rowNums
  rw [List.length_map, List.length_range]
/-- the numbers ahead of the c-th of row r -/
def numsTo (p : Prt) (s : Int) (r c : Nat) : List Int := ((List.range r).flatMap fun (r : Nat) => rowNums p s r) ++ (List.range c).map fun (c : Nat) => p.num s r c
theorem numsTo_row (p : Prt) (s : Int) (r : Nat) : numsTo p s r p.cols.toNat = numsTo p s (r + 1) 0 := by
  unfold numsTo rowNums
  rw [List.range_succ, List.flatMap_append, List.range_zero, List.map_nil, List.append_nil, List.flatMap_singleton]
theorem numsTo_col (p : Prt) (s : Int) (r c : Nat) : numsTo p s r (c + 1) = numsTo p s r c ++ [p.num s r c] := by
  unfold numsTo
  rw [List.range_succ, List.map_append, List.append_assoc]
  rfl
theorem numsTo_all (p : Prt) (s : Int) : numsTo p s p.rows.toNat 0 = numsOn p s := by
  unfold numsTo numsOn
  rw [List.range_zero, List.map_nil, List.append_nil]
theorem numsTo_len (p : Prt) (s : Int) (r c : Nat) : (numsTo p s r c).length = r * p.cols.toNat + c := by
  unfold numsTo
  rw [List.length_append, List.length_map, List.length_range, List.length_flatMap]
  have e : (List.map (fun (a : Nat) => (rowNums p s a).length) (List.range r)) = List.replicate r p.cols.toNat := by
    apply List.ext_getElem
    · simp
    · intro i h1 h2
      simp [rowNums_len]
  rw [e, List.sum_replicate_nat]
def spNumsOn : Sp := fun vs H Q _ => ∃ (a : Addr) (p : Prt) (s : Int), vs = [.ref a, .int s] ∧ PrAt H a p ∧ PrOk p ∧
  ∀ (l : Addr) (H' : Hp), Same H H' → H l = none → H' l = some (.lst ((numsOn p s).map V.int)) → Q (.ref l) H'
/-! ### Runs -/
abbrev Rn := Str × Int × Int
def rnV (r : Rn) : List V := [.str r.1, .int r.2.1, .int r.2.2]
def rnD (r : Rn) : PyData := .tuple [.str r.1, .int r.2.1, .int r.2.2]
/-- the runs rs stand at the places ps -/
abbrev Prd (H : Hp) (ps : List Addr) (rs : List Rn) : Prop := Paired (fun (p : Addr) (r : Rn) => H p = some (.tup (rnV r))) ps rs
theorem Prd.len {H : Hp} {ps : List Addr} {rs : List Rn} (h : Prd H ps rs) : ps.length = rs.length := Paired.length h
theorem Prd.same {H H' : Hp} (s : Same H H') : ∀ {ps : List Addr} {rs : List Rn}, Prd H ps rs → Prd H' ps rs
  | _, _, .nil => .nil
  | _, _, .cons a b => .cons (s _ _ a) (Prd.same s b)
theorem Prd.get {H : Hp} : ∀ {ps : List Addr} {rs : List Rn} {i : Nat} {p : Addr}, Prd H ps rs → ps[i]? = some p → ∃ r, rs[i]? = some r ∧ H p = some (.tup (rnV r))
  | _, _, 0, _, .cons a _, h => by
    cases h
    exact ⟨_, rfl, a⟩
  | _, _, i + 1, p, .cons _ b, h => Prd.get (i := i) (p := p) b h
theorem Prd.app {H : Hp} : ∀ {ps qs : List Addr} {rs ts : List Rn}, Prd H ps rs → Prd H qs ts → Prd H (ps ++ qs) (rs ++ ts)
  | _, _, _, _, .nil, b => b
  | _, _, _, _, .cons a r, b => .cons a (Prd.app r b)
theorem Prd.mem {H : Hp} : ∀ {ps : List Addr} {rs : List Rn} {p : Addr}, Prd H ps rs → p ∈ ps → ∃ r ∈ rs, H p = some (.tup (rnV r))
  | _, _, p, .cons a b, h => by
    rcases List.mem_cons.mp h with e | e
    · subst e
      exact ⟨_, List.mem_cons_self, a⟩
    · obtain ⟨r, h1, h2⟩ := Prd.mem b e
      exact ⟨r, List.mem_cons_of_mem _ h1, h2⟩
theorem Prd.dp {K : PySem.W.Frag} {H : Hp} : ∀ {ps : List Addr} {rs : List Rn}, Prd H ps rs → DpAll K H (ps.map V.ref) (rs.map rnD)
  | _, _, .nil => .nil
  | _, _, .cons a b => .cons (.tup (SqT.of a) (.cons (.str _) (.cons (.int _) (.cons (.int _) .nil)))) (Prd.dp b)
/-- one run more, its place new or not, all else as it was -/
theorem Prd.keep {H H' : Hp} : ∀ {ps : List Addr} {rs : List Rn}, (∀ p ∈ ps, ∀ o, H p = some o → H' p = some o) → Prd H ps rs → Prd H' ps rs
  | _, _, _, .nil => .nil
  | _, _, k, .cons a b => .cons (k _ List.mem_cons_self _ a) (Prd.keep (fun p hp => k p (List.mem_cons_of_mem _ hp)) b)
def rnLe (a b : Rn) : Bool := PySem.W.dataLe false rnD a b
/-- Python's order of runs -/
def rnLt (a b : Rn) : Prop := a.1.cps.toList < b.1.cps.toList ∨ (a.1 = b.1 ∧ (a.2.1 < b.2.1 ∨ (a.2.1 = b.2.1 ∧ a.2.2 < b.2.2)))
theorem rn_lt (a b : Rn) : PySem.W.dataLt (rnD a) (rnD b) = decide (a.1.cps.toList < b.1.cps.toList ∨ (a.1 = b.1 ∧ (a.2.1 < b.2.1 ∨ (a.2.1 = b.2.1 ∧ a.2.2 < b.2.2)))) := by
  unfold rnD
  rw [PySem.W.dataLt_tuple, PySem.W.dataLt_cons (by simp [PySem.W.alike]), PySem.W.dataLt_cons (by simp [PySem.W.alike]), PySem.W.dataLt_cons (by simp [PySem.W.alike]), PySem.W.dataLt_str, PySem.W.dataLt_int, PySem.W.dataLt_int]
  rw [PyProof.Rows.lex_irrefl]
  simp only [PyData.eqv, beq_iff_eq]
  by_cases h1 : a.1 = b.1
  · have n : ¬ a.1.cps.toList < b.1.cps.toList := by
      rw [h1]
      exact List.lt_irrefl _
    by_cases h2 : a.2.1 = b.2.1
    · by_cases h3 : a.2.2 = b.2.2
      · rw [if_pos h1, if_pos h2, if_pos h3]
        symm
        rw [decide_eq_false_iff_not]
        rintro (h | ⟨_, h | ⟨_, h⟩⟩)
        · exact n h
        · omega
        · omega
      · rw [if_pos h1, if_pos h2, if_neg h3, decide_eq_decide]
        refine ⟨fun h => Or.inr ⟨h1, Or.inr ⟨h2, h⟩⟩, ?_⟩
        rintro (h | ⟨_, h | ⟨_, h⟩⟩)
        · exact absurd h n
        · omega
        · exact h
    · rw [if_pos h1, if_neg h2, decide_eq_decide]
      refine ⟨fun h => Or.inr ⟨h1, Or.inl h⟩, ?_⟩
      rintro (h | ⟨_, h | ⟨h, _⟩⟩)
      · exact absurd h n
      · exact h
      · exact absurd h h2
  · rw [if_neg h1, decide_eq_decide]
    refine ⟨Or.inl, ?_⟩
    rintro (h | ⟨h, _⟩)
    · exact h
    · exact absurd h h1
def apart (a b : Rn) : Bool := if a.1 = b.1 then decide (a.2.2 < b.2.1) else decide (a.1.cps.toList < b.1.cps.toList)
def push (acc : List Rn) (r : Rn) : List Rn := match acc.getLast? with
  | none => [r]
  | some l => if apart l r then acc ++ [r] else acc.dropLast ++ [(l.1, l.2.1, if r.2.2 > l.2.2 then r.2.2 else l.2.2)]
def merge (rs : List Rn) : List Rn := rs.foldl push []
def runsOf (rs : List Rn) : List Rn := merge (rs.mergeSort rnLe)
theorem sort_rn {H : Hp} {ps : List Addr} {rs : List Rn} (h : Prd H ps rs) : ∃ qs : List Addr, sortD (ps.map V.ref) (rs.map rnD) = qs.map V.ref ∧ Prd H qs (rs.mergeSort rnLe) := by
  have hl := h.len
  have e1 : ((ps.map V.ref).zip (rs.map rnD)) = (ps.zip rs).map (fun x => (V.ref x.1, rnD x.2)) := by
    rw [List.zip_map]
    rfl
  refine ⟨((ps.zip rs).mergeSort (fun x y => rnLe x.2 y.2)).map Prod.fst, ?_, ?_⟩
  · unfold sortD
    rw [e1, ← PySem.W.sort_maps (r := fun x y => rnLe x.2 y.2) (fun x : Addr × Rn => (V.ref x.1, rnD x.2)) (fun _ _ _ _ => rfl), List.map_map, List.map_map]
    rfl
  · have e2 : ((ps.zip rs).mergeSort (fun x y => rnLe x.2 y.2)).map Prod.snd = rs.mergeSort rnLe := by
      rw [PySem.W.sort_maps (s := rnLe) Prod.snd (fun _ _ _ _ => rfl), List.map_snd_zip (by omega)]
    rw [← e2]
    have at_ : ∀ x ∈ ps.zip rs, H x.1 = some (.tup (rnV x.2)) := by
      clear e1 e2 hl
      induction h with
      | nil => exact fun x hx => nomatch hx
      | cons a b ih =>
        intro x hx
        rcases List.mem_cons.mp hx with z | z
        · subst z
          exact a
        · exact ih x z
    have all : ∀ l : List (Addr × Rn), (∀ x ∈ l, H x.1 = some (.tup (rnV x.2))) → Prd H (l.map Prod.fst) (l.map Prod.snd) := fun l => by
      induction l with
      | nil => exact fun _ => .nil
      | cons x l ih => exact fun k => .cons (k x List.mem_cons_self) (ih fun y hy => k y (List.mem_cons_of_mem _ hy))
    exact all _ fun x hx => at_ x (List.mem_mergeSort.mp hx)
theorem rn_alike (rs : List Rn) : PySem.W.AllAlike (rs.map rnD) := by
  intro d hd e he
  obtain ⟨a, _, rfl⟩ := List.mem_map.mp hd
  obtain ⟨b, _, rfl⟩ := List.mem_map.mp he
  simp [rnD, PySem.W.alike, PySem.W.alikeAll]
theorem rn_sortable (rs : List Rn) : PySem.W.Sortable (rs.map rnD) := by
  refine Or.inl fun d hd => ?_
  obtain ⟨a, _, rfl⟩ := List.mem_map.mp hd
  exact ⟨_, _, rfl⟩
theorem rn_depth (rs : List Rn) : ∀ d ∈ rs.map rnD, d.depth ≤ 60 := by
  intro d hd
  obtain ⟨a, _, rfl⟩ := List.mem_map.mp hd
  simp [rnD, PyData.depth, PyData.depthAll]
theorem push_len (acc : List Rn) (r : Rn) : (push acc r).length ≤ acc.length + 1 := by
  unfold push
  split
  · simp
  · split
    · simp
    · simp
theorem merge_len (rs : List Rn) : (merge rs).length ≤ rs.length := by
  have all : ∀ (l acc : List Rn), (l.foldl push acc).length ≤ acc.length + l.length := fun l => by
    induction l with
    | nil => intro acc; simp
    | cons r l ih =>
      intro acc
      have h1 := ih (push acc r)
      have h2 := push_len acc r
      rw [List.foldl_cons, List.length_cons]
      omega
  have z := all rs []
  rw [List.length_nil, Nat.zero_add] at z
  exact z
theorem push_snoc (acc : List Rn) (l r : Rn) : push (acc ++ [l]) r = if apart l r then acc ++ [l] ++ [r] else acc ++ [(l.1, l.2.1, if r.2.2 > l.2.2 then r.2.2 else l.2.2)] := by
  unfold push
  rw [List.getLast?_concat]
  simp only [List.dropLast_concat]
theorem Prd.snoc {H : Hp} : ∀ {ps : List Addr} {rs : List Rn} {p : Addr}, Prd H (ps ++ [p]) rs → ∃ ts r, rs = ts ++ [r] ∧ Prd H ps ts ∧ H p = some (.tup (rnV r))
  | [], _, p, h => by
    cases h with
    | cons a b =>
      cases b
      exact ⟨[], _, rfl, .nil, a⟩
  | x :: ps, _, p, h => by
    cases h with
    | cons a b =>
      obtain ⟨ts, r, rfl, h1, h2⟩ := Prd.snoc b
      exact ⟨_ :: ts, r, rfl, .cons a h1, h2⟩
theorem Prd.one {H : Hp} {p : Addr} {r : Rn} (h : H p = some (.tup (rnV r))) : Prd H [p] [r] := .cons h .nil
theorem ix_last (n : Nat) : ixN (n + 1) (-1) = some n := by
  unfold ixN
  rw [if_neg (by omega), if_pos (by omega)]
  exact congrArg some (by omega)
theorem nil_or_snoc {α : Type} (l : List α) : l = [] ∨ ∃ i x, l = i ++ [x] := by
  rcases List.eq_nil_or_concat l with h | ⟨i, x, h⟩
  · exact .inl h
  · exact .inr ⟨i, x, by rw [h, List.concat_eq_append]⟩
theorem merge_more {l : List Rn} {i : Nat} {r : Rn} (h : l[i]? = some r) : merge (l.take (i + 1)) = push (merge (l.take i)) r := by
  unfold merge
  obtain ⟨hi, e⟩ := List.getElem?_eq_some_iff.mp h
  rw [List.take_succ_eq_append_getElem hi, List.foldl_append, e]
  rfl
def spApart : Sp := fun vs H Q _ => ∃ (p q : Addr) (a b : Rn), vs = [.ref p, .ref q] ∧ H p = some (.tup (rnV a)) ∧ H q = some (.tup (rnV b)) ∧ Q (.bl (apart a b)) H
def spRunsOf (K : PySem.W.Frag) : Sp := fun vs H Q _ => ∃ (a : Addr) (ps : List Addr) (rs : List Rn), vs = [.ref a] ∧ SqL K H a (ps.map V.ref) ∧ Prd H ps rs ∧ rs.length ≤ 100000 ∧
  ∀ (t : Addr) (qs : List Addr) (H' : Hp), Same H H' → H t = none → H' t = some (.tup (qs.map V.ref)) → Prd H' qs (runsOf rs) → Q (.ref t) H'
def single (s : Str) (n : Int) : Rn := (s, n, n + 1)
def spRunsNums : Sp := fun vs H Q _ => ∃ (a l : Addr) (p : Prt) (ns : List Int), vs = [.ref a, .ref l] ∧ PrAt H a p ∧ H l = some (.lst (ns.map V.int)) ∧ ns.length ≤ 100000 ∧
  ∀ (t : Addr) (qs : List Addr) (H' : Hp), Same H H' → H t = none → H' t = some (.tup (qs.map V.ref)) → Prd H' qs (runsOf (ns.map (single p.series))) → Q (.ref t) H'
def spSheetRuns : Sp := fun vs H Q _ => ∃ (a : Addr) (p : Prt) (s : Int), vs = [.ref a, .int s] ∧ PrAt H a p ∧ PrOk p ∧
  ∀ (t : Addr) (qs : List Addr) (H' : Hp), Same H H' → H t = none → H' t = some (.tup (qs.map V.ref)) → Prd H' qs (runsOf ((numsOn p s).map (single p.series))) → Q (.ref t) H'
def spPile (f : Prt → Int → Int → Int) : Sp := fun vs H Q _ => ∃ (a : Addr) (p : Prt) (r c : Int), vs = [.ref a, .int r, .int c] ∧ PrAt H a p ∧ PrOk p ∧
  ∀ (t : Addr) (H' : Hp), Same H H' → H t = none → H' t = some (.tup [.int (p.num 0 r c), .int (f p r c), .int p.sheets]) → Q (.ref t) H'
theorem numsOn_len {p : Prt} (ok : PrOk p) (s : Int) : (numsOn p s).length ≤ 144 := by
  rw [← numsTo_all, numsTo_len]
  have h1 := ok.r2
  have h2 := ok.c2
  have : p.rows.toNat * p.cols.toNat ≤ 12 * 12 := Nat.mul_le_mul (by omega) (by omega)
  omega
/-! ### Sheets: numbers on a sheet are unlike; joined they are the runs -/
theorem mixed {x y n c d : Int} (e : x * n + c = y * n + d) (c0 : 0 ≤ c) (c1 : c < n) (d0 : 0 ≤ d) (d1 : d < n) : x = y ∧ c = d := by
  have h1 : (x * n + c) / n = x := by
    rw [Int.add_comm, Int.add_mul_ediv_right _ _ (by omega), Int.ediv_eq_zero_of_lt c0 c1, Int.zero_add]
  have h2 : (y * n + d) / n = y := by
    rw [Int.add_comm, Int.add_mul_ediv_right _ _ (by omega), Int.ediv_eq_zero_of_lt d0 d1, Int.zero_add]
  have h3 : x = y := by rw [← h1, ← h2, e]
  subst h3
  exact ⟨rfl, by omega⟩
theorem cancel {x y n : Int} (e : x * n = y * n) (h : 1 ≤ n) : x = y := Int.eq_of_mul_eq_mul_right (by omega) e
theorem num_inj {p : Prt} (ok : PrOk p) {s r c r' c' : Int} (r0 : 0 ≤ r) (r1 : r < p.rows) (c0 : 0 ≤ c) (c1 : c < p.cols) (r0' : 0 ≤ r') (r1' : r' < p.rows) (c0' : 0 ≤ c') (c1' : c' < p.cols)
    (e : p.num s r c = p.num s r' c') : r = r' ∧ c = c' := by
  obtain ⟨series, first, cols, rows, sheets, o1, o2, o3⟩ := p
  have s1 := ok.s1
  have d12 := ok.d12
  have d13 := ok.d13
  have d23 := ok.d23
  dsimp only at *
  unfold Prt.num at e
  dsimp only at e
  have e := Int.add_left_cancel e
  cases o1 <;> cases o2 <;> cases o3 <;> first | exact absurd rfl d12 | exact absurd rfl d13 | exact absurd rfl d23 | skip
  all_goals simp only [seatW, Prt.size] at e
  · obtain ⟨h1, h2⟩ := mixed e c0 c1 c0' c1'
    exact ⟨by omega, h2⟩
  · obtain ⟨h1, h2⟩ := mixed e r0 r1 r0' r1'
    exact ⟨h2, by omega⟩
  · obtain ⟨h1, h2⟩ := mixed e c0 c1 c0' c1'
    exact ⟨cancel (n := sheets) (by omega) s1, h2⟩
  · have h1 := cancel (x := r * cols + c) (y := r' * cols + c') (n := sheets) (by omega) s1
    exact mixed h1 c0 c1 c0' c1'
  · obtain ⟨h1, h2⟩ := mixed e r0 r1 r0' r1'
    exact ⟨h2, cancel (n := sheets) (by omega) s1⟩
  · have h1 := cancel (x := c * rows + r) (y := c' * rows + r') (n := sheets) (by omega) s1
    obtain ⟨h2, h3⟩ := mixed h1 r0 r1 r0' r1'
    exact ⟨h3, h2⟩
theorem nums_nodup {p : Prt} (ok : PrOk p) (s : Int) : (numsOn p s).Pairwise (· ≠ ·) := by
  unfold numsOn
  rw [List.pairwise_flatMap]
  refine ⟨fun r hr => ?_, ?_⟩
  · unfold rowNums
    rw [List.pairwise_map]
    refine List.Pairwise.imp_of_mem ?_ List.nodup_range
    intro c c' hc hc' ne e
    have h1 := List.mem_range.mp hr
    have h2 := List.mem_range.mp hc
    have h3 := List.mem_range.mp hc'
    have z := num_inj ok (by omega) (by omega) (by omega) (by omega) (by omega) (by omega) (by omega) (by omega) e
    exact ne (by omega)
  · refine List.Pairwise.imp_of_mem ?_ List.nodup_range
    intro r r' hr hr' ne x hx y hy e
    unfold rowNums at hx hy
    obtain ⟨c, hc, rfl⟩ := List.mem_map.mp hx
    obtain ⟨c', hc', rfl⟩ := List.mem_map.mp hy
    have h1 := List.mem_range.mp hr
    have h2 := List.mem_range.mp hr'
    have h3 := List.mem_range.mp hc
    have h4 := List.mem_range.mp hc'
    have z := num_inj ok (by omega) (by omega) (by omega) (by omega) (by omega) (by omega) (by omega) (by omega) e
    exact ne (by omega)
/-- one number more, as the law joins them -/
def step (s : Str) (acc : List Rn) (n : Int) : List Rn := match acc.getLast? with
  | none => [single s n]
  | some l => if l.2.2 = n then acc.dropLast ++ [(s, l.2.1, n + 1)] else acc ++ [single s n]
theorem step_snoc (s : Str) (acc : List Rn) (l : Rn) (n : Int) : step s (acc ++ [l]) n = if l.2.2 = n then acc ++ [(s, l.2.1, n + 1)] else acc ++ [l] ++ [single s n] := by
  unfold step
  rw [List.getLast?_concat]
  simp only [List.dropLast_concat]
theorem push_step {s : Str} {acc : List Rn} {n : Int} (h : ∀ l, acc.getLast? = some l → l.1 = s ∧ l.2.2 ≤ n) : push acc (single s n) = step s acc n := by
  rcases nil_or_snoc acc with rfl | ⟨i, l, rfl⟩
  · rfl
  · obtain ⟨h1, h2⟩ := h l List.getLast?_concat
    rw [push_snoc, step_snoc]
    have e : apart l (single s n) = decide (l.2.2 < n) := if_pos h1
    rw [e]
    by_cases c : l.2.2 = n
    · rw [if_neg (by rw [decide_eq_true_eq]; omega), if_pos c]
      have m : (if (single s n).2.2 > l.2.2 then (single s n).2.2 else l.2.2) = n + 1 := if_pos (show n + 1 > l.2.2 by omega)
      rw [m, h1]
    · rw [if_pos (by rw [decide_eq_true_eq]; omega), if_neg c]
theorem step_last (s : Str) (acc : List Rn) (n : Int) : ∃ i l, step s acc n = i ++ [l] ∧ l.1 = s ∧ l.2.2 = n + 1 := by
  rcases nil_or_snoc acc with rfl | ⟨i, l, rfl⟩
  · exact ⟨[], single s n, rfl, rfl, rfl⟩
  · rw [step_snoc]
    by_cases c : l.2.2 = n
    · rw [if_pos c]
      exact ⟨_, _, rfl, rfl, rfl⟩
    · rw [if_neg c]
      exact ⟨_, _, rfl, rfl, rfl⟩
theorem fold_step (s : Str) : ∀ (ns : List Int) (acc : List Rn), ns.Pairwise (· < ·) → (∀ l, acc.getLast? = some l → l.1 = s ∧ ∀ n ∈ ns, l.2.2 ≤ n) → (ns.map (single s)).foldl push acc = ns.foldl (step s) acc
  | [], _, _, _ => rfl
  | n :: ns, acc, hp, h => by
    have hp := List.pairwise_cons.mp hp
    rw [List.map_cons, List.foldl_cons, List.foldl_cons, push_step (fun l hl => ⟨(h l hl).1, (h l hl).2 n List.mem_cons_self⟩)]
    refine fold_step s ns _ hp.2 fun l hl => ?_
    obtain ⟨i, l', e, h1, h2⟩ := step_last s acc n
    rw [e, List.getLast?_concat] at hl
    cases hl
    refine ⟨h1, fun m hm => ?_⟩
    have := hp.1 m hm
    omega
theorem single_le (s : Str) (a b : Int) : rnLe (single s a) (single s b) = decide (a ≤ b) := by
  show (!PySem.W.dataLt (rnD (single s b)) (rnD (single s a))) = _
  rw [rn_lt]
  have n : ¬ (single s b).1.cps.toList < (single s a).1.cps.toList := List.lt_irrefl _
  by_cases c : b < a
  · rw [decide_eq_true (Or.inr ⟨rfl, Or.inl c⟩), decide_eq_false (by omega)]
    rfl
  · have z : ¬ ((single s b).1.cps.toList < (single s a).1.cps.toList ∨ (single s b).1 = (single s a).1 ∧ ((single s b).2.1 < (single s a).2.1 ∨ (single s b).2.1 = (single s a).2.1 ∧ (single s b).2.2 < (single s a).2.2)) := by
      rintro (h | ⟨_, h | ⟨_, h⟩⟩)
      · exact n h
      · exact c h
      · have h : b + 1 < a + 1 := h
        omega
    rw [decide_eq_false z, decide_eq_true (by omega)]
    rfl
theorem runsOf_singles {s : Str} {ns ms : List Int} (hp : ms.Perm ns) (hs : ms.Pairwise (· ≤ ·)) (hn : ns.Pairwise (· ≠ ·)) : ms.foldl (step s) [] = runsOf (ns.map (single s)) := by
  unfold runsOf merge
  have e1 : (ns.map (single s)).mergeSort rnLe = (ns.mergeSort fun a b => decide (a ≤ b)).map (single s) := (PySem.W.sort_maps (single s) (fun a _ b _ => (single_le s a b).symm)).symm
  have e2 : ms = ns.mergeSort fun a b => decide (a ≤ b) := by
    refine List.Perm.eq_of_pairwise (le := fun a b => a ≤ b) (fun a b _ _ => Int.le_antisymm) hs ?_ (hp.trans (List.mergeSort_perm _ _).symm)
    have z := List.pairwise_mergeSort (le := fun (a b : Int) => decide (a ≤ b)) (fun a b c h1 h2 => by rw [decide_eq_true_eq] at *; omega) (fun a b => by rw [Bool.or_eq_true, decide_eq_true_eq, decide_eq_true_eq]; omega) ns
    exact z.imp fun h => of_decide_eq_true h
  have lt : ms.Pairwise (· < ·) := by
    have hm : ms.Pairwise (· ≠ ·) := (hp.pairwise_iff (fun h => Ne.symm h)).mpr hn
    exact (hs.and hm).imp fun h => by omega
  rw [e1, ← e2]
  exact (fold_step s ms [] lt fun l hl => nomatch hl).symm
theorem step_len (s : Str) (acc : List Rn) (n : Int) : (step s acc n).length ≤ acc.length + 1 := by
  rcases nil_or_snoc acc with rfl | ⟨i, l, rfl⟩
  · exact Nat.le_refl _
  · rw [step_snoc]
    split <;> simp
theorem steps_len (s : Str) (ns : List Int) : (ns.foldl (step s) []).length ≤ ns.length := by
  have all : ∀ (l : List Int) (acc : List Rn), (l.foldl (step s) acc).length ≤ acc.length + l.length := fun l => by
    induction l with
    | nil => intro acc; simp
    | cons r l ih =>
      intro acc
      have h1 := ih (step s acc r)
      have h2 := step_len s acc r
      rw [List.foldl_cons, List.length_cons]
      omega
  have z := all ns []
  rw [List.length_nil, Nat.zero_add] at z
  exact z
theorem steps_more {s : Str} {l : List Int} {i : Nat} {n : Int} (h : l[i]? = some n) : (l.take (i + 1)).foldl (step s) [] = step s ((l.take i).foldl (step s) []) n := by
  obtain ⟨hi, e⟩ := List.getElem?_eq_some_iff.mp h
  rw [List.take_succ_eq_append_getElem hi, List.foldl_append, e]
  rfl
/-- what a pile's numbers grow by, from the sizes of the words behind "sheet" -/
def stepOf (p : Prt) : Int := match p.o1, p.o2, p.o3 with
  | .sh, b, c => 1 * p.size b * p.size c
  | _, .sh, c => 1 * p.size c
  | _, _, _ => 1
theorem step_of {p : Prt} (ok : PrOk p) (r c : Int) : p.num 1 r c - p.num 0 r c = stepOf p := by
  obtain ⟨series, first, cols, rows, sheets, o1, o2, o3⟩ := p
  have d12 := ok.d12
  have d13 := ok.d13
  have d23 := ok.d23
  dsimp only at *
  unfold Prt.num stepOf
  dsimp only
  cases o1 <;> cases o2 <;> cases o3 <;> first | exact absurd rfl d12 | exact absurd rfl d13 | exact absurd rfl d23 | skip
  all_goals simp only [seatW, Prt.size, Int.zero_mul, Int.one_mul, Int.add_mul, Int.zero_add]
  all_goals omega
def strsW (ws : List Wd) : List V := ws.map fun w => V.str w.s
theorem behind {p : Prt} (ok : PrOk p) : ∃ (j : Nat) (bs : List Wd), [p.o1.s, p.o2.s, p.o3.s][j]? = some Wd.sh.s ∧ (∀ m, m < j → [p.o1.s, p.o2.s, p.o3.s][m]? ≠ some Wd.sh.s) ∧
    cutV (ordV p) (some ((j : Int) + 1)) none = strsW bs ∧ bs.foldl (fun x w => x * p.size w) 1 = stepOf p ∧ j < 3 := by
  obtain ⟨series, first, cols, rows, sheets, o1, o2, o3⟩ := p
  have d12 := ok.d12
  have d13 := ok.d13
  have d23 := ok.d23
  dsimp only at *
  cases o1 <;> cases o2 <;> cases o3 <;> first | exact absurd rfl d12 | exact absurd rfl d13 | exact absurd rfl d23 | skip
  · exact ⟨0, [.ro, .co], rfl, fun m hm => absurd hm (Nat.not_lt_zero _), rfl, rfl, by decide⟩
  · exact ⟨0, [.co, .ro], rfl, fun m hm => absurd hm (Nat.not_lt_zero _), rfl, rfl, by decide⟩
  · refine ⟨1, [.co], rfl, fun m hm => ?_, rfl, rfl, by decide⟩
    obtain rfl : m = 0 := by omega
    decide +kernel
  · refine ⟨2, [], rfl, fun m hm => ?_, rfl, rfl, by decide⟩
    rcases (show m = 0 ∨ m = 1 by omega) with rfl | rfl <;> decide +kernel
  · refine ⟨1, [.ro], rfl, fun m hm => ?_, rfl, rfl, by decide⟩
    obtain rfl : m = 0 := by omega
    decide +kernel
  · refine ⟨2, [], rfl, fun m hm => ?_, rfl, rfl, by decide⟩
    rcases (show m = 0 ∨ m = 1 by omega) with rfl | rfl <;> decide +kernel
theorem PrOk.thin1 {p : Prt} (ok : PrOk p) : PrOk { p with sheets := 1 } := by
  have h1 := ok.most
  have h2 : p.cols * p.rows * 1 ≤ p.cols * p.rows * p.sheets := Int.mul_le_mul_of_nonneg_left ok.s1 (Int.mul_nonneg (by have := ok.c1; omega) (by have := ok.r1; omega))
  exact ⟨ok.len, ok.f0, ok.c1, ok.c2, ok.r1, ok.r2, Int.le_refl 1, (show (1 : Int) ≤ 1000000 by decide), by show p.first + p.cols * p.rows * 1 ≤ _; omega, ok.d12, ok.d13, ok.d23, ok.chr⟩
theorem PrOk.thin2 {p : Prt} (ok : PrOk p) : PrOk { p with cols := 1 } := by
  have h1 := ok.most
  have h3 := ok.s1
  have h4 := ok.r1
  have h2 : 1 * p.rows * p.sheets ≤ p.cols * p.rows * p.sheets := Int.mul_le_mul_of_nonneg_right (Int.mul_le_mul_of_nonneg_right ok.c1 (by omega)) (by omega)
  exact ⟨ok.len, ok.f0, Int.le_refl 1, (show (1 : Int) ≤ 12 by decide), ok.r1, ok.r2, ok.s1, ok.s2, by show p.first + 1 * p.rows * p.sheets ≤ _; omega, ok.d12, ok.d13, ok.d23, ok.chr⟩
theorem PrOk.thin3 {p : Prt} (ok : PrOk p) : PrOk { p with rows := 1 } := by
  have h1 := ok.most
  have h3 := ok.s1
  have h4 := ok.c1
  have h2 : p.cols * 1 * p.sheets ≤ p.cols * p.rows * p.sheets := Int.mul_le_mul_of_nonneg_right (Int.mul_le_mul_of_nonneg_left ok.r1 (by omega)) (by omega)
  exact ⟨ok.len, ok.f0, ok.c1, ok.c2, Int.le_refl 1, (show (1 : Int) ≤ 12 by decide), ok.s1, ok.s2, by show p.first + p.cols * 1 * p.sheets ≤ _; omega, ok.d12, ok.d13, ok.d23, ok.chr⟩
/-- right printings at these places -/
def PrsAt (H : Hp) (as : List Addr) (ps : List Prt) : Prop := Paired (fun (a : Addr) (p : Prt) => PrAt H a p ∧ PrOk p) as ps
theorem PrsAt.same {H H' : Hp} (s : Same H H') : ∀ {as : List Addr} {ps : List Prt}, PrsAt H as ps → PrsAt H' as ps
  | _, _, .nil => .nil
  | _, _, .cons a b => .cons ⟨a.1.same s, a.2⟩ (PrsAt.same s b)
theorem PrsAt.but {H H' : Hp} {f c : Addr} {n : Int} (hf : Fd H f c n) (s : But f H H') : ∀ {as : List Addr} {ps : List Prt}, PrsAt H as ps → PrsAt H' as ps
  | _, _, .nil => .nil
  | _, _, .cons a b => .cons ⟨a.1.but hf s, a.2⟩ (PrsAt.but hf s b)
theorem PrsAt.get {H : Hp} : ∀ {as : List Addr} {ps : List Prt} {i : Nat} {a : Addr}, PrsAt H as ps → as[i]? = some a → ∃ p, ps[i]? = some p ∧ PrAt H a p ∧ PrOk p
  | _, _, 0, _, .cons a _, h => by
    cases h
    exact ⟨_, rfl, a.1, a.2⟩
  | _, _, i + 1, a, .cons _ b, h => PrsAt.get (i := i) (a := a) b h
def spPrints : Sp := fun vs H Q _ => ∃ (f c : Addr) (n : Int), vs = [.ref f] ∧ Fd H f c n ∧ n ≤ 700000 ∧
  ∀ (l : Addr) (as : List Addr) (ps : List Prt) (H' : Hp), Fd H' f c (n + 50) → But f H H' → l ≠ f → H' l = some (.lst (as.map V.ref)) → PrsAt H' as ps → as.length = 4 → Q (.ref l) H'
/-! ### How long a repr is -/
mutual
def cost : PyData → Nat
  | .none => 4
  | .bool _ => 5
  | .int _ => 2000
  | .str x => 10 * x.length + 2
  | .list xs => costAll xs + 3
  | .tuple xs => costAll xs + 3
  | .dict _ => 0
def costAll : List PyData → Nat
  | [] => 0
  | x :: xs => cost x + 2 + costAll xs
end
mutual
def fineD : PyData → Bool
  | .none => true
  | .bool _ => true
  | .int i => decide (i.natAbs.log2 < 1920)
  | .str x => x.cps.toList.all fun c => decide (c < 16 ^ 8)
  | .list xs => fineAll xs
  | .tuple xs => fineAll xs
  | .dict _ => false
def fineAll : List PyData → Bool
  | [] => true
  | x :: xs => fineD x && fineAll xs
end
theorem from_len : ∀ (ts : List Str) (k : Nat) (acc : Str), (textFrom k acc ts).length ≤ acc.length + piled ts
  | [], k, acc => by
    unfold textFrom
    exact Nat.le_add_right _ _
  | t :: ts, k, acc => by
    unfold textFrom
    rw [piled_cons]
    have z := from_len ts (k + 1) (acc ++ (if k > 0 then ", " else "" : String) ++ t)
    have e : (((if k > 0 then ", " else "" : String) : Str)).length ≤ 2 := by split <;> decide +kernel
    rw [strLen_append, strLen_append] at z
    omega
theorem tup_len (ts : List Str) : (tupleText ts).length ≤ piled ts + 3 := by
  have e1 : ((("(" : String) : Str)).length = 1 := rfl
  have e3 : (((if ts.length == 1 then ",)" else ")" : String) : Str)).length ≤ 2 := by split <;> decide +kernel
  unfold tupleText
  rw [strLen_append, strLen_append, e1]
  cases ts with
  | nil =>
    have : (Str.join ", " []).length = 0 := rfl
    omega
  | cons t ts =>
    have := join_length_add (t :: ts) (fun z => nomatch z)
    omega
mutual
theorem shown_cost : ∀ d : PyData, fineD d = true → d.shown.length ≤ cost d
  | .none, _ => by decide +kernel
  | .bool b, _ => by cases b <;> decide +kernel
  | .int i, h => by
    have := int_text_len_1921 (of_decide_eq_true h)
    unfold PyData.shown cost
    omega
  | .str x, h => StrLaws.reprText_len x fun c hc => of_decide_eq_true (List.all_eq_true.mp h c hc)
  | .list xs, h => by
    have z := shown_costAll xs h
    have y := from_len (PyData.shownAll xs) 0 "["
    have e : (("[" : String) : Str).length = 1 := rfl
    have e2 : (("]" : String) : Str).length = 1 := rfl
    unfold PyData.shown cost listText
    rw [strLen_append, e2]
    rw [e] at y
    omega
  | .tuple xs, h => by
    have z := shown_costAll xs h
    have y := tup_len (PyData.shownAll xs)
    unfold PyData.shown cost
    omega
theorem shown_costAll : ∀ xs : List PyData, fineAll xs = true → piled (PyData.shownAll xs) ≤ costAll xs
  | [], _ => Nat.zero_le _
  | x :: xs, h => by
    have h := Bool.and_eq_true_iff.mp h
    have z1 := shown_cost x h.1
    have z2 := shown_costAll xs h.2
    unfold PyData.shownAll costAll
    rw [piled_cons]
    omega
end
mutual
theorem fine_show : ∀ d : PyData, fineD d = true → d.showable = true ∧ d.hasDict = false
  | .none, _ => ⟨rfl, rfl⟩
  | .bool b, _ => ⟨rfl, rfl⟩
  | .int i, h => ⟨h, rfl⟩
  | .str x, h => ⟨rfl, rfl⟩
  | .list xs, h => fine_showAll xs h
  | .tuple xs, h => fine_showAll xs h
theorem fine_showAll : ∀ xs : List PyData, fineAll xs = true → PyData.showableAll xs = true ∧ PyData.hasDictAll xs = false
  | [], _ => ⟨rfl, rfl⟩
  | x :: xs, h => by
    have h := Bool.and_eq_true_iff.mp h
    have z1 := fine_show x h.1
    have z2 := fine_showAll xs h.2
    unfold PyData.showableAll PyData.hasDictAll
    rw [z1.1, z1.2, z2.1, z2.2]
    exact ⟨rfl, rfl⟩
end
theorem log_small {n : Nat} (h : n < 2 ^ 64) : n.log2 < 1920 := by
  by_cases z : n = 0
  · subst z
    decide +kernel
  · exact (Nat.log2_lt z).mpr (Nat.lt_of_lt_of_le h (Nat.pow_le_pow_right (by decide) (by decide)))
theorem int_fine {i : Int} (h0 : -1000000000000 ≤ i) (h1 : i ≤ 1000000000000) : fineD (.int i) = true := decide_eq_true (log_small (by omega))
def prD (p : Prt) : PyData := .tuple [.str p.series, .int p.first, .int p.cols, .int p.rows, .int p.sheets, .tuple [.str p.o1.s, .str p.o2.s, .str p.o3.s]]
theorem PrAt.dp {K : PySem.W.Frag} {H : Hp} {a : Addr} {p : Prt} (h : PrAt H a p) : Dp K H (.ref a) (prD p) := by
  obtain ⟨t, h1, o, h2, _⟩ := h
  exact .tup (SqT.of h1) (.cons (.str _) (.cons (.int _) (.cons (.int _) (.cons (.int _) (.cons (.int _) (.cons (.tup (sqF h2) (.cons (.str _) (.cons (.str _) (.cons (.str _) .nil)))) .nil))))))
theorem word_fine (u : Wd) : fineD (.str u.s) = true := by cases u <;> decide +kernel
theorem PrOk.fine {p : Prt} (ok : PrOk p) : fineD (prD p) = true := by
  have h1 := ok.f0; have h2 := ok.c1; have h3 := ok.c2; have h4 := ok.r1; have h5 := ok.r2; have h6 := ok.s1; have h7 := ok.s2; have h8 := ok.most
  have h9 := (prod_bound (c := p.cols) (r := p.rows) (s := p.sheets) (by omega) h3 (by omega) h5 (by omega) h7).1
  show (fineD (.str p.series) && (fineD (.int p.first) && (fineD (.int p.cols) && (fineD (.int p.rows) && (fineD (.int p.sheets) && ((fineD (.str p.o1.s) && (fineD (.str p.o2.s) && (fineD (.str p.o3.s) && true))) && true)))))) = true
  have e0 : fineD (.str p.series) = true := ok.chr
  rw [e0, int_fine (by omega) (by omega), int_fine (by omega) (by omega), int_fine (by omega) (by omega), int_fine (by omega) (by omega), word_fine, word_fine, word_fine]
  rfl
theorem word_cost (u : Wd) : cost (.str u.s) ≤ 62 := by cases u <;> decide +kernel
theorem PrOk.cost {p : Prt} (ok : PrOk p) : cost (prD p) ≤ 9000 := by
  have h := ok.len
  have h1 := word_cost p.o1; have h2 := word_cost p.o2; have h3 := word_cost p.o3
  simp only [prD, Pn.cost, costAll] at *
  omega
theorem PrsAt.dp {K : PySem.W.Frag} {H : Hp} : ∀ {as : List Addr} {ps : List Prt}, PrsAt H as ps → DpAll K H (as.map V.ref) (ps.map prD)
  | _, _, .nil => .nil
  | _, _, .cons a b => .cons a.1.dp (PrsAt.dp b)
theorem PrsAt.fine {H : Hp} : ∀ {as : List Addr} {ps : List Prt}, PrsAt H as ps → fineAll (ps.map prD) = true ∧ costAll (ps.map prD) ≤ 9002 * ps.length ∧ as.length = ps.length
  | _, _, .nil => ⟨rfl, Nat.le_refl _, rfl⟩
  | _, _, .cons (l₂ := l) a b => by
    obtain ⟨z1, z2, z3⟩ := PrsAt.fine b
    have y1 := a.2.fine
    have y2 := a.2.cost
    refine ⟨?_, ?_, congrArg (· + 1) z3⟩
    · rw [List.map_cons]
      unfold fineAll
      rw [y1, z1]
      rfl
    · rw [List.map_cons, List.length_cons]
      unfold costAll
      omega
theorem prs_depth (ps : List Prt) : (PyData.list (ps.map prD)).depth ≤ 60 := by
  have all : ∀ l : List Prt, PyData.depthAll (l.map prD) ≤ 4 := fun l => by
    induction l with
    | nil => simp [PyData.depthAll]
    | cons p l ih =>
      rw [List.map_cons]
      simp only [PyData.depthAll, prD, PyData.depth] at *
      omega
  have z := all ps
  simp only [PyData.depth]
  omega
def rnsD (rs : List Rn) : PyData := .tuple (rs.map rnD)
theorem rns_nice {rs : List Rn} (h : rs.length ≤ 100000) : Nice 2 (rnsD rs) := by
  refine Or.inr ⟨_, Or.inr rfl, by rw [List.length_map]; exact h, fun e he => ?_⟩
  obtain ⟨r, _, rfl⟩ := List.mem_map.mp he
  refine Or.inr ⟨_, Or.inr rfl, (show 3 ≤ 100000 by decide), fun e he => ?_⟩
  rcases List.mem_cons.mp he with rfl | he
  · exact Nice.flat rfl
  rcases List.mem_cons.mp he with rfl | he
  · exact Nice.flat rfl
  rcases List.mem_cons.mp he with rfl | he
  · exact Nice.flat rfl
  · exact nomatch he
theorem runsOf_len (rs : List Rn) : (runsOf rs).length ≤ rs.length := by
  unfold runsOf
  have z := merge_len (rs.mergeSort rnLe)
  rw [List.length_mergeSort] at z
  exact z
theorem prd_dp {K : PySem.W.Frag} {H : Hp} {t : Addr} {qs : List Addr} {rs : List Rn} (h : H t = some (.tup (qs.map V.ref))) (hq : Prd H qs rs) : Dp K H (.ref t) (rnsD rs) := .tup (SqT.of h) (Prd.dp hq)
def intsD (ns : List Int) : PyData := .tuple (ns.map .int)
theorem ints_dp {K : PySem.W.Frag} {H : Hp} {t : Addr} {ns : List Int} (h : H t = some (.tup (ns.map V.int))) : Dp K H (.ref t) (intsD ns) := by
  refine .tup (SqT.of h) ?_
  clear h
  induction ns with
  | nil => exact .nil
  | cons n ns ih => exact .cons (.int n) ih
theorem ints_nice {ns : List Int} (h : ns.length ≤ 100000) : Nice 2 (intsD ns) := by
  refine Or.inr ⟨_, Or.inr rfl, by rw [List.length_map]; exact h, fun e he => ?_⟩
  obtain ⟨r, _, rfl⟩ := List.mem_map.mp he
  exact Nice.flat rfl
def spLaw (K : PySem.W.Frag) : Sp := fun vs H Q _ => ∃ (a : Addr) (ns : List Int), vs = [.ref a] ∧ SqL K H a (ns.map V.int) ∧ ∀ H', Q (.bl true) H'
/-! ### The one writing of a set of notes -/
def sl (a b : Str) : Prop := a.cps.toList < b.cps.toList
theorem sl_irr (a : Str) : ¬ sl a a := List.lt_irrefl _
theorem sl_tr {a b c : Str} (h : sl a b) (k : sl b c) : sl a c := List.lt_trans h k
theorem sl_as {a b : Str} (h : sl a b) (k : sl b a) : False := sl_irr a (sl_tr h k)
theorem sl_tot (a b : Str) : sl a b ∨ a = b ∨ sl b a := by
  by_cases h1 : sl a b
  · exact .inl h1
  by_cases h2 : sl b a
  · exact .inr (.inr h2)
  refine .inr (.inl ?_)
  have e : a.cps.toList = b.cps.toList := List.le_antisymm (List.not_lt.mp h2) (List.not_lt.mp h1)
  cases a
  cases b
  exact congrArg Str.mk (Array.toList_inj.mp e)
def has (rs : List Rn) (s : Str) (n : Int) : Prop := ∃ r ∈ rs, r.1 = s ∧ r.2.1 ≤ n ∧ n < r.2.2
def Full (rs : List Rn) : Prop := ∀ r ∈ rs, r.2.1 < r.2.2
def Canon (rs : List Rn) : Prop := rs.Pairwise (fun a b => apart a b = true) ∧ Full rs
theorem apart_iff (a b : Rn) : apart a b = true ↔ (a.1 = b.1 ∧ a.2.2 < b.2.1) ∨ sl a.1 b.1 := by
  unfold apart
  by_cases e : a.1 = b.1
  · rw [if_pos e, decide_eq_true_eq]
    refine ⟨fun h => .inl ⟨e, h⟩, ?_⟩
    rintro (h | h)
    · exact h.2
    · rw [e] at h
      exact (sl_irr _ h).elim
  · rw [if_neg e, decide_eq_true_eq]
    refine ⟨.inr, ?_⟩
    rintro (h | h)
    · exact absurd h.1 e
    · exact h
theorem apart_tr {a b c : Rn} (h : apart a b = true) (f : b.2.1 < b.2.2) (k : apart b c = true) : apart a c = true := by
  rw [apart_iff] at *
  rcases h with ⟨h1, h2⟩ | h <;> rcases k with ⟨k1, k2⟩ | k
  · exact .inl ⟨h1.trans k1, by omega⟩
  · exact .inr (h1 ▸ k)
  · exact .inr (k1 ▸ h)
  · exact .inr (sl_tr h k)
theorem has_cons (x : Rn) (rs : List Rn) (s : Str) (n : Int) : has (x :: rs) s n ↔ (x.1 = s ∧ x.2.1 ≤ n ∧ n < x.2.2) ∨ has rs s n := by
  unfold has
  constructor
  · rintro ⟨r, h, k⟩
    rcases List.mem_cons.mp h with rfl | h
    · exact .inl k
    · exact .inr ⟨r, h, k⟩
  · rintro (k | ⟨r, h, k⟩)
    · exact ⟨x, List.mem_cons_self, k⟩
    · exact ⟨r, List.mem_cons_of_mem _ h, k⟩
theorem has_nil (s : Str) (n : Int) : ¬ has [] s n := fun ⟨_, h, _⟩ => nomatch h
theorem has_app (a b : List Rn) (s : Str) (n : Int) : has (a ++ b) s n ↔ has a s n ∨ has b s n := by
  unfold has
  constructor
  · rintro ⟨r, h, k⟩
    rcases List.mem_append.mp h with h | h
    · exact .inl ⟨r, h, k⟩
    · exact .inr ⟨r, h, k⟩
  · rintro (⟨r, h, k⟩ | ⟨r, h, k⟩)
    · exact ⟨r, List.mem_append_left _ h, k⟩
    · exact ⟨r, List.mem_append_right _ h, k⟩
/-- all notes behind the first run -/
theorem canon_first {x : Rn} {rs : List Rn} (h : Canon (x :: rs)) {s : Str} {n : Int} (k : has rs s n) : (x.1 = s ∧ x.2.2 < n) ∨ sl x.1 s := by
  obtain ⟨r, hr, rfl, k1, k2⟩ := k
  rcases (apart_iff x r).mp ((List.pairwise_cons.mp h.1).1 r hr) with ⟨e, l⟩ | l
  · exact .inl ⟨e, by omega⟩
  · exact .inr l
theorem Canon.tail {x : Rn} {rs : List Rn} (h : Canon (x :: rs)) : Canon rs := ⟨(List.pairwise_cons.mp h.1).2, fun r hr => h.2 r (List.mem_cons_of_mem _ hr)⟩
theorem canon_uniq : ∀ {a b : List Rn}, Canon a → Canon b → (∀ s n, has a s n ↔ has b s n) → a = b
  | [], [], _, _, _ => rfl
  | [], y :: b, _, hb, h => by
    have z := (h y.1 y.2.1).mpr ⟨y, List.mem_cons_self, rfl, Int.le_refl _, hb.2 y List.mem_cons_self⟩
    exact (has_nil _ _ z).elim
  | x :: a, [], ha, _, h => by
    have z := (h x.1 x.2.1).mp ⟨x, List.mem_cons_self, rfl, Int.le_refl _, ha.2 x List.mem_cons_self⟩
    exact (has_nil _ _ z).elim
  | x :: a, y :: b, ha, hb, h => by
    have fx := ha.2 x List.mem_cons_self
    have fy := hb.2 y List.mem_cons_self
    have lo : ∀ {x y : Rn} {a b : List Rn}, Canon (x :: a) → Canon (y :: b) → (∀ s n, has (x :: a) s n → has (y :: b) s n) → (y.1 = x.1 ∧ y.2.1 ≤ x.2.1) ∨ sl y.1 x.1 := fun {x y a b} ha hb h => by
      have fy := hb.2 y List.mem_cons_self
      rcases (has_cons _ _ _ _).mp (h x.1 x.2.1 ⟨x, List.mem_cons_self, rfl, Int.le_refl _, ha.2 x List.mem_cons_self⟩) with ⟨e, k, _⟩ | k
      · exact .inl ⟨e, k⟩
      · rcases canon_first hb k with ⟨e, k⟩ | k
        · exact .inl ⟨e, by omega⟩
        · exact .inr k
    have l1 := lo ha hb fun s n => (h s n).mp
    have l2 := lo hb ha fun s n => (h s n).mpr
    have e1 : x.1 = y.1 ∧ x.2.1 = y.2.1 := by
      rcases l1 with ⟨e, k⟩ | k <;> rcases l2 with ⟨e', k'⟩ | k'
      · exact ⟨e', by omega⟩
      · exact (sl_irr _ (e ▸ k')).elim
      · exact (sl_irr _ (e' ▸ k)).elim
      · exact (sl_as k k').elim
    have hi : ∀ {x y : Rn} {a b : List Rn}, Canon (x :: a) → Canon (y :: b) → x.1 = y.1 → x.2.1 = y.2.1 → (∀ s n, has (y :: b) s n → has (x :: a) s n) → ¬ x.2.2 < y.2.2 := fun {x y a b} ha hb e1 e2 h lt => by
      have fx := ha.2 x List.mem_cons_self
      rcases (has_cons _ _ _ _).mp (h x.1 x.2.2 ⟨y, List.mem_cons_self, e1.symm, by omega, lt⟩) with ⟨_, _, k⟩ | k
      · omega
      · rcases canon_first ha k with ⟨_, k⟩ | k
        · omega
        · exact sl_irr _ k
    have h1 := hi ha hb e1.1 e1.2 fun s n => (h s n).mpr
    have h2 := hi hb ha e1.1.symm e1.2.symm fun s n => (h s n).mp
    have e : x = y := Prod.ext e1.1 (Prod.ext e1.2 (by omega))
    subst e
    have off : ∀ {l : List Rn}, Canon (x :: l) → ∀ s n, has l s n → ¬ (x.1 = s ∧ x.2.1 ≤ n ∧ n < x.2.2) := fun {l} hl s n k z => by
      rcases canon_first hl k with ⟨_, k⟩ | k
      · omega
      · exact sl_irr _ (z.1 ▸ k)
    refine congrArg (x :: ·) (canon_uniq ha.tail hb.tail fun s n => ⟨fun k => ?_, fun k => ?_⟩)
    · rcases (has_cons _ _ _ _).mp ((h s n).mp ((has_cons _ _ _ _).mpr (.inr k))) with z | z
      · exact (off ha s n k z).elim
      · exact z
    · rcases (has_cons _ _ _ _).mp ((h s n).mpr ((has_cons _ _ _ _).mpr (.inr k))) with z | z
      · exact (off hb s n k z).elim
      · exact z
/-- not ahead of -/
def Wk (a b : Rn) : Prop := (a.1 = b.1 ∧ a.2.1 ≤ b.2.1) ∨ sl a.1 b.1
theorem push_ok {acc : List Rn} {r : Rn} (ha : Canon acc) (hw : ∀ x, acc.getLast? = some x → Wk x r) (f : r.2.1 < r.2.2) :
    Canon (push acc r) ∧ (∀ s n, has (push acc r) s n ↔ has acc s n ∨ (r.1 = s ∧ r.2.1 ≤ n ∧ n < r.2.2)) ∧ ∀ x, (push acc r).getLast? = some x → x.1 = r.1 ∧ x.2.1 ≤ r.2.1 := by
  rcases nil_or_snoc acc with rfl | ⟨i, l, rfl⟩
  · refine ⟨⟨List.pairwise_singleton _ _, fun x hx => ?_⟩, fun s n => ?_, fun x hx => ?_⟩
    · rw [List.mem_singleton.mp hx]
      exact f
    · show has [r] s n ↔ _
      rw [has_cons]
      exact Or.comm
    · cases (Option.some.inj hx)
      exact ⟨rfl, Int.le_refl _⟩
  have w := hw l List.getLast?_concat
  obtain ⟨p1, p2, p3⟩ := List.pairwise_append.mp ha.1
  have fl := ha.2 l (List.mem_append_right _ List.mem_cons_self)
  rw [push_snoc]
  by_cases ap : apart l r = true
  · rw [if_pos ap]
    refine ⟨⟨List.pairwise_append.mpr ⟨ha.1, List.pairwise_singleton _ _, fun x hx y hy => ?_⟩, fun x hx => ?_⟩, fun s n => ?_, fun x hx => ?_⟩
    · rw [List.mem_singleton.mp hy]
      rcases List.mem_append.mp hx with hx | hx
      · exact apart_tr (p3 x hx l List.mem_cons_self) fl ap
      · rw [List.mem_singleton.mp hx]
        exact ap
    · rcases List.mem_append.mp hx with hx | hx
      · exact ha.2 x hx
      · rw [List.mem_singleton.mp hx]
        exact f
    · rw [has_app, has_cons]
      simp only [has_nil, or_false]
    · rw [List.getLast?_concat] at hx
      cases (Option.some.inj hx)
      exact ⟨rfl, Int.le_refl _⟩
  · rw [if_neg ap]
    have na : ¬ ((l.1 = r.1 ∧ l.2.2 < r.2.1) ∨ sl l.1 r.1) := fun z => ap ((apart_iff l r).mpr z)
    have w1 : l.1 = r.1 ∧ l.2.1 ≤ r.2.1 := w.resolve_right fun z => na (.inr z)
    have w2 : r.2.1 ≤ l.2.2 := Int.not_lt.mp fun z => na (.inl ⟨w1.1, z⟩)
    generalize hm : (if r.2.2 > l.2.2 then r.2.2 else l.2.2) = m
    have m1 : m = r.2.2 ∧ l.2.2 < r.2.2 ∨ m = l.2.2 ∧ r.2.2 ≤ l.2.2 := by
      split at hm <;> omega
    refine ⟨⟨List.pairwise_append.mpr ⟨p1, List.pairwise_singleton _ _, fun x hx y hy => ?_⟩, fun x hx => ?_⟩, fun s n => ?_, fun x hx => ?_⟩
    · rw [List.mem_singleton.mp hy]
      have z := p3 x hx l List.mem_cons_self
      rw [apart_iff] at z ⊢
      exact z
    · rcases List.mem_append.mp hx with hx | hx
      · exact ha.2 x (List.mem_append_left _ hx)
      · rw [List.mem_singleton.mp hx]
        show l.2.1 < m
        omega
    · rw [has_app, has_app, has_cons, has_cons]
      simp only [has_nil, or_false]
      rw [or_assoc]
      refine or_congr Iff.rfl ⟨fun ⟨h1, h2, h3⟩ => ?_, ?_⟩
      · by_cases c : n < l.2.2
        · exact .inl ⟨h1, h2, c⟩
        · exact .inr ⟨w1.1 ▸ h1, by omega, by omega⟩
      · rintro (⟨h1, h2, h3⟩ | ⟨h1, h2, h3⟩)
        · exact ⟨h1, h2, show n < m by omega⟩
        · exact ⟨w1.1.trans h1, show l.2.1 ≤ n by omega, show n < m by omega⟩
    · rw [List.getLast?_concat] at hx
      cases (Option.some.inj hx)
      exact w1
theorem fold_ok : ∀ (l acc : List Rn), Canon acc → (∀ x, acc.getLast? = some x → ∀ r ∈ l, Wk x r) → l.Pairwise Wk → Full l →
    Canon (l.foldl push acc) ∧ ∀ s n, has (l.foldl push acc) s n ↔ has acc s n ∨ has l s n
  | [], acc, ha, _, _, _ => ⟨ha, fun s n => by simp only [List.foldl_nil, has_nil, or_false]⟩
  | r :: l, acc, ha, hw, hp, hf => by
    obtain ⟨q1, q2⟩ := List.pairwise_cons.mp hp
    obtain ⟨z1, z2, z3⟩ := push_ok ha (fun x hx => hw x hx r List.mem_cons_self) (hf r List.mem_cons_self)
    obtain ⟨y1, y2⟩ := fold_ok l (push acc r) z1 (fun x hx u hu => by
      obtain ⟨e, k⟩ := z3 x hx
      rcases q1 u hu with ⟨e', k'⟩ | k'
      · exact .inl ⟨e.trans e', by omega⟩
      · exact .inr (e ▸ k')) q2 fun x hx => hf x (List.mem_cons_of_mem _ hx)
    refine ⟨y1, fun s n => ?_⟩
    rw [List.foldl_cons, y2, z2, has_cons, or_assoc]
theorem canon_nil : Canon [] := ⟨List.Pairwise.nil, fun _ h => nomatch h⟩
theorem merge_ok {l : List Rn} (hp : l.Pairwise Wk) (hf : Full l) : Canon (merge l) ∧ ∀ s n, has (merge l) s n ↔ has l s n := by
  obtain ⟨y1, y2⟩ := fold_ok l [] canon_nil (fun x hx => nomatch hx) hp hf
  refine ⟨y1, fun s n => (y2 s n).trans ?_⟩
  simp only [has_nil, false_or]
theorem rnLe_iff (a b : Rn) : rnLe a b = true ↔ sl a.1 b.1 ∨ (a.1 = b.1 ∧ (a.2.1 < b.2.1 ∨ (a.2.1 = b.2.1 ∧ a.2.2 ≤ b.2.2))) := by
  have e : rnLe a b = !PySem.W.dataLt (rnD b) (rnD a) := rfl
  rw [e, rn_lt, Bool.not_eq_true', decide_eq_false_iff_not]
  constructor
  · intro h
    rcases sl_tot a.1 b.1 with k | k | k
    · exact .inl k
    · refine .inr ⟨k, ?_⟩
      by_cases c : a.2.1 < b.2.1
      · exact .inl c
      · refine .inr ⟨?_, ?_⟩
        · by_cases d : b.2.1 < a.2.1
          · exact (h (.inr ⟨k.symm, .inl d⟩)).elim
          · omega
        · by_cases d : b.2.2 < a.2.2
          · by_cases d2 : b.2.1 < a.2.1
            · exact (h (.inr ⟨k.symm, .inl d2⟩)).elim
            · exact (h (.inr ⟨k.symm, .inr ⟨by omega, d⟩⟩)).elim
          · omega
    · exact (h (.inl k)).elim
  · rintro (k | ⟨e, k⟩) (h | ⟨e', h⟩)
    · exact sl_as k h
    · rw [e'] at k
      exact sl_irr _ k
    · have h : sl b.1 a.1 := h
      rw [e] at h
      exact sl_irr _ h
    · omega
theorem sort_Wk (rs : List Rn) : (rs.mergeSort rnLe).Pairwise Wk := by
  have z := List.pairwise_mergeSort (le := rnLe) (fun a b c h1 h2 => ?_) (fun a b => ?_) rs
  · refine z.imp fun {a b} h => ?_
    rcases (rnLe_iff a b).mp h with k | ⟨e, k⟩
    · exact .inr k
    · exact .inl ⟨e, by omega⟩
  · rw [rnLe_iff] at *
    rcases h1 with k | ⟨e, k⟩ <;> rcases h2 with k' | ⟨e', k'⟩
    · exact .inl (sl_tr k k')
    · exact .inl (e' ▸ k)
    · exact .inl (e ▸ k')
    · exact .inr ⟨e.trans e', by omega⟩
  · rw [Bool.or_eq_true, rnLe_iff, rnLe_iff]
    rcases sl_tot a.1 b.1 with k | k | k
    · exact .inl (.inl k)
    · by_cases c : a.2.1 < b.2.1 ∨ a.2.1 = b.2.1 ∧ a.2.2 ≤ b.2.2
      · exact .inl (.inr ⟨k, c⟩)
      · exact .inr (.inr ⟨k.symm, by omega⟩)
    · exact .inr (.inl k)
theorem has_perm {a b : List Rn} (h : ∀ r, r ∈ a ↔ r ∈ b) (s : Str) (n : Int) : has a s n ↔ has b s n :=
  ⟨fun ⟨r, h1, h2⟩ => ⟨r, (h r).mp h1, h2⟩, fun ⟨r, h1, h2⟩ => ⟨r, (h r).mpr h1, h2⟩⟩
theorem runsOf_ok {rs : List Rn} (hf : Full rs) : Canon (runsOf rs) ∧ ∀ s n, has (runsOf rs) s n ↔ has rs s n := by
  obtain ⟨y1, y2⟩ := merge_ok (sort_Wk rs) fun r hr => hf r (List.mem_mergeSort.mp hr)
  exact ⟨y1, fun s n => (y2 s n).trans (has_perm (fun r => List.mem_mergeSort) s n)⟩
theorem runsOf_eq {rs c : List Rn} (hf : Full rs) (hc : Canon c) (h : ∀ s n, has c s n ↔ has rs s n) : runsOf rs = c := by
  obtain ⟨y1, y2⟩ := runsOf_ok hf
  exact canon_uniq y1 hc fun s n => (y2 s n).trans (h s n).symm
/-! pieces joined, as the laws do it -/
def join (acc : List Rn) (r : Rn) : List Rn := match acc.getLast? with
  | none => [r]
  | some l => if l.1 = r.1 ∧ l.2.2 = r.2.1 then acc.dropLast ++ [(r.1, l.2.1, r.2.2)] else acc ++ [r]
theorem join_snoc (acc : List Rn) (l r : Rn) : join (acc ++ [l]) r = if l.1 = r.1 ∧ l.2.2 = r.2.1 then acc ++ [(r.1, l.2.1, r.2.2)] else acc ++ [l] ++ [r] := by
  unfold join
  rw [List.getLast?_concat]
  simp only [List.dropLast_concat]
/-- one behind the other, touching perhaps -/
def Vk (a b : Rn) : Prop := (a.1 = b.1 ∧ a.2.2 ≤ b.2.1) ∨ sl a.1 b.1
theorem join_push {acc : List Rn} {r : Rn} (hw : ∀ x, acc.getLast? = some x → Vk x r) (f : r.2.1 < r.2.2) : join acc r = push acc r ∧ ∀ x, (push acc r).getLast? = some x → x.1 = r.1 ∧ x.2.2 = r.2.2 := by
  rcases nil_or_snoc acc with rfl | ⟨i, l, rfl⟩
  · refine ⟨rfl, fun x hx => ?_⟩
    cases (Option.some.inj hx)
    exact ⟨rfl, rfl⟩
  have w := hw l List.getLast?_concat
  rw [join_snoc, push_snoc]
  by_cases c : l.1 = r.1 ∧ l.2.2 = r.2.1
  · have ap : ¬ apart l r = true := fun z => by
      rcases (apart_iff l r).mp z with ⟨_, z⟩ | z
      · omega
      · exact sl_irr _ (c.1 ▸ z)
    rw [if_pos c, if_neg ap, if_pos (by omega), c.1]
    refine ⟨rfl, fun x hx => ?_⟩
    rw [List.getLast?_concat] at hx
    cases (Option.some.inj hx)
    exact ⟨rfl, rfl⟩
  · have ap : apart l r = true := by
      rw [apart_iff]
      rcases w with ⟨e, k⟩ | k
      · exact .inl ⟨e, by have : l.2.2 ≠ r.2.1 := fun z => c ⟨e, z⟩; omega⟩
      · exact .inr k
    rw [if_neg c, if_pos ap]
    refine ⟨rfl, fun x hx => ?_⟩
    rw [List.getLast?_concat] at hx
    cases (Option.some.inj hx)
    exact ⟨rfl, rfl⟩
theorem fold_join : ∀ (l acc : List Rn), (∀ x, acc.getLast? = some x → ∀ r ∈ l, Vk x r) → l.Pairwise Vk → Full l → l.foldl join acc = l.foldl push acc
  | [], _, _, _, _ => rfl
  | r :: l, acc, hw, hp, hf => by
    obtain ⟨q1, q2⟩ := List.pairwise_cons.mp hp
    obtain ⟨z1, z2⟩ := join_push (fun x hx => hw x hx r List.mem_cons_self) (hf r List.mem_cons_self)
    rw [List.foldl_cons, List.foldl_cons, z1]
    refine fold_join l _ (fun x hx u hu => ?_) q2 fun x hx => hf x (List.mem_cons_of_mem _ hx)
    obtain ⟨e, k⟩ := z2 x hx
    rcases q1 u hu with ⟨e', k'⟩ | k'
    · exact .inl ⟨e.trans e', by omega⟩
    · exact .inr (e ▸ k')
def pcs (cs : List Int) : List (Int × Int) := cs.zip cs.tail
theorem pcs_cons (x y : Int) (l : List Int) : pcs (x :: y :: l) = (x, y) :: pcs (y :: l) := rfl
theorem pcs_len (cs : List Int) : (pcs cs).length ≤ cs.length := by
  unfold pcs
  rw [List.length_zip]
  omega
theorem pcs_in : ∀ {cs : List Int} {p : Int × Int}, p ∈ pcs cs → p.1 ∈ cs ∧ p.2 ∈ cs
  | [], p, h => nomatch h
  | [x], p, h => nomatch h
  | x :: y :: l, p, h => by
    rw [pcs_cons] at h
    rcases List.mem_cons.mp h with rfl | h
    · exact ⟨List.mem_cons_self, List.mem_cons_of_mem _ List.mem_cons_self⟩
    · have z := pcs_in h
      exact ⟨List.mem_cons_of_mem _ z.1, List.mem_cons_of_mem _ z.2⟩
theorem pcs_up : ∀ {cs : List Int}, cs.Pairwise (· < ·) → (pcs cs).Pairwise (fun a b => a.2 ≤ b.1) ∧ ∀ p ∈ pcs cs, p.1 < p.2 ∧ ∀ c ∈ cs, c ≤ p.1 ∨ p.2 ≤ c
  | [], _ => ⟨.nil, fun _ h => nomatch h⟩
  | [x], _ => ⟨.nil, fun _ h => nomatch h⟩
  | x :: y :: l, h => by
    obtain ⟨h1, h2⟩ := List.pairwise_cons.mp h
    obtain ⟨h3, h4⟩ := List.pairwise_cons.mp h2
    obtain ⟨i1, i2⟩ := pcs_up h2
    rw [pcs_cons]
    have le : ∀ c ∈ y :: l, y ≤ c := fun c hc => by
      rcases List.mem_cons.mp hc with rfl | hc
      · exact Int.le_refl _
      · have := h3 c hc
        omega
    refine ⟨List.pairwise_cons.mpr ⟨fun p hp => le _ (pcs_in hp).1, i1⟩, fun p hp => ?_⟩
    rcases List.mem_cons.mp hp with rfl | hp2
    · refine ⟨h1 y List.mem_cons_self, fun c hc => ?_⟩
      rcases List.mem_cons.mp hc with rfl | hc
      · exact .inl (Int.le_refl _)
      · exact .inr (le c hc)
    · obtain ⟨j1, j2⟩ := i2 p hp2
      refine ⟨j1, fun c hc => ?_⟩
      rcases List.mem_cons.mp hc with rfl | hc
      · have := h1 _ (pcs_in hp2).1
        exact .inl (by omega)
      · exact j2 c hc
theorem pcs_at : ∀ {cs : List Int} {a b n : Int}, cs.Pairwise (· < ·) → a ∈ cs → b ∈ cs → a ≤ n → n < b → ∃ p ∈ pcs cs, p.1 ≤ n ∧ n < p.2
  | [], _, _, _, _, h, _, _, _ => nomatch h
  | [x], a, b, n, _, h1, h2, h3, h4 => by
    rw [List.mem_singleton] at h1 h2
    omega
  | x :: y :: l, a, b, n, h, h1, h2, h3, h4 => by
    obtain ⟨g1, g2⟩ := List.pairwise_cons.mp h
    rw [pcs_cons]
    by_cases c : n < y
    · refine ⟨(x, y), List.mem_cons_self, ?_, c⟩
      rcases List.mem_cons.mp h1 with rfl | h1
      · exact h3
      · have := g1 a h1
        show x ≤ n
        omega
    · have hb : b ∈ y :: l := by
        rcases List.mem_cons.mp h2 with rfl | h2
        · have := g1 y List.mem_cons_self
          omega
        · exact h2
      obtain ⟨p, p1, p2⟩ := pcs_at (a := y) g2 List.mem_cons_self hb (by omega) h4
      exact ⟨p, List.mem_cons_of_mem _ p1, p2⟩
/-- the pieces of a series that are good -/
def goods (P : Str → Int → Bool) (s : Str) (ps : List (Int × Int)) : List Rn := (ps.filter fun p => P s p.1).map fun p => (s, p.1, p.2)
def mades (P : Str → Int → Bool) (ns : List Str) (cs : List Int) : List Rn := (ns.flatMap fun s => goods P s (pcs cs)).foldl join []
theorem goods_in {P : Str → Int → Bool} {s : Str} {ps : List (Int × Int)} {r : Rn} : r ∈ goods P s ps ↔ r.1 = s ∧ (r.2.1, r.2.2) ∈ ps ∧ P s r.2.1 = true := by
  unfold goods
  rw [List.mem_map]
  constructor
  · rintro ⟨p, h, rfl⟩
    obtain ⟨h1, h2⟩ := List.mem_filter.mp h
    exact ⟨rfl, h1, h2⟩
  · rintro ⟨h1, h2, h3⟩
    exact ⟨(r.2.1, r.2.2), List.mem_filter.mpr ⟨h2, h3⟩, Prod.ext h1.symm rfl⟩
/-- what is made is the one writing of the notes that P tells -/
theorem mades_ok {P : Str → Int → Bool} {ns : List Str} {cs : List Int} (hn : ns.Pairwise sl) (hc : cs.Pairwise (· < ·))
    (flat : ∀ s p n, p ∈ pcs cs → p.1 ≤ n → n < p.2 → P s n = P s p.1) (only : ∀ s n, P s n = true → s ∈ ns ∧ ∃ p ∈ pcs cs, p.1 ≤ n ∧ n < p.2) :
    Canon (mades P ns cs) ∧ ∀ s n, has (mades P ns cs) s n ↔ P s n = true := by
  obtain ⟨u1, u2⟩ := pcs_up hc
  have full : Full (ns.flatMap fun s => goods P s (pcs cs)) := fun r hr => by
    obtain ⟨s, _, h2⟩ := List.mem_flatMap.mp hr
    exact (u2 _ (goods_in.mp h2).2.1).1
  have pv : (ns.flatMap fun s => goods P s (pcs cs)).Pairwise Vk := by
    rw [List.pairwise_flatMap]
    refine ⟨fun s _ => ?_, hn.imp fun {s s'} h x hx y hy => ?_⟩
    · unfold goods
      rw [List.pairwise_map]
      exact (u1.filter _).imp fun h => .inl ⟨rfl, h⟩
    · refine .inr ?_
      rw [(goods_in.mp hx).1, (goods_in.mp hy).1]
      exact h
  have pw : (ns.flatMap fun s => goods P s (pcs cs)).Pairwise Wk := List.Pairwise.imp_of_mem (fun {a b} ha hb h => by
    rcases h with ⟨e, k⟩ | k
    · have := full a ha
      exact .inl ⟨e, by omega⟩
    · exact .inr k) pv
  obtain ⟨y1, y2⟩ := merge_ok pw full
  have e : mades P ns cs = merge (ns.flatMap fun s => goods P s (pcs cs)) := fold_join _ [] (fun x hx => nomatch hx) pv full
  rw [e]
  refine ⟨y1, fun s n => (y2 s n).trans ⟨?_, fun h => ?_⟩⟩
  · rintro ⟨r, hr, rfl, h1, h2⟩
    obtain ⟨s', _, g⟩ := List.mem_flatMap.mp hr
    obtain ⟨g1, g2, g3⟩ := goods_in.mp g
    subst g1
    rw [flat r.1 (r.2.1, r.2.2) n g2 h1 h2]
    exact g3
  · obtain ⟨h1, p, h2, h3, h4⟩ := only s n h
    refine ⟨(s, p.1, p.2), List.mem_flatMap.mpr ⟨s, h1, goods_in.mpr ⟨rfl, h2, ?_⟩⟩, rfl, h3, h4⟩
    rw [← flat s p n h2 h3 h4]
    exact h
def hasB (rs : List Rn) (s : Str) (n : Int) : Bool := rs.any fun r => decide (r.1 = s) && (decide (r.2.1 ≤ n) && decide (n < r.2.2))
theorem hasB_iff (rs : List Rn) (s : Str) (n : Int) : hasB rs s n = true ↔ has rs s n := by
  unfold hasB has
  rw [List.any_eq_true]
  simp only [Bool.and_eq_true, decide_eq_true_eq]
/-- ends and names of the runs are among those told -/
def Ends (rs : List Rn) (ns : List Str) (cs : List Int) : Prop := ∀ r ∈ rs, r.1 ∈ ns ∧ r.2.1 ∈ cs ∧ r.2.2 ∈ cs
theorem hasB_flat {rs : List Rn} {ns : List Str} {cs : List Int} (he : Ends rs ns cs) (hc : cs.Pairwise (· < ·)) {s : Str} {p : Int × Int} {n : Int} (hp : p ∈ pcs cs) (h1 : p.1 ≤ n) (h2 : n < p.2) : hasB rs s n = hasB rs s p.1 := by
  obtain ⟨u1, u2⟩ := pcs_up hc
  obtain ⟨v1, v2⟩ := u2 p hp
  rw [Bool.eq_iff_iff, hasB_iff, hasB_iff]
  constructor
  · rintro ⟨r, hr, e, k1, k2⟩
    have z1 := v2 _ (he r hr).2.1
    have z2 := v2 _ (he r hr).2.2
    exact ⟨r, hr, e, by omega, by omega⟩
  · rintro ⟨r, hr, e, k1, k2⟩
    have z1 := v2 _ (he r hr).2.1
    have z2 := v2 _ (he r hr).2.2
    exact ⟨r, hr, e, by omega, by omega⟩
theorem hasB_only {rs : List Rn} {ns : List Str} {cs : List Int} (he : Ends rs ns cs) (hc : cs.Pairwise (· < ·)) {s : Str} {n : Int} (h : hasB rs s n = true) : s ∈ ns ∧ ∃ p ∈ pcs cs, p.1 ≤ n ∧ n < p.2 := by
  obtain ⟨r, hr, rfl, k1, k2⟩ := (hasB_iff _ _ _).mp h
  obtain ⟨e1, e2, e3⟩ := he r hr
  exact ⟨e1, pcs_at hc e2 e3 k1 k2⟩
theorem mades_runs {rs : List Rn} {ns : List Str} {cs : List Int} (hf : Full rs) (he : Ends rs ns cs) (hn : ns.Pairwise sl) (hc : cs.Pairwise (· < ·)) : mades (hasB rs) ns cs = runsOf rs := by
  obtain ⟨y1, y2⟩ := mades_ok (P := hasB rs) hn hc (fun s p n h1 h2 h3 => hasB_flat he hc h1 h2 h3) (fun s n h => hasB_only he hc h)
  exact (runsOf_eq hf y1 fun s n => (y2 s n).trans (hasB_iff _ _ _)).symm
theorem runsOf_mems {a b : List Rn} (hf : Full a) (h : ∀ r, r ∈ a ↔ r ∈ b) : runsOf a = runsOf b := by
  have hb : Full b := fun r hr => hf r ((h r).mpr hr)
  obtain ⟨y1, y2⟩ := runsOf_ok hb
  exact runsOf_eq hf y1 fun s n => (y2 s n).trans (has_perm h s n).symm
theorem runsOf_again {a : List Rn} (hf : Full a) : runsOf (runsOf a) = runsOf a := by
  obtain ⟨y1, y2⟩ := runsOf_ok hf
  exact runsOf_eq y1.2 y1 fun s n => Iff.rfl
/-! ### sets of keys (ints, texts), however many: set(list), sorted of a set -/
def kx (e : Int × Value) : Key := match e.2 with
  | .int k _ => .inl k
  | .str x _ => .inr x
  | _ => .inl 0
def Gk (w : World) (e : Int × Value) : Prop := ∃ k, keyIs k e.2 = true ∧ e.1 = keyH w k
theorem kx_of {k : Key} {e : Int × Value} (h : keyIs k e.2 = true) : kx e = k := by
  rcases keyIs_shape h with ⟨i, t, rfl, q⟩ | ⟨x, t, rfl, q⟩ <;> (unfold kx; rw [q])
theorem kx_is {w : World} {e : Int × Value} (g : Gk w e) (k : Key) : keyIs k e.2 = true ↔ kx e = k := by
  refine ⟨kx_of, fun q => ?_⟩
  obtain ⟨k0, h1, _⟩ := g
  rw [kx_of h1] at q
  rw [← q]
  exact h1
/-- at a stands a set of n keys, just those that S tells -/
def SX (w : World) (h : Heap) (a : Addr) (S : Key → Prop) (n : Nat) : Prop := ∃ (o : Obj) (es : Array (Int × Value)) (ep : Nat) (t : SetTable),
  (h.get? a = some o ∧ o.ExactSet ∧ o.data = .set es ep t) ∧ ((∀ e ∈ es.toList, Gk w e) ∧ (es.toList.map kx).Nodup ∧ ∀ k, S k ↔ k ∈ es.toList.map kx) ∧
  (es.size < scanBound ∧ t.fits es.size = true ∧ es.size = n) ∧ Ris t.place.toList ∧ (w.params.followText "set-order" = true ∨ t.led = true)
section
variable {P : Program} {w : World} {A : Around} {E : Value → Shared → Prop} {s : Shared} {a : Addr} {S : Key → Prop} {n : Nat}
theorem SX.keep {h h' : Heap} (R : SX w h a S n) (k : ∀ o, h.get? a = some o → h'.get? a = some o) : SX w h' a S n := by
  obtain ⟨o, es, ep, t, ⟨h1, h2⟩, r⟩ := R
  exact ⟨o, es, ep, t, ⟨k o h1, h2⟩, r⟩
theorem SX.like {h : Heap} {S' : Key → Prop} (R : SX w h a S n) (k : ∀ j, S' j ↔ S j) : SX w h a S' n := by
  have e : S' = S := funext fun j => propext (k j)
  rw [e]
  exact R
theorem gk_all {l : List (Int × Value)} (g : ∀ e ∈ l, Gk w e) : ElemsOf (mixKind P w) l := fun e he => by
  obtain ⟨k, q1, q2⟩ := g e he
  refine ⟨⟨k, q1, q2⟩, ?_⟩
  rcases keyIs_shape q1 with ⟨i, t, _, q⟩ | ⟨x, t, _, q⟩ <;> (rw [q]; rfl)
theorem put_at {h : Heap} {o : Obj} {es es' : Array (Int × Value)} {ep : Nat} {t t' : SetTable} (q1 : h.get? a = some o) (q2 : o.data = .set es ep t) :
    (h.update a (Obj.putSet es' t')).get? a = some { o with data := .set es' (ep + 1) t' } := by
  have z := Heap.get?_update_self (Obj.putSet es' t') q1 (by rw [putSet_of es' t' q2]; rfl)
  exact z.trans (congrArg some (putSet_of es' t' q2))
theorem sx_lay {g : Bool → Sem Unit} (calm : ∀ (b : Bool) (s1 : Shared) (Z : Unit → Shared → Prop), Z () s1 → wpAny (model P w) A (g b) Z E s1)
    {o : Obj} {es fs : Array (Int × Value)} {ep : Nat} {t u : SetTable} {S' : Key → Prop} (q : s.heap.get? a = some o ∧ o.ExactSet ∧ o.data = .set es ep t)
    (keys : (∀ e ∈ fs.toList, Gk w e) ∧ (fs.toList.map kx).Nodup ∧ ∀ k, S' k ↔ k ∈ fs.toList.map kx) (few : fs.size < scanBound) (fit : u.fits fs.size = true) (up : Ris u.place.toList)
    (led : w.params.followText "set-order" = true ∨ u.led = true) {dm : Bool} {Z : Option Bool → Shared → Prop}
    (fin : ∀ h', Heap.SameBut a s.heap h' → SX w h' a S' fs.size → Z (some true) { s with heap := h' }) :
    wpAny (model P w) A (do
      storeSet a fs u
      if (!dm && u.tooFull) = true then do
          g (relayAll u fs (SetTable.grown fs.size)).2.2
          storeSet a (relayAll u fs (SetTable.grown fs.size)).1 (relayAll u fs (SetTable.grown fs.size)).2.1
          pure (some true)
        else pure (some true)) Z E s := by
  obtain ⟨q1, q2, q3⟩ := q
  obtain ⟨k1, k2, k3⟩ := keys
  refine wpAny_bind (wpAny_storeSet_of q1 q3 ?_ (fits_of_scanBound few))
  have at1 := put_at (es' := fs) (t' := u) q1 q3
  have b1 := Heap.SameBut.update s.heap a (Obj.putSet fs u)
  split
  · have p1 := relayAll_perm u fs (SetTable.grown fs.size)
    have p2 := relayAll_fits u fs (SetTable.grown fs.size)
    have p3 := relayAll_ris u fs (SetTable.grown fs.size)
    have p4 := relayAll_led u fs (SetTable.grown fs.size)
    generalize relayAll u fs (SetTable.grown fs.size) = L at p1 p2 p3 p4 ⊢
    obtain ⟨gs, v, gave⟩ := L
    dsimp only at p1 p2 p3 p4 ⊢
    have size : gs.size = fs.size := by rw [← Array.length_toList, p1.length_eq, Array.length_toList]
    have few2 : gs.size < scanBound := by omega
    refine wpAny_bind (calm _ _ _ ?_)
    refine wpAny_bind (wpAny_storeSet_of at1 rfl ?_ (fits_of_scanBound few2))
    have at2 := put_at (es' := gs) (t' := v) at1 rfl
    refine wpAny_pure (fin _ (b1.trans (Heap.SameBut.update _ a _)) ⟨_, gs, _, v, ⟨at2, q2, rfl⟩, ⟨fun e he => k1 e (p1.mem_iff.mp he), (p1.map kx).nodup_iff.mpr k2, fun k => (k3 k).trans (p1.map kx).mem_iff.symm⟩, ⟨few2, p2, size⟩, p3, ?_⟩)
    exact led.imp _root_.id fun z => p4.trans z
  · exact wpAny_pure (fin _ b1 ⟨_, fs, _, u, ⟨at1, q2, rfl⟩, ⟨k1, k2, k3⟩, ⟨few, fit, rfl⟩, up, led⟩)
theorem sx_add {k : Key} {v : Value} {Z : Bool → Shared → Prop} (R : SX w s.heap a S n) (room : n + 1 < scanBound) (hk : keyIs k v = true)
    (fin : ∀ h' m, Heap.SameBut a s.heap h' → m ≤ n + 1 → SX w h' a (fun j => S j ∨ j = k) m → ∀ b, Z b { s with heap := h' }) :
    wpAny (model P w) A (setAddHashed a v (keyH w k)) Z E s := by
  obtain ⟨o, es, ep, t, ⟨q1, q2, q3⟩, ⟨k1, k2, k3⟩, ⟨few, fit, size⟩, up, led⟩ := R
  have scan : v.scannable = true := by
    rcases keyIs_shape hk with ⟨i, t, _, rfl⟩ | ⟨x, t, _, rfl⟩ <;> rfl
  have all : ElemsOf (mixKind P w) es.toList := gk_all k1
  have is' : (mixKind P w).is k v = true := hk
  unfold setAddHashed setAddHashedIn
  refine wpAny_holding (wpAny_bind (wpAny_setState_of q1 q3 fit ?_))
  dsimp only
  rw [byScan_of scan few all]
  simp only [↓reduceIte]
  unfold setAddByScan
  refine wpAny_bind ?_
  refine wpAny_bind (wpAny_rule ?_)
  refine wpAny_bind (wpAny_setScan_of is' q1 q3 fit all ?_)
  have memb : ∀ j, j ∈ es.toList.map kx ↔ ∃ e ∈ es.toList, keyIs j e.2 = true := fun j => by
    rw [List.mem_map]
    exact ⟨fun ⟨e, h1, h2⟩ => ⟨e, h1, (kx_is (k1 e h1) j).mpr h2⟩, fun ⟨e, h1, h2⟩ => ⟨e, h1, (kx_is (k1 e h1) j).mp h2⟩⟩
  cases found : List.findIdx? (fun e => (mixKind P w).is k e.2) es.toList with
  | some j =>
    dsimp only
    obtain ⟨hj, pj, _⟩ := List.findIdx?_eq_some_iff_getElem.mp found
    have inS : S k := (k3 k).mpr ((memb k).mpr ⟨es.toList[j], List.getElem_mem hj, pj⟩)
    refine wpAny_pure (wpAny_pure ?_)
    exact fin s.heap n (Heap.SameBut.refl a s.heap) (Nat.le_succ _) ⟨o, es, ep, t, ⟨q1, q2, q3⟩, ⟨k1, k2, fun i => by rw [← k3 i]; exact ⟨fun z => z.elim _root_.id fun e => e ▸ inS, .inl⟩⟩, ⟨few, fit, size⟩, up, led⟩ _
  | none =>
    dsimp only
    have new : k ∉ es.toList.map kx := fun z => by
      obtain ⟨e, h1, h2⟩ := (memb k).mp z
      have c := List.findIdx?_eq_none_iff.mp found e h1
      have c : keyIs k e.2 = false := c
      rw [h2] at c
      cases c
    have way : ∀ (b : Bool) {s1 : Shared} {Y : Unit → Shared → Prop}, Y () s1 → wpAny (model P w) A (match b with | true => rule "set.scan.the-table-gave-way" | false => pure ()) Y E s1 := fun b s1 Y y => by
      cases b
      · exact wpAny_pure y
      · exact wpAny_rule y
    have p1 := layNew_perm t es (keyH w k) v
    have p2 := layNew_fits t es (keyH w k) v
    have p3 := layNew_ris t es (keyH w k) v up
    have p4 := layNew_led t es (keyH w k) v
    generalize layNew t es (keyH w k) v = L at p1 p2 p3 p4 ⊢
    obtain ⟨fs, u, dm, gave⟩ := L
    dsimp only at p1 p2 p3 p4 ⊢
    rw [Array.toList_push] at p1
    have pc : fs.toList.Perm ((keyH w k, v) :: es.toList) := p1.trans (List.perm_append_singleton _ _)
    have pk : (fs.toList.map kx).Perm (k :: es.toList.map kx) := by
      have z := pc.map kx
      rw [List.map_cons, kx_of (e := (keyH w k, v)) hk] at z
      exact z
    have keys : (∀ e ∈ fs.toList, Gk w e) ∧ (fs.toList.map kx).Nodup ∧ ∀ j, (S j ∨ j = k) ↔ j ∈ fs.toList.map kx := by
      refine ⟨fun e he => ?_, pk.nodup_iff.mpr (List.nodup_cons.mpr ⟨new, k2⟩), fun j => ?_⟩
      · rcases List.mem_cons.mp (pc.mem_iff.mp he) with z | z
        · rw [z]
          exact ⟨k, hk, rfl⟩
        · exact k1 e z
      · rw [k3 j, pk.mem_iff, List.mem_cons]
        exact Or.comm
    have size2 : fs.size = n + 1 := by rw [← Array.length_toList, pc.length_eq, List.length_cons, Array.length_toList, size]
    have few2 : fs.size < scanBound := by omega
    have led2 : w.params.followText "set-order" = true ∨ u.led = true := led.imp _root_.id fun z => p4.trans z
    have fin2 : ∀ h', Heap.SameBut a s.heap h' → SX w h' a (fun j => S j ∨ j = k) fs.size → ∀ b, Z b { s with heap := h' } := fun h' sb r => fin h' _ sb (Nat.le_of_eq size2) r
    refine wpAny_bind (way _ ?_)
    split
    · refine wpAny_bind ?_
      rw [hashByValue_scannable 8 scan]
      refine wpAny_pure ?_
      refine sx_lay ?_ ⟨q1, q2, q3⟩ keys few2 ?_ ?_ ?_ ?_
      · intro b s1 Y y
        cases b
        · exact wpAny_pure y
        · exact wpAny_rule y
      · first | (split <;> first | exact p2 | exact SetTable.fits_plain_off p2) | exact p2
      · first | (split <;> exact p3) | exact p3
      · first | (split <;> exact led2) | exact led2
      · intro h' sb r
        dsimp only
        exact wpAny_pure (fin2 h' sb r _)
    · refine wpAny_bind (wpAny_pure ?_)
      simp only [↓reduceIte]
      refine sx_lay ?_ ⟨q1, q2, q3⟩ keys few2 p2 p3 led2 ?_
      · intro b s1 Y y
        cases b
        · exact wpAny_pure y
        · exact wpAny_rule y
      · intro h' sb r
        dsimp only
        exact wpAny_pure (fin2 h' sb r _)
theorem sx_loop {I : Addr} {fp wr : List Addr} {G : Array GenState → Array GenState → Prop} {n : Nat} {Pv : Nat → Value → Prop} {St : Nat → Shared → Prop} {R : Result → Shared → Prop}
    (W : WalksS P w A.in1 I fp wr G n Pv St) (D : Addr) (hD : D ∉ fp) (ks : List Key) (hn : n = ks.length) (few : ks.length + 1 < scanBound) (are : ∀ i v, Pv i v → ∃ k, ks[i]? = some k ∧ keyIs k v = true) :
    ∀ (m i : Nat) (s : Shared), n - i = m → i ≤ n → St i s → (∃ c, c ≤ i ∧ SX w s.heap D (fun j => j ∈ ks.take i) c) →
      (∀ s' c, Moved (D :: wr) G s s' → c ≤ n → SX w s'.heap D (fun j => j ∈ ks) c → R (.ok (.ret .none)) s') →
      codeAny (model P w) A (.builtin "set.update.loop" ⟨[.ref D, .ref I], []⟩) R s := by
  have notw : D ∉ wr := fun z => hD (W.sub _ z)
  have more : ∀ b ∈ wr, b ∈ D :: wr := fun b hb => List.mem_cons_of_mem _ hb
  intro m
  induction m with
  | zero =>
    intro i s e1 e2 st ⟨c, hc, hS⟩ fin
    obtain rfl : i = n := by omega
    refine codeAny_builtin F.entry_set_update_loop ?_
    rw [Around.under_plainId F.plain_set_update_loop _]
    show wpAny _ A.in1 (pyNext (.ref I) >>= _) _ _ s
    refine wpAny_bind (W.done s _ _ st fun s2 mv => ?_)
    show wpAny _ A.in1 (ret Value.none) _ _ s2
    rw [List.take_of_length_le (l := ks) (i := i) (by omega)] at hS
    exact wpAny_pure (fin s2 c (mv.mono more) hc (hS.keep fun o e => mv.heap D o notw e))
  | succ m ih =>
    intro i s e1 e2 st ⟨c, hc, hS⟩ fin
    have lt : i < n := by omega
    refine codeAny_builtin F.entry_set_update_loop ?_
    rw [Around.under_plainId F.plain_set_update_loop _]
    show wpAny _ A.in1 (pyNext (.ref I) >>= _) _ _ s
    refine wpAny_bind (W.item i s _ _ lt st fun v s2 pv st2 mv => ?_)
    obtain ⟨k, hk, isk⟩ := are i v pv
    have hS2 := hS.keep fun o e => mv.heap D o notw e
    show wpAny _ A.in1 (holding [v] (setAdd D v) >>= _) _ _ s2
    refine wpAny_bind (wpAny_holding ?_)
    unfold setAdd
    refine wpAny_holding ?_
    refine wpAny_bind ((mixKind P w).pyHash (k := k) isk ?_)
    refine sx_add (s := { s2 with toks := s2.toks + 1 }) hS2 (by omega) isk fun h' m2 sb hm hS3 b => ?_
    have hS4 : SX w h' D (fun j => j ∈ ks.take (i + 1)) m2 := hS3.like fun j => by
      rw [List.take_add_one, hk, List.mem_append]
      simp
    refine wpAny_pure ⟨plainId_quiet F.plain_set_update_loop _, ih (i + 1) _ (by omega) lt (W.frame _ s2 _ _ st2 (Nat.le_succ _) fun b hb o e => ?_) ⟨_, (show m2 ≤ i + 1 by omega), hS4⟩ fun s3 c3 mv3 hc3 hS5 => ?_⟩
    · rw [sb.2 b (fun z : b = D => hD (z ▸ hb))]
      exact e
    · refine fin s3 c3 (Moved.trans W.gtrans ((mv.mono more).then_heap (Nat.le_succ _) fun b o hb e => ?_) mv3) hc3 hS5
      rw [sb.2 b (fun z : b = D => hb (by rw [z]; exact List.mem_cons_self))]
      exact e
theorem sx_new {h : Heap} {ks : List Key} (q : h.get? a = some { cls := .type "set", dict := none, data := .set #[] 0 (.fresh 0 0 (!w.params.followText "set-order")) }) : SX w h a (fun j => j ∈ ks.take 0) 0 := by
  refine ⟨_, #[], 0, _, ⟨q, ⟨rfl, rfl, rfl⟩, rfl⟩, ⟨fun e he => by simp at he, by simp, fun k => by simp⟩, ⟨by decide, by rfl, rfl⟩, List.Pairwise.nil, ?_⟩
  show _ ∨ (!w.params.followText "set-order") = true
  cases w.params.followText "set-order"
  · exact .inr rfl
  · exact .inl rfl
set_option maxHeartbeats 3200000 in
theorem sx_call {l : Addr} {items : Array Value} (ks : List Key) {Q : Value → Shared → Prop} (hh : A.handled = none) (hl : s.heap.IsList l items) (len : items.size = ks.length) (are : ∀ (i : Nat) (v : Value), items[i]? = some v → ∃ k, ks[i]? = some k ∧ keyIs k v = true) (few : ks.length + 1 < scanBound)
    (fin : ∀ (h' : Heap) (tk c : Nat), SX w h' s.heap.objs.size (fun j => j ∈ ks) c → c ≤ ks.length → (∀ b o, s.heap.get? b = some o → h'.get? b = some o) → Q (.ref s.heap.objs.size) { s with heap := h', toks := tk }) :
    wpAny (model P w) A (call (.type "set") [.ref l]) Q E s := by
  obtain ⟨c, tl, m1⟩ := F.called_set.mro
  have m2 := F.called_set.made
  have m3 := F.called_set.sub
  refine wpAny_call (codeAny_of_tree ?_)
  show wpAny _ _ (callAny (.type "set") _) _ _ _
  refine wpAny_pure ⟨Code.quiet_builtin _ (by decide +kernel), codeAny_builtin F.entry_type_call ?_⟩
  rw [Around.under_plain (weight_type_call_type "set" [.ref l] []) rfl]
  have m4 := F.called_set.notType
  have m5 := F.called_set.canCreate
  have m6 := F.typeCall_set_1 (.ref l)
  repeat (any_goals (first | assumption | wp_step))
  refine codeAny_mono (code_set_led1 (.ref l) (E := E) (Q₁ := fun obj s1 => obj = .ref s.heap.objs.size ∧ s1 = { s with heap := s.heap.push { cls := .type "set", dict := none, data := .set #[] 0 (.fresh 0 0 (!w.params.followText "set-order")) } }) ⟨rfl, rfl⟩) fun r s1 hr => ?_
  cases r with
  | error e => exact hr
  | ok fl =>
    cases fl with
    | ret obj =>
      obtain ⟨rfl, rfl⟩ := hr
      have atS : (s.heap.push { cls := .type "set", dict := none, data := .set #[] 0 (.fresh 0 0 (!w.params.followText "set-order")) }).get? s.heap.objs.size = some { cls := .type "set", dict := none, data := .set #[] 0 (.fresh 0 0 (!w.params.followText "set-order")) } := Heap.get?_push_size _ rfl
      have tyS : Shared.TypeIs { s with heap := s.heap.push { cls := .type "set", dict := none, data := .set #[] 0 (.fresh 0 0 (!w.params.followText "set-order")) } } (.ref s.heap.objs.size) "set" := ⟨_, atS, rfl⟩
      have m7 := F.called_set.init.lookup
      have m8 := F.called_set.init.bind (.ref s.heap.objs.size)
      repeat (any_goals (first | assumption | wp_step))
      refine codeAny_mono (codeAny_call_builtin (R := wants (fun r s2 => r = .none ∧ ∃ h' tk c, s2 = { s with heap := h', toks := tk } ∧ SX w h' s.heap.objs.size (fun j => j ∈ ks) c ∧ c ≤ ks.length ∧
          (∀ b o, s.heap.get? b = some o → h'.get? b = some o)) E) F.called_set.init.plain F.entry_set_init (check_set_init_1 tyS ?_)) fun r2 s2 hr2 => ?_
      · obtain ⟨ol, o1, o2, nl, o3⟩ := hl
        obtain ⟨ocls, odict, odata, oslots⟩ := ol
        simp only at o2 o3
        subst o2
        subst o3
        have at2 : (s.heap.push { cls := .type "set", dict := none, data := .set #[] 0 (.fresh 0 0 (!w.params.followText "set-order")) }).get? l = some { cls := .type "list", dict := odict, data := .seq items nl, slots := oslots } := Heap.get?_push_of_some _ o1
        have n1 := F.sub_list_set
        have n2 := F.sub_list_frozenset
        have n3 : (Value.type "list" == Value.type "dict") = false := by decide
        have isl : (s.heap.push { cls := .type "set", dict := none, data := .set #[] 0 (.fresh 0 0 (!w.params.followText "set-order")) }).IsList l items := ⟨_, at2, rfl, nl, rfl⟩
        unfold Builtin.«set.__init__» noKeywords Builtin.Frozenset.updateFrom
        generalize hPI : pyIter = PI
        wp_walk
        subst hPI
        refine wpAny_pyIter_list isl ?_
        refine wpAny_bind (wpAny_runValue ?_)
        have lS : l < s.heap.objs.size := Heap.lt_size o1
        have hh3 : A.in1.in1.in1.handled = none := by simp [hh]
        have sz1 : (s.heap.push { cls := .type "set", dict := none, data := .set #[] 0 (.fresh 0 0 (!w.params.followText "set-order")) }).objs.size = s.heap.objs.size + 1 := Heap.size_push ..
        have ne1 : l ≠ (s.heap.push { cls := .type "set", dict := none, data := .set #[] 0 (.fresh 0 0 (!w.params.followText "set-order")) }).objs.size := Nat.ne_of_lt (sz1.symm ▸ Nat.lt_succ_of_lt lS)
        have ne2 : s.heap.objs.size ∉ [(s.heap.push { cls := .type "set", dict := none, data := .set #[] 0 (.fresh 0 0 (!w.params.followText "set-order")) }).objs.size, l] := by
          rw [sz1]
          simp only [List.mem_cons, List.not_mem_nil, or_false, not_or]
          exact ⟨Nat.ne_of_lt (Nat.lt_succ_self _), Nat.ne_of_gt lS⟩
        refine sx_loop ((Walks.list hh3 _ l ne1 items).toS) s.heap.objs.size ne2 ks len few are (items.size - 0) 0 _ (by omega) (Nat.zero_le _) ⟨⟨_, Heap.get?_push_size _ rfl, rfl, rfl⟩, (isl.push _)⟩ ?one ?all
        case one => exact ⟨0, Nat.le_refl 0, sx_new (Heap.get?_push_of_some _ atS)⟩
        case all =>
          intro s3 c3 mv hc hS
          obtain ⟨h', g2, d', tk', os'⟩ := s3
          have eg : g2 = s.gens := mv.gens
          have ed : d' = s.drawn := mv.drawn
          have eo : os' = s.os := mv.os
          subst eg
          subst ed
          subst eo
          show wpAny _ _ _ _ _ _
          refine wpAny_pure ?_
          show wpAny _ _ (ret Value.none) _ _ _
          refine wpAny_pure ⟨rfl, h', tk', c3, rfl, hS, by omega, fun b o e => ?_⟩
          have lt : b < s.heap.objs.size := Heap.lt_size e
          refine mv.heap b o ?_ (Heap.get?_push_of_some _ (Heap.get?_push_of_some _ e))
          rw [sz1]
          simp only [List.mem_cons, List.not_mem_nil, or_false, not_or]
          exact ⟨Nat.ne_of_lt lt, Nat.ne_of_lt (Nat.lt_succ_of_lt lt)⟩
      · cases r2 with
        | error e => exact hr2
        | ok fl2 =>
          cases fl2 with
          | ret r =>
            obtain ⟨rfl, h', tk, c', rfl, z1, z2, z3⟩ := hr2
            repeat (any_goals (first | assumption | wp_step))
            exact fin _ _ _ z1 z2 z3
          | _ => exact hr2.elim
    | _ => exact hr.elim
/-- sorted of a set whose keys are all read as data by enc -/
theorem sx_sorted {enc : Key → PyData} {Q : Value → Shared → Prop} (R : SX w s.heap a S n) (hh : A.handled = none) (all : ∀ k v, S k → keyIs k v = true → ∃ as, ∀ h : Heap, Reads h v (enc k) as ∧ ∀ b, b ∉ as)
    (alk : ∀ k j, S k → S j → PySem.W.alike (enc k) (enc j) = true) (plain : ∀ k, S k → enc k ≠ .none ∧ ∀ xs, enc k ≠ .tuple xs) (un : A.units + 70 < cLine) (dep : ∀ k, (enc k).depth ≤ 60) (line : n ≤ sizeLine)
    (fin : ∀ s' p (out : List Value) (c : Nat) (ks : List Key), (∀ b o, s.heap.get? b = some o → s'.heap.get? b = some o) → s'.gens = s.gens → s'.os = s.os → s.heap.objs.size ≤ p →
      s'.heap.get? p = some (seqObj "list" out.toArray c) → ks.Nodup → (∀ k, k ∈ ks ↔ S k) → ks.length = n → PySem.W.EachIs (fun v k => keyIs k v = true) out (ks.mergeSort (PySem.W.dataLe false enc)) → Q (.ref p) s') :
    wpAny (model P w) A (call (.builtin "sorted") [.ref a]) Q E s := by
  obtain ⟨o, es, ep, t, ⟨q1, q2, q3⟩, ⟨k1, k2, k3⟩, ⟨few, fit, size⟩, up, led⟩ := R
  refine Calls.call_function_entry PyProof.Rows.kind_sorted PyProof.Rows.plain_sorted PyProof.Rows.entry_sorted (PyProof.Rows.args_sorted1 _) ?_
  unfold Builtin.«sorted»
  refine wpAny_bind (m := checkCount "sorted" 1 1 _) (wpAny_pure ?_)
  refine wpAny_bind (collect_set (A := A.in1) hh ⟨o, q1, q2.1, q3⟩ fit few up led fun s1 vs keep big gens os perm => ?_)
  obtain ⟨ks, p1, p2⟩ : ∃ ks : List Key, ks.Perm (es.toList.map kx) ∧ PySem.W.EachIs (fun v k => keyIs k v = true) vs ks := by
    have key : ∀ l : List Value, (∀ v ∈ l, ∃ k, keyIs k v = true) → PySem.W.EachIs (fun v k => keyIs k v = true) l (l.map fun v => kx (0, v)) := fun l => by
      induction l with
      | nil => exact fun _ => .nil
      | cons v l ih =>
        intro h
        obtain ⟨k, hk⟩ := h v List.mem_cons_self
        exact .cons (by show keyIs (kx (0, v)) v = true; rw [kx_of (e := (0, v)) hk]; exact hk) (ih fun u hu => h u (List.mem_cons_of_mem _ hu))
    refine ⟨vs.map fun v => kx (0, v), ?_, key vs fun v hv => ?_⟩
    · have z := perm.map fun v => kx (0, v)
      rw [List.map_map] at z
      exact z
    · obtain ⟨e, he, rfl⟩ := List.mem_map.mp (perm.mem_iff.mp hv)
      obtain ⟨k, g1, _⟩ := k1 e he
      exact ⟨k, g1⟩
  have inS : ∀ k, k ∈ ks ↔ S k := fun k => by rw [p1.mem_iff, ← k3 k]
  have len1 : ks.length = n := by rw [p1.length_eq, List.length_map, Array.length_toList, size]
  have len2 : vs.length = n := by rw [p2.length, len1]
  refine wpAny_bind (wpAny_newList ?_ (by rw [len2]; exact line))
  have at1 : (s1.heap.push (seqObj "list" vs.toArray 0)).get? s1.heap.objs.size = some (seqObj "list" vs.toArray 0) := Heap.get?_push_size _ rfl
  have reads : ∀ h : Heap, PySem.W.EachIs (fun v k => ∃ as, Reads h v (enc k) as ∧ s1.heap.objs.size ∉ as) vs ks := fun h => by
    have go : ∀ {l : List Value} {m : List Key}, PySem.W.EachIs (fun v k => keyIs k v = true) l m → (∀ k ∈ m, S k) → PySem.W.EachIs (fun v k => ∃ as, Reads h v (enc k) as ∧ s1.heap.objs.size ∉ as) l m := fun {l m} e => by
      induction e with
      | nil => exact fun _ => .nil
      | cons r e ih =>
        intro hS
        obtain ⟨as, ha⟩ := all _ _ (hS _ List.mem_cons_self) r
        exact .cons ⟨as, (ha h).1, (ha h).2 _⟩ (ih fun k hk => hS k (List.mem_cons_of_mem _ hk))
    exact go p2 fun k hk => (inS k).mp hk
  refine wpAny_bind (wpAny_holding (PySem.W.list_sort_data (enc := enc) (R := fun v k => keyIs k v = true) at1 p2 (reads _) (fun d hd e he => ?_) (.inr fun d hd => ?_) (by rw [len1]; exact line) (fun k hk => ?_) fun out ho each => ?_))
  · obtain ⟨k, hk, rfl⟩ := List.mem_map.mp hd
    obtain ⟨j, hj, rfl⟩ := List.mem_map.mp he
    exact alk k j ((inS k).mp hk) ((inS j).mp hj)
  · obtain ⟨k, hk, rfl⟩ := List.mem_map.mp hd
    exact plain k ((inS k).mp hk)
  · have := dep k
    show A.units + 1 + 1 + _ < cLine
    omega
  obtain ⟨c, atp⟩ := PyProof.Rows.sortedHeap_at (vs := vs) (out := out.toArray) at1
  refine wpAny_pure ⟨_, rfl, fin _ s1.heap.objs.size out c ks (fun b u e => ?_) gens os big atp (p1.nodup_iff.mpr k2) inS len1 each⟩
  have z := keep b u e
  have lt := Heap.lt_size z
  show (PyProof.Rows.sortedHeap (s1.heap.push (seqObj "list" vs.toArray 0)) s1.heap.objs.size vs out.toArray).get? b = some u
  rw [PyProof.Rows.sortedHeap_old (Nat.ne_of_lt lt) (by rw [size_push']; exact Nat.lt_succ_of_lt lt)]
  exact Heap.get?_push_of_some _ z
end
/-! rules of the hand layer for them -/
def SXO (w : World) (a : Addr) (S : Key → Prop) (n : Nat) : HO := .ext fun h => SX w h a S n
theorem sxo_new {w : World} {P : Program} {H : Hp} {h : Heap} {a : Addr} {S : Key → Prop} {n : Nat} (R : SX w h a S n) : ObjOk P w H h a (SXO w a S n) := by
  have R0 := R
  obtain ⟨o, es, ep, t, ⟨q, _⟩, _⟩ := R0
  exact ⟨R, ⟨o, q⟩, fun _ _ p k => SX.keep p k⟩
theorem vals_at : ∀ {xs : List V} {us : List Value} {i : Nat} {u : Value}, Vals xs us → us[i]? = some u → ∃ x, xs[i]? = some x ∧ RelV x u
  | _, _, 0, _, .cons r _, h => by
    cases h
    exact ⟨_, rfl, r⟩
  | _, _, i + 1, u, .cons _ t, h => vals_at (i := i) (u := u) t h
theorem vals_keys : ∀ {us : List Value} {ks : List Key}, PySem.W.EachIs (fun v k => keyIs k v = true) us ks → Vals (ks.map kV) us
  | _, _, .nil => .nil
  | _, _, .cons r t => by
    refine .cons ?_ (vals_keys t)
    rcases keyIs_shape r with ⟨i, t, rfl, rfl⟩ | ⟨x, t, rfl, rfl⟩
    · exact ⟨t, rfl⟩
    · exact ⟨t, rfl⟩
def encK : Key → PyData
  | .inl i => .int i
  | .inr x => .str x
def leK : Key → Key → Bool := PySem.W.dataLe false encK
section
variable {X : Cx}
def rSetOf (K : PySem.W.Frag) (w : World) : List V → Hp → VK → Prop := fun xs H Q => ∃ (a : Addr) (ks : List Key), xs = [.ref a] ∧ SqL K H a (ks.map kV) ∧ ks.length ≤ 4000 ∧ ∀ p c o, H p = none → c ≤ ks.length → o = SXO w p (fun j => j ∈ ks) c → Q (.ref p) (upd H p o)
theorem cr_setOf (calm : X.calm = true) : CallR X (.type "set") (rSetOf X.K X.w) := by
  intro pins s σ H vs us Q I r h
  obtain ⟨a, ks, rfl, hs, few, q⟩ := h
  obtain ⟨its, rv, hl, _⟩ := I.list hs
  rw [Vals.ref1 r]
  have len : its.toArray.size = ks.length := by
    have z := rv.length
    rw [List.length_map] at z
    rw [List.size_toArray]
    omega
  refine sx_call (A := X.A) ks (I.ok.hd calm) hl.isList len (fun i v hv => ?_) (show ks.length + 1 < 4096 by omega) fun h' tk c hS cc keep => ?_
  · rw [List.getElem?_toArray] at hv
    obtain ⟨x, h1, h2⟩ := vals_at rv hv
    rw [List.getElem?_map] at h1
    cases e : ks[i]? with
    | none => rw [e] at h1; cases h1
    | some k =>
      rw [e] at h1
      cases Option.some.inj h1
      exact ⟨k, rfl, kV_is (P := X.prog) (w := X.w) h2⟩
  · exact ⟨.ref _, upd H s.heap.objs.size (SXO X.w s.heap.objs.size (fun j => j ∈ ks) c), I.laid (t' := tk) keep (Nat.le_refl _) (sxo_new hS), rfl, q _ _ _ (I.hok.fresh (Nat.le_refl _)) cc rfl⟩
theorem sx_rule {k : Nat} (hr : Room k X.A) (calm : X.calm = true) {pins : List (Addr × Obj)} {s : Shared} {σ : L2.St} {H : Hp} {a : Addr} {S : Key → Prop} {n : Nat} {Q : VK} {E : Value → Shared → Prop} (I : Inv X pins σ H s) (ha : H a = some (SXO X.w a S n))
    (kind : (∀ k, S k → ∃ i, k = .inl i) ∨ ∀ k, S k → ∃ x, k = .inr x) (few : n ≤ 4000) (q : ∀ (ks : List Key) (p : Addr), ks.Nodup → (∀ k, k ∈ ks ↔ S k) → ks.length = n → H p = none → Q (.ref p) (upd H p (.lst ((ks.mergeSort leK).map kV)))) :
    wpAny (model X.prog X.w) X.A (call (.builtin "sorted") [.ref a]) (fun v s' => ∃ x H', Inv X pins σ H' s' ∧ RelV x v ∧ Q x H') E s := by
  have R : SX X.w s.heap a S n := (I.hok a _ ha).1
  have un := hr.un
  refine sx_sorted (enc := encK) R (I.ok.hd calm) (fun k v hk hv => ⟨[], fun h => ⟨?_, fun _ z => nomatch z⟩⟩) (fun k j hk hj => ?_) (fun k hk => ?_) (by omega) (fun k => ?_) (Nat.le_trans few (by decide)) fun s' p out c ks keep gens os hp atp nd mem len each => ?_
  · rcases keyIs_shape hv with ⟨i, t, rfl, rfl⟩ | ⟨x, t, rfl, rfl⟩
    · exact .int i t
    · exact .str x t
  · rcases kind with c | c
    · obtain ⟨i, rfl⟩ := c k hk
      obtain ⟨j, rfl⟩ := c j hj
      rfl
    · obtain ⟨i, rfl⟩ := c k hk
      obtain ⟨j, rfl⟩ := c j hj
      rfl
  · cases k <;> exact ⟨nofun, nofun⟩
  · cases k <;> exact Nat.zero_le _
  have rv := vals_keys each
  have hlen : ((ks.mergeSort leK).map kV).length ≤ sizeLine := by
    rw [List.length_map, List.length_mergeSort, len]
    exact Nat.le_trans few (by decide)
  have hn : H p = none := I.hok.fresh hp
  have J : Inv X pins σ (upd H p (.lst ((ks.mergeSort leK).map kV))) { s with heap := s'.heap, gens := s'.gens, drawn := s'.drawn, toks := s'.toks } :=
    I.call (ch := []) (Un.laid keep hp hn) (I.hok.laid keep hp ⟨hlen, out, c, rv, atp⟩) (by rw [gens]; exact I.bare) (fun _ z => nomatch z)
  have e : s' = { s with heap := s'.heap, gens := s'.gens, drawn := s'.drawn, toks := s'.toks } := by
    cases s'
    cases s
    cases os
    rfl
  rw [e]
  exact ⟨.ref p, _, J, rfl, q ks p nd mem len hn⟩
theorem keys_ints : ∀ ks : List Key, (∀ k ∈ ks, ∃ i, k = .inl i) → ∃ ns : List Int, ks = ns.map Sum.inl
  | [], _ => ⟨[], rfl⟩
  | k :: ks, h => by
    obtain ⟨i, rfl⟩ := h k List.mem_cons_self
    obtain ⟨ns, rfl⟩ := keys_ints ks fun j hj => h j (List.mem_cons_of_mem _ hj)
    exact ⟨i :: ns, rfl⟩
theorem keys_strs : ∀ ks : List Key, (∀ k ∈ ks, ∃ i, k = .inr i) → ∃ ns : List Str, ks = ns.map Sum.inr
  | [], _ => ⟨[], rfl⟩
  | k :: ks, h => by
    obtain ⟨i, rfl⟩ := h k List.mem_cons_self
    obtain ⟨ns, rfl⟩ := keys_strs ks fun j hj => h j (List.mem_cons_of_mem _ hj)
    exact ⟨i :: ns, rfl⟩
theorem nodup_of_map {α β : Type} (f : α → β) : ∀ l : List α, (l.map f).Nodup → l.Nodup
  | [], _ => List.nodup_nil
  | x :: l, h => by
    rw [List.map_cons] at h
    obtain ⟨h1, h2⟩ := List.nodup_cons.mp h
    exact List.nodup_cons.mpr ⟨fun z => h1 (List.mem_map.mpr ⟨x, z, rfl⟩), nodup_of_map f l h2⟩
/-- sorted of a set of ints -/
def rSortSI (w : World) : List V → Hp → VK → Prop := fun xs H Q => ∃ (a : Addr) (S : Key → Prop) (n : Nat) (o : HO), xs = [.ref a] ∧ H a = some o ∧ o = SXO w a S n ∧ (∀ k, S k → ∃ i, k = .inl i) ∧ n ≤ 4000 ∧
  ∀ (ns : List Int) (p : Addr), ns.Pairwise (· < ·) → (∀ i, i ∈ ns ↔ S (.inl i)) → ns.length = n → H p = none → Q (.ref p) (upd H p (.lst (ns.map V.int)))
theorem cr_sortSI {k : Nat} (hr : Room k X.A) (calm : X.calm = true) : CallR X (.builtin "sorted") (rSortSI X.w) := by
  intro pins s σ H vs us Q I r h
  obtain ⟨a, S, n, o, rfl, ha, rfl, kind, few, q⟩ := h
  rw [Vals.ref1 r]
  refine sx_rule hr calm I ha (.inl kind) few fun ks p nd mem len hp => ?_
  obtain ⟨ns, rfl⟩ := keys_ints ks fun k hk => kind k ((mem k).mp hk)
  have le : ∀ a b : Int, leK (.inl a) (.inl b) = decide (a ≤ b) := fun a b => congrFun (congrFun (PySem.W.dataLe_int (β := Int) fun x => x) a) b
  have e : (ns.map Sum.inl).mergeSort leK = (ns.mergeSort fun a b => decide (a ≤ b)).map Sum.inl := (PySem.W.sort_maps (s := leK) Sum.inl (fun a _ b _ => (le a b).symm)).symm
  rw [e, List.map_map]
  have nd2 := nodup_of_map Sum.inl ns nd
  have up := List.pairwise_mergeSort (le := fun (a b : Int) => decide (a ≤ b)) (fun a b c h1 h2 => by rw [decide_eq_true_eq] at *; omega) (fun a b => by rw [Bool.or_eq_true, decide_eq_true_eq, decide_eq_true_eq]; omega) ns
  have nd3 : (ns.mergeSort fun a b => decide (a ≤ b)).Nodup := (List.mergeSort_perm ns _).nodup_iff.mpr nd2
  refine q _ p ((up.and nd3).imp fun {a b} h => ?_) (fun i => ?_) ?_ hp
  · have h1 := of_decide_eq_true h.1
    have h2 := h.2
    omega
  · rw [List.mem_mergeSort, ← mem]
    exact ⟨fun z => List.mem_map.mpr ⟨i, z, rfl⟩, fun z => by
      obtain ⟨j, z1, z2⟩ := List.mem_map.mp z
      cases z2
      exact z1⟩
  · rw [List.length_mergeSort, ← len, List.length_map]
/-- sorted of a set of texts -/
def rSortSS (w : World) : List V → Hp → VK → Prop := fun xs H Q => ∃ (a : Addr) (S : Key → Prop) (n : Nat) (o : HO), xs = [.ref a] ∧ H a = some o ∧ o = SXO w a S n ∧ (∀ k, S k → ∃ i, k = .inr i) ∧ n ≤ 4000 ∧
  ∀ (ns : List Str) (p : Addr), ns.Pairwise sl → (∀ i, i ∈ ns ↔ S (.inr i)) → ns.length = n → H p = none → Q (.ref p) (upd H p (.lst (ns.map V.str)))
theorem cr_sortSS {k : Nat} (hr : Room k X.A) (calm : X.calm = true) : CallR X (.builtin "sorted") (rSortSS X.w) := by
  intro pins s σ H vs us Q I r h
  obtain ⟨a, S, n, o, rfl, ha, rfl, kind, few, q⟩ := h
  rw [Vals.ref1 r]
  refine sx_rule hr calm I ha (.inr kind) few fun ks p nd mem len hp => ?_
  obtain ⟨ns, rfl⟩ := keys_strs ks fun k hk => kind k ((mem k).mp hk)
  have le : ∀ a b : Str, leK (.inr a) (.inr b) = decide (a.cps.toList ≤ b.cps.toList) := fun a b => congrFun (congrFun (PySem.W.dataLe_str (β := Str) fun x => x) a) b
  have e : (ns.map Sum.inr).mergeSort leK = (ns.mergeSort fun a b => decide (a.cps.toList ≤ b.cps.toList)).map Sum.inr := (PySem.W.sort_maps (s := leK) Sum.inr (fun a _ b _ => (le a b).symm)).symm
  rw [e, List.map_map]
  have nd2 := nodup_of_map Sum.inr ns nd
  have up := List.pairwise_mergeSort (le := fun (a b : Str) => decide (a.cps.toList ≤ b.cps.toList)) (fun a b c h1 h2 => by rw [decide_eq_true_eq] at *; exact List.le_trans h1 h2) (fun a b => by rw [Bool.or_eq_true, decide_eq_true_eq, decide_eq_true_eq]; exact List.le_total _ _) ns
  have nd3 : (ns.mergeSort fun a b => decide (a.cps.toList ≤ b.cps.toList)).Nodup := (List.mergeSort_perm ns _).nodup_iff.mpr nd2
  refine q _ p ((up.and nd3).imp fun {a b} h => ?_) (fun i => ?_) ?_ hp
  · have h1 := of_decide_eq_true h.1
    rcases sl_tot a b with z | z | z
    · exact z
    · exact absurd z h.2
    · exact absurd z (List.not_lt.mpr h1)
  · rw [List.mem_mergeSort, ← mem]
    exact ⟨fun z => List.mem_map.mpr ⟨i, z, rfl⟩, fun z => by
      obtain ⟨j, z1, z2⟩ := List.mem_map.mp z
      cases z2
      exact z1⟩
  · rw [List.length_mergeSort, ← len, List.length_map]
end
/-! ### lots of runs, in lists or tuples -/
def SqB (b : Bool) (K : PySem.W.Frag) (H : Hp) (a : Addr) (xs : List V) : Prop := if b = true then SqL K H a xs else SqT K H a xs
def Ita (b : Bool) (K : PySem.W.Frag) (a : Addr) : It := if b = true then Itl K a else Itt K a
theorem SqB.sm {b : Bool} {K : PySem.W.Frag} {H H' : Hp} {a : Addr} {xs : List V} (e : Same H H') (h : SqB b K H a xs) : SqB b K H' a xs := by
  cases b
  · exact SqT.sm e h
  · exact SqL.sm e h
/-- a walk over a list or a tuple, whichever is told ahead -/
def iSeq (K : PySem.W.Frag) (tl : TE) : TI := fun σ H R => ∃ b : Bool, tl σ H fun x H1 => ∃ a, x = .ref a ∧ (∃ xs, SqB b K H1 a xs) ∧ R (Ita b K a) H1
theorem pi_seq {X : Cx} {tg l : Expr} {tl : TE} (hl : PE X l tl) : PI X tg l (iSeq X.K tl) := by
  refine ⟨fun pins s σ H R I h => ?_⟩
  obtain ⟨b, h⟩ := h
  cases b
  · exact (pi_tup hl).run pins s σ H R I h
  · exact (pi_list hl).run pins s σ H R I h
theorem walk_seq {b : Bool} {K : PySem.W.Frag} {a : Addr} {xs : List V} : Walk (Ita b K a) xs.length (fun H => SqB b K H a xs) (YAt xs) := by
  cases b
  · exact walk_tup
  · exact walk_list
def NmOk (x : Str) : Prop := x.length ≤ 8 ∧ (x.cps.toList.all fun c => decide (c < 16 ^ 8)) = true
def RnOk (r : Rn) : Prop := 0 ≤ r.2.1 ∧ r.2.1 < r.2.2 ∧ r.2.2 ≤ 1000000000
def spNames : Sp := fun vs H Q _ => ∃ (f c : Addr) (n : Int), vs = [.ref f] ∧ Fd H f c n ∧ n ≤ 900000 ∧
  ∀ (l : Addr) (xs : List Str) (H' : Hp), Fd H' f c (n + 8) → But f H H' → l ≠ f → l ≠ c → H l = none → H' l = some (.lst (xs.map V.str)) → xs.length = 4 → (∀ x ∈ xs, NmOk x) → Q (.ref l) H'
def spAt : Sp := fun vs H Q _ => ∃ (f c : Addr) (m n : Int), vs = [.ref f, .int m] ∧ Fd H f c n ∧ n ≤ 900000 ∧ 0 < m ∧ m ≤ 1000000 ∧
  ∀ (d : Int) (H' : Hp), 0 ≤ d → d ≤ 999999999 → Fd H' f c (n + 4) → But f H H' → (∀ a, H a = none → H' a = none) → Q (.int d) H'
def spRun : Sp := fun vs H Q _ => ∃ (f c l : Addr) (m n : Int) (xs : List Str), vs = [.ref f, .ref l, .int m] ∧ Fd H f c n ∧ n ≤ 800000 ∧ 0 < m ∧ m ≤ 1000000 ∧ H l = some (.lst (xs.map V.str)) ∧ l ≠ f ∧ 0 < xs.length ∧ xs.length ≤ 10 ∧
  ∀ (t : Addr) (r : Rn) (H' : Hp), Fd H' f c (n + 8) → But f H H' → H t = none → H' t = some (.tup (rnV r)) → RnOk r → r.1 ∈ xs → Q (.ref t) H'
def spLot : Sp := fun vs H Q _ => ∃ (f c l : Addr) (m k n : Int) (xs : List Str), vs = [.ref f, .ref l, .int m, .int k] ∧ Fd H f c n ∧ n ≤ 700000 ∧ 0 < m ∧ m ≤ 1000000 ∧ 2 ≤ k ∧ k ≤ 60 ∧ H l = some (.lst (xs.map V.str)) ∧ l ≠ f ∧ 0 < xs.length ∧ xs.length ≤ 10 ∧
  ∀ (t : Addr) (ps : List Addr) (rs : List Rn) (H' : Hp), Fd H' f c (n + 600) → But f H H' → t ≠ f → t ≠ c → H t = none → H' t = some (.lst (ps.map V.ref)) → Prd H' ps rs → rs.length ≤ 60 → (rs.length : Int) ≤ k → (∀ r ∈ rs, RnOk r ∧ r.1 ∈ xs) → Q (.ref t) H'
def spHas (K : PySem.W.Frag) : Sp := fun vs H Q _ => ∃ (b : Bool) (a : Addr) (s : Str) (n : Int) (ps : List Addr) (rs : List Rn), vs = [.ref a, .str s, .int n] ∧ SqB b K H a (ps.map V.ref) ∧ Prd H ps rs ∧ rs.length ≤ 1000 ∧
  ∀ H', Same H H' → Q (.bl (hasB rs s n)) H'
theorem Prd.but {H H' : Hp} {f c : Addr} {n : Int} {ps : List Addr} {rs : List Rn} (hf : Fd H f c n) (b : But f H H') (h : Prd H ps rs) : Prd H' ps rs := by
  obtain ⟨zs, hz⟩ := hf.at
  refine Prd.keep (fun p hp o e => ?_) h
  obtain ⟨r, _, e2⟩ := Prd.mem h hp
  rw [e2] at e
  cases Option.some.inj e
  exact b p _ (ne_of e2 hz (fun z => nomatch z)) e2
theorem Prd.put {H : Hp} {l : Addr} {xs : List V} {o : HO} {ps : List Addr} {rs : List Rn} (hl : H l = some (.lst xs)) (h : Prd H ps rs) : Prd (upd H l o) ps rs := by
  refine Prd.keep (fun p hp u e => ?_) h
  obtain ⟨r, _, e2⟩ := Prd.mem h hp
  rw [upd_ne (ne_of e2 hl (fun z => nomatch z))]
  exact e
theorem pick_str {xs : List Str} {d : Int} (d0 : 0 ≤ d) (d1 : d < (((xs.map V.str).length : Nat) : Int)) : ∃ s ∈ xs, atI (xs.map V.str) d = some (.str s) := by
  rw [List.length_map] at d1
  obtain ⟨k, rfl⟩ : ∃ k : Nat, d = (k : Int) := ⟨d.toNat, by omega⟩
  have hk : k < xs.length := by omega
  exact ⟨xs[k], List.getElem_mem hk, atI_nat (by rw [List.getElem?_map, List.getElem?_eq_getElem hk]; rfl)⟩
theorem pick_ref {ps : List Addr} {rs : List Rn} {H : Hp} {d : Int} (h : Prd H ps rs) (d0 : 0 ≤ d) (d1 : d < (((ps.map V.ref).length : Nat) : Int)) : ∃ p, ∃ r ∈ rs, atI (ps.map V.ref) d = some (.ref p) ∧ H p = some (.tup (rnV r)) := by
  rw [List.length_map] at d1
  obtain ⟨k, rfl⟩ : ∃ k : Nat, d = (k : Int) := ⟨d.toNat, by omega⟩
  have hk : k < ps.length := by omega
  obtain ⟨r, h1, h2⟩ := Prd.get h (List.getElem?_eq_getElem hk)
  exact ⟨ps[k], r, List.mem_of_getElem? h1, atI_nat (by rw [List.getElem?_map, List.getElem?_eq_getElem hk]; rfl), h2⟩
theorem mulk_ok (ch : Nat) (d : Int) (h0 : 0 ≤ d) (h1 : d < 100) : MulOk ⟨#[ch]⟩ d := by
  refine ⟨?_, fun _ hd => ?_, fun _ _ => ?_⟩
  · simp only [Bool.or_eq_false_iff, decide_eq_false_iff_not]
    constructor <;> omega
  · have e : (⟨#[ch]⟩ : Str).length = 1 := rfl
    rw [e]
    by_cases z : d = 0
    · subst z
      first | omega | simp_all
    · have : (1 : Int) ≤ (2 ^ 63 - 1) / d := by
        rw [Int.le_ediv_iff_mul_le (by omega)]
        omega
      omega
  · have e : (⟨#[ch]⟩ : Str).length = 1 := rfl
    rw [e, Nat.one_mul]
    unfold Builtin.Str.tooLong
    rw [decide_eq_false_iff_not, sizeLine_eq]
    omega
theorem mulk_nm {ch : Nat} (d : Int) (h : ch < 16 ^ 8) (h1 : d ≤ 8) : NmOk (Txt.mul ⟨#[ch]⟩ d) := ⟨len_mul_one rfl h1, mul_chr d h⟩
theorem nm_app {a b : Str} {n m : Nat} (ha : a.length ≤ n ∧ (a.cps.toList.all fun c => decide (c < 16 ^ 8)) = true) (hb : b.length ≤ m ∧ (b.cps.toList.all fun c => decide (c < 16 ^ 8)) = true) (h : n + m ≤ 8) : NmOk (a ++ b) := by
  refine ⟨?_, ?_⟩
  · rw [strLen_append]
    omega
  · have e : (a ++ b).cps.toList = a.cps.toList ++ b.cps.toList := Array.toList_append
    rw [e, List.all_append, ha.2, hb.2]
    rfl
theorem nm_sign {ch : Nat} (h : ch < 16 ^ 8) : (⟨#[ch]⟩ : Str).length ≤ 1 ∧ ((⟨#[ch]⟩ : Str).cps.toList.all fun c => decide (c < 16 ^ 8)) = true := ⟨Nat.le_refl 1, by simp [h]⟩
theorem cut_tail (xs : List V) : cutV xs (some 1) none = xs.tail := by
  have e : HT.sIx xs.length 0 (some ((1 : Nat) : Int)) = min 1 xs.length := HT.sIx_nat _ _ _
  have e : HT.sIx xs.length 0 (some 1) = min 1 xs.length := e
  unfold cutV
  rw [e, HT.sIx_none]
  cases xs with
  | nil => rfl
  | cons x r =>
    have z : min 1 (x :: r).length = 1 := by rw [List.length_cons]; omega
    rw [z, List.length_cons]
    show r.take (r.length + 1 - 1) = r
    rw [Nat.add_sub_cancel, List.take_length]
/-- a lot of runs, in a list (b) or a tuple -/
structure Lt where
  b : Bool
  a : Addr
  ps : List Addr
  rs : List Rn
def LtAt (K : PySem.W.Frag) (H : Hp) (x : Lt) : Prop := SqB x.b K H x.a (x.ps.map V.ref) ∧ Prd H x.ps x.rs ∧ x.rs.length ≤ 200
theorem LtAt.same {K : PySem.W.Frag} {H H' : Hp} {x : Lt} (s : Same H H') (h : LtAt K H x) : LtAt K H' x := ⟨SqB.sm s h.1, Prd.same s h.2.1, h.2.2⟩
def allR (ls : List Lt) : List Rn := ls.flatMap fun x => x.rs
theorem allR_more {ls : List Lt} {i : Nat} {x : Lt} (h : ls[i]? = some x) : allR (ls.take (i + 1)) = allR (ls.take i) ++ x.rs := by
  obtain ⟨hi, e⟩ := List.getElem?_eq_some_iff.mp h
  unfold allR
  rw [List.take_succ_eq_append_getElem hi, List.flatMap_append, e, List.flatMap_singleton]
theorem allR_len {K : PySem.W.Frag} {H : Hp} : ∀ {ls : List Lt}, (∀ x ∈ ls, LtAt K H x) → (allR ls).length ≤ 200 * ls.length
  | [], _ => Nat.le_refl _
  | x :: ls, h => by
    have z := allR_len (ls := ls) fun y hy => h y (List.mem_cons_of_mem _ hy)
    have y := (h x List.mem_cons_self).2.2
    unfold allR at *
    rw [List.flatMap_cons, List.length_append, List.length_cons]
    omega
def endsOf (rs : List Rn) : List Int := rs.flatMap fun r => [r.2.1, r.2.2]
theorem endsOf_app (a b : List Rn) : endsOf (a ++ b) = endsOf a ++ endsOf b := List.flatMap_append
theorem endsOf_len : ∀ rs : List Rn, (endsOf rs).length = 2 * rs.length
  | [] => rfl
  | r :: rs => by
    have z := endsOf_len rs
    unfold endsOf at *
    rw [List.flatMap_cons, List.length_append, z, List.length_cons (as := rs)]
    show 2 + 2 * rs.length = 2 * (rs.length + 1)
    omega
theorem ends_of {rs : List Rn} {ns : List Str} {cs : List Int} (h1 : ∀ s, s ∈ ns ↔ s ∈ rs.map (·.1)) (h2 : ∀ i, i ∈ cs ↔ i ∈ endsOf rs) : Ends rs ns cs := fun r hr => by
  refine ⟨(h1 _).mpr (List.mem_map.mpr ⟨r, hr, rfl⟩), (h2 _).mpr ?_, (h2 _).mpr ?_⟩
  · exact List.mem_flatMap.mpr ⟨r, hr, List.mem_cons_self⟩
  · exact List.mem_flatMap.mpr ⟨r, hr, List.mem_cons_of_mem _ List.mem_cons_self⟩
theorem hasB_all (ls : List Lt) (s : Str) (n : Int) : ((ls.map fun x => hasB x.rs s n).any _root_.id) = hasB (allR ls) s n := by
  unfold hasB allR
  rw [List.any_flatMap, List.any_map]
  rfl
theorem goods_more {P : Str → Int → Bool} {s : Str} {ps : List (Int × Int)} {j : Nat} {p : Int × Int} (h : ps[j]? = some p) : goods P s (ps.take (j + 1)) = goods P s (ps.take j) ++ if P s p.1 = true then [(s, p.1, p.2)] else [] := by
  obtain ⟨hj, e⟩ := List.getElem?_eq_some_iff.mp h
  unfold goods
  rw [List.take_succ_eq_append_getElem hj, List.filter_append, List.map_append, e]
  congr 1
  cases hP : P s p.1 <;> simp [hP]
theorem goods_len {P : Str → Int → Bool} {s : Str} (ps : List (Int × Int)) : (goods P s ps).length ≤ ps.length := by
  unfold goods
  rw [List.length_map]
  exact List.length_filter_le _ _
theorem join_len (acc : List Rn) (r : Rn) : (join acc r).length ≤ acc.length + 1 := by
  rcases nil_or_snoc acc with rfl | ⟨i, l, rfl⟩
  · exact Nat.le_refl _
  · rw [join_snoc]
    split
    · rw [List.length_append, List.length_append, List.length_singleton, List.length_singleton]
      omega
    · rw [List.length_append, List.length_append, List.length_singleton, List.length_singleton]
      omega
theorem fold_join_len : ∀ (l acc : List Rn), (l.foldl join acc).length ≤ acc.length + l.length
  | [], acc => Nat.le_refl _
  | r :: l, acc => by
    have z := fold_join_len l (join acc r)
    have y := join_len acc r
    rw [List.foldl_cons, List.length_cons]
    omega
theorem flat_goods_len {P : Str → Int → Bool} (ps : List (Int × Int)) : ∀ ss : List Str, (ss.flatMap fun s => goods P s ps).length ≤ ss.length * ps.length
  | [] => Nat.zero_le _
  | s :: ss => by
    have z := flat_goods_len (P := P) ps ss
    have y := goods_len (P := P) (s := s) ps
    rw [List.flatMap_cons, List.length_append, List.length_cons, Nat.succ_mul]
    omega
theorem pcs_get {cs : List Int} {j : Nat} {x y : Int} (hx : cs[j]? = some x) (hy : cs.tail[j]? = some y) : (pcs cs)[j]? = some (x, y) := by
  unfold pcs
  rw [List.getElem?_zip_eq_some]
  exact ⟨hx, hy⟩
def spMade (K : PySem.W.Frag) : Sp := fun vs H Q _ => ∃ (l : Addr) (ls : List Lt), vs = [.ref l, .str (("some" : String) : Str)] ∧ SqL K H l (ls.map fun x => V.ref x.a) ∧ (∀ x ∈ ls, LtAt K H x) ∧ 0 < ls.length ∧ ls.length ≤ 3 ∧ Full (allR ls) ∧
  ∀ (t : Addr) (qs : List Addr) (H' : Hp), Same H H' → H t = none → H' t = some (.tup (qs.map V.ref)) → Prd H' qs (runsOf (allR ls)) → Q (.ref t) H'
def dictM (a b c : Bool) : List (Key × V) := [(Sum.inr (("some" : String) : Str), .bl a), (Sum.inr (("all" : String) : Str), .bl b), (Sum.inr (("first" : String) : Str), .bl c)]
theorem rn_fine {r : Rn} (h1 : RnOk r) (h2 : NmOk r.1) : fineD (rnD r) = true ∧ cost (rnD r) ≤ 5000 := by
  obtain ⟨a, b, c⟩ := h1
  refine ⟨?_, ?_⟩
  · show (fineD (.str r.1) && (fineD (.int r.2.1) && (fineD (.int r.2.2) && true))) = true
    have e : fineD (.str r.1) = true := h2.2
    rw [e, int_fine (by omega) (by omega), int_fine (by omega) (by omega)]
    rfl
  · have := h2.1
    simp only [rnD, Pn.cost, costAll]
    omega
theorem rns_fine : ∀ rs : List Rn, (∀ r ∈ rs, RnOk r ∧ NmOk r.1) → fineAll (rs.map rnD) = true ∧ costAll (rs.map rnD) ≤ 5002 * rs.length
  | [], _ => ⟨rfl, Nat.le_refl _⟩
  | r :: rs, h => by
    obtain ⟨z1, z2⟩ := rns_fine rs fun x hx => h x (List.mem_cons_of_mem _ hx)
    obtain ⟨y1, y2⟩ := rn_fine (h r List.mem_cons_self).1 (h r List.mem_cons_self).2
    refine ⟨?_, ?_⟩
    · rw [List.map_cons]
      unfold fineAll
      rw [y1, z1]
      rfl
    · rw [List.map_cons, List.length_cons]
      unfold costAll
      omega
theorem rns_depth (rs : List Rn) : PyData.depthAll (rs.map rnD) ≤ 2 := by
  induction rs with
  | nil => simp [PyData.depthAll]
  | cons r l ih =>
    rw [List.map_cons]
    simp only [PyData.depthAll, rnD, PyData.depth] at *
    omega
def lotD (rs : List Rn) : PyData := .list (rs.map rnD)
theorem lot_show {rs : List Rn} (h : ∀ r ∈ rs, RnOk r ∧ NmOk r.1) (hl : rs.length ≤ 60) : (lotD rs).showable = true ∧ (lotD rs).hasDict = false ∧ (lotD rs).depth ≤ 60 ∧ (lotD rs).shown.length ≤ sizeLine := by
  obtain ⟨z1, z2⟩ := rns_fine rs h
  have f : fineD (lotD rs) = true := z1
  have c := shown_cost _ f
  have e : cost (lotD rs) = costAll (rs.map rnD) + 3 := rfl
  have d := rns_depth rs
  obtain ⟨s1, s2⟩ := fine_show _ f
  refine ⟨s1, s2, ?_, Nat.le_trans c (Nat.le_trans (show _ ≤ 1000000 by omega) (by decide))⟩
  simp only [lotD, PyData.depth]
  omega
theorem lot_dp {K : PySem.W.Frag} {H : Hp} {t : Addr} {ps : List Addr} {rs : List Rn} (h : H t = some (.lst (ps.map V.ref))) (hp : Prd H ps rs) : Dp K H (.ref t) (lotD rs) := .lst (SqL.of h) (Prd.dp hp)
theorem Prd.rev {H : Hp} : ∀ {ps : List Addr} {rs : List Rn}, Prd H ps rs → Prd H ps.reverse rs.reverse
  | _, _, .nil => .nil
  | _, _, .cons a b => by
    rw [List.reverse_cons, List.reverse_cons]
    exact Prd.app (Prd.rev b) (Prd.one a)
theorem Prd.take {H : Hp} : ∀ {ps : List Addr} {rs : List Rn} (n : Nat), Prd H ps rs → Prd H (ps.take n) (rs.take n)
  | _, _, 0, _ => .nil
  | _, _, _ + 1, .nil => .nil
  | _, _, n + 1, .cons a b => .cons a (Prd.take n b)
theorem one_lot {K : PySem.W.Frag} {H : Hp} {x : Lt} (h : LtAt K H x) : ∀ y ∈ [x], LtAt K H y := fun y hy => by
  rw [List.mem_singleton.mp hy]
  exact h
theorem all_one (x : Lt) : allR [x] = x.rs := List.flatMap_singleton ..
theorem Nice.up : ∀ {n : Nat} {d : PyData}, Nice n d → Nice (n + 1) d
  | 0, _, h => Or.inl h
  | n + 1, _, h => by
    rcases h with h | ⟨ds, h1, h2, h3⟩
    · exact Or.inl h
    · exact Or.inr ⟨ds, h1, h2, fun e he => Nice.up (h3 e he)⟩
/-! ### both, less: pure, and what they have -/
/-- (a, i) ≤ (b, j) as Python has it -/
def lexLe (a : Str) (i : Int) (b : Str) (j : Int) : Bool := !PySem.W.dataLt (.tuple [.str b, .int j]) (.tuple [.str a, .int i])
theorem lexLe_iff (a : Str) (i : Int) (b : Str) (j : Int) : lexLe a i b j = true ↔ sl a b ∨ (a = b ∧ i ≤ j) := by
  unfold lexLe
  rw [PySem.W.dataLt_pair (by simp [PySem.W.alike]) (by simp [PySem.W.alike]), PySem.W.dataLt_str, PySem.W.dataLt_int]
  simp only [PyData.eqv, beq_iff_eq]
  by_cases e : b = a
  · subst e
    rw [if_pos rfl]
    by_cases e2 : j = i
    · subst e2
      rw [if_pos rfl]
      exact ⟨fun _ => .inr ⟨rfl, Int.le_refl _⟩, fun _ => rfl⟩
    · rw [if_neg e2, Bool.not_eq_true', decide_eq_false_iff_not]
      constructor
      · intro h
        exact .inr ⟨rfl, by omega⟩
      · rintro (h | ⟨_, h⟩)
        · exact (sl_irr _ h).elim
        · omega
  · rw [if_neg e, Bool.not_eq_true', decide_eq_false_iff_not]
    constructor
    · intro h
      rcases sl_tot a b with z | z | z
      · exact .inl z
      · exact absurd z.symm e
      · exact absurd z h
    · rintro (h | ⟨h, _⟩) z
      · exact sl_as h z
      · exact e h.symm
theorem lexLe_not {a : Str} {i : Int} {b : Str} {j : Int} (h : ¬ lexLe a i b j = true) : sl b a ∨ (a = b ∧ j < i) := by
  rw [lexLe_iff] at h
  rcases sl_tot a b with z | z | z
  · exact absurd (.inl z) h
  · exact .inr ⟨z, Int.not_le.mp fun k => h (.inr ⟨z, k⟩)⟩
  · exact .inl z
def mx (a b : Int) : Int := if b > a then b else a
def mn (a b : Int) : Int := if b < a then b else a
theorem mx_is (a b : Int) : (mx a b = a ∧ b ≤ a) ∨ (mx a b = b ∧ a ≤ b) := by
  unfold mx
  split <;> omega
theorem mn_is (a b : Int) : (mn a b = a ∧ a ≤ b) ∨ (mn a b = b ∧ b ≤ a) := by
  unfold mn
  split <;> omega
def meet (x y : Rn) : List Rn := if x.1 = y.1 ∧ mx x.2.1 y.2.1 < mn x.2.2 y.2.2 then [(x.1, mx x.2.1 y.2.1, mn x.2.2 y.2.2)] else []
def bothL : List Rn → List Rn → List Rn
  | x :: a, y :: b => meet x y ++ if lexLe x.1 x.2.2 y.1 y.2.2 = true then bothL a (y :: b) else bothL (x :: a) b
  | [], _ => []
  | _ :: _, [] => []
termination_by a b => a.length + b.length
theorem both_cons (x : Rn) (a : List Rn) (y : Rn) (b : List Rn) : bothL (x :: a) (y :: b) = meet x y ++ if lexLe x.1 x.2.2 y.1 y.2.2 = true then bothL a (y :: b) else bothL (x :: a) b := by
  rw [bothL]
theorem both_nil (b : List Rn) : bothL [] b = [] := by rw [bothL]
theorem both_nil2 (a : List Rn) : bothL a [] = [] := by cases a <;> rw [bothL]
theorem meet_in {x y r : Rn} : r ∈ meet x y ↔ x.1 = y.1 ∧ r.1 = x.1 ∧ r.2.1 = mx x.2.1 y.2.1 ∧ r.2.2 = mn x.2.2 y.2.2 ∧ r.2.1 < r.2.2 := by
  unfold meet
  split
  · rename_i h
    rw [List.mem_singleton]
    constructor
    · rintro rfl
      exact ⟨h.1, rfl, rfl, rfl, h.2⟩
    · rintro ⟨_, h1, h2, h3, _⟩
      exact Prod.ext h1 (Prod.ext h2 h3)
  · rename_i h
    refine ⟨fun z => (nomatch z), ?_⟩
    rintro ⟨h0, h1, h2, h3, h4⟩
    exact (h ⟨h0, by omega⟩).elim
theorem both_in : ∀ (a b : List Rn) (r : Rn), r ∈ bothL a b → ∃ u ∈ a, ∃ v ∈ b, r ∈ meet u v
  | [], b, r, h => by rw [both_nil] at h; exact nomatch h
  | x :: a, [], r, h => by rw [both_nil2] at h; exact nomatch h
  | x :: a, y :: b, r, h => by
    rw [both_cons] at h
    rcases List.mem_append.mp h with h | h
    · exact ⟨x, List.mem_cons_self, y, List.mem_cons_self, h⟩
    · split at h
      · obtain ⟨u, hu, v, hv, z⟩ := both_in a (y :: b) r h
        exact ⟨u, List.mem_cons_of_mem _ hu, v, hv, z⟩
      · obtain ⟨u, hu, v, hv, z⟩ := both_in (x :: a) b r h
        exact ⟨u, hu, v, List.mem_cons_of_mem _ hv, z⟩
termination_by a b => a.length + b.length
theorem meet_apart {x y u v r s : Rn} (hr : r ∈ meet x y) (hs : s ∈ meet u v) (h : apart x u = true ∨ apart y v = true) : apart r s = true := by
  obtain ⟨r0, r1, r2, r3, r4⟩ := meet_in.mp hr
  obtain ⟨s0, s1, s2, s3, s4⟩ := meet_in.mp hs
  have m1 := mx_is u.2.1 v.2.1
  have m2 := mn_is x.2.2 y.2.2
  rw [apart_iff]
  rcases h with h | h
  · rcases (apart_iff _ _).mp h with ⟨e, k⟩ | k
    · exact .inl ⟨r1.trans (e.trans s1.symm), by omega⟩
    · exact .inr (by rw [r1, s1]; exact k)
  · rcases (apart_iff _ _).mp h with ⟨e, k⟩ | k
    · exact .inl ⟨r1.trans (r0.trans (e.trans (s0.symm.trans s1.symm))), by omega⟩
    · exact .inr (by rw [r1, s1, r0, s0]; exact k)
theorem has_one {r : Rn} {l : List Rn} {s : Str} {n : Int} (h : r ∈ l) (k : r.1 = s ∧ r.2.1 ≤ n ∧ n < r.2.2) : has l s n := ⟨r, h, k⟩
theorem meet_has (x y : Rn) (s : Str) (n : Int) : has (meet x y) s n ↔ (x.1 = s ∧ x.2.1 ≤ n ∧ n < x.2.2) ∧ (y.1 = s ∧ y.2.1 ≤ n ∧ n < y.2.2) := by
  have m1 := mx_is x.2.1 y.2.1
  have m2 := mn_is x.2.2 y.2.2
  constructor
  · rintro ⟨r, h, k1, k2, k3⟩
    obtain ⟨r0, r1, r2, r3, r4⟩ := meet_in.mp h
    exact ⟨⟨r1.symm.trans k1, by omega, by omega⟩, ⟨r0.symm.trans (r1.symm.trans k1), by omega, by omega⟩⟩
  · rintro ⟨⟨k1, k2, k3⟩, ⟨j1, j2, j3⟩⟩
    exact ⟨(x.1, mx x.2.1 y.2.1, mn x.2.2 y.2.2), meet_in.mpr ⟨k1.trans j1.symm, rfl, rfl, rfl, by show mx _ _ < mn _ _; omega⟩, k1, by show mx _ _ ≤ n; omega, by show n < mn _ _; omega⟩
theorem both_ok : ∀ (a b : List Rn), Canon a → Canon b → Canon (bothL a b) ∧ ∀ s n, has (bothL a b) s n ↔ has a s n ∧ has b s n
  | [], b, _, _ => by
    rw [both_nil]
    exact ⟨canon_nil, fun s n => ⟨fun h => (has_nil _ _ h).elim, fun h => (has_nil _ _ h.1).elim⟩⟩
  | x :: a, [], _, _ => by
    rw [both_nil2]
    exact ⟨canon_nil, fun s n => ⟨fun h => (has_nil _ _ h).elim, fun h => (has_nil _ _ h.2).elim⟩⟩
  | x :: a, y :: b, ha, hb => by
    rw [both_cons]
    by_cases c : lexLe x.1 x.2.2 y.1 y.2.2 = true
    · rw [if_pos c]
      obtain ⟨i1, i2⟩ := both_ok a (y :: b) ha.tail hb
      rw [lexLe_iff] at c
      refine ⟨⟨List.pairwise_append.mpr ⟨?_, i1.1, fun r hr t ht => ?_⟩, fun r hr => ?_⟩, fun s n => ?_⟩
      · unfold meet
        split
        · exact List.pairwise_singleton _ _
        · exact .nil
      · obtain ⟨u, hu, v, hv, z⟩ := both_in _ _ _ ht
        exact meet_apart hr z (.inl ((List.pairwise_cons.mp ha.1).1 u hu))
      · rcases List.mem_append.mp hr with hr | hr
        · exact (meet_in.mp hr).2.2.2.2
        · exact i1.2 r hr
      · rw [has_app, i2, meet_has, has_cons x a, has_cons y b]
        constructor
        · rintro (⟨h1, h2⟩ | ⟨h1, h2⟩)
          · exact ⟨.inl h1, .inl h2⟩
          · exact ⟨.inr h1, h2⟩
        · rintro ⟨h1 | h1, h2⟩
          · rcases h2 with h2 | h2
            · exact .inl ⟨h1, h2⟩
            · exfalso
              rcases canon_first hb h2 with ⟨e, k⟩ | k
              · rcases c with c | ⟨c1, c2⟩
                · rw [h1.1, e] at c
                  exact sl_irr _ c
                · omega
              · rcases c with c | ⟨c1, c2⟩
                · exact sl_as c (h1.1 ▸ k)
                · rw [← c1, h1.1] at k
                  exact sl_irr _ k
          · exact .inr ⟨h1, h2⟩
    · rw [if_neg c]
      obtain ⟨i1, i2⟩ := both_ok (x :: a) b ha hb.tail
      have c := lexLe_not c
      refine ⟨⟨List.pairwise_append.mpr ⟨?_, i1.1, fun r hr t ht => ?_⟩, fun r hr => ?_⟩, fun s n => ?_⟩
      · unfold meet
        split
        · exact List.pairwise_singleton _ _
        · exact .nil
      · obtain ⟨u, hu, v, hv, z⟩ := both_in _ _ _ ht
        exact meet_apart hr z (.inr ((List.pairwise_cons.mp hb.1).1 v hv))
      · rcases List.mem_append.mp hr with hr | hr
        · exact (meet_in.mp hr).2.2.2.2
        · exact i1.2 r hr
      · rw [has_app, i2, meet_has, has_cons x a, has_cons y b]
        constructor
        · rintro (⟨h1, h2⟩ | ⟨h1, h2⟩)
          · exact ⟨.inl h1, .inl h2⟩
          · exact ⟨h1, .inr h2⟩
        · rintro ⟨h1, h2 | h2⟩
          · rcases h1 with h1 | h1
            · exact .inl ⟨h1, h2⟩
            · exfalso
              rcases canon_first ha h1 with ⟨e, k⟩ | k
              · rcases c with c | ⟨c1, c2⟩
                · rw [h2.1, e] at c
                  exact sl_irr _ c
                · omega
              · rcases c with c | ⟨c1, c2⟩
                · exact sl_as c (h2.1 ▸ k)
                · rw [c1, h2.1] at k
                  exact sl_irr _ k
          · exact .inr ⟨h1, h2⟩
termination_by a b => a.length + b.length
/-! less -/
def tailL (s : Str) (lo hi : Int) : List Rn := if lo < hi then [(s, lo, hi)] else []
def leftL (s : Str) (hi : Int) : Int → List Rn → List Rn
  | lo, [] => tailL s lo hi
  | lo, o :: os => if o.1 = s ∧ o.2.1 < hi then tailL s lo o.2.1 ++ leftL s hi o.2.2 os else tailL s lo hi
def skipL (s : Str) (lo : Int) (b : List Rn) : List Rn := b.dropWhile fun o => lexLe o.1 o.2.2 s lo
def lessL : List Rn → List Rn → List Rn
  | [], _ => []
  | x :: a, b => leftL x.1 x.2.2 x.2.1 (skipL x.1 x.2.1 b) ++ lessL a (skipL x.1 x.2.1 b)
theorem tail_in {s : Str} {lo hi : Int} {r : Rn} : r ∈ tailL s lo hi ↔ r = (s, lo, hi) ∧ lo < hi := by
  unfold tailL
  split
  · rename_i h
    rw [List.mem_singleton]
    exact ⟨fun z => ⟨z, h⟩, fun z => z.1⟩
  · rename_i h
    exact ⟨fun z => (nomatch z), fun z => (h z.2).elim⟩
theorem tail_has (s : Str) (lo hi : Int) (t : Str) (n : Int) : has (tailL s lo hi) t n ↔ t = s ∧ lo ≤ n ∧ n < hi := by
  constructor
  · rintro ⟨r, h, k1, k2, k3⟩
    obtain ⟨rfl, h2⟩ := tail_in.mp h
    exact ⟨k1.symm, k2, k3⟩
  · rintro ⟨rfl, k2, k3⟩
    exact ⟨(t, lo, hi), tail_in.mpr ⟨rfl, by omega⟩, rfl, k2, k3⟩
/-- what stands first isn't all ahead of it -/
def Ahd (s : Str) (lo : Int) (b : List Rn) : Prop := ∀ o os, b = o :: os → sl s o.1 ∨ (o.1 = s ∧ lo < o.2.2)
theorem left_ok : ∀ (b : List Rn) (s : Str) (lo hi : Int), Canon b → Ahd s lo b →
    ((leftL s hi lo b).Pairwise (fun a b => apart a b = true) ∧ ∀ r ∈ leftL s hi lo b, r.1 = s ∧ lo ≤ r.2.1 ∧ r.2.1 < r.2.2 ∧ r.2.2 ≤ hi) ∧ ∀ t n, has (leftL s hi lo b) t n ↔ t = s ∧ lo ≤ n ∧ n < hi ∧ ¬ has b t n
  | [], s, lo, hi, _, _ => by
    refine ⟨⟨?_, fun r hr => ?_⟩, fun t n => ?_⟩
    · show (tailL s lo hi).Pairwise _
      unfold tailL
      split
      · exact List.pairwise_singleton _ _
      · exact .nil
    · obtain ⟨rfl, h⟩ := tail_in.mp hr
      exact ⟨rfl, Int.le_refl _, h, Int.le_refl _⟩
    · show has (tailL s lo hi) t n ↔ _
      rw [tail_has]
      exact ⟨fun ⟨h1, h2, h3⟩ => ⟨h1, h2, h3, has_nil _ _⟩, fun ⟨h1, h2, h3, _⟩ => ⟨h1, h2, h3⟩⟩
  | o :: os, s, lo, hi, hb, hh => by
    have fo := hb.2 o List.mem_cons_self
    unfold leftL
    by_cases c : o.1 = s ∧ o.2.1 < hi
    · rw [if_pos c]
      have lo2 : lo < o.2.2 := by
        rcases hh o os rfl with z | z
        · exact (sl_irr _ (c.1 ▸ z)).elim
        · exact z.2
      obtain ⟨⟨i1, i2⟩, i3⟩ := left_ok os s o.2.2 hi hb.tail (fun p ps e => by
        subst e
        rcases (apart_iff _ _).mp ((List.pairwise_cons.mp hb.1).1 p List.mem_cons_self) with ⟨e, k⟩ | k
        · have := hb.2 p (List.mem_cons_of_mem _ List.mem_cons_self)
          exact .inr ⟨e.symm.trans c.1, by omega⟩
        · exact .inl (c.1 ▸ k))
      refine ⟨⟨List.pairwise_append.mpr ⟨?_, i1, fun x hx y hy => ?_⟩, fun r hr => ?_⟩, fun t n => ?_⟩
      · unfold tailL
        split
        · exact List.pairwise_singleton _ _
        · exact .nil
      · obtain ⟨rfl, h⟩ := tail_in.mp hx
        obtain ⟨j1, j2, j3, j4⟩ := i2 y hy
        rw [apart_iff]
        exact .inl ⟨j1.symm, show o.2.1 < y.2.1 by omega⟩
      · rcases List.mem_append.mp hr with hr | hr
        · obtain ⟨rfl, h⟩ := tail_in.mp hr
          exact ⟨rfl, Int.le_refl _, h, show o.2.1 ≤ hi by omega⟩
        · obtain ⟨j1, j2, j3, j4⟩ := i2 r hr
          exact ⟨j1, by omega, j3, j4⟩
      · rw [has_app, tail_has, i3, has_cons]
        constructor
        · rintro (⟨h1, h2, h3⟩ | ⟨h1, h2, h3, h4⟩)
          · refine ⟨h1, h2, by omega, ?_⟩
            rintro (z | z)
            · omega
            · rcases canon_first hb z with ⟨_, z⟩ | z
              · omega
              · rw [c.1, h1] at z
                exact sl_irr _ z
          · refine ⟨h1, by omega, h3, ?_⟩
            rintro (z | z)
            · omega
            · exact h4 z
        · rintro ⟨h1, h2, h3, h4⟩
          by_cases d : n < o.2.1
          · exact .inl ⟨h1, h2, d⟩
          · refine .inr ⟨h1, ?_, h3, fun z => h4 (.inr z)⟩
            by_cases d2 : n < o.2.2
            · exact (h4 (.inl ⟨c.1.trans h1.symm, by omega, d2⟩)).elim
            · omega
    · rw [if_neg c]
      refine ⟨⟨?_, fun r hr => ?_⟩, fun t n => ?_⟩
      · unfold tailL
        split
        · exact List.pairwise_singleton _ _
        · exact .nil
      · obtain ⟨rfl, h⟩ := tail_in.mp hr
        exact ⟨rfl, Int.le_refl _, h, Int.le_refl _⟩
      · rw [tail_has]
        refine ⟨fun ⟨h1, h2, h3⟩ => ⟨h1, h2, h3, fun z => ?_⟩, fun ⟨h1, h2, h3, _⟩ => ⟨h1, h2, h3⟩⟩
        subst h1
        rcases hh o os rfl with k | ⟨k1, k2⟩
        · rcases (has_cons _ _ _ _).mp z with z | z
          · rw [z.1] at k
            exact sl_irr _ k
          · rcases canon_first hb z with ⟨e, _⟩ | z
            · rw [e] at k
              exact sl_irr _ k
            · exact sl_as k z
        · have k3 : hi ≤ o.2.1 := Int.not_lt.mp fun z => c ⟨k1, z⟩
          rcases (has_cons _ _ _ _).mp z with z | z
          · omega
          · rcases canon_first hb z with ⟨_, z⟩ | z
            · omega
            · rw [k1] at z
              exact sl_irr _ z
theorem canon_drop {b : List Rn} (h : Canon b) (f : Rn → Bool) : Canon (b.dropWhile f) := by
  have z := List.dropWhile_suffix f (l := b)
  exact ⟨h.1.sublist z.sublist, fun r hr => h.2 r (z.subset hr)⟩
theorem skip_ahd (s : Str) (lo : Int) (b : List Rn) : Ahd s lo (skipL s lo b) := fun o os e => by
  have z := List.head?_dropWhile_not (fun o : Rn => lexLe o.1 o.2.2 s lo) b
  unfold skipL at e
  rw [e] at z
  have z : lexLe o.1 o.2.2 s lo = false := z
  exact lexLe_not (by rw [z]; decide)
theorem skip_has : ∀ (b : List Rn) (s : Str) (lo : Int) (t : Str) (n : Int), ((t = s ∧ lo ≤ n) ∨ sl s t) → (has (skipL s lo b) t n ↔ has b t n)
  | [], _, _, _, _, _ => Iff.rfl
  | o :: b, s, lo, t, n, h => by
    unfold skipL
    rw [List.dropWhile_cons]
    split
    · rename_i c
      rw [lexLe_iff] at c
      refine (skip_has b s lo t n h).trans ?_
      rw [has_cons]
      refine ⟨.inr, ?_⟩
      rintro (⟨k1, k2, k3⟩ | k)
      · exfalso
        rcases c with c | ⟨c1, c2⟩ <;> rcases h with ⟨h1, h2⟩ | h
        · rw [k1, h1] at c
          exact sl_irr _ c
        · exact sl_as (k1 ▸ c) h
        · omega
        · rw [← c1, k1] at h
          exact sl_irr _ h
      · exact k
    · exact Iff.rfl
theorem less_ok : ∀ (a b : List Rn), Canon a → Canon b → Canon (lessL a b) ∧ (∀ r ∈ lessL a b, ∃ u ∈ a, r.1 = u.1 ∧ u.2.1 ≤ r.2.1 ∧ r.2.2 ≤ u.2.2) ∧ ∀ s n, has (lessL a b) s n ↔ has a s n ∧ ¬ has b s n
  | [], b, _, _ => ⟨canon_nil, fun _ h => (nomatch h), fun s n => ⟨fun h => (has_nil _ _ h).elim, fun h => (has_nil _ _ h.1).elim⟩⟩
  | x :: a, b, ha, hb => by
    unfold lessL
    have hb2 : Canon (skipL x.1 x.2.1 b) := canon_drop hb _
    obtain ⟨⟨l1, l2⟩, l3⟩ := left_ok (skipL x.1 x.2.1 b) x.1 x.2.1 x.2.2 hb2 (skip_ahd _ _ _)
    obtain ⟨i1, i2, i3⟩ := less_ok a (skipL x.1 x.2.1 b) ha.tail hb2
    have fx := ha.2 x List.mem_cons_self
    refine ⟨⟨List.pairwise_append.mpr ⟨l1, i1.1, fun r hr t ht => ?_⟩, fun r hr => ?_⟩, fun r hr => ?_, fun s n => ?_⟩
    · obtain ⟨j1, j2, j3, j4⟩ := l2 r hr
      obtain ⟨u, hu, k1, k2, k3⟩ := i2 t ht
      rw [apart_iff]
      rcases (apart_iff _ _).mp ((List.pairwise_cons.mp ha.1).1 u hu) with ⟨e, k⟩ | k
      · exact .inl ⟨j1.trans (e.trans k1.symm), by omega⟩
      · exact .inr (by rw [j1, k1]; exact k)
    · rcases List.mem_append.mp hr with hr | hr
      · exact (l2 r hr).2.2.1
      · exact i1.2 r hr
    · rcases List.mem_append.mp hr with hr | hr
      · obtain ⟨j1, j2, j3, j4⟩ := l2 r hr
        exact ⟨x, List.mem_cons_self, j1, j2, j4⟩
      · obtain ⟨u, hu, k⟩ := i2 r hr
        exact ⟨u, List.mem_cons_of_mem _ hu, k⟩
    · rw [has_app, l3, i3, has_cons]
      constructor
      · rintro (⟨h1, h2, h3, h4⟩ | ⟨h1, h2⟩)
        · subst h1
          exact ⟨.inl ⟨rfl, h2, h3⟩, fun z => h4 ((skip_has b _ _ _ _ (.inl ⟨rfl, h2⟩)).mpr z)⟩
        · refine ⟨.inr h1, fun z => h2 ((skip_has b _ _ _ _ ?_).mpr z)⟩
          rcases canon_first ha h1 with ⟨e, k⟩ | k
          · exact .inl ⟨e.symm, by omega⟩
          · exact .inr k
      · rintro ⟨⟨k1, k2, k3⟩ | h1, h2⟩
        · refine .inl ⟨k1.symm, k2, k3, fun z => h2 ((skip_has b _ _ _ _ (.inl ⟨k1.symm, k2⟩)).mp z)⟩
        · refine .inr ⟨h1, fun z => h2 ((skip_has b _ _ _ _ ?_).mp z)⟩
          rcases canon_first ha h1 with ⟨e, k⟩ | k
          · exact .inl ⟨e.symm, by omega⟩
          · exact .inr k
/-! ### rules and promises of together, both, less -/
def rLeP (K : PySem.W.Frag) : R2 := fun x y H Q => ∃ (a b : Addr) (s t : Str) (i j : Int), x = .ref a ∧ y = .ref b ∧ SqT K H a [.str s, .int i] ∧ SqT K H b [.str t, .int j] ∧ Q (.bl (lexLe s i t j)) H
theorem op_leP {X : Cx} {k : Nat} (hr : Room k X.A) : OpR X (compareOp .LtE) (rLeP X.K) := by
  intro pins s σ H x y v u Q I rx ry h
  obtain ⟨a, b, p, q, i, j, rfl, rfl, ha, hb, q'⟩ := h
  have un := hr.un
  obtain ⟨as, r1⟩ := Dp.reads I (.tuple [.str p, .int i]) (.ref a) _ (.tup ha (.cons (.str _) (.cons (.int _) .nil))) rx
  obtain ⟨bs, r2⟩ := Dp.reads I (.tuple [.str q, .int j]) (.ref b) _ (.tup hb (.cons (.str _) (.cons (.int _) .nil))) ry
  refine PySem.W.le_data r1 r2 (by simp [PySem.W.alike, PySem.W.alikeAll]) nofun ?_ ⟨.bl _, H, I, rfl, q'⟩
  simp only [PyData.depth, PyData.depthAll]
  omega
/-- runs in a tuple -/
def TpAt (K : PySem.W.Frag) (H : Hp) (t : Addr) (rs : List Rn) : Prop := ∃ qs : List Addr, SqT K H t (qs.map V.ref) ∧ Prd H qs rs
theorem TpAt.same {K : PySem.W.Frag} {H H' : Hp} {t : Addr} {rs : List Rn} (s : Same H H') (h : TpAt K H t rs) : TpAt K H' t rs := by
  obtain ⟨qs, h1, h2⟩ := h
  exact ⟨qs, SqT.sm s h1, Prd.same s h2⟩
theorem TpAt.of {K : PySem.W.Frag} {H : Hp} {t : Addr} {qs : List Addr} {rs : List Rn} (h : H t = some (.tup (qs.map V.ref))) (k : Prd H qs rs) : TpAt K H t rs := ⟨qs, SqT.of h, k⟩
theorem TpAt.dp {K : PySem.W.Frag} {H : Hp} {t : Addr} {rs : List Rn} (h : TpAt K H t rs) : Dp K H (.ref t) (rnsD rs) := by
  obtain ⟨qs, h1, h2⟩ := h
  exact .tup h1 (Prd.dp h2)
/-- a def of two RUNS that tells RUNS -/
def spTwo (K : PySem.W.Frag) (F : List Rn → List Rn → List Rn) : Sp := fun vs H Q _ => ∃ (a b : Addr) (rs ts : List Rn), vs = [.ref a, .ref b] ∧ TpAt K H a rs ∧ TpAt K H b ts ∧ rs.length ≤ 3000 ∧ ts.length ≤ 3000 ∧
  ∀ (t : Addr) (qs : List Addr) (H' : Hp), Same H H' → H t = none → H' t = some (.tup (qs.map V.ref)) → Prd H' qs (F rs ts) → Q (.ref t) H'
def togL (a b : List Rn) : List Rn := runsOf (a ++ b)
def spLeft (K : PySem.W.Frag) : Sp := fun vs H Q _ => ∃ (x b : Addr) (k : Nat) (r : Rn) (ts : List Rn), vs = [.ref x, .ref b, .int k] ∧ H x = some (.tup (rnV r)) ∧ TpAt K H b ts ∧ ts.length ≤ 3000 ∧ k ≤ ts.length ∧
  ∀ (t : Addr) (qs : List Addr) (H' : Hp), Same H H' → H t = none → H' t = some (.lst (qs.map V.ref)) → Prd H' qs (leftL r.1 r.2.2 r.2.1 (ts.drop k)) → Q (.ref t) H'
theorem left_len (s : Str) (hi : Int) : ∀ (b : List Rn) (lo : Int), (leftL s hi lo b).length ≤ b.length + 1
  | [], lo => by
    show (tailL s lo hi).length ≤ 1
    unfold tailL
    split
    · exact Nat.le_refl 1
    · exact Nat.zero_le 1
  | o :: b, lo => by
    unfold leftL
    have t1 : ∀ x y : Int, (tailL s x y).length ≤ 1 := fun x y => by
      unfold tailL
      split
      · exact Nat.le_refl 1
      · exact Nat.zero_le 1
    split
    · have z := left_len s hi b o.2.2
      have y := t1 lo o.2.1
      rw [List.length_append, List.length_cons]
      omega
    · have y := t1 lo hi
      rw [List.length_cons]
      omega
theorem drop_at {α : Type} {l : List α} {k : Nat} {x : α} (h : l[k]? = some x) : l.drop k = x :: l.drop (k + 1) := by
  obtain ⟨hk, e⟩ := List.getElem?_eq_some_iff.mp h
  rw [List.drop_eq_getElem_cons hk, e]
theorem drop_end {α : Type} {l : List α} {k : Nat} (h : l.length ≤ k) : l.drop k = [] := List.drop_eq_nil_of_le h
/-- the run at place k of RUNS -/
theorem tp_at {H : Hp} {qs : List Addr} {rs : List Rn} (h : Prd H qs rs) {k : Nat} (hk : k < rs.length) : ∃ p r, atI (qs.map V.ref) (k : Int) = some (.ref p) ∧ rs[k]? = some r ∧ H p = some (.tup (rnV r)) := by
  have hk2 : k < qs.length := by rw [h.len]; exact hk
  obtain ⟨r, h1, h2⟩ := Prd.get h (List.getElem?_eq_getElem hk2)
  exact ⟨qs[k], r, atI_nat (by rw [List.getElem?_map, List.getElem?_eq_getElem hk2]; rfl), h1, h2⟩
def rEqP (K : PySem.W.Frag) (neg : Bool) : R2 := fun x y H Q => ∃ d e, Dp K H x d ∧ Dp K H y e ∧ d.plain = true ∧ e.plain = true ∧ d.depth ≤ 60 ∧ Q (.bl (xor neg (PyData.eqv d e))) H
theorem op_eqP {X : Cx} {k : Nat} (hr : Room k X.A) : OpR X (compareOp .Eq) (rEqP X.K false) := by
  intro pins s σ H x y v u Q I rx ry h
  obtain ⟨d, e, hd, he, p1, p2, dep, q⟩ := h
  have un := hr.un
  obtain ⟨as, r1⟩ := Dp.reads I d x v hd rx
  obtain ⟨bs, r2⟩ := Dp.reads I e y u he ry
  rw [Bool.false_xor] at q
  exact PySem.SeqAt.eq_plain r1 r2 p1 p2 (by omega) ⟨.bl _, H, I, rfl, q⟩
theorem op_neP {X : Cx} {k : Nat} (hr : Room k X.A) : OpR X (compareOp .NotEq) (rEqP X.K true) := by
  intro pins s σ H x y v u Q I rx ry h
  obtain ⟨d, e, hd, he, p1, p2, dep, q⟩ := h
  have un := hr.un
  obtain ⟨as, r1⟩ := Dp.reads I d x v hd rx
  obtain ⟨bs, r2⟩ := Dp.reads I e y u he ry
  rw [Bool.true_xor] at q
  exact PySem.SeqAt.ne_plain r1 r2 p1 p2 (by omega) ⟨.bl _, H, I, rfl, q⟩
theorem rns_plain (rs : List Rn) : (rnsD rs).plain = true := by
  have all : ∀ l : List Rn, PyData.plainAll (l.map rnD) = true := fun l => by
    induction l with
    | nil => rfl
    | cons r l ih =>
      rw [List.map_cons]
      simp only [PyData.plainAll, ih, rnD, PyData.plain, Bool.and_self]
  exact all rs
theorem rns_eqv : ∀ a b : List Rn, PyData.eqv (rnsD a) (rnsD b) = decide (a = b)
  | [], [] => rfl
  | [], y :: b => by simp [rnsD, PyData.eqv, PyData.eqvAll]
  | x :: a, [] => by simp [rnsD, PyData.eqv, PyData.eqvAll]
  | x :: a, y :: b => by
    have ih := rns_eqv a b
    have e : PyData.eqv (rnsD (x :: a)) (rnsD (y :: b)) = (PyData.eqv (rnD x) (rnD y) && PyData.eqv (rnsD a) (rnsD b)) := by
      unfold rnsD
      rw [List.map_cons, List.map_cons]
      simp only [PyData.eqv, PyData.eqvAll]
    have e2 : PyData.eqv (rnD x) (rnD y) = decide (x = y) := by
      obtain ⟨x1, x2, x3⟩ := x
      obtain ⟨y1, y2, y3⟩ := y
      rw [Bool.eq_iff_iff]
      simp [rnD, PyData.eqv, PyData.eqvAll]
    rw [e, ih, e2, Bool.eq_iff_iff]
    simp
theorem rnsD_depth (rs : List Rn) : (rnsD rs).depth ≤ 60 := by
  have z := rns_depth rs
  simp only [rnsD, PyData.depth]
  omega
theorem both_len : ∀ a b : List Rn, (bothL a b).length ≤ a.length + b.length
  | [], b => by rw [both_nil]; exact Nat.zero_le _
  | x :: a, [] => by rw [both_nil2]; exact Nat.zero_le _
  | x :: a, y :: b => by
    rw [both_cons, List.length_append]
    have m : (meet x y).length ≤ 1 := by
      unfold meet
      split
      · exact Nat.le_refl 1
      · exact Nat.zero_le 1
    split
    · have z := both_len a (y :: b)
      rw [List.length_cons (as := b)] at z
      rw [List.length_cons, List.length_cons]
      omega
    · have z := both_len (x :: a) b
      rw [List.length_cons (as := a)] at z
      rw [List.length_cons, List.length_cons]
      omega
termination_by a b => a.length + b.length
theorem skip_len (s : Str) (lo : Int) (b : List Rn) : (skipL s lo b).length ≤ b.length := (List.dropWhile_suffix _).sublist.length_le
/-- pieces left of all: no more than runs of both -/
theorem less_len : ∀ a b : List Rn, (lessL a b).length ≤ (a.length) * (b.length + 1)
  | [], b => Nat.zero_le _
  | x :: a, b => by
    unfold lessL
    have z1 := left_len x.1 x.2.2 (skipL x.1 x.2.1 b) x.2.1
    have z2 := less_len a (skipL x.1 x.2.1 b)
    have z3 := skip_len x.1 x.2.1 b
    have z4 : a.length * ((skipL x.1 x.2.1 b).length + 1) ≤ a.length * (b.length + 1) := Nat.mul_le_mul (Nat.le_refl _) (by omega)
    rw [List.length_append, List.length_cons, Nat.succ_mul]
    omega
def spWithin (K : PySem.W.Frag) : Sp := fun vs H Q _ => ∃ (a b : Addr) (rs ts : List Rn), vs = [.ref a, .ref b] ∧ TpAt K H a rs ∧ TpAt K H b ts ∧ rs.length ≤ 3000 ∧ ts.length ≤ 3000 ∧
  ∀ H', Same H H' → Q (.bl (decide (lessL rs ts = []))) H'
def ofL (s : Str) (rs : List Rn) : List Rn := rs.filter fun r => decide (r.1 = s)
def spOfs (K : PySem.W.Frag) : Sp := fun vs H Q _ => ∃ (a : Addr) (s : Str) (rs : List Rn), vs = [.ref a, .str s] ∧ TpAt K H a rs ∧ rs.length ≤ 3000 ∧
  ∀ (t : Addr) (qs : List Addr) (H' : Hp), Same H H' → H t = none → H' t = some (.tup (qs.map V.ref)) → Prd H' qs (ofL s rs) → Q (.ref t) H'
/-! ### the three of k04 -/
def rTupOf (K : PySem.W.Frag) : List V → Hp → VK → Prop := fun xs H Q => ∃ p ys, xs = [V.ref p] ∧ ((SqL K H p ys ∧ ∀ l, H l = none → Q (V.ref l) (upd H l (.tup ys))) ∨ SqT K H p ys ∧ Q (V.ref p) H)
def Pq (rs ts : List Rn) (q : Nat) (s : Str) (n : Int) : Bool := if q = 0 then hasB rs s n || hasB ts s n else if q = 1 then hasB rs s n && hasB ts s n else hasB rs s n && !hasB ts s n
def dueL (rs ts : List Rn) (q : Nat) : List Rn := if q = 0 then togL rs ts else if q = 1 then bothL rs ts else lessL rs ts
/-- t + u, whichever tuple that is -/
def rCatU (K : PySem.W.Frag) : R2 := fun x y H Q => ∃ a b xs ys, x = .ref a ∧ y = .ref b ∧ SqT K H a xs ∧ SqT K H b ys ∧ xs.length + ys.length ≤ sizeLine ∧ ∀ W H', Same H H' → SqT K H' W (xs ++ ys) → Q (.ref W) H'
theorem op_catU {X : Cx} : OpR X (binaryOp .Add) (rCatU X.K) := by
  intro pins s σ H x y v u Q I rx ry h
  obtain ⟨a, b, xs, ys, rfl, rfl, ha, hb, hl, q⟩ := h
  refine op_catA pins s σ H _ _ v u Q I rx ry ⟨a, b, xs, ys, rfl, rfl, ha, hb, hl, fun e => ?_, fun _ e => ?_, fun _ _ p hp => ?_⟩
  · subst e
    exact q b H (Same.refl _) hb
  · subst e
    exact q a H (Same.refl _) (by rw [List.append_nil]; exact ha)
  · exact q p _ (same_new hp _) (SqT.of upd_same)
theorem three_made {rs ts : List Rn} {ns : List Str} {cs : List Int} (hr : Canon rs) (ht : Canon ts) (h1 : Ends rs ns cs) (h2 : Ends ts ns cs) (hn : ns.Pairwise sl) (hc : cs.Pairwise (· < ·)) (q : Nat) : mades (Pq rs ts q) ns cs = dueL rs ts q := by
  obtain ⟨y1, y2⟩ := mades_ok (P := Pq rs ts q) hn hc (fun s p n k1 k2 k3 => by
    unfold Pq
    rw [hasB_flat h1 hc k1 k2 k3, hasB_flat h2 hc k1 k2 k3]) (fun s n h => by
    unfold Pq at h
    split at h
    · rcases Bool.or_eq_true_iff.mp h with h | h
      · exact hasB_only h1 hc h
      · exact hasB_only h2 hc h
    · split at h
      · exact hasB_only h1 hc (Bool.and_eq_true_iff.mp h).1
      · exact hasB_only h1 hc (Bool.and_eq_true_iff.mp h).1)
  unfold dueL
  unfold Pq at y1 y2 ⊢
  split
  · rename_i e
    simp only [if_pos e] at y1 y2 ⊢
    have full : Full (rs ++ ts) := fun r hr' => by
      rcases List.mem_append.mp hr' with z | z
      · exact hr.2 r z
      · exact ht.2 r z
    exact (runsOf_eq full y1 fun s n => by rw [y2, has_app, Bool.or_eq_true, hasB_iff, hasB_iff]).symm
  · rename_i e
    simp only [if_neg e] at y1 y2 ⊢
    split
    · rename_i e2
      simp only [if_pos e2] at y1 y2 ⊢
      obtain ⟨b1, b2⟩ := both_ok rs ts hr ht
      exact canon_uniq y1 b1 fun s n => by rw [y2, b2, Bool.and_eq_true, hasB_iff, hasB_iff]
    · rename_i e2
      simp only [if_neg e2] at y1 y2 ⊢
      obtain ⟨b1, _, b2⟩ := less_ok rs ts hr ht
      refine canon_uniq y1 b1 fun s n => ?_
      rw [y2, b2, Bool.and_eq_true, hasB_iff, Bool.not_eq_true', ← Bool.not_eq_true, hasB_iff]
theorem ends_of2 {rs : List Rn} {ns : List Str} {cs : List Int} (h1 : ∀ s, s ∈ ns ↔ s ∈ rs.map (·.1)) (h2 : ∀ i, i ∈ cs ↔ i ∈ rs.map (·.2.1) ++ rs.map (·.2.2)) : Ends rs ns cs := fun r hr => by
  refine ⟨(h1 _).mpr (List.mem_map.mpr ⟨r, hr, rfl⟩), (h2 _).mpr ?_, (h2 _).mpr ?_⟩
  · exact List.mem_append_left _ (List.mem_map.mpr ⟨r, hr, rfl⟩)
  · exact List.mem_append_right _ (List.mem_map.mpr ⟨r, hr, rfl⟩)
theorem Ends.left {a b : List Rn} {ns : List Str} {cs : List Int} (h : Ends (a ++ b) ns cs) : Ends a ns cs := fun r hr => h r (List.mem_append_left _ hr)
theorem Ends.right {a b : List Rn} {ns : List Str} {cs : List Int} (h : Ends (a ++ b) ns cs) : Ends b ns cs := fun r hr => h r (List.mem_append_right _ hr)
/-- what stands in part q when j pieces of the i-th series are looked at -/
def stL (rs ts : List Rn) (ss : List Str) (cs : List Int) (q i j : Nat) (s : Str) : List Rn := (((ss.take i).flatMap fun s => goods (Pq rs ts q) s (pcs cs)) ++ goods (Pq rs ts q) s ((pcs cs).take j)).foldl join []
def spThree (K : PySem.W.Frag) : Sp := fun vs H Q _ => ∃ (a b : Addr) (rs ts : List Rn), vs = [.ref a, .ref b] ∧ TpAt K H a rs ∧ TpAt K H b ts ∧ Canon rs ∧ Canon ts ∧ rs.length ≤ 1000 ∧ ts.length ≤ 1000 ∧
  ∀ (D t0 t1 t2 : Addr) (H' : Hp), Same H H' → H D = none → H' D = some (.lst [.ref t0, .ref t1, .ref t2]) → TpAt K H' t0 (togL rs ts) → TpAt K H' t1 (bothL rs ts) → TpAt K H' t2 (lessL rs ts) → Q (.ref D) H'
/-- good RUNS in a tuple -/
structure Rg (K : PySem.W.Frag) (H : Hp) (t : Addr) (rs : List Rn) (n : Nat) : Prop where
  tp : TpAt K H t rs
  ca : Canon rs
  len : rs.length ≤ n
  ok : ∀ r ∈ rs, RnOk r ∧ NmOk r.1
theorem Rg.same {K : PySem.W.Frag} {H H' : Hp} {t : Addr} {rs : List Rn} {n : Nat} (s : Same H H') (h : Rg K H t rs n) : Rg K H' t rs n := ⟨h.tp.same s, h.ca, h.len, h.ok⟩
theorem Rg.mono {K : PySem.W.Frag} {H : Hp} {t : Addr} {rs : List Rn} {n m : Nat} (h : Rg K H t rs n) (l : n ≤ m) : Rg K H t rs m := ⟨h.tp, h.ca, Nat.le_trans h.len l, h.ok⟩
theorem push_all {acc : List Rn} {r : Rn} (h : ∀ x ∈ acc, RnOk x ∧ NmOk x.1) (hr : RnOk r ∧ NmOk r.1) : ∀ x ∈ push acc r, RnOk x ∧ NmOk x.1 := by
  rcases nil_or_snoc acc with rfl | ⟨i, l, rfl⟩
  · intro x hx
    rw [List.mem_singleton.mp (show x ∈ [r] from hx)]
    exact hr
  · rw [push_snoc]
    split
    · intro x hx
      rcases List.mem_append.mp hx with hx | hx
      · exact h x hx
      · rw [List.mem_singleton.mp hx]
        exact hr
    · intro x hx
      rcases List.mem_append.mp hx with hx | hx
      · exact h x (List.mem_append_left _ hx)
      · rw [List.mem_singleton.mp hx]
        obtain ⟨⟨a1, a2, a3⟩, a4⟩ := h l (List.mem_append_right _ List.mem_cons_self)
        obtain ⟨⟨b1, b2, b3⟩, b4⟩ := hr
        refine ⟨⟨a1, ?_, ?_⟩, a4⟩
        · show l.2.1 < if r.2.2 > l.2.2 then r.2.2 else l.2.2
          split <;> omega
        · show (if r.2.2 > l.2.2 then r.2.2 else l.2.2) ≤ _
          split <;> omega
theorem runsOf_all {rs : List Rn} (h : ∀ x ∈ rs, RnOk x ∧ NmOk x.1) : ∀ x ∈ runsOf rs, RnOk x ∧ NmOk x.1 := by
  have all : ∀ (l acc : List Rn), (∀ x ∈ l, RnOk x ∧ NmOk x.1) → (∀ x ∈ acc, RnOk x ∧ NmOk x.1) → ∀ x ∈ l.foldl push acc, RnOk x ∧ NmOk x.1 := fun l => by
    induction l with
    | nil => exact fun _ _ h => h
    | cons r l ih => exact fun acc h1 h2 => ih _ (fun x hx => h1 x (List.mem_cons_of_mem _ hx)) (push_all h2 (h1 r List.mem_cons_self))
  exact all _ [] (fun x hx => h x (List.mem_mergeSort.mp hx)) fun _ h => nomatch h
theorem both_all {a b : List Rn} (ha : ∀ x ∈ a, RnOk x ∧ NmOk x.1) (hb : ∀ x ∈ b, RnOk x ∧ NmOk x.1) : ∀ x ∈ bothL a b, RnOk x ∧ NmOk x.1 := fun x hx => by
  obtain ⟨u, hu, v, hv, z⟩ := both_in a b x hx
  obtain ⟨r0, r1, r2, r3, r4⟩ := meet_in.mp z
  obtain ⟨⟨a1, a2, a3⟩, a4⟩ := ha u hu
  obtain ⟨⟨b1, b2, b3⟩, _⟩ := hb v hv
  have m1 := mx_is u.2.1 v.2.1
  have m2 := mn_is u.2.2 v.2.2
  exact ⟨⟨by omega, r4, by omega⟩, r1 ▸ a4⟩
theorem less_all {a b : List Rn} (ca : Canon a) (cb : Canon b) (ha : ∀ x ∈ a, RnOk x ∧ NmOk x.1) : ∀ x ∈ lessL a b, RnOk x ∧ NmOk x.1 := fun x hx => by
  obtain ⟨z1, z2, _⟩ := less_ok a b ca cb
  obtain ⟨u, hu, k1, k2, k3⟩ := z2 x hx
  obtain ⟨⟨a1, a2, a3⟩, a4⟩ := ha u hu
  exact ⟨⟨by omega, z1.2 x hx, by omega⟩, k1 ▸ a4⟩
/-- less has no more runs than both together -/
theorem left_len2 (s : Str) (hi : Int) : ∀ (b : List Rn) (lo : Int), ∃ k, k ≤ b.length ∧ (leftL s hi lo b).length ≤ k + 1 := fun b lo => ⟨b.length, Nat.le_refl _, left_len s hi b lo⟩
def spRight3 (K : PySem.W.Frag) : Sp := fun vs H Q _ => ∃ (a b : Addr) (rs ts : List Rn), vs = [.ref a, .ref b] ∧ Rg K H a rs 1000 ∧ Rg K H b ts 1000 ∧ (lessL rs ts).length ≤ 100000 ∧ ∀ H', Same H H' → Q (.bl true) H'
theorem pair_show {a b : List Rn} (ha : ∀ r ∈ a, RnOk r ∧ NmOk r.1) (hb : ∀ r ∈ b, RnOk r ∧ NmOk r.1) (la : a.length ≤ 1000) (lb : b.length ≤ 1000) :
    (PyData.tuple [rnsD a, rnsD b]).showable = true ∧ (PyData.tuple [rnsD a, rnsD b]).hasDict = false ∧ (PyData.tuple [rnsD a, rnsD b]).depth ≤ 60 ∧ (PyData.tuple [rnsD a, rnsD b]).shown.length ≤ sizeLine := by
  obtain ⟨x1, x2⟩ := rns_fine a ha
  obtain ⟨y1, y2⟩ := rns_fine b hb
  have f : fineD (.tuple [rnsD a, rnsD b]) = true := by
    show (fineAll (a.map rnD) && (fineAll (b.map rnD) && true)) = true
    rw [x1, y1]
    rfl
  have c := shown_cost _ f
  have e : cost (.tuple [rnsD a, rnsD b]) = ((costAll (a.map rnD) + 3) + 2 + ((costAll (b.map rnD) + 3) + 2 + 0)) + 3 := rfl
  have d1 := rns_depth a
  have d2 := rns_depth b
  obtain ⟨s1, s2⟩ := fine_show _ f
  refine ⟨s1, s2, ?_, Nat.le_trans c (Nat.le_trans (show _ ≤ 11000000 by omega) (by decide))⟩
  simp only [rnsD, PyData.depth, PyData.depthAll]
  omega
theorem stL_more {rs ts : List Rn} {ss : List Str} {cs : List Int} {q i j : Nat} {s : Str} {p : Int × Int} (h : (pcs cs)[j]? = some p) : stL rs ts ss cs q i (j + 1) s = if Pq rs ts q s p.1 = true then join (stL rs ts ss cs q i j s) (s, p.1, p.2) else stL rs ts ss cs q i j s := by
  unfold stL
  rw [goods_more h]
  split
  · rw [← List.append_assoc, List.foldl_append]
    rfl
  · rw [List.append_nil]
theorem stL_next {rs ts : List Rn} {ss : List Str} {cs : List Int} {q i : Nat} {s s' : Str} (h : ss[i]? = some s) : stL rs ts ss cs q i (pcs cs).length s = stL rs ts ss cs q (i + 1) 0 s' := by
  obtain ⟨hi, e⟩ := List.getElem?_eq_some_iff.mp h
  unfold stL
  rw [List.take_length, List.take_succ_eq_append_getElem hi, List.flatMap_append, e, List.flatMap_singleton]
  have z : goods (Pq rs ts q) s' ((pcs cs).take 0) = [] := rfl
  rw [z, List.append_nil]
theorem stL_end {rs ts : List Rn} {ss : List Str} {cs : List Int} {q : Nat} {s : Str} : stL rs ts ss cs q ss.length 0 s = mades (Pq rs ts q) ss cs := by
  unfold stL mades
  have z : goods (Pq rs ts q) s ((pcs cs).take 0) = [] := rfl
  rw [List.take_length, z, List.append_nil]
theorem stL_len {rs ts : List Rn} {ss : List Str} {cs : List Int} {q i j : Nat} {s : Str} (h1 : ss.length ≤ 2000) (h2 : cs.length ≤ 4000) : (stL rs ts ss cs q i j s).length < sizeLine := by
  have z0 := fold_join_len (((ss.take i).flatMap fun s => goods (Pq rs ts q) s (pcs cs)) ++ goods (Pq rs ts q) s ((pcs cs).take j)) []
  have z1 := flat_goods_len (P := Pq rs ts q) (pcs cs) (ss.take i)
  have z2 := goods_len (P := Pq rs ts q) (s := s) ((pcs cs).take j)
  have z3 := pcs_len cs
  rw [List.length_take] at z1 z2
  have z4 : min i ss.length * (pcs cs).length ≤ 2000 * 4000 := Nat.mul_le_mul (by omega) (by omega)
  rw [List.length_append, List.length_nil] at z0
  unfold stL
  exact Nat.lt_of_le_of_lt (show _ ≤ 9000000 by omega) (by decide)
def A3 (p0 p1 p2 : Addr) (q : Nat) : Addr := if q = 0 then p0 else if q = 1 then p1 else p2
theorem all3 {T : Nat → Prop} (h0 : T 0) (h1 : T 1) (h2 : T 2) : ∀ q, q < 3 → T q := fun q hq => by
  rcases (show q = 0 ∨ q = 1 ∨ q = 2 by omega) with rfl | rfl | rfl
  · exact h0
  · exact h1
  · exact h2
/-! ### a call of a def that is told that no repr is under way -/
theorem FnG.mono {P : Program} {w : World} {K : PySem.W.Frag} {mg : Str → Option Value} {base : Heap} {j k : Nat} {f : Addr} {fd : FuncData} {ps : List Str} {sp : Sp} (F : FnG P w K mg base j f fd ps sp) (h : j ≤ k) : FnG P w K mg base k f fd ps sp :=
  ⟨F.len, fun A outer s H args us vs Q E room => F.run A outer s H args us vs Q E (room.mono h)⟩
theorem pe_callG {X : Cx} {k : Nat} {f : Addr} {fd : FuncData} {ps : List Str} {sp : Sp} {x : Str} {ds : List Value} {dvs : List V} {E : XK} {e : Expr} {es : List Expr} {t : TA} {p pos : Pos}
    (F : FnG X.prog X.w X.K X.mg X.base k f fd ps sp) (gu : X.A.guards = some []) (room : Room k X.A) (gl : Gl X x) (hm : X.mg x = some (.ref f)) (kp : PySem.W.keepIn X.K (.ref f) = true) (bi : Binds X.K fd ps ds) (hd : Vals dvs ds) (pass : Passes CX0 X E)
    (ha : PA X (e :: es) t) (ndb : (x == ("__debug__" : Str)) = false := by decide) (st : starEach (e :: es) X.env = (false, eval e X.env) :: starEach es X.env := by rfl) (np : (backTo pos (starEach es X.env)).any (·.1) = false := by rfl) :
    PE X (.Call (.Name x p) (e :: es) [] pos) (tCall sp dvs E t) := by
  constructor
  intro pins s σ H Q I wish
  refine wpAny_Call_Name_kw (ld_glob I gl hm ?_ ndb)
  refine PySem.W.callWith_K (h₀ := X.base) I.ok.mod.kin kp (thn (ha.run pos pins s σ H _ I wish) fun us s1 ⟨vs, H1, I1, rel, q⟩ => ⟨I1.kIn, ?_⟩) st np
  have rel2 : Vals (vs ++ dvs) (us ++ ds) := rel.append hd
  have len : (us ++ ds).length = ps.length := rel2.length.symm.trans (F.len _ _ _ _ q)
  refine wpAny_call (codeAny_mono (F.run X.A X.stack s1 H1 ⟨us, []⟩ (us ++ ds) (vs ++ dvs) Q E room gu I1.env0 (bi s1 us I1.kIn len) rel2 q) fun res s2 told => ?_)
  match res, told with
  | .error er, told => exact pass pins σ H1 s1 er s2 I1 told
  | .ok (.ret u), told => exact I1.after told
  | .ok .next, told => exact told.elim
  | .ok .brk, told => exact told.elim
  | .ok .cont, told => exact told.elim
/-! ### what leads where: walks, the going by way of each place, the search by widths -/
abbrev Ed := Str × Str
def Wlk (E : List Ed) : Nat → Str → Str → Prop
  | 0, x, y => x = y
  | n + 1, x, y => ∃ z, Wlk E n x z ∧ (z, y) ∈ E
theorem wlk_app {E : List Ed} {n : Nat} {x z : Str} (h : Wlk E n x z) : ∀ {m : Nat} {y : Str}, Wlk E m z y → Wlk E (n + m) x y
  | 0, _, k => by
    cases (show z = _ from k)
    exact h
  | m + 1, _, ⟨u, k1, k2⟩ => ⟨u, wlk_app h k1, k2⟩
def Least (E : List Ed) (x y : Str) (n : Nat) : Prop := Wlk E n x y ∧ ∀ m, Wlk E m x y → n ≤ m
theorem least_one {E : List Ed} {x y : Str} {n m : Nat} (h : Least E x y n) (k : Least E x y m) : n = m := Nat.le_antisymm (h.2 m k.1) (k.2 n h.1)
abbrev Ap := Str → Str → Option Nat
structure FwOk (E : List Ed) (V : Str → Prop) (S : Str → Prop) (d : Ap) : Prop where
  sound : ∀ x y n, d x y = some n → Wlk E n x y
  refl : ∀ x, V x → d x x = some 0
  edge : ∀ x y, (x, y) ∈ E → ∃ n, d x y = some n ∧ n ≤ 1
  tri : ∀ z, S z → ∀ x y a b, d x z = some a → d z y = some b → ∃ n, d x y = some n ∧ n ≤ a + b
  dom : ∀ x y n, d x y = some n → V x ∧ V y
def fwMin (o : Option Nat) (n : Nat) : Nat := match o with
  | some c => if n < c then n else c
  | none => n
def fwStep (d : Ap) (v : Str) : Ap := fun x y => match d x v, d v y with
  | some a, some b => some (fwMin (d x y) (a + b))
  | _, _ => d x y
theorem fw_val {d : Ap} {v x y : Str} {a b : Nat} (h1 : d x v = some a) (h2 : d v y = some b) : fwStep d v x y = some (fwMin (d x y) (a + b)) := by
  unfold fwStep
  rw [h1, h2]
theorem fw_none {d : Ap} {v x y : Str} (h : d x v = none ∨ d v y = none) : fwStep d v x y = d x y := by
  unfold fwStep
  rcases h with h | h
  · rw [h]
  · rw [h]
    cases d x v <;> rfl
theorem fwMin_le (o : Option Nat) (n : Nat) : fwMin o n ≤ n ∧ (∀ c, o = some c → fwMin o n ≤ c) ∧ (fwMin o n = n ∨ o = some (fwMin o n)) := by
  unfold fwMin
  cases o with
  | none => exact ⟨Nat.le_refl _, fun _ h => (nomatch h), .inl rfl⟩
  | some c =>
    dsimp only
    split
    · exact ⟨Nat.le_refl _, fun c' h => by cases h; omega, .inl rfl⟩
    · exact ⟨by omega, fun c' h => by cases h; omega, .inr rfl⟩
theorem fw_le {d : Ap} {v x y : Str} {c : Nat} (h : d x y = some c) : ∃ n, fwStep d v x y = some n ∧ n ≤ c := by
  cases h1 : d x v with
  | none => exact ⟨c, (fw_none (.inl h1)).trans h, Nat.le_refl _⟩
  | some a =>
    cases h2 : d v y with
    | none => exact ⟨c, (fw_none (.inr h2)).trans h, Nat.le_refl _⟩
    | some b => exact ⟨_, fw_val h1 h2, (fwMin_le _ _).2.1 c h⟩
theorem fw_via {d : Ap} {v x y : Str} {a b : Nat} (h1 : d x v = some a) (h2 : d v y = some b) : ∃ n, fwStep d v x y = some n ∧ n ≤ a + b := ⟨_, fw_val h1 h2, (fwMin_le _ _).1⟩
theorem fw_cases {d : Ap} {v x y : Str} {n : Nat} (h : fwStep d v x y = some n) : d x y = some n ∨ ∃ a b, d x v = some a ∧ d v y = some b ∧ n = a + b := by
  cases h1 : d x v with
  | none => exact .inl ((fw_none (.inl h1)).symm.trans h)
  | some a =>
    cases h2 : d v y with
    | none => exact .inl ((fw_none (.inr h2)).symm.trans h)
    | some b =>
      have e := (fw_val h1 h2).symm.trans h
      have e := Option.some.inj e
      rcases (fwMin_le (d x y) (a + b)).2.2 with z | z
      · exact .inr ⟨a, b, rfl, rfl, e.symm.trans z⟩
      · rw [e] at z
        exact .inl z
theorem fw_ok {E : List Ed} {V S : Str → Prop} {d : Ap} {v : Str} (h : FwOk E V S d) (hv : V v) : FwOk E V (fun z => S z ∨ z = v) (fwStep d v) where
  sound := fun x y n e => by
    rcases fw_cases e with z | ⟨a, b, z1, z2, rfl⟩
    · exact h.sound x y n z
    · exact wlk_app (h.sound _ _ _ z1) (h.sound _ _ _ z2)
  refl := fun x hx => by
    obtain ⟨n, e, l⟩ := fw_le (v := v) (h.refl x hx)
    rw [e, Nat.le_zero.mp l]
  edge := fun x y e => by
    obtain ⟨n, e1, l1⟩ := h.edge x y e
    obtain ⟨m, e2, l2⟩ := fw_le (v := v) e1
    exact ⟨m, e2, by omega⟩
  tri := fun z hz x y a b e1 e2 => by
    have c1 := fw_cases e1
    have c2 := fw_cases e2
    rcases hz with hz | rfl
    · rcases c1 with c1 | ⟨p, q, p1, p2, rfl⟩ <;> rcases c2 with c2 | ⟨r, s, r1, r2, rfl⟩
      · obtain ⟨n, n1, n2⟩ := h.tri z hz x y a b c1 c2
        obtain ⟨m, m1, m2⟩ := fw_le (v := v) n1
        exact ⟨m, m1, by omega⟩
      · obtain ⟨n, n1, n2⟩ := h.tri z hz x v a r c1 r1
        obtain ⟨m, m1, m2⟩ := fw_via n1 r2
        exact ⟨m, m1, by omega⟩
      · obtain ⟨n, n1, n2⟩ := h.tri z hz v y q b p2 c2
        obtain ⟨m, m1, m2⟩ := fw_via p1 n1
        exact ⟨m, m1, by omega⟩
      · obtain ⟨m, m1, m2⟩ := fw_via p1 r2
        exact ⟨m, m1, by omega⟩
    · have d1 : ∃ a', d x z = some a' ∧ a' ≤ a := by
        rcases c1 with c1 | ⟨p, q, p1, p2, rfl⟩
        · exact ⟨a, c1, Nat.le_refl _⟩
        · exact ⟨p, p1, by omega⟩
      have d2 : ∃ b', d z y = some b' ∧ b' ≤ b := by
        rcases c2 with c2 | ⟨p, q, p1, p2, rfl⟩
        · exact ⟨b, c2, Nat.le_refl _⟩
        · exact ⟨q, p2, by omega⟩
      obtain ⟨a', a1, a2⟩ := d1
      obtain ⟨b', b1, b2⟩ := d2
      obtain ⟨m, m1, m2⟩ := fw_via a1 b1
      exact ⟨m, m1, by omega⟩
  dom := fun x y n e => by
    rcases fw_cases e with z | ⟨a, b, z1, z2, rfl⟩
    · exact h.dom x y n z
    · exact ⟨(h.dom _ _ _ z1).1, (h.dom _ _ _ z2).2⟩
theorem fw_end {E : List Ed} {V S : Str → Prop} {d : Ap} (h : FwOk E V S d) (all : ∀ x, V x → S x) {x : Str} (hx : V x) : ∀ {n : Nat} {y : Str}, Wlk E n x y → ∃ m, d x y = some m ∧ m ≤ n
  | 0, _, k => by
    cases (show x = _ from k)
    exact ⟨0, h.refl x hx, Nat.le_refl _⟩
  | n + 1, y, ⟨z, k1, k2⟩ => by
    obtain ⟨m, m1, m2⟩ := fw_end h all hx k1
    obtain ⟨c, c1, c2⟩ := h.edge z y k2
    obtain ⟨r, r1, r2⟩ := h.tri z (all z (h.dom _ _ _ m1).2) x y m c m1 c1
    exact ⟨r, r1, by omega⟩
theorem fw_least {E : List Ed} {V S : Str → Prop} {d : Ap} (h : FwOk E V S d) (all : ∀ x, V x → S x) {x y : Str} {n : Nat} (hx : V x) (e : d x y = some n) : Least E x y n := by
  refine ⟨h.sound x y n e, fun m k => ?_⟩
  obtain ⟨c, c1, c2⟩ := fw_end h all hx k
  rw [e] at c1
  cases c1
  exact c2
/-- a way from x, its places one behind the other, to the last one -/
inductive Pth (E : List Ed) (x : Str) : List Str → Str → Prop
  | one : Pth E x [x] x
  | snoc {p : List Str} {u v : Str} : Pth E x p u → (u, v) ∈ E → Pth E x (p ++ [v]) v
theorem pth_len {E : List Ed} {x : Str} {p : List Str} {v : Str} (h : Pth E x p v) : ∃ n, p.length = n + 1 ∧ Wlk E n x v := by
  induction h with
  | one => exact ⟨0, rfl, rfl⟩
  | snoc k e ih =>
    obtain ⟨n, n1, n2⟩ := ih
    exact ⟨n + 1, by rw [List.length_append, List.length_singleton, n1], _, n2, e⟩
theorem pth_first {E : List Ed} {x : Str} {p : List Str} {v : Str} (h : Pth E x p v) : ∃ q, p = x :: q := by
  induction h with
  | one => exact ⟨[], rfl⟩
  | snoc k e ih =>
    obtain ⟨q, rfl⟩ := ih
    exact ⟨q ++ [_], rfl⟩
theorem pth_last {E : List Ed} {x : Str} {p : List Str} {v : Str} (h : Pth E x p v) : ∃ q, p = q ++ [v] := by
  cases h with
  | one => exact ⟨[], rfl⟩
  | snoc k e => exact ⟨_, rfl⟩
theorem pth_edges {E : List Ed} {x : Str} {p : List Str} {v : Str} (h : Pth E x p v) : ∀ k a b, p[k]? = some a → p[k + 1]? = some b → (a, b) ∈ E := by
  induction h with
  | one => intro k a b _ h2; exact nomatch h2
  | snoc k e ih =>
    rename_i p u v
    intro i a b h1 h2
    by_cases c : i + 1 < p.length
    · rw [List.getElem?_append_left (by omega)] at h1
      rw [List.getElem?_append_left c] at h2
      exact ih i a b h1 h2
    · obtain ⟨q, rfl⟩ := pth_last k
      rw [List.length_append, List.length_singleton] at c
      have z := (List.getElem?_eq_some_iff.mp h2).1
      rw [List.length_append, List.length_append, List.length_singleton, List.length_singleton] at z
      have ei : i = q.length := by omega
      subst ei
      rw [List.getElem?_append_left (by rw [List.length_append, List.length_singleton]; omega), List.getElem?_concat_length] at h1
      have e2 : q.length + 1 = (q ++ [u]).length := by rw [List.length_append, List.length_singleton]
      rw [e2, List.getElem?_concat_length] at h2
      cases h1
      cases h2
      exact e
abbrev En := Str × List Str
structure Bfs (E : List Ed) (x : Str) (es : List En) (at_ : Nat) : Prop where
  ok : ∀ e ∈ es, Pth E x e.2 e.1
  nodup : (es.map (·.1)).Nodup
  mono : es.Pairwise fun a b => a.2.length ≤ b.2.length
  near : ∀ c, es[at_]? = some c → ∀ e ∈ es, e.2.length ≤ c.2.length + 1
  done : ∀ i c, i < at_ → es[i]? = some c → ∀ y, (c.1, y) ∈ E → ∃ e ∈ es, e.1 = y ∧ e.2.length ≤ c.2.length + 1
  root : ∃ e ∈ es, e.1 = x ∧ e.2.length = 1
theorem bfs_new (E : List Ed) (x : Str) : Bfs E x [(x, [x])] 0 := by
  refine ⟨fun e he => ?_, by simp, List.pairwise_singleton _ _, fun c hc e he => ?_, fun i c hi => absurd hi (Nat.not_lt_zero _), ⟨_, List.mem_cons_self, rfl, rfl⟩⟩
  · rw [List.mem_singleton.mp he]
    exact .one
  · rw [List.mem_singleton.mp he]
    cases Option.some.inj hc
    exact Nat.le_succ _
theorem bfs_add {E : List Ed} {x : Str} {es : List En} {k : Nat} {c : En} {t : Str} (h : Bfs E x es k) (hc : es[k]? = some c) (ht : (c.1, t) ∈ E) (new : ∀ e ∈ es, e.1 ≠ t) : Bfs E x (es ++ [(t, c.2 ++ [t])]) k := by
  have hk := (List.getElem?_eq_some_iff.mp hc).1
  have len : (c.2 ++ [t]).length = c.2.length + 1 := by rw [List.length_append, List.length_singleton]
  refine ⟨fun e he => ?_, ?_, List.pairwise_append.mpr ⟨h.mono, List.pairwise_singleton _ _, fun a ha b hb => ?_⟩, fun c' hc' e he => ?_, fun i c' hi hc' y hy => ?_, ?_⟩
  · rcases List.mem_append.mp he with he | he
    · exact h.ok e he
    · rw [List.mem_singleton.mp he]
      exact .snoc (h.ok c (List.mem_of_getElem? hc)) ht
  · rw [List.map_append, List.nodup_append]
    refine ⟨h.nodup, by simp, fun a ha b hb => ?_⟩
    obtain ⟨e, he, rfl⟩ := List.mem_map.mp ha
    have : b = t := by simpa using hb
    subst this
    exact new e he
  · rw [List.mem_singleton.mp hb]
    show a.2.length ≤ (c.2 ++ [t]).length
    rw [len]
    exact h.near c hc a ha
  · rw [List.getElem?_append_left hk, hc] at hc'
    cases hc'
    rcases List.mem_append.mp he with he | he
    · exact h.near c hc e he
    · rw [List.mem_singleton.mp he]
      show (c.2 ++ [t]).length ≤ _
      rw [len]
      exact Nat.le_refl _
  · rw [List.getElem?_append_left (by omega)] at hc'
    obtain ⟨e, e1, e2⟩ := h.done i c' hi hc' y hy
    exact ⟨e, List.mem_append_left _ e1, e2⟩
  · obtain ⟨e, e1, e2⟩ := h.root
    exact ⟨e, List.mem_append_left _ e1, e2⟩
theorem bfs_next {E : List Ed} {x : Str} {es : List En} {k : Nat} {c : En} (h : Bfs E x es k) (hc : es[k]? = some c) (all : ∀ y, (c.1, y) ∈ E → ∃ e ∈ es, e.1 = y ∧ e.2.length ≤ c.2.length + 1) : Bfs E x es (k + 1) := by
  have hk := (List.getElem?_eq_some_iff.mp hc)
  refine ⟨h.ok, h.nodup, h.mono, fun c' hc' e he => ?_, fun i c' hi hc' y hy => ?_, h.root⟩
  · have hk' := (List.getElem?_eq_some_iff.mp hc')
    have z1 := h.near c hc e he
    have z2 := (List.pairwise_iff_getElem.mp h.mono) k (k + 1) hk.1 hk'.1 (by omega)
    rw [hk.2, hk'.2] at z2
    omega
  · by_cases d : i < k
    · exact h.done i c' d hc' y hy
    · have ei : i = k := by omega
      subst ei
      rw [hc] at hc'
      cases hc'
      exact all y hy
theorem bfs_end {E : List Ed} {x : Str} {es : List En} {k : Nat} (h : Bfs E x es k) (hk : es.length ≤ k) : ∀ {n : Nat} {y : Str}, Wlk E n x y → ∃ e ∈ es, e.1 = y ∧ e.2.length ≤ n + 1
  | 0, _, w => by
    cases (show x = _ from w)
    obtain ⟨e, e1, e2, e3⟩ := h.root
    exact ⟨e, e1, e2, by omega⟩
  | n + 1, y, ⟨z, w1, w2⟩ => by
    obtain ⟨e, e1, e2, e3⟩ := bfs_end h hk w1
    obtain ⟨i, hi, ei⟩ := List.getElem_of_mem e1
    obtain ⟨f, f1, f2, f3⟩ := h.done i e (by omega) (by rw [List.getElem?_eq_getElem hi, ei]) y (by rw [e2]; exact w2)
    exact ⟨f, f1, f2, by omega⟩
theorem fst_inj {es : List En} (h : (es.map (·.1)).Nodup) {a b : En} (ha : a ∈ es) (hb : b ∈ es) (e : a.1 = b.1) : a = b := by
  induction es with
  | nil => exact nomatch ha
  | cons x l ih =>
    rw [List.map_cons, List.nodup_cons] at h
    rcases List.mem_cons.mp ha with ha2 | ha2 <;> rcases List.mem_cons.mp hb with hb2 | hb2
    · rw [ha2, hb2]
    · exact (h.1 (List.mem_map.mpr ⟨b, hb2, by rw [← e, ha2]⟩)).elim
    · exact (h.1 (List.mem_map.mpr ⟨a, ha2, by rw [e, hb2]⟩)).elim
    · exact ih h.2 ha2 hb2
theorem bfs_least {E : List Ed} {x : Str} {es : List En} {k : Nat} (h : Bfs E x es k) (hk : es.length ≤ k) {e : En} (he : e ∈ es) : ∃ n, e.2.length = n + 1 ∧ Least E x e.1 n := by
  obtain ⟨n, n1, n2⟩ := pth_len (h.ok e he)
  refine ⟨n, n1, n2, fun m w => ?_⟩
  obtain ⟨f, f1, f2, f3⟩ := bfs_end h hk w
  cases fst_inj h.nodup f1 he f2
  omega
theorem sub_len {α : Type} [DecidableEq α] : ∀ {l m : List α}, l.Nodup → (∀ x ∈ l, x ∈ m) → l.length ≤ m.length
  | [], _, _, _ => Nat.zero_le _
  | x :: l, m, h, s => by
    obtain ⟨h1, h2⟩ := List.nodup_cons.mp h
    have hx := s x List.mem_cons_self
    have z := sub_len (l := l) (m := m.erase x) h2 fun y hy => (List.mem_erase_of_ne (fun e => h1 (by rw [← e]; exact hy))).mpr (s y (List.mem_cons_of_mem _ hy))
    rw [List.length_erase_of_mem hx] at z
    have : 0 < m.length := List.length_pos_of_mem hx
    rw [List.length_cons]
    omega
theorem pth_in {E : List Ed} {V : Str → Prop} {x : Str} (hx : V x) (hE : ∀ a b, (a, b) ∈ E → V b) {p : List Str} {v : Str} (h : Pth E x p v) : V v := by
  cases h with
  | one => exact hx
  | snoc k e => exact hE _ _ e
/-! ### offices, roads, rows: rules and promises -/
theorem sort_strs (xs : List Str) : sortD (xs.map V.str) (xs.map .str) = (xs.mergeSort fun a b => decide (a.cps.toList ≤ b.cps.toList)).map V.str := by
  have e1 : ((xs.map V.str).zip (xs.map PyData.str)) = xs.map fun x => (V.str x, PyData.str x) := by
    rw [List.zip_map]
    induction xs with
    | nil => rfl
    | cons x l ih =>
      rw [List.zip_cons_cons, List.map_cons, List.map_cons, ih]
      rfl
  unfold sortD
  rw [e1, ← PySem.W.sort_maps (r := fun a b => decide (a.cps.toList ≤ b.cps.toList)) (fun x : Str => (V.str x, PyData.str x)) (fun a _ b _ => (congrFun (congrFun (PySem.W.dataLe_str (β := Str) fun x => x) a) b).symm), List.map_map]
  rfl
theorem sorted_up {xs : List Str} (nd : xs.Nodup) : (xs.mergeSort fun a b => decide (a.cps.toList ≤ b.cps.toList)).Pairwise sl := by
  have up := List.pairwise_mergeSort (le := fun (a b : Str) => decide (a.cps.toList ≤ b.cps.toList)) (fun a b c h1 h2 => by rw [decide_eq_true_eq] at *; exact List.le_trans h1 h2) (fun a b => by rw [Bool.or_eq_true, decide_eq_true_eq, decide_eq_true_eq]; exact List.le_total _ _) xs
  have nd3 : (xs.mergeSort fun a b => decide (a.cps.toList ≤ b.cps.toList)).Nodup := (List.mergeSort_perm xs _).nodup_iff.mpr nd
  refine (up.and nd3).imp fun {a b} h => ?_
  have h1 := of_decide_eq_true h.1
  rcases sl_tot a b with z | z | z
  · exact z
  · exact absurd z h.2
  · exact absurd z (List.not_lt.mpr h1)
/-- sorted of a dict whose keys are texts -/
def rSortDS : List V → Hp → VK → Prop := fun xs H Q => ∃ (a : Addr) (kvs : List (Key × V)) (ks : List Str), xs = [.ref a] ∧ Rd H a (.dK kvs) ∧ kvs.map (·.1) = ks.map Sum.inr ∧ ks.Nodup ∧ ks.length ≤ 100000 ∧
  ∀ (ys : List Str) (p : Addr), ys.Pairwise sl → (∀ y, y ∈ ys ↔ y ∈ ks) → ys.length = ks.length → H p = none → Q (.ref p) (upd H p (.lst (ys.map V.str)))
theorem cr_sortDS {X : Cx} {k : Nat} (hr : Room k X.A) (calm : X.calm = true) : CallR X (.builtin "sorted") rSortDS := by
  intro pins s σ H xs us Q I r h
  obtain ⟨a, kvs, ks, rfl, hd, keys, nd, long, q⟩ := h
  rw [Vals.ref1 r]
  have un := hr.un
  obtain ⟨z, lo, vs, rel, dd⟩ := dk_rd I.hok hd
  obtain ⟨ep, at1⟩ := dd.dictAt
  have vkeys : vs.map (·.1) = ks.map Sum.inr := rel.keys.symm.trans keys
  have len1 : vs.length = ks.length := by simpa using congrArg List.length vkeys
  have line : ks.length ≤ sizeLine := Nat.le_trans long (by decide)
  refine (Calls.call_function_entry PyProof.Rows.kind_sorted PyProof.Rows.plain_sorted PyProof.Rows.entry_sorted (PyProof.Rows.args_sorted1 _) ?_); unfold Builtin.«sorted»
  refine (wpAny_bind (m := checkCount "sorted" 1 1 _) (wpAny_pure ?_))
  refine wpAny_bind (PySem.W.kdu_collect (A := X.A.in1) (PySem.W.kdl_dict (knd := mixKind X.prog X.w) (kvs := vs) (ep := ep) lo) (I.ok.hd calm) at1 (by rw [len1]; exact line) fun h1 tk acc keep got => ?_)
  have len2 : acc.toList.length = ks.length := by rw [Array.length_toList, got.1, len1]
  have each : PySem.W.EachIs (fun v (x : Str) => ∃ t, v = Value.str x t) acc.toList ks := by
    have go : ∀ (l : List Value) (m : List Str), l.length = m.length → (∀ j v, l[j]? = some v → ∃ x t, m[j]? = some x ∧ v = Value.str x t) → PySem.W.EachIs (fun v (x : Str) => ∃ t, v = Value.str x t) l m := fun l => by
      induction l with
      | nil =>
        intro m e _
        cases m with
        | nil => exact .nil
        | cons x m => cases e
      | cons v l ih =>
        intro m e f
        cases m with
        | nil => cases e
        | cons x m =>
          obtain ⟨x', t, h1, h2⟩ := f 0 v rfl
          cases Option.some.inj h1
          exact .cons ⟨t, h2⟩ (ih m (Nat.succ.inj e) fun j u hu => f (j + 1) u hu)
    refine go _ _ len2 fun j v e => ?_
    obtain ⟨kk, x, e1, e2⟩ := got.2 j v (by rw [← Array.getElem?_toList]; exact e)
    have e3 : (vs.map (·.1))[j]? = some kk := by rw [List.getElem?_map, e1]; rfl
    rw [vkeys, List.getElem?_map] at e3
    obtain ⟨y, e4, e5⟩ : ∃ y, ks[j]? = some y ∧ Sum.inr y = kk := by
      cases e4 : ks[j]? with
      | none => rw [e4] at e3; cases e3
      | some y => rw [e4] at e3; exact ⟨y, rfl, Option.some.inj e3⟩
    subst e5
    rcases keyIs_shape (show keyIs (Sum.inr y) v = true from e2) with ⟨i, t, ek, ev⟩ | ⟨z, t, ek, ev⟩
    · cases ek
    · cases ek
      exact ⟨y, t, e4, ev⟩
  have J : Inv X pins σ H { s with heap := h1, toks := tk } := I.kept keep
  refine wpAny_bind (wpAny_newList ?_ (by rw [len2]; exact line))
  have new : (h1.push (seqObj "list" acc.toList.toArray 0)).get? h1.objs.size = some (seqObj "list" acc.toList.toArray 0) := Heap.get?_push_size _ rfl
  show wpAny _ _ _ _ _ { s with toks := tk, heap := h1.push (seqObj "list" acc.toList.toArray 0) }
  refine wpAny_bind (wpAny_holding (PySem.W.list_sort_data (enc := fun x : Str => .str x) (R := fun v (x : Str) => ∃ t, v = Value.str x t) new each (each.mono fun v x ⟨t, e⟩ => ⟨[], by rw [e]; exact .str x t, fun z => nomatch z⟩) (fun d hd e he => ?_) (.inr fun d hd => ?_) (Nat.le_trans long (by decide)) (fun x _ => ?_) fun out ho eo => ?_))
  · obtain ⟨x, _, rfl⟩ := List.mem_map.mp hd
    obtain ⟨y, _, rfl⟩ := List.mem_map.mp he
    rfl
  · obtain ⟨x, _, rfl⟩ := List.mem_map.mp hd
    exact ⟨nofun, nofun⟩
  · show X.A.units + 1 + 1 + 0 < cLine
    omega
  have rv : Vals ((ks.mergeSort (PySem.W.dataLe false fun x : Str => .str x)).map V.str) out := by
    clear ho
    generalize ks.mergeSort (PySem.W.dataLe false fun x : Str => .str x) = ms at eo
    induction eo with
    | nil => exact .nil
    | cons r e ih => exact .cons r ih
  rw [PySem.W.dataLe_str (β := Str) fun x => x] at rv
  obtain ⟨en, at2⟩ := PyProof.Rows.sortedHeap_at (vs := acc.toList) (out := out.toArray) new
  have len3 : ((ks.mergeSort fun a b => decide (a.cps.toList ≤ b.cps.toList)).map V.str).length ≤ sizeLine := by rw [List.length_map, List.length_mergeSort]; exact line
  refine wpAny_pure ⟨_, rfl, .ref h1.objs.size, upd H _ (.lst ((ks.mergeSort fun a b => decide (a.cps.toList ≤ b.cps.toList)).map V.str)), J.laid (t' := tk) (fun b u e => ?_) (Nat.le_refl _) ⟨len3, out, en, rv, at2⟩, rfl, q _ _ (sorted_up nd) (fun y => List.mem_mergeSort) (List.length_mergeSort _) (J.hok.fresh (Nat.le_refl _))⟩
  have lt : b < h1.objs.size := Heap.lt_size e
  rw [PyProof.Rows.sortedHeap_old (Nat.ne_of_lt lt) (by rw [size_push']; exact Nat.lt_succ_of_lt lt)]
  exact (Heap.get?_push_of_some _ e)
/-- repr of data, of a number, of None -/
def rReprV (K : PySem.W.Frag) : List V → Hp → VK → Prop := fun xs H Q => (∃ (a : Addr) (d : PyData), xs = [.ref a] ∧ Dp K H (.ref a) d ∧ d.showable = true ∧ d.hasDict = false ∧ d.depth ≤ 60 ∧ d.shown.length ≤ sizeLine ∧ Q (.str d.shown) H) ∨
  (∃ i : Int, xs = [.int i] ∧ i.natAbs.log2 < 1920 ∧ Q (.str (toString i)) H) ∨ (xs = [.non] ∧ Q (.str (("None" : String) : Str)) H)
theorem cr_reprV {X : Cx} {k : Nat} (gu : X.A.guards = some []) (hr : Room k X.A) : CallR X (.builtin "repr") (rReprV X.K) := by
  intro pins s σ H vs us Q I r h
  rcases h with h | ⟨i, rfl, hz, q⟩ | ⟨rfl, q⟩
  · exact cr_repr gu hr pins s σ H vs us Q I r h
  · obtain ⟨u, rfl, t, rfl⟩ := vals1 r
    exact PySem.P.repr_of_int hz ⟨.str _, H, I.tok _, ⟨_, rfl⟩, q⟩
  · obtain ⟨u, rfl, ru⟩ := vals1 r
    cases ru
    exact call_repr_gives (s := s) rfl F.slot_NoneType_repr F.entry_NoneType_repr (F.args_NoneType_repr_1 _) gives_none_repr ⟨.str _, H, I.tok _, ⟨_, rfl⟩, q⟩
/-- x in a list (b) or tuple of data -/
def rInP (K : PySem.W.Frag) (neg b : Bool) : R2 := fun x y H Q => ∃ d ds, Dp K H x d ∧ Dp K H y (if b = true then .list ds else .tuple ds) ∧ d.plain = true ∧ PyData.plainAll ds = true ∧ d.depth ≤ 50 ∧ Q (.bl (xor neg (ds.any fun z => PyData.eqv z d))) H
section
variable {X : Cx} {k : Nat}
theorem op_inLP (hr : Room k X.A) : OpR X (compareOp .In) (rInP X.K false true) := by
  intro pins s σ H x y v u Q I rx ry h
  obtain ⟨d, ds, hd, he, p1, p2, dep, q⟩ := h
  have un := hr.un
  obtain ⟨as, r1⟩ := Dp.reads I d x v hd rx
  obtain ⟨bs, r2⟩ := Dp.reads I _ y u he ry
  rw [Bool.false_xor] at q
  exact PySem.SeqAt.in_list_data r2 r1 p2 p1 (by omega) ⟨.bl _, H, I, rfl, q⟩
theorem op_notinLP (hr : Room k X.A) : OpR X (compareOp .NotIn) (rInP X.K true true) := by
  intro pins s σ H x y v u Q I rx ry h
  obtain ⟨d, ds, hd, he, p1, p2, dep, q⟩ := h
  have un := hr.un
  obtain ⟨as, r1⟩ := Dp.reads I d x v hd rx
  obtain ⟨bs, r2⟩ := Dp.reads I _ y u he ry
  rw [Bool.true_xor] at q
  exact PySem.SeqAt.notIn_list_data r2 r1 p2 p1 (by omega) ⟨.bl _, H, I, rfl, q⟩
theorem op_inTP (hr : Room k X.A) : OpR X (compareOp .In) (rInP X.K false false) := by
  intro pins s σ H x y v u Q I rx ry h
  obtain ⟨d, ds, hd, he, p1, p2, dep, q⟩ := h
  have un := hr.un
  obtain ⟨as, r1⟩ := Dp.reads I d x v hd rx
  obtain ⟨bs, r2⟩ := Dp.reads I _ y u he ry
  rw [Bool.false_xor] at q
  exact PySem.SeqAt.in_tuple_data r2 r1 p2 p1 (by omega) ⟨.bl _, H, I, rfl, q⟩
end
/-! roads in the heap -/
def edV (e : Ed) : List V := [.str e.1, .str e.2]
def edD (e : Ed) : PyData := .tuple [.str e.1, .str e.2]
abbrev Rds (H : Hp) (ps : List Addr) (es : List Ed) : Prop := Paired (fun (p : Addr) (e : Ed) => H p = some (.tup (edV e))) ps es
theorem Rds.len {H : Hp} {ps : List Addr} {es : List Ed} (h : Rds H ps es) : ps.length = es.length := Paired.length h
theorem Rds.keep {H H' : Hp} : ∀ {ps : List Addr} {es : List Ed}, (∀ p o, (∀ z, o ≠ HO.lst z) → (∀ z, o ≠ HO.dK z) → (∀ z, o ≠ HO.dT z) → H p = some o → H' p = some o) → Rds H ps es → Rds H' ps es
  | _, _, _, .nil => .nil
  | _, _, k, .cons a b => .cons (k _ _ (fun z => nofun) (fun z => nofun) (fun z => nofun) a) (Rds.keep k b)
theorem Rds.same {H H' : Hp} {ps : List Addr} {es : List Ed} (s : Same H H') (h : Rds H ps es) : Rds H' ps es := Rds.keep (fun p o _ _ _ e => s p o e) h
theorem Rds.put {H : Hp} {l : Addr} {xs : List V} {o : HO} {ps : List Addr} {es : List Ed} (hl : H l = some (.lst xs)) (h : Rds H ps es) : Rds (upd H l o) ps es :=
  Rds.keep (fun p u n1 _ _ e => by rw [upd_ne (ne_of e hl (n1 _))]; exact e) h
theorem Rds.but {H H' : Hp} {f c : Addr} {n : Int} {ps : List Addr} {es : List Ed} (hf : Fd H f c n) (b : But f H H') (h : Rds H ps es) : Rds H' ps es := by
  obtain ⟨zs, hz⟩ := hf.at
  exact Rds.keep (fun p o n1 _ _ e => b p o (ne_of e hz (n1 zs)) e) h
theorem Rds.app {H : Hp} : ∀ {ps qs : List Addr} {es ts : List Ed}, Rds H ps es → Rds H qs ts → Rds H (ps ++ qs) (es ++ ts)
  | _, _, _, _, .nil, b => b
  | _, _, _, _, .cons a r, b => .cons a (Rds.app r b)
theorem Rds.get {H : Hp} : ∀ {ps : List Addr} {es : List Ed} {i : Nat} {p : Addr}, Rds H ps es → ps[i]? = some p → ∃ e, es[i]? = some e ∧ H p = some (.tup (edV e))
  | _, _, 0, _, .cons a _, h => by
    cases h
    exact ⟨_, rfl, a⟩
  | _, _, i + 1, p, .cons _ b, h => Rds.get (i := i) (p := p) b h
theorem Rds.dp {K : PySem.W.Frag} {H : Hp} : ∀ {ps : List Addr} {es : List Ed}, Rds H ps es → DpAll K H (ps.map V.ref) (es.map edD)
  | _, _, .nil => .nil
  | _, _, .cons a b => .cons (.tup (SqT.of a) (.cons (.str _) (.cons (.str _) .nil))) (Rds.dp b)
theorem Rds.take {H : Hp} : ∀ {ps : List Addr} {rs : List Ed} (n : Nat), Rds H ps rs → Rds H (ps.take n) (rs.take n)
  | _, _, 0, _ => .nil
  | _, _, _ + 1, .nil => .nil
  | _, _, n + 1, .cons a b => .cons a (Rds.take n b)
abbrev Wt := Str × Int
def wtV (e : Wt) : List V := [.str e.1, .int e.2]
def wtD (e : Wt) : PyData := .tuple [.str e.1, .int e.2]
abbrev Wts (H : Hp) (ps : List Addr) (es : List Wt) : Prop := Paired (fun (p : Addr) (e : Wt) => H p = some (.tup (wtV e))) ps es
theorem Wts.keep {H H' : Hp} : ∀ {ps : List Addr} {es : List Wt}, (∀ p o, (∀ z, o ≠ HO.lst z) → H p = some o → H' p = some o) → Wts H ps es → Wts H' ps es
  | _, _, _, .nil => .nil
  | _, _, k, .cons a b => .cons (k _ _ (fun z => nofun) a) (Wts.keep k b)
theorem Wts.same {H H' : Hp} {ps : List Addr} {es : List Wt} (s : Same H H') (h : Wts H ps es) : Wts H' ps es := Wts.keep (fun p o _ e => s p o e) h
theorem Wts.put {H : Hp} {l : Addr} {xs : List V} {o : HO} {ps : List Addr} {es : List Wt} (hl : H l = some (.lst xs)) (h : Wts H ps es) : Wts (upd H l o) ps es :=
  Wts.keep (fun p u n1 e => by rw [upd_ne (ne_of e hl (n1 _))]; exact e) h
theorem Wts.but {H H' : Hp} {f c : Addr} {n : Int} {ps : List Addr} {es : List Wt} (hf : Fd H f c n) (b : But f H H') (h : Wts H ps es) : Wts H' ps es := by
  obtain ⟨zs, hz⟩ := hf.at
  exact Wts.keep (fun p o n1 e => b p o (ne_of e hz (n1 zs)) e) h
theorem Wts.app {H : Hp} : ∀ {ps qs : List Addr} {es ts : List Wt}, Wts H ps es → Wts H qs ts → Wts H (ps ++ qs) (es ++ ts)
  | _, _, _, _, .nil, b => b
  | _, _, _, _, .cons a r, b => .cons a (Wts.app r b)
theorem Wts.len {H : Hp} {ps : List Addr} {es : List Wt} (h : Wts H ps es) : ps.length = es.length := Paired.length h
theorem Wts.dp {K : PySem.W.Frag} {H : Hp} : ∀ {ps : List Addr} {es : List Wt}, Wts H ps es → DpAll K H (ps.map V.ref) (es.map wtD)
  | _, _, .nil => .nil
  | _, _, .cons a b => .cons (.tup (SqT.of a) (.cons (.str _) (.cons (.int _) .nil))) (Wts.dp b)
/-- the office at o: worths ws, roads E -/
def OfAt (H : Hp) (o : Addr) (ws : List Wt) (E : List Ed) : Prop := ∃ (w r : Addr) (wp rp : List Addr), H o = some (.tup [.ref w, .ref r]) ∧ H w = some (.tup (wp.map V.ref)) ∧ H r = some (.tup (rp.map V.ref)) ∧ Wts H wp ws ∧ Rds H rp E
theorem OfAt.same {H H' : Hp} {o : Addr} {ws : List Wt} {E : List Ed} (s : Same H H') (h : OfAt H o ws E) : OfAt H' o ws E := by
  obtain ⟨w, r, wp, rp, h1, h2, h3, h4, h5⟩ := h
  exact ⟨w, r, wp, rp, s _ _ h1, s _ _ h2, s _ _ h3, h4.same s, h5.same s⟩
theorem OfAt.but {H H' : Hp} {f c : Addr} {n : Int} {o : Addr} {ws : List Wt} {E : List Ed} (hf : Fd H f c n) (b : But f H H') (h : OfAt H o ws E) : OfAt H' o ws E := by
  obtain ⟨w, r, wp, rp, h1, h2, h3, h4, h5⟩ := h
  obtain ⟨zs, hz⟩ := hf.at
  have t : ∀ {a : Addr} {xs : List V}, H a = some (.tup xs) → H' a = some (.tup xs) := fun e => b _ _ (ne_of e hz (fun z => nomatch z)) e
  exact ⟨w, r, wp, rp, t h1, t h2, t h3, h4.but hf b, h5.but hf b⟩
def ofD (ws : List Wt) (E : List Ed) : PyData := .tuple [.tuple (ws.map wtD), .tuple (E.map edD)]
theorem OfAt.dp {K : PySem.W.Frag} {H : Hp} {o : Addr} {ws : List Wt} {E : List Ed} (h : OfAt H o ws E) : Dp K H (.ref o) (ofD ws E) := by
  obtain ⟨w, r, wp, rp, h1, h2, h3, h4, h5⟩ := h
  exact .tup (SqT.of h1) (.cons (.tup (SqT.of h2) h4.dp) (.cons (.tup (SqT.of h3) h5.dp) .nil))
/-- the rows of a search, in a dict -/
abbrev RwAt (H : Hp) (kvs : List (Key × V)) (es : List En) : Prop := Paired (fun (kv : Key × V) (e : En) => kv.1 = Sum.inr e.1 ∧ ∃ a, kv.2 = .ref a ∧ H a = some (.tup (e.2.map V.str))) kvs es
theorem RwAt.keep {H H' : Hp} : ∀ {kvs : List (Key × V)} {es : List En}, (∀ p o, (∀ z, o ≠ HO.lst z) → (∀ z, o ≠ HO.dK z) → H p = some o → H' p = some o) → RwAt H kvs es → RwAt H' kvs es
  | _, _, _, .nil => .nil
  | _, _, k, .cons ⟨a1, a, a2, a3⟩ b => .cons ⟨a1, a, a2, k _ _ (fun z => nofun) (fun z => nofun) a3⟩ (RwAt.keep k b)
theorem RwAt.same {H H' : Hp} {kvs : List (Key × V)} {es : List En} (s : Same H H') (h : RwAt H kvs es) : RwAt H' kvs es := RwAt.keep (fun p o _ _ e => s p o e) h
theorem RwAt.app {H : Hp} : ∀ {kvs lvs : List (Key × V)} {es fs : List En}, RwAt H kvs es → RwAt H lvs fs → RwAt H (kvs ++ lvs) (es ++ fs)
  | _, _, _, _, .nil, b => b
  | _, _, _, _, .cons a r, b => .cons a (RwAt.app r b)
theorem RwAt.keys {H : Hp} : ∀ {kvs : List (Key × V)} {es : List En}, RwAt H kvs es → kvs.map (·.1) = (es.map (·.1)).map Sum.inr
  | _, _, .nil => rfl
  | _, _, .cons a b => by
    rw [List.map_cons, List.map_cons, List.map_cons, a.1, RwAt.keys b]
theorem RwAt.val {H : Hp} : ∀ {kvs : List (Key × V)} {es : List En} (y : Str), RwAt H kvs es → (∃ e ∈ es, e.1 = y ∧ ∃ a, valV kvs (Sum.inr y) = some (.ref a) ∧ H a = some (.tup (e.2.map V.str))) ∨ ((∀ e ∈ es, e.1 ≠ y) ∧ valV kvs (Sum.inr y) = none)
  | _, _, y, .nil => .inr ⟨fun _ h => (nomatch h), rfl⟩
  | _, _, y, .cons (a := kv) (b := e) ⟨a1, a, a2, a3⟩ b => by
    by_cases c : e.1 = y
    · refine .inl ⟨e, List.mem_cons_self, c, a, ?_, a3⟩
      rw [valV_pos (by rw [a1, c]), a2]
    · have n : ¬ kv.1 = Sum.inr y := fun z => c (Sum.inr.inj (a1.symm.trans z))
      rcases RwAt.val y b with ⟨f, f1, f2, a', f3, f4⟩ | ⟨f1, f2⟩
      · exact .inl ⟨f, List.mem_cons_of_mem _ f1, f2, a', by rw [valV_neg n]; exact f3, f4⟩
      · refine .inr ⟨fun f hf => ?_, by rw [valV_neg n]; exact f2⟩
        rcases List.mem_cons.mp hf with rfl | hf
        · exact c
        · exact f1 f hf
def spRows : Sp := fun vs H Q _ => ∃ (o : Addr) (x : Str) (ws : List Wt) (E : List Ed), vs = [.ref o, .str x] ∧ OfAt H o ws E ∧ E.length ≤ 16 ∧
  ∀ (r : Addr) (kvs : List (Key × V)) (es : List En) (k : Nat) (H' : Hp), Same H H' → H r = none → H' r = some (.dK kvs) → RwAt H' kvs es → Bfs E x es k → es.length ≤ k → es.length ≤ 17 → (∀ e ∈ es, e.2.length ≤ 17) → Q (.ref r) H'
def spReach : Sp := fun vs H Q _ => ∃ (o : Addr) (x : Str) (ws : List Wt) (E : List Ed), vs = [.ref o, .str x] ∧ OfAt H o ws E ∧ E.length ≤ 16 ∧
  ∀ (t : Addr) (ys : List Str) (H' : Hp), Same H H' → H t = none → H' t = some (.tup (ys.map V.str)) → ys.Pairwise sl → (∀ y, y ∈ ys ↔ ∃ n, Wlk E n x y) → ys.length ≤ 17 → Q (.ref t) H'
/-- what road_row tells -/
def RowV (H : Hp) (E : List Ed) (x y : Str) (v : V) : Prop := (v = .non ∧ ∀ n, ¬ Wlk E n x y) ∨ ∃ (t : Addr) (p : List Str) (n : Nat), v = .ref t ∧ H t = some (.tup (p.map V.str)) ∧ Pth E x p y ∧ p.length = n + 1 ∧ Least E x y n ∧ n ≤ 17
def spRow : Sp := fun vs H Q _ => ∃ (o : Addr) (x y : Str) (ws : List Wt) (E : List Ed), vs = [.ref o, .str x, .str y] ∧ OfAt H o ws E ∧ E.length ≤ 16 ∧ ∀ (v : V) (H' : Hp), Same H H' → RowV H' E x y v → Q v H'
def spFar : Sp := fun vs H Q _ => ∃ (o : Addr) (x y : Str) (ws : List Wt) (E : List Ed), vs = [.ref o, .str x, .str y] ∧ OfAt H o ws E ∧ E.length ≤ 16 ∧ ∀ (v : V) (H' : Hp), Same H H' → ((v = .non ∧ ∀ n, ¬ Wlk E n x y) ∨ ∃ n : Nat, v = .int n ∧ Least E x y n) → Q v H'
/-! ### the law's own side: tapes, offices, places, what is apart -/
def spDrawT : Sp := fun vs H Q _ => ∃ (f c : Addr) (m n : Int), vs = [.ref f, .int m] ∧ Fd H f c n ∧ n ≤ 1000000 ∧ 0 < m ∧ m ≤ 1000000000 ∧
  ∀ (d : Int) (H' : Hp), 0 ≤ d → d < m → Fd H' f c (n + 1) → But f H H' → Q (.int d) H'
def gWords : List Str := [("a" : String), ("ab" : String), ("abc" : String), ("bank" : String), ("n" : String), ("nonea" : String), ("press" : String), ("zzzzzzzz" : String), ("nom" : String), ("b" : String)]
def gNone : Str := (("none" : String) : Str)
theorem gw_ok : ∀ x ∈ gWords, NmOk x ∧ x ≠ gNone := by
  intro x hx
  simp only [gWords, List.mem_cons, List.not_mem_nil, or_false] at hx
  rcases hx with rfl | rfl | rfl | rfl | rfl | rfl | rfl | rfl | rfl | rfl <;> exact ⟨⟨by decide +kernel, by decide +kernel⟩, by decide +kernel⟩
theorem gn_ok : NmOk gNone := ⟨by decide +kernel, by decide +kernel⟩
def EdOk (e : Ed) : Prop := NmOk e.1 ∧ NmOk e.2 ∧ e.1 ≠ e.2
def WtOk (w : Wt) : Prop := NmOk w.1 ∧ 0 ≤ w.2 ∧ w.2 ≤ 1000000
structure OfOk (ws : List Wt) (E : List Ed) : Prop where
  le : E.length ≤ 16
  ed : ∀ e ∈ E, EdOk e
  lw : ws.length ≤ 4
  wt : ∀ w ∈ ws, WtOk w
def spOffice : Sp := fun vs H Q _ => ∃ (f c : Addr) (n : Int), vs = [.ref f] ∧ Fd H f c n ∧ n ≤ 900000 ∧
  ∀ (o : Addr) (ws : List Wt) (E : List Ed) (H' : Hp), Fd H' f c (n + 200) → But f H H' → H o = none → OfAt H' o ws E → OfOk ws E → Q (.ref o) H'
theorem inV_strs (x : Str) (xs : List Str) : inV (.str x) (xs.map V.str) = decide (x ∈ xs) := by
  unfold inV
  rw [List.any_map, Bool.eq_iff_iff, List.any_eq_true, decide_eq_true_eq]
  constructor
  · rintro ⟨y, hy, e⟩
    have e : (y == x) = true := e
    rw [← beq_iff_eq.mp e]
    exact hy
  · intro h
    exact ⟨x, h, beq_iff_eq.mpr rfl⟩
theorem flat_strs' (xs : List Str) : (xs.map V.str).all flatV = true := by
  rw [List.all_map, List.all_eq_true]
  exact fun _ _ => rfl
/-- the places of roads, none first -/
def plc (E : List Ed) (y : Str) : Prop := y = gNone ∨ ∃ e ∈ E, y = e.1 ∨ y = e.2
def spPlaces : Sp := fun vs H Q _ => ∃ (o : Addr) (ws : List Wt) (E : List Ed), vs = [.ref o] ∧ OfAt H o ws E ∧ OfOk ws E ∧
  ∀ (l : Addr) (pl : List Str) (H' : Hp), Same H H' → H l = none → H' l = some (.lst (pl.map V.str)) → pl.Pairwise sl → (∀ y, y ∈ pl ↔ plc E y) → pl.length ≤ 33 → Q (.ref l) H'
def apOf (d : Ap) (kvs : List (List Key × V)) : Prop := ∀ x y, valV kvs [Sum.inr x, Sum.inr y] = (d x y).map fun (n : Nat) => V.int n
theorem apOf_put {d d' : Ap} {kvs : List (List Key × V)} {x y : Str} {n : Nat} (h : apOf d kvs) (h1 : d' x y = some n) (h2 : ∀ u v, ¬ (u = x ∧ v = y) → d' u v = d u v) : apOf d' (putK kvs [Sum.inr x, Sum.inr y] (.int n)) := fun u v => by
  rw [valV_put]
  by_cases c : u = x ∧ v = y
  · rw [c.1, c.2, if_pos rfl, h1]
    rfl
  · have ne : ¬ ([Sum.inr u, Sum.inr v] : List Key) = [Sum.inr x, Sum.inr y] := fun z => by
      injection z with z1 z2
      injection z2 with z2 _
      exact c ⟨Sum.inr.inj z1, Sum.inr.inj z2⟩
    rw [if_neg ne, h, h2 u v c]
def spApt : Sp := fun vs H Q _ => ∃ (o : Addr) (ws : List Wt) (E : List Ed), vs = [.ref o] ∧ OfAt H o ws E ∧ OfOk ws E ∧
  ∀ (a : Addr) (kvs : List (List Key × V)) (d : Ap) (H' : Hp), Same H H' → H a = none → H' a = some (.dT kvs) → apOf d kvs → FwOk E (plc E) (plc E) d → Q (.ref a) H'
theorem fw_col {d : Ap} {v x : Str} (h : d v v = some 0) : fwStep d v x v = d x v := by
  cases e : d x v with
  | none => exact (fw_none (.inl e)).trans e
  | some a =>
    rw [fw_val e h, e, Nat.add_zero]
    unfold fwMin
    dsimp only
    rw [if_neg (Nat.lt_irrefl _)]
theorem fw_row {d : Ap} {v y : Str} (h : d v v = some 0) : fwStep d v v y = d v y := by
  cases e : d v y with
  | none => exact (fw_none (.inr e)).trans e
  | some a =>
    rw [fw_val h e, e, Nat.zero_add]
    unfold fwMin
    dsimp only
    rw [if_neg (Nat.lt_irrefl _)]
theorem fwMin_again (o : Option Nat) (n : Nat) : fwMin (some (fwMin o n)) n = fwMin o n := by
  have z := fwMin_le o n
  show (if n < fwMin o n then n else fwMin o n) = _
  rw [if_neg (by omega)]
def spIsRow : Sp := fun vs H Q _ => ∃ (o t : Addr) (x y : Str) (n : Nat) (ws : List Wt) (E : List Ed) (p : List Str), vs = [.ref o, .str x, .str y, .int n, .ref t] ∧ OfAt H o ws E ∧ OfOk ws E ∧ H t = some (.tup (p.map V.str)) ∧ Pth E x p y ∧ p.length = n + 1 ∧ n ≤ 1000 ∧
  ∀ H', Same H H' → Q (.bl true) H'
def spRightO : Sp := fun vs H Q _ => ∃ (o : Addr) (ws : List Wt) (E : List Ed), vs = [.ref o] ∧ OfAt H o ws E ∧ OfOk ws E ∧ ∀ H', Same H H' → Q (.bl true) H'
theorem ed_plain (E : List Ed) : PyData.plainAll (E.map edD) = true := by
  induction E with
  | nil => rfl
  | cons e l ih =>
    rw [List.map_cons]
    simp only [PyData.plainAll, ih, edD, PyData.plain, Bool.and_self]
theorem ed_eqv (a b : Ed) : PyData.eqv (edD a) (edD b) = decide (a = b) := by
  obtain ⟨a1, a2⟩ := a
  obtain ⟨b1, b2⟩ := b
  rw [Bool.eq_iff_iff]
  simp [edD, PyData.eqv, PyData.eqvAll]
theorem ed_any (E : List Ed) (e : Ed) : ((E.map edD).any fun z => PyData.eqv z (edD e)) = decide (e ∈ E) := by
  rw [List.any_map, Bool.eq_iff_iff, List.any_eq_true, decide_eq_true_eq]
  constructor
  · rintro ⟨y, hy, k⟩
    have k : PyData.eqv (edD y) (edD e) = true := k
    rw [ed_eqv, decide_eq_true_eq] at k
    rw [← k]
    exact hy
  · intro h
    refine ⟨e, h, ?_⟩
    show PyData.eqv (edD e) (edD e) = true
    rw [ed_eqv, decide_eq_true rfl]
theorem ed_dep (e : Ed) : (edD e).depth ≤ 50 := by
  simp [edD, PyData.depth, PyData.depthAll]
theorem nm_fine {x : Str} (h : NmOk x) : fineD (.str x) = true ∧ cost (.str x) ≤ 82 := by
  refine ⟨h.2, ?_⟩
  have := h.1
  show 10 * x.length + 2 ≤ 82
  omega
theorem eds_fine : ∀ E : List Ed, (∀ e ∈ E, EdOk e) → fineAll (E.map edD) = true ∧ costAll (E.map edD) ≤ 200 * E.length
  | [], _ => ⟨rfl, Nat.le_refl _⟩
  | e :: E, h => by
    obtain ⟨z1, z2⟩ := eds_fine E fun s hs => h s (List.mem_cons_of_mem _ hs)
    obtain ⟨a1, a2, _⟩ := h e List.mem_cons_self
    obtain ⟨b1, b2⟩ := nm_fine a1
    obtain ⟨c1, c2⟩ := nm_fine a2
    refine ⟨?_, ?_⟩
    · rw [List.map_cons]
      unfold fineAll
      rw [z1]
      show ((fineD (.str e.1) && (fineD (.str e.2) && true)) && true) = true
      rw [b1, c1]
      rfl
    · rw [List.map_cons, List.length_cons]
      unfold costAll
      have e1 : cost (edD e) = (cost (.str e.1) + 2 + (cost (.str e.2) + 2 + 0)) + 3 := rfl
      omega
theorem wts_fine : ∀ ws : List Wt, (∀ w ∈ ws, WtOk w) → fineAll (ws.map wtD) = true ∧ costAll (ws.map wtD) ≤ 3000 * ws.length
  | [], _ => ⟨rfl, Nat.le_refl _⟩
  | e :: E, h => by
    obtain ⟨z1, z2⟩ := wts_fine E fun s hs => h s (List.mem_cons_of_mem _ hs)
    obtain ⟨a1, a2, a3⟩ := h e List.mem_cons_self
    obtain ⟨b1, b2⟩ := nm_fine a1
    refine ⟨?_, ?_⟩
    · rw [List.map_cons]
      unfold fineAll
      rw [z1]
      show ((fineD (.str e.1) && (fineD (.int e.2) && true)) && true) = true
      rw [b1, int_fine (by omega) (by omega)]
      rfl
    · rw [List.map_cons, List.length_cons]
      unfold costAll
      have e1 : cost (wtD e) = (cost (.str e.1) + 2 + (2000 + 2 + 0)) + 3 := rfl
      omega
theorem of_fine {ws : List Wt} {E : List Ed} (h : OfOk ws E) : fineD (ofD ws E) = true ∧ cost (ofD ws E) ≤ 20000 := by
  obtain ⟨a1, a2⟩ := wts_fine ws h.wt
  obtain ⟨b1, b2⟩ := eds_fine E h.ed
  have l1 := h.le
  have l2 := h.lw
  refine ⟨?_, ?_⟩
  · show (fineAll (ws.map wtD) && (fineAll (E.map edD) && true)) = true
    rw [a1, b1]
    rfl
  · have e1 : cost (ofD ws E) = ((costAll (ws.map wtD) + 3) + 2 + ((costAll (E.map edD) + 3) + 2 + 0)) + 3 := rfl
    omega
theorem of_depth (ws : List Wt) (E : List Ed) : (ofD ws E).depth ≤ 10 := by
  have d1 : PyData.depthAll (ws.map wtD) ≤ 3 := by
    induction ws with
    | nil => simp [PyData.depthAll]
    | cons s l ih => rw [List.map_cons]; simp only [PyData.depthAll, wtD, PyData.depth] at *; omega
  have d2 : PyData.depthAll (E.map edD) ≤ 3 := by
    induction E with
    | nil => simp [PyData.depthAll]
    | cons s l ih => rw [List.map_cons]; simp only [PyData.depthAll, edD, PyData.depth] at *; omega
  simp only [ofD, PyData.depth, PyData.depthAll]
  omega
def strsD (xs : List Str) : PyData := .tuple (xs.map .str)
theorem strs_dp {K : PySem.W.Frag} {H : Hp} {t : Addr} {xs : List Str} (h : SqT K H t (xs.map V.str)) : Dp K H (.ref t) (strsD xs) := by
  refine .tup h ?_
  clear h
  induction xs with
  | nil => exact .nil
  | cons x l ih => exact .cons (.str x) ih
theorem strs_show {xs : List Str} (h : ∀ x ∈ xs, NmOk x) (hl : xs.length ≤ 100) : (strsD xs).showable = true ∧ (strsD xs).hasDict = false ∧ (strsD xs).depth ≤ 60 ∧ (strsD xs).shown.length ≤ sizeLine := by
  have all : ∀ l : List Str, (∀ x ∈ l, NmOk x) → fineAll (l.map .str) = true ∧ costAll (l.map .str) ≤ 84 * l.length := fun l => by
    induction l with
    | nil => exact fun _ => ⟨rfl, Nat.le_refl _⟩
    | cons x l ih =>
      intro h
      obtain ⟨z1, z2⟩ := ih fun y hy => h y (List.mem_cons_of_mem _ hy)
      obtain ⟨b1, b2⟩ := nm_fine (h x List.mem_cons_self)
      refine ⟨?_, ?_⟩
      · rw [List.map_cons]
        unfold fineAll
        rw [b1, z1]
        rfl
      · rw [List.map_cons, List.length_cons]
        unfold costAll
        omega
  obtain ⟨z1, z2⟩ := all xs h
  have f : fineD (strsD xs) = true := z1
  have c := shown_cost _ f
  have e : cost (strsD xs) = costAll (xs.map .str) + 3 := rfl
  have d : PyData.depthAll (xs.map .str) ≤ 1 := by
    clear z1 z2 f c e h hl
    induction xs with
    | nil => simp [PyData.depthAll]
    | cons s l ih => rw [List.map_cons]; simp only [PyData.depthAll, PyData.depth] at *; omega
  obtain ⟨s1, s2⟩ := fine_show _ f
  refine ⟨s1, s2, ?_, Nat.le_trans c (Nat.le_trans (show _ ≤ 100000 by omega) (by decide))⟩
  simp only [strsD, PyData.depth]
  omega
theorem ups_same {a b : List Str} (ha : a.Pairwise sl) (hb : b.Pairwise sl) (h : ∀ y, y ∈ a ↔ y ∈ b) : a = b := by
  have na : a.Nodup := ha.imp fun {x y} (h : sl x y) (e : x = y) => sl_irr y (by rw [e] at h; exact h)
  have nb : b.Nodup := hb.imp fun {x y} (h : sl x y) (e : x = y) => sl_irr y (by rw [e] at h; exact h)
  have hp : a.Perm b := (List.perm_ext_iff_of_nodup na nb).mpr h
  exact List.Perm.eq_of_pairwise (le := fun x y => sl x y) (fun x y _ _ h1 h2 => (sl_as h1 h2).elim) ha hb hp
theorem ints_all' {K : PySem.W.Frag} {H : Hp} : ∀ ns : List Int, DpAll K H (ns.map V.int) (ns.map .int)
  | [] => .nil
  | n :: ns => .cons (.int n) (ints_all' ns)
theorem ints_plain (ns : List Int) : (PyData.list (ns.map .int)).plain = true := by
  have all : PyData.plainAll (ns.map .int) = true := by
    induction ns with
    | nil => rfl
    | cons n l ih => rw [List.map_cons]; simp only [PyData.plainAll, PyData.plain, ih, Bool.and_self]
  exact all
theorem ints_depth (ns : List Int) : (PyData.list (ns.map .int)).depth ≤ 60 := by
  have d : PyData.depthAll (ns.map .int) ≤ 1 := by
    induction ns with
    | nil => simp [PyData.depthAll]
    | cons s l ih => rw [List.map_cons]; simp only [PyData.depthAll, PyData.depth] at *; omega
  simp only [PyData.depth]
  omega
theorem strs_all {K : PySem.W.Frag} {H : Hp} : ∀ xs : List Str, DpAll K H (xs.map V.str) (xs.map .str)
  | [] => .nil
  | x :: xs => .cons (.str x) (strs_all xs)
theorem strs_alike (xs : List Str) : PySem.W.AllAlike (xs.map .str) := by
  intro d hd e he
  obtain ⟨a, _, rfl⟩ := List.mem_map.mp hd
  obtain ⟨b, _, rfl⟩ := List.mem_map.mp he
  rfl
theorem strs_sortable (xs : List Str) : PySem.W.Sortable (xs.map .str) := by
  refine Or.inr fun d hd => ?_
  obtain ⟨a, _, rfl⟩ := List.mem_map.mp hd
  exact ⟨nofun, nofun⟩
theorem strs_flat (xs : List Str) : ∀ d ∈ xs.map PyData.str, d.depth ≤ 60 := by
  intro d hd
  obtain ⟨a, _, rfl⟩ := List.mem_map.mp hd
  exact Nat.zero_le _
/-! ### how an office is drawn -/
theorem sort_ed {H : Hp} {ps : List Addr} {rs : List Ed} (h : Rds H ps rs) : ∃ (qs : List Addr) (es : List Ed), sortD (ps.map V.ref) (rs.map edD) = qs.map V.ref ∧ Rds H qs es ∧ es.length = rs.length ∧ ∀ e ∈ es, e ∈ rs := by
  have hl := h.len
  have e1 : ((ps.map V.ref).zip (rs.map edD)) = (ps.zip rs).map (fun x => (V.ref x.1, edD x.2)) := by
    rw [List.zip_map]
    rfl
  refine ⟨((ps.zip rs).mergeSort (fun x y => PySem.W.dataLe false Prod.snd (V.ref x.1, edD x.2) (V.ref y.1, edD y.2))).map Prod.fst, ((ps.zip rs).mergeSort (fun x y => PySem.W.dataLe false Prod.snd (V.ref x.1, edD x.2) (V.ref y.1, edD y.2))).map Prod.snd, ?_, ?_, ?_, fun e he => ?_⟩
  · unfold sortD
    rw [e1, ← PySem.W.sort_maps (r := fun x y => PySem.W.dataLe false Prod.snd (V.ref x.1, edD x.2) (V.ref y.1, edD y.2)) (fun x : Addr × Ed => (V.ref x.1, edD x.2)) (fun _ _ _ _ => rfl), List.map_map, List.map_map]
    rfl
  · have at_ : ∀ x ∈ ps.zip rs, H x.1 = some (.tup (edV x.2)) := by
      clear e1 hl
      induction h with
      | nil => exact fun x hx => nomatch hx
      | cons a b ih =>
        intro x hx
        rcases List.mem_cons.mp hx with z | z
        · subst z
          exact a
        · exact ih x z
    have all : ∀ l : List (Addr × Ed), (∀ x ∈ l, H x.1 = some (.tup (edV x.2))) → Rds H (l.map Prod.fst) (l.map Prod.snd) := fun l => by
      induction l with
      | nil => exact fun _ => .nil
      | cons x l ih => exact fun k => .cons (k x List.mem_cons_self) (ih fun y hy => k y (List.mem_cons_of_mem _ hy))
    exact all _ fun x hx => at_ x (List.mem_mergeSort.mp hx)
  · rw [List.length_map, List.length_mergeSort, List.length_zip]
    omega
  · obtain ⟨x, hx, rfl⟩ := List.mem_map.mp he
    exact (List.of_mem_zip (List.mem_mergeSort.mp hx)).2
theorem eds_alike (rs : List Ed) : PySem.W.AllAlike (rs.map edD) := by
  intro d hd e he
  obtain ⟨a, _, rfl⟩ := List.mem_map.mp hd
  obtain ⟨b, _, rfl⟩ := List.mem_map.mp he
  simp [edD, PySem.W.alike, PySem.W.alikeAll]
theorem eds_sortable (rs : List Ed) : PySem.W.Sortable (rs.map edD) := by
  refine Or.inl fun d hd => ?_
  obtain ⟨a, _, rfl⟩ := List.mem_map.mp hd
  exact ⟨_, _, rfl⟩
theorem eds_flat (rs : List Ed) : ∀ d ∈ rs.map edD, d.depth ≤ 60 := by
  intro d hd
  obtain ⟨a, _, rfl⟩ := List.mem_map.mp hd
  simp [edD, PyData.depth, PyData.depthAll]
theorem eds_depth (E : List Ed) : (PyData.list (E.map edD)).depth ≤ 60 := by
  have d2 : PyData.depthAll (E.map edD) ≤ 3 := by
    induction E with
    | nil => simp [PyData.depthAll]
    | cons s l ih => rw [List.map_cons]; simp only [PyData.depthAll, edD, PyData.depth] at *; omega
  simp only [PyData.depth]
  omega
theorem Rds.mk1 {H : Hp} {p : Addr} {e : Ed} (h : H p = some (.tup (edV e))) : Rds H [p] [e] := .cons h .nil
theorem Wts.mk1 {H : Hp} {p : Addr} {e : Wt} (h : H p = some (.tup (wtV e))) : Wts H [p] [e] := .cons h .nil
theorem few8 {d : Int} (h0 : 0 ≤ d) (h1 : d < 8) : ∃ k : Int, 2 ≤ k ∧ k ≤ 8 ∧ atI [V.int 2, .int 3, .int 4, .int 5, .int 3, .int 4, .int 8, .int 6] d = some (.int k) := by
  rcases (show d = 0 ∨ d = 1 ∨ d = 2 ∨ d = 3 ∨ d = 4 ∨ d = 5 ∨ d = 6 ∨ d = 7 by omega) with rfl | rfl | rfl | rfl | rfl | rfl | rfl | rfl <;> exact ⟨_, by decide, by decide, rfl⟩
theorem few4 {d : Int} (h0 : 0 ≤ d) (h1 : d < 4) : ∃ k : Int, 1 ≤ k ∧ k ≤ 9 ∧ atI [V.int 1, .int 3, .int 7, .int 9] d = some (.int k) := by
  rcases (show d = 0 ∨ d = 1 ∨ d = 2 ∨ d = 3 by omega) with rfl | rfl | rfl | rfl <;> exact ⟨_, by decide, by decide, rfl⟩
theorem fewW {d m : Int} (h0 : 0 ≤ d) (h1 : d < 4) (m0 : 0 ≤ m) (m1 : m < 1000) : ∃ k : Int, 0 ≤ k ∧ k ≤ 1000000 ∧ atI [V.int 1, .int 5, .int 1000000, .int (1 + m)] d = some (.int k) := by
  rcases (show d = 0 ∨ d = 1 ∨ d = 2 ∨ d = 3 by omega) with rfl | rfl | rfl | rfl
  · exact ⟨1, by decide, by decide, rfl⟩
  · exact ⟨5, by decide, by decide, rfl⟩
  · exact ⟨1000000, by decide, by decide, rfl⟩
  · exact ⟨1 + m, by omega, by omega, rfl⟩
def gSer : List Str := [("a" : String), ("aa" : String), ("none" : String), ("x" : String)]
theorem gs_ok : ∀ x ∈ gSer, NmOk x := by
  intro x hx
  simp only [gSer, List.mem_cons, List.not_mem_nil, or_false] at hx
  rcases hx with rfl | rfl | rfl | rfl <;> exact ⟨by decide +kernel, by decide +kernel⟩
/-! ### what is apart: the law's own going by way of each place -/
def ap1 (E : List Ed) : Ap := fun x y => if (x, y) ∈ E then some 1 else none
def ap0 (E : List Ed) (pl : List Str) : Ap := fun x y => if x = y ∧ x ∈ pl then some 0 else ap1 E x y
theorem fw_init {E : List Ed} {pl : List Str} (mem : ∀ y, y ∈ pl ↔ plc E y) : FwOk E (plc E) (fun z => z ∈ pl.take 0) (ap0 E pl) where
  sound := fun x y n e => by
    unfold ap0 at e
    split at e
    · rename_i h
      cases Option.some.inj e
      exact h.1
    · unfold ap1 at e
      split at e
      · rename_i h
        cases Option.some.inj e
        exact ⟨x, rfl, h⟩
      · cases e
  refl := fun x hx => by
    unfold ap0
    rw [if_pos ⟨rfl, (mem x).mpr hx⟩]
  edge := fun x y h => by
    unfold ap0
    by_cases c : x = y ∧ x ∈ pl
    · rw [if_pos c]
      exact ⟨0, rfl, by decide⟩
    · rw [if_neg c]
      unfold ap1
      rw [if_pos h]
      exact ⟨1, rfl, Nat.le_refl _⟩
  tri := fun z hz => by
    rw [List.take_zero] at hz
    exact nomatch hz
  dom := fun x y n e => by
    unfold ap0 at e
    split at e
    · rename_i h
      have z := (mem x).mp h.2
      rw [← h.1]
      exact ⟨z, z⟩
    · unfold ap1 at e
      split at e
      · rename_i h
        exact ⟨.inr ⟨(x, y), h, .inl rfl⟩, .inr ⟨(x, y), h, .inr rfl⟩⟩
      · cases e
theorem ap1_put {E : List Ed} {i : Nat} {e : Ed} {kvs : List (List Key × V)} (hi : E[i]? = some e) (h : apOf (ap1 (E.take i)) kvs) : apOf (ap1 (E.take (i + 1))) (putK kvs [Sum.inr e.1, Sum.inr e.2] (.int ((1 : Nat) : Int))) := by
  obtain ⟨hl, he⟩ := List.getElem?_eq_some_iff.mp hi
  have e1 : E.take (i + 1) = E.take i ++ [e] := by rw [List.take_succ_eq_append_getElem hl, he]
  refine apOf_put h ?_ fun u v n => ?_
  · unfold ap1
    rw [if_pos (by rw [e1]; exact List.mem_append_right _ List.mem_cons_self)]
  · unfold ap1
    have z : (u, v) ∈ E.take (i + 1) ↔ (u, v) ∈ E.take i := by
      rw [e1, List.mem_append, List.mem_singleton]
      refine ⟨fun h => h.elim id fun z => (n ?_).elim, .inl⟩
      rw [← z]
      exact ⟨rfl, rfl⟩
    by_cases c : (u, v) ∈ E.take i
    · rw [if_pos c, if_pos (z.mpr c)]
    · rw [if_neg c, if_neg (fun k => c (z.mp k))]
theorem ap0_zero (E : List Ed) : ap0 E [] = ap1 E := by
  funext x y
  unfold ap0
  rw [if_neg (fun h => nomatch h.2)]
theorem ap0_put {E : List Ed} {pl : List Str} {i : Nat} {s : Str} {kvs : List (List Key × V)} (hi : pl[i]? = some s) (h : apOf (ap0 E (pl.take i)) kvs) : apOf (ap0 E (pl.take (i + 1))) (putK kvs [Sum.inr s, Sum.inr s] (.int ((0 : Nat) : Int))) := by
  obtain ⟨hl, he⟩ := List.getElem?_eq_some_iff.mp hi
  have e1 : pl.take (i + 1) = pl.take i ++ [s] := by rw [List.take_succ_eq_append_getElem hl, he]
  refine apOf_put h ?_ fun u v n => ?_
  · unfold ap0
    rw [if_pos ⟨rfl, by rw [e1]; exact List.mem_append_right _ List.mem_cons_self⟩]
  · unfold ap0
    have z : (u = v ∧ u ∈ pl.take (i + 1)) ↔ (u = v ∧ u ∈ pl.take i) := by
      rw [e1, List.mem_append, List.mem_singleton]
      refine ⟨fun h => ⟨h.1, h.2.elim id fun z => (n ?_).elim⟩, fun h => ⟨h.1, .inl h.2⟩⟩
      exact ⟨z, h.1.symm.trans z⟩
    by_cases c : u = v ∧ u ∈ pl.take i
    · rw [if_pos c, if_pos (z.mpr c)]
    · rw [if_neg c, if_neg (fun k => c (z.mp k))]
/-- c stands between d and the step by v -/
def MidA (d : Ap) (v : Str) (c : Ap) : Prop := ∀ x y, c x y = d x y ∨ c x y = fwStep d v x y
theorem MidA.col {d : Ap} {v : Str} {c : Ap} (h : MidA d v c) (r : d v v = some 0) (x : Str) : c x v = d x v := by
  rcases h x v with z | z
  · exact z
  · rw [z, fw_col r]
theorem MidA.row {d : Ap} {v : Str} {c : Ap} (h : MidA d v c) (r : d v v = some 0) (y : Str) : c v y = d v y := by
  rcases h v y with z | z
  · exact z
  · rw [z, fw_row r]
theorem MidA.none {d : Ap} {v : Str} {c : Ap} (h : MidA d v c) {x y : Str} (k : d x v = none ∨ d v y = none) : c x y = fwStep d v x y := by
  rcases h x y with z | z
  · rw [z, fw_none k]
  · exact z
theorem MidA.min {d : Ap} {v : Str} {c : Ap} (h : MidA d v c) {x y : Str} {a b : Nat} (k1 : d x v = some a) (k2 : d v y = some b) : fwMin (c x y) (a + b) = fwMin (d x y) (a + b) := by
  rcases h x y with z | z
  · rw [z]
  · rw [z, fw_val k1 k2, fwMin_again]
/-- c with the step at one pair -/
def putA (d : Ap) (v : Str) (c : Ap) (x y : Str) : Ap := fun u w => if u = x ∧ w = y then fwStep d v x y else c u w
theorem putA_mid {d : Ap} {v : Str} {c : Ap} (h : MidA d v c) (x y : Str) : MidA d v (putA d v c x y) := fun u w => by
  unfold putA
  by_cases k : u = x ∧ w = y
  · rw [if_pos k, k.1, k.2]
    exact .inr rfl
  · rw [if_neg k]
    exact h u w
theorem putA_at {d : Ap} {v : Str} {c : Ap} (x y : Str) : putA d v c x y x y = fwStep d v x y := by
  unfold putA
  rw [if_pos ⟨rfl, rfl⟩]
theorem putA_done {d : Ap} {v : Str} {c : Ap} {x y u w : Str} (h : c u w = fwStep d v u w) : putA d v c x y u w = fwStep d v u w := by
  unfold putA
  by_cases k : u = x ∧ w = y
  · rw [if_pos k, k.1, k.2]
  · rw [if_neg k, h]
theorem putA_else {d : Ap} {v : Str} {c : Ap} {x y u w : Str} (k : ¬ (u = x ∧ w = y)) : putA d v c x y u w = c u w := by
  unfold putA
  rw [if_neg k]
theorem apOf_step {d : Ap} {v : Str} {c : Ap} {kvs : List (List Key × V)} {x y : Str} {a b : Nat} (h : apOf c kvs) (m : MidA d v c) (k1 : d x v = some a) (k2 : d v y = some b) : apOf (putA d v c x y) (putK kvs [Sum.inr x, Sum.inr y] (.int ((fwMin (c x y) (a + b) : Nat) : Int))) :=
  apOf_put h (by rw [putA_at, fw_val k1 k2, m.min k1 k2]) fun _ _ n => putA_else n
theorem putK_le (kvs : List (List Key × V)) (k : List Key) (v : V) : (putK kvs k v).length ≤ kvs.length + 1 := length_putK kvs k v
/-- min of what is there, or else the new one, and the new one -/
theorem min_fw (o : Option Nat) (n : Nat) : (if (n : Int) < (match o with | some c => (c : Int) | none => (n : Int)) then (n : Int) else (match o with | some c => (c : Int) | none => (n : Int))) = ((fwMin o n : Nat) : Int) := by
  cases o with
  | none =>
    show (if (n : Int) < n then (n : Int) else n) = _
    rw [if_neg (Int.lt_irrefl _)]
    rfl
  | some c =>
    show (if (n : Int) < c then (n : Int) else c) = ((if n < c then n else c : Nat) : Int)
    split <;> split <;> omega
def gI (o : Option Nat) (n : Int) : Int := match o with
  | some c => (c : Int)
  | none => n
theorem getD_int (o : Option Nat) (n : Int) : (o.map fun (n : Nat) => V.int n).getD (.int n) = .int (gI o n) := by
  cases o <;> rfl
theorem min_gI (o : Option Nat) (a b : Nat) : (if ((a : Int) + (b : Int)) < gI o ((a : Int) + (b : Int)) then ((a : Int) + (b : Int)) else gI o ((a : Int) + (b : Int))) = ((fwMin o (a + b) : Nat) : Int) := by
  have z := min_fw o (a + b)
  rw [Int.natCast_add] at z
  exact z
theorem filt_take {F : Str → Bool} {pl : List Str} {j : Nat} {s : Str} (h : pl[j]? = some s) : (pl.take (j + 1)).filter F = (pl.take j).filter F ++ if F s = true then [s] else [] := by
  obtain ⟨hj, es⟩ := List.getElem?_eq_some_iff.mp h
  rw [List.take_succ_eq_append_getElem hj, List.filter_append, es]
  congr 1
  by_cases c : F s = true
  · rw [if_pos c, List.filter_cons_of_pos c]
    rfl
  · rw [if_neg c, List.filter_cons_of_neg c]
    rfl
theorem ap_get {c : Ap} {kvs : List (List Key × V)} {H : Hp} {A u : Addr} {x y : Str} (h : apOf c kvs) (hA : H A = some (.dT kvs)) (hu : H u = some (.tup [.str x, .str y])) : DGet H A (.ref u) ((c x y).map fun (n : Nat) => V.int n) := by
  have z := DGet.t (k := [Sum.inr x, Sum.inr y]) hA hu
  rw [h x y] at z
  exact z
theorem ap_some {c : Ap} {kvs : List (List Key × V)} {H : Hp} {A u : Addr} {x y : Str} {n : Nat} (h : apOf c kvs) (hA : H A = some (.dT kvs)) (hu : H u = some (.tup [.str x, .str y])) (e : c x y = some n) : DGet H A (.ref u) (some (.int n)) := by
  have z := ap_get h hA hu
  rw [e] at z
  exact z
/-! ### Refusals: a class of the text over ValueError that keeps what it is made of -/
def clsBody : Stmt → List Stmt
  | .ClassDef _ _ _ b _ _ _ _ _ _ _ => b
  | _ => []
def oexB (K : PySem.W.Frag) (C : Addr) : Bool := match K.lookup C with
  | some ⟨c, _, .cls cd, sl⟩ => decide (c = .type "type") && (match cd.mro, sl.toList with
    | .ref D :: bm, [_, _, _, _, some (.builtin n), _] => decide (D = C) && (decide (n = "ValueError.__new__") && (PySem.HandSPX.refsVE bm && (cd.hasDict && !cd.hasDel)))
    | _, _ => false)
  | _ => false
theorem oexB_ok {K : PySem.W.Frag} {C : Addr} (h : oexB K C = true) : ∃ nm q N bs bm sn sub ab col dd k0 k1 k2 k3 k5,
    K.lookup C = some (excClassObj nm q C N bs bm true sn sub ab col dd k0 k1 k2 k3 k5 "ValueError.__new__") ∧ PySem.HandSPX.refsVE bm = true := by
  unfold oexB at h
  split at h
  · rename_i c dd cd sl e
    obtain ⟨h1, h2⟩ := Bool.and_eq_true_iff.mp h
    split at h2
    · rename_i D bm k0 k1 k2 k3 n k5 em es
      obtain ⟨h3, h2⟩ := Bool.and_eq_true_iff.mp h2
      obtain ⟨h4, h2⟩ := Bool.and_eq_true_iff.mp h2
      obtain ⟨h5, h2⟩ := Bool.and_eq_true_iff.mp h2
      obtain ⟨h6, h7⟩ := Bool.and_eq_true_iff.mp h2
      have z1 := of_decide_eq_true h1
      have z3 := of_decide_eq_true h3
      have z4 := of_decide_eq_true h4
      have z7 : cd.hasDel = false := by simpa using h7
      obtain ⟨nm, bs, mro, ns, qn, hd, sn, sub, ab, col, del⟩ := cd
      dsimp only at em h6 z7
      obtain ⟨l⟩ := sl
      dsimp only at es
      subst z1 z3 z4 em h6 z7 es
      exact ⟨nm, qn, ns, bs, bm, sn, sub, ab, col, dd, k0, k1, k2, k3, k5, e, h5⟩
    · cases h2
  · cases h
/-- what stands of the class x (one field f), caught by the class y, the classes zs others -/
structure Rf (K : PySem.W.Frag) (x f y : Str) (zs : List Str) : Prop where
  o : OexC K (He.ga K x)
  xf : XfC K (He.ga K x)
  no : PySem.W.findIn K (.ref (He.ga K x)) f = some none
  iC : PySem.W.findIn K (.ref (He.ga K x)) "__init__" = some (some (.ref (He.ma K (He.ga K x) "__init__")))
  tI : PySem.W.typeIn K (.ref (He.ma K (He.ga K x) "__init__")) = some (.type "function")
  cl : (PySem.W.clsIn K (He.ga K x)).isSome = true
  ha : PySem.W.findIn K (.ref (He.ga K x)) "__class__" = some (some (.builtin "object.__class__"))
  hn : PySem.W.specialIn K (.builtin "object.__class__") "__get__" = some (some (.builtin "getset_descriptor.__get__"))
  ht : PySem.W.takesIn K (.builtin "object.__class__") = some true
  hm : PySem.W.mroIn K (He.ga K x) (.type "object") = some true
  ex : PySem.W.exmOne K (.ref (He.ga K x)) (.ref (He.ga K y)) = some true
  isV : PySem.W.kitOne K (.ref (He.ga K x)) (.type "ValueError") = some true
  isO : PySem.W.kitAny K (.ref (He.ga K x)) (zs.map fun z => .ref (He.ga K z)) = some false
def rfB (K : PySem.W.Frag) (x f y : Str) (zs : List Str) : Bool :=
  oexB K (He.ga K x) && (He.eqO (PySem.W.findIn K (.ref (He.ga K x)) "__setattr__") (some (some (.builtin "object.__setattr__"))) && (decide (PySem.W.typeIn K (.ref (He.ga K x)) = some (.type "type")) && (PySem.W.keepIn K (.ref (He.ga K x)) &&
  (xfB K (He.ga K x) && (He.eqO (PySem.W.findIn K (.ref (He.ga K x)) f) (some none) && (He.eqO (PySem.W.findIn K (.ref (He.ga K x)) "__init__") (some (some (.ref (He.ma K (He.ga K x) "__init__")))) &&
  (decide (PySem.W.typeIn K (.ref (He.ma K (He.ga K x) "__init__")) = some (.type "function")) && ((PySem.W.clsIn K (He.ga K x)).isSome && (He.eqO (PySem.W.findIn K (.ref (He.ga K x)) "__class__") (some (some (.builtin "object.__class__"))) &&
  (He.eqO (PySem.W.specialIn K (.builtin "object.__class__") "__get__") (some (some (.builtin "getset_descriptor.__get__"))) && (decide (PySem.W.takesIn K (.builtin "object.__class__") = some true) && (decide (PySem.W.mroIn K (He.ga K x) (.type "object") = some true) &&
  (decide (PySem.W.exmOne K (.ref (He.ga K x)) (.ref (He.ga K y)) = some true) && (decide (PySem.W.kitOne K (.ref (He.ga K x)) (.type "ValueError") = some true) && decide (PySem.W.kitAny K (.ref (He.ga K x)) (zs.map fun z => .ref (He.ga K z)) = some false)))))))))))))))
theorem rfB_ok {K : PySem.W.Frag} {x f y : Str} {zs : List Str} (h : rfB K x f y zs = true) : Rf K x f y zs := by
  obtain ⟨h1, h⟩ := Bool.and_eq_true_iff.mp h
  obtain ⟨h2, h⟩ := Bool.and_eq_true_iff.mp h
  obtain ⟨h3, h⟩ := Bool.and_eq_true_iff.mp h
  obtain ⟨h4, h⟩ := Bool.and_eq_true_iff.mp h
  obtain ⟨h5, h⟩ := Bool.and_eq_true_iff.mp h
  obtain ⟨h6, h⟩ := Bool.and_eq_true_iff.mp h
  obtain ⟨h7, h⟩ := Bool.and_eq_true_iff.mp h
  obtain ⟨h8, h⟩ := Bool.and_eq_true_iff.mp h
  obtain ⟨h9, h⟩ := Bool.and_eq_true_iff.mp h
  obtain ⟨h10, h⟩ := Bool.and_eq_true_iff.mp h
  obtain ⟨h11, h⟩ := Bool.and_eq_true_iff.mp h
  obtain ⟨h12, h⟩ := Bool.and_eq_true_iff.mp h
  obtain ⟨h13, h⟩ := Bool.and_eq_true_iff.mp h
  obtain ⟨h14, h⟩ := Bool.and_eq_true_iff.mp h
  obtain ⟨h15, h16⟩ := Bool.and_eq_true_iff.mp h
  have xf := xfB_ok h5
  exact ⟨⟨oexB_ok h1, He.eqO_ok h2, xf.exC, of_decide_eq_true h3, h4⟩, xf, He.eqO_ok h6, He.eqO_ok h7, of_decide_eq_true h8, h9, He.eqO_ok h10, He.eqO_ok h11, of_decide_eq_true h12, of_decide_eq_true h13, of_decide_eq_true h14, of_decide_eq_true h15, of_decide_eq_true h16⟩
/-- what __init__ does: self.f = what it is given -/
def spIn (C : Addr) (f : Str) : Sp := fun vs H Q _ => ∃ (a : Addr) (x : V), vs = [.ref a, x] ∧ H a = some (exo a C none) ∧
  ∀ dx, H dx = none → dx ≠ a → Q .non (upd (upd H dx (exd dx [(f, x)])) a (exo a C (some dx)))
theorem init_ok {P : Program} {w : World} {K : PySem.W.Frag} {mg : Str → Option Value} {base : Heap} {qual f : Str} {st : Stmt} {fI C : Addr} {fd : FuncData} {N : List Str} {ps : List Str} {k : Nat} (F : Fun K "__init__" qual st fI fd) (S : FnScope N ps (defScope st)) (hp : ps.length = 2)
    (T : OexC K C) (no : PySem.W.findIn K (.ref C) f = some none)
    (hb : ∀ (X : Cx), X.N = N → X.K = K → X.env.scope = defScope st → PSs X (defBody st) (tOst X.K f (tVar 0) (tVar 1))) (hN : N = ps) : FnOk P w K mg base CX0 (k + 1) fI fd ps (spIn C f) := by
  refine F.ok S (fun vs H Q E h => ?_) (fun cdv A outer s H vs Q E hr h => ?_)
  · obtain ⟨a, x, rfl, _⟩ := h
    exact hp.symm
  · obtain ⟨a, x, rfl, ha, q⟩ := h
    refine ⟨_, hb _ rfl rfl rfl, ?_⟩
    subst hN
    match N, hp with
    | [n1, n2], _ => exact ⟨_, rfl, _, rfl, a, C, rfl, T, no, Or.inl ⟨ha, q⟩⟩
theorem mk_read {C : Addr} {f : Str} {v : V} {H : Hp} {Q : XK} (h : ∀ d H', H d = none → Same H H' → H' d = some (.xd [(f, v)]) → Q (.ref C) (some d) H') :
    [v].length ≤ 1000 ∧ ∀ a, H a = none → spIn C f (.ref a :: ([v] ++ [])) (upd H a (exo a C none))
      (fun u H2 => u = .non ∧ ∃ (d : Addr) (fs : List (Str × V)), H2 a = some (exo a C (some d)) ∧ H2 d = some (exd d fs) ∧ H d = none ∧ Q (.ref C) (some d) (upd (del H2 a) d (.xd fs))) (fun _ _ _ => False) := by
  refine ⟨(show 1 ≤ 1000 by decide), fun a ha => ⟨a, v, rfl, upd_same, fun dx hdx ne => ?_⟩⟩
  rw [upd_ne ne] at hdx
  refine ⟨rfl, dx, [(f, v)], upd_same, (upd_ne ne).trans upd_same, hdx, h dx _ hdx (fun b o e => ?_) upd_same⟩
  have n1 : b ≠ dx := ne_of_none e hdx
  have n2 : b ≠ a := ne_of_none e ha
  rw [upd_ne n1, del_ne n2, upd_ne n2, upd_ne n1, upd_ne n2]
  exact e
theorem PSs.as {X : Cx} {b : List Stmt} {t u : TS} (h : PSs X b t) (e : t = u) : PSs X b u := e ▸ h
section
variable {Y : Cx} {a : Addr} {oe : Obj} {cls : Value} {d : Option Addr} {x f y : Str} {zs : List Str}
theorem inst_at {C : Addr} {pins : List (Addr × Obj)} {σ : L2.St} {H : Hp} {s : Shared} {dd : Addr} {fs : List (Str × V)} (hp : (a, oe) ∈ Y.pn) (hz : Zc (.ref C) (some dd) oe) (hf : ∃ vs, oe.data = .fields vs) (I : Inv Y pins σ H s) (e : H dd = some (.xd fs)) :
    ∃ od, PySem.W.InstAt s.heap a oe C (some od) ∧ ∃ mA : Str → Option Value, (∀ g, RelO (fs.lookup g) (mA g)) ∧ ∀ n, PySem.W.lookIn n od = some (mA n) := by
  obtain ⟨ha, _⟩ := I.pin (a, oe) (List.mem_append_left _ hp)
  obtain ⟨vs, hd⟩ := hf
  have hx : ObjOk Y.prog Y.w H s.heap dd (.xd fs) := I.hok dd _ e
  obtain ⟨mA, hns, hr⟩ := hx
  obtain ⟨od, ho, hl⟩ := lookIn_ns hns
  exact ⟨od, ⟨ha, hz.1, by unfold PySem.W.notCls; rw [hd] <;> rfl, by rw [hz.2]; exact ho⟩, mA, hr, hl⟩
/-- isinstance(e, c), e the refusal that the suite holds -/
def rIs1 (K : PySem.W.Frag) (x : Str) (a : Addr) (cls : Value) (d : Option Addr) : List V → Hp → VK → Prop := fun xs H Q => cls = .ref (He.ga K x) ∧ ∃ (dd : Addr) (fs : List (Str × V)) (c : V) (cv : Value) (b : Bool), d = some dd ∧ H dd = some (.xd fs) ∧
  xs = [.ref a, c] ∧ (∀ u, RelV c u → u = cv) ∧ PySem.W.kitOne K (.ref (He.ga K x)) cv = some b ∧ Q (.bl b) H
theorem call_is1 {K : PySem.W.Frag} (hK : Y.K = K) (R : Rf K x f y zs) (hz : Zc cls d oe) (hf : ∃ vs, oe.data = .fields vs) (hp : (a, oe) ∈ Y.pn) : CallR Y (.builtin "isinstance") (rIs1 K x a cls d) := by
  subst hK
  intro pins s σ H xs us Q I r h
  obtain ⟨rfl, dd, fs, c, cv, b, rfl, hd, rfl, hcv, e, q⟩ := h
  obtain ⟨u1, u2, rfl, r1, r2⟩ := vals2 r
  obtain rfl : u1 = Value.ref a := r1
  have z := hcv _ r2
  subst z
  obtain ⟨od, J, _⟩ := inst_at hp hz hf I hd
  exact PySem.W.kia_one (PySem.W.kitx_exc (od := some od) R.cl R.xf.ga R.xf.gg R.xf.exC R.ha R.hn R.ht R.hm) I.kIn J e (fun z => nomatch z) fun tk => ⟨.bl b, H, I.kept (t' := tk) fun _ _ z => z, rfl, q⟩
theorem vals_refs : ∀ {cs : List Addr} {us : List Value}, Vals (cs.map V.ref) us → us = cs.map Value.ref
  | [], _, .nil => rfl
  | c :: cs, _, .cons r t => by
    have e : _ = Value.ref c := r
    rw [e, vals_refs t]
    rfl
/-- isinstance(e, (c, ..)) -/
def rIsN (K : PySem.W.Frag) (x : Str) (a : Addr) (cls : Value) (d : Option Addr) : List V → Hp → VK → Prop := fun xs H Q => cls = .ref (He.ga K x) ∧ ∃ (dd : Addr) (fs : List (Str × V)) (tp : Addr) (cs : List Addr) (b : Bool), d = some dd ∧ H dd = some (.xd fs) ∧
  xs = [.ref a, .ref tp] ∧ H tp = some (.tup (cs.map V.ref)) ∧ PySem.W.kitAny K (.ref (He.ga K x)) (cs.map Value.ref) = some b ∧ Q (.bl b) H
theorem call_isN {K : PySem.W.Frag} (hK : Y.K = K) (R : Rf K x f y zs) (hz : Zc cls d oe) (hf : ∃ vs, oe.data = .fields vs) (hp : (a, oe) ∈ Y.pn) : CallR Y (.builtin "isinstance") (rIsN K x a cls d) := by
  subst hK
  intro pins s σ H xs us Q I r h
  obtain ⟨rfl, dd, fs, tp, cs, b, rfl, hd, rfl, hT, e, q⟩ := h
  obtain ⟨u1, u2, rfl, r1, r2⟩ := vals2 r
  obtain rfl : u1 = Value.ref a := r1
  obtain rfl : u2 = Value.ref tp := r2
  obtain ⟨od, J, _⟩ := inst_at hp hz hf I hd
  obtain ⟨_, its, rv, o, h1, h2, n, h3⟩ := (show ObjOk Y.prog Y.w H s.heap tp (.tup (cs.map V.ref)) from I.hok tp _ hT)
  have e3 := vals_refs rv
  subst e3
  obtain ⟨oc, od2, dt, sl⟩ := o
  simp only at h2 h3
  subst h2 h3
  exact PySem.W.kia_tup (PySem.W.kitx_exc (od := some od) R.cl R.xf.ga R.xf.gg R.xf.exC R.ha R.hn R.ht R.hm) I.kIn J h1 e (fun z => nomatch z) fun tk => ⟨.bl b, H, I.kept (t' := tk) fun _ _ z => z, rfl, q⟩
/-- e.f, e the refusal that the suite holds -/
def tFld (K : PySem.W.Frag) (x f : Str) (a : Addr) (cls : Value) (d : Option Addr) (te : TE) : TE := fun σ H Q => te σ H fun u H1 => u = .ref a ∧ cls = .ref (He.ga K x) ∧ ∃ (dd : Addr) (fs : List (Str × V)) (v : V), d = some dd ∧ H1 dd = some (.xd fs) ∧ fs.lookup f = some v ∧ Q v H1
theorem pe_fld {K : PySem.W.Frag} {e : Expr} {te : TE} {pos : Pos} (hK : Y.K = K) (R : Rf K x f y zs) (hz : Zc cls d oe) (hf : ∃ vs, oe.data = .fields vs) (hp : (a, oe) ∈ Y.pn) (he : PE Y e te) (hb : attributeBase e f Y.env (eval e Y.env) = eval e Y.env := by rfl) :
    PE Y (.Attribute e f pos) (tFld K x f a cls d te) := by
  subst hK
  refine ⟨fun pins s σ H Q I h => attr_of hb (thn (he.run pins s σ H _ I h) fun u s1 hh => ?_)⟩
  obtain ⟨z, H1, I1, rx, rfl, rfl, dd, fs, v, rfl, ea, l, q⟩ := hh
  obtain rfl : u = Value.ref a := rx
  obtain ⟨od, J, mA, hr, hl⟩ := inst_at hp hz hf I1 ea
  obtain ⟨u, hu, ru⟩ := RelO.some_of (v := v) (o := mA f) (by rw [← l]; exact hr f)
  exact HandSPX.exc_get I1.kIn J R.xf.ga R.xf.gg R.xf.exC (PySem.W.findObj_own R.xf.hdC R.no rfl (by rw [hl, hu])) (handed_of ru) ⟨v, H1, I1.tok _, ru, q⟩
end
theorem kit_self {K : PySem.W.Frag} {t : Value} : PySem.W.kitOne K t t = some true := by
  unfold PySem.W.kitOne
  rw [if_pos (beq_iff_eq.mpr rfl)]
theorem look1 {f : Str} {v : V} : List.lookup f [(f, v)] = some v := by simp [List.lookup]
/-! ### Generator expressions that are used up at once (all, any, sum): the element by the layer's rules, calls within it too -/
/-- a code object's table, however far it has grown -/
def tabP (P : Addr) : Heap → Prop := fun h => ∃ ps : Array Value, h.get? P = some { cls := .none, data := .fields ps } ∧ TriplesOk ps.toList
def TabO (P : Addr) : HO := .ext (tabP P)
theorem tab_obj {Pr : Program} {w : World} {H : Hp} {h : Heap} {P : Addr} (e : tabP P h) : ObjOk Pr w H h P (TabO P) := by
  obtain ⟨ps, h1, h2⟩ := e
  exact ⟨⟨ps, h1, h2⟩, ⟨_, h1⟩, fun a b ⟨qs, g1, g2⟩ k => ⟨qs, k _ g1, g2⟩⟩
theorem inv_gens {X : Cx} {pins : List (Addr × Obj)} {σ : L2.St} {H : Hp} {s : Shared} {G : Array GenState} (I : Inv X pins σ H s) (hg : AllBare G) : Inv X pins σ H { s with gens := G } :=
  ⟨I.ok, I.os, hg, I.base, I.loc, I.cell, I.free, I.freeC, I.pin, I.hok, I.len⟩
theorem bare_set {s : Shared} {g : Nat} {x : GenState} (h : AllBare s.gens) (hx : x.bare = true) : AllBare (s.setGen g x).gens := by
  intro y hy
  obtain ⟨i, hi, rfl⟩ := Array.mem_iff_getElem.mp hy
  have hi2 : i < s.gens.size := by simpa [Shared.setGen] using hi
  by_cases e : g = i
  · subst e
    have z : (s.setGen g x).gens[g]? = some x := by simp [Shared.setGen, hi2]
    rw [Array.getElem?_eq_getElem hi] at z
    rw [Option.some.inj z]
    exact hx
  · have z : (s.setGen g x).gens[i]? = s.gens[i]? := by simp [Shared.setGen, e]
    rw [Array.getElem?_eq_getElem hi, Array.getElem?_eq_getElem hi2] at z
    rw [Option.some.inj z]
    exact h _ (Array.getElem_mem hi2)
section
variable {X : Cx} {pins : List (Addr × Obj)} {σ : L2.St} {H : Hp} {s : Shared}
theorem inv_tabO {P : Addr} {h' : Heap} {t' : Nat} (I : Inv X pins σ H s) (hP : H P = some (TabO P)) (k : ∀ b o, b ≠ P → s.heap.get? b = some o → h'.get? b = some o) (new : tabP P h') :
    Inv X pins σ H { s with heap := h', toks := t' } := by
  have nN : ∀ b, H b = none → b ≠ P := fun b n z => by rw [z, hP] at n; cases n
  have nO : ∀ b y, H b = some (.own y) → b ≠ P := fun b y n z => by
    rw [z, hP] at n
    have z2 : HO.ext (tabP P) = HO.own y := Option.some.inj n
    cases z2
  refine I.step (g' := s.gens) (d' := s.drawn) (ch := []) (fun _ z => nomatch z) (fun b o _ _ _ e n => k b o (nN b n) e) (fun b o _ _ _ e n => ⟨o.slots, k b o (nN b n) e⟩) (fun _ _ _ _ n => n) (fun b o _ e => ?_)
    (fun _ _ e => e) (fun _ _ _ e => e) (fun b ps e => ⟨#[], by rw [e]; simp⟩) (fun m hm => ?_) (fun b u e => ?_) I.bare
  · by_cases hb : b = P
    · obtain ⟨ps, h1, _⟩ := new
      rw [hb]
      exact ⟨_, h1⟩
    · exact ⟨o, k b o hb e⟩
  · obtain ⟨ob, es, ep, ho, r⟩ := hm
    exact ⟨ob, es, ep, k _ ob (nN _ I.free) ho, r⟩
  · by_cases hb : b = P
    · rw [hb] at e ⊢
      rw [hP] at e
      cases e
      exact tab_obj new
    · refine (I.hok b u e).stay (fun d v hd q => k d v ?_ q) (fun _ q => q) fun _ _ q => q
      rcases hd with z | z
      · rw [z]
        exact hb
      · exact nO d _ z
/-- the context of a generator expression's frame, made at s -/
abbrev gblk (X : Cx) (s : Shared) (H : Hp) (cenv : Env) (fp : List Addr) : Cx :=
  { X with A := X.A.in1.in1.deeper cenv, s_0 := s, H_0 := H, env := cenv, outer := X.stack, stack := cenv :: X.stack, ex := fp, fn := fun _ => false, calm := true, pn := [], xe := fun _ _ => False }
abbrev gxEnv (X : Cx) (scope : Scope) (C : Addr) (code : Value) : Env := genEnv scope (cloFrom X.env.cells scope.names []) C code builtinsNs X.env
theorem gblk_start {scope : Scope} {own : List (Str × Nat)} {fp : List Addr} {code : Value} {h5 : Heap} {a : Addr} {go : Obj} {G5 : Array GenState} {tk : Nat} {m5 : Str → Option Value}
    (I : Inv X pins σ H s) (ok : BlkOk X.N X.env.scope scope own) (nc : ∀ y ∈ scope.names, y.2 ≠ .cell) (hN : X.N.Nodup) (hd : X.A.handled = none) (hfp : ∀ b ∈ fp, FpOk X pins H b ∧ b < s.heap.objs.size)
    (kp : ∀ b o, s.heap.get? b = some o → h5.get? b = some o) (ns : h5.Ns s.heap.objs.size m5) (bare : AllBare G5) (ha : h5.get? a = some go) (hax : s.heap.objs.size < a) (hgo : ∀ v, go.data ≠ .cell v) :
    Inv (gblk X s H (gxEnv X scope s.heap.objs.size code) fp) [(a, go)] (wipe σ (own.map (·.2))) H { s with heap := h5, gens := G5, toks := tk } := by
  have hfree : ∀ y ∈ scope.names, y.2 = .free → ∃ c, X.env.cells.lookup y.1 = some c := fun y hy e => by
    rcases ok.free y hy e with k | k
    · exact I.ok.has _ (.inl k)
    · exact I.ok.has _ (.inr k)
  generalize hcenv : gxEnv X scope s.heap.objs.size code = cenv
  have hL : cenv.locals = s.heap.objs.size := by rw [← hcenv]; rfl
  have hcl : cenv.cells = cloFrom X.env.cells scope.names [] := by rw [← hcenv]; rfl
  have hsc : cenv.scope = scope := by rw [← hcenv]; rfl
  have hfr : cenv.frame = some cenv.locals := by rw [← hcenv]; rfl
  have cm : ∀ {y c}, (y, c) ∈ cloFrom X.env.cells scope.names [] → X.env.cells.lookup y = some c ∧ c < s.heap.objs.size := fun {y c} hm => by
    rcases cloFrom_mem hm with hm | ⟨h1, rfl⟩
    · cases hm
    · obtain ⟨c, hc⟩ := hfree _ h1 rfl
      rw [hc]
      obtain ⟨w, z⟩ := I.cell _ _ hc
      exact ⟨rfl, z.lt⟩
  have mem : ∀ {y c}, cenv.cells.lookup y = some c → X.env.cells.lookup y = some c ∧ c < s.heap.objs.size := fun {y c} e => by
    rw [hcl] at e
    exact cm (PySem.mem_of_lookup e)
  have look : ∀ {y}, scope.names.lookup y = some .free → ∃ c, cenv.cells.lookup y = some c ∧ X.env.cells.lookup y = some c := fun {y} hl => by
    have hy : (y, NameKind.free) ∈ scope.names := PySem.mem_of_lookup hl
    obtain ⟨c', e'⟩ := mem_lookup (cloFrom_has (cells := X.env.cells) (acc := []) hy)
    exact ⟨c', by rw [hcl]; exact e', (cm (PySem.mem_of_lookup e')).1⟩
  have nostk : ∀ b, s.heap.objs.size ≤ b → b ∉ frs X.stack := fun b hb z => by
    rcases List.mem_cons.mp (I.stkSub b z) with z | z
    · have := I.lt
      rw [z] at hb
      exact absurd (Nat.lt_of_lt_of_le this hb) (Nat.lt_irrefl _)
    · exact I.nofs hb z
  have okB : (gblk X s H cenv fp).Ok := by
    refine ⟨I.ok.mod, by show cenv.scope.kind = _; rw [hsc]; exact ok.kind, by show cenv.globals = _; rw [← hcenv]; exact I.ok.glob, by show cenv.builtins = _; rw [← hcenv]; rfl, by show s.heap.objs.size ≤ cenv.locals; rw [hL]; exact Nat.le_refl _,
      fun y z c e1 e2 => I.ok.inj y z c (mem e1).1 (mem e2).1, fun y hy => ?_, fun y c z e => absurd z Bool.false_ne_true, fun _ => hd, Around.frames_deeper (A := X.A.in1.in1) I.ok.frames, .inr ⟨rfl, hfr⟩, fun b hb => ⟨?_, fun y c e z => (hfp b hb).1.2.2.2.2.1 y c (mem e).1 z⟩,
      I.bs, Nat.le_trans I.ok.bsz I.sz, fun b o e hb => ?_, fun b hb z => ?_, I.stack, I.stkFree⟩
    · have key : scope.names.lookup y = some .cell ∨ scope.names.lookup y = some .free → ∃ c, cenv.cells.lookup y = some c := fun hk => by
        rcases hk with hk | hk
        · exact absurd rfl (nc _ (PySem.mem_of_lookup hk))
        · obtain ⟨c, h1, _⟩ := look hk
          exact ⟨c, h1⟩
      have hy : cenv.scope.names.lookup y = some .cell ∨ cenv.scope.names.lookup y = some .free := hy
      rw [hsc] at hy
      exact key hy
    · show b ≠ cenv.locals
      rw [hL]; exact Nat.ne_of_lt (hfp b hb).2
    · rcases (hfp b hb).1.2.2.2.1 with z | z
      · exact I.ok.noex b o e z
      · exact absurd (Nat.lt_of_lt_of_le (Heap.lt_size e) (Nat.le_trans I.ok.bsz z)) (Nat.lt_irrefl _)
    · rcases List.mem_cons.mp (I.stkSub b z) with z | z
      · exact (hfp b hb).1.2.1 z
      · exact (hfp b hb).1.2.2.1 z
  refine ⟨okB, rfl, bare, Un.kept kp, ⟨m5, ?_, fun i y av e1 e2 e3 => ?_⟩, fun y c e => ?_, ?_, fun y c e => ?_, fun p hp => ?_, I.hok.kept kp, by rw [wipe_length]; exact I.len⟩
  · show Heap.Ns _ cenv.locals _
    rw [hL]
    exact ns
  · obtain ⟨e2, hne⟩ := wipe_some e2
    have e3 : Vis cenv.scope y := e3
    rw [hsc] at e3
    have no : ∀ k, scope.names.lookup y = some k → (k = .local ∨ k = .cell) → False := fun k hk hh => by
      rcases ok.own _ (PySem.mem_of_lookup hk) hh with e' | e'
      · obtain ⟨p, hp, hpy⟩ := List.mem_map.mp e'
        have e3 := ok.ix p hp
        have : p.1 = y := hpy
        rw [this] at e3
        exact hne (List.mem_map.mpr ⟨p, hp, nodup_ix hN e3 e1⟩)
      · exact e' (List.mem_of_getElem? e1)
    have hf : scope.names.lookup y = some .free := by
      rcases e3 with e3 | e3 | e3
      · exact (no _ e3 (.inl rfl)).elim
      · exact (no _ e3 (.inr rfl)).elim
      · exact e3
    obtain ⟨m, hn, hl⟩ := I.loc
    have hvis : Vis X.env.scope y := (ok.free _ (PySem.mem_of_lookup hf) rfl).elim (fun k => .inr (.inl k)) (fun k => .inr (.inr k))
    obtain ⟨w, r, q⟩ := hl i y av e1 e2 hvis
    obtain ⟨c, h1, h2⟩ := look hf
    refine ⟨w, r, .inr ⟨.inr (by show cenv.scope.names.lookup y = _; rw [hsc]; exact hf), c, h1, ?_⟩⟩
    rcases q with ⟨k, _⟩ | ⟨_, c', e', z⟩
    · have k : X.env.scope.names.lookup y = some .local := k
      rcases ok.free _ (PySem.mem_of_lookup hf) rfl with k' | k' <;> rw [show X.env.scope.names.lookup y = _ from k'] at k <;> cases k
    · rw [h2] at e'; cases e'
      exact z.keeps kp
  · obtain ⟨w, z⟩ := I.cell y c (mem e).1
    exact ⟨w, z.keeps kp⟩
  · show H cenv.locals = none
    rw [hL]; exact I.hok.fresh (Nat.le_refl _)
  · exact I.freeC y c (mem e).1
  · have e : p = (a, go) := by simpa using (show p ∈ ([] : List (Addr × Obj)) ++ [(a, go)] from hp)
    subst e
    refine ⟨ha, I.hok.fresh (Nat.le_of_lt hax), ?_, nostk a (Nat.le_of_lt hax), hgo⟩
    show a ≠ cenv.locals
    rw [hL]; exact Nat.ne_of_gt hax
end

/-! the turns -/
section
variable {Y : Cx} {L fp : List Addr} {σw : L2.St} {tn : Nat → Heap → Prop} {Pv : Nat → Hp → Prop} {n : Nat} {pz : Nat → Bool} {F : Nat → V}
/-- the generator stands ahead of its turn i; what stands at L is pinned -/
def GAt (Y : Cx) (L fp : List Addr) (σw : L2.St) (tn : Nat → Heap → Prop) (Pv : Nat → Hp → Prop) (i : Nat) (s : Shared) : Prop :=
  ∃ H, Inv Y (pinsAt L s.heap) σw H s ∧ tn i s.heap ∧ (∀ b ∈ fp, H b = none) ∧ Pv i H
/-- the turn behind j that were handed out -/
def tj (pz : Nat → Bool) (n : Nat) : Nat → Nat
  | 0 => 0
  | j + 1 => (passing pz n 0).getD j 0 + 1
def GEnd (Y : Cx) (L : List Addr) (σw : L2.St) (Pv : Nat → Hp → Prop) (n : Nat) : GenEnd := fun m s0 r s1 =>
  r = .ok .next ∧ m = 0 ∧ ∃ H, Inv Y (pinsAt L s0.heap) σw H s1 ∧ Pv n H
def GYld (Y : Cx) (L fp : List Addr) (σw : L2.St) (tn : Nat → Heap → Prop) (Pv : Nat → Hp → Prop) (n : Nat) (pz : Nat → Bool) (F : Nat → V) : Protocol := fun m s0 v s kap =>
  ∃ i H, (passing pz n 0)[(passing pz n 0).length - 1 - m]? = some i ∧ RelV (F i) v ∧ Inv Y (pinsAt L s0.heap) σw H s ∧ tn (i + 1) s.heap ∧ (∀ b ∈ fp, H b = none) ∧ Pv (i + 1) H ∧
    ∀ s2, GAt Y L fp σw tn Pv (i + 1) s2 → kap (.send .none) s2
abbrev gxE (elt tg iter : Expr) (ifs : List Expr) (scope : Scope) (pos : Pos) : Expr := .GeneratorExp elt [⟨tg, iter, ifs, 0⟩] scope pos
theorem over_loopG {A : Around} {elt tg iter : Expr} {ifs : List Expr} {scope : Scope} {pos : Pos} {it acc : Value} {env : Env} : A.over (.compLoop (gxE elt tg iter ifs scope pos) 0 it acc env) [] = A.deeper env := by
  first
    | rfl
    | (obtain ⟨hd, d, fr, gs, u⟩ := A; simp [Around.over, Around.deeper, marksOver, frameCount, unitsOf, envsOf, guardsOf, pushEnvs, pushGuards, Code.envs, Code.env?, Code.isFrame, Code.guards, Code.isGuard, Code.weight, Code.frames, Code.isCreation, Code.isCaller, Code.cUnits])
theorem over_startG {A : Around} {elt tg iter : Expr} {ifs : List Expr} {scope : Scope} {pos : Pos} {it acc : Value} {env : Env} : A.over (.compStart (gxE elt tg iter ifs scope pos) 0 it acc env) [] = A.deeper env := by
  first
    | rfl
    | (obtain ⟨hd, d, fr, gs, u⟩ := A; simp [Around.over, Around.deeper, marksOver, frameCount, unitsOf, envsOf, guardsOf, pushEnvs, pushGuards, Code.envs, Code.env?, Code.isFrame, Code.guards, Code.isGuard, Code.weight, Code.frames, Code.isCreation, Code.isCaller, Code.cUnits])
/-- what a turn does -/
def GStep (J : It) (g : TG) (tt : TT) (te : TE) (σ : L2.St) (vs : List Nat) (Pv : Nat → Hp → Prop) (n : Nat) (pz : Nat → Bool) (F : Nat → V) : Prop :=
  ∀ i x H H', i < n → Pv i H → J.yld i H x H' → g x (wipe σ vs) H' fun σ2 H2 => wipe σ2 vs = wipe σ vs ∧ tt σ2 H2 fun b H3 => b = pz i ∧ if b = true then te σ2 H3 (fun y H4 => y = F i ∧ Pv (i + 1) H4) else Pv (i + 1) H3
theorem seg_gx {A : Around} {σ : L2.St} {vs : List Nat} {J : It} {g : TG} {tt : TT} {te : TE} {it : Addr} {elt tg iter : Expr} {ifs : List Expr} {scope : Scope} {pos : Pos}
    (hA : A.deeper Y.env = Y.A) (hc : Y.calm = true) (hpn : Y.pn = []) (hxe : Y.xe = fun _ _ => False) (hco : Y.env.scope.isCoroutine = false)
    (T : Turn Y.prog Y.w Y.K tg J fp it tn) (pg : PG Y tg g) (pt : PTs Y ifs tt) (pe : PE Y elt te) (hex : ∀ b ∈ fp, b ∈ Y.ex) (hLf : ∀ b ∈ fp, b ∉ L)
    (go : ∀ i H, i < n → Pv i H → J.go i H) (stop : ∀ H, Pv n H → J.stop n H) (step : GStep J g tt te σ vs Pv n pz F) :
    ∀ (k i : Nat) (s0 s : Shared), n - i = k → i ≤ n → (∃ H, Inv Y (pinsAt L s0.heap) (wipe σ vs) H s ∧ tn i s.heap ∧ (∀ b ∈ fp, H b = none) ∧ Pv i H) →
      Seg (model Y.prog Y.w) A (GEnd Y L (wipe σ vs) Pv n) (GYld Y L fp (wipe σ vs) tn Pv n pz F) (passing pz n i).length s0
        (.compLoop (gxE elt tg iter ifs scope pos) 0 (.ref it) .none Y.env) ((model Y.prog Y.w).den (.compLoop (gxE elt tg iter ifs scope pos) 0 (.ref it) .none Y.env)) [] s := by
  have ov : A.over (.compLoop (gxE elt tg iter ifs scope pos) 0 (.ref it) .none Y.env) [] = Y.A := over_loopG.trans hA
  have stat : ∀ {s0 : Shared} {σ' : L2.St} {H' : Hp} {s' : Shared}, Inv Y (pinsAt L s0.heap) σ' H' s' → (∀ b ∈ fp, H' b = none) → ∀ b ∈ fp, FpOk Y (pinsAt L s0.heap) H' b := fun {s0 σ' H' s'} I' hn b hb =>
    ⟨hn b hb, (I'.ok.exf b (hex b hb)).1, I'.ok.exfs b (hex b hb), .inl (hex b hb), fun x c e => (I'.ok.exf b (hex b hb)).2 x c e, fun p hp z => by
      rw [hpn, List.nil_append] at hp
      exact hLf b hb (by rw [← z]; exact (of_pinsAt hp).1)⟩
  intro k
  induction k with
  | zero =>
    intro i s0 s hk hi hst
    have hin : i = n := by omega
    subst hin
    obtain ⟨H, I, st, nf, pv⟩ := hst
    show Seg _ A _ _ _ s0 _ ((compTurn (gxE elt tg iter ifs scope pos) 0 (.ref it) .none Y.env).onRaise (leaving Y.env)) [] s
    rw [compTurn_gen, Sem.onRaise_eq_wrap]
    refine seg_bind_wrap (wpAny_standAt ?_)
    refine seg_bind_wrap ?_
    rw [ov]
    refine thnF (T.done Y rfl rfl rfl hc i _ s _ H (fun _ _ => False) I (stat I nf) st (stop H pv)) fun r s1 ⟨hr, I1⟩ => ?_
    subst hr
    exact seg_end (.ok .next) ⟨rfl, by rw [passing_end]; rfl, H, I1, pv⟩
  | succ k ih =>
    intro i s0 s hk hi hst
    have hlt : i < n := by omega
    obtain ⟨H, I, st, nf, pv⟩ := hst
    show Seg _ A _ _ _ s0 _ ((compTurn (gxE elt tg iter ifs scope pos) 0 (.ref it) .none Y.env).onRaise (leaving Y.env)) [] s
    rw [compTurn_gen, Sem.onRaise_eq_wrap]
    refine seg_bind_wrap (wpAny_standAt ?_)
    refine seg_bind_wrap ?_
    rw [ov]
    refine thnF (T.item Y rfl rfl rfl hc i _ s _ H (fun _ _ => False) I (stat I nf) st (go i H hlt pv)) fun r s1 ⟨u, hr, h1⟩ => ?_
    subst hr
    refine seg_bind_wrap ?_
    rw [ov]
    refine thnF h1 fun _ s2 ⟨x, H2, I2, r2, y2, st2, n2⟩ => ?_
    have I2' := I2.pinned (stat I2 n2) (T.obj _ _ st2)
    refine seg_bind_wrap ?_
    rw [ov]
    have pgr := pg.run _ s2 _ H2 x u _ I2' r2 (step i x H H2 hlt pv y2)
    have ptr := fun s3 σ3 H3 Q I3 q3 => pt.run (pinsAt L s0.heap ++ pinsAt fp s2.heap) s3 σ3 H3 Q I3 q3
    have per := fun s3 σ3 H3 Q I3 q3 => pe.run (pinsAt L s0.heap ++ pinsAt fp s2.heap) s3 σ3 H3 Q I3 q3
    rw [hxe] at pgr ptr per
    refine thnF pgr fun _ s3 ⟨σ3, H3, I3, hw3, q3⟩ => ?_
    refine seg_bind_wrap ?_
    rw [ov]
    refine thnF (ptr s3 σ3 H3 _ I3 q3) fun b s4 ⟨H4, I4, hb, q4⟩ => ?_
    have fin : ∀ {s' : Shared} {H' : Hp}, Inv Y (pinsAt L s0.heap ++ pinsAt fp s2.heap) σ3 H' s' → Inv Y (pinsAt L s0.heap) (wipe σ vs) H' s' ∧ tn (i + 1) s'.heap ∧ (∀ b ∈ fp, H' b = none) := fun {s' H'} I' => by
      have pin' : ∀ b ∈ fp, ∀ o, s2.heap.get? b = some o → s'.heap.get? b = some o ∧ H' b = none := fun b hb o e =>
        let z := I'.pin (b, o) (List.mem_append_right _ (List.mem_append_right _ (mem_pinsAt hb e)))
        ⟨z.1, z.2.1⟩
      have hl : (wipe σ vs).length = σ3.length := by rw [← hw3, wipe_length]
      refine ⟨I'.unpinned.weak hl (fun j v e => ?_), T.keep _ _ _ st2 fun b hb o e => (pin' b hb o e).1, fun b hb => ?_⟩
      · rw [← hw3] at e
        exact (wipe_some e).1
      · obtain ⟨o, e, _⟩ := T.obj _ _ st2 b hb
        exact (pin' b hb o e).2
    cases b with
    | false =>
      rw [passing_false hlt hb.symm]
      simp only [Bool.false_eq_true, if_false] at q4 ⊢
      obtain ⟨f1, f2, f3⟩ := fin I4
      exact seg_again rfl (ih (i + 1) s0 _ (by omega) hlt ⟨H4, f1, f2, f3, q4⟩)
    | true =>
      rw [passing_true hlt hb.symm, List.length_cons]
      simp only [if_true] at q4 ⊢
      have hy : ∀ v, yieldOut Y.env v = yieldValue v := fun v => by simp only [yieldOut, hco, Bool.false_eq_true, if_false]
      simp only [hy]
      rw [Sem.bind_eq_wrap', Sem.bind_eq_wrap', Sem.wrap_wrap, Sem.wrap_wrap]
      refine seg_wrap ?_
      rw [ov]
      refine thnF (per s4 σ3 H4 _ I4 q4) fun z s5 ⟨yv, H5, I5, r5, ey, p5⟩ => ?_
      subst ey
      obtain ⟨f1, f2, f3⟩ := fin I5
      refine seg_at (seg_yield rfl rfl rfl ⟨i, H5, passing_here hlt hb.symm, r5, f1, f2, f3, p5, fun s6 h6 => ?_⟩)
      exact seg_again rfl (ih (i + 1) s6 s6 (by omega) hlt h6)
theorem seg_gx0 {A : Around} {σ : L2.St} {vs : List Nat} {J : It} {g : TG} {tt : TT} {te : TE} {it : Addr} {elt tg iter : Expr} {ifs : List Expr} {scope : Scope} {pos : Pos}
    (hA : A.deeper Y.env = Y.A) (hc : Y.calm = true) (hpn : Y.pn = []) (hxe : Y.xe = fun _ _ => False) (hco : Y.env.scope.isCoroutine = false)
    (T : Turn Y.prog Y.w Y.K tg J fp it tn) (pg : PG Y tg g) (pt : PTs Y ifs tt) (pe : PE Y elt te) (hex : ∀ b ∈ fp, b ∈ Y.ex) (hLf : ∀ b ∈ fp, b ∉ L)
    (go : ∀ i H, i < n → Pv i H → J.go i H) (stop : ∀ H, Pv n H → J.stop n H) (step : GStep J g tt te σ vs Pv n pz F) (s : Shared) (h : GAt Y L fp (wipe σ vs) tn Pv 0 s) :
    Seg (model Y.prog Y.w) A (GEnd Y L (wipe σ vs) Pv n) (GYld Y L fp (wipe σ vs) tn Pv n pz F) (passing pz n 0).length s
      (.compStart (gxE elt tg iter ifs scope pos) 0 (.ref it) .none Y.env) ((model Y.prog Y.w).den (.compStart (gxE elt tg iter ifs scope pos) 0 (.ref it) .none Y.env)) [] s := by
  have loop := seg_gx (A := A) (iter := iter) (scope := scope) (pos := pos) (pz := pz) (F := F) hA hc hpn hxe hco T pg pt pe hex hLf go stop step n 0 s s rfl (Nat.zero_le _) h
  obtain ⟨H, I, st, nf, pv⟩ := h
  show Seg _ A _ _ _ s _ ((compStart (gxE elt tg iter ifs scope pos) 0 (.ref it) .none Y.env).onRaise (leaving Y.env)) [] s
  unfold compStart
  rw [Sem.onRaise_eq_wrap]
  show Seg _ A _ _ _ s _ ((ask >>= _).wrap _ _ _ _) [] s
  refine seg_bind_wrap (wpAny_askSetting ?_)
  split
  · exact seg_again rfl loop
  · first
      | exact seg_bind_wrap (wpAny_rule (seg_bind_wrap (wpAny_standAt (seg_bind_wrap (T.self _ 0 s _ _ st (seg_again rfl loop))))))
      | (refine seg_bind_wrap (wpAny_rule ?_); show Seg _ A _ _ _ s _ ((standAt iter.pos >>= _).wrap _ _ _ _) [] s; exact seg_bind_wrap (wpAny_standAt (seg_bind_wrap (T.self _ 0 s _ _ st (seg_again rfl loop)))))
end
/-! ### .. as their consumers see them -/
theorem pins_eq {h h' : Heap} : ∀ {L : List Addr}, (∀ b ∈ L, ∃ o, h.get? b = some o) → (∀ p ∈ pinsAt L h, h'.get? p.1 = some p.2) → pinsAt L h' = pinsAt L h
  | [], _, _ => rfl
  | b :: L, ho, k => by
    obtain ⟨o, e⟩ := ho b List.mem_cons_self
    have e' : h'.get? b = some o := k (b, o) (mem_pinsAt List.mem_cons_self e)
    have ih : pinsAt L h' = pinsAt L h := pins_eq (fun c hc => ho c (List.mem_cons_of_mem _ hc)) fun p hp => k p (by
      obtain ⟨h1, h2⟩ := of_pinsAt hp
      exact mem_pinsAt (b := p.1) (o := p.2) (List.mem_cons_of_mem _ h1) h2)
    unfold pinsAt at ih ⊢
    rw [List.filterMap_cons, List.filterMap_cons, e, e', ih]
theorem pins_nil {L : List Addr} {h : Heap} {X : Cx} {σ : L2.St} {H : Hp} {s : Shared} (I : Inv X (pinsAt L h) σ H s) : Inv X [] σ H s := I.pins_of fun p hp => nomatch hp
section
variable {Y : Cx} {L fp : List Addr} {σw : L2.St} {tn : Nat → Heap → Prop} {Pv : Nat → Hp → Prop} {n : Nat} {pz : Nat → Bool} {F : Nat → V} {A : Around} {a : Addr} {g : Nat}
/-- the generator at a, of the number g, j handed out -/
structure GS (Y : Cx) (L fp : List Addr) (σw : L2.St) (tn : Nat → Heap → Prop) (Pv : Nat → Hp → Prop) (n : Nat) (pz : Nat → Bool) (F : Nat → V) (A : Around) (a : Addr) (g j : Nat) (s : Shared) : Prop where
  gen : s.heap.IsGen a g
  objs : ∀ b ∈ L, ∃ o, s.heap.get? b = some o
  at_ : GAt Y L fp σw tn Pv (tj pz n j) s
  go : ∃ gs, s.gens[g]? = some gs ∧ ∀ s2, GAt Y L fp σw tn Pv (tj pz n j) s2 → gs.Goes (model Y.prog Y.w) A.in1 (GEnd Y L σw Pv n) (GYld Y L fp σw tn Pv n pz F) ((passing pz n 0).length - j) (.send .none) s2
theorem GS.running {j : Nat} {s : Shared} (h : GS Y L fp σw tn Pv n pz F A a g j s) : GAt Y L fp σw tn Pv (tj pz n j) (s.setGen g .running) := by
  obtain ⟨H, I, st, nf, pv⟩ := h.at_
  exact ⟨H, inv_gens I (bare_set I.bare rfl), st, nf, pv⟩
theorem GAt.again {i : Nat} {s s1 : Shared} {H : Hp} {G : Array GenState} (ho : ∀ b ∈ L, ∃ o, s.heap.get? b = some o) (I : Inv Y (pinsAt L s.heap) σw H s1) (st : tn i s1.heap) (nf : ∀ b ∈ fp, H b = none) (pv : Pv i H) (hG : AllBare G) :
    GAt Y L fp σw tn Pv i { s1 with gens := G } := by
  have e := pins_eq (h' := s1.heap) ho fun p hp => (I.pin p (List.mem_append_right _ hp)).1
  exact ⟨H, by show Inv Y (pinsAt L s1.heap) σw H { s1 with gens := G }; rw [e]; exact inv_gens I hG, st, nf, pv⟩
theorem next_gx {j : Nat} {s : Shared} {Q : Option Value → Shared → Prop} {E : Value → Shared → Prop} (hh : A.handled = none) (hroom : A.depth < recursionLimit) (haL : a ∈ L) (hj : j < (passing pz n 0).length) (h : GS Y L fp σw tn Pv n pz F A a g j s)
    (hQ : ∀ v i s', (passing pz n 0)[j]? = some i → RelV (F i) v → GS Y L fp σw tn Pv n pz F A a g (j + 1) s' → (∀ b ∈ L, ∀ o, s.heap.get? b = some o → s'.heap.get? b = some o) → Q (some v) s') :
    wpAny (model Y.prog Y.w) A (pyNext (.ref a)) Q E s := by
  obtain ⟨gs, hgs, hgo⟩ := h.go
  obtain ⟨m, hm⟩ : ∃ m, (passing pz n 0).length - j = m + 1 := ⟨(passing pz n 0).length - j - 1, by omega⟩
  rw [hm] at hgo
  have hgl : g < s.gens.size := (Array.getElem?_eq_some_iff.mp hgs).1
  have lim : s.heap.NoLimit := let ⟨_, I, _⟩ := h.at_; I.nolimit
  refine GenW.wpAny_gsz (n := s.gens.size) (Nat.le_refl _) ?_
  refine wpAny_pyNext_genexpQ (P := fun m s0 s1 => m = 0 ∧ ∃ H, Inv Y (pinsAt L s0.heap) σw H s1 ∧ Pv n H) hh lim hroom h.gen hgs (hgo _ h.running) (fun v s1 gs' hb hv => ?_) (fun s1 hp h' hk => ?_)
  · obtain ⟨i, H, hi, rv, I, st, nf, pv, kap⟩ := hv
    have hi : (passing pz n 0)[(passing pz n 0).length - 1 - (m + 1 - 1)]? = some i := hi
    have hidx : (passing pz n 0).length - 1 - (m + 1 - 1) = j := by omega
    rw [hidx] at hi
    have I : Inv Y (pinsAt L s.heap) σw H s1 := I
    intro hsz
    have hsz1 : s.gens.size ≤ s1.gens.size := by rw [GenW.setGen_size] at hsz; exact hsz
    have et : tj pz n (j + 1) = i + 1 := by
      show (passing pz n 0).getD j 0 + 1 = i + 1
      rw [List.getD_eq_getElem?_getD, hi]
      rfl
    have pin : ∀ b ∈ L, ∀ o, s.heap.get? b = some o → s1.heap.get? b = some o := fun b hb' o e => (I.pin (b, o) (List.mem_append_right _ (mem_pinsAt hb' e))).1
    refine hQ v i _ hi rv ⟨?_, fun b hb' => ?_, ?_, gs', ?_, fun s2 h2 => ?_⟩ pin
    · obtain ⟨o, nm, qn, ho, r⟩ := h.gen
      exact ⟨o, nm, qn, pin a haL o ho, r⟩
    · obtain ⟨o, e⟩ := h.objs b hb'
      exact ⟨o, pin b hb' o e⟩
    · rw [et]
      exact GAt.again h.objs I st nf pv (bare_set I.bare hb)
    · have : g < s1.gens.size := Nat.lt_of_lt_of_le hgl hsz1
      simp [Shared.setGen, this]
    · rw [et] at h2
      have k2 := kap s2 h2
      have e : (passing pz n 0).length - (j + 1) = m := by omega
      rw [e]
      exact k2
  · exact absurd hp.1 (Nat.succ_ne_zero m)
theorem done_gx {s : Shared} {Q : Option Value → Shared → Prop} {E : Value → Shared → Prop} (hh : A.handled = none) (hroom : A.depth < recursionLimit) (h : GS Y L fp σw tn Pv n pz F A a g (passing pz n 0).length s)
    (hQ : ∀ s' H, Inv Y (pinsAt L s.heap) σw H s' → Pv n H → Q none s') : wpAny (model Y.prog Y.w) A (pyNext (.ref a)) Q E s := by
  obtain ⟨gs, hgs, hgo⟩ := h.go
  rw [Nat.sub_self] at hgo
  have lim : s.heap.NoLimit := let ⟨_, I, _⟩ := h.at_; I.nolimit
  refine wpAny_pyNext_genexpQ (P := fun m s0 s1 => m = 0 ∧ ∃ H, Inv Y (pinsAt L s0.heap) σw H s1 ∧ Pv n H) hh lim hroom h.gen hgs (hgo _ h.running) (fun v s1 gs' hb hv => ?_) (fun s1 hp h' hk => ?_)
  · obtain ⟨i, H, hi, rv, I, st, nf, pv, kap⟩ := hv
    have I : Inv Y (pinsAt L s.heap) σw H s1 := I
    exact False.elim (kap s1 (GAt.again h.objs I st nf pv I.bare))
  · obtain ⟨_, H, I, pv⟩ := hp
    have I : Inv Y (pinsAt L s.heap) σw H s1 := I
    exact hQ _ H (inv_gens (I.kept (t' := s1.toks) hk) (bare_set I.bare rfl)) pv
/-- wherever it stands: what holds there -/
theorem GS.stands {j : Nat} {s : Shared} (h : GS Y L fp σw tn Pv n pz F A a g j s) (hj : j ≤ (passing pz n 0).length) : ∃ i H, i ≤ n ∧ Inv Y (pinsAt L s.heap) σw H s ∧ Pv i H := by
  obtain ⟨H, I, st, nf, pv⟩ := h.at_
  refine ⟨_, H, ?_, I, pv⟩
  match j, hj with
  | 0, _ => exact Nat.zero_le _
  | j + 1, hj =>
    have e : (passing pz n 0)[j]? = some ((passing pz n 0)[j]'hj) := List.getElem?_eq_getElem _
    show (passing pz n 0).getD j 0 + 1 ≤ n
    rw [List.getD_eq_getElem?_getD, e]
    have hm : (passing pz n 0)[j]'hj ∈ passing pz n 0 := List.getElem_mem _
    have hm2 : (passing pz n 0)[j]'hj ∈ List.range n := by
      unfold passing at hm
      exact (List.mem_filter.mp hm).1
    exact List.mem_range.mp hm2
theorem all_gx {f : Nat → Bool} {R : Result → Shared → Prop} (hh : A.in1.handled = none) (hroom : A.in1.depth < recursionLimit) (haL : a ∈ L) (hF : F = fun i => .bl (f i)) : ∀ (k j : Nat) (s : Shared), (passing pz n 0).length - j = k → j ≤ (passing pz n 0).length →
    GS Y L fp σw tn Pv n pz F A.in1 a g j s → (∀ s' i H, i ≤ n → Inv Y [] σw H s' → Pv i H → R (.ok (.ret (.bool (((passing pz n 0).drop j).all f)))) s') →
    codeAny (model Y.prog Y.w) A (.builtin "all.loop" ⟨[.ref a], []⟩) R s := by
  intro k
  induction k with
  | zero =>
    intro j s hk hj hst hR
    have hin : j = (passing pz n 0).length := by omega
    subst hin
    refine codeAny_builtin PySem.F.entry_all_loop ?_
    rw [Around.under_plainId PySem.F.plain_all_loop _]
    show wpAny _ A.in1 (pyNext (.ref a) >>= _) _ _ s
    refine wpAny_bind (done_gx hh hroom hst fun s' H I pv => ?_)
    refine wpAny_bind (wpAny_rule (wpAny_pure ?_))
    have := hR s' n H (Nat.le_refl _) (pins_nil I) pv
    rw [List.drop_of_length_le (Nat.le_refl _)] at this
    exact this
  | succ k ih =>
    intro j s hk hj hst hR
    have hlt : j < (passing pz n 0).length := by omega
    have hd : (passing pz n 0).drop j = (passing pz n 0)[j]'hlt :: (passing pz n 0).drop (j + 1) := List.drop_eq_getElem_cons hlt
    refine codeAny_builtin PySem.F.entry_all_loop ?_
    rw [Around.under_plainId PySem.F.plain_all_loop _]
    show wpAny _ A.in1 (pyNext (.ref a) >>= _) _ _ s
    refine wpAny_bind (next_gx hh hroom haL hlt hst fun v i s' hi rv hst' pin => ?_)
    rw [List.getElem?_eq_getElem hlt] at hi
    have ei := Option.some.inj hi
    rw [hF] at rv
    obtain rfl : v = Value.bool (f i) := rv
    refine wpAny_bind (wpAny_holding (wpAny_truthy_bool ?_))
    refine wpAny_bind (wpAny_letGo ?_)
    cases hb : f i with
    | true =>
      simp only [if_true]
      refine wpAny_pure ⟨plainId_quiet PySem.F.plain_all_loop _, ih (j + 1) _ (by omega) hlt hst' fun s'' i' H hi' I pv => ?_⟩
      have := hR s'' i' H hi' I pv
      rw [hd, List.all_cons, ei, hb, Bool.true_and] at this
      exact this
    | false =>
      simp only [Bool.false_eq_true, if_false]
      refine wpAny_bind (wpAny_rule (wpAny_pure ?_))
      obtain ⟨i', H, hi', I, pv⟩ := hst'.stands hlt
      have := hR s' i' H hi' (pins_nil I) pv
      rw [hd, List.all_cons, ei, hb, Bool.false_and] at this
      exact this
theorem any_gx {f : Nat → Bool} {R : Result → Shared → Prop} (hh : A.in1.handled = none) (hroom : A.in1.depth < recursionLimit) (haL : a ∈ L) (hF : F = fun i => .bl (f i)) : ∀ (k j : Nat) (s : Shared), (passing pz n 0).length - j = k → j ≤ (passing pz n 0).length →
    GS Y L fp σw tn Pv n pz F A.in1 a g j s → (∀ s' i H, i ≤ n → Inv Y [] σw H s' → Pv i H → R (.ok (.ret (.bool (((passing pz n 0).drop j).any f)))) s') →
    codeAny (model Y.prog Y.w) A (.builtin "any.loop" ⟨[.ref a], []⟩) R s := by
  intro k
  induction k with
  | zero =>
    intro j s hk hj hst hR
    have hin : j = (passing pz n 0).length := by omega
    subst hin
    refine codeAny_builtin PySem.F.entry_any_loop ?_
    rw [Around.under_plainId PySem.F.plain_any_loop _]
    show wpAny _ A.in1 (pyNext (.ref a) >>= _) _ _ s
    refine wpAny_bind (done_gx hh hroom hst fun s' H I pv => ?_)
    refine wpAny_bind (wpAny_rule (wpAny_pure ?_))
    have := hR s' n H (Nat.le_refl _) (pins_nil I) pv
    rw [List.drop_of_length_le (Nat.le_refl _)] at this
    exact this
  | succ k ih =>
    intro j s hk hj hst hR
    have hlt : j < (passing pz n 0).length := by omega
    have hd : (passing pz n 0).drop j = (passing pz n 0)[j]'hlt :: (passing pz n 0).drop (j + 1) := List.drop_eq_getElem_cons hlt
    refine codeAny_builtin PySem.F.entry_any_loop ?_
    rw [Around.under_plainId PySem.F.plain_any_loop _]
    show wpAny _ A.in1 (pyNext (.ref a) >>= _) _ _ s
    refine wpAny_bind (next_gx hh hroom haL hlt hst fun v i s' hi rv hst' pin => ?_)
    rw [List.getElem?_eq_getElem hlt] at hi
    have ei := Option.some.inj hi
    rw [hF] at rv
    obtain rfl : v = Value.bool (f i) := rv
    refine wpAny_bind (wpAny_holding (wpAny_truthy_bool ?_))
    refine wpAny_bind (wpAny_letGo ?_)
    cases hb : f i with
    | false =>
      simp only [Bool.false_eq_true, if_false]
      refine wpAny_pure ⟨plainId_quiet PySem.F.plain_any_loop _, ih (j + 1) _ (by omega) hlt hst' fun s'' i' H hi' I pv => ?_⟩
      have := hR s'' i' H hi' I pv
      rw [hd, List.any_cons, ei, hb, Bool.false_or] at this
      exact this
    | true =>
      simp only [if_true]
      refine wpAny_bind (wpAny_rule (wpAny_pure ?_))
      obtain ⟨i', H, hi', I, pv⟩ := hst'.stands hlt
      have := hR s' i' H hi' (pins_nil I) pv
      rw [hd, List.any_cons, ei, hb, Bool.true_or] at this
      exact this
end
/-! ### .. sum -/
section
variable {Y : Cx} {L fp : List Addr} {σw : L2.St} {tn : Nat → Heap → Prop} {Pv : Nat → Hp → Prop} {n : Nat} {pz : Nat → Bool} {F : Nat → V} {A : Around} {a S : Addr} {g : Nat}
/-- the consumer writes its own list at S -/
theorem GS.put {j : Nat} {s : Shared} {h' : Heap} {tk : Nat} (hpn : Y.pn = []) (hSL : S ∈ L) (haS : a ≠ S) (hS0 : Y.s_0.heap.objs.size ≤ S) (hLf : ∀ b ∈ fp, b ∉ L) (tk_ : ∀ i h h2, tn i h → (∀ b ∈ fp, ∀ o, h.get? b = some o → h2.get? b = some o) → tn i h2)
    (h : GS Y L fp σw tn Pv n pz F A a g j s) (k : ∀ b o, b ≠ S → s.heap.get? b = some o → h'.get? b = some o) (new : ∃ o, h'.get? S = some o ∧ ∀ v, o.data ≠ .cell v) :
    GS Y L fp σw tn Pv n pz F A a g j { s with heap := h', toks := tk } := by
  obtain ⟨H, I, st, nf, pv⟩ := h.at_
  obtain ⟨oS, eS⟩ := h.objs S hSL
  obtain ⟨_, p2, p3, p4, p5⟩ := I.pin (S, oS) (List.mem_append_right _ (mem_pinsAt hSL eS))
  have pS : H S = none := p2
  obtain ⟨oN, eN, dN⟩ := new
  have nS : ∀ b u, H b = some u → b ≠ S := fun b u e z => by rw [z, pS] at e; cases e
  have cS : ∀ x c, Y.env.cells.lookup x = some c → c ≠ S := fun x c e z => by
    obtain ⟨v, o, ho, hd⟩ := I.cell x c e
    rw [z, eS] at ho
    cases ho
    exact p5 _ hd
  have I0 : Inv Y [] σw H s := pins_nil I
  have J : Inv Y [] σw H { s with heap := h', toks := tk } := by
    refine I0.step (g' := s.gens) (d' := s.drawn) (ch := [S]) (fun b hb => ?_) (fun b o _ _ hc e _ => k b o (fun z => hc (by simp [z])) e) (fun b o _ _ hc e _ => ⟨o.slots, k b o (fun z => hc (by simp [z])) e⟩) (fun _ _ _ _ m => m)
      (fun b o hc e => ⟨o, k b o (fun z => hc (by simp [z])) e⟩) (fun _ _ e => e) (fun _ _ _ e => e) (fun b ps e => ⟨#[], by rw [e]; simp⟩) (fun m hm => ?_) (fun b u e => ?_) I.bare
    · have e : b = S := by simpa using hb
      subst e
      refine ⟨.inr hS0, p3, cS, fun p hp => ?_⟩
      rw [hpn] at hp
      exact nomatch hp
    · obtain ⟨o, es, ep, ho, r⟩ := hm
      exact ⟨o, es, ep, k _ o (Ne.symm p3) ho, r⟩
    · refine (I.hok b u e).stay (fun c v hc q => k c v ?_ q) (fun _ q => q) fun _ _ q => q
      rcases hc with z | z
      · rw [z]; exact nS b u e
      · exact nS c _ z
  refine ⟨?_, fun b hb => ?_, ⟨H, J.pins_of fun p hp => ?_, tk_ _ _ _ st fun b hb o e => k b o (fun z => hLf b hb (by rw [z]; exact hSL)) e, nf, pv⟩, h.go⟩
  · obtain ⟨o, nm, qn, ho, r⟩ := h.gen
    exact ⟨o, nm, qn, k a o haS ho, r⟩
  · by_cases z : b = S
    · rw [z]
      exact ⟨oN, eN⟩
    · obtain ⟨o, e⟩ := h.objs b hb
      exact ⟨o, k b o z e⟩
  · obtain ⟨h1, h2⟩ := of_pinsAt hp
    have h2 : h'.get? p.1 = some p.2 := h2
    by_cases z : p.1 = S
    · rw [z] at h2 ⊢
      rw [eN] at h2
      cases h2
      exact ⟨eN, pS, p3, p4, dN⟩
    · obtain ⟨o, e⟩ := h.objs p.1 h1
      have e2 := k p.1 o z e
      rw [h2] at e2
      have e3 := Option.some.inj e2
      obtain ⟨q1, q2, q3, q4, q5⟩ := I.pin (p.1, o) (List.mem_append_right _ (mem_pinsAt h1 e))
      exact ⟨h2, q2, q3, q4, by rw [e3]; exact q5⟩
abbrev sumObj (i : Int) (t : Tok) (c : Nat) : Obj := { cls := .type "list", dict := none, data := .seq #[.int i t] c, slots := #[] }
theorem sum_gx {f : Nat → Int} {val : Nat → Int} {R : Result → Shared → Prop} (hpn : Y.pn = []) (hSL : S ∈ L) (haS : a ≠ S) (hS0 : Y.s_0.heap.objs.size ≤ S) (hLf : ∀ b ∈ fp, b ∉ L) (tk_ : ∀ i h h2, tn i h → (∀ b ∈ fp, ∀ o, h.get? b = some o → h2.get? b = some o) → tn i h2)
    (hh : A.in1.handled = none) (hroom : A.in1.depth < recursionLimit) (haL : a ∈ L) (hF : F = fun i => .int (f i)) (hval : ∀ j i, (passing pz n 0)[j]? = some i → val j = f i) (hfit : ∀ j, j < (passing pz n 0).length → InLong (val j) ∧ InLong (preSum val (j + 1))) :
    ∀ (k j : Nat) (s : Shared) (tA : Tok) (c : Nat), (passing pz n 0).length - j = k → j ≤ (passing pz n 0).length → GS Y L fp σw tn Pv n pz F A.in1 a g j s → s.heap.get? S = some (sumObj (preSum val j) tA c) →
    (∀ s' t' H, Inv Y [] σw H s' → Pv n H → R (.ok (.ret (.int (preSum val (passing pz n 0).length) t'))) s') → codeAny (model Y.prog Y.w) A (.builtin "sum.loop" ⟨[.ref a, .ref S, rawInt 0, rawInt 0], []⟩) R s := by
  intro k
  induction k with
  | zero =>
    intro j s tA c hk hj hst hS hR
    have hin : j = (passing pz n 0).length := by omega
    subst hin
    refine codeAny_builtin PySem.F.entry_sum_loop ?_
    rw [Around.under_plainId PySem.F.plain_sum_loop _]
    show wpAny _ A.in1 (seqItems? (.ref S) >>= _) _ _ s
    refine wpAny_bind (wpAny_seqItems hS rfl ?_)
    show wpAny _ A.in1 (tryCatch (pyNext (.ref a)) _ >>= _) _ _ s
    refine wpAny_bind (wpAny_tryCatch (done_gx hh hroom hst fun s' H I pv => ?_))
    exact wpAny_pure (hR s' tA H (pins_nil I) pv)
  | succ k ih =>
    intro j s tA c hk hj hst hS hR
    have hlt : j < (passing pz n 0).length := by omega
    refine codeAny_builtin PySem.F.entry_sum_loop ?_
    rw [Around.under_plainId PySem.F.plain_sum_loop _]
    show wpAny _ A.in1 (seqItems? (.ref S) >>= _) _ _ s
    refine wpAny_bind (wpAny_seqItems hS rfl ?_)
    show wpAny _ A.in1 (tryCatch (pyNext (.ref a)) _ >>= _) _ _ s
    refine wpAny_bind (wpAny_tryCatch (next_gx hh hroom haL hlt hst fun v i s' hi rv hst' pin => ?_))
    rw [hF] at rv
    obtain ⟨t, rfl⟩ : ∃ t, v = Value.int (f i) t := rv
    rw [← hval j i hi]
    have hS' := pin S hSL _ hS
    obtain ⟨⟨f1, f2⟩, f3, f4⟩ := hfit j hlt
    have hc : ((decide (-(2 ^ 63) ≤ val j) && decide (val j < 2 ^ 63)) && (decide (-(2 ^ 63) ≤ preSum val j + val j) && decide (preSum val j + val j < 2 ^ 63))) = true := by
      simp only [preSum] at f3 f4
      simp only [Bool.and_eq_true, decide_eq_true_eq]
      exact ⟨⟨f1, f2⟩, f3, f4⟩
    show wpAny _ A.in1 (if (_ : Bool) = true then (mkInt (preSum val j + val j) >>= _) else _) _ _ _
    split
    · refine wpAny_bind (wpAny_mkInt ?_)
      show wpAny _ A.in1 (updateSeq S (fun _ => #[.int (preSum val j + val j) s'.toks]) >>= _) _ _ _
      refine wpAny_bind ?_
      refine wpAny_updateSeq hS' rfl (wpAny_pure ⟨plainId_quiet PySem.F.plain_sum_loop _, ih (j + 1) _ s'.toks _ (by omega) hlt ?_ (Heap.get?_update_self _ hS' rfl) hR⟩)
      exact GS.put (s := s') (tk := s'.toks + 1) hpn hSL haS hS0 hLf tk_ hst' (fun b o hb e => (Heap.get?_update_other _ _ (Ne.symm hb)).trans e) ⟨_, Heap.get?_update_self _ hS' rfl, fun v z => by cases z⟩
    · rename_i hneg
      exact absurd hc hneg
end
theorem preSum_take (f : Nat → Int) (l : List Nat) : ∀ j, j ≤ l.length → preSum (fun j => f (l.getD j 0)) j = ((l.take j).map f).sum
  | 0, _ => rfl
  | j + 1, h => by
    have e : l[j]? = some (l[j]'h) := List.getElem?_eq_getElem _
    rw [preSum, preSum_take f l j (Nat.le_of_succ_le h), List.take_add_one, e, List.map_append, List.sum_append, List.getD_eq_getElem?_getD, e]
    simp
theorem sum_bound {f : Nat → Int} {B : Nat} : ∀ l : List Nat, (∀ i ∈ l, (f i).natAbs ≤ B) → ((l.map f).sum).natAbs ≤ l.length * B
  | [], _ => by simp
  | i :: l, h => by
    have h1 := h i List.mem_cons_self
    have h2 := sum_bound l fun k hk => h k (List.mem_cons_of_mem _ hk)
    rw [List.map_cons, List.sum_cons, List.length_cons, Nat.succ_mul]
    exact Nat.le_trans (Int.natAbs_add_le _ _) (by omega)
/-! ### the rules -/
/-- a generator expression's own scope -/
def gxOk (scope : Scope) : Bool := decide (scope.kind = .function) && (!scope.isCoroutine && (scope.names.all (fun y => decide (y.2 ≠ .cell)) && decide (scope.names.lookup (".0" : Str) = some NameKind.local)))
structure GxOk (scope : Scope) : Prop where
  kind : scope.kind = .function
  co : scope.isCoroutine = false
  nc : ∀ y ∈ scope.names, y.2 ≠ .cell
  dot : scope.names.lookup (".0" : Str) = some NameKind.local
theorem gx_ok {scope : Scope} (h : gxOk scope = true) : GxOk scope := by
  obtain ⟨h1, h⟩ := Bool.and_eq_true_iff.mp h
  obtain ⟨h2, h⟩ := Bool.and_eq_true_iff.mp h
  obtain ⟨h3, h4⟩ := Bool.and_eq_true_iff.mp h
  exact ⟨of_decide_eq_true h1, by simpa using h2, fun y hy => of_decide_eq_true (List.all_eq_true.mp h3 y hy), of_decide_eq_true h4⟩
theorem room_gx {k : Nat} {A : Around} {env : Env} (r : Room (k + 1) A) : Room k (A.in1.in1.deeper env) :=
  ⟨r.hd, by have := r.dp; show A.depth + 1 + 3 * k + 5 < _; omega, by have := r.un; show A.units + 1 + 1 + 3 + 16 * k + 200 < _; omega⟩
section
variable {X : Cx}
/-- the generator at a is made and has not begun: it can be walked by a consumer that pins what stands at L a -/
structure GMd (X : Cx) (pins : List (Addr × Obj)) (σ : L2.St) (Pv : Nat → Hp → Prop) (n : Nat) (pz : Nat → Bool) (F : Nat → V) (vs : List Nat) (L : Addr → List Addr) (a : Addr) (s : Shared) : Prop where
  ex : ∃ (Y : Cx) (fp : List Addr) (tn : Nat → Heap → Prop) (g : Nat) (go : Obj), Y.prog = X.prog ∧ Y.w = X.w ∧ Y.pn = [] ∧ Y.s_0.heap.objs.size < a ∧ s.heap.objs.size = a + 1 ∧ s.heap.get? a = some go ∧ (∀ v, go.data ≠ .cell v) ∧ s.heap.IsGen a g ∧
    (∀ b ∈ fp, b < a) ∧ (∀ i h h2, tn i h → (∀ b ∈ fp, ∀ o, h.get? b = some o → h2.get? b = some o) → tn i h2) ∧
    (∃ H, Inv Y [(a, go)] (wipe σ vs) H s ∧ tn 0 s.heap ∧ (∀ b ∈ fp, H b = none) ∧ Pv 0 H) ∧
    (∃ gs, s.gens[g]? = some gs ∧ ∀ s2, GAt Y (L a) fp (wipe σ vs) tn Pv 0 s2 → gs.Goes (model Y.prog Y.w) X.A.in1.in1 (GEnd Y (L a) (wipe σ vs) Pv n) (GYld Y (L a) fp (wipe σ vs) tn Pv n pz F) (passing pz n 0).length (.send .none) s2) ∧
    ∀ s' H, Inv Y [] (wipe σ vs) H s' → Inv X pins σ H s'
def tGx (P : Addr) (wi : TI) (g : TG) (tt : TT) (te : TE) (vs : List Nat) (σ : L2.St) (H : Hp) (K : Nat → (Nat → Bool) → (Nat → V) → (Nat → Hp → Prop) → Prop) : Prop :=
  wi σ H fun J H1 => H1 P = some (TabO P) ∧ ∃ (n : Nat) (pz : Nat → Bool) (F : Nat → V) (Pv : Nat → Hp → Prop), Pv 0 H1 ∧ (∀ i H, i < n → Pv i H → J.go i H) ∧ (∀ H, Pv n H → J.stop n H) ∧ GStep J g tt te σ vs Pv n pz F ∧ K n pz F Pv
theorem make_gx {c P : Addr} {elt tg iter : Expr} {ifs : List Expr} {scope : Scope} {own : List (Str × Nat)} {gpos : Pos} {wi : TI} {g : TG} {tt : TT} {te : TE} {k : Nat} {pins : List (Addr × Obj)} {s : Shared} {σ : L2.St} {H : Hp} {Q' : Value → Shared → Prop} (L : Addr → List Addr)
    {Kk : Nat → (Nat → Bool) → (Nat → V) → (Nat → Hp → Prop) → Prop} (hL : ∀ a, ∀ b ∈ L a, a ≤ b)
    (hr : Room k X.A) (hN : X.N.Nodup) (TB : GxR.TabB X.base X.mg c P) (hcode : X.env.code = .ref c) (hi : PI X tg iter wi) (ok : BlkOk X.N X.env.scope scope own) (S : GxOk scope)
    (pg : ∀ (s : Shared) (H : Hp) (C : Addr) (code : Value) (fp : List Addr), PG (gblk X s H (gxEnv X scope C code) fp) tg g) (pt : ∀ (s : Shared) (H : Hp) (C : Addr) (code : Value) (fp : List Addr), PTs (gblk X s H (gxEnv X scope C code) fp) ifs tt)
    (pe : ∀ (s : Shared) (H : Hp) (C : Addr) (code : Value) (fp : List Addr), PE (gblk X s H (gxEnv X scope C code) fp) elt te)
    (hs : ∀ v, genFold iter X.env v = pure v) (I : Inv X pins σ H s) (h : tGx P wi g tt te (own.map (·.2)) σ H Kk)
    (hQ : ∀ n pz F Pv a s5, Kk n pz F Pv → GMd X pins σ Pv n pz F (own.map (·.2)) L a s5 → Q' (.ref a) s5) :
    wpAny (model X.prog X.w) X.A (eval (gxE elt tg iter ifs scope gpos) X.env) Q' X.xe s := by
  have hfree : ∀ y ∈ scope.names, y.2 = .free → ∃ c, X.env.cells.lookup y.1 = some c := fun y hy e => by
    rcases ok.free y hy e with k | k
    · exact I.ok.has _ (.inl k)
    · exact I.ok.has _ (.inr k)
  refine wpAny_GeneratorExp_make S.co (closure_ok hfree) S.nc S.dot S.kind (by have := hr.dp; omega) ?_ hs
  refine thn (hi.run pins s σ H _ I h) fun xv s1 hx => thn hx fun itv s2 h2 => ?_
  obtain ⟨it, fp, tn, J, H2, rfl, I2, T, st2, f2, hP, n, pz, F, Pv, p0, go, stop, step, kk⟩ := h2
  obtain ⟨⟨ps, hPs, ht⟩, _, _⟩ := (show ObjOk X.prog X.w H2 s2.heap P (TabO P) from I2.hok P _ hP)
  have cd : PySem.W.CodeHd s2.heap c P := TB.code.keeps fun b u e => I2.bk b u e
  have sz : ∀ b ∈ fp, b < s2.heap.objs.size := fun b hb => by
    obtain ⟨o, e, _⟩ := T.obj _ _ st2 b hb
    exact Heap.lt_size e
  have nPf : ∀ b ∈ fp, b ≠ P := fun b hb z => by
    have := (f2 b hb).1
    rw [z, hP] at this
    cases this
  have cont : ∀ (code : Value) (h3 : Heap) (tk : Nat), Heap.ExtBut P s2.heap h3 → s2.heap.objs.size ≤ h3.objs.size → tabP P h3 →
      wpAny (model X.prog X.w) X.A (builtinsFor X.env.globals X.env.builtins) (fun bi s4 => ∀ h', h'.Ns s4.heap.objs.size (fun y => if y = ".0" then some (.ref it) else none) → Heap.SameBut s4.heap.objs.size (s4.heap.push { cls := .type "frame", data := .dict #[] }) h' →
          Q' (.ref h'.objs.size) { s4 with
            gens := s4.gens.push (.fresh (.compStart (gxE elt tg iter ifs scope gpos) 0 (.ref it) .none (genEnv scope (cloFrom X.env.cells scope.names []) s4.heap.objs.size code bi X.env))),
            toks := s4.toks + 1 + 1 + 1,
            heap := h'.push { cls := .type "generator", data := .fields #[.int s4.gens.size 0, .str "<genexpr>" (s4.toks + 1), .str (X.env.qual ++ "<genexpr>") (s4.toks + 1 + 1)] } }) X.xe { s2 with heap := h3, toks := tk } := by
    intro code h3 tk hx hsz hP3
    obtain ⟨bm, ob, e1, e2, e3, e4, e5, e6, e7, e8⟩ := TB.bm
    have keep3 : ∀ b u, b ≠ P → s2.heap.get? b = some u → h3.get? b = some u := fun b u hb e => hx b u hb e
    refine wpAny_builtinsFor (m := X.mg) (by rw [I2.ok.glob]; exact (I2.mod.glob.keeps I2.bk).extBut hx TB.gP) e1 e2 (keep3 _ _ e4 (I2.bk _ _ e5)) e6 e7 e8 ?_
    have I3 : Inv X pins σ H2 { s2 with heap := h3, toks := tk } := inv_tabO I2 hP keep3 hP3
    have st3 : tn 0 h3 := T.keep _ _ _ st2 fun b hb o e => keep3 b o (nPf b hb) e
    generalize hs3 : ({ s2 with heap := h3, toks := tk } : Shared) = s3 at I3 ⊢
    have eh3 : s3.heap = h3 := by rw [← hs3]
    intro h' hn' hs'
    have hsz' : h'.objs.size = s3.heap.objs.size + 1 := by rw [hs'.1, Heap.size_push]
    have keep' : ∀ b o, s3.heap.get? b = some o → h'.get? b = some o := fun b o e => hs'.extBut b o (Nat.ne_of_lt (Heap.lt_size e)) (Heap.get?_push_of_some _ e)
    generalize hgo : ({ cls := .type "generator", data := .fields #[.int s3.gens.size 0, .str "<genexpr>" (s3.toks + 1), .str (X.env.qual ++ "<genexpr>") (s3.toks + 1 + 1)] } : Obj) = gob
    have keep5 : ∀ b o, s3.heap.get? b = some o → (h'.push gob).get? b = some o := fun b o e => Heap.get?_push_of_some _ (keep' b o e)
    have hfp3 : ∀ b ∈ fp, FpOk X pins H2 b ∧ b < s3.heap.objs.size := fun b hb => ⟨f2 b hb, by rw [eh3]; exact Nat.lt_of_lt_of_le (sz b hb) hsz⟩
    have hga : (h'.push gob).get? h'.objs.size = some gob := by rw [← hgo]; exact Heap.get?_push_size _ rfl
    have I5 := gblk_start (code := code) (G5 := s3.gens.push (.fresh (.compStart (gxE elt tg iter ifs scope gpos) 0 (.ref it) .none (gxEnv X scope s3.heap.objs.size code)))) (tk := s3.toks + 1 + 1 + 1) (h5 := h'.push gob) (a := h'.objs.size) (go := gob) I3 ok S.nc hN hr.hd hfp3 keep5 (hn'.push _) (I3.bare.push rfl) hga (by rw [hsz']; exact Nat.lt_succ_self _)
      (fun v z => by rw [← hgo] at z; cases z)
    refine hQ n pz F Pv _ _ kk ⟨gblk X s3 H2 (gxEnv X scope s3.heap.objs.size code) fp, fp, tn, s3.gens.size, gob, rfl, rfl, rfl, ?_, ?_, hga, (fun v z => by rw [← hgo] at z; cases z), ?_, fun b hb => ?_, fun i h h2 => T.keep i h h2, ⟨H2, I5, ?_, fun b hb => (f2 b hb).1, p0⟩, ⟨.fresh (.compStart (gxE elt tg iter ifs scope gpos) 0 (.ref it) .none (gxEnv X scope s3.heap.objs.size code)), ?_, fun s6 h6 => ⟨rfl, ?_⟩⟩, fun s' H' J' => ?_⟩
    · show s3.heap.objs.size < h'.objs.size
      rw [hsz']; exact Nat.lt_succ_self _
    · show (h'.push gob).objs.size = _
      rw [Heap.size_push]
    · exact ⟨gob, _, _, hga, by rw [← hgo], by rw [← hgo], by rw [← hgo]⟩
    · rw [hsz']
      exact Nat.lt_succ_of_lt (hfp3 b hb).2
    · exact T.keep _ _ _ st3 fun b _ o e => keep5 b o (by rw [eh3]; exact e)
    · exact Array.getElem?_push_size ..
    · refine seg_gx0 (Y := gblk X s3 H2 (gxEnv X scope s3.heap.objs.size code) fp) (A := X.A.in1.in1) rfl rfl rfl rfl S.co T (pg _ _ _ _ _) (pt _ _ _ _ _) (pe _ _ _ _ _) (fun b hb => hb) (fun b hb z => ?_) go stop step s6 h6
      have h1 := hL _ b z
      have h2 := (hfp3 b hb).2
      rw [hsz'] at h1
      exact absurd (Nat.lt_of_lt_of_le h2 (Nat.le_of_succ_le h1)) (Nat.lt_irrefl _)
    · exact I3.call' (ch := fp) J'.os J'.base J'.hok J'.bare fun b hb => ⟨(f2 b hb).2.2.2.1, (f2 b hb).2.1, (f2 b hb).2.2.2.2.1, (f2 b hb).2.2.2.2.2⟩
  refine ⟨I2.nolimit, ?_⟩
  cases hf : codeAmong gpos ps.toList with
  | none =>
    refine wpAny_genexprCodeX hcode (cd.code hPs ht) (cd.tab hPs) hf fun c' h' tk hx hge hlt hco' _ htab' _ => ?_
    obtain ⟨o1, vs, f1, tf, fl, tg', inF, tx, tt', op, _, _, _, _, _, _, _, _, _, htr, _⟩ := hco'
    exact cont _ h' tk hx (Nat.le_trans hge (Nat.le_of_lt hlt)) ⟨_, htab'.2, htr⟩
  | some cv =>
    refine wpAny_genexprCode_hit hcode (cd.code hPs ht) hf ?_
    exact cont cv s2.heap s2.toks (Heap.ExtBut.refl _ _) (Nat.le_refl _) ⟨ps, hPs, ht⟩
/-- all(e for .. in .. if ..) -/
def tAllG (P : Addr) (wi : TI) (g : TG) (tt : TT) (te : TE) (vs : List Nat) : TE := fun σ H Q => tGx P wi g tt te vs σ H fun n pz F Pv => ∃ f : Nat → Bool, (F = fun i => .bl (f i)) ∧ ∀ i H, i ≤ n → Pv i H → Q (.bl (((List.range n).filter pz).all f)) H
def tAnyG (P : Addr) (wi : TI) (g : TG) (tt : TT) (te : TE) (vs : List Nat) : TE := fun σ H Q => tGx P wi g tt te vs σ H fun n pz F Pv => ∃ f : Nat → Bool, (F = fun i => .bl (f i)) ∧ ∀ i H, i ≤ n → Pv i H → Q (.bl (((List.range n).filter pz).any f)) H
def tSumG (P : Addr) (wi : TI) (g : TG) (tt : TT) (te : TE) (vs : List Nat) : TE := fun σ H Q => tGx P wi g tt te vs σ H fun n pz F Pv => ∃ (f : Nat → Int) (B : Nat), (F = fun i => .int (f i)) ∧ n * B < 2 ^ 63 ∧ (∀ i, i < n → (f i).natAbs ≤ B) ∧ ∀ H, Pv n H → Q (.int ((((List.range n).filter pz).map f).sum)) H
/-- a generator just made, seen by all or any -/
theorem GMd.gs1 {pins : List (Addr × Obj)} {σ : L2.St} {Pv : Nat → Hp → Prop} {n : Nat} {pz : Nat → Bool} {F : Nat → V} {vs : List Nat} {a : Addr} {s : Shared} (G : GMd X pins σ Pv n pz F vs (fun a => [a]) a s) :
    s.heap.NoLimit ∧ (∃ g, s.heap.IsGen a g) ∧ ∃ (Y : Cx) (fp : List Addr) (tn : Nat → Heap → Prop) (g : Nat), Y.prog = X.prog ∧ Y.w = X.w ∧ GS Y [a] fp (wipe σ vs) tn Pv n pz F X.A.in1 a g 0 s ∧ ∀ s' H, Inv Y [] (wipe σ vs) H s' → Inv X pins σ H s' := by
  obtain ⟨Y, fp, tn, g, go, e1, e2, e3, e4, e5, e6, e7, e8, e9, e10, ⟨H, I, st, nf, pv⟩, ⟨gs, h1, h2⟩, back⟩ := G.ex
  refine ⟨I.nolimit, ⟨g, e8⟩, Y, fp, tn, g, e1, e2, ⟨e8, fun b hb => ?_, ⟨H, ?_, st, nf, pv⟩, gs, h1, h2⟩, back⟩
  · rw [List.mem_singleton.mp hb]
    exact ⟨go, e6⟩
  · have e : pinsAt [a] s.heap = [(a, go)] := by
      unfold pinsAt
      rw [List.filterMap_cons, e6]
      rfl
    rw [e]
    exact I
theorem all_made {pins : List (Addr × Obj)} {σ : L2.St} {Pv : Nat → Hp → Prop} {n : Nat} {pz : Nat → Bool} {F : Nat → V} {vs : List Nat} {a : Addr} {s : Shared} {k : Nat} {f : Nat → Bool} {Q : VK} (hr : Room k X.A) (G : GMd X pins σ Pv n pz F vs (fun a => [a]) a s)
    (hF : F = fun i => .bl (f i)) (hQ : ∀ i H, i ≤ n → Pv i H → Q (.bl (((List.range n).filter pz).all f)) H) : wpAny (model X.prog X.w) X.A (call (.builtin "all") [.ref a]) (EP X pins σ Q) X.xe s := by
  obtain ⟨lim, ⟨g0, isg⟩, Y, fp, tn, g, ep, ew, gs, back⟩ := G.gs1
  refine call_function_tree PySem.F.kind_all PySem.F.plain_all PySem.F.entry_all (PySem.F.args_all1 _) ?_
  unfold Builtin.«all»
  refine wpAny_bind (m := oneArg "all" _) (wpAny_pure ?_)
  refine wpAny_bind (wpAny_pyIter_gen isg ?_)
  have hd : X.A.in1.depth < recursionLimit := hr.depth
  have L := all_gx (A := X.A) (f := f) (R := fun r s' => match r with | .ok (.ret v) => EP X pins σ Q v s' | .ok _ => False | .error e => X.xe e s') hr.hd hd List.mem_cons_self hF (passing pz n 0).length 0 s rfl (Nat.zero_le _) gs
    (fun s' i H hi I pv => ⟨.bl _, H, back s' H I, rfl, hQ i H hi pv⟩)
  rw [ep, ew] at L
  exact wpAny_pure ⟨plainId_quiet PySem.F.plain_all_loop _, L⟩
theorem any_made {pins : List (Addr × Obj)} {σ : L2.St} {Pv : Nat → Hp → Prop} {n : Nat} {pz : Nat → Bool} {F : Nat → V} {vs : List Nat} {a : Addr} {s : Shared} {k : Nat} {f : Nat → Bool} {Q : VK} (hr : Room k X.A) (G : GMd X pins σ Pv n pz F vs (fun a => [a]) a s)
    (hF : F = fun i => .bl (f i)) (hQ : ∀ i H, i ≤ n → Pv i H → Q (.bl (((List.range n).filter pz).any f)) H) : wpAny (model X.prog X.w) X.A (call (.builtin "any") [.ref a]) (EP X pins σ Q) X.xe s := by
  obtain ⟨lim, ⟨g0, isg⟩, Y, fp, tn, g, ep, ew, gs, back⟩ := G.gs1
  refine call_function_tree PySem.F.kind_any PySem.F.plain_any PySem.F.entry_any (PySem.F.args_any1 _) ?_
  unfold Builtin.«any»
  refine wpAny_bind (m := oneArg "any" _) (wpAny_pure ?_)
  refine wpAny_bind (wpAny_pyIter_gen isg ?_)
  have hd : X.A.in1.depth < recursionLimit := hr.depth
  have L := any_gx (A := X.A) (f := f) (R := fun r s' => match r with | .ok (.ret v) => EP X pins σ Q v s' | .ok _ => False | .error e => X.xe e s') hr.hd hd List.mem_cons_self hF (passing pz n 0).length 0 s rfl (Nat.zero_le _) gs
    (fun s' i H hi I pv => ⟨.bl _, H, back s' H I, rfl, hQ i H hi pv⟩)
  rw [ep, ew] at L
  exact wpAny_pure ⟨plainId_quiet PySem.F.plain_any_loop _, L⟩
theorem sum_made {pins : List (Addr × Obj)} {σ : L2.St} {Pv : Nat → Hp → Prop} {n : Nat} {pz : Nat → Bool} {F : Nat → V} {vs : List Nat} {a : Addr} {s : Shared} {k : Nat} {f : Nat → Int} {B : Nat} {Q : VK} (hr : Room k X.A) (G : GMd X pins σ Pv n pz F vs (fun a => [a, a + 1]) a s)
    (hF : F = fun i => .int (f i)) (hB : n * B < 2 ^ 63) (hf : ∀ i, i < n → (f i).natAbs ≤ B) (hQ : ∀ H, Pv n H → Q (.int ((((List.range n).filter pz).map f).sum)) H) : wpAny (model X.prog X.w) X.A (call (.builtin "sum") [.ref a]) (EP X pins σ Q) X.xe s := by
  obtain ⟨Y, fp, tn, g, go, ep, ew, epn, es0, esz, ega, ego, isg, hfp, tkeep, ⟨H, I, st, nf, pv⟩, ⟨gs, h1, h2⟩, back⟩ := G.ex
  refine call_function_tree PySem.F.kind_sum PySem.F.plain_sum PySem.F.entry_sum (PySem.F.args_sum1 _) ?_
  unfold Builtin.«sum»
  simp only [List.length_cons, List.length_nil]
  rw [if_neg (by decide)]
  refine wpAny_bind (wpAny_of_eq (show Builtin.Builtins.bindParams "sum" ["start"] 0 { } = pure [none] from rfl) ?_)
  refine wpAny_bind (wpAny_pyIter_gen isg ?_)
  refine wpAny_bind (wpAny_mkInt ?_)
  refine wpAny_bind (wpAny_pure ?_)
  simp only [List.forIn_cons, List.forIn_nil]
  refine wpAny_bind (wpAny_bind (wpAny_bind (wpAny_isInstance (T := "int") (b := false) (typeIs_int _ _ _) PySem.sub_int_str ?_)))
  simp only [Bool.false_eq_true, if_false]
  refine wpAny_pure (wpAny_bind (wpAny_bind (wpAny_isInstance (T := "int") (b := false) (typeIs_int _ _ _) PySem.sub_int_bytes ?_)))
  simp only [Bool.false_eq_true, if_false]
  refine wpAny_pure (wpAny_bind (wpAny_bind (wpAny_isInstance (T := "int") (b := false) (typeIs_int _ _ _) PySem.sub_int_bytearray ?_)))
  simp only [Bool.false_eq_true, if_false]
  refine wpAny_pure (wpAny_pure ?_)
  refine wpAny_bind (wpAny_newObj_type ?_)
  have hd : X.A.in1.depth < recursionLimit := hr.depth
  have le : (passing pz n 0).length ≤ n := by
    unfold passing
    exact Nat.le_trans (List.length_filter_le _ _) (by simp)
  have inr : ∀ i ∈ passing pz n 0, i < n := fun i hi => by
    unfold passing at hi
    exact List.mem_range.mp (List.mem_filter.mp hi).1
  have bnd : ∀ l : List Nat, (∀ i ∈ l, i < n) → l.length ≤ n → InLong ((l.map f).sum) := fun l hl hn => by
    have b1 := sum_bound (f := f) (B := B) l fun i hi => hf i (hl i hi)
    have b2 : l.length * B ≤ n * B := Nat.mul_le_mul_right _ hn
    unfold InLong
    omega
  have hSz : s.heap.objs.size = a + 1 := esz
  have gs0 : GS Y [a, a + 1] fp (wipe σ vs) tn Pv n pz F X.A.in1 a g 0 { s with heap := s.heap.push { cls := .type "list", data := .seq #[.int 0 s.toks] }, toks := s.toks + 1 } := by
    have kp : ∀ b o, s.heap.get? b = some o → (s.heap.push { cls := .type "list", data := .seq #[.int 0 s.toks] }).get? b = some o := fun b o e => Heap.get?_push_of_some _ e
    have eS : (s.heap.push { cls := .type "list", data := .seq #[.int 0 s.toks] }).get? (a + 1) = some { cls := .type "list", data := .seq #[.int 0 s.toks] } := by rw [← hSz]; exact Heap.get?_push_size _ rfl
    have J : Inv Y [(a, go)] (wipe σ vs) H { s with heap := s.heap.push { cls := .type "list", data := .seq #[.int 0 s.toks] }, toks := s.toks + 1 } := I.kept kp
    have eP : pinsAt [a, a + 1] (s.heap.push { cls := .type "list", data := .seq #[.int 0 s.toks] }) = [(a, go), (a + 1, { cls := .type "list", data := .seq #[.int 0 s.toks] })] := by
      unfold pinsAt
      rw [List.filterMap_cons, kp a go ega]
      show (a, go) :: List.filterMap _ [a + 1] = _
      rw [List.filterMap_cons, eS]
      rfl
    refine ⟨?_, fun b hb => ?_, ⟨H, ?_, tkeep _ _ _ st fun b _ o e => kp b o e, nf, pv⟩, gs, h1, h2⟩
    · obtain ⟨o, nm, qn, ho, r⟩ := isg
      exact ⟨o, nm, qn, kp a o ho, r⟩
    · rcases List.mem_cons.mp hb with z | z
      · rw [z]
        exact ⟨go, kp a go ega⟩
      · rw [List.mem_singleton.mp z]
        exact ⟨_, eS⟩
    · show Inv Y (pinsAt [a, a + 1] (s.heap.push { cls := .type "list", data := .seq #[.int 0 s.toks] })) _ _ _
      rw [eP]
      refine J.pins_of fun p hp => ?_
      rcases List.mem_cons.mp hp with z | z
      · rw [z]
        exact J.pin (a, go) (List.mem_append_right _ List.mem_cons_self)
      · rw [List.mem_singleton.mp z]
        have fr : H (a + 1) = none := I.hok.fresh (Nat.le_of_eq hSz)
        refine ⟨eS, fr, fun z => ?_, I.nofs (Nat.le_of_eq hSz), fun v z => by cases z⟩
        have := I.lt
        rw [hSz] at this
        have z : a + 1 = Y.env.locals := z
        rw [← z] at this
        exact Nat.lt_irrefl _ this
  have L := sum_gx (A := X.A) (a := a) (S := a + 1) (f := f) (val := fun j => f ((passing pz n 0).getD j 0)) (R := fun r s' => match r with | .ok (.ret v) => EP X pins σ Q v s' | .ok _ => False | .error e => X.xe e s') epn (by simp) (Nat.ne_of_lt (Nat.lt_succ_self a)) (Nat.le_of_lt (Nat.lt_succ_of_lt es0))
    (fun b hb z => by
      have h3 := hfp b hb
      rcases List.mem_cons.mp z with z | z
      · rw [z] at h3; exact Nat.lt_irrefl _ h3
      · rw [List.mem_singleton.mp z] at h3; exact absurd (Nat.lt_trans h3 (Nat.lt_succ_self a)) (Nat.lt_irrefl _)) tkeep hr.hd hd (by simp) hF
    (fun j i hi => by
      show f ((passing pz n 0).getD j 0) = f i
      rw [List.getD_eq_getElem?_getD, hi]
      rfl)
    (fun j hj => ⟨by
      have e : (passing pz n 0)[j]? = some ((passing pz n 0)[j]'hj) := List.getElem?_eq_getElem _
      show InLong (f ((passing pz n 0).getD j 0))
      rw [List.getD_eq_getElem?_getD, e]
      have hm := inr _ (List.getElem_mem hj)
      have := bnd [(passing pz n 0)[j]'hj] (fun i hi => by rw [List.mem_singleton.mp hi]; exact hm) (by show 1 ≤ n; omega)
      simpa using this, by
      rw [preSum_take f _ _ hj]
      exact bnd _ (fun i hi => inr i (List.mem_of_mem_take hi)) (by rw [List.length_take]; omega)⟩)
    (passing pz n 0).length 0 _ s.toks 0 rfl (Nat.zero_le _) gs0 (by
      show (s.heap.push _).get? (a + 1) = _
      rw [← hSz]
      exact Heap.get?_push_size _ rfl)
    (fun s' t' H I pv => ⟨.int _, H, back s' H I, ⟨t', rfl⟩, by
      rw [preSum_take f _ _ (Nat.le_refl _), List.take_length]
      exact hQ H pv⟩)
  rw [ep, ew] at L
  rw [show s.heap.objs.size = a + 1 from hSz]
  exact wpAny_pure ⟨plainId_quiet PySem.F.plain_sum_loop _, L⟩
section
variable {c P : Addr} {elt tg iter : Expr} {ifs : List Expr} {scope : Scope} {own : List (Str × Nat)} {p pos gpos : Pos} {wi : TI} {g : TG} {tt : TT} {te : TE} {k : Nat}
theorem pe_allG (hr : Room k X.A) (hg : Gl X "all") (hm : X.mg "all" = none) (hN : X.N.Nodup) (TB : GxR.TabB X.base X.mg c P) (hcode : X.env.code = .ref c) (hi : PI X tg iter wi) (ok : BlkOk X.N X.env.scope scope own) (S : gxOk scope = true)
    (pg : ∀ (s : Shared) (H : Hp) (C : Addr) (code : Value) (fp : List Addr), PG (gblk X s H (gxEnv X scope C code) fp) tg g) (pt : ∀ (s : Shared) (H : Hp) (C : Addr) (code : Value) (fp : List Addr), PTs (gblk X s H (gxEnv X scope C code) fp) ifs tt)
    (pe : ∀ (s : Shared) (H : Hp) (C : Addr) (code : Value) (fp : List Addr), PE (gblk X s H (gxEnv X scope C code) fp) elt te)
    (hs : ∀ v, genFold iter X.env v = pure v := by intro _; rfl)
    (he : starEach [gxE elt tg iter ifs scope gpos] X.env = (false, eval (gxE elt tg iter ifs scope gpos) X.env) :: starEach [] X.env := by rfl) :
    PE X (.Call (.Name "all" p) [gxE elt tg iter ifs scope gpos] [] pos) (tAllG P wi g tt te (own.map (·.2))) := by
  refine ⟨fun pins s σ H Q I h => ?_⟩
  refine wpAny_Call_Name_kw (ld_blt I hg hm (show bootBuiltins "all" = some (.builtin "all") by decide +kernel) ?_)
  refine PyProof.Rows.callWith_builtin1 ?_ he (by rfl)
  rw [he]
  show wpAny _ _ (spliced ((false, eval (gxE elt tg iter ifs scope gpos) X.env) :: backTo pos (starEach [] X.env))) _ _ s
  refine Calls.spliced_cons (make_gx (fun a => [a]) (fun a b hb => by rw [List.mem_singleton.mp hb]; exact Nat.le_refl _) hr hN TB hcode hi ok (gx_ok S) pg pt pe hs I h fun n pz F Pv a s5 kk G => ?_)
  obtain ⟨f, hF, hQ⟩ := kk
  exact Calls.spliced_nil (all_made hr G hF hQ)
theorem pe_anyG (hr : Room k X.A) (hg : Gl X "any") (hm : X.mg "any" = none) (hN : X.N.Nodup) (TB : GxR.TabB X.base X.mg c P) (hcode : X.env.code = .ref c) (hi : PI X tg iter wi) (ok : BlkOk X.N X.env.scope scope own) (S : gxOk scope = true)
    (pg : ∀ (s : Shared) (H : Hp) (C : Addr) (code : Value) (fp : List Addr), PG (gblk X s H (gxEnv X scope C code) fp) tg g) (pt : ∀ (s : Shared) (H : Hp) (C : Addr) (code : Value) (fp : List Addr), PTs (gblk X s H (gxEnv X scope C code) fp) ifs tt)
    (pe : ∀ (s : Shared) (H : Hp) (C : Addr) (code : Value) (fp : List Addr), PE (gblk X s H (gxEnv X scope C code) fp) elt te)
    (hs : ∀ v, genFold iter X.env v = pure v := by intro _; rfl)
    (he : starEach [gxE elt tg iter ifs scope gpos] X.env = (false, eval (gxE elt tg iter ifs scope gpos) X.env) :: starEach [] X.env := by rfl) :
    PE X (.Call (.Name "any" p) [gxE elt tg iter ifs scope gpos] [] pos) (tAnyG P wi g tt te (own.map (·.2))) := by
  refine ⟨fun pins s σ H Q I h => ?_⟩
  refine wpAny_Call_Name_kw (ld_blt I hg hm (show bootBuiltins "any" = some (.builtin "any") by decide +kernel) ?_)
  refine PyProof.Rows.callWith_builtin1 ?_ he (by rfl)
  rw [he]
  show wpAny _ _ (spliced ((false, eval (gxE elt tg iter ifs scope gpos) X.env) :: backTo pos (starEach [] X.env))) _ _ s
  refine Calls.spliced_cons (make_gx (fun a => [a]) (fun a b hb => by rw [List.mem_singleton.mp hb]; exact Nat.le_refl _) hr hN TB hcode hi ok (gx_ok S) pg pt pe hs I h fun n pz F Pv a s5 kk G => ?_)
  obtain ⟨f, hF, hQ⟩ := kk
  exact Calls.spliced_nil (any_made hr G hF hQ)
theorem pe_sumG (hr : Room k X.A) (hg : Gl X "sum") (hm : X.mg "sum" = none) (hN : X.N.Nodup) (TB : GxR.TabB X.base X.mg c P) (hcode : X.env.code = .ref c) (hi : PI X tg iter wi) (ok : BlkOk X.N X.env.scope scope own) (S : gxOk scope = true)
    (pg : ∀ (s : Shared) (H : Hp) (C : Addr) (code : Value) (fp : List Addr), PG (gblk X s H (gxEnv X scope C code) fp) tg g) (pt : ∀ (s : Shared) (H : Hp) (C : Addr) (code : Value) (fp : List Addr), PTs (gblk X s H (gxEnv X scope C code) fp) ifs tt)
    (pe : ∀ (s : Shared) (H : Hp) (C : Addr) (code : Value) (fp : List Addr), PE (gblk X s H (gxEnv X scope C code) fp) elt te)
    (hs : ∀ v, genFold iter X.env v = pure v := by intro _; rfl)
    (he : starEach [gxE elt tg iter ifs scope gpos] X.env = (false, eval (gxE elt tg iter ifs scope gpos) X.env) :: starEach [] X.env := by rfl) :
    PE X (.Call (.Name "sum" p) [gxE elt tg iter ifs scope gpos] [] pos) (tSumG P wi g tt te (own.map (·.2))) := by
  refine ⟨fun pins s σ H Q I h => ?_⟩
  refine wpAny_Call_Name_kw (ld_blt I hg hm (show bootBuiltins "sum" = some (.builtin "sum") by decide +kernel) ?_)
  refine PyProof.Rows.callWith_builtin1 ?_ he (by rfl)
  rw [he]
  show wpAny _ _ (spliced ((false, eval (gxE elt tg iter ifs scope gpos) X.env) :: backTo pos (starEach [] X.env))) _ _ s
  refine Calls.spliced_cons (make_gx (fun a => [a, a + 1]) (fun a b hb => by
    rcases List.mem_cons.mp hb with z | z
    · rw [z]; exact Nat.le_refl _
    · rw [List.mem_singleton.mp z]; exact Nat.le_succ _) hr hN TB hcode hi ok (gx_ok S) pg pt pe hs I h fun n pz F Pv a s5 kk G => ?_)
  obtain ⟨f, B, hF, hB, hf, hQ⟩ := kk
  exact Calls.spliced_nil (sum_made hr G hF hB hf hQ)
end
end
/-- a def of the text whose code object is known -/
theorem okT {Pr : Program} {w : World} {K : PySem.W.Frag} {mg : Str → Option Value} {base : Heap} {x qual : Str} {st : Stmt} {f c : Addr} {fd : FuncData} {N ps : List Str} {k : Nat} {sp : Sp} (F : Fun K x qual st f fd) (hc : fd.code = .ref c) (S : FnScope N ps (defScope st)) (len : ∀ vs H Q E, sp vs H Q E → vs.length = ps.length)
    (hbody : ∀ (A : Around) (outer : List Env) (s : Shared) (H : Hp) (vs : List V) (Q : VK) (E : XK), Room k (A.deeper (envOfC qual (defScope st) s.heap.objs.size f (.ref c))) → sp vs H Q E →
      ∃ t, PSs (cxOf CX0 Pr w K mg base N qual (defScope st) f (.ref c) A outer s H E).nox (defBody st) t ∧ t { nx := fun _ H' => Q .non H', rt := Q } (start N vs) H) : FnOk Pr w K mg base CX0 (k + 1) f fd ps sp := by
  obtain ⟨oc, od, kV, doc, pm, an, cdv, ct, osl, rfl, lk, hcd⟩ := F.ex
  obtain rfl : cdv = .ref c := hc
  refine fn_of lk hcd S len fun A outer s H vs Q E hr hsp => ?_
  obtain ⟨t, h, q⟩ := hbody A outer s H vs Q E hr hsp
  exact ⟨t, h.nox, q⟩
/-- a generator's turns by a walk -/
theorem gx_it {J : It} {n : Nat} {G : Hp → Prop} {W : Nat → Hp → V → Hp → Prop} (w : Walk J n G W) {g : TG} {tt : TT} {te : TE} {σ : L2.St} {vs : List Nat} {pz : Nat → Bool} {F : Nat → V} {H1 : Hp} {R : Prop} (Pv : Nat → Hp → Prop) (p0 : Pv 0 H1) (hG : ∀ i H, i ≤ n → Pv i H → G H)
    (hs : ∀ i x H H', i < n → Pv i H → W i H x H' → g x (wipe σ vs) H' fun σ2 H2 => wipe σ2 vs = wipe σ vs ∧ tt σ2 H2 fun b H3 => b = pz i ∧ if b = true then te σ2 H3 (fun y H4 => y = F i ∧ Pv (i + 1) H4) else Pv (i + 1) H3) (r : R) :
    Pv 0 H1 ∧ (∀ i H, i < n → Pv i H → J.go i H) ∧ (∀ H, Pv n H → J.stop n H) ∧ GStep J g tt te σ vs Pv n pz F ∧ R :=
  ⟨p0, fun i H hi p => w.goes i H hi (hG i H (Nat.le_of_lt hi) p), fun H p => w.stops H (hG n H (Nat.le_refl _) p), fun i x H H' hi p y => hs i x H H' hi p (w.yields i H x H' hi (hG i H (Nat.le_of_lt hi) p) y), r⟩
/-! ### a law's end where defs have tables of code objects (generator expressions) -/
section
variable {P : Program} {w : World} {K : PySem.W.Frag} {mg mb : Str → Option Value} {k : Nat} {fa a : Addr} {fd : FuncData} {x : Str} {sp : Sp} {s1 : Shared} {vs : List Value} {ns : List Int} {cs : List (Addr × Addr)}
abbrev emptyT : Obj := { cls := .none, data := .fields #[] }
/-- what is tracked at a law's start: the script, if it is no thing of the text, and the tables -/
structure Only0 (K : PySem.W.Frag) (a : Addr) (ts : List Addr) (H : Hp) : Prop where
  tab : ∀ t ∈ ts, H t = some (TabO t)
  no : ∀ b, b ≠ a → b ∉ ts → H b = none
  own : H a = none ∨ (K.lookup a = none ∧ ∃ o xs, H a = some (.frz o (.lst xs)))
theorem told_fromT (H : Hp) (kin : K.In s1.heap) (glob : s1.heap.Ns mainGlobals mg) (blt : s1.heap.Ns builtinsNs mb) (same : ∀ y : Str, y ≠ "__name__" → mb y = bootBuiltins y) (lim : s1.heap.NoLimit) (bare : s1.gens = #[])
    (hT : ∀ p ∈ cs, s1.heap.get? p.2 = some emptyT) (nT : ∀ p ∈ cs, K.lookup p.2 = none) (C : ∀ p ∈ cs, PySem.W.CodeHd s1.heap p.1 p.2)
    (hbm : ∃ (bm : Addr) (ob : Obj), mg "__builtins__" = some (.ref bm) ∧ bm ≠ builtinsNs ∧ s1.heap.get? bm = some ob ∧ ob.cls = .type "module" ∧ ob.dict = some builtinsNs ∧ ob.data = .plain)
    (obj : s1.heap.get? a = some { cls := .type "list", data := .seq vs.toArray }) (room : Room k callerA)
    (F : ∀ base : Heap, K.In base → base.Ns mainGlobals mg → (∀ p ∈ cs, GxR.TabB base mg p.1 p.2) → FnG P w K mg base k fa fd [x] sp) (bind : ∀ (s : Shared) (u : Value), BindsTo s fd ⟨[u], []⟩ [(x, u)])
    (only : Only0 K a (cs.map (·.2)) H) (wish : sp [.ref a] H (fun v H' => v = .bl true ∧ ∀ p ∈ cs, H' p.2 = some (TabO p.2)) fun _ _ _ => False) (hok : HOk P w H s1.heap) :
    codeAny (model P w) callerA (.call (.ref fa) ⟨[.ref a], []⟩) (Told s1) s1 := by
  have isT : ∀ b : Addr, b ∈ cs.map (·.2) → s1.heap.get? b = some emptyT := fun b hb => by
    obtain ⟨p, hp, e⟩ := List.mem_map.mp hb
    rw [← e]
    exact hT p hp
  have aT : a ∉ cs.map (·.2) := fun z => by
    have q := isT a z
    rw [obj] at q
    have z' : Data.seq vs.toArray _ = Data.fields #[] := congrArg Obj.data (Option.some.inj q)
    cases z'
  have free : ∀ {b : Addr} {o : Obj}, s1.heap.get? b = some o → (∀ vs n, o.data ≠ .seq vs n) → o.data ≠ .fields #[] → H b = none := fun {b o} e h1 h2 => by
    refine only.no b (fun z => ?_) fun z => ?_
    · rw [z, obj] at e
      cases e
      exact h1 _ _ rfl
    · rw [isT b z] at e
      cases e
      exact h2 rfl
  have nsB : ∀ {b : Addr} {m : Str → Option Value}, s1.heap.Ns b m → (hidT s1.heap H).Ns b m := by
    rintro b m ⟨o, es, ep, e, d, r⟩
    refine ⟨o, es, ep, hidT_get e (free e (fun vs n z => ?_) fun z => ?_), d, r⟩
    · rw [d] at z
      cases z
    · rw [d] at z
      cases z
  have kinB : K.In (hidT s1.heap H) := fun b o e => by
    refine hidT_get (kin b o e) ?_
    by_cases z : b = a
    · subst z
      rcases only.own with h | ⟨h, _⟩
      · exact h
      · rw [h] at e
        cases e
    · refine only.no b z fun y => ?_
      obtain ⟨p, hp, ep⟩ := List.mem_map.mp y
      rw [← ep, nT p hp] at e
      cases e
  have limB : (hidT s1.heap H).NoLimit := by
    obtain ⟨mc, h1, h2⟩ := lim
    exact ⟨mc, nsB h1, h2⟩
  have TB : ∀ p ∈ cs, GxR.TabB (hidT s1.heap H) mg p.1 p.2 := fun p hp => by
    have hTp := hT p hp
    refine ⟨?_, ?_, fun z => ?_⟩
    · obtain ⟨o, us, file, tf, flags, tg, inF, text, tt, e1, r1, r2, r3, r4, r5, r6, r7, r8, hne⟩ := C p hp
      refine ⟨o, us, file, tf, flags, tg, inF, text, tt, hidT_get e1 (free e1 (fun vs n z => ?_) fun z => ?_), r1, r2, r3, r4, r5, r6, r7, r8, hne⟩
      · rw [r2] at z
        cases z
      · rw [r2] at z
        cases z
        simp at r3
    · obtain ⟨bm, ob, b1, b2, b3, b4, b5, b6⟩ := hbm
      have nG : bm ≠ mainGlobals := fun q => by
        obtain ⟨o, es, ep, e, hd, _⟩ := glob
        rw [q, e] at b3
        cases b3
        rw [hd] at b6
        cases b6
      have nP : bm ≠ p.2 := fun q => by
        rw [q, hTp] at b3
        cases b3
        cases b6
      refine ⟨bm, ob, b1, b2, nG, nP, hidT_get b3 (free b3 (fun vs n z => ?_) fun z => ?_), b4, b5, b6⟩
      · rw [b6] at z
        cases z
      · rw [b6] at z
        cases z
    · obtain ⟨o, es, ep, e, hd, _⟩ := glob
      rw [z, hTp] at e
      cases e
      cases hd
  have env : Env0 P w K mg (hidT s1.heap H) callerA [] s1 H :=
    { frames := rfl, mod := ⟨kinB, nsB glob, ⟨mb, nsB blt, same⟩, limB⟩, bs := fun _ _ e => of_hidT e, bsz := Nat.le_of_eq (hidT_size _ _), funs := trivial,
      frf := fun b z => (List.not_mem_nil (show b ∈ ([] : List Addr) from z)).elim, hok := hok, bare := .of_eq bare }
  refine codeAny_mono ((F _ kinB (nsB glob) TB).run callerA [] s1 H ⟨[.ref a], []⟩ [.ref a] [.ref a] _ _ room rfl env (bind s1 _) (.cons rfl .nil) wish) ?_
  rintro (e | fl) s2 h
  · exact (show False from h).elim
  · cases fl with
    | ret u =>
      obtain ⟨v, H2, os2, bare2, un, hok2, rel, q, qt⟩ := h
      have q : v = V.bl true := q
      subst q
      obtain rfl : u = Value.bool true := rel
      have key : ∀ b o, b ∉ cs.map (·.2) → s1.heap.get? b = some o → s2.heap.get? b = some o := fun b o nb e => by
        cases z : H b with
        | none => exact un.keep b o e z (fun y => List.not_mem_nil (show b ∈ ([] : List Addr) from y)) List.not_mem_nil
        | some u =>
          have eb : b = a := Classical.byContradiction fun n => by
            rw [only.no b n nb] at z
            cases z
          subst eb
          rcases only.own with y | ⟨_, ob, xs, y⟩
          · rw [z] at y
            cases y
          · obtain ⟨g1, _⟩ := hok b _ y
            obtain ⟨g2, _⟩ := hok2 b _ (un.frzs b ob _ y)
            rw [e] at g1
            cases g1
            exact g2
      have grown : ∀ p ∈ cs, ∃ more : Array Value, s2.heap.get? p.2 = some { cls := .none, data := .fields more } := fun p hp => by
        obtain ⟨⟨ps, h1, _⟩, _⟩ := (show ObjOk P w H2 s2.heap p.2 (TabO p.2) from hok2 p.2 _ (qt p hp))
        exact ⟨ps, h1⟩
      refine ⟨rfl, ⟨fun b o e => ?_, fun b o e => ?_⟩, os2, bare2⟩
      · by_cases hb : b ∈ cs.map (·.2)
        · obtain ⟨p, hp, ep⟩ := List.mem_map.mp hb
          obtain ⟨more, hm⟩ := grown p hp
          rw [← ep] at e ⊢
          rw [hT p hp] at e
          cases e
          exact .inr (.inl ⟨((C p hp).tab (hT p hp)).isCodeTable, rfl, #[], more, rfl, by rw [Array.empty_append]; exact hm⟩)
        · exact .inl (key b o hb e)
      · by_cases hb : b ∈ cs.map (·.2)
        · obtain ⟨p, hp, ep⟩ := List.mem_map.mp hb
          obtain ⟨more, hm⟩ := grown p hp
          rw [← ep]
          exact ⟨_, hm⟩
        · exact ⟨o, key b o hb e⟩
    | next => exact h.elim
    | brk => exact h.elim
    | cont => exact h.elim
theorem told_lawT (kin : K.In s1.heap) (glob : s1.heap.Ns mainGlobals mg) (blt : s1.heap.Ns builtinsNs mb) (same : ∀ y : Str, y ≠ "__name__" → mb y = bootBuiltins y) (lim : s1.heap.NoLimit) (bare : s1.gens = #[])
    (hT : ∀ p ∈ cs, s1.heap.get? p.2 = some emptyT) (nT : ∀ p ∈ cs, K.lookup p.2 = none) (C : ∀ p ∈ cs, PySem.W.CodeHd s1.heap p.1 p.2)
    (hbm : ∃ (bm : Addr) (ob : Obj), mg "__builtins__" = some (.ref bm) ∧ bm ≠ builtinsNs ∧ s1.heap.get? bm = some ob ∧ ob.cls = .type "module" ∧ ob.dict = some builtinsNs ∧ ob.data = .plain)
    (obj : s1.heap.get? a = some { cls := .type "list", data := .seq vs.toArray }) (are : IntsAre vs ns) (long : ns.length ≤ sizeLine) (room : Room k callerA)
    (F : ∀ base : Heap, K.In base → base.Ns mainGlobals mg → (∀ p ∈ cs, GxR.TabB base mg p.1 p.2) → FnG P w K mg base k fa fd [x] sp) (bind : ∀ (s : Shared) (u : Value), BindsTo s fd ⟨[u], []⟩ [(x, u)])
    (wish : ∀ H : Hp, SqL K H a (ns.map V.int) → (∀ p ∈ cs, H p.2 = some (TabO p.2)) → sp [.ref a] H (fun v H' => v = .bl true ∧ ∀ p ∈ cs, H' p.2 = some (TabO p.2)) fun _ _ _ => False) :
    codeAny (model P w) callerA (.call (.ref fa) ⟨[.ref a], []⟩) (Told s1) s1 := by
  have rv := vals_ints are
  have nl := are.length
  have isT : ∀ b : Addr, b ∈ cs.map (·.2) → s1.heap.get? b = some emptyT := fun b hb => by
    obtain ⟨p, hp, e⟩ := List.mem_map.mp hb
    rw [← e]
    exact hT p hp
  have aT : a ∉ cs.map (·.2) := fun z => by
    have q := isT a z
    rw [obj] at q
    have z' : Data.seq vs.toArray _ = Data.fields #[] := congrArg Obj.data (Option.some.inj q)
    cases z'
  have memT : ∀ p ∈ cs, p.2 ∈ cs.map (·.2) := fun p hp => List.mem_map.mpr ⟨p, hp, rfl⟩
  have tobj : ∀ {H : Hp} (b : Addr), b ∈ cs.map (·.2) → ObjOk P w H s1.heap b (TabO b) := fun b hb => tab_obj ⟨#[], isT b hb, trivial⟩
  cases hk : K.lookup a with
  | some o =>
    have e := kin a o hk
    rw [obj] at e
    cases e
    have tt : ∀ b ∈ cs.map (·.2), (fun b => if b ∈ cs.map (·.2) then some (TabO b) else none) b = some (TabO b) := fun b hb => if_pos hb
    have sq : SqL K (fun b => if b ∈ cs.map (·.2) then some (TabO b) else none) a (ns.map V.int) := Or.inr ⟨_, vs.toArray, _, hk, rfl, rfl, rfl, by rw [List.size_toArray, nl]; exact long, by simpa using rv⟩
    refine told_fromT _ kin glob blt same lim bare hT nT C hbm obj room F bind ⟨tt, fun b _ nb => if_neg nb, Or.inl (if_neg aT)⟩ (wish _ sq fun p hp => tt p.2 (memT p hp)) fun b u z => ?_
    by_cases hb : b ∈ cs.map (·.2)
    · have z' := (tt b hb).symm.trans z
      cases z'
      exact tobj b hb
    · have z' := (if_neg hb).symm.trans z
      cases z'
  | none =>
    let H : Hp := fun b => if b = a then some (.frz { cls := .type "list", data := .seq vs.toArray } (.lst (ns.map V.int))) else if b ∈ cs.map (·.2) then some (TabO b) else none
    have h1 : H a = some (.frz { cls := .type "list", data := .seq vs.toArray } (.lst (ns.map V.int))) := if_pos rfl
    have h2 : ∀ b ∈ cs.map (·.2), H b = some (TabO b) := fun b hb => (if_neg (show ¬ b = a from fun z => aT (by rw [← z]; exact hb))).trans (if_pos hb)
    have h3 : ∀ b, b ≠ a → b ∉ cs.map (·.2) → H b = none := fun b hb nb => (if_neg hb).trans (if_neg nb)
    refine told_fromT H kin glob blt same lim bare hT nT C hbm obj room F bind ⟨h2, h3, Or.inr ⟨hk, _, _, h1⟩⟩ (wish H (Or.inl (Or.inr ⟨_, h1⟩)) fun p hp => h2 p.2 (memT p hp)) fun b u z => ?_
    by_cases hb : b = a
    · rw [hb, h1] at z
      cases z
      rw [hb]
      exact ⟨obj, by rw [List.length_map]; exact long, vs, _, rv, obj⟩
    · by_cases hb2 : b ∈ cs.map (·.2)
      · rw [h2 b hb2] at z
        cases z
        exact tobj b hb2
      · rw [h3 b hb hb2] at z
        cases z
end
theorem walkGT {l : PySem.W.OpenLaw} {n k : Nat} {q : Program} {loose : List Str} {XP : (Str → Option Value) → Heap → Prop} {YP : World → Heap → Prop} {d : DefRec} {x : Str} {sp : PySem.W.Frag → List Addr → Sp}
    (hn : l.most = some n) (hn2 : n ≤ sizeLine) (hdf : d.params.defaults = []) (hr : Room k callerA)
    (F : ∀ (w : World) (mg : Str → Option Value) (fa : Addr) (h : Heap), YP w h → h.Ns mainGlobals mg → mg d.name = some (.ref fa) →
      ∃ (K : PySem.W.Frag) (fd : FuncData) (cs : List (Addr × Addr)), K.In h ∧ (∀ p ∈ cs, h.get? p.2 = some emptyT) ∧ (∀ p ∈ cs, K.lookup p.2 = none) ∧ (∀ p ∈ cs, PySem.W.CodeHd h p.1 p.2) ∧ (∀ (s : Shared) (u : Value), BindsTo s fd ⟨[u], []⟩ [(x, u)]) ∧
        ∀ base : Heap, K.In base → base.Ns mainGlobals mg → (∀ p ∈ cs, GxR.TabB base mg p.1 p.2) → FnG l.prog w K mg base k fa fd [x] (sp K (cs.map (·.2))))
    (hsp : ∀ (K : PySem.W.Frag) (ts : List Addr) (H : Hp) (a : Addr) (ns : List Int), ns.length ≤ n → SqL K H a (ns.map V.int) → (∀ t ∈ ts, H t = some (TabO t)) → sp K ts [.ref a] H (fun v H' => v = .bl true ∧ ∀ t ∈ ts, H' t = some (TabO t)) fun _ _ _ => False) :
    PySem.W.WalkO q loose XP YP l.row.toRowW d [] (fun f vs => PySem.call f vs) := by
  refine Att.attach_call hn hdf fun w s0 s1 mg mb fa o pm cd doc a vs ns G Y ho hd hcd hmg hobj hints hlen hg => ?_
  obtain ⟨K, fd, cs, kin, hT, nT, C, hb, hF⟩ := F w mg fa _ Y G.T.g hmg
  refine told_lawT kin G.T.g G.T.b G.T.builtins G.T.nolimit hg hT nT C G.T.bmain hobj hints (Nat.le_trans hlen hn2) hr hF hb fun H sq tt => ?_
  have w1 := hsp K (cs.map (·.2)) H a ns hlen sq fun t ht => by
    obtain ⟨p, hp, rfl⟩ := List.mem_map.mp ht
    exact tt p hp
  have e : (fun (v : V) (H' : Hp) => v = .bl true ∧ ∀ t ∈ cs.map (·.2), H' t = some (TabO t)) = fun v H' => v = .bl true ∧ ∀ p ∈ cs, H' p.2 = some (TabO p.2) := by
    funext v H'
    apply propext
    constructor
    · intro ⟨h1, h2⟩
      exact ⟨h1, fun p hp => h2 p.2 (List.mem_map.mpr ⟨p, hp, rfl⟩)⟩
    · intro ⟨h1, h2⟩
      refine ⟨h1, fun t ht => ?_⟩
      obtain ⟨p, hp, rfl⟩ := List.mem_map.mp ht
      exact h2 p hp
  rw [e] at w1
  exact w1
/-- what is known of a def's code object -/
theorem code_of {K : PySem.W.Frag} {x qual : Str} {pa : Arguments} {bd : List Stmt} {sc : Scope} {dv : List V} {kw : List (Str × V)} {p : He.Defn} {fd : FuncData} (F : FunD K x qual pa bd sc dv kw (He.fAd K p) fd) : fd.code = .ref (He.codeOf K p) := by
  obtain ⟨oc, od, dV, kV, doc, pm, an, cdv, ct, osl, e, lk, hcd, hd, hk⟩ := F.ex
  obtain ⟨c, rfl⟩ := He.codeIn_ref hcd
  have e2 : fd.code = .ref c := by rw [e]
  rw [e2, He.codeOf_eq lk e2]
/-- the law's promise, tables ts -/
def spLawT (K : PySem.W.Frag) (ts : List Addr) : Sp := fun vs H Q _ => ∃ (a : Addr) (ns : List Int), vs = [.ref a] ∧ SqL K H a (ns.map V.int) ∧ (∀ t ∈ ts, H t = some (TabO t)) ∧ ∀ H', (∀ t ∈ ts, H' t = some (TabO t)) → Q (.bl true) H'
/-! ### a set display of one written text, found.add(text), by SXO: sorted(..) of it stays known -/
section
variable {P : Program} {w : World} {A : Around} {E : Value → Shared → Prop} {s : Shared} {a : Addr} {S : Key → Prop} {n : Nat}
theorem SX.typeIs {s : Shared} (R : SX w s.heap a S n) : Shared.TypeIs s (.ref a) "set" := by
  obtain ⟨o, es, ep, t, ⟨q1, q2, q3⟩, _⟩ := R
  exact ⟨o, q1, q2.1⟩
theorem SX.noDict {s : Shared} (R : SX w s.heap a S n) : ∀ b, Value.ref a = .ref b → ∃ ob, s.heap.get? b = some ob ∧ ob.dict = none := fun b e => by
  injection e with e
  subst e
  obtain ⟨o, es, ep, t, ⟨q1, q2, q3⟩, _⟩ := R
  exact ⟨o, q1, q2.2.1⟩
theorem sx_add_call {k : Key} {v : Value} {Q : Value → Shared → Prop} (R : SX w s.heap a S n) (room : n + 1 < scanBound) (hk : keyIs k v = true)
    (fin : ∀ h' m, Heap.SameBut a s.heap h' → m ≤ n + 1 → SX w h' a (fun j => S j ∨ j = k) m → Q .none { s with heap := h', toks := s.toks + 1 }) :
    wpAny (model P w) A (call (.builtin "set.add") [.ref a, v]) Q E s := by
  refine wpAny_call_entry F.slot_set_add R.typeIs F.entry_set_add ?_ (F.args_set_add_2 _ _)
  unfold Builtin.«set.add» Builtin.Frozenset.oneOther
  simp only [List.isEmpty_nil, bind_assoc]
  unfold Builtin.Frozenset.addrOf setAdd
  refine wpAny_bind (wpAny_pure ?_)
  try dsimp only
  refine wpAny_bind (wpAny_pure ?_)
  try dsimp only
  refine wpAny_bind ?_
  refine wpAny_holding ?_
  refine wpAny_bind ((mixKind P w).pyHash (k := k) hk ?_)
  refine sx_add (s := { s with toks := s.toks + 1 }) R room hk fun h' m sb hm R' b => ?_
  show wpAny _ _ (ret Value.none) _ _ _
  exact wpAny_pure ⟨_, rfl, fin h' m sb hm R'⟩
theorem set_one {t : Sem Value} {x : Str} {b : Bool} {Q : Value → Shared → Prop} (ht : ∀ (s1 : Shared) (Q1 : Value → Shared → Prop), (∀ k tk, Q1 (.str x k) { s1 with toks := tk }) → wpAny (model P w) A t Q1 E s1)
    (fin : ∀ h' tk m, m ≤ 1 → SX w h' s.heap.objs.size (fun j => j = .inr x) m → (∀ b o, s.heap.get? b = some o → h'.get? b = some o) → Q (.ref s.heap.objs.size) { s with heap := h', toks := tk }) :
    wpAny (model P w) A (setDisplay .oneByOne b [(false, t)]) Q E s := by
  unfold setDisplay
  try dsimp only
  rw [if_neg (by decide)]
  refine wpAny_bind (wpAny_newSet_raw fun led hled => ?_)
  subst hled
  have at1 : (s.heap.push { cls := .type "set", dict := none, data := .set #[] 0 (.fresh 0 0 (!w.params.followText "set-order")) }).get? s.heap.objs.size = some { cls := .type "set", dict := none, data := .set #[] 0 (.fresh 0 0 (!w.params.followText "set-order")) } := Heap.get?_push_size _ rfl
  have R0 : SX w _ s.heap.objs.size _ 0 := sx_new (ks := []) at1
  have k0 : ∀ b o, s.heap.get? b = some o → (s.heap.push { cls := .type "set", dict := none, data := .set #[] 0 (.fresh 0 0 (!w.params.followText "set-order")) }).get? b = some o := fun b o e => Heap.get?_push_of_some _ e
  generalize s.heap.push { cls := .type "set", dict := none, data := .set #[] 0 (.fresh 0 0 (!w.params.followText "set-order")) } = h1 at *
  refine wpAny_bind (wpAny_holding ?_)
  show wpAny _ _ (evalAll [t] >>= _) _ _ _
  unfold evalAll
  refine wpAny_bind (wpAny_bind (ht _ _ fun k tk => ?_))
  unfold evalAll
  refine wpAny_bind (wpAny_holding (wpAny_pure ?_))
  refine wpAny_pure ?_
  refine wpAny_bind (wpAny_holding ?_)
  rw [List.forIn_cons]
  refine wpAny_bind (wpAny_bind ?_)
  refine wpAny_bind ?_
  unfold setAdd
  refine wpAny_holding ?_
  refine wpAny_bind ((mixKind P w).pyHash (k := .inr x) (kV_is (P := P) (w := w) (k := .inr x) (u := .str x k) ⟨k, rfl⟩) ?_)
  refine sx_add (k := .inr x) R0 (by decide) (kV_is (P := P) (w := w) (k := .inr x) (u := .str x k) ⟨k, rfl⟩) fun h' m sb hm R' b => ?_
  have R2 : SX w h' s.heap.objs.size (fun j => j = .inr x) m := R'.like fun j => by simp
  have kk : ∀ b o, s.heap.get? b = some o → h'.get? b = some o := fun b o e => by
    rw [sb.2 b (fun z => Nat.lt_irrefl _ (z ▸ Heap.lt_size e))]
    exact k0 b o e
  have fin2 := fin h' (tk + 1) m (by omega) R2 kk
  repeat (first | exact fin2 | refine wpAny_pure ?_ | refine wpAny_bind ?_ | rw [List.forIn_nil] | rw [if_neg (by decide)])
end
section
variable {X : Cx}
/-- {'text'} -/
def tSet1 (w : World) (x : Str) : TE := fun _ H Q => ∀ p c o, H p = none → c ≤ 1 → o = SXO w p (fun j => j = .inr x) c → Q (.ref p) (upd H p o)
theorem pe_set1 {x : Str} {j : Nat} {pos cpos : Pos} (hcd : PySem.W.kdsCode X.K X.env.code = true) : PE X (.Set [.Constant (.str x) j cpos] 0 pos) (tSet1 X.w x) := by
  refine ⟨fun pins s σ H Q I h => ?_⟩
  rw [arm_eval_Set]
  refine wpAny_bind (wpAny_standAt ?_)
  refine wpAny_bind (PySem.W.kds_main I.kIn hcd fun b => ?_)
  have er : displayRoad 0 [Expr.Constant (.str x) j cpos] = .oneByOne := rfl
  rw [er]
  show wpAny _ _ (setDisplay .oneByOne b [(false, do let v ← eval (.Constant (.str x) j cpos) X.env; standAt pos; pure v)]) _ _ _
  refine set_one (x := x) (fun s1 Q1 h1 => ?_) fun h' tk m hm R keep => ?_
  · refine wpAny_bind (Calls.Constant_str ?_)
    exact wpAny_bind (wpAny_standAt (wpAny_pure (h1 _ _)))
  · exact ⟨.ref _, upd H s.heap.objs.size (SXO X.w s.heap.objs.size (fun j => j = .inr x) m), I.laid (t' := tk) keep (Nat.le_refl _) (sxo_new R), rfl, h _ _ _ (I.hok.fresh (Nat.le_refl _)) hm rfl⟩
/-- found.add(k) -/
def rSAddX (w : World) : V → List V → Hp → VK → Prop := fun x xs H Q => ∃ (a : Addr) (k : Key) (S : Key → Prop) (n : Nat), x = V.ref a ∧ xs = [kV k] ∧ H a = some (SXO w a S n) ∧ n ≤ 4000 ∧
  ∀ m o, m ≤ n + 1 → o = SXO w a (fun j => S j ∨ j = k) m → Q .non (upd H a o)
theorem mt_saddX : MtR X "set.add" (rSAddX X.w) := by
  intro pins s σ H x xs v us Q I rx rxs h
  obtain ⟨a, k, S, n, rfl, rfl, ha, room, q⟩ := h
  cases rx
  cases rxs with
  | cons ry rt =>
    cases rt
    have R : SX X.w s.heap a S n := (I.hok a _ ha).1
    refine sx_add_call R (show n + 1 < 4096 by omega) (kV_is (P := X.prog) (w := X.w) ry) fun h' m sb hm new => ?_
    have he : ∃ u, h'.get? a = some u := by
      have ⟨o, _, _, _, ho, _⟩ := new
      exact ⟨o, ho.1⟩
    exact ⟨.non, upd H a (SXO X.w a (fun j => S j ∨ j = k) m), I.write (e := a) (t' := s.toks + 1) (by rw [ha]; trivial) (.inl rfl) (fun b u hb hu => (sb.2 b hb).trans hu) he (sxo_new new), rfl, q m _ hm rfl⟩
def tSAddX (w : World) (to : TE) (t : TA) : TE := fun σ H Q => to σ H fun x H1 => (∃ a S n, x = V.ref a ∧ H1 a = some (SXO w a S n)) ∧ t σ H1 fun xs H2 => rSAddX w x xs H2 Q
variable {o e : Expr} {es : List Expr} {to : TE} {t : TA} {apos cpos : Pos}
theorem pe_saddX (ho : PE X o to) (ha : PA X (e :: es) t)
    (hbase : attributeBase o "add" X.env (eval o X.env) = eval o X.env := by rfl)
    (hfew : ((backTo cpos (starEach (e :: es) X.env)).all (fun x => !x.1) && (backToKw cpos (keywordEach [] X.env)).all (fun x => x.1.isSome)
      && decide ((e :: es).length + ([] : List Keyword).length + (if ([] : List Keyword).isEmpty then 0 else 1) < 30)) = true := by rfl)
    (hline : (apos.endLine == cpos.line) = true := by rfl) (hs : starEach (e :: es) X.env = (false, eval e X.env) :: starEach es X.env := by rfl) (hplain : (backTo cpos (starEach es X.env)).any (·.1) = false := by rfl) :
    PE X (.Call (.Attribute o "add" apos) (e :: es) [] cpos) (tSAddX X.w to t) := by
  refine ⟨fun pins s σ H Q I h => ?_⟩
  refine wpAny_Call_method_late hbase hfew hline rfl (thn (ho.run pins s σ H _ I h) fun v s1 ⟨x, H1, I1, r1, ty, q1⟩ => ?_)
  obtain ⟨a, S, n, rfl, hka⟩ := ty
  have hS : SX X.w s1.heap a S n := (I1.hok a _ hka).1
  cases r1
  refine ⟨"set", "set.add", F.plainAttrs_set, F.slot_set_add, F.type_set_add, hS.typeIs, hS.noDict, ?_⟩
  have hA := ha.run cpos pins s1 σ H1 _ I1 q1
  rw [hs] at hA ⊢
  refine Calls.callWith_builtin (by show (false || (backTo cpos (starEach es X.env)).any (·.1)) = false; rw [hplain] <;> rfl) (Calls.evalArgs_plain ?_)
  exact thn hA fun us s2 ⟨vs, H2, I2, r2, q2⟩ => mt_saddX pins s2 σ H2 (.ref a) vs (.ref a) us Q I2 rfl r2 q2
/-- a def whose code object is the module's -/
theorem okC {Pr : Program} {w : World} {K : PySem.W.Frag} {mg : Str → Option Value} {base : Heap} {x qual : Str} {st : Stmt} {f : Addr} {fd : FuncData} {N ps : List Str} {k : Nat} {sp : Sp} (F : Fun K x qual st f fd) (S : FnScope N ps (defScope st)) (len : ∀ vs H Q E, sp vs H Q E → vs.length = ps.length)
    (hbody : ∀ (cdv : Value) (A : Around) (outer : List Env) (s : Shared) (H : Hp) (vs : List V) (Q : VK) (E : XK), Room k (A.deeper (envOfC qual (defScope st) s.heap.objs.size f cdv)) → PySem.W.kdsCode K cdv = true → sp vs H Q E →
      ∃ t, PSs (cxOf CX0 Pr w K mg base N qual (defScope st) f cdv A outer s H E).nox (defBody st) t ∧ t { nx := fun _ H' => Q .non H', rt := Q } (start N vs) H) : FnOk Pr w K mg base CX0 (k + 1) f fd ps sp := by
  obtain ⟨oc, od, kV, doc, pm, an, cdv, ct, osl, rfl, lk, hcd⟩ := F.ex
  refine fn_of lk hcd S len fun A outer s H vs Q E hr hsp => ?_
  obtain ⟨t, h, q⟩ := hbody cdv A outer s H vs Q E hr (kdsCode_of hcd) hsp
  exact ⟨t, h.nox, q⟩
end
/-! ### enumerate(tuple), is not True -/
set_option maxHeartbeats 1000000 in
theorem meets_enumB {v : Value} {o : Obj} {H : Heap → Prop} (B : Begins v o H) :
    Meets (Builtin.«enumerate.__new__» ⟨[.type "enumerate", v], []⟩) (fun _ R s => H s.heap ∧
      R (.ok (.ret (.ref (s.heap.push o).objs.size))) { s with heap := (s.heap.push o).push { cls := .type "enumerate", data := .fields #[.none, .bool false, .ref s.heap.objs.size, rawInt 0, .none, .none] } }) :=
  .of_wp fun prog w A R s h => by
    obtain ⟨hp, g, d, tk, os⟩ := s; obtain ⟨h1, h⟩ := h
    have hsub := sub_enumerate
    have q1 : ∀ {A' : Around} {E : Value → Shared → Prop} {Q : Value → Shared → Prop}, Q (.ref hp.objs.size) ⟨hp.push o, g, d, tk, os⟩ → wpAny (model prog w) A' (pyIter v) Q E ⟨hp, g, d, tk, os⟩ :=
      fun q => B.iter prog w _ _ ⟨hp, g, d, tk, os⟩ _ h1 q
    wp_walk using q1
    refine wpAny_stack_any fun st => wpAny_pure ?_
    split
    · rename_i c _ _ _ _ _
      cases (c == Value.type "enumerate")
      · wp_walk using q1
        exact ⟨_, rfl, h⟩
      · wp_walk using q1
        exact ⟨_, rfl, h⟩
    · wp_walk using q1
      exact ⟨_, rfl, h⟩
theorem enum_at {prog : Program} {w : World} {A : Around} {E : Value → Shared → Prop} {s : Shared} {v : Value} {o : Obj} {H : Heap → Prop} {Q : Value → Shared → Prop} (B : Begins v o H) (h1 : H s.heap)
    (h : ∀ h', IsEnum h' (s.heap.objs.size + 1) s.heap.objs.size 0 .none → h'.get? s.heap.objs.size = some o → h'.objs.size = s.heap.objs.size + 2 →
      (∀ b o, s.heap.get? b = some o → h'.get? b = some o) → Q (.ref (s.heap.objs.size + 1)) { s with heap := h' }) :
    wpAny (model prog w) A (call (.type "enumerate") [v]) Q E s := by
  refine callType_new F.called_enumerate (by decide) (F.typeCall_enumerate_1 _) (F.newCall_enumerate_1 _) (fun obj => F.args_object_init_2 obj _) F.entry_enumerate_new (meets_enumB B) ⟨h1, ?_⟩
  have hz : (s.heap.push o).objs.size = s.heap.objs.size + 1 := Heap.size_push ..
  show _ ∧ _
  rw [hz]
  have he : IsEnum ((s.heap.push o).push { cls := .type "enumerate", data := .fields #[.none, .bool false, .ref s.heap.objs.size, rawInt 0, .none, .none] }) (s.heap.objs.size + 1) s.heap.objs.size 0 .none := by
    have := Heap.get?_push_size (s.heap.push o) (o := { cls := .type "enumerate", data := .fields #[.none, .bool false, .ref s.heap.objs.size, rawInt 0, .none, .none] }) rfl
    rw [hz] at this; exact this
  refine ⟨⟨_, he, rfl⟩, h _ he (Heap.get?_push_of_some _ (Heap.get?_push_size _ B.free)) (by rw [Heap.size_push, hz]) fun b o x => Heap.get?_push_of_some _ (Heap.get?_push_of_some _ x)⟩
/-- the tuple at a, each item in a new pair -/
def IteT (K : PySem.W.Frag) (a : Addr) : It :=
  ⟨fun i H => ∃ (xs : List V) (x : V), SqT K H a xs ∧ xs[i]? = some x, fun i H v H' => ∃ T x, v = .ref T ∧ H T = none ∧ H' = upd H T (.tup [.int (i : Nat), x]) ∧ ∀ xs, SqT K H a xs → xs[i]? = some x, fun i H => ∃ xs : List V, SqT K H a xs ∧ xs.length ≤ i⟩
theorem turn_enumT {P : Program} {w : World} {K : PySem.W.Frag} {elts : List Expr} {kk : Nat} {tpos : Pos} (a e it : Addr) :
    Turn P w K (.Tuple elts kk tpos) (IteT K a) [e, it] e (fun i h => (∃ old, IsEnum h e it ((i : Nat) : Int) old) ∧ h.IsTupleIter it a i ∧ e ≠ it ∧ a ≠ it ∧ a ≠ e) where
  mem := by simp
  obj := fun i h st b hb => by
    obtain ⟨⟨old, he⟩, ⟨o, ho, hc, hd⟩, _⟩ := st
    have e' : b = e ∨ b = it := by simpa using hb
    rcases e' with z | z
    · rw [z]; exact ⟨_, he, fun v q => nomatch q⟩
    · rw [z]; exact ⟨o, ho, fun v q => by rw [hd] at q; cases q⟩
  keep := fun i h h' st k => let ⟨⟨old, he⟩, hi, hne⟩ := st; ⟨⟨old, k e (by simp) _ he⟩, hi.at fun o q => k it (by simp) o q, hne⟩
  item := by
    intro X hP hw hK hc i pins s σ H E I hf st hg
    subst hP hw hK
    obtain ⟨⟨old, he⟩, hit, hne, hai, hae⟩ := st
    obtain ⟨xs, x, hq, hx⟩ := hg
    obtain ⟨its, rv, p, hz⟩ := I.tuple hq
    obtain ⟨u, hu, ru⟩ := rv.get hx
    have hel : e < s.heap.objs.size := Heap.lt_size he
    have hil : it < s.heap.objs.size := by obtain ⟨_, q, _⟩ := hit; exact Heap.lt_size q
    have hu2 := hu
    refine wpAny_pyNext_enum_itemD (Draws.tuple (A := X.A.in1) (by simp [I.ok.hd hc]) it a hai its.toArray) he ⟨hit, p⟩ (by simpa using (List.getElem?_eq_some_iff.mp hu).1) hne (by simp [hne, Ne.symm hae]) fun y h' tk py ho st' hT hsz hk => ?_
    obtain rfl : y = u := by
      have py : its.toArray[i]? = some y := py
      rw [List.getElem?_toArray, hu2] at py
      exact (Option.some.inj py).symm
    refine ⟨_, rfl, wpAny_letOwnedTupleGo_enum (s := { s with heap := h', toks := tk + 1 }) ho fun h'' he' sb => ?_⟩
    have hT2 : h''.get? s.heap.objs.size = some { cls := .type "tuple", data := .seq #[.int i tk, y] } := (sb.2 _ (Nat.ne_of_gt hel)).trans hT
    have new : ObjOk X.prog X.w (upd H s.heap.objs.size (.tup [.int (i : Nat), x])) h'' s.heap.objs.size (.tup [.int (i : Nat), x]) :=
      ⟨by show 2 ≤ sizeLine; decide, [.int i tk, y], .cons ⟨_, rfl⟩ (.cons ru .nil), ⟨_, hT2, rfl, _, rfl⟩⟩
    have I1 : Inv X pins σ (upd H s.heap.objs.size (.tup [.int (i : Nat), x])) { s with heap := h'', toks := tk + 1 } :=
      I.turnedNew (ch := [e, it]) (fun b ob hb q => (sb.2 b (fun z => hb (by simp [z]))).trans (hk b ob (fun z => hb (by simp [z])) (fun z => hb (by simp [z])) q)) hf (Nat.le_refl _) new
    refine ⟨.ref s.heap.objs.size, _, I1, rfl, ⟨_, x, rfl, I.hok.fresh (Nat.le_refl _), rfl, fun ys hy => by rw [I.tuple_inj hy hq]; exact hx⟩, ⟨⟨y, ?_⟩, st'.1.at fun o q => (sb.2 it (Ne.symm hne)).trans q, hne, hai, hae⟩, fun b hb => ?_⟩
    · have e1 : ((i + 1 : Nat) : Int) = (i : Int) + 1 := by omega
      rw [e1]; exact he'
    · have hb' : b < s.heap.objs.size := by
        have e' : b = e ∨ b = it := by simpa using hb
        rcases e' with z | z
        · rw [z]; exact hel
        · rw [z]; exact hil
      rw [upd_ne (Nat.ne_of_lt hb')]
      exact (hf b hb).1
  done := by
    intro X hP hw hK hc i pins s σ H E I hf st hg
    subst hP hw hK
    obtain ⟨⟨old, he⟩, hit, hne, hai, hae⟩ := st
    obtain ⟨xs, hq, hx⟩ := hg
    obtain ⟨its, rv, p, hz⟩ := I.tuple hq
    obtain ⟨f0, f1, f2, f3, f4, f5⟩ := hf it (by simp)
    have hl := rv.length
    have D2 : Draws X.prog X.w X.A.in1 it [it, a] i (fun _ _ => True) (fun j h => (h.IsTupleIter it a j ∧ h.IsTuple a its.toArray) ∧ i ≤ j) :=
      ⟨fun _ _ st => let ⟨o, ho, _⟩ := st.1.1; ⟨o, ho⟩, fun _ _ _ st hk => ⟨⟨st.1.1.at fun o e => hk it (by simp) o e, st.1.2.at fun o e => hk a (by simp) o e⟩, st.2⟩,
        fun j s Q E hj st hQ => absurd st.2 (by omega), fun s Q E st hE => PySem.wpAny_nextOf_tuple_end (by simp [I.ok.hd hc]) st.1.1 st.1.2 (by simp; omega) hE⟩
    exact wpAny_pyNext_enum_endD D2 he ⟨⟨hit, p⟩, Nat.le_refl _⟩ fun h' eb => ⟨rfl, I.turned (t' := s.toks) (fun b o hb q => eb b o hb q) f0 f1 f3 f4 f5⟩
  self := fun A i s Q E st h => let ⟨⟨_, he⟩, _⟩ := st; wpAny_pyIter_enum he h
def iEnumT (K : PySem.W.Frag) (ta : TA) : TI := fun σ H R => ta σ H fun vs H1 => ∃ a xs, vs = [.ref a] ∧ SqT K H1 a xs ∧ R (IteT K a) H1
theorem pi_enumT {X : Cx} {e : Expr} {ta : TA} {p pos tpos : Pos} {elts : List Expr} {kk : Nat} (hg : Gl X "enumerate") (hm : X.mg "enumerate" = none) (ha : PA X [e] ta) (hs : starEach [e] X.env = [(false, eval e X.env)] := by rfl) :
    PI X (.Tuple elts kk tpos) (.Call (.Name "enumerate" p) [e] [] pos) (iEnumT X.K ta) := by
  refine ⟨fun pins s σ H R I h => ?_⟩
  refine Call_ (ld_blt I hg hm boot_enumerate (PyProof.Rows.callWith_type1 (thn (ha.run pos pins s σ H _ I h) fun us s1 ⟨vs, H1, I1, r1, q1⟩ => ?_) hs rfl))
  obtain ⟨a, xs, ex, hq, q⟩ := q1
  subst ex
  cases r1 with
  | cons r rr =>
    cases rr
    cases r
    obtain ⟨its, rv, p', hz⟩ := I1.tuple hq
    have la : a < s1.heap.objs.size := by obtain ⟨_, z, _⟩ := p'; exact Heap.lt_size z
    refine enum_at (begins_tuple a its.toArray) p' fun h' he ho hsz hk => wpAny_pyIter_enum he ?_
    have I2 : Inv X pins σ H1 { s1 with heap := h' } := I1.kept (t' := s1.toks) hk
    refine ⟨s1.heap.objs.size + 1, [s1.heap.objs.size + 1, s1.heap.objs.size], _, _, H1, rfl, I2, turn_enumT a (s1.heap.objs.size + 1) s1.heap.objs.size, ⟨⟨.none, he⟩, ⟨_, ho, rfl, rfl⟩, Nat.succ_ne_self _, Nat.ne_of_lt la, Nat.ne_of_lt (Nat.lt_succ_of_lt la)⟩, fun b hb => ?_, q⟩
    have e' : b = s1.heap.objs.size + 1 ∨ b = s1.heap.objs.size := by simpa using hb
    have hle : s1.heap.objs.size ≤ b := by
      rcases e' with z | z
      · rw [z]; exact Nat.le_add_right _ _
      · rw [z]; exact Nat.le_refl _
    exact I1.fpOk hle (I1.hok.fresh hle)
theorem walk_enumT {K : PySem.W.Frag} {a : Addr} {xs : List V} : Walk (IteT K a) xs.length (fun H => SqT K H a xs) (YPair (fun i => some (.int (i : Nat))) (fun i => xs[i]?)) := by
  refine ⟨fun i _ hi q => ⟨xs, xs[i], q, by simp [hi]⟩, fun _ q => ⟨xs, q, Nat.le_refl _⟩, fun i H v H' _ q y => ?_⟩
  obtain ⟨T, x, h1, h2, h3, h4⟩ := y
  exact ⟨T, .int (i : Nat), x, h1, h2, h3, rfl, h4 xs q⟩
/-- is not True -/
theorem op_notTrue {X : Cx} : OpR X (compareOp .IsNot) (fun x y H Q => ∃ b, x = .bl b ∧ y = .bl true ∧ Q (.bl (!b)) H) := by
  intro pins s σ H x y v u Q I rx ry h
  obtain ⟨b, rfl, rfl, q⟩ := h
  cases rx
  cases ry
  refine isnot_bool (fin_bl I q ?_)
  cases b <;> rfl
/-! ### places, sets of places, cuts (k38, k39) -/
theorem tab_but {H H' : Hp} {f c P : Addr} {n : Int} (hf : Fd H f c n) (b : But f H H') (h : H P = some (TabO P)) : H' P = some (TabO P) := by
  obtain ⟨zs, hz⟩ := hf.at
  exact b P _ (ne_of h hz (fun z => by unfold TabO at z; exact nomatch z)) h
def Tabs (H : Hp) (ts : List Addr) : Prop := ∀ t ∈ ts, H t = some (TabO t)
theorem Tabs.same {H H' : Hp} {ts : List Addr} (s : Same H H') (h : Tabs H ts) : Tabs H' ts := fun t ht => s _ _ (h t ht)
def spRises (P : Addr) : Sp := fun vs H Q _ => ∃ (t : Addr) (ys : List Str), vs = [.ref t] ∧ H t = some (.tup (ys.map V.str)) ∧ ys.Pairwise sl ∧ ys.length ≤ 40 ∧ H P = some (TabO P) ∧ ∀ H', Same H H' → Q (.bl true) H'
def spPlOf : Sp := fun vs H Q _ => ∃ (o : Addr) (ws : List Wt) (E : List Ed), vs = [.ref o] ∧ OfAt H o ws E ∧ E.length ≤ 16 ∧
  ∀ (t : Addr) (pl : List Str) (H' : Hp), Same H H' → H t = none → H' t = some (.tup (pl.map V.str)) → pl.Pairwise sl → (∀ y, y ∈ pl ↔ plc E y) → pl.length ≤ 33 → Q (.ref t) H'
def spIsSet (P1 P2 : Addr) : Sp := fun vs H Q _ => ∃ (o t : Addr) (ws : List Wt) (E : List Ed) (ys : List Str), vs = [.ref o, .ref t] ∧ OfAt H o ws E ∧ E.length ≤ 16 ∧ H t = some (.tup (ys.map V.str)) ∧ ys.Pairwise sl ∧ ys.length ≤ 40 ∧ (∀ y ∈ ys, plc E y) ∧
  H P1 = some (TabO P1) ∧ H P2 = some (TabO P2) ∧ ∀ H', Same H H' → Q (.bl true) H'
def Shut (E : List Ed) (ys : List Str) : Prop := ∀ e ∈ E, e.1 ∈ ys → e.2 ∈ ys
def spLetsCut (P1 P2 : Addr) : Sp := fun vs H Q _ => ∃ (o t : Addr) (x y : Str) (ws : List Wt) (E : List Ed) (ys : List Str), vs = [.ref o, .str x, .str y, .ref t] ∧ OfAt H o ws E ∧ E.length ≤ 16 ∧ H t = some (.tup (ys.map V.str)) ∧ ys.Pairwise sl ∧ ys.length ≤ 40 ∧ (∀ y ∈ ys, plc E y) ∧
  Shut E ys ∧ x ∈ ys ∧ y ∉ ys ∧ H P1 = some (TabO P1) ∧ H P2 = some (TabO P2) ∧ ∀ H', Same H H' → Q (.bl true) H'
def CutV (H : Hp) (E : List Ed) (x y : Str) (v : V) : Prop := (v = .non ∧ ∃ n, Wlk E n x y) ∨ ∃ (t : Addr) (ys : List Str), v = .ref t ∧ H t = some (.tup (ys.map V.str)) ∧ ys.Pairwise sl ∧ (∀ z, z ∈ ys ↔ ∃ n, Wlk E n x z) ∧ ys.length ≤ 17 ∧ y ∉ ys
def spCutOf : Sp := fun vs H Q _ => ∃ (o : Addr) (x y : Str) (ws : List Wt) (E : List Ed), vs = [.ref o, .str x, .str y] ∧ OfAt H o ws E ∧ E.length ≤ 16 ∧ ∀ (v : V) (H' : Hp), Same H H' → CutV H' E x y v → Q v H'
def spIsCut : Sp := fun vs H Q _ => ∃ (o l t : Addr) (x y : Str) (ws : List Wt) (E : List Ed) (pl ys : List Str), vs = [.ref o, .ref l, .str x, .str y, .ref t] ∧ OfAt H o ws E ∧ OfOk ws E ∧ H l = some (.lst (pl.map V.str)) ∧ pl.Pairwise sl ∧ (∀ y, y ∈ pl ↔ plc E y) ∧ pl.length ≤ 33 ∧
  H t = some (.tup (ys.map V.str)) ∧ ys.Pairwise sl ∧ ys.length ≤ 40 ∧ (∀ y ∈ ys, plc E y) ∧ Shut E ys ∧ x ∈ ys ∧ y ∉ ys ∧ ∀ H', Same H H' → Q (.bl true) H'
def spRightC (P1 P2 : Addr) : Sp := fun vs H Q _ => ∃ (o : Addr) (ws : List Wt) (E : List Ed), vs = [.ref o] ∧ OfAt H o ws E ∧ OfOk ws E ∧ H P1 = some (TabO P1) ∧ H P2 = some (TabO P2) ∧ ∀ H', Same H H' → Q (.bl true) H'
def strsL (xs : List Str) : PyData := .list (xs.map .str)
theorem strs_dpL {K : PySem.W.Frag} {H : Hp} {t : Addr} {xs : List Str} (h : SqL K H t (xs.map V.str)) : Dp K H (.ref t) (strsL xs) := by
  refine .lst h ?_
  clear h
  induction xs with
  | nil => exact .nil
  | cons x l ih => exact .cons (.str x) ih
theorem strs_plainL (xs : List Str) : (strsL xs).plain = true := by
  show PyData.plainAll (xs.map .str) = true
  induction xs with
  | nil => rfl
  | cons x l ih =>
    rw [List.map_cons]
    simp only [PyData.plainAll, ih, PyData.plain, Bool.and_self]
theorem strs_eqvs : ∀ a b : List Str, PyData.eqvAll (a.map .str) (b.map .str) = decide (a = b)
  | [], [] => rfl
  | [], b :: bs => rfl
  | a :: as, [] => rfl
  | a :: as, b :: bs => by
    simp only [List.map_cons, PyData.eqvAll, PyData.eqv, strs_eqvs as bs]
    rw [Bool.eq_iff_iff]
    simp
theorem strs_depL (xs : List Str) : (strsL xs).depth ≤ 60 := by
  have z : PyData.depthAll (xs.map .str) ≤ 3 := by
    induction xs with
    | nil => simp [PyData.depthAll]
    | cons s l ih => rw [List.map_cons]; simp only [PyData.depthAll, PyData.depth] at *; omega
  simp only [strsL, PyData.depth]
  omega
theorem strs_eqvL (a : List Str) : PyData.eqv (strsL a) (strsL a) = true := by
  show PyData.eqvAll (a.map .str) (a.map .str) = true
  rw [strs_eqvs]
  exact decide_eq_true rfl
theorem plc_few {E : List Ed} {ys : List Str} (h : E.length ≤ 16) (up : ys.Pairwise sl) (p : ∀ y ∈ ys, plc E y) : ys.length ≤ 33 := by
  have nd : ys.Nodup := up.imp fun {a b} h => fun z => by
    subst z
    exact sl_irr _ h
  have z := sub_len (m := gNone :: (E.map (·.1) ++ E.map (·.2))) nd fun v hv => by
    rcases p v hv with rfl | ⟨e, he, rfl | rfl⟩
    · exact List.mem_cons_self
    · exact List.mem_cons_of_mem _ (List.mem_append_left _ (List.mem_map.mpr ⟨e, he, rfl⟩))
    · exact List.mem_cons_of_mem _ (List.mem_append_right _ (List.mem_map.mpr ⟨e, he, rfl⟩))
  rw [List.length_cons, List.length_append, List.length_map, List.length_map] at z
  omega
theorem wlk_shut {E : List Ed} {x : Str} {ys : List Str} (m : ∀ z, z ∈ ys ↔ ∃ n, Wlk E n x z) : Shut E ys := fun e he h => by
  obtain ⟨n, w⟩ := (m _).mp h
  exact (m _).mpr ⟨n + 1, e.1, w, he⟩
theorem wlk_plc {E : List Ed} {x y : Str} {n : Nat} (hx : plc E x) (h : Wlk E n x y) : plc E y := by
  cases n with
  | zero =>
    cases (show x = y from h)
    exact hx
  | succ n =>
    obtain ⟨z, _, k⟩ := h
    exact .inr ⟨(z, y), k, .inr rfl⟩
/-! ### tuple(list) known to have no dict, dict(tuple of pairs) -/
section
variable {X : Cx}
def rTupF (K : PySem.W.Frag) : List V → Hp → VK → Prop := fun xs H Q => ∃ (p : Addr) (ys : List V), xs = [.ref p] ∧ SqL K H p ys ∧ ∀ l o, H l = none → Tpl o → Q (.ref l) (upd H l (.frz o (.tup ys)))
theorem call_tupleF : CallR X (.type "tuple") (rTupF X.K) := by
  intro pins s σ H xs us Q I r h
  obtain ⟨p, ys, rfl, hq, q⟩ := h
  obtain ⟨u, rfl, rx⟩ := vals1 r
  cases rx
  obtain ⟨its, r', pl, hz⟩ := I.list hq
  have hlen := r'.length
  refine call_tuple_list pl.isList (fun h' kp => ?_) (by simp only [List.size_toArray] <;> omega)
  have I1 : Inv X pins σ H { s with heap := h' } := I.kept (t' := s.toks) kp
  have new : (h'.push { cls := .type "tuple", data := .seq its.toArray }).get? h'.objs.size = some { cls := .type "tuple", data := .seq its.toArray } := Heap.get?_push_size _ rfl
  have I2 : Inv X pins σ (upd H h'.objs.size (.frz { cls := .type "tuple", data := .seq its.toArray } (.tup ys))) { s with heap := h'.push { cls := .type "tuple", data := .seq its.toArray } } :=
    I1.laid (t' := s.toks) (fun b o e => Heap.get?_push_of_some _ e) (Nat.le_refl _) ⟨new, hz, its, r', IsTup.new _ _⟩
  exact ⟨.ref h'.objs.size, _, I2, rfl, q _ _ (I1.hok.fresh (Nat.le_refl _)) ⟨rfl, rfl⟩⟩
theorem pairs_ofT {pins : List (Addr × Obj)} {σ : L2.St} {H : Hp} {s : Shared} (I : Inv X pins σ H s) : ∀ {ps : List Addr} {kvs : List (Key × V)}, Paired (fun p kv => SqT X.K H p [kV kv.1, kv.2]) ps kvs →
    ∃ (prs : List (Key × Value)) (vs : List (Value × Value)), KV kvs prs ∧ prs.length = ps.length ∧ vs.length = ps.length ∧ ∀ (j : Nat) (u v : Value), vs[j]? = some (u, v) → ∃ (b : Addr) (k : Key), ps[j]? = some b ∧ IsTup s.heap b #[u, v] ∧ prs[j]? = some (k, v) ∧ keyIs k u = true
  | _, _, .nil => ⟨[], [], .nil, rfl, rfl, fun j u v e => by simp at e⟩
  | _, _, .cons (a := p) (b := kv) h t => by
    obtain ⟨prs, vs, r, hl, hl2, hp⟩ := pairs_ofT I t
    obtain ⟨its, rv, ht, _⟩ := I.tuple h
    obtain ⟨u, y, ei, ru, ry⟩ := vals2 rv
    subst ei
    refine ⟨(kv.1, y) :: prs, (u, y) :: vs, .cons ⟨rfl, ry⟩ r, by rw [List.length_cons, List.length_cons, hl], by rw [List.length_cons, List.length_cons, hl2], fun j u' v' e => ?_⟩
    cases j with
    | zero =>
      cases Option.some.inj e
      exact ⟨p, kv.1, rfl, ht, rfl, kV_is (P := X.prog) (w := X.w) ru⟩
    | succ j =>
      obtain ⟨b, k, e1, e2, e3⟩ := hp j u' v' (by simpa using e)
      exact ⟨b, k, by simpa using e1, e2, by simpa using e3⟩
def rDictT (K : PySem.W.Frag) : List V → Hp → VK → Prop := fun xs H Q => ∃ (a : Addr) (o : Obj) (ps : List Addr) (kvs : List (Key × V)), xs = [.ref a] ∧ H a = some (.frz o (.tup (ps.map V.ref))) ∧ Tpl o ∧ Paired (fun p kv => SqT K H p [kV kv.1, kv.2]) ps kvs ∧
    ∀ p, H p = none → Q (.ref p) (upd H p (.dK (mergeK [] kvs)))
theorem call_dictT (hcalm : X.calm = true) : CallR X (.type "dict") (rDictT X.K) := by
  intro pins s σ H xs us Q I r q
  obtain ⟨a, o, ps, kvs, ex, hq, ⟨tc, td⟩, hp, q⟩ := q
  subst ex
  obtain ⟨u, eu, rx⟩ := vals1 r
  subst eu
  cases rx
  obtain ⟨at1, hz, its, rv, o', e', c', n, d'⟩ := I.hok a _ hq
  have eo : o' = o := Option.some.inj (e'.symm.trans at1)
  subst eo
  have ei := refs_at rv
  subst ei
  rw [List.length_map] at hz
  obtain ⟨prs, vs, rel, hl, hl2, hpr⟩ := pairs_ofT I hp
  have items : PairItems s.heap (ps.map Value.ref).toArray (fun j => (ps[j]?).getD 0) vs := by
    refine ⟨by simp [hl2], fun j k v e => ?_⟩
    obtain ⟨b, kk, e1, e2, _⟩ := hpr j k v e
    dsimp only
    rw [e1]
    refine ⟨by simp [e1], ?_⟩
    exact .inl e2
  refine PySem.call_dict_pairs (knd := mixKind X.prog X.w) (kvs := prs) (PairArg.tuple a (ps.map Value.ref).toArray (fun j => (ps[j]?).getD 0) vs) (I.ok.hd hcalm) ⟨⟨o', n, e', c', td, d'⟩, items⟩ ⟨by rw [hl, hl2], fun i key v e => ?_⟩ (by rw [hl2]; exact hz) fun h' tk hd' k => ?_
  · obtain ⟨b, kk, e1, e2, e3, e4⟩ := hpr i key v e
    exact ⟨kk, e3, e4⟩
  · have hm : (s.heap.objs.size == sysModules) = false := beq_eq_false_iff_ne.mpr (Nat.ne_of_gt I.big)
    have hlen : (mergeK [] kvs).length ≤ sizeLine := by
      refine Nat.le_trans (length_mergeK kvs []) ?_
      rw [List.length_nil, Nat.zero_add, rel.length, hl]
      exact hz
    exact ⟨.ref s.heap.objs.size, upd H s.heap.objs.size (.dK (mergeK [] kvs)), I.laid (t' := tk) (fun b o e => k b o (nomatch ·) e) (Nat.le_refl _) (show ObjOk X.prog X.w _ _ _ (.dK (mergeK [] kvs)) from ⟨hlen, hm, merged [] prs, KV.merge rel .nil, hd'⟩), rfl, q _ (I.hok.fresh (Nat.le_refl _))⟩
end
theorem merge_val {k : Key} : ∀ {more kvs : List (Key × V)}, (more.map Prod.fst).Nodup → (k ∈ more.map Prod.fst → valV (mergeK kvs more) k = valV more k) ∧ (k ∉ more.map Prod.fst → valV (mergeK kvs more) k = valV kvs k) := fun {more} => by
  induction more with
  | nil => exact fun _ => ⟨fun h => (nomatch h), fun _ => rfl⟩
  | cons p r ih =>
    intro kvs nd
    rw [List.map_cons, List.nodup_cons] at nd
    have e : mergeK kvs (p :: r) = mergeK (putK kvs p.1 p.2) r := rfl
    obtain ⟨i1, i2⟩ := ih (kvs := putK kvs p.1 p.2) nd.2
    rw [e, List.map_cons]
    by_cases c : p.1 = k
    · subst c
      rw [i2 nd.1, valV_put, if_pos rfl, valV_pos rfl]
      exact ⟨fun _ => rfl, fun h => (h List.mem_cons_self).elim⟩
    · refine ⟨fun h => ?_, fun h => ?_⟩
      · rcases List.mem_cons.mp h with h | h
        · exact (c h.symm).elim
        · rw [i1 h, valV_neg c]
      · rw [i2 fun z => h (List.mem_cons_of_mem _ z), valV_put, if_neg (Ne.symm c)]
def rLenS (K : PySem.W.Frag) : List V → Hp → VK → Prop := fun xs H Q => ∃ (p : Addr) (ys : List V), xs = [.ref p] ∧ (SqL K H p ys ∨ SqT K H p ys) ∧ Q (.int (ys.length : Int)) H
/-! ### a refusal of two fields: what __init__ does, and a refusal made (isinstance and e.f as for one field, with Rf for each field) -/
def spIn2 (C : Addr) (f g : Str) : Sp := fun vs H Q _ => ∃ (a : Addr) (x y : V), vs = [.ref a, x, y] ∧ H a = some (exo a C none) ∧
  ∀ dx, H dx = none → dx ≠ a → Q .non (upd (upd (upd H dx (exd dx [(f, x)])) a (exo a C (some dx))) dx (exd dx [(g, y), (f, x)]))
theorem init_ok2 {P : Program} {w : World} {K : PySem.W.Frag} {mg : Str → Option Value} {base : Heap} {qual f g : Str} {st : Stmt} {fI C : Addr} {fd : FuncData} {N : List Str} {ps : List Str} {k : Nat} (F : Fun K "__init__" qual st fI fd) (S : FnScope N ps (defScope st)) (hp : ps.length = 3)
    (T : OexC K C) (no : PySem.W.findIn K (.ref C) f = some none) (no2 : PySem.W.findIn K (.ref C) g = some none)
    (hb : ∀ (X : Cx), X.N = N → X.K = K → X.env.scope = defScope st → PSs X (defBody st) (tSeq (tOst X.K f (tVar 0) (tVar 1)) (tOst X.K g (tVar 0) (tVar 2)))) (hN : N = ps) : FnOk P w K mg base CX0 (k + 1) fI fd ps (spIn2 C f g) := by
  refine F.ok S (fun vs H Q E h => ?_) (fun cdv A outer s H vs Q E hr h => ?_)
  · obtain ⟨a, x, y, rfl, _⟩ := h
    exact hp.symm
  · obtain ⟨a, x, y, rfl, ha, q⟩ := h
    refine ⟨_, hb _ rfl rfl rfl, ?_⟩
    subst hN
    match N, hp with
    | [n1, n2, n3], _ =>
      refine ⟨_, rfl, _, rfl, a, C, rfl, T, no, Or.inl ⟨ha, fun dx hdx ne => ?_⟩⟩
      exact ⟨_, rfl, _, rfl, a, C, rfl, T, no2, Or.inr ⟨dx, [(f, x)], upd_same, (upd_ne ne).trans upd_same, (show 1 ≤ 900 by decide), q dx hdx ne⟩⟩
theorem mk_read2 {C : Addr} {f g : Str} {v u : V} {H : Hp} {Q : XK} (h : ∀ d H', H d = none → Same H H' → H' d = some (.xd [(g, u), (f, v)]) → Q (.ref C) (some d) H') :
    [v, u].length ≤ 1000 ∧ ∀ a, H a = none → spIn2 C f g (.ref a :: ([v, u] ++ [])) (upd H a (exo a C none))
      (fun r H2 => r = .non ∧ ∃ (d : Addr) (fs : List (Str × V)), H2 a = some (exo a C (some d)) ∧ H2 d = some (exd d fs) ∧ H d = none ∧ Q (.ref C) (some d) (upd (del H2 a) d (.xd fs))) (fun _ _ _ => False) := by
  refine ⟨(show 2 ≤ 1000 by decide), fun a ha => ⟨a, v, u, rfl, upd_same, fun dx hdx ne => ?_⟩⟩
  rw [upd_ne ne] at hdx
  refine ⟨rfl, dx, [(g, u), (f, v)], (upd_ne (Ne.symm ne)).trans upd_same, upd_same, hdx, h dx _ hdx (fun b o e => ?_) upd_same⟩
  have n1 : b ≠ dx := ne_of_none e hdx
  have n2 : b ≠ a := ne_of_none e ha
  rw [upd_ne n1, del_ne n2, upd_ne n1, upd_ne n2, upd_ne n1, upd_ne n2]
  exact e
theorem look2 {f g : Str} {v u : V} (h : f ≠ g) : List.lookup f [(g, u), (f, v)] = some v := by
  have e : (f == g) = false := by simpa using h
  simp [List.lookup, e]
theorem look2' {f g : Str} {v u : V} : List.lookup g [(g, u), (f, v)] = some u := by simp [List.lookup]
/-! ### k38: things of mixed kinds, judged -/
def nextB (ys : List Str) (i : Nat) : Bool := match ys[i]?, ys[i + 1]? with
  | some a, some b => decide (a.cps.toList < b.cps.toList)
  | _, _ => true
def upB (ys : List Str) : Bool := ((List.range (((ys.map V.str).length : Int) - 1).toNat).filter fun _ => true).all (nextB ys)
theorem upB_iff (ys : List Str) : upB ys = true ↔ ys.Pairwise sl := by
  unfold upB
  rw [List.all_eq_true]
  constructor
  · intro h
    have step : ∀ i a b, ys[i]? = some a → ys[i + 1]? = some b → sl a b := fun i a b ha hb => by
      have l := (List.getElem?_eq_some_iff.mp hb).1
      have z := h i (List.mem_filter.mpr ⟨List.mem_range.mpr (by rw [List.length_map]; omega), rfl⟩)
      unfold nextB at z
      rw [ha, hb] at z
      exact of_decide_eq_true (p := a.cps.toList < b.cps.toList) z
    rw [List.pairwise_iff_getElem]
    have chain : ∀ d i (h1 : i < ys.length) (h2 : i + d + 1 < ys.length), sl ys[i] ys[i + d + 1] := fun d => by
      induction d with
      | zero => exact fun i h1 h2 => step i _ _ (List.getElem?_eq_getElem h1) (List.getElem?_eq_getElem h2)
      | succ d ih =>
        intro i h1 h2
        exact sl_tr (ih i h1 (by omega)) (step (i + d + 1) _ _ (List.getElem?_eq_getElem (by omega)) (List.getElem?_eq_getElem h2))
    intro i j hi hj hij
    have z := chain (j - i - 1) i hi (by omega)
    have e : i + (j - i - 1) + 1 = j := by omega
    simpa [e] using z
  · intro h i hi
    have hi := List.mem_range.mp (List.mem_filter.mp hi).1
    rw [List.length_map] at hi
    unfold nextB
    rw [List.getElem?_eq_getElem (show i < ys.length by omega), List.getElem?_eq_getElem (show i + 1 < ys.length by omega)]
    exact decide_eq_true (p := _ < _) (List.pairwise_iff_getElem.mp h i (i + 1) (by omega) (by omega) (Nat.lt_succ_self _))
def spRisesM (P : Addr) : Sp := fun vs H Q _ => ∃ (t : Addr) (ys : List Str), vs = [.ref t] ∧ H t = some (.tup (ys.map V.str)) ∧ ys.length ≤ 100 ∧ H P = some (TabO P) ∧ ∀ H', Same H H' → Q (.bl (upB ys)) H'
/-- a tuple of parts of any kind, read as data -/
def GoodT (E : List Ed) (ds : List PyData) : Prop := ∃ ys : List Str, ds = ys.map .str ∧ (∀ y ∈ ys, plc E y) ∧ ys.Pairwise sl
def spIsSetM (K : PySem.W.Frag) (P1 P2 : Addr) : Sp := fun vs H Q _ => ∃ (o t : Addr) (ws : List Wt) (E : List Ed) (xs : List V) (ds : List PyData), vs = [.ref o, .ref t] ∧ OfAt H o ws E ∧ E.length ≤ 16 ∧ H t = some (.tup xs) ∧ DpAll K H xs ds ∧ xs.length ≤ 100 ∧ (∀ d ∈ ds, d.plain = true ∧ d.depth ≤ 10) ∧
  H P1 = some (TabO P1) ∧ H P2 = some (TabO P2) ∧ ∀ (b : Bool) (H' : Hp), Same H H' → (b = true ↔ GoodT E ds) → Q (.bl b) H'
/-- a part is one of the places -/
def inPl (pl : List Str) (d : PyData) : Bool := (pl.map PyData.str).any fun z => PyData.eqv z d
theorem inPl_iff (pl : List Str) (d : PyData) : inPl pl d = true ↔ ∃ y ∈ pl, d = .str y := by
  unfold inPl
  rw [List.any_map, List.any_eq_true]
  constructor
  · rintro ⟨y, hy, e⟩
    have e : PyData.eqv (.str y) d = true := e
    cases d <;> simp [PyData.eqv] at e
    · exact ⟨y, hy, by rw [e]⟩
  · rintro ⟨y, hy, rfl⟩
    exact ⟨y, hy, by simp [PyData.eqv]⟩
theorem strs_of {K : PySem.W.Frag} {H : Hp} : ∀ {xs : List V} {ys : List Str}, DpAll K H xs (ys.map .str) → xs = ys.map V.str
  | [], [], _ => rfl
  | x :: xs, y :: ys, h => by
    rw [List.map_cons] at h
    cases h with
    | cons a b =>
      cases a
      rw [List.map_cons, ← strs_of b]
def allPl (pl : List Str) (ds : List PyData) : Bool := ((List.range ds.length).filter fun _ => true).all fun i => (ds[i]?).elim true (inPl pl)
theorem allPl_iff (pl : List Str) (ds : List PyData) : allPl pl ds = true ↔ ∃ ys : List Str, ds = ys.map .str ∧ ∀ y ∈ ys, y ∈ pl := by
  unfold allPl
  rw [List.all_eq_true]
  have key : (∀ i ∈ (List.range ds.length).filter fun _ => true, ((ds[i]?).elim true (inPl pl)) = true) ↔ ∀ d ∈ ds, inPl pl d = true := by
    constructor
    · intro h d hd
      obtain ⟨i, hi, e⟩ := List.getElem_of_mem hd
      have z := h i (List.mem_filter.mpr ⟨List.mem_range.mpr hi, rfl⟩)
      rw [List.getElem?_eq_getElem hi, e] at z
      exact z
    · intro h i hi
      have hi := List.mem_range.mp (List.mem_filter.mp hi).1
      rw [List.getElem?_eq_getElem hi]
      exact h _ (List.getElem_mem hi)
  rw [key]
  clear key
  constructor
  · intro h
    induction ds with
    | nil => exact ⟨[], rfl, fun _ z => nomatch z⟩
    | cons d ds ih =>
      obtain ⟨ys, e, hy⟩ := ih fun x hx => h x (List.mem_cons_of_mem _ hx)
      obtain ⟨y, y1, y2⟩ := (inPl_iff _ _).mp (h d List.mem_cons_self)
      exact ⟨y :: ys, by rw [y2, e]; rfl, fun z hz => (List.mem_cons.mp hz).elim (fun q => q ▸ y1) (hy z)⟩
  · rintro ⟨ys, rfl, hy⟩ d hd
    obtain ⟨y, h1, rfl⟩ := List.mem_map.mp hd
    exact (inPl_iff _ _).mpr ⟨y, hy y h1, rfl⟩
theorem strs_inj : ∀ {a b : List Str}, a.map PyData.str = b.map PyData.str → a = b
  | [], [], _ => rfl
  | x :: a, y :: b, h => by
    rw [List.map_cons, List.map_cons] at h
    injection h with h1 h2
    injection h1 with h1
    rw [h1, strs_inj h2]
/-- the thing is no tuple -/
def NoTup (K : PySem.W.Frag) (H : Hp) (x : V) : Prop := ∃ ty : Value, TyX K H x ty ∧ PySem.W.kitOne K ty (.type "tuple") = some false
def spNoSet (K : PySem.W.Frag) : Sp := fun vs H Q _ => ∃ (o : Addr) (x : V) (ws : List Wt) (E : List Ed), vs = [.ref o, x] ∧ OfAt H o ws E ∧ E.length ≤ 16 ∧ (∀ H', Same H H' → NoTup K H' x) ∧ ∀ H', Same H H' → Q (.bl false) H'
def spIsSetA (K : PySem.W.Frag) (P1 P2 : Addr) : Sp := fun vs H Q E => spIsSetM K P1 P2 vs H Q E ∨ spNoSet K vs H Q E
def leaveAt (E : List Ed) (ys : List Str) : Option Nat := E.findIdx? fun e => decide (e.1 ∈ ys) && !decide (e.2 ∈ ys)
def verd (E : List Ed) (x y : Str) (ys : List Str) : Option (Str × Int) := match leaveAt E ys with
  | some k => some (("leaves" : String), (k : Int))
  | none => if x ∈ ys then (if y ∈ ys then some (("to" : String), 0) else none) else some (("from" : String), 0)
/-- what is refused of a tuple -/
def VerdT (E : List Ed) (x y : Str) (ds : List PyData) (w : Str) (k : Int) : Prop := (¬ GoodT E ds ∧ w = ("shape" : String) ∧ k = -1) ∨ ∃ ys : List Str, ds = ys.map .str ∧ GoodT E ds ∧ verd E x y ys = some (w, k)
def NoP (H : Hp) (d : Addr) (w : Str) (k : Int) : Prop := H d = some (.xd [("place", .int k), ("word", .str w)])
def spLetsM (K : PySem.W.Frag) (P1 P2 C : Addr) : Sp := fun vs H Q X => ∃ (o t : Addr) (x y : Str) (ws : List Wt) (E : List Ed) (xs : List V) (ds : List PyData), vs = [.ref o, .str x, .str y, .ref t] ∧ OfAt H o ws E ∧ E.length ≤ 16 ∧ H t = some (.tup xs) ∧ DpAll K H xs ds ∧ xs.length ≤ 100 ∧ (∀ d ∈ ds, d.plain = true ∧ d.depth ≤ 10) ∧
  H P1 = some (TabO P1) ∧ H P2 = some (TabO P2) ∧ (∀ ys : List Str, ds = ys.map .str → GoodT E ds → verd E x y ys = none → ∀ H', Same H H' → Q (.bl true) H') ∧
  ∀ w k, VerdT E x y ds w k → ∀ d H', H d = none → Same H H' → NoP H' d w k → X (.ref C) (some d) H'
def spLetsN (K : PySem.W.Frag) (C : Addr) : Sp := fun vs H Q X => ∃ (o : Addr) (x y : Str) (z : V) (ws : List Wt) (E : List Ed), vs = [.ref o, .str x, .str y, z] ∧ OfAt H o ws E ∧ E.length ≤ 16 ∧ (∀ H', Same H H' → NoTup K H' z) ∧
  ∀ d H', H d = none → Same H H' → NoP H' d ("shape" : String) (-1) → X (.ref C) (some d) H'
def spLetsA (K : PySem.W.Frag) (P1 P2 C : Addr) : Sp := fun vs H Q X => spLetsM K P1 P2 C vs H Q X ∨ spLetsN K C vs H Q X
theorem NoTup.ref {K : PySem.W.Frag} {H : Hp} {x : V} (h : NoTup K H x) : NoTup K H x := h
theorem leave_none {E : List Ed} {ys : List Str} {i : Nat} (h : ∀ j : Nat, j < i → ∀ e : Ed, E[j]? = some e → ¬ (e.1 ∈ ys ∧ e.2 ∉ ys)) {e : Ed} (he : E[i]? = some e) (c1 : e.1 ∈ ys) (c2 : e.2 ∉ ys) : leaveAt E ys = some i := by
  unfold leaveAt
  rw [List.findIdx?_eq_some_iff_getElem]
  obtain ⟨hi, ei⟩ := List.getElem?_eq_some_iff.mp he
  refine ⟨hi, by rw [ei]; simp [c1, c2], fun j hj => ?_⟩
  have z := h j hj _ (List.getElem?_eq_getElem (by omega))
  simp only [Bool.not_eq_true', Bool.and_eq_true, decide_eq_true_eq]
  exact fun k => z ⟨k.1, of_decide_eq_false (by simpa using k.2)⟩
theorem leave_end {E : List Ed} {ys : List Str} (h : ∀ (j : Nat) (e : Ed), E[j]? = some e → ¬ (e.1 ∈ ys ∧ e.2 ∉ ys)) : leaveAt E ys = none := by
  unfold leaveAt
  rw [List.findIdx?_eq_none_iff]
  intro e he
  obtain ⟨j, hj⟩ := List.mem_iff_getElem?.mp he
  have z := h j e hj
  by_cases c : e.1 ∈ ys <;> by_cases d : e.2 ∈ ys <;> simp [c, d] at z ⊢
def spDrawn : Sp := fun vs H Q _ => ∃ (f c P0 A : Addr) (x y : Str) (n : Int) (pl : List Str) (kvs : List (List Key × V)) (d : Ap), vs = [.ref f, .ref P0, .ref A, .str x, .str y] ∧ Fd H f c n ∧ n ≤ 900000 ∧ H P0 = some (.lst (pl.map V.str)) ∧ P0 ≠ f ∧ pl.length ≤ 33 ∧ H A = some (.dT kvs) ∧ A ≠ f ∧ apOf d kvs ∧
  ∀ (t : Addr) (ys : List Str) (H' : Hp), Fd H' f c (n + 40) → But f H H' → H' t = some (.tup (ys.map V.str)) → ys.length ≤ 33 → (∀ z ∈ ys, z ∈ pl) → Q (.ref t) H'
/-! ### a refusal handed to a def within the suite that holds it -/
structure FnP (P : Program) (w : World) (K : PySem.W.Frag) (mg : Str → Option Value) (base : Heap) (k : Nat) (f : Addr) (fd : FuncData) (ps : List Str) (sp : Addr → Value → Option Addr → Sp) : Prop where
  len : ∀ a c d vs H Q E, sp a c d vs H Q E → vs.length = ps.length
  run : ∀ (A : Around) (outer : List Env) (s : Shared) (H : Hp) (args : Args) (us : List Value) (vs : List V) (Q : VK) (E : XK) (p : Addr × Obj) (cls : Value) (d : Option Addr),
    L2H.RoomH k A → L2H.PinOk outer H s p → Zc cls d p.2 → (∃ ys, p.2.data = .fields ys) → Env0 P w K mg base A outer s H → BindsTo s fd args (ps.zip us) → Vals vs us → sp p.1 cls d vs H Q E →
    codeAny (model P w) A (.call (.ref f) args) (CR CX0 outer P w H s Q E) s
theorem FnP.mono {P : Program} {w : World} {K : PySem.W.Frag} {mg : Str → Option Value} {base : Heap} {j k : Nat} {f : Addr} {fd : FuncData} {ps : List Str} {sp : Addr → Value → Option Addr → Sp} (F : FnP P w K mg base j f fd ps sp) (h : j ≤ k) : FnP P w K mg base k f fd ps sp :=
  ⟨F.len, fun A outer s H args us vs Q E p cls d room => F.run A outer s H args us vs Q E p cls d (room.mono h)⟩
section
variable {P : Program} {w : World} {K : PySem.W.Frag} {mg : Str → Option Value} {base : Heap}
theorem okP {x qual : Str} {st : Stmt} {f : Addr} {fd : FuncData} {N ps : List Str} {k : Nat} {sp : Addr → Value → Option Addr → Sp}
    (F : Fun K x qual st f fd) (S : FnScope N ps (defScope st)) (hlen : ∀ a c d vs H Q E, sp a c d vs H Q E → vs.length = ps.length)
    (hb : ∀ (cdv : Value) (A : Around) (outer : List Env) (s : Shared) (H : Hp) (vs : List V) (Q : VK) (E : XK) (a : Addr) (oe : Obj) (cls : Value) (d : Option Addr),
      L2H.RoomH k (A.deeper (envOfC qual (defScope st) s.heap.objs.size f cdv)) → Zc cls d oe → (∃ ys, oe.data = .fields ys) →
      sp a cls d vs H Q E → ∃ t, PSs (L2H.cxH CX0 P w K mg base N qual (defScope st) f cdv A outer s H E (a, oe)).nox (defBody st) t ∧
        t { nx := fun _ H' => Q .non H', rt := Q } (start N vs) H) : FnP P w K mg base (k + 1) f fd ps sp := by
  obtain ⟨oc, od, kV, doc, pm, an, cdv, ct, osl, rfl, lk, hcd⟩ := F.ex
  refine ⟨hlen, fun A outer s H args us vs Q E p cls d room pin hz hf e0 bind rel wish => ?_⟩
  have lv := hlen _ _ _ _ _ _ _ wish
  have old : ∀ b o, base.get? b = some o → s.heap.get? b = some o := fun b o e => (e0.bs b o e).1
  have inK : K.In s.heap := e0.mod.kin.keeps old
  refine codeAny_call_function room.depth (inK _ _ lk) rfl S.co S.gen rfl (PySem.W.codeRec_of inK hcd) (bind _ _ _ _ ?_)
  refine wpAny_newFunctionEnv_cells S.kind (fun y hy => ?_) fun env ee s1 x1 => ?_
  · obtain ⟨n, v⟩ := y
    cases S.par n (List.of_mem_zip hy).1 with
    | inl q => exact Or.inl q
    | inr q => exact Or.inr ⟨q, PySem.W.cellsFrom_some _ _ _ (Or.inl q)⟩
  subst ee
  refine ⟨(e0.mod.nolimit.keeps old).keeps x1.toInCall.keep, codeAny_func ?_⟩
  obtain ⟨a, oe⟩ := p
  obtain ⟨t, ht, hq⟩ := hb cdv A outer s H vs Q E a oe cls d (room.deeper _) hz hf wish
  have I0 := L2H.inv_startH (CX := CX0) (E := E) S pin e0 lv rel x1
  refine wpAny_mono (ht.nox.run [] s1 (start N vs) H _ I0 hq) (fun fl s2 hs => ?_) fun _ _ z => z
  cases fl with
  | ret u =>
    obtain ⟨v, σ2, H2, J, rv, q⟩ := hs
    exact ⟨v, H2, J.os, J.bare, J.base, J.hok, rv, q⟩
  | next =>
    obtain ⟨σ2, H2, J, q⟩ := hs
    exact ⟨.non, H2, J.os, J.bare, J.base, J.hok, rfl, q⟩
  | brk => exact hs.choose_spec.choose_spec.2.elim
  | cont => exact hs.choose_spec.choose_spec.2.elim
end
/-- the call, the refusal among what the context holds -/
theorem pe_callP {X : Cx} {k : Nat} {f : Addr} {fd : FuncData} {ps : List Str} {sp : Addr → Value → Option Addr → Sp} {x : Str} {e : Expr} {es : List Expr} {t : TA} {p pos : Pos} {a : Addr} {oe : Obj} {cls : Value} {d : Option Addr}
    (F : FnP X.prog X.w X.K X.mg X.base k f fd ps sp) (room : L2H.RoomH k X.A) (hz : Zc cls d oe) (hf : ∃ ys, oe.data = .fields ys) (hp : (a, oe) ∈ X.pn) (gl : Gl X x) (hm : X.mg x = some (.ref f)) (kp : PySem.W.keepIn X.K (.ref f) = true) (bi : Binds X.K fd ps [])
    (ha : PA X (e :: es) t) (ndb : (x == ("__debug__" : Str)) = false := by decide) (st : starEach (e :: es) X.env = (false, eval e X.env) :: starEach es X.env := by rfl) (np : (backTo pos (starEach es X.env)).any (·.1) = false := by rfl) :
    PE X (.Call (.Name x p) (e :: es) [] pos) (tCall (sp a cls d) [] E0 t) := by
  constructor
  intro pins s σ H Q I wish
  refine wpAny_Call_Name_kw (ld_glob I gl hm ?_ ndb)
  refine PySem.W.callWith_K (h₀ := X.base) I.ok.mod.kin kp (thn (ha.run pos pins s σ H _ I wish) fun us s1 ⟨vs, H1, I1, rel, q⟩ => ⟨I1.kIn, ?_⟩) st np
  have q : sp a cls d (vs ++ []) H1 Q E0 := q
  rw [List.append_nil] at q
  have len : us.length = ps.length := rel.length.symm.trans (F.len _ _ _ _ _ _ _ q)
  have b := bi s1 us I1.kIn (by rw [List.append_nil]; exact len)
  rw [List.append_nil] at b
  have P1 := I1.pin (a, oe) (List.mem_append_left _ hp)
  have hpin : L2H.PinOk X.stack H1 s1 (a, oe) := ⟨P1.1, P1.2.1, fun hm => (List.mem_cons.mp (I1.stkSub a hm)).elim P1.2.2.1 P1.2.2.2.1, P1.2.2.2.2⟩
  refine wpAny_call (codeAny_mono (F.run X.A X.stack s1 H1 ⟨us, []⟩ us vs Q E0 (a, oe) cls d room hpin hz hf I1.env0 b rel q) fun res s2 told => ?_)
  match res, told with
  | .error er, told => exact told.elim
  | .ok (.ret u), told => exact I1.after told
  | .ok .next, told => exact told.elim
  | .ok .brk, told => exact told.elim
  | .ok .cont, told => exact told.elim
theorem roomH_suite {X : Cx} {a : Addr} {pn : List (Addr × Obj)} {k : Nat} (r : Room k X.A) : L2H.RoomH k (X.suite a pn).A := ⟨r.dp, r.un⟩
/-- a refusal of the class x, its dict at dd, told apart: True -/
def spAlone (K : PySem.W.Frag) (x : Str) : Addr → Value → Option Addr → Sp := fun a cls d vs H Q _ => vs = [.ref a] ∧ cls = .ref (He.ga K x) ∧ ∃ (dd : Addr) (fs : List (Str × V)), d = some dd ∧ H dd = some (.xd fs) ∧ ∀ H', Same H H' → Q (.bl true) H'
/-! ### tracked tuples: slices, sums -/
theorem cut_whole {xs : List V} {lo hi : Option Int} (h : HT.sIx xs.length 0 lo = 0 ∧ HT.sIx xs.length xs.length hi = xs.length) : cutV xs lo hi = xs := by
  unfold cutV
  rw [h.1, h.2, List.drop_zero, Nat.sub_zero, List.take_length]
theorem cut_mem {xs : List V} {lo hi : Option Int} {v : V} (h : v ∈ cutV xs lo hi) : v ∈ xs := List.mem_of_mem_drop (List.mem_of_mem_take h)
def rSlTk : V → Option Int → Option Int → Hp → VK → Prop := fun x lo hi H Q => ∃ a xs, x = .ref a ∧ H a = some (.tup xs) ∧ ∀ p H', Same H H' → H' p = some (.tup (cutV xs lo hi)) → Q (.ref p) H'
theorem sl_tupTk {X : Cx} : SlR X rSlTk := by
  intro pins s σ H x v vl vu lo hi sl Q I rx hs pl pu h
  obtain ⟨a, xs, rfl, hx, q⟩ := h
  exact sl_tupA pins s σ H _ v vl vu lo hi sl Q I rx hs pl pu ⟨a, xs, rfl, SqT.of hx, fun e => q a H (Same.refl _) (by rw [cut_whole e]; exact hx), fun _ p hp => q p _ (same_new hp _) upd_same⟩
def rCatTk : R2 := fun x y H Q => ∃ a b xs ys, x = .ref a ∧ y = .ref b ∧ H a = some (.tup xs) ∧ H b = some (.tup ys) ∧ xs.length + ys.length ≤ sizeLine ∧ ∀ p H', Same H H' → H' p = some (.tup (xs ++ ys)) → Q (.ref p) H'
theorem op_catTk {X : Cx} : OpR X (binaryOp .Add) rCatTk := by
  intro pins s σ H x y v u Q I rx ry h
  obtain ⟨a, b, xs, ys, rfl, rfl, ha, hb, hl, q⟩ := h
  refine op_catA pins s σ H _ _ v u Q I rx ry ⟨a, b, xs, ys, rfl, rfl, SqT.of ha, SqT.of hb, hl, fun e => ?_, fun _ e => ?_, fun _ _ p hp => ?_⟩
  · subst e
    exact q b H (Same.refl _) hb
  · subst e
    exact q a H (Same.refl _) (by rw [List.append_nil]; exact ha)
  · exact q p _ (same_new hp _) upd_same
/-! ### tracked tuples: slices, sums, turned about; repr of any data -/
section
variable {prog : Program} {w : World} {A : Around} {E : Value → Shared → Prop} {s : Shared}
theorem pick_rev (xs : Array Value) : ((List.range xs.size).filterMap fun (m : Nat) => xs[(((xs.size : Int) - 1) + (m : Int) * (-1)).toNat]?).toArray = xs.toList.reverse.toArray := by
  have e : ((List.range xs.size).filterMap fun (m : Nat) => xs[(((xs.size : Int) - 1) + (m : Int) * (-1)).toNat]?) = ((List.range xs.size).map fun k => xs.size - 1 - k).filterMap (xs[·]?) := by
    have gen : ∀ (l : List Nat) (F G : Nat → Option Value), (∀ m ∈ l, F m = G m) → l.filterMap F = l.filterMap G := fun l => by
      induction l with
      | nil => exact fun _ _ _ => rfl
      | cons m l ih =>
        intro F G h
        rw [List.filterMap_cons, List.filterMap_cons, h m List.mem_cons_self, ih F G fun k hk => h k (List.mem_cons_of_mem _ hk)]
    rw [List.filterMap_map]
    refine gen _ _ _ fun m hm => ?_
    have hm := List.mem_range.mp hm
    have e1 : (((xs.size : Int) - 1) + (m : Int) * (-1)).toNat = xs.size - 1 - m := by omega
    rw [e1]
    rfl
  rw [e, PySem.W.krv_range, List.filterMap_reverse, PySem.W.krv_all]
theorem sliceApplied_rev {sl : Addr} {vl vu vs : Value} {n : Nat} {Q : Int × Int × Nat → Shared → Prop} (hs : s.heap.IsSliceOf sl vl vu vs) (pl : IsPart vl none) (pu : IsPart vu none) (ps : IsPart vs (some (-1)))
    (h : Q ((n : Int) - 1, -1, n) s) : wpAny (model prog w) A (Builtin.Slice.sliceApplied (.ref sl) (pure (n : Int))) Q E s := by
  obtain ⟨os, hos, hcs, hds⟩ := id hs
  unfold Builtin.Slice.sliceApplied Builtin.Slice.sliceFields
  refine wpAny_bind (wpAny_bind (wpAny_field hos hds (x := vl) rfl (wpAny_bind (wpAny_field hos hds (x := vu) rfl (wpAny_bind (wpAny_field hos hds (x := vs) rfl (wpAny_pure ?_)))))))
  refine wpAny_bind (HT.slicePart_ ps ?_)
  show wpAny _ _ (if ((-1 : Int) == 0) = true then _ else _) _ _ s
  rw [if_neg (by decide)]
  refine wpAny_bind (HT.slicePart_ pl (wpAny_bind (HT.slicePart_ pu (wpAny_bind (wpAny_pure ?_)))))
  show wpAny _ _ (pure ((n : Int) - 1, (-1 : Int), Builtin.Slice.slicePlaces ((n : Int) - 1) (-1) (-1))) _ _ s
  have e : Builtin.Slice.slicePlaces ((n : Int) - 1) (-1) (-1) = n := by
    unfold Builtin.Slice.slicePlaces
    have h1 : ¬ ((-1 : Int) > 0) := by decide
    have e1 : (- -1 : Int) = 1 := by decide
    simp only [h1, if_false, e1, Int.ediv_one]
    split <;> omega
  rw [e]
  exact wpAny_pure h
theorem getItem_tuple_rev {t sl : Addr} {items : Array Value} {vl vu vs : Value} {Q : Value → Shared → Prop} (ht : IsTup s.heap t items) (hs : s.heap.IsSliceOf sl vl vu vs) (pl : IsPart vl none) (pu : IsPart vu none) (ps : IsPart vs (some (-1)))
    (h : Q (.ref s.heap.objs.size) { s with heap := s.heap.push { cls := .type "tuple", data := .seq items.toList.reverse.toArray } })
    (hsz : items.size ≤ sizeLine) : wpAny (model prog w) A (getItem (.ref t) (.ref sl)) Q E s := by
  have htake : sizeOk (.seq items.toList.reverse.toArray) := by
    show items.toList.reverse.toArray.size ≤ sizeLine
    rw [List.size_toArray, List.length_reverse, Array.length_toList]
    exact hsz
  obtain ⟨os, hos, hcs, hds⟩ := id hs
  have hTs : s.TypeIs (.ref sl) "slice" := ⟨os, hos, hcs⟩
  unfold getItem
  try with_reducible refine wpAny_holding ?_
  first | refine wpAny_bind (wpAny_pure ?_) | skip
  refine wpAny_bind (wpAny_sequenceKey ht.typeIs (by decide) ?_)
  refine wpAny_bind (wpAny_callSpecial?_slot (name := Str.ofString "__getitem__") ht.typeIs PyProof.Rows.slot_tuple_getitem
    (wpAny_call_entry PyProof.Rows.slot_tuple_getitem ht.typeIs entry_tuple_getitem ?_ (args_tuple_getitem _ _)))
  show wpAny _ _ (Builtin.Tuple.tupleItemsOf (.ref t) >>= _) _ _ s
  refine wpAny_bind (tupleItemsOf_ ht ?_)
  refine wpAny_bind (wpAny_typeOf hTs ?_)
  rw [if_pos (by decide)]
  refine wpAny_bind (sliceApplied_rev hs pl pu ps ?_)
  have hno : ¬ ((((items.size : Int) - 1) == 0 && (-1 : Int) == 1 && items.size == items.size) = true) := by
    intro q
    rw [Bool.and_eq_true, Bool.and_eq_true] at q
    exact absurd q.1.2 (by decide)
  show wpAny _ _ (if (((items.size : Int) - 1) == 0 && (-1 : Int) == 1 && items.size == items.size) = true then _ else _) _ _ s
  rw [if_neg hno, pick_rev]
  first
    | exact wpAny_bind (m := Builtin.Tuple.tupleExact _) (wpAny_newObj_type (wpAny_pure ⟨_, rfl, wpAny_pure h⟩) htake)
    | exact wpAny_bind (m := Builtin.Tuple.tupleExact _) (wpAny_newObj_type (wpAny_bind (wpAny_pure (wpAny_pure ⟨_, rfl, wpAny_pure h⟩))) htake)
    | exact wpAny_bind (wpAny_bind (m := Builtin.Tuple.tupleExact _) (wpAny_newObj_type (wpAny_pure (wpAny_pure ⟨_, rfl, wpAny_pure h⟩)) htake))
    | exact wpAny_bind (wpAny_bind (m := Builtin.Tuple.tupleExact _) (wpAny_newObj_type (wpAny_pure ⟨_, rfl, wpAny_pure h⟩) htake))
end
/-- t[::-1] of a tuple -/
def tRevT (K : PySem.W.Frag) (te : TE) : TE := fun σ H Q => te σ H fun x H1 => ∃ a xs, x = .ref a ∧ SqT K H1 a xs ∧ ∀ p, H1 p = none → Q (.ref p) (upd H1 p (.tup xs.reverse))
theorem pe_revT {X : Cx} {e : Expr} {te : TE} {k : Nat} {p1 p2 p3 pos : Pos} (he : PE X e te) : PE X (.Subscript e (.Slice none none (some (.UnaryOp .USub (.Constant (.int 1) k p1) p2)) p3) pos) (tRevT X.K te) := by
  refine ⟨fun pins s σ H Q I h => ?_⟩
  refine Subscript_ (thn (he.run pins s σ H _ I h) fun v s1 ⟨x, H1, I1, r1, q1⟩ => ?_)
  obtain ⟨a, xs, ex, hx, q⟩ := q1
  subst ex
  cases r1
  have hst : PO X (some (.UnaryOp .USub (.Constant (.int 1) k p1) p2)) (tPart (tUn (rU fun i => .int (-i)) (tC (.int 1)))) := po_some (pe_un un_neg pe_int)
  refine wpAny_Slice (thn (po_none.run pins s1 σ H1 (fun o H2 => o = none ∧ H2 = H1) I1 ⟨rfl, rfl⟩) fun vl s2 ⟨l, H2, I2, pl, el, e2⟩ => ?_)
  subst el e2
  refine thn (po_none.run pins s2 σ H2 (fun o H3 => o = none ∧ H3 = H2) I2 ⟨rfl, rfl⟩) fun vu s3 ⟨u, H3, I3, pu, eu, e3⟩ => ?_
  subst eu e3
  refine thn (hst.run pins s3 σ H3 (fun o H4 => o = some (-1) ∧ H4 = H3) I3 ⟨1, rfl, -1, rfl, rfl, rfl⟩) fun vs s4 ⟨o, H4, I4, ps, eo, e4⟩ => ?_
  subst eo e4
  have I5 : Inv X pins σ H4 { s4 with heap := s4.heap.push { cls := .type "slice", data := .fields #[vl, vu, vs] } } := I4.kept (t' := s4.toks) fun b ob q => Heap.get?_push_of_some _ q
  obtain ⟨its, r, ht, hz⟩ := I5.tuple hx
  have hlen : its.toArray.size = xs.length := by rw [List.size_toArray]; exact r.length.symm
  show wpAny (model X.prog X.w) X.A (subscriptTail e (.Slice none none (some (.UnaryOp .USub (.Constant (.int 1) k p1) p2)) p3) (.ref a) (.ref s4.heap.objs.size)) (EP X pins σ Q) X.xe { s4 with heap := s4.heap.push { cls := .type "slice", data := .fields #[vl, vu, vs] } }
  refine tail_any (ops := [.ref a, .ref s4.heap.objs.size]) ht.typeIs (PyProof.Rows.slot_tuple_getitem.lookup) ?_ (by with_unfolding_all rfl)
  refine getItem_tuple_rev ht (Heap.IsSliceOf.new _ vl vu vs) pl pu ps ?_ (by rw [hlen]; exact hz)
  refine ⟨.ref _, _, I5.laid (t' := s4.toks) (o := .tup xs.reverse) (fun b ob q => Heap.get?_push_of_some _ q) (Nat.le_refl _) ?_, rfl, q _ (I5.hok.fresh (Nat.le_refl _))⟩
  exact ⟨by rw [List.length_reverse]; exact hz, _, r.reverse, IsTup.new _ _⟩
/-- repr of any data -/
def rReprD (K : PySem.W.Frag) : List V → Hp → VK → Prop := fun xs H Q => ∃ (v : V) (d : PyData), xs = [v] ∧ Dp K H v d ∧ d.showable = true ∧ d.hasDict = false ∧ d.depth ≤ 60 ∧ d.shown.length ≤ sizeLine ∧ Q (.str d.shown) H
theorem cr_reprD {X : Cx} {k : Nat} (hg : X.A.guards = some []) (hr : Room k X.A) : CallR X (.builtin "repr") (rReprD X.K) := by
  intro pins s σ H vs us Q I r h
  obtain ⟨v, d, rfl, hd, h1, h2, h3, h4, q⟩ := h
  cases hd with
  | non =>
    obtain ⟨u, rfl, ru⟩ := vals1 r
    cases ru
    exact PySem.P.repr_of_none ⟨.str _, H, I.tok _, ⟨_, rfl⟩, q⟩
  | bl b =>
    obtain ⟨u, rfl, ru⟩ := vals1 r
    cases ru
    refine PySem.P.repr_of_bool ⟨.str _, H, I.tok _, ⟨_, rfl⟩, ?_⟩
    cases b <;> exact q
  | int i =>
    obtain ⟨u, rfl, t, rfl⟩ := vals1 r
    exact PySem.P.repr_of_int (of_decide_eq_true h1) ⟨.str _, H, I.tok _, ⟨_, rfl⟩, q⟩
  | str x =>
    obtain ⟨u, rfl, t, rfl⟩ := vals1 r
    exact PySem.P.repr_of_str ⟨.str _, H, I.tok _, ⟨_, rfl⟩, q⟩ h4
  | lst a b => exact cr_repr hg hr pins s σ H _ us Q I r ⟨_, _, rfl, .lst a b, h1, h2, h3, h4, q⟩
  | tup a b => exact cr_repr hg hr pins s σ H _ us Q I r ⟨_, _, rfl, .tup a b, h1, h2, h3, h4, q⟩
/-! ### data that does not lie in the feed -/
mutual
inductive Dn (N : Addr → Prop) (H : Hp) : V → PyData → Prop
  | non : Dn N H .non .none
  | bl (b : Bool) : Dn N H (.bl b) (.bool b)
  | int (i : Int) : Dn N H (.int i) (.int i)
  | str (x : Str) : Dn N H (.str x) (.str x)
  | lst {a : Addr} {xs : List V} {ds : List PyData} : N a → H a = some (.lst xs) → DnAll N H xs ds → Dn N H (.ref a) (.list ds)
  | tup {a : Addr} {xs : List V} {ds : List PyData} : H a = some (.tup xs) → DnAll N H xs ds → Dn N H (.ref a) (.tuple ds)
inductive DnAll (N : Addr → Prop) (H : Hp) : List V → List PyData → Prop
  | nil : DnAll N H [] []
  | cons {v : V} {vs : List V} {d : PyData} {ds : List PyData} : Dn N H v d → DnAll N H vs ds → DnAll N H (v :: vs) (d :: ds)
end
mutual
theorem Dn.dp {K : PySem.W.Frag} {N : Addr → Prop} {H : Hp} : ∀ {v : V} {d : PyData}, Dn N H v d → Dp K H v d
  | _, _, .non => .non
  | _, _, .bl b => .bl b
  | _, _, .int i => .int i
  | _, _, .str x => .str x
  | _, _, .lst _ h a => .lst (SqL.of h) (DnAll.dp a)
  | _, _, .tup h a => .tup (SqT.of h) (DnAll.dp a)
theorem DnAll.dp {K : PySem.W.Frag} {N : Addr → Prop} {H : Hp} : ∀ {vs : List V} {ds : List PyData}, DnAll N H vs ds → DpAll K H vs ds
  | _, _, .nil => .nil
  | _, _, .cons a b => .cons (Dn.dp a) (DnAll.dp b)
end
mutual
theorem Dn.stay {N : Addr → Prop} {H H' : Hp} (k : ∀ a xs, N a → H a = some (.lst xs) → H' a = some (.lst xs)) (k2 : ∀ a xs, H a = some (.tup xs) → H' a = some (.tup xs)) : ∀ {v : V} {d : PyData}, Dn N H v d → Dn N H' v d
  | _, _, .non => .non
  | _, _, .bl b => .bl b
  | _, _, .int i => .int i
  | _, _, .str x => .str x
  | _, _, .lst n h a => .lst n (k _ _ n h) (DnAll.stay k k2 a)
  | _, _, .tup h a => .tup (k2 _ _ h) (DnAll.stay k k2 a)
theorem DnAll.stay {N : Addr → Prop} {H H' : Hp} (k : ∀ a xs, N a → H a = some (.lst xs) → H' a = some (.lst xs)) (k2 : ∀ a xs, H a = some (.tup xs) → H' a = some (.tup xs)) : ∀ {vs : List V} {ds : List PyData}, DnAll N H vs ds → DnAll N H' vs ds
  | _, _, .nil => .nil
  | _, _, .cons a b => .cons (Dn.stay k k2 a) (DnAll.stay k k2 b)
end
theorem Dn.same {N : Addr → Prop} {H H' : Hp} (s : Same H H') {v : V} {d : PyData} (h : Dn N H v d) : Dn N H' v d := h.stay (fun _ _ _ e => s _ _ e) fun _ _ e => s _ _ e
theorem DnAll.same {N : Addr → Prop} {H H' : Hp} (s : Same H H') {v : List V} {d : List PyData} (h : DnAll N H v d) : DnAll N H' v d := h.stay (fun _ _ _ e => s _ _ e) fun _ _ e => s _ _ e
theorem Dn.but {f c : Addr} {N : Addr → Prop} {n : Int} {H H' : Hp} (nf : ∀ a, N a → a ≠ f) (b : But f H H') (hf : Fd H f c n) {v : V} {d : PyData} (h : Dn N H v d) : Dn N H' v d := by
  obtain ⟨zs, hz⟩ := hf.at
  exact h.stay (fun a xs n e => b a _ (nf a n) e) fun a xs e => b a _ (ne_of e hz fun z => nomatch z) e
mutual
theorem Dn.imp {N M : Addr → Prop} {H : Hp} (k : ∀ a, N a → M a) : ∀ {v : V} {d : PyData}, Dn N H v d → Dn M H v d
  | _, _, .non => .non
  | _, _, .bl b => .bl b
  | _, _, .int i => .int i
  | _, _, .str x => .str x
  | _, _, .lst n h a => .lst (k _ n) h (DnAll.imp k a)
  | _, _, .tup h a => .tup h (DnAll.imp k a)
theorem DnAll.imp {N M : Addr → Prop} {H : Hp} (k : ∀ a, N a → M a) : ∀ {vs : List V} {ds : List PyData}, DnAll N H vs ds → DnAll M H vs ds
  | _, _, .nil => .nil
  | _, _, .cons a b => .cons (Dn.imp k a) (DnAll.imp k b)
end
/-- a list that is none of its own changed -/
theorem Dn.mut {N : Addr → Prop} {H : Hp} {W : Addr} {xs : List V} {o : HO} (nW : ∀ a, N a → a ≠ W) (hW : H W = some (.lst xs)) {v : V} {d : PyData} (h : Dn N H v d) : Dn N (upd H W o) v d :=
  h.stay (fun a _ n e => (upd_ne (nW a n)).trans e) fun a _ e => (upd_ne (ne_of e hW fun z => nomatch z)).trans e
/-- how big data is -/
structure Okd (n c : Nat) (d : PyData) : Prop where
  fine : fineD d = true
  plain : d.plain = true
  dep : d.depth ≤ n
  cost : cost d ≤ c
theorem Okd.mono {n m c e : Nat} {d : PyData} (h : Okd n c d) (h1 : n ≤ m) (h2 : c ≤ e) : Okd m e d := ⟨h.fine, h.plain, Nat.le_trans h.dep h1, Nat.le_trans h.cost h2⟩
theorem okd_str {x : Str} (h : NmOk x) : Okd 1 90 (.str x) := by
  obtain ⟨h1, h2⟩ := nm_fine h
  exact ⟨h1, rfl, by simp [PyData.depth], by omega⟩
theorem okd_non : Okd 1 90 .none := ⟨rfl, rfl, by simp [PyData.depth], by decide⟩
theorem okd_bool (b : Bool) : Okd 1 90 (.bool b) := ⟨rfl, rfl, by simp [PyData.depth], (show 5 ≤ 90 by decide)⟩
theorem okd_int {i : Int} (h0 : -1000000000000 ≤ i) (h1 : i ≤ 1000000000000) : Okd 1 2000 (.int i) := ⟨int_fine h0 h1, rfl, by simp [PyData.depth], Nat.le_refl _⟩
theorem okd_all {n c : Nat} : ∀ {ds : List PyData}, (∀ d ∈ ds, Okd n c d) → fineAll ds = true ∧ PyData.plainAll ds = true ∧ PyData.depthAll ds ≤ n ∧ costAll ds ≤ (c + 2) * ds.length
  | [], _ => ⟨rfl, rfl, by simp [PyData.depthAll], Nat.zero_le _⟩
  | d :: ds, h => by
    obtain ⟨a1, a2, a3, a4⟩ := okd_all fun e he => h e (List.mem_cons_of_mem _ he)
    have b := h d List.mem_cons_self
    refine ⟨?_, ?_, ?_, ?_⟩
    · unfold fineAll
      rw [b.fine, a1]
      rfl
    · simp only [PyData.plainAll, b.plain, a2, Bool.and_self]
    · simp only [PyData.depthAll]
      exact Nat.max_le.mpr ⟨b.dep, a3⟩
    · have z := b.cost
      show Pn.cost d + 2 + costAll ds ≤ (c + 2) * (ds.length + 1)
      rw [Nat.mul_add, Nat.mul_one]
      omega
theorem okd_tup {n c : Nat} {ds : List PyData} (h : ∀ d ∈ ds, Okd n c d) : Okd (n + 1) ((c + 2) * ds.length + 3) (.tuple ds) := by
  obtain ⟨a1, a2, a3, a4⟩ := okd_all h
  exact ⟨a1, a2, by simp only [PyData.depth]; omega, (show costAll ds + 3 ≤ _ by omega)⟩
theorem okd_lst {n c : Nat} {ds : List PyData} (h : ∀ d ∈ ds, Okd n c d) : Okd (n + 1) ((c + 2) * ds.length + 3) (.list ds) := by
  obtain ⟨a1, a2, a3, a4⟩ := okd_all h
  exact ⟨a1, a2, by simp only [PyData.depth]; omega, (show costAll ds + 3 ≤ _ by omega)⟩
theorem Okd.show {n c : Nat} {d : PyData} (h : Okd n c d) (hn : n ≤ 60) (hc : c ≤ 10000000) : d.showable = true ∧ d.hasDict = false ∧ d.depth ≤ 60 ∧ d.shown.length ≤ sizeLine := by
  obtain ⟨a, b⟩ := fine_show _ h.fine
  exact ⟨a, b, Nat.le_trans h.dep hn, Nat.le_trans (shown_cost _ h.fine) (Nat.le_trans h.cost (Nat.le_trans hc (by decide)))⟩
theorem dn_all {N : Addr → Prop} {H : Hp} {n c : Nat} : ∀ {xs : List V}, (∀ v ∈ xs, ∃ d, Dn N H v d ∧ Okd n c d) → ∃ ds, DnAll N H xs ds ∧ ∀ d ∈ ds, Okd n c d
  | [], _ => ⟨[], .nil, fun _ z => nomatch z⟩
  | v :: xs, h => by
    obtain ⟨d, d1, d2⟩ := h v List.mem_cons_self
    obtain ⟨ds, e1, e2⟩ := dn_all fun u hu => h u (List.mem_cons_of_mem _ hu)
    exact ⟨d :: ds, .cons d1 e1, fun z hz => (List.mem_cons.mp hz).elim (fun k => k ▸ d2) (e2 z)⟩
theorem DnAll.len {N : Addr → Prop} {H : Hp} : ∀ {xs : List V} {ds : List PyData}, DnAll N H xs ds → xs.length = ds.length
  | _, _, .nil => rfl
  | _, _, .cons _ b => congrArg (· + 1) (DnAll.len b)
theorem plain_of {ds : List PyData} (h : PyData.plainAll ds = true) : ∀ d ∈ ds, d.plain = true := by
  induction ds with
  | nil => exact fun _ z => nomatch z
  | cons d ds ih =>
    simp only [PyData.plainAll, Bool.and_eq_true] at h
    exact fun e he => (List.mem_cons.mp he).elim (fun z => z ▸ h.1) (ih h.2 e)
theorem depth_of {ds : List PyData} {n : Nat} (h : PyData.depthAll ds ≤ n) : ∀ d ∈ ds, d.depth ≤ n := by
  induction ds with
  | nil => exact fun _ z => nomatch z
  | cons d ds ih =>
    simp only [PyData.depthAll] at h
    exact fun e he => (List.mem_cons.mp he).elim (fun z => z ▸ Nat.le_trans (Nat.le_max_left _ _) h) (ih (Nat.le_trans (Nat.le_max_right _ _) h) e)
theorem op_notinTP {X : Cx} {k : Nat} (hr : Room k X.A) : OpR X (compareOp .NotIn) (rInP X.K true false) := by
  intro pins s σ H x y v u Q I rx ry h
  obtain ⟨d, ds, hd, he, p1, p2, dep, q⟩ := h
  have un := hr.un
  obtain ⟨as, r1⟩ := Dp.reads I d x v hd rx
  obtain ⟨bs, r2⟩ := Dp.reads I _ y u he ry
  rw [Bool.true_xor] at q
  exact PySem.SeqAt.notIn_tuple_data r2 r1 p2 p1 (by omega) ⟨.bl _, H, I, rfl, q⟩
/-! ### k38: a thing bent, what is due, what is said -/
def spBent : Sp := fun vs H Q _ => ∃ (f c t : Addr) (n : Int) (ys : List Str), vs = [.ref f, .ref t] ∧ Fd H f c n ∧ n ≤ 900000 ∧ H t = some (.tup (ys.map V.str)) ∧ ys.length ≤ 33 ∧ (∀ y ∈ ys, NmOk y) ∧
  ∀ (x : V) (d : PyData) (H' : Hp), Fd H' f c (n + 10) → But f H H' → Dn (fun a => H a = none) H' x d → Okd 5 1000000 d → (∀ ds, d = .tuple ds → ds.length ≤ 100) → Q x H'
theorem els_strs {N : Addr → Prop} {H : Hp} {ys : List Str} (h : ∀ y ∈ ys, NmOk y) : ∀ v ∈ ys.map V.str, ∃ d, Dn N H v d ∧ Okd 3 5000 d := fun v hv => by
  obtain ⟨y, hy, rfl⟩ := List.mem_map.mp hv
  exact ⟨_, .str y, (okd_str (h y hy)).mono (by decide) (by decide)⟩
theorem tup_okd {N : Addr → Prop} {H : Hp} {t : Addr} {xs : List V} (ht : H t = some (.tup xs)) (hl : xs.length ≤ 100) (h : ∀ v ∈ xs, ∃ d, Dn N H v d ∧ Okd 3 5000 d) : ∃ d, Dn N H (.ref t) d ∧ Okd 5 1000000 d ∧ ∀ ds, d = .tuple ds → ds.length ≤ 100 := by
  obtain ⟨ds, h1, h2⟩ := dn_all h
  have l := h1.len
  refine ⟨_, .tup ht h1, (okd_tup h2).mono (by decide) ?_, fun es e => ?_⟩
  · have : (5000 + 2) * ds.length ≤ (5000 + 2) * 100 := Nat.mul_le_mul_left _ (by omega)
    omega
  · injection e with e
    subst e
    omega
def oddL (p : Addr) : List V := [.str (("zzz" : String) : Str), .int 7, .non, .ref p, .bl true, .str (("" : String) : Str), .str (("None" : String) : Str)]
theorem odd_ok {N : Addr → Prop} {p : Addr} {H : Hp} (hp : H p = some (.tup [.str (("a" : String) : Str)])) : ∀ v ∈ oddL p, ∃ d, Dn N H v d ∧ Okd 3 5000 d := fun v hv => by
  have n1 : NmOk (("zzz" : String) : Str) := ⟨by decide +kernel, by decide +kernel⟩
  have n2 : NmOk (("" : String) : Str) := ⟨by decide +kernel, by decide +kernel⟩
  have n3 : NmOk (("None" : String) : Str) := ⟨by decide +kernel, by decide +kernel⟩
  have n4 : NmOk (("a" : String) : Str) := ⟨by decide +kernel, by decide +kernel⟩
  simp only [oddL, List.mem_cons, List.not_mem_nil, or_false] at hv
  rcases hv with rfl | rfl | rfl | rfl | rfl | rfl | rfl
  · exact ⟨_, .str _, (okd_str n1).mono (by decide) (by decide)⟩
  · exact ⟨_, .int _, (okd_int (by decide) (by decide)).mono (by decide) (by decide)⟩
  · exact ⟨_, .non, okd_non.mono (by decide) (by decide)⟩
  · refine ⟨_, .tup hp (.cons (.str _) .nil), (okd_tup (n := 1) (c := 90) fun d hd => ?_).mono (by decide) (by decide)⟩
    rw [List.mem_singleton.mp hd]
    exact okd_str n4
  · exact ⟨_, .bl _, (okd_bool _).mono (by decide) (by decide)⟩
  · exact ⟨_, .str _, (okd_str n2).mono (by decide) (by decide)⟩
  · exact ⟨_, .str _, (okd_str n3).mono (by decide) (by decide)⟩
theorem atI_some {xs : List V} {i : Int} (h0 : 0 ≤ i) (h1 : i < xs.length) : ∃ v, atI xs i = some v ∧ v ∈ xs := by
  obtain ⟨k, rfl⟩ : ∃ k : Nat, i = k := ⟨i.toNat, by omega⟩
  have hk : k < xs.length := by omega
  exact ⟨xs[k], atI_nat (List.getElem?_eq_getElem hk), List.getElem_mem hk⟩
def NotTup (d : PyData) : Prop := ∀ ds, d ≠ .tuple ds
def VerdA (E : List Ed) (x y : Str) (d : PyData) (w : Str) (k : Int) : Prop := (∃ ds, d = .tuple ds ∧ VerdT E x y ds w k) ∨ (NotTup d ∧ w = ("shape" : String) ∧ k = -1)
def DueD (E : List Ed) (x y : Str) (d r : PyData) : Prop := (∃ w k, VerdA E x y d w k ∧ r = .list [.str w, .int k]) ∨ ∃ ys : List Str, d = .tuple (ys.map .str) ∧ GoodT E (ys.map .str) ∧ verd E x y ys = none ∧ r = .tuple [.str (("told" : String) : Str), .str (("True" : String) : Str)]
theorem verdT_uniq {E : List Ed} {x y : Str} {ds : List PyData} {w w' : Str} {k k' : Int} (h : VerdT E x y ds w k) (h' : VerdT E x y ds w' k') : w = w' ∧ k = k' := by
  rcases h with ⟨a, rfl, rfl⟩ | ⟨ys, rfl, a, b⟩
  · rcases h' with ⟨_, rfl, rfl⟩ | ⟨_, _, c, _⟩
    · exact ⟨rfl, rfl⟩
    · exact absurd c a
  · rcases h' with ⟨c, _⟩ | ⟨zs, e, c, d⟩
    · exact absurd a c
    · rw [strs_inj e] at b
      rw [b] at d
      cases d
      exact ⟨rfl, rfl⟩
theorem due_uniq {E : List Ed} {x y : Str} {d r r' : PyData} (h : DueD E x y d r) (h' : DueD E x y d r') : r = r' := by
  rcases h with ⟨w, k, h, rfl⟩ | ⟨ys, rfl, gy, vy, rfl⟩
  · rcases h' with ⟨w', k', h', rfl⟩ | ⟨ys, rfl, gy, vy, rfl⟩
    · rcases h with ⟨ds, rfl, h⟩ | ⟨n, rfl, rfl⟩
      · rcases h' with ⟨ds', e, h'⟩ | ⟨n, _⟩
        · injection e with e
          subst e
          obtain ⟨rfl, rfl⟩ := verdT_uniq h h'
          rfl
        · exact absurd rfl (n _)
      · rcases h' with ⟨ds', rfl, h'⟩ | ⟨_, rfl, rfl⟩
        · exact absurd rfl (n _)
        · rfl
    · rcases h with ⟨ds, e, h⟩ | ⟨n, _⟩
      · injection e with e
        subst e
        rcases h with ⟨a, _⟩ | ⟨zs, e, _, b⟩
        · exact absurd gy a
        · rw [strs_inj e, b] at vy
          cases vy
      · exact absurd rfl (n _)
  · rcases h' with ⟨w', k', h', rfl⟩ | ⟨_, _, _, _, rfl⟩
    · rcases h' with ⟨ds, e, h⟩ | ⟨n, _⟩
      · injection e with e
        subst e
        rcases h with ⟨a, _⟩ | ⟨zs, e, _, b⟩
        · exact absurd gy a
        · rw [strs_inj e, b] at vy
          cases vy
      · exact absurd rfl (n _)
    · rfl
def spDueK : Sp := fun vs H Q _ => ∃ (g : Addr → Prop) (o P0 : Addr) (x y : Str) (v : V) (d : PyData) (ws : List Wt) (E : List Ed) (pl : List Str), vs = [.ref o, .ref P0, .str x, .str y, v] ∧ OfAt H o ws E ∧ OfOk ws E ∧ H P0 = some (.lst (pl.map V.str)) ∧ pl.Pairwise sl ∧ (∀ y, y ∈ pl ↔ plc E y) ∧ pl.length ≤ 33 ∧
  Dn g H v d ∧ Okd 5 1000000 d ∧ (∀ ds, d = .tuple ds → ds.length ≤ 100) ∧ ∀ (u : V) (r : PyData) (H' : Hp), Same H H' → DueD E x y d r → Dn (fun a => H a = none) H' u r → Okd 2 5000 r → Q u H'
theorem Dn.cases {g : Addr → Prop} {H : Hp} {v : V} {d : PyData} (h : Dn g H v d) : (∃ t xs ds, v = .ref t ∧ d = .tuple ds ∧ H t = some (.tup xs) ∧ DnAll g H xs ds) ∨ NotTup d := by
  cases h with
  | non => exact .inr fun _ e => nomatch e
  | bl b => exact .inr fun _ e => nomatch e
  | int i => exact .inr fun _ e => nomatch e
  | str x => exact .inr fun _ e => nomatch e
  | lst n h a => exact .inr fun _ e => nomatch e
  | tup h a => exact .inl ⟨_, _, _, rfl, rfl, h, a⟩
theorem noTup_of {K : PySem.W.Frag} {H : Hp} {v : V} {d : PyData} (h : Dp K H v d) (n : NotTup d) : NoTup K H v := by
  refine ⟨_, ty_of h, ?_⟩
  cases h with
  | non => exact k_NoneType_tuple
  | bl b => exact k_bool_tuple
  | int i => exact k_int_tuple
  | str x => exact k_str_tuple
  | lst h a => exact k_list_tuple
  | tup h a => exact absurd rfl (n _)
theorem eqv_nil (l : List PyData) : PyData.eqv (.list l) (.list []) = decide (l = []) := by
  cases l with
  | nil => rfl
  | cons a l => simp [PyData.eqv, PyData.eqvAll]
theorem okd_verd {w : Str} {k : Int} (hw : NmOk w) (h0 : -1000000 ≤ k) (h1 : k ≤ 1000000) : Okd 2 5000 (.list [.str w, .int k]) := by
  refine (okd_lst (n := 1) (c := 2000) fun d hd => ?_).mono (by decide) (show (2000 + 2) * 2 + 3 ≤ 5000 by decide)
  simp only [List.mem_cons, List.not_mem_nil, or_false] at hd
  rcases hd with rfl | rfl
  · exact (okd_str hw).mono (by decide) (by decide)
  · exact okd_int (by omega) (by omega)
theorem ys_filter {pl ys : List Str} (up : pl.Pairwise sl) (inp : ∀ y ∈ ys, y ∈ pl) : ys = pl.filter (fun s => decide (s ∈ ys)) ↔ ys.Pairwise sl := by
  constructor
  · intro e
    rw [e]
    exact up.sublist List.filter_sublist
  · intro h
    refine ups_same h (up.sublist List.filter_sublist) fun y => ?_
    rw [List.mem_filter, decide_eq_true_eq]
    exact ⟨fun z => ⟨inp y z, z⟩, fun z => z.2⟩
theorem DnAll.get {N : Addr → Prop} {H : Hp} : ∀ {xs : List V} {ds : List PyData} {i : Nat} {x : V}, DnAll N H xs ds → xs[i]? = some x → ∃ d, ds[i]? = some d ∧ Dn N H x d
  | _, _, 0, _, .cons a b, h => by
    cases h
    exact ⟨_, rfl, a⟩
  | _, _, i + 1, _, .cons a b, h => DnAll.get (i := i) b h
theorem DnAll.app {N : Addr → Prop} {H : Hp} : ∀ {xs : List V} {ds : List PyData} {ys : List V} {es : List PyData}, DnAll N H xs ds → DnAll N H ys es → DnAll N H (xs ++ ys) (ds ++ es)
  | _, _, _, _, .nil, h => h
  | _, _, _, _, .cons a b, h => .cons a (DnAll.app b h)
theorem inPl_str (ys : List Str) (s : Str) : ((ys.map PyData.str).any fun z => PyData.eqv z (.str s)) = decide (s ∈ ys) := by
  have z := inPl_iff ys (.str s)
  unfold inPl at z
  rw [Bool.eq_iff_iff, z, decide_eq_true_eq]
  exact ⟨fun ⟨y, h, e⟩ => by injection e with e; rw [e]; exact h, fun h => ⟨s, h, rfl⟩⟩
theorem all_in {pl : List Str} : ∀ {ds : List PyData}, (ds.filter fun d => !inPl pl d) = [] → ∃ ys : List Str, ds = ys.map .str ∧ ∀ y ∈ ys, y ∈ pl
  | [], _ => ⟨[], rfl, fun _ z => nomatch z⟩
  | d :: ds, h => by
    rw [List.filter_cons] at h
    split at h
    · cases h
    · rename_i c
      obtain ⟨ys, rfl, hy⟩ := all_in h
      have c : inPl pl d = true := by simpa using c
      obtain ⟨y, h1, rfl⟩ := (inPl_iff pl d).mp c
      exact ⟨y :: ys, rfl, fun z hz => (List.mem_cons.mp hz).elim (fun e => e ▸ h1) (hy z)⟩
theorem in_all {pl : List Str} : ∀ {ys : List Str}, (∀ y ∈ ys, y ∈ pl) → ((ys.map PyData.str).filter fun d => !inPl pl d) = [] := fun {ys} h => by
  rw [List.filter_eq_nil_iff]
  intro d hd
  obtain ⟨y, hy, rfl⟩ := List.mem_map.mp hd
  have z := (inPl_iff pl (.str y)).mpr ⟨y, h y hy, rfl⟩
  simp [z]
theorem dn_strs {N : Addr → Prop} {H : Hp} : ∀ {xs : List V} {ys : List Str}, DnAll N H xs (ys.map .str) → xs = ys.map V.str
  | [], [], _ => rfl
  | x :: xs, y :: ys, h => by
    rw [List.map_cons] at h
    cases h with
    | cons a b =>
      cases a
      rw [List.map_cons, ← dn_strs b]
theorem filter_take {ds : List PyData} {p : PyData → Bool} {j : Nat} {d : PyData} (h : ds[j]? = some d) : (ds.take (j + 1)).filter p = (ds.take j).filter p ++ (if p d = true then [d] else []) := by
  obtain ⟨hl, e⟩ := List.getElem?_eq_some_iff.mp h
  rw [List.take_succ_eq_append_getElem hl, List.filter_append, e]
  congr 1
  by_cases c : p d = true
  · rw [if_pos c]
    simp [c]
  · rw [if_neg c]
    simp [c]
theorem filter_takeS {ds : List Str} {p : Str → Bool} {j : Nat} {d : Str} (h : ds[j]? = some d) : (ds.take (j + 1)).filter p = (ds.take j).filter p ++ (if p d = true then [d] else []) := by
  obtain ⟨hl, e⟩ := List.getElem?_eq_some_iff.mp h
  rw [List.take_succ_eq_append_getElem hl, List.filter_append, e]
  congr 1
  by_cases c : p d = true
  · rw [if_pos c]
    simp [c]
  · rw [if_neg c]
    simp [c]
def spSaidK (K : PySem.W.Frag) (P1 P2 : Addr) : Sp := fun vs H Q _ => ∃ (g : Addr → Prop) (o : Addr) (x y : Str) (v : V) (d : PyData) (ws : List Wt) (E : List Ed), vs = [.ref o, .str x, .str y, v] ∧ OfAt H o ws E ∧ E.length ≤ 16 ∧
  Dn g H v d ∧ Okd 5 1000000 d ∧ (∀ ds, d = .tuple ds → ds.length ≤ 100) ∧ H P1 = some (TabO P1) ∧ H P2 = some (TabO P2) ∧ ∀ (u : V) (r : PyData) (H' : Hp), Same H H' → DueD E x y d r → Dp K H' u r → Q u H'
/-- one of what is wanted: office, one place, the other, a thing, what is due -/
def Wnt (N : Addr → Prop) (H : Hp) (p : Addr) : Prop := ∃ (o : Addr) (ws : List Wt) (E : List Ed) (x y : Str) (v u : V) (d r : PyData), H p = some (.tup [.ref o, .str x, .str y, v, u]) ∧ OfAt H o ws E ∧ OfOk ws E ∧
  Dn N H v d ∧ Okd 5 1000000 d ∧ (∀ ds, d = .tuple ds → ds.length ≤ 100) ∧ Dn N H u r ∧ DueD E x y d r ∧ Okd 2 5000 r
theorem Wnt.same {N : Addr → Prop} {H H' : Hp} {p : Addr} (s : Same H H') (h : Wnt N H p) : Wnt N H' p := by
  obtain ⟨o, ws, E, x, y, v, u, d, r, h1, h2, h3, h4, h5, h6, h7, h8⟩ := h
  exact ⟨o, ws, E, x, y, v, u, d, r, s _ _ h1, h2.same s, h3, h4.same s, h5, h6, h7.same s, h8⟩
theorem Wnt.but {N : Addr → Prop} {f c : Addr} {n : Int} {H H' : Hp} {p : Addr} (nf : ∀ a, N a → a ≠ f) (hf : Fd H f c n) (b : But f H H') (h : Wnt N H p) : Wnt N H' p := by
  obtain ⟨o, ws, E, x, y, v, u, d, r, h1, h2, h3, h4, h5, h6, h7, h8⟩ := h
  obtain ⟨zs, hz⟩ := hf.at
  exact ⟨o, ws, E, x, y, v, u, d, r, b _ _ (ne_of h1 hz fun z => nomatch z) h1, h2.but hf b, h3, h4.but nf b hf, h5, h6, h7.but nf b hf, h8⟩
theorem Rds.tups {H H' : Hp} (k : ∀ a xs, H a = some (.tup xs) → H' a = some (.tup xs)) : ∀ {ps : List Addr} {rs : List Ed}, Rds H ps rs → Rds H' ps rs
  | _, _, .nil => .nil
  | _, _, .cons a b => .cons (k _ _ a) (Rds.tups k b)
theorem Wts.tups {H H' : Hp} (k : ∀ a xs, H a = some (.tup xs) → H' a = some (.tup xs)) : ∀ {ps : List Addr} {rs : List Wt}, Wts H ps rs → Wts H' ps rs
  | _, _, .nil => .nil
  | _, _, .cons a b => .cons (k _ _ a) (Wts.tups k b)
theorem OfAt.tups {H H' : Hp} {o : Addr} {ws : List Wt} {E : List Ed} (k : ∀ a xs, H a = some (.tup xs) → H' a = some (.tup xs)) (h : OfAt H o ws E) : OfAt H' o ws E := by
  obtain ⟨w', r', wp, rp, ho, hw, hrr, hws, hrd⟩ := h
  exact ⟨w', r', wp, rp, k _ _ ho, k _ _ hw, k _ _ hrr, Wts.tups k hws, Rds.tups k hrd⟩
theorem tups_mut {H : Hp} {W : Addr} {xs : List V} {o : HO} (hW : H W = some (.lst xs)) : ∀ a ys, H a = some (.tup ys) → upd H W o a = some (.tup ys) := fun a ys e => (upd_ne (ne_of e hW fun z => nomatch z)).trans e
theorem Wnt.mut {N : Addr → Prop} {H : Hp} {W p : Addr} {xs : List V} {o : HO} (nW : ∀ a, N a → a ≠ W) (hW : H W = some (.lst xs)) (h : Wnt N H p) : Wnt N (upd H W o) p := by
  obtain ⟨o', ws, E, x, y, v, u, d, r, h1, h2, h3, h4, h5, h6, h7, h8⟩ := h
  exact ⟨o', ws, E, x, y, v, u, d, r, tups_mut hW _ _ h1, h2.tups (tups_mut hW), h3, h4.mut nW hW, h5, h6, h7.mut nW hW, h8⟩
/-! ### labels (k40, k41) -/
theorem Wts.app2 {H : Hp} : ∀ {ps qs : List Addr} {es ts : List Wt}, Wts H ps es → Wts H qs ts → Wts H (ps ++ qs) (es ++ ts)
  | _, _, _, _, .nil, b => b
  | _, _, _, _, .cons a r, b => .cons a (Wts.app2 r b)
theorem Wts.get2 {H : Hp} : ∀ {ps : List Addr} {es : List Wt} {i : Nat} {p : Addr}, Wts H ps es → ps[i]? = some p → ∃ e, es[i]? = some e ∧ H p = some (.tup (wtV e))
  | _, _, 0, _, .cons a _, h => by
    cases h
    exact ⟨_, rfl, a⟩
  | _, _, i + 1, p, .cons _ b, h => Wts.get2 (i := i) (p := p) b h
def labL (pl : List Str) (lab : Str → Int) : List Wt := pl.map fun s => (s, lab s)
def LbAt (H : Hp) (t : Addr) (L : List Wt) : Prop := ∃ (o : Obj) (ps : List Addr), H t = some (.frz o (.tup (ps.map V.ref))) ∧ Tpl o ∧ Wts H ps L
theorem LbAt.same {H H' : Hp} {t : Addr} {L : List Wt} (s : Same H H') (h : LbAt H t L) : LbAt H' t L := by
  obtain ⟨o, ps, h1, h2, h3⟩ := h
  exact ⟨o, ps, s _ _ h1, h2, h3.same s⟩
theorem SqT.frz {K : PySem.W.Frag} {H : Hp} {a : Addr} {o : Obj} {xs : List V} (h : H a = some (.frz o (.tup xs))) : SqT K H a xs := .inl (.inr ⟨o, h⟩)
def labK (L : List Wt) : List (Key × V) := L.map fun e => (Sum.inr e.1, V.int e.2)
theorem wts_pairs {K : PySem.W.Frag} {H : Hp} : ∀ {ps : List Addr} {L : List Wt}, Wts H ps L → Paired (fun p kv => SqT K H p [kV kv.1, kv.2]) ps (labK L)
  | _, _, .nil => .nil
  | _, _, .cons a b => .cons (SqT.of a) (wts_pairs b)
theorem labK_val {pl : List Str} {lab : Str → Int} {s : Str} (h : s ∈ pl) : valV (labK (labL pl lab)) (Sum.inr s) = some (.int (lab s)) := by
  induction pl with
  | nil => exact nomatch h
  | cons x l ih =>
    have e : labK (labL (x :: l) lab) = (Sum.inr x, V.int (lab x)) :: labK (labL l lab) := rfl
    rw [e]
    by_cases c : x = s
    · subst c
      exact valV_pos rfl
    · rw [valV_neg (fun z => c (Sum.inr.inj z))]
      rcases List.mem_cons.mp h with h | h
      · exact (c h.symm).elim
      · exact ih h
theorem lab_dict {pl : List Str} {lab : Str → Int} {s : Str} (up : pl.Pairwise sl) (h : s ∈ pl) : valV (mergeK [] (labK (labL pl lab))) (Sum.inr s) = some (.int (lab s)) := by
  have e : (labK (labL pl lab)).map Prod.fst = pl.map Sum.inr := by
    unfold labK labL
    rw [List.map_map, List.map_map]
    rfl
  have nd : ((labK (labL pl lab)).map Prod.fst).Nodup := by
    rw [e]
    unfold List.Nodup
    rw [List.pairwise_map]
    exact up.imp fun {a b} h z => by
      cases Sum.inr.inj z
      exact sl_irr _ h
  rw [(merge_val nd).1 (by rw [e]; exact List.mem_map.mpr ⟨s, h, rfl⟩)]
  exact labK_val h
def LbOk (E : List Ed) (lab : Str → Int) : Prop := ∀ e ∈ E, lab e.2 ≤ lab e.1 + 1
/-- the labels that labels_of tells -/
def labOf (es : List En) (N : Nat) (s : Str) : Int := (es.find? fun e => decide (e.1 = s)).elim ((N : Int) + 1) fun e => (e.2.length : Int)
theorem labOf_in {es : List En} {N : Nat} {e : En} (nd : (es.map (·.1)).Nodup) (h : e ∈ es) : labOf es N e.1 = e.2.length := by
  unfold labOf
  cases c : es.find? fun f => decide (f.1 = e.1) with
  | none =>
    have z := List.find?_eq_none.mp c e h
    simp at z
  | some f =>
    have z : f.1 = e.1 := by
      have y := List.find?_some c
      simpa using y
    cases fst_inj nd (List.mem_of_find?_eq_some c) h z
    rfl
theorem labOf_out {es : List En} {N : Nat} {s : Str} (h : ∀ e ∈ es, e.1 ≠ s) : labOf es N s = (N : Int) + 1 := by
  unfold labOf
  have c : es.find? (fun f => decide (f.1 = s)) = none := List.find?_eq_none.mpr fun f hf z => h f hf (of_decide_eq_true z)
  rw [c]
  rfl
theorem labOf_ok {E : List Ed} {x : Str} {es : List En} {k N : Nat} (bf : Bfs E x es k) (kl : es.length ≤ k) (short : ∀ e ∈ es, e.2.length ≤ N) : LbOk E (labOf es N) := by
  intro e he
  by_cases a : ∃ f ∈ es, f.1 = e.1
  · obtain ⟨f, f1, f2⟩ := a
    obtain ⟨n, n1, w, _⟩ := bfs_least bf kl f1
    obtain ⟨g, g1, g2, g3⟩ := bfs_end bf kl (n := n + 1) (y := e.2) ⟨f.1, w, by rw [f2]; exact he⟩
    rw [← g2, ← f2, labOf_in bf.nodup g1, labOf_in bf.nodup f1]
    omega
  · rw [labOf_out (s := e.1) fun f hf z => a ⟨f, hf, z⟩]
    by_cases b : ∃ g ∈ es, g.1 = e.2
    · obtain ⟨g, g1, g2⟩ := b
      rw [← g2, labOf_in bf.nodup g1]
      have := short g g1
      omega
    · rw [labOf_out (s := e.2) fun f hf z => b ⟨f, hf, z⟩]
      omega
theorem labOf_size {es : List En} {N : Nat} (short : ∀ e ∈ es, e.2.length ≤ N) (nd : (es.map (·.1)).Nodup) (s : Str) : 0 ≤ labOf es N s ∧ labOf es N s ≤ N + 1 := by
  by_cases b : ∃ g ∈ es, g.1 = s
  · obtain ⟨g, g1, rfl⟩ := b
    rw [labOf_in nd g1]
    have := short g g1
    omega
  · rw [labOf_out fun f hf z => b ⟨f, hf, z⟩]
    omega
def spRowsN : Sp := fun vs H Q _ => ∃ (o : Addr) (x : Str) (ws : List Wt) (E : List Ed), vs = [.ref o, .str x] ∧ OfAt H o ws E ∧ E.length ≤ 16 ∧
  ∀ (r : Addr) (kvs : List (Key × V)) (es : List En) (k : Nat) (H' : Hp), Same H H' → H r = none → H' r = some (.dK kvs) → RwAt H' kvs es → Bfs E x es k → es.length ≤ k → es.length ≤ 17 → (∀ e ∈ es, e.2.length ≤ es.length) → Q (.ref r) H'
def spNumL : Sp := fun vs H Q _ => ∃ n : Int, vs = [.int n] ∧ Q (.bl true) H
def spTupOf : Sp := fun vs H Q _ => ∃ (p : Addr) (xs : List V) (m : Int), vs = [.ref p, .int m] ∧ Rd H p (.tup xs) ∧ (xs.length : Int) = m ∧ Q (.bl true) H
def spIsLb : Sp := fun vs H Q _ => ∃ (p : Addr) (s : Str) (n : Int), vs = [.ref p, .str s] ∧ H p = some (.tup [.str s, .int n]) ∧ ∀ H', Same H H' → Q (.bl true) H'
structure PlOk (E : List Ed) (pl : List Str) : Prop where
  up : pl.Pairwise sl
  mem : ∀ y, y ∈ pl ↔ plc E y
  few : pl.length ≤ 33
def spLbLike (P : Addr) : Sp := fun vs H Q _ => ∃ (o t : Addr) (ws : List Wt) (E : List Ed) (pl : List Str) (lab : Str → Int), vs = [.ref o, .ref t] ∧ OfAt H o ws E ∧ E.length ≤ 16 ∧ LbAt H t (labL pl lab) ∧ PlOk E pl ∧ H P = some (TabO P) ∧ ∀ H', Same H H' → Q (.bl true) H'
def spLetsLb (P : Addr) : Sp := fun vs H Q _ => ∃ (o t : Addr) (x y : Str) (ws : List Wt) (E : List Ed) (pl : List Str) (lab : Str → Int), vs = [.ref o, .str x, .str y, .ref t] ∧ OfAt H o ws E ∧ E.length ≤ 16 ∧ LbAt H t (labL pl lab) ∧ PlOk E pl ∧
  LbOk E lab ∧ x ∈ pl ∧ y ∈ pl ∧ H P = some (TabO P) ∧ ∀ H', Same H H' → Q (.int (lab y - lab x)) H'
def LabV (H : Hp) (E : List Ed) (x y : Str) (v : V) : Prop := (v = .non ∧ ∀ n, ¬ Wlk E n x y) ∨ ∃ (t : Addr) (pl : List Str) (lab : Str → Int) (n : Nat), v = .ref t ∧ LbAt H t (labL pl lab) ∧ PlOk E pl ∧ LbOk E lab ∧ Least E x y n ∧ lab y - lab x = n ∧ n ≤ 40
def spLabOf : Sp := fun vs H Q _ => ∃ (o : Addr) (x y : Str) (ws : List Wt) (E : List Ed), vs = [.ref o, .str x, .str y] ∧ OfAt H o ws E ∧ E.length ≤ 16 ∧ plc E x ∧ ∀ (v : V) (H' : Hp), Same H H' → LabV H' E x y v → Q v H'
def spAreLb : Sp := fun vs H Q _ => ∃ (o l t : Addr) (ws : List Wt) (E : List Ed) (pl : List Str) (lab : Str → Int), vs = [.ref o, .ref l, .ref t] ∧ OfAt H o ws E ∧ E.length ≤ 16 ∧ H l = some (.lst (pl.map V.str)) ∧ LbAt H t (labL pl lab) ∧ PlOk E pl ∧ LbOk E lab ∧ ∀ H', Same H H' → Q (.bl true) H'
def spRightL (P : Addr) : Sp := fun vs H Q _ => ∃ (o : Addr) (ws : List Wt) (E : List Ed), vs = [.ref o] ∧ OfAt H o ws E ∧ OfOk ws E ∧ H P = some (TabO P) ∧ ∀ H', Same H H' → Q (.bl true) H'
/-! ### k40: labels of any kind, judged -/
def isNumD : PyData → Bool
  | .int _ => true
  | _ => false
def tupD (d : PyData) (m : Int) : Bool := match d with
  | .tuple ds => decide (((ds.length : Nat) : Int) = m)
  | _ => false
def isLbD (d : PyData) (s : Str) : Bool := match d with
  | .tuple [a, b] => PyData.eqv a (.str s) && isNumD b
  | _ => false
/-- a thing judged: a tuple known to have no dict, of data; or no tuple -/
def Th (N : Addr → Prop) (H : Hp) (v : V) (d : PyData) : Prop := (∃ (t : Addr) (xs : List V) (ds : List PyData) (o : Obj), v = .ref t ∧ d = .tuple ds ∧ H t = some (.frz o (.tup xs)) ∧ Tpl o ∧ DnAll N H xs ds) ∨ ((∀ ds, d ≠ .tuple ds) ∧ Dn N H v d)
theorem Th.same {N : Addr → Prop} {H H' : Hp} (s : Same H H') {v : V} {d : PyData} (h : Th N H v d) : Th N H' v d := by
  rcases h with ⟨t, xs, ds, o, h1, h2, h3, h4, h5⟩ | ⟨h1, h2⟩
  · exact .inl ⟨t, xs, ds, o, h1, h2, s _ _ h3, h4, h5.same s⟩
  · exact .inr ⟨h1, h2.same s⟩
theorem Th.dp {K : PySem.W.Frag} {N : Addr → Prop} {H : Hp} {v : V} {d : PyData} (h : Th N H v d) : Dp K H v d := by
  rcases h with ⟨t, xs, ds, o, rfl, rfl, h3, h4, h5⟩ | ⟨h1, h2⟩
  · exact .tup (SqT.frz h3) h5.dp
  · exact h2.dp
def spNumM : Sp := fun vs H Q _ => ∃ (v : V) (d : PyData) (N : Addr → Prop), vs = [v] ∧ Dn N H v d ∧ ∀ H', Same H H' → Q (.bl (isNumD d)) H'
def spTupOfM : Sp := fun vs H Q _ => ∃ (v : V) (d : PyData) (N : Addr → Prop) (m : Int), vs = [v, .int m] ∧ (Dn N H v d ∨ Th N H v d) ∧ ∀ H', Same H H' → Q (.bl (tupD d m)) H'
def spIsLbM : Sp := fun vs H Q _ => ∃ (v : V) (d : PyData) (N : Addr → Prop) (s : Str), vs = [v, .str s] ∧ Dn N H v d ∧ d.plain = true ∧ d.depth ≤ 40 ∧ ∀ H', Same H H' → Q (.bl (isLbD d s)) H'
theorem tupD_two {N : Addr → Prop} {H : Hp} {v : V} {d : PyData} (h : Dn N H v d) (c : tupD d 2 = true) : ∃ (t : Addr) (x y : V) (a b : PyData), v = .ref t ∧ H t = some (.tup [x, y]) ∧ d = .tuple [a, b] ∧ Dn N H x a ∧ Dn N H y b := by
  cases h with
  | non => cases c
  | bl b => cases c
  | int i => cases c
  | str x => cases c
  | lst _ _ _ => cases c
  | tup h a =>
    rename_i t xs ds
    have c : (((ds.length : Nat) : Int)) = 2 := of_decide_eq_true c
    have c : ds.length = 2 := by omega
    match ds, a, c with
    | [p, q], .cons h1 (.cons h2 .nil), _ => exact ⟨t, _, _, p, q, rfl, h, rfl, h1, h2⟩
theorem isLbD_no {d : PyData} (s : Str) (c : ¬ tupD d 2 = true) : isLbD d s = false := by
  unfold isLbD
  split
  · exact absurd rfl c
  · rfl
def likeF (pl : List Str) (ds : List PyData) (i : Nat) : Bool := match ds[i]?, pl[i]? with
  | some a, some s => isLbD a s
  | _, _ => true
def likeD (pl : List Str) (d : PyData) : Bool := match d with
  | .tuple ds => decide (((ds.length : Nat) : Int) = ((pl.length : Nat) : Int)) && (((List.range ds.length).filter fun _ => true).all (likeF pl ds))
  | _ => false
def spLikeM (P : Addr) : Sp := fun vs H Q _ => ∃ (o : Addr) (v : V) (ws : List Wt) (E : List Ed) (pl : List Str) (d : PyData) (N : Addr → Prop), vs = [.ref o, v] ∧ OfAt H o ws E ∧ E.length ≤ 16 ∧ PlOk E pl ∧ Th N H v d ∧ d.plain = true ∧ d.depth ≤ 40 ∧ H P = some (TabO P) ∧ ∀ H', Same H H' → Q (.bl (likeD pl d)) H'
theorem tupD_at {N : Addr → Prop} {H : Hp} {v : V} {d : PyData} {m : Int} (h : Th N H v d) (c : tupD d m = true) : ∃ (t : Addr) (xs : List V) (ds : List PyData) (o : Obj), v = .ref t ∧ H t = some (.frz o (.tup xs)) ∧ Tpl o ∧ d = .tuple ds ∧ DnAll N H xs ds ∧ ((ds.length : Nat) : Int) = m := by
  rcases h with ⟨t, xs, ds, o, rfl, rfl, h3, h4, h5⟩ | ⟨h1, _⟩
  · exact ⟨_, _, _, _, rfl, h3, h4, rfl, h5, of_decide_eq_true c⟩
  · cases d with
    | tuple ds => exact absurd rfl (h1 ds)
    | _ => cases c
theorem likeD_no {pl : List Str} {d : PyData} (c : ¬ tupD d ((pl.length : Nat) : Int) = true) : likeD pl d = false := by
  cases d with
  | tuple ds =>
    have c : ¬ ((ds.length : Nat) : Int) = ((pl.length : Nat) : Int) := fun z => c (decide_eq_true z)
    show (decide _ && _) = false
    rw [decide_eq_false c, Bool.false_and]
  | _ => rfl
theorem parts_plain {ds : List PyData} {d : PyData} (h : (PyData.tuple ds).plain = true) (hd : d ∈ ds) : d.plain = true := by
  have z : PyData.plainAll ds = true := h
  induction ds with
  | nil => exact nomatch hd
  | cons x l ih =>
    simp only [PyData.plainAll, Bool.and_eq_true] at z
    rcases List.mem_cons.mp hd with rfl | hd
    · exact z.1
    · exact ih z.2 hd z.2
theorem parts_depth {ds : List PyData} {d : PyData} {n : Nat} (h : (PyData.tuple ds).depth ≤ n) (hd : d ∈ ds) : d.depth ≤ n := by
  have z : PyData.depthAll ds ≤ n := by
    simp only [PyData.depth] at h
    omega
  clear h
  induction ds with
  | nil => exact nomatch hd
  | cons x l ih =>
    simp only [PyData.depthAll] at z
    rcases List.mem_cons.mp hd with rfl | hd
    · omega
    · exact ih hd (by omega)
/-! ### a label that is right in its shape -/
def labD (pl : List Str) (lab : Str → Int) : PyData := .tuple (pl.map fun s => .tuple [.str s, .int (lab s)])
theorem isLbD_yes {d : PyData} {s : Str} (h : isLbD d s = true) : ∃ n : Int, d = .tuple [.str s, .int n] := by
  unfold isLbD at h
  split at h
  · rename_i a b
    rw [Bool.and_eq_true] at h
    obtain ⟨h1, h2⟩ := h
    have e1 : a = .str s := by cases a <;> simp [PyData.eqv] at h1; rw [h1]
    have e2 : ∃ n, b = .int n := by cases b <;> simp [isNumD] at h2; exact ⟨_, rfl⟩
    obtain ⟨n, rfl⟩ := e2
    exact ⟨n, by rw [e1]⟩
  · cases h
def numOf : PyData → Int
  | .tuple [_, .int n] => n
  | _ => 0
theorem like_lab {pl : List Str} {d : PyData} (nd : pl.Nodup) (h : likeD pl d = true) : ∃ lab : Str → Int, d = labD pl lab := by
  cases d with
  | tuple ds =>
    have h : (decide (((ds.length : Nat) : Int) = ((pl.length : Nat) : Int)) && (((List.range ds.length).filter fun _ => true).all (likeF pl ds))) = true := h
    rw [Bool.and_eq_true] at h
    obtain ⟨h1, h2⟩ := h
    have el : ds.length = pl.length := by have := of_decide_eq_true h1; omega
    have at_ : ∀ (i : Nat) (h1 : i < ds.length) (h2' : i < pl.length), isLbD ds[i] pl[i] = true := fun i k1 k2 => by
      have z := List.all_eq_true.mp h2 i (List.mem_filter.mpr ⟨List.mem_range.mpr k1, rfl⟩)
      unfold likeF at z
      rw [List.getElem?_eq_getElem k1, List.getElem?_eq_getElem k2] at z
      exact z
    refine ⟨fun s => (ds[pl.idxOf s]?).elim 0 numOf, ?_⟩
    show PyData.tuple ds = PyData.tuple _
    congr 1
    refine List.ext_getElem (by rw [List.length_map]; exact el) fun i k1 k2 => ?_
    rw [List.getElem_map]
    have k3 : i < pl.length := by omega
    obtain ⟨n, e⟩ := isLbD_yes (at_ i k1 k3)
    have ix : pl.idxOf pl[i] = i := nd.idxOf_getElem i k3
    have f : (ds[pl.idxOf pl[i]]?).elim 0 numOf = numOf ds[i] := by rw [ix, List.getElem?_eq_getElem k1]; rfl
    show ds[i] = PyData.tuple [.str pl[i], .int ((ds[pl.idxOf pl[i]]?).elim 0 numOf)]
    rw [f]
    rw [e]
    rfl
  | _ => cases h
def roadAt (E : List Ed) (lab : Str → Int) : Option Nat := E.findIdx? fun e => decide (lab e.1 + 1 < lab e.2)
def VerdL (E : List Ed) (pl : List Str) (d : PyData) (w : Str) (k : Int) : Prop := (likeD pl d = false ∧ w = ("shape" : String) ∧ k = -1) ∨ ∃ (lab : Str → Int) (i : Nat), d = labD pl lab ∧ roadAt E lab = some i ∧ w = ("road" : String) ∧ k = ((i : Nat) : Int)
theorem road_none {E : List Ed} {lab : Str → Int} {i : Nat} (h : ∀ j : Nat, j < i → ∀ e : Ed, E[j]? = some e → ¬ lab e.1 + 1 < lab e.2) {e : Ed} (he : E[i]? = some e) (c : lab e.1 + 1 < lab e.2) : roadAt E lab = some i := by
  unfold roadAt
  rw [List.findIdx?_eq_some_iff_getElem]
  obtain ⟨hi, ei⟩ := List.getElem?_eq_some_iff.mp he
  refine ⟨hi, by rw [ei]; exact decide_eq_true c, fun j hj => ?_⟩
  have z := h j hj _ (List.getElem?_eq_getElem (by omega))
  simpa using z
theorem road_end {E : List Ed} {lab : Str → Int} (h : ∀ (j : Nat) (e : Ed), E[j]? = some e → ¬ lab e.1 + 1 < lab e.2) : roadAt E lab = none := by
  unfold roadAt
  rw [List.findIdx?_eq_none_iff]
  intro e he
  obtain ⟨j, hj⟩ := List.mem_iff_getElem?.mp he
  exact decide_eq_false (h j e hj)
theorem lab_wts {N : Addr → Prop} {H : Hp} {lab : Str → Int} : ∀ {xs : List V} {pl : List Str}, DnAll N H xs (pl.map fun s => .tuple [.str s, .int (lab s)]) → ∃ ps : List Addr, xs = ps.map V.ref ∧ Wts H ps (labL pl lab)
  | [], [], _ => ⟨[], rfl, .nil⟩
  | [], s :: l, h => nomatch h
  | x :: xs, [], h => nomatch h
  | x :: xs, s :: l, h => by
    rw [List.map_cons] at h
    cases h with
    | cons a b =>
      obtain ⟨ps, rfl, w⟩ := lab_wts b
      cases a with
      | tup ht c =>
        rename_i t ys
        match ys, c with
        | [_, _], .cons (.str _) (.cons (.int _) .nil) => exact ⟨t :: ps, rfl, .cons ht w⟩
def spLetsLM (P C : Addr) : Sp := fun vs H Q X => ∃ (o : Addr) (x y : Str) (v : V) (ws : List Wt) (E : List Ed) (pl : List Str) (d : PyData) (N : Addr → Prop), vs = [.ref o, .str x, .str y, v] ∧ OfAt H o ws E ∧ E.length ≤ 16 ∧ PlOk E pl ∧ x ∈ pl ∧ y ∈ pl ∧ Th N H v d ∧ d.plain = true ∧ d.depth ≤ 40 ∧ H P = some (TabO P) ∧
  (∀ lab : Str → Int, d = labD pl lab → roadAt E lab = none → ∀ H', Same H H' → Q (.int (lab y - lab x)) H') ∧ ∀ w k, VerdL E pl d w k → ∀ da H', H da = none → Same H H' → NoP H' da w k → X (.ref C) (some da) H'
theorem okd_big {i : Int} (h0 : -(10 ^ 40 : Int) ≤ i) (h1 : i ≤ 10 ^ 40) : Okd 1 2000 (.int i) := by
  have z : i.natAbs.log2 < 1920 := by
    have h : i.natAbs ≤ 10 ^ 40 := by
      have : (10 ^ 40 : Int) = 10000000000000000000000000000000000000000 := by decide
      have : (10 ^ 40 : Nat) = 10000000000000000000000000000000000000000 := by decide
      omega
    by_cases c : i.natAbs = 0
    · rw [c]; decide
    · exact (Nat.log2_lt c).mpr (Nat.lt_of_le_of_lt h (by decide +kernel))
  exact ⟨decide_eq_true z, rfl, by simp [PyData.depth], Nat.le_refl _⟩
/-! ### sums, slices and reversals of tuples that are known to have no dict -/
def rCatF (K : PySem.W.Frag) : R2 := fun x y H Q => ∃ a b xs ys, x = .ref a ∧ y = .ref b ∧ SqT K H a xs ∧ SqT K H b ys ∧ xs.length + ys.length ≤ sizeLine ∧
  (xs = [] → Q (.ref b) H) ∧ (xs ≠ [] → ys = [] → Q (.ref a) H) ∧ (xs ≠ [] → ys ≠ [] → ∀ p o, H p = none → Tpl o → Q (.ref p) (upd H p (.frz o (.tup (xs ++ ys)))))
theorem op_catF {X : Cx} : OpR X (binaryOp .Add) (rCatF X.K) := by
  intro pins s σ H x y v u Q I rx ry h
  obtain ⟨a, b, xs, ys, rfl, rfl, ha, hb, hz, q0, q1, q2⟩ := h
  by_cases hx : xs = []
  · exact op_catA pins s σ H _ _ v u Q I rx ry ⟨a, b, xs, ys, rfl, rfl, ha, hb, hz, q0, q1, fun h _ => absurd hx h⟩
  by_cases hy : ys = []
  · exact op_catA pins s σ H _ _ v u Q I rx ry ⟨a, b, xs, ys, rfl, rfl, ha, hb, hz, q0, q1, fun _ h => absurd hy h⟩
  cases rx
  cases ry
  obtain ⟨its, r1, p1, _⟩ := I.tuple ha
  obtain ⟨its2, r2, p2, _⟩ := I.tuple hb
  refine HT.cat_tup p1 p2 (fun z => hx (r1.nil_iff.mp z)) (fun z => absurd (r2.nil_iff.mp z) hy) (fun z => ?_) (by rw [← r1.length, ← r2.length]; exact hz)
  have new : (s.heap.push { cls := .type "tuple", data := .seq (its ++ its2).toArray }).get? s.heap.objs.size = some { cls := .type "tuple", data := .seq (its ++ its2).toArray } := Heap.get?_push_size _ rfl
  exact ⟨.ref s.heap.objs.size, _, I.laid (t' := s.toks) (o := .frz { cls := .type "tuple", data := .seq (its ++ its2).toArray } (.tup (xs ++ ys))) (fun b ob q => Heap.get?_push_of_some _ q) (Nat.le_refl _) ⟨new, by rw [List.length_append]; exact hz, _, r1.append r2, IsTup.new _ _⟩, rfl, q2 hx hy _ _ (I.hok.fresh (Nat.le_refl _)) ⟨rfl, rfl⟩⟩
def rSlF (K : PySem.W.Frag) : V → Option Int → Option Int → Hp → VK → Prop := fun x lo hi H Q => ∃ a xs, x = .ref a ∧ SqT K H a xs ∧
  (HT.sIx xs.length 0 lo = 0 ∧ HT.sIx xs.length xs.length hi = xs.length → Q (.ref a) H) ∧ (¬ (HT.sIx xs.length 0 lo = 0 ∧ HT.sIx xs.length xs.length hi = xs.length) → ∀ p o, H p = none → Tpl o → Q (.ref p) (upd H p (.frz o (.tup (cutV xs lo hi)))))
theorem sl_tupF {X : Cx} : SlR X (rSlF X.K) := by
  intro pins s σ H x v vl vu lo hi sl Q I rx hs pl pu h
  obtain ⟨a, xs, rfl, hx, q1, q⟩ := h
  by_cases hw : HT.sIx xs.length 0 lo = 0 ∧ HT.sIx xs.length xs.length hi = xs.length
  · exact sl_tupA pins s σ H _ v vl vu lo hi sl Q I rx hs pl pu ⟨a, xs, rfl, hx, q1, fun h => absurd hw h⟩
  cases rx
  obtain ⟨its, r, ht, hz⟩ := I.tuple hx
  have hlen : its.toArray.size = xs.length := by rw [List.size_toArray]; exact r.length.symm
  refine ⟨"tuple", _, PyProof.Rows.slot_tuple_getitem.lookup, ht.typeIs, ?_⟩
  refine HT.getItem_tuple_cut ht hs pl pu (by rw [hlen]; exact hw) ?_ (by rw [hlen]; exact hz)
  rw [hlen]
  exact ⟨.ref s.heap.objs.size, _, I.laid (t' := s.toks) (o := .frz _ (.tup (cutV xs lo hi))) (fun b ob q => Heap.get?_push_of_some _ q) (Nat.le_refl _) ⟨Heap.get?_push_size _ rfl, Nat.le_trans (cutV_length xs lo hi) hz, _, (r.drop (HT.sIx xs.length 0 lo)).take (HT.sIx xs.length xs.length hi - HT.sIx xs.length 0 lo), IsTup.new _ _⟩, rfl, q hw _ _ (I.hok.fresh (Nat.le_refl _)) ⟨rfl, rfl⟩⟩
def tRevF (K : PySem.W.Frag) (te : TE) : TE := fun σ H Q => te σ H fun x H1 => ∃ a xs, x = .ref a ∧ SqT K H1 a xs ∧ ∀ p o, H1 p = none → Tpl o → Q (.ref p) (upd H1 p (.frz o (.tup xs.reverse)))
theorem pe_revF {X : Cx} {e : Expr} {te : TE} {k : Nat} {p1 p2 p3 pos : Pos} (he : PE X e te) : PE X (.Subscript e (.Slice none none (some (.UnaryOp .USub (.Constant (.int 1) k p1) p2)) p3) pos) (tRevF X.K te) := by
  refine ⟨fun pins s σ H Q I h => ?_⟩
  refine Subscript_ (thn (he.run pins s σ H _ I h) fun v s1 ⟨x, H1, I1, r1, q1⟩ => ?_)
  obtain ⟨a, xs, ex, hx, q⟩ := q1
  subst ex
  cases r1
  have hst : PO X (some (.UnaryOp .USub (.Constant (.int 1) k p1) p2)) (tPart (tUn (rU fun i => .int (-i)) (tC (.int 1)))) := po_some (pe_un un_neg pe_int)
  refine wpAny_Slice (thn (po_none.run pins s1 σ H1 (fun o H2 => o = none ∧ H2 = H1) I1 ⟨rfl, rfl⟩) fun vl s2 ⟨l, H2, I2, pl, el, e2⟩ => ?_)
  subst el e2
  refine thn (po_none.run pins s2 σ H2 (fun o H3 => o = none ∧ H3 = H2) I2 ⟨rfl, rfl⟩) fun vu s3 ⟨u, H3, I3, pu, eu, e3⟩ => ?_
  subst eu e3
  refine thn (hst.run pins s3 σ H3 (fun o H4 => o = some (-1) ∧ H4 = H3) I3 ⟨1, rfl, -1, rfl, rfl, rfl⟩) fun vs s4 ⟨o, H4, I4, ps, eo, e4⟩ => ?_
  subst eo e4
  have I5 : Inv X pins σ H4 { s4 with heap := s4.heap.push { cls := .type "slice", data := .fields #[vl, vu, vs] } } := I4.kept (t' := s4.toks) fun b ob q => Heap.get?_push_of_some _ q
  obtain ⟨its, r, ht, hz⟩ := I5.tuple hx
  have hlen : its.toArray.size = xs.length := by rw [List.size_toArray]; exact r.length.symm
  show wpAny (model X.prog X.w) X.A (subscriptTail e (.Slice none none (some (.UnaryOp .USub (.Constant (.int 1) k p1) p2)) p3) (.ref a) (.ref s4.heap.objs.size)) (EP X pins σ Q) X.xe { s4 with heap := s4.heap.push { cls := .type "slice", data := .fields #[vl, vu, vs] } }
  refine tail_any (ops := [.ref a, .ref s4.heap.objs.size]) ht.typeIs (PyProof.Rows.slot_tuple_getitem.lookup) ?_ (by with_unfolding_all rfl)
  refine getItem_tuple_rev ht (Heap.IsSliceOf.new _ vl vu vs) pl pu ps ?_ (by rw [hlen]; exact hz)
  have new := Heap.get?_push_size ({ s4 with heap := s4.heap.push { cls := .type "slice", data := .fields #[vl, vu, vs] } } : Shared).heap (o := { cls := .type "tuple", data := .seq its.reverse.toArray }) rfl
  refine ⟨.ref _, _, I5.laid (t' := s4.toks) (o := .frz { cls := .type "tuple", data := .seq its.reverse.toArray } (.tup xs.reverse)) (fun b ob q => Heap.get?_push_of_some _ q) (Nat.le_refl _) ?_, rfl, q _ _ (I5.hok.fresh (Nat.le_refl _)) ⟨rfl, rfl⟩⟩
  exact ⟨new, by rw [List.length_reverse]; exact hz, _, r.reverse, IsTup.new _ _⟩
/-! ### tuple(zip(xs, ys)) of two lists: a new tuple of new pairs, known to have no dict -/
section
/-- where a zip stands before its turn i, what it gave out still held; S: the list that grows -/
def ZSt (h : Heap) (S z TI TO i1 i2 a b : Addr) (i : Nat) : Prop :=
  IsPair h TI (.ref i1) (.ref i2) ∧ h.IsListIter i1 a i ∧ h.IsListIter i2 b i ∧ (∃ x y, IsPair h TO x y) ∧
    (IsZip h z TI TO .none ∨ ∃ (T : Addr) (f : Bool) (o : Obj), IsZipHeld h z TI TO T f ∧ h.get? T = some o ∧ T ∉ [S, z, TO, i1, i2])
/-- the pairs made so far -/
def Zp (H H' : Hp) (xs ys : List V) (ts : List Addr) : Prop :=
  Same H H' ∧ (∀ t ∈ ts, H t = none) ∧ ∀ (j : Nat) (t : Addr), ts[j]? = some t → ∃ x y, xs[j]? = some x ∧ ys[j]? = some y ∧ H' t = some (.tup [x, y])
variable {X : Cx} {pins : List (Addr × Obj)} {σ : L2.St} {H : Hp} {s : Shared} {A : Around} {E : Value → Shared → Prop} {S z TI TO i1 i2 a b : Addr} {xs ys : List V} {i : Nat}
theorem zst_item {x y : V} {Q : Option Value → Shared → Prop} (D : ZipApart z TI TO i1 i2 a b) (I : Inv X pins σ H s) (hf : ∀ c ∈ [z, TI, TO, i1, i2], FpOk X pins H c) (st : ZSt s.heap S z TI TO i1 i2 a b i) (hS : S < s.heap.objs.size)
    (hx : SqL X.K H a xs) (hy : SqL X.K H b ys) (xi : xs[i]? = some x) (yi : ys[i]? = some y)
    (q : ∀ h', Inv X pins σ (upd H s.heap.objs.size (.tup [x, y])) { s with heap := h' } → ZSt h' S z TI TO i1 i2 a b (i + 1) → (∀ c o, c ∉ [z, TO, i1, i2] → s.heap.get? c = some o → h'.get? c = some o) → h'.objs.size = s.heap.objs.size + 1 → Q (some (.ref s.heap.objs.size)) { s with heap := h' }) :
    wpAny (model X.prog X.w) A (pyNext (.ref z)) Q E s := by
  obtain ⟨its, rv, p, _⟩ := I.list hx
  obtain ⟨its2, rv2, p2, _⟩ := I.list hy
  obtain ⟨u, hu, ru⟩ := rv.get xi
  obtain ⟨u2, hu2, ru2⟩ := rv2.get yi
  have hu' : its.toArray[i]? = some u := by simpa using hu
  have hu2' : its2.toArray[i]? = some u2 := by simpa using hu2
  obtain ⟨tTI, t1, t2, ⟨a0, b0, hTO⟩, t⟩ := st
  have lay : ∀ h' : Heap, (∀ c o, c ∉ [z, TO, i1, i2] → s.heap.get? c = some o → h'.get? c = some o) → IsPair h' s.heap.objs.size u u2 → Inv X pins σ (upd H s.heap.objs.size (.tup [x, y])) { s with heap := h' } := fun h' hk hT =>
    I.turnedNew (t' := s.toks) (ch := [z, TI, TO, i1, i2]) (fun c o hb e => hk c o (fun m => hb (by simp only [List.mem_cons, List.not_mem_nil, or_false] at m ⊢; rcases m with m | m | m | m <;> simp [m])) e) hf (Nat.le_refl _) ⟨(by decide : 2 ≤ sizeLine), [u, u2], .cons ru (.cons ru2 .nil), ⟨_, hT, rfl, _, rfl⟩⟩
  have TIo : TI ∉ [z, TO, i1, i2] := by simp only [List.mem_cons, List.not_mem_nil, or_false, not_or]; exact ⟨D.TIz, D.TITO, D.TIi1, D.TIi2⟩
  have lt1 : i1 < s.heap.objs.size := by obtain ⟨_, e, _⟩ := t1; exact Heap.lt_size e
  have lt2 : i2 < s.heap.objs.size := by obtain ⟨_, e, _⟩ := t2; exact Heap.lt_size e
  rcases t with hz | ⟨T, f, o, hz, hT, Tn⟩
  · refine wpAny_pyNext_zip_item D hz tTI hTO t1 t2 p.isList p2.isList hu' hu2' fun h' z' nTO n1 n2 nT hs hk => ?_
    have hk' : ∀ c o, c ∉ [z, TO, i1, i2] → s.heap.get? c = some o → h'.get? c = some o := fun c o m e => by
      simp only [List.mem_cons, List.not_mem_nil, or_false, not_or] at m
      exact hk c o m.1 m.2.1 m.2.2.1 m.2.2.2 e
    refine q h' (lay h' hk' nT) ⟨hk' _ _ TIo tTI, n1, n2, ⟨_, _, nTO⟩, .inr ⟨s.heap.objs.size, false, _, z', nT, ?_⟩⟩ hk' hs
    have := Heap.lt_size hz
    have := Heap.lt_size hTO
    simp only [List.mem_cons, List.not_mem_nil, or_false, not_or]
    exact ⟨Nat.ne_of_gt hS, Nat.ne_of_gt (Heap.lt_size hz), Nat.ne_of_gt (Heap.lt_size hTO), Nat.ne_of_gt lt1, Nat.ne_of_gt lt2⟩
  · refine wpAny_pyNext_zip_item_held D hz hT tTI t1 t2 p.isList p2.isList hu' hu2' fun h' z' n1 n2 nT hs hk => ?_
    have hk' : ∀ c o, c ∉ [z, TO, i1, i2] → s.heap.get? c = some o → h'.get? c = some o := fun c o m e => by
      simp only [List.mem_cons, List.not_mem_nil, or_false, not_or] at m
      exact hk c o m.1 m.2.2.1 m.2.2.2 e
    have nTO : ∃ x y, IsPair h' TO x y := ⟨a0, b0, hk _ _ D.TOz D.TOi1 D.TOi2 hTO⟩
    exact q h' (lay h' hk' nT) ⟨hk' _ _ TIo tTI, n1, n2, nTO, .inr ⟨T, true, o, z', hk' _ _ (fun m => Tn (List.mem_cons_of_mem _ m)) hT, Tn⟩⟩ hk' hs
theorem zst_done {Q : Option Value → Shared → Prop} (hh : A.handled = none) (D : ZipApart z TI TO i1 i2 a b) (I : Inv X pins σ H s) (st : ZSt s.heap S z TI TO i1 i2 a b i)
    (hx : SqL X.K H a xs) (hy : SqL X.K H b ys) (e : xs.length = i) (q : ∀ h', (∀ c o, c ∉ [z, TO, i1, i2] → s.heap.get? c = some o → h'.get? c = some o) → Q none { s with heap := h' }) :
    wpAny (model X.prog X.w) A (pyNext (.ref z)) Q E s := by
  obtain ⟨its, rv, p, _⟩ := I.list hx
  obtain ⟨its2, _, p2, _⟩ := I.list hy
  have no : its.toArray[i]? = none := by
    have := rv.length
    simp
    omega
  obtain ⟨tTI, t1, t2, ⟨a0, b0, hTO⟩, t⟩ := st
  rcases t with hz | ⟨T, f, o, hz, hT, Tn⟩
  · refine wpAny_pyNext_zip_end hh D hz tTI hTO t1 t2 p.isList p2.isList (.inl no) fun h' hk => q h' fun c o m e => ?_
    simp only [List.mem_cons, List.not_mem_nil, or_false, not_or] at m
    exact hk c o m.1 m.2.1 m.2.2.1 m.2.2.2 e
  · refine wpAny_pyNext_zip_end_held hh D hz hT tTI t1 t2 p.isList p2.isList (.inl no) fun h' hk => q h' fun c o m e => ?_
    simp only [List.mem_cons, List.not_mem_nil, or_false, not_or] at m
    exact hk c o m.1 m.2.2.1 m.2.2.2 e
theorem zst_keep {h h' : Heap} (st : ZSt h S z TI TO i1 i2 a b i) (Sn : S ∉ [z, TI, TO, i1, i2]) (k : ∀ c o, c ≠ S → h.get? c = some o → h'.get? c = some o) : ZSt h' S z TI TO i1 i2 a b i := by
  simp only [List.mem_cons, List.not_mem_nil, or_false, not_or] at Sn
  obtain ⟨n1, n2, n3, n4, n5⟩ := Sn
  obtain ⟨tTI, t1, t2, ⟨a0, b0, hTO⟩, t⟩ := st
  refine ⟨k _ _ (Ne.symm n2) tTI, t1.at fun o e => k _ o (Ne.symm n4) e, t2.at fun o e => k _ o (Ne.symm n5) e, ⟨a0, b0, k _ _ (Ne.symm n3) hTO⟩, ?_⟩
  rcases t with hz | ⟨T, f, o, hz, hT, Tn⟩
  · exact .inl (k _ _ (Ne.symm n1) hz)
  · exact .inr ⟨T, f, o, k _ _ (Ne.symm n1) hz, k _ _ (fun z => Tn (by rw [z]; exact List.mem_cons_self)) hT, Tn⟩
theorem zip_turns {R : Result → Shared → Prop} {res : Value} (hh : A.handled = none) (D : ZipApart z TI TO i1 i2 a b) (ls : xs.length = ys.length) (hn : xs.length ≤ sizeLine) (hx : SqL X.K H a xs) (hy : SqL X.K H b ys) (Sn : S ∉ [z, TI, TO, i1, i2])
    (hR : ∀ s' H' ts acc c, Inv X pins σ H' s' → Zp H H' xs ys ts → ts.length = xs.length → s'.heap.get? S = some { cls := .type "list", dict := none, data := .seq acc c, slots := #[] } → acc.toList = ts.map Value.ref → R (.ok (.ret res)) s') :
    ∀ (k i : Nat) (s : Shared) (H1 : Hp) (ts : List Addr) (acc : Array Value) (c : Nat), xs.length - i = k → i ≤ xs.length → Inv X pins σ H1 s → (∀ d ∈ [S, z, TI, TO, i1, i2], FpOk X pins H1 d) → ZSt s.heap S z TI TO i1 i2 a b i →
      s.heap.get? S = some { cls := .type "list", dict := none, data := .seq acc c, slots := #[] } → acc.toList = ts.map Value.ref → ts.length = i → Zp H H1 xs ys ts →
      codeAny (model X.prog X.w) A (.builtin "list.extend.loop" ⟨[.ref S, .ref z, res], []⟩) R s := by
  have Sn' : S ∉ [z, TO, i1, i2] := fun m => Sn (by simp only [List.mem_cons, List.not_mem_nil, or_false] at m ⊢; rcases m with m | m | m | m <;> simp [m])
  intro k
  induction k with
  | zero =>
    intro i s H1 ts acc c hk hi I hf st hS ha hl zp
    have e : i = xs.length := by omega
    have go : ∀ {E : Value → Shared → Prop} {Q : Option Value → Shared → Prop}, (∀ h', (∀ c o, c ∉ [z, TO, i1, i2] → s.heap.get? c = some o → h'.get? c = some o) → Q none { s with heap := h' }) → wpAny (model X.prog X.w) A.in1 (pyNext (.ref z)) Q E s := zst_done (show A.in1.handled = none from hh) D I st (zp.1.seq hx) (zp.1.seq hy) e.symm
    refine codeAny_builtin PySem.F.entry_extend_loop ?_
    refine (Around.under_plainId (A := A) PySem.F.plain_extend_loop _).symm ▸ wpAny_bind (go fun h' hk => ?_)
    have I2 : Inv X pins σ H1 { s with heap := h' } := I.turnedL (t' := s.toks) (ch := [S, z, TI, TO, i1, i2]) (fun d o m q => hk d o (fun w => m (by simp only [List.mem_cons, List.not_mem_nil, or_false] at w ⊢; rcases w with w | w | w | w <;> simp [w])) q) hf
    exact wpAny_pure (hR _ H1 ts acc c I2 zp (hl.trans e) (hk _ _ Sn' hS) ha)
  | succ k ih =>
    intro i s H1 ts acc c hk hi I hf st hS ha hl zp
    have hi2 : i < xs.length := by omega
    have hi3 : i < ys.length := by omega
    have hSl := Heap.lt_size hS
    have hf5 : ∀ d ∈ [z, TI, TO, i1, i2], FpOk X pins H1 d := fun d m => hf d (List.mem_cons_of_mem _ m)
    have go : ∀ {E : Value → Shared → Prop} {Q : Option Value → Shared → Prop}, _ → wpAny (model X.prog X.w) A.in1 (pyNext (.ref z)) Q E s := fun q => zst_item D I hf5 st hSl (zp.1.seq hx) (zp.1.seq hy) (List.getElem?_eq_getElem hi2) (List.getElem?_eq_getElem hi3) q
    have asz : acc.size = i := by rw [← Array.length_toList, ha, List.length_map, hl]
    refine codeAny_builtin PySem.F.entry_extend_loop ?_
    refine (Around.under_plainId (A := A) PySem.F.plain_extend_loop _).symm ▸ wpAny_bind (go fun h' I2 st2 hk hz => ?_)
    have hS2 := hk _ _ Sn' hS
    have new : H1 s.heap.objs.size = none := I.hok.fresh (Nat.le_refl _)
    have hf2 : ∀ d ∈ [S, z, TI, TO, i1, i2], FpOk X pins (upd H1 s.heap.objs.size (.tup [xs[i], ys[i]])) d := fun d m => by
      have f := hf d m
      obtain ⟨o, e⟩ : ∃ o, s.heap.get? d = some o := by
        obtain ⟨tTI, ⟨_, t1, _⟩, ⟨_, t2, _⟩, ⟨_, _, hTO⟩, t⟩ := st
        simp only [List.mem_cons, List.not_mem_nil, or_false] at m
        rcases m with m | m | m | m | m | m
        · exact ⟨_, m ▸ hS⟩
        · rcases t with hz | ⟨_, _, _, hz, _⟩
          · exact ⟨_, m ▸ hz⟩
          · exact ⟨_, m ▸ hz⟩
        · exact ⟨_, m ▸ tTI⟩
        · exact ⟨_, m ▸ hTO⟩
        · exact ⟨_, m ▸ t1⟩
        · exact ⟨_, m ▸ t2⟩
      exact ⟨(upd_ne (Nat.ne_of_lt (Heap.lt_size e))).trans f.1, f.2⟩
    refine wpAny_bind (wpAny_updateSeq hS2 rfl (wpAny_pure ⟨plainId_quiet PySem.F.plain_extend_loop _, ?_⟩) (by rw [asz]; omega) (by show (acc.push (Value.ref s.heap.objs.size)).size ≤ sizeLine + 1; rw [Array.size_push, asz]; omega))
    have other : ∀ d o, d ≠ S → h'.get? d = some o → (h'.update S (Obj.mapSeq (·.push (Value.ref s.heap.objs.size)))).get? d = some o := fun d o n e => (Heap.get?_update_other _ _ (Ne.symm n)).trans e
    have I3 : Inv X pins σ (upd H1 s.heap.objs.size (.tup [xs[i], ys[i]])) { s with heap := h'.update S (Obj.mapSeq (·.push (Value.ref s.heap.objs.size))) } :=
      Inv.turnedL (s := { s with heap := h' }) (t' := s.toks) (ch := [S]) I2 (fun d o m e => other d o (fun w => m (by rw [w]; exact List.mem_cons_self)) e) fun d m => hf2 d (by rw [List.mem_singleton.mp m]; exact List.mem_cons_self)
    refine ih (i + 1) _ _ (ts ++ [s.heap.objs.size]) (acc.push (Value.ref s.heap.objs.size)) _ (by omega) hi2 I3 hf2 (zst_keep st2 Sn other) (Heap.get?_update_self _ hS2 rfl) (by rw [Array.toList_push, ha, List.map_append]; rfl) (by rw [List.length_append, hl]; rfl) ⟨zp.1.trans (same_new new _), fun t ht => ?_, fun j t hj => ?_⟩
    · rcases List.mem_append.mp ht with ht | ht
      · exact zp.2.1 t ht
      · rw [List.mem_singleton.mp ht]
        cases e : H s.heap.objs.size with
        | none => rfl
        | some o => exact absurd (zp.1 _ _ e) (by rw [new]; simp)
    · rcases Nat.lt_trichotomy j ts.length with h | h | h
      · rw [List.getElem?_append_left h] at hj
        obtain ⟨x, y, e1, e2, e3⟩ := zp.2.2 j t hj
        exact ⟨x, y, e1, e2, same_new new _ _ _ e3⟩
      · subst h
        have e : s.heap.objs.size = t := by simpa using hj
        subst e
        exact ⟨_, _, by rw [hl]; exact List.getElem?_eq_getElem hi2, by rw [hl]; exact List.getElem?_eq_getElem hi3, upd_same⟩
      · rw [List.getElem?_eq_none (by rw [List.length_append, List.length_singleton]; omega)] at hj
        cases hj
theorem no_len_of_zip : typeLookup (.type "zip") "__len__" = pure none := am_miss_of_fast (by decide +kernel)
theorem no_hint_of_zip : typeLookup (.type "zip") "__length_hint__" = pure none := am_miss_of_fast (by decide +kernel)
theorem collect_zip {Q : List Value → Shared → Prop} (hh : A.handled = none) (D : ZipApart z TI TO i1 i2 a b) (ls : xs.length = ys.length) (hn : xs.length ≤ sizeLine) (hx : SqL X.K H a xs) (hy : SqL X.K H b ys) (I : Inv X pins σ H s) (hf : ∀ c ∈ [z, TI, TO, i1, i2], FpOk X pins H c)
    (st : IsPair s.heap TI (.ref i1) (.ref i2) ∧ s.heap.IsListIter i1 a 0 ∧ s.heap.IsListIter i2 b 0 ∧ (∃ x y, IsPair s.heap TO x y) ∧ IsZip s.heap z TI TO .none)
    (q : ∀ s' H' ts, Inv X pins σ H' s' → Zp H H' xs ys ts → ts.length = xs.length → Q (ts.map Value.ref) s') : wpAny (model X.prog X.w) A (collect (.ref z)) Q E s := by
  obtain ⟨tTI, t1, t2, ⟨x0, y0, tO⟩, tz⟩ := st
  have lt : ∀ {c : Addr} {o : Obj}, s.heap.get? c = some o → s.heap.objs.size ≠ c := fun e => Nat.ne_of_gt (Heap.lt_size e)
  have Sn : s.heap.objs.size ∉ [z, TI, TO, i1, i2] := by
    obtain ⟨_, e1, _⟩ := t1
    obtain ⟨_, e2, _⟩ := t2
    simp only [List.mem_cons, List.not_mem_nil, or_false, not_or]
    exact ⟨lt tz, lt tTI, lt tO, lt e1, lt e2⟩
  have Sz : s.heap.objs.size ≠ z := lt tz
  have pu : ∀ {c : Addr} {o : Obj} (n : Obj), s.heap.get? c = some o → (s.heap.push n).get? c = some o := fun n e => Heap.get?_push_of_some n e
  unfold collect
  refine wpAny_bind (wpAny_runValue (codeAny_builtin PySem.F.entry_proto_collect ?_))
  refine (Around.under_plainId (A := A) PySem.F.plain_proto_collect _).symm ▸ ?_
  show wpAny (model X.prog X.w) A.in1 (newList [] >>= fun l => again (.builtin "list.__iadd__" ⟨[l, .ref z], []⟩)) _ _ s
  refine wpAny_bind (wpAny_newObj_type (wpAny_pure ⟨plainId_quiet PySem.F.plain_list_iadd _, codeAny_builtin PySem.F.entry_list_iadd ?_⟩))
  refine (Around.under_plainId (A := A) PySem.F.plain_list_iadd _).symm ▸ ?_
  show wpAny (model X.prog X.w) A.in1 (Builtin.List.listExtendWith (.ref s.heap.objs.size) (.ref z) (.ref s.heap.objs.size)) _ _ { s with heap := s.heap.push { cls := .type "list", data := .seq ([] : List Value).toArray } }
  have zT : ({ s with heap := s.heap.push { cls := .type "list", data := .seq ([] : List Value).toArray } } : Shared).TypeIs (.ref z) "zip" := ⟨_, pu _ tz, rfl⟩
  unfold Builtin.List.listExtendWith
  refine wpAny_bind (wpAny_typeOf zT ?_)
  have c1 : Builtin.List.listSameRef (.ref s.heap.objs.size) (.ref z) = false := by simp [Builtin.List.listSameRef, Sz]
  have c2 : (Value.type "zip" == Value.type "list") = false := by decide
  have c3 : (Value.type "zip" == Value.type "tuple") = false := by decide
  simp only [c1, c2, c3, Bool.or_false, Bool.false_eq_true, if_false]
  refine wpAny_bind (wpAny_pyIter_zip (pu _ tz) (wpAny_bind (wpAny_holding ?_)))
  unfold Builtin.List.listLengthHint
  refine wpAny_bind (wpAny_specialOf zT no_len_of_zip ?_)
  show wpAny (model X.prog X.w) A.in1 (specialOf (Value.ref z) (Str.ofString "__length_hint__") >>= _) _ _ _
  refine wpAny_bind (wpAny_specialOf zT no_hint_of_zip (wpAny_pure ?_))
  show wpAny (model X.prog X.w) A.in1 (rule "list.extend.makes-room" >>= fun _ => Builtin.List.listTouch (.ref s.heap.objs.size) >>= fun _ => again (.builtin "list.extend.loop" ⟨[.ref s.heap.objs.size, .ref z, .ref s.heap.objs.size], []⟩)) _ _ _
  have e1 : (s.heap.push { cls := .type "list", data := .seq ([] : List Value).toArray }).get? s.heap.objs.size = some { cls := .type "list", data := .seq ([] : List Value).toArray } := Heap.get?_push_size _ rfl
  have e2 := Heap.get?_update_self (Obj.mapSeq (·.push Value.none)) e1 rfl
  have e3 := Heap.get?_update_self (Obj.mapSeq (·.pop)) e2 rfl
  refine wpAny_bind (wpAny_rule (wpAny_bind ?_))
  show wpAny (model X.prog X.w) A.in1 (updateSeq s.heap.objs.size (·.push .none) >>= fun _ => updateSeq s.heap.objs.size (·.pop)) _ _ _
  refine wpAny_bind (wpAny_updateSeq e1 rfl (wpAny_updateSeq e2 rfl (wpAny_pure ⟨plainId_quiet PySem.F.plain_extend_loop _, ?_⟩)))
  have k : ∀ (d : Addr) (o : Obj), s.heap.get? d = some o → (((s.heap.push { cls := .type "list", data := .seq ([] : List Value).toArray }).update s.heap.objs.size (Obj.mapSeq (·.push Value.none))).update s.heap.objs.size (Obj.mapSeq (·.pop))).get? d = some o :=
    fun d o e => (Heap.get?_update_other _ _ (lt e)).trans ((Heap.get?_update_other _ _ (lt e)).trans (pu _ e))
  refine zip_turns (H := H) hh D ls hn hx hy Sn (fun s' H' ts acc c I' zp hl hS ha => ?_) xs.length 0 _ H [] _ _ rfl (Nat.zero_le _) (I.kept (t' := s.toks) k) (fun d m => ?_) ⟨k _ _ tTI, t1.at fun o e => k _ o e, t2.at fun o e => k _ o e, ⟨_, _, k _ _ tO⟩, .inl (k _ _ tz)⟩ e3 rfl rfl ⟨Same.refl _, fun _ m => (nomatch m), fun j t e => by simp at e⟩
  · show wpAny (model X.prog X.w) A (load s.heap.objs.size >>= _) _ _ s'
    refine wpAny_bind (wpAny_load hS (wpAny_pure ?_))
    show Q acc.toList s'
    rw [ha]
    exact q s' H' ts I' zp hl
  · rcases List.mem_cons.mp m with rfl | m
    · exact I.fpOk (Nat.le_refl _) (I.hok.fresh (Nat.le_refl _))
    · exact hf d m
theorem refs_vals : ∀ ts : List Addr, Vals (ts.map V.ref) (ts.map Value.ref)
  | [] => .nil
  | _ :: ts => .cons rfl (refs_vals ts)
theorem tuple_zip_code {Q : Value → Shared → Prop} (hh : A.handled = none) (D : ZipApart z TI TO i1 i2 a b) (ls : xs.length = ys.length) (hn : xs.length ≤ sizeLine) (hx : SqL X.K H a xs) (hy : SqL X.K H b ys) (I : Inv X pins σ H s) (hf : ∀ c ∈ [z, TI, TO, i1, i2], FpOk X pins H c)
    (st : IsPair s.heap TI (.ref i1) (.ref i2) ∧ s.heap.IsListIter i1 a 0 ∧ s.heap.IsListIter i2 b 0 ∧ (∃ x y, IsPair s.heap TO x y) ∧ IsZip s.heap z TI TO .none)
    (q : ∀ s' H' ts, Inv X pins σ H' s' → Zp H H' xs ys ts → ts.length = xs.length → Q (.ref s'.heap.objs.size) { s' with heap := s'.heap.push { cls := .type "tuple", data := .seq (ts.map Value.ref).toArray } }) :
    codeAny (model X.prog X.w) A (.call (.builtin "tuple.__new__") ⟨[.type "tuple", .ref z], []⟩) (wants Q E) s := by
  have tz : s.TypeIs (.ref z) "zip" := ⟨_, st.2.2.2.2, rfl⟩
  have h1 := sub_tuple_self
  have h2 := init_tuple_lookup
  have h3 := madeHere_tuple
  refine codeAny_of_tree (show wpAny (model X.prog X.w) A.in1 (do checkBuiltinCall "tuple.__new__" ⟨[.type "tuple", .ref z], []⟩; again (.builtin "tuple.__new__" ⟨[.type "tuple", .ref z], []⟩)) _ _ s from ?_)
  refine wpAny_bind (wpAny_of_eq (PySem.F.newCall_tuple_1 _) (wpAny_pure ⟨plainId_quiet PySem.F.plain_tuple_new _, codeAny_builtin PySem.F.entry_tuple_new ?_⟩))
  refine (Around.under_plainId (A := A) PySem.F.plain_tuple_new _).symm ▸ ?_
  have key : ∀ {E' : Value → Shared → Prop} {R : List Value → Shared → Prop}, (∀ s' H' ts, Inv X pins σ H' s' → Zp H H' xs ys ts → ts.length = xs.length → R (ts.map Value.ref) s') → wpAny (model X.prog X.w) A.in1 (collect (.ref z)) R E' s := fun r => collect_zip (show A.in1.handled = none from hh) D ls hn hx hy I hf st r
  wp_walk using wpAny_typeOf tz, key
  intro s' H' ts I' zp hl
  show wpAny (model X.prog X.w) _ (Builtin.Tuple.tupleExact (ts.map Value.ref).toArray >>= fun v => ret v) _ _ _
  unfold Builtin.Tuple.tupleExact
  refine wpAny_bind (wpAny_newObj_type (wpAny_pure (q s' H' ts I' zp hl)) ?_)
  show (ts.map Value.ref).toArray.size ≤ sizeLine
  rw [List.size_toArray, List.length_map, hl]
  exact hn
theorem tuple_zip_call {Q : Value → Shared → Prop} (hh : A.handled = none) (D : ZipApart z TI TO i1 i2 a b) (ls : xs.length = ys.length) (hn : xs.length ≤ sizeLine) (hx : SqL X.K H a xs) (hy : SqL X.K H b ys) (I : Inv X pins σ H s) (hf : ∀ c ∈ [z, TI, TO, i1, i2], FpOk X pins H c)
    (st : IsPair s.heap TI (.ref i1) (.ref i2) ∧ s.heap.IsListIter i1 a 0 ∧ s.heap.IsListIter i2 b 0 ∧ (∃ x y, IsPair s.heap TO x y) ∧ IsZip s.heap z TI TO .none)
    (q : ∀ s' H' ts p o, Inv X pins σ (upd H' p (.frz o (.tup (ts.map V.ref)))) s' → Zp H H' xs ys ts → ts.length = xs.length → H' p = none → Tpl o → Q (.ref p) s') :
    wpAny (model X.prog X.w) A (call (.type "tuple") [.ref z]) Q E s := by
  refine callType_codes (Q₁ := fun obj s1 => s1.TypeIs obj "tuple" ∧ Q obj s1) PySem.F.called_tuple (PySem.F.typeCall_tuple_1 _) PySem.F.entry_object_init (tuple_zip_code (A := A.in1) (show A.in1.handled = none from hh) D ls hn hx hy I hf st fun s' H' ts I' zp hl => ?_) fun obj s1 g => ⟨g.1, PySem.F.args_object_init_2 obj _, object_init_meets PySem.F.called_tuple.init.lookup PySem.F.called_tuple.made (by decide) X.prog X.w A.in1 _ s1 ⟨g.1, rfl, g.2⟩⟩
  refine ⟨⟨_, Heap.get?_push_size _ rfl, rfl⟩, q _ H' ts _ { cls := .type "tuple", data := .seq (ts.map Value.ref).toArray } ?_ zp hl (I'.hok.fresh (Nat.le_refl _)) ⟨rfl, rfl⟩⟩
  exact I'.laid (t' := s'.toks) (o := .frz { cls := .type "tuple", data := .seq (ts.map Value.ref).toArray } (.tup (ts.map V.ref))) (fun d o e => Heap.get?_push_of_some _ e) (Nat.le_refl _) ⟨Heap.get?_push_size _ rfl, (by rw [List.length_map, hl]; exact hn), ts.map Value.ref, refs_vals ts, IsTup.new _ _⟩
end
/-- tuple(zip(x, y)) of two lists of one length -/
def tTupZip (K : PySem.W.Frag) (ta : TA) : TE := fun σ H Q => ta σ H fun vs H1 => ∃ a b xs ys, vs = [.ref a, .ref b] ∧ SqL K H1 a xs ∧ SqL K H1 b ys ∧ xs.length = ys.length ∧
  ∀ H' ts p o, Zp H1 H' xs ys ts → ts.length = xs.length → H' p = none → Tpl o → Q (.ref p) (upd H' p (.frz o (.tup (ts.map V.ref))))
theorem pe_tupZip {X : Cx} {e e2 : Expr} {ta : TA} {p pz ps pos : Pos} (hc : X.calm = true) (hg : Gl X "tuple") (hm : X.mg "tuple" = none) (hz : Gl X "zip") (hzm : X.mg "zip" = none) (ha : PA X [e, e2] ta)
    (hs : starEach [e, e2] X.env = (false, eval e X.env) :: starEach [e2] X.env := by rfl) (hpl : (backTo pz (starEach [e2] X.env)).any (·.1) = false := by rfl)
    (na : starEach [.Call (.Name "zip" ps) [e, e2] [] pz] X.env = (false, eval (.Call (.Name "zip" ps) [e, e2] [] pz) X.env) :: starEach [] X.env := by rfl) :
    PE X (.Call (.Name "tuple" p) [.Call (.Name "zip" ps) [e, e2] [] pz] [] pos) (tTupZip X.K ta) := by
  refine ⟨fun pins s σ H Q I h => ?_⟩
  refine Call_ (ld_blt I hg hm boot_tuple (PyProof.Rows.callWith_type1 (args_cons (Call_ (ld_blt I hz hzm PyProof.Rows.boot_zip (PyProof.Rows.callWith_type1 (thn (ha.run pz pins s σ H _ I h) fun us s1 ⟨vs, H1, I1, r1, q1⟩ => ?_) hs hpl))) na) na))
  obtain ⟨a, b, xs, ys, rfl, hqx, hqy, ls, q⟩ := q1
  cases r1 with
  | cons r rr =>
    cases rr with
    | cons r' rr =>
      cases rr
      cases r
      cases r'
      obtain ⟨its, _, p1, zn⟩ := I1.list hqx
      obtain ⟨its2, _, p2, _⟩ := I1.list hqy
      refine call_zip_2 p1.isList p2.isList fun h' hz hTI hTO h1 h2 _ hk => args_nil ?_
      refine tuple_zip_call (I1.ok.hd hc) (PySem.W.ktu_apart s1.heap.objs.size a b p1.lt p2.lt) ls zn hqx hqy (I1.kept (t' := s1.toks) hk) (fun c m => ?_) ⟨hTI, h1, h2, ⟨_, _, hTO⟩, hz⟩ fun s' H' ts p o I' zp hl hp ho => ⟨.ref p, _, I', rfl, q H' ts p o zp hl hp ho⟩
      have le : s1.heap.objs.size ≤ c := by
        have m' : c = s1.heap.objs.size + 4 ∨ c = s1.heap.objs.size + 2 ∨ c = s1.heap.objs.size + 3 ∨ c = s1.heap.objs.size ∨ c = s1.heap.objs.size + 1 := by simpa using m
        rcases m' with m | m | m | m | m <;> rw [m] <;> first | exact Nat.le_refl _ | exact Nat.le_add_right _ _
      exact I1.fpOk le (I1.hok.fresh le)
/-! ### zip(xs, t) of a list and a tuple, walked -/
/-- the list at a and the tuple at b as they stand at each turn, the items in new pairs -/
def ItzM (K : PySem.W.Frag) (a b : Addr) : It :=
  ⟨fun i H => ∃ (xs ys : List V) (x y : V), SqL K H a xs ∧ SqT K H b ys ∧ xs[i]? = some x ∧ ys[i]? = some y,
    fun i H v H' => ∃ T x y, v = .ref T ∧ H T = none ∧ H' = upd H T (.tup [x, y]) ∧ (∀ xs, SqL K H a xs → xs[i]? = some x) ∧ ∀ ys, SqT K H b ys → ys[i]? = some y,
    fun i H => ∃ xs ys : List V, SqL K H a xs ∧ SqT K H b ys ∧ xs.length = i ∧ ys.length = i⟩
theorem sep_of {z TI TO i1 i2 a b : Addr} (D : ZipApart z TI TO i1 i2 a b) : ZipSep2 z TI TO i1 i2 [i1, a] [i2, b] := by
  have m : ∀ {c x y : Addr}, c ≠ x → c ≠ y → c ∉ [x, y] := fun h1 h2 => by simp only [List.mem_cons, List.not_mem_nil, or_false, not_or]; exact ⟨h1, h2⟩
  exact ⟨D.TIz, D.TOz, D.TITO, D.TIi1, List.mem_cons_self, m D.i1z.symm D.l1z.symm, m D.TOi1 D.l1TO.symm, D.TIi2, List.mem_cons_self, m D.i2z.symm D.l2z.symm, m D.TOi2 D.l2TO.symm, m D.i12 D.l2i1.symm, m D.i12.symm D.l1i2.symm⟩
theorem turn_zipM {P : Program} {w : World} {K : PySem.W.Frag} {elts : List Expr} {kk : Nat} {tpos : Pos} {a b z TI TO i1 i2 : Addr} (D : ZipApart z TI TO i1 i2 a b) :
    Turn P w K (.Tuple elts kk tpos) (ItzM K a b) [z, TI, TO, i1, i2] z (fun i h => IsZip h z TI TO .none ∧ IsPair h TI (.ref i1) (.ref i2) ∧ (∃ x y, IsPair h TO x y) ∧ h.IsListIter i1 a i ∧ h.IsTupleIter i2 b i) where
  mem := List.mem_cons_self
  obj := fun i h st c hc => by
    obtain ⟨hz, hTI, ⟨x, y, hTO⟩, ⟨o1, e1, _, d1⟩, ⟨o2, e2, _, d2⟩⟩ := st
    simp only [List.mem_cons, List.not_mem_nil, or_false] at hc
    rcases hc with rfl | rfl | rfl | rfl | rfl
    · exact ⟨_, hz, fun v q => nomatch q⟩
    · exact ⟨_, hTI, fun v q => nomatch q⟩
    · exact ⟨_, hTO, fun v q => nomatch q⟩
    · exact ⟨o1, e1, fun v q => by rw [d1] at q; cases q⟩
    · exact ⟨o2, e2, fun v q => by rw [d2] at q; cases q⟩
  keep := fun i h h' ⟨hz, hTI, ⟨x, y, hTO⟩, h1, h2⟩ k =>
    ⟨k z (by simp) _ hz, k TI (by simp) _ hTI, ⟨x, y, k TO (by simp) _ hTO⟩, h1.at fun o e => k i1 (by simp) o e, h2.at fun o e => k i2 (by simp) o e⟩
  item := by
    intro X hP hw hK hc i pins s σ H E I hf ⟨hz, hTI, ⟨x0, y0, hTO⟩, h1, h2⟩ ⟨xs, ys, x, y, hqx, hqy, hx, hy⟩
    subst hP hw hK
    obtain ⟨its, rv, p, _⟩ := I.list hqx
    obtain ⟨its2, rv2, p2, _⟩ := I.tuple hqy
    obtain ⟨u, hu, ru⟩ := rv.get hx
    obtain ⟨u2, hu2, ru2⟩ := rv2.get hy
    have hh : X.A.in1.handled = none := I.ok.hd hc
    have lt1 : i < its.toArray.size := by rw [List.size_toArray]; exact (List.getElem?_eq_some_iff.mp hu).1
    have lt2 : i < its2.toArray.size := by rw [List.size_toArray]; exact (List.getElem?_eq_some_iff.mp hu2).1
    refine wpAny_pyNext_zipD2_item (sep_of D) (Draws.list hh i1 a D.l1i1 its.toArray) (Draws.tuple hh i2 b D.l2i2 its2.toArray) hz hTI hTO ⟨h1, p.isList⟩ ⟨h2, p2⟩ lt1 lt2 fun v1 v2 h' tk g1 g2 z' TO' n1 n2 nT hsz hk => ?_
    have ev : v1 = u := by simpa [hu] using g1.symm
    have ev2 : v2 = u2 := by simpa [hu2] using g2.symm
    subst ev ev2
    refine ⟨_, rfl, wpAny_letOwnedTupleGo_zip (s := { s with heap := h', toks := tk }) z' fun h'' z'' sb => ?_⟩
    have zl := Heap.lt_size hz
    have nT2 : h''.get? s.heap.objs.size = some { cls := .type "tuple", data := .seq #[v1, v2] } := (sb.2 _ (Nat.ne_of_gt zl)).trans nT
    have I1 : Inv X pins σ (upd H s.heap.objs.size (.tup [x, y])) { s with heap := h'', toks := tk } :=
      I.turnedNew (t' := tk) (ch := [z, TI, TO, i1, i2]) (fun c o hb q => by
        simp only [List.mem_cons, List.not_mem_nil, or_false, not_or] at hb
        exact (sb.2 c hb.1).trans (hk c o hb.1 hb.2.2.1 hb.2.2.2.1 hb.2.2.2.2 q)) hf (Nat.le_refl _) ⟨(by decide : 2 ≤ sizeLine), [v1, v2], .cons ru (.cons ru2 .nil), ⟨_, nT2, rfl, _, rfl⟩⟩
    refine ⟨.ref s.heap.objs.size, _, I1, rfl, ⟨_, x, y, rfl, I.hok.fresh (Nat.le_refl _), rfl, fun l hl => by rw [I.list_inj hl hqx]; exact hx, fun l hl => by rw [I.tuple_inj hl hqy]; exact hy⟩, ⟨z'', ?_, ⟨v1, v2, ?_⟩, ?_, ?_⟩, fun c hcm => ?_⟩
    · exact (sb.2 _ D.TIz).trans (hk _ _ D.TIz D.TITO D.TIi1 D.TIi2 hTI)
    · exact (sb.2 _ D.TOz).trans TO'
    · exact n1.1.at fun o q => (sb.2 _ D.i1z).trans q
    · exact n2.1.at fun o q => (sb.2 _ D.i2z).trans q
    · have lt : c < s.heap.objs.size := by
        simp only [List.mem_cons, List.not_mem_nil, or_false] at hcm
        obtain ⟨_, e1, _⟩ := h1
        obtain ⟨_, e2, _⟩ := h2
        rcases hcm with rfl | rfl | rfl | rfl | rfl
        · exact zl
        · exact Heap.lt_size hTI
        · exact Heap.lt_size hTO
        · exact Heap.lt_size e1
        · exact Heap.lt_size e2
      rw [upd_ne (Nat.ne_of_lt lt)]
      exact (hf c hcm).1
  done := by
    intro X hP hw hK hc i pins s σ H E I hf ⟨hz, hTI, ⟨x0, y0, hTO⟩, h1, h2⟩ ⟨xs, ys, hqx, hqy, e1, e2⟩
    subst hP hw hK
    obtain ⟨its, rv, p, _⟩ := I.list hqx
    obtain ⟨its2, rv2, p2, _⟩ := I.tuple hqy
    have l1 : i = its.toArray.size := by rw [List.size_toArray, ← rv.length, e1]
    have l2 : i = its2.toArray.size := by rw [List.size_toArray, ← rv2.length, e2]
    have hh : X.A.in1.handled = none := I.ok.hd hc
    refine wpAny_pyNext_zipD2_end (sep_of D) (Draws.list hh i1 a D.l1i1 its.toArray) (Draws.tuple hh i2 b D.l2i2 its2.toArray) hz hTI hTO ⟨h1, p.isList⟩ ⟨h2, p2⟩ (Nat.le_of_eq l1) (Nat.le_of_eq l2) (.inl l1) fun h' tk hk => ⟨rfl, I.turnedL (t' := tk) (ch := [z, TI, TO, i1, i2]) (fun c o hb q => ?_) hf⟩
    simp only [List.mem_cons, List.not_mem_nil, or_false, not_or] at hb
    exact hk c o hb.1 hb.2.2.1 hb.2.2.2.1 hb.2.2.2.2 q
  self := fun A i s Q E st h => wpAny_pyIter_zip st.1 h
def iZipM (K : PySem.W.Frag) (ta : TA) : TI := fun σ H R => ta σ H fun vs H1 => ∃ a b xs ys, vs = [.ref a, .ref b] ∧ SqL K H1 a xs ∧ SqT K H1 b ys ∧ R (ItzM K a b) H1
theorem pi_zipM {X : Cx} {e e2 : Expr} {ta : TA} {p pos tpos : Pos} {elts : List Expr} {kk : Nat} (hg : Gl X "zip") (hm : X.mg "zip" = none) (ha : PA X [e, e2] ta)
    (hs : starEach [e, e2] X.env = (false, eval e X.env) :: starEach [e2] X.env := by rfl) (hpl : (backTo pos (starEach [e2] X.env)).any (·.1) = false := by rfl) :
    PI X (.Tuple elts kk tpos) (.Call (.Name "zip" p) [e, e2] [] pos) (iZipM X.K ta) := by
  refine ⟨fun pins s σ H R I h => ?_⟩
  refine Call_ (ld_blt I hg hm PyProof.Rows.boot_zip (PyProof.Rows.callWith_type1 (thn (ha.run pos pins s σ H _ I h) fun us s1 ⟨vs, H1, I1, r1, q1⟩ => ?_) hs hpl))
  obtain ⟨a, b, xs, ys, rfl, hqx, hqy, q⟩ := q1
  cases r1 with
  | cons r rr =>
    cases rr with
    | cons r' rr =>
      cases rr
      cases r
      cases r'
      obtain ⟨its, _, p1, _⟩ := I1.list hqx
      obtain ⟨its2, _, p2, _⟩ := I1.tuple hqy
      have lb : b < s1.heap.objs.size := by obtain ⟨o, e, _⟩ := p2; exact Heap.lt_size e
      refine zip_begins2 (begins_list a its.toArray) (begins_tuple b its2.toArray) p1.isList p2 fun h' hz hTI hTO g1 g2 _ hk => wpAny_pyIter_zip hz ?_
      refine ⟨s1.heap.objs.size + 4, [s1.heap.objs.size + 4, s1.heap.objs.size + 2, s1.heap.objs.size + 3, s1.heap.objs.size, s1.heap.objs.size + 1], _, _, H1, rfl, I1.kept (t' := s1.toks) hk, turn_zipM (PySem.W.ktu_apart s1.heap.objs.size a b p1.lt lb), ⟨hz, hTI, ⟨_, _, hTO⟩, ⟨_, g1, rfl, rfl⟩, ⟨_, g2, rfl, rfl⟩⟩, fun c m => ?_, q⟩
      have le : s1.heap.objs.size ≤ c := by
        have m' : c = s1.heap.objs.size + 4 ∨ c = s1.heap.objs.size + 2 ∨ c = s1.heap.objs.size + 3 ∨ c = s1.heap.objs.size ∨ c = s1.heap.objs.size + 1 := by simpa using m
        rcases m' with m | m | m | m | m <;> rw [m] <;> first | exact Nat.le_refl _ | exact Nat.le_add_right _ _
      exact I1.fpOk le (I1.hok.fresh le)
/-- a loop over zip of a list and a tuple of one length -/
theorem for_zipM {K : PySem.W.Frag} {a b : Addr} {xs ys : List V} {g : TG} {tb : TS} {D : L2.Ends} {σ : L2.St} {H : Hp} (hl : xs.length = ys.length) (Pv : Nat → L2.St → Hp → Prop) (h0 : Pv 0 σ H) (hq : ∀ i σ H, Pv i σ H → SqL K H a xs ∧ SqT K H b ys)
    (hs : ∀ (i : Nat) (x y : V) (T : Addr) (σ : L2.St) (H : Hp), xs[i]? = some x → ys[i]? = some y → Pv i σ H → H T = none → g (.ref T) σ (upd H T (.tup [x, y])) fun σ2 H2 => tb { D with nx := Pv (i + 1), ct := Pv (i + 1), bk := D.nx } σ2 H2) (hd : ∀ σ H, Pv xs.length σ H → D.nx σ H) :
    ∃ W : Nat → Nat → L2.St → Hp → Prop, (∃ m, W 0 m σ H) ∧ ∀ i m σ H, W i m σ H →
      ((ItzM K a b).stop i H ∧ D.nx σ H) ∨ ((ItzM K a b).go i H ∧ ∃ N : L2.St → Hp → Prop, (∀ σ' H', N σ' H' → ∃ m', m' < m ∧ W (i + 1) m' σ' H') ∧ ∀ v H', (ItzM K a b).yld i H v H' → g v σ H' fun σ2 H2 => tb { D with nx := N, ct := N, bk := D.nx } σ2 H2) := by
  refine ⟨fun i m σ H => m = xs.length - i ∧ i ≤ xs.length ∧ Pv i σ H, ⟨xs.length, rfl, Nat.zero_le _, h0⟩, ?_⟩
  rintro i m σ H ⟨rfl, hi, p⟩
  obtain ⟨qx, qy⟩ := hq i σ H p
  rcases Nat.lt_or_eq_of_le hi with lt | rfl
  · have lt2 : i < ys.length := by omega
    refine .inr ⟨⟨xs, ys, _, _, qx, qy, List.getElem?_eq_getElem lt, List.getElem?_eq_getElem lt2⟩, Pv (i + 1), fun σ' H' p' => ⟨xs.length - (i + 1), by omega, rfl, lt, p'⟩, fun v H' y => ?_⟩
    obtain ⟨T, x', y', rfl, hT, rfl, f1, f2⟩ := y
    exact hs i x' y' T σ H (f1 xs qx) (f2 ys qy) p hT
  · exact .inl ⟨⟨xs, ys, qx, qy, rfl, hl.symm⟩, hd σ H p⟩
/-! ### k40: labels drawn, bent, judged by the law -/
theorem least_pre {E : List Ed} {x y : Str} {n : Nat} (h : Least E x y (n + 1)) : ∃ z, Least E x z n ∧ (z, y) ∈ E := by
  obtain ⟨⟨z, w, e⟩, l⟩ := h
  refine ⟨z, ⟨w, fun m hm => ?_⟩, e⟩
  have := l (m + 1) ⟨z, hm, e⟩
  omega
theorem least_list {E : List Ed} {x : Str} (hx : plc E x) : ∀ (n : Nat) (y : Str), Least E x y n → ∃ l : List Str, l.length = n + 1 ∧ ∀ (i : Nat) (v : Str), l[i]? = some v → Least E x v i ∧ plc E v
  | 0, y, h => by
    refine ⟨[y], rfl, fun i v hv => ?_⟩
    match i, hv with
    | 0, hv =>
      have e : y = v := by simpa using hv
      subst e
      exact ⟨h, wlk_plc hx h.1⟩
    | i + 1, hv => simp at hv
  | n + 1, y, h => by
    obtain ⟨z, hz, _⟩ := least_pre h
    obtain ⟨l, ll, al⟩ := least_list hx n z hz
    refine ⟨l ++ [y], by rw [List.length_append, ll]; rfl, fun i v hv => ?_⟩
    by_cases c : i < l.length
    · rw [List.getElem?_append_left c] at hv
      exact al i v hv
    · rw [List.getElem?_append_right (by omega)] at hv
      have i0 : i - l.length = 0 := by
        have := (List.getElem?_eq_some_iff.mp hv).1
        rw [List.length_singleton] at this
        omega
      rw [i0] at hv
      have e : y = v := by simpa using hv
      have ei : i = n + 1 := by omega
      subst e ei
      exact ⟨h, wlk_plc hx h.1⟩
theorem least_bound {E : List Ed} {pl : List Str} {x y : Str} {n : Nat} (mem : ∀ y, y ∈ pl ↔ plc E y) (hx : plc E x) (h : Least E x y n) : n < pl.length := by
  obtain ⟨l, ll, al⟩ := least_list hx n y h
  have nd : l.Nodup := by
    rw [List.nodup_iff_pairwise_ne, List.pairwise_iff_getElem]
    intro i j hi hj hij e
    have a := (al i _ (List.getElem?_eq_getElem hi)).1
    have b := (al j _ (List.getElem?_eq_getElem hj)).1
    rw [e] at a
    have := least_one a b
    omega
  have z := sub_len (m := pl) nd fun v hv => by
    obtain ⟨i, hi, e⟩ := List.getElem_of_mem hv
    exact (mem v).mpr (al i v (by rw [List.getElem?_eq_getElem hi, e])).2
  omega
/-- how great the numbers of a label are -/
def NbOk (i : Int) : Prop := -(10 ^ 39 : Int) ≤ i ∧ i ≤ 10 ^ 39
/-- somewhat smaller -/
def NbS (i : Int) : Prop := -100000000000000000000000000000000001000 ≤ i ∧ i ≤ 100000000000000000000000000000000001000
theorem nb39 : (10 ^ 39 : Int) = 1000000000000000000000000000000000000000 := by decide +kernel
theorem NbS.ok {i : Int} (h : NbS i) : NbOk i := by
  obtain ⟨h1, h2⟩ := h
  exact ⟨by rw [nb39]; omega, by rw [nb39]; omega⟩
theorem NbS.more {i m : Int} (h : NbS i) (h0 : -10 ≤ m) (h1 : m ≤ 10) : NbOk (i + m) := by
  obtain ⟨h2, h3⟩ := h
  exact ⟨by rw [nb39]; omega, by rw [nb39]; omega⟩
theorem ixN_at {n j : Nat} (h : j < n) : ixN n (j : Int) = some j := by
  unfold ixN
  rw [if_pos (by omega), if_pos (by omega)]
  rfl
theorem wts_at {H : Hp} : ∀ {ts : List Addr} {ws : List Wt}, ts.length = ws.length → (∀ (j : Nat) (t : Addr) (w : Wt), ts[j]? = some t → ws[j]? = some w → H t = some (.tup (wtV w))) → Wts H ts ws
  | [], [], _, _ => .nil
  | [], _ :: _, h, _ => by cases h
  | _ :: _, [], h, _ => by cases h
  | t :: ts, w :: ws, h, f => .cons (f 0 t w rfl rfl) (wts_at (Nat.succ.inj h) fun j x y hx hy => f (j + 1) x y hx hy)
theorem wts_zip {H H' : Hp} {pl : List Str} {ns : List Int} {ts : List Addr} (zp : Zp H H' (pl.map V.str) (ns.map V.int) ts) (lt : ts.length = pl.length) (ln : ns.length = pl.length) : Wts H' ts (pl.zip ns) := by
  refine wts_at (by rw [List.length_zip]; omega) fun j t w ht hw => ?_
  obtain ⟨x, y, e1, e2, e3⟩ := zp.2.2 j t ht
  obtain ⟨h1, h2⟩ := List.getElem?_zip_eq_some.mp hw
  rw [List.getElem?_map, h1] at e1
  rw [List.getElem?_map, h2] at e2
  cases e1
  cases e2
  exact e3
def spDrawnL : Sp := fun vs H Q _ => ∃ (f c P0 A : Addr) (n : Int) (E : List Ed) (pl : List Str) (kvs : List (List Key × V)) (d : Ap), vs = [.ref f, .ref P0, .ref A] ∧ Fd H f c n ∧ n ≤ 900000 ∧ H P0 = some (.lst (pl.map V.str)) ∧ P0 ≠ f ∧ pl.length ≤ 33 ∧ 0 < pl.length ∧ (∀ y, y ∈ pl ↔ plc E y) ∧ H A = some (.dT kvs) ∧ A ≠ f ∧ apOf d kvs ∧ FwOk E (plc E) (plc E) d ∧
  ∀ (t : Addr) (o : Obj) (ps : List Addr) (ws : List Wt) (H' : Hp), Fd H' f c (n + 50) → But f H H' → H' t = some (.frz o (.tup (ps.map V.ref))) → Tpl o → Wts H' ps ws → ws.map (·.1) = pl → (∀ w ∈ ws, NbOk w.2) → Q (.ref t) H'
mutual
/-- all numbers in it are small enough -/
def smD : PyData → Prop
  | .int i => NbOk i
  | .list xs => smAll xs
  | .tuple xs => smAll xs
  | _ => True
def smAll : List PyData → Prop
  | [] => True
  | x :: xs => smD x ∧ smAll xs
end
theorem smAll_of : ∀ {ds : List PyData}, (∀ d ∈ ds, smD d) → smAll ds
  | [], _ => trivial
  | d :: ds, h => ⟨h d List.mem_cons_self, smAll_of fun x hx => h x (List.mem_cons_of_mem _ hx)⟩
theorem smAll_at : ∀ {ds : List PyData}, smAll ds → ∀ d ∈ ds, smD d
  | d :: ds, h, x, hx => by
    rcases List.mem_cons.mp hx with rfl | hx
    · exact h.1
    · exact smAll_at h.2 x hx
theorem dn_allP {N : Addr → Prop} {H : Hp} {P : PyData → Prop} : ∀ {xs : List V}, (∀ v ∈ xs, ∃ d, Dn N H v d ∧ P d) → ∃ ds, DnAll N H xs ds ∧ ∀ d ∈ ds, P d
  | [], _ => ⟨[], .nil, fun _ z => nomatch z⟩
  | v :: xs, h => by
    obtain ⟨d, d1, d2⟩ := h v List.mem_cons_self
    obtain ⟨ds, e1, e2⟩ := dn_allP fun u hu => h u (List.mem_cons_of_mem _ hu)
    exact ⟨d :: ds, .cons d1 e1, fun z hz => (List.mem_cons.mp hz).elim (fun k => k ▸ d2) (e2 z)⟩
theorem lab_small {pl : List Str} {lab : Str → Int} (h : smD (labD pl lab)) {s : Str} (hs : s ∈ pl) : NbOk (lab s) := by
  have z : smAll (pl.map fun s => PyData.tuple [.str s, .int (lab s)]) := h
  have y := smAll_at z _ (List.mem_map.mpr ⟨s, hs, rfl⟩)
  exact y.2.1
/-- a thing with its size -/
def ThE (N : Addr → Prop) (H : Hp) (v : V) : Prop := ∃ d, Th N H v d ∧ (Okd 5 8000000 d ∧ smD d) ∧ ∀ ds, d = .tuple ds → ds.length ≤ 100
theorem Th.imp {N M : Addr → Prop} {H : Hp} (k : ∀ a, N a → M a) {v : V} {d : PyData} (h : Th N H v d) : Th M H v d := by
  rcases h with ⟨t, xs, ds, o, h1, h2, h3, h4, h5⟩ | ⟨h1, h2⟩
  · exact .inl ⟨t, xs, ds, o, h1, h2, h3, h4, h5.imp k⟩
  · exact .inr ⟨h1, h2.imp k⟩
theorem Th.stay {N : Addr → Prop} {H H' : Hp} (k : ∀ a xs, N a → H a = some (.lst xs) → H' a = some (.lst xs)) (k2 : ∀ a xs, H a = some (.tup xs) → H' a = some (.tup xs)) (k3 : ∀ a o xs, H a = some (.frz o (.tup xs)) → H' a = some (.frz o (.tup xs))) {v : V} {d : PyData} (h : Th N H v d) : Th N H' v d := by
  rcases h with ⟨t, xs, ds, o, h1, h2, h3, h4, h5⟩ | ⟨h1, h2⟩
  · exact .inl ⟨t, xs, ds, o, h1, h2, k3 _ _ _ h3, h4, h5.stay k k2⟩
  · exact .inr ⟨h1, h2.stay k k2⟩
theorem Th.but {f c : Addr} {N : Addr → Prop} {n : Int} {H H' : Hp} (nf : ∀ a, N a → a ≠ f) (b : But f H H') (hf : Fd H f c n) {v : V} {d : PyData} (h : Th N H v d) : Th N H' v d := by
  obtain ⟨zs, hz⟩ := hf.at
  exact h.stay (fun a xs n e => b a _ (nf a n) e) (fun a xs e => b a _ (ne_of e hz fun z => nomatch z) e) fun a o xs e => b a _ (ne_of e hz fun z => nomatch z) e
theorem Th.mut {N : Addr → Prop} {H : Hp} {W : Addr} {xs : List V} {o : HO} (nW : ∀ a, N a → a ≠ W) (hW : H W = some (.lst xs)) {v : V} {d : PyData} (h : Th N H v d) : Th N (upd H W o) v d :=
  h.stay (fun a _ n e => (upd_ne (nW a n)).trans e) (fun a _ e => (upd_ne (ne_of e hW fun z => nomatch z)).trans e) fun a _ _ e => (upd_ne (ne_of e hW fun z => nomatch z)).trans e
theorem ThE.same {N : Addr → Prop} {H H' : Hp} (s : Same H H') {v : V} (h : ThE N H v) : ThE N H' v := by
  obtain ⟨d, h1, h2⟩ := h
  exact ⟨d, h1.same s, h2⟩
/-- a part with its size -/
def PtE (N : Addr → Prop) (H : Hp) (v : V) : Prop := ∃ d, Dn N H v d ∧ Okd 3 100000 d ∧ smD d
theorem PtE.same {N : Addr → Prop} {H H' : Hp} (s : Same H H') {v : V} (h : PtE N H v) : PtE N H' v := by
  obtain ⟨d, h1, h2⟩ := h
  exact ⟨d, h1.same s, h2⟩
theorem okd_list {N : Addr → Prop} {H : Hp} {xs : List V} (hl : xs.length ≤ 70) (h : ∀ v ∈ xs, PtE N H v) : ∃ ds, DnAll N H xs ds ∧ ds.length ≤ 100 ∧ (Okd 5 8000000 (.tuple ds) ∧ smD (.tuple ds)) ∧ (Okd 5 8000000 (.list ds) ∧ smD (.list ds)) := by
  obtain ⟨ds, d1, d2⟩ := dn_allP h
  have l := d1.len
  have m : (100000 + 2) * ds.length ≤ (100000 + 2) * 70 := Nat.mul_le_mul_left _ (by omega)
  exact ⟨ds, d1, by omega, ⟨(okd_tup fun d hd => (d2 d hd).1).mono (by decide) (by omega), smAll_of fun d hd => (d2 d hd).2⟩, ⟨(okd_lst fun d hd => (d2 d hd).1).mono (by decide) (by omega), smAll_of fun d hd => (d2 d hd).2⟩⟩
theorem th_mk {N : Addr → Prop} {H : Hp} {t : Addr} {o : Obj} {xs : List V} (ht : H t = some (.frz o (.tup xs))) (ho : Tpl o) (hl : xs.length ≤ 70) (h : ∀ v ∈ xs, PtE N H v) : ThE N H (.ref t) := by
  obtain ⟨ds, d1, d2, d3, _⟩ := okd_list hl h
  exact ⟨_, .inl ⟨t, xs, ds, o, rfl, rfl, ht, ho, d1⟩, d3, fun es e => by injection e with e; rw [← e]; exact d2⟩
theorem th_lst {N : Addr → Prop} {H : Hp} {l : Addr} {xs : List V} (hn : N l) (ht : H l = some (.lst xs)) (hl : xs.length ≤ 70) (h : ∀ v ∈ xs, PtE N H v) : ThE N H (.ref l) := by
  obtain ⟨ds, d1, d2, _, d4⟩ := okd_list hl h
  exact ⟨.list ds, .inr ⟨(fun _ e => nomatch e), .lst hn ht d1⟩, d4, fun es e => nomatch e⟩
theorem th_non {N : Addr → Prop} {H : Hp} : ThE N H .non := ⟨.none, .inr ⟨(fun _ e => nomatch e), .non⟩, ⟨okd_non.mono (by decide) (by decide), trivial⟩, fun es e => nomatch e⟩
/-! parts of a bent label -/
theorem nb_okd {i : Int} (h : NbOk i) : Okd 1 30000 (.int i) := by
  have e : (10 ^ 39 : Int) = 1000000000000000000000000000000000000000 := by decide
  have e2 : (10 ^ 40 : Int) = 10000000000000000000000000000000000000000 := by decide
  obtain ⟨h1, h2⟩ := h
  exact (okd_big (by omega) (by omega)).mono (Nat.le_refl _) (by decide)
theorem nb_log {i : Int} (h : NbOk i) : i.natAbs.log2 < 1920 := of_decide_eq_true (nb_okd h).fine
theorem nb_text {i : Int} (h : NbOk i) : Okd 1 30000 (.str (toString i)) := by
  have l := int_text_len_1921 (nb_log h)
  refine ⟨List.all_eq_true.mpr fun c hc => decide_eq_true ?_, rfl, by simp [PyData.depth], ?_⟩
  · have e : (toString i : Str).cps.toList = (toString i : String).toList.map Char.toNat := by rw [PySem.Str.ofString_eq_toList]
    have hc : c ∈ (toString i : Str).cps.toList := hc
    rw [e] at hc
    obtain ⟨k, _, rfl⟩ := List.mem_map.mp hc
    have := k.valid
    rcases this with v | ⟨_, v⟩
    · exact Nat.lt_trans (show k.toNat < 55296 from v) (by decide)
    · exact Nat.lt_trans (show k.toNat < 1114112 from v) (by decide)
  · show 10 * _ + 2 ≤ 30000
    omega
def spBentL : Sp := fun vs H Q _ => ∃ (f c t : Addr) (o : Obj) (n : Int) (ps : List Addr) (ws : List Wt), vs = [.ref f, .ref t] ∧ Fd H f c n ∧ n ≤ 900000 ∧ H t = some (.frz o (.tup (ps.map V.ref))) ∧ Tpl o ∧ Wts H ps ws ∧ 0 < ws.length ∧ ws.length ≤ 33 ∧ (∀ w ∈ ws, NmOk w.1 ∧ NbOk w.2) ∧
  ∀ (v : V) (H' : Hp), Fd H' f c (n + 10) → But f H H' → ThE (fun a => H a = none) H' v → Q v H'
theorem slF {K : PySem.W.Frag} {H : Hp} {a : Addr} {o : Obj} {xs : List V} {lo hi : Option Int} {Q : VK} (ha : H a = some (.frz o (.tup xs))) (ho : Tpl o) (q : ∀ p H' o', Same H H' → H' p = some (.frz o' (.tup (cutV xs lo hi))) → Tpl o' → Q (.ref p) H') : rSlF K (.ref a) lo hi H Q := by
  refine ⟨a, xs, rfl, SqT.frz ha, fun w => ?_, fun _ p o' np ho' => q p _ o' (same_new np _) upd_same ho'⟩
  have e : cutV xs lo hi = xs := by
    unfold cutV
    rw [w.1, w.2, List.drop_zero, Nat.sub_zero, List.take_length]
  exact q a H o (Same.refl _) (by rw [e]; exact ha) ho
theorem slFn {K : PySem.W.Frag} {H : Hp} {σ : L2.St} {a : Addr} {o : Obj} {xs : List V} {lo : Option Int} {Q : VK} (ha : H a = some (.frz o (.tup xs))) (ho : Tpl o) (q : ∀ p H' o', Same H H' → H' p = some (.frz o' (.tup (cutV xs lo none))) → Tpl o' → Q (.ref p) H') : tNoPart σ H fun u H3 => rSlF K (.ref a) lo u H3 Q := slF ha ho q
theorem catF {K : PySem.W.Frag} {H : Hp} {a b : Addr} {o o2 : Obj} {xs ys : List V} {Q : VK} (ha : H a = some (.frz o (.tup xs))) (ho : Tpl o) (hb : H b = some (.frz o2 (.tup ys))) (ho2 : Tpl o2) (hz : xs.length + ys.length ≤ sizeLine) (q : ∀ p H' o', Same H H' → H' p = some (.frz o' (.tup (xs ++ ys))) → Tpl o' → Q (.ref p) H') : rCatF K (.ref a) (.ref b) H Q := by
  refine ⟨a, b, xs, ys, rfl, rfl, SqT.frz ha, SqT.frz hb, hz, fun e => ?_, fun _ e => ?_, fun _ _ p o' np ho' => q p _ o' (same_new np _) upd_same ho'⟩
  · exact q b H o2 (Same.refl _) (by rw [e]; exact hb) ho2
  · exact q a H o (Same.refl _) (by rw [e, List.append_nil]; exact ha) ho
/-- what a frozen tuple with one part more looks like -/
def Fz (H : Hp) (xs : List V) (v : V) : Prop := ∃ (t : Addr) (o : Obj), v = .ref t ∧ H t = some (.frz o (.tup xs)) ∧ Tpl o
theorem Fz.same {H H' : Hp} (s : Same H H') {xs : List V} {v : V} (h : Fz H xs v) : Fz H' xs v := by
  obtain ⟨t, o, h1, h2, h3⟩ := h
  exact ⟨t, o, h1, s _ _ h2, h3⟩
theorem Fz.mut {H : Hp} {W : Addr} {ys xs : List V} {o : HO} (hW : H W = some (.lst ys)) {v : V} (h : Fz H xs v) : Fz (upd H W o) xs v := by
  obtain ⟨t, o', h1, h2, h3⟩ := h
  exact ⟨t, o', h1, (upd_ne (ne_of h2 hW fun z => nomatch z)).trans h2, h3⟩
theorem Fz.th {N : Addr → Prop} {H : Hp} {xs : List V} {v : V} (h : Fz H xs v) (hl : xs.length ≤ 70) (hx : ∀ v ∈ xs, PtE N H v) : ThE N H v := by
  obtain ⟨t, o', rfl, h2, h3⟩ := h
  exact th_mk h2 h3 hl hx
/-! the parts -/
theorem pt_str {N : Addr → Prop} {H : Hp} {x : Str} (h : NmOk x) : PtE N H (.str x) := ⟨_, .str x, (okd_str h).mono (by decide) (by decide), trivial⟩
theorem pt_of {N : Addr → Prop} {H : Hp} {p : Addr} {xs : List V} (hp : H p = some (.tup xs)) (l : xs.length ≤ 3) (h : ∀ v ∈ xs, ∃ d, Dn N H v d ∧ Okd 2 33000 d ∧ smD d) : PtE N H (.ref p) := by
  obtain ⟨ds, d1, d2⟩ := dn_allP h
  have e := d1.len
  have m : (33000 + 2) * ds.length ≤ (33000 + 2) * 3 := Nat.mul_le_mul_left _ (by omega)
  exact ⟨_, .tup hp d1, (okd_tup fun d hd => (d2 d hd).1).mono (by decide) (by omega), smAll_of fun d hd => (d2 d hd).2⟩
theorem pt_lst {N : Addr → Prop} {H : Hp} {p : Addr} {xs : List V} (hn : N p) (hp : H p = some (.lst xs)) (l : xs.length ≤ 3) (h : ∀ v ∈ xs, ∃ d, Dn N H v d ∧ Okd 2 33000 d ∧ smD d) : PtE N H (.ref p) := by
  obtain ⟨ds, d1, d2⟩ := dn_allP h
  have e := d1.len
  have m : (33000 + 2) * ds.length ≤ (33000 + 2) * 3 := Nat.mul_le_mul_left _ (by omega)
  exact ⟨_, .lst hn hp d1, (okd_lst fun d hd => (d2 d hd).1).mono (by decide) (by omega), smAll_of fun d hd => (d2 d hd).2⟩
/-- atoms of a part -/
def At2 (N : Addr → Prop) (H : Hp) (v : V) : Prop := ∃ d, Dn N H v d ∧ Okd 2 33000 d ∧ smD d
theorem at_str {N : Addr → Prop} {H : Hp} {x : Str} (h : NmOk x) : At2 N H (.str x) := ⟨_, .str x, (okd_str h).mono (by decide) (by decide), trivial⟩
theorem at_int {N : Addr → Prop} {H : Hp} {i : Int} (h : NbOk i) : At2 N H (.int i) := ⟨_, .int i, (nb_okd h).mono (by decide) (by decide), h⟩
theorem at_text {N : Addr → Prop} {H : Hp} {i : Int} (h : NbOk i) : At2 N H (.str (toString i)) := ⟨_, .str _, (nb_text h).mono (by decide) (by decide), trivial⟩
theorem at_non {N : Addr → Prop} {H : Hp} : At2 N H .non := ⟨_, .non, okd_non.mono (by decide) (by decide), trivial⟩
theorem at_bl {N : Addr → Prop} {H : Hp} (b : Bool) : At2 N H (.bl b) := ⟨_, .bl b, (okd_bool b).mono (by decide) (by decide), trivial⟩
theorem at_one {N : Addr → Prop} {H : Hp} {p : Addr} {i : Int} (hp : H p = some (.tup [.int i])) (h : NbOk i) : At2 N H (.ref p) := by
  refine ⟨_, .tup hp (.cons (.int i) .nil), (okd_tup (n := 1) (c := 30000) fun d hd => ?_).mono (by decide) (show (30000 + 2) * 1 + 3 ≤ 33000 by decide), ⟨h, trivial⟩⟩
  rw [List.mem_singleton.mp hd]
  exact nb_okd h
theorem vs1 {P : V → Prop} {a : V} (h : P a) : ∀ v ∈ [a], P v := fun v hv => by rw [List.mem_singleton.mp hv]; exact h
theorem vs2 {P : V → Prop} {a b : V} (h : P a) (k : P b) : ∀ v ∈ [a, b], P v := fun v hv => by
  rcases List.mem_cons.mp hv with rfl | hv
  · exact h
  · exact vs1 k v hv
theorem vs3 {P : V → Prop} {a b c : V} (h : P a) (k : P b) (l : P c) : ∀ v ∈ [a, b, c], P v := fun v hv => by
  rcases List.mem_cons.mp hv with rfl | hv
  · exact h
  · exact vs2 k l v hv
/-! what the law says of a label -/
theorem like_false {pl : List Str} {ds : List PyData} {i : Nat} {a : PyData} {s : Str} (h1 : ds[i]? = some a) (h2 : pl[i]? = some s) (h : isLbD a s = false) : likeD pl (.tuple ds) = false := by
  show (decide (((ds.length : Nat) : Int) = ((pl.length : Nat) : Int)) && (((List.range ds.length).filter fun _ => true).all (likeF pl ds))) = false
  rw [Bool.and_eq_false_iff]
  refine .inr ?_
  rw [Bool.eq_false_iff]
  intro z
  have y := List.all_eq_true.mp z i (List.mem_filter.mpr ⟨List.mem_range.mpr (List.getElem?_eq_some_iff.mp h1).1, rfl⟩)
  unfold likeF at y
  rw [h1, h2] at y
  exact absurd (h.symm.trans y) (by decide)
theorem like_true {pl : List Str} {ds : List PyData} (l : ds.length = pl.length) (h : ∀ (i : Nat) (a : PyData) (s : Str), ds[i]? = some a → pl[i]? = some s → isLbD a s = true) : likeD pl (.tuple ds) = true := by
  show (decide (((ds.length : Nat) : Int) = ((pl.length : Nat) : Int)) && (((List.range ds.length).filter fun _ => true).all (likeF pl ds))) = true
  rw [decide_eq_true (by omega), Bool.true_and, List.all_eq_true]
  intro i hi
  unfold likeF
  cases e1 : ds[i]? with
  | none => rfl
  | some a =>
    cases e2 : pl[i]? with
    | none => rfl
    | some s => exact h i a s e1 e2
theorem like_len {pl : List Str} {ds : List PyData} (h : ¬ ((ds.length : Nat) : Int) = ((pl.length : Nat) : Int)) : likeD pl (.tuple ds) = false := by
  show (decide (((ds.length : Nat) : Int) = ((pl.length : Nat) : Int)) && _) = false
  rw [decide_eq_false h, Bool.false_and]
theorem like_none {pl : List Str} {d : PyData} (h : ∀ ds, d ≠ .tuple ds) : likeD pl d = false := by
  cases d with
  | tuple ds => exact absurd rfl (h ds)
  | _ => rfl
def DueL (E : List Ed) (pl : List Str) (x y : Str) (d r : PyData) : Prop := (∃ w k, VerdL E pl d w k ∧ r = .list [.str w, .int k]) ∨ ∃ lab : Str → Int, d = labD pl lab ∧ roadAt E lab = none ∧ r = .tuple [.str (("told" : String) : Str), .str (PyData.int (lab y - lab x)).shown]
def spDueL : Sp := fun vs H Q _ => ∃ (g : Addr → Prop) (o P0 : Addr) (x y : Str) (v : V) (d : PyData) (ws : List Wt) (E : List Ed) (pl : List Str), vs = [.ref o, .ref P0, .str x, .str y, v] ∧ OfAt H o ws E ∧ OfOk ws E ∧ H P0 = some (.lst (pl.map V.str)) ∧ PlOk E pl ∧ pl.length ≤ 33 ∧ x ∈ pl ∧ y ∈ pl ∧
  Th g H v d ∧ (Okd 5 8000000 d ∧ smD d) ∧ (∀ ds, d = .tuple ds → ds.length ≤ 100) ∧ ∀ (u : V) (r : PyData) (H' : Hp), Same H H' → DueL E pl x y d r → Dn (fun a => H a = none) H' u r → Okd 2 60000 r → Q u H'
theorem okd_due {w : Str} {k : Int} (hw : NmOk w) (h0 : -1000000 ≤ k) (h1 : k ≤ 1000000) : Okd 2 60000 (.list [.str w, .int k]) := (okd_verd hw h0 h1).mono (Nat.le_refl _) (by decide)
theorem nb_diff {i j : Int} (h : NbOk i) (k : NbOk j) : Okd 1 2000 (.int (i - j)) := by
  have e2 : (10 ^ 40 : Int) = 10000000000000000000000000000000000000000 := by decide +kernel
  obtain ⟨h1, h2⟩ := h
  obtain ⟨k1, k2⟩ := k
  rw [nb39] at h1 h2 k1 k2
  exact okd_big (by omega) (by omega)
theorem nb_shown {i j : Int} (h : NbOk i) (k : NbOk j) : Okd 1 25000 (.str (PyData.int (i - j)).shown) := by
  have o := nb_diff h k
  have lg : (i - j).natAbs.log2 < 1920 := of_decide_eq_true o.fine
  have l := int_text_len_1921 lg
  refine ⟨List.all_eq_true.mpr fun c hc => decide_eq_true ?_, rfl, by simp [PyData.depth], ?_⟩
  · have e : (toString (i - j) : Str).cps.toList = (toString (i - j) : String).toList.map Char.toNat := by rw [PySem.Str.ofString_eq_toList]
    have hc : c ∈ (toString (i - j) : Str).cps.toList := hc
    rw [e] at hc
    obtain ⟨k, _, rfl⟩ := List.mem_map.mp hc
    rcases k.valid with v | ⟨_, v⟩
    · exact Nat.lt_trans (show k.toNat < 55296 from v) (by decide)
    · exact Nat.lt_trans (show k.toNat < 1114112 from v) (by decide)
  · show 10 * (Str.ofString (toString (i - j))).length + 2 ≤ 25000
    omega
theorem okd_told {i j : Int} (h : NbOk i) (k : NbOk j) : Okd 2 60000 (.tuple [.str (("told" : String) : Str), .str (PyData.int (i - j)).shown]) := by
  refine (okd_tup (n := 1) (c := 25000) fun d hd => ?_).mono (by decide) (show (25000 + 2) * 2 + 3 ≤ 60000 by decide)
  simp only [List.mem_cons, List.not_mem_nil, or_false] at hd
  rcases hd with rfl | rfl
  · exact (okd_str ⟨by decide +kernel, by decide +kernel⟩).mono (by decide) (by decide)
  · exact nb_shown h k
theorem lab_inj {pl : List Str} {lab lab' : Str → Int} (h : labD pl lab = labD pl lab') {s : Str} (hs : s ∈ pl) : lab s = lab' s := by
  have z : (pl.map fun s => PyData.tuple [.str s, .int (lab s)]) = pl.map fun s => PyData.tuple [.str s, .int (lab' s)] := PyData.tuple.inj h
  have y := List.map_inj_left.mp z s hs
  injection y with y
  injection y with _ y
  injection y with y
  injection y with y
theorem find_same {α : Type} {p q : α → Bool} : ∀ {l : List α}, (∀ e ∈ l, p e = q e) → l.findIdx? p = l.findIdx? q
  | [], _ => rfl
  | a :: l, h => by
    rw [List.findIdx?_cons, List.findIdx?_cons, h a List.mem_cons_self, find_same fun e he => h e (List.mem_cons_of_mem _ he)]
theorem road_same {E : List Ed} {pl : List Str} {lab lab' : Str → Int} (ok : PlOk E pl) (h : labD pl lab = labD pl lab') : roadAt E lab = roadAt E lab' := by
  refine find_same fun e he => ?_
  rw [lab_inj h ((ok.mem e.1).mpr (.inr ⟨e, he, .inl rfl⟩)), lab_inj h ((ok.mem e.2).mpr (.inr ⟨e, he, .inr rfl⟩))]
theorem like_labD (pl : List Str) (lab : Str → Int) : likeD pl (labD pl lab) = true := by
  refine like_true (List.length_map ..) fun i a s h1 h2 => ?_
  rw [List.getElem?_map, h2] at h1
  cases h1
  show (PyData.eqv (.str s) (.str s) && true) = true
  simp [PyData.eqv]
theorem verdL_uniq {E : List Ed} {pl : List Str} {d : PyData} {w w' : Str} {k k' : Int} (ok : PlOk E pl) (h : VerdL E pl d w k) (h' : VerdL E pl d w' k') : w = w' ∧ k = k' := by
  rcases h with ⟨a, rfl, rfl⟩ | ⟨lab, i, rfl, r, rfl, rfl⟩
  · rcases h' with ⟨_, rfl, rfl⟩ | ⟨lab, i, rfl, r, rfl, rfl⟩
    · exact ⟨rfl, rfl⟩
    · rw [like_labD] at a
      cases a
  · rcases h' with ⟨a, rfl, rfl⟩ | ⟨lab', i', e, r', rfl, rfl⟩
    · rw [like_labD] at a
      cases a
    · rw [road_same ok e, r'] at r
      cases r
      exact ⟨rfl, rfl⟩
theorem verdL_not {E : List Ed} {pl : List Str} {lab : Str → Int} {w : Str} {k : Int} (ok : PlOk E pl) (h : VerdL E pl (labD pl lab) w k) (r : roadAt E lab = none) : False := by
  rcases h with ⟨a, _, _⟩ | ⟨lab', i, e, r', _, _⟩
  · rw [like_labD] at a
    cases a
  · rw [road_same ok e, r'] at r
    cases r
theorem dueL_uniq {E : List Ed} {pl : List Str} {x y : Str} {d r r' : PyData} (ok : PlOk E pl) (hx : x ∈ pl) (hy : y ∈ pl) (h : DueL E pl x y d r) (h' : DueL E pl x y d r') : r = r' := by
  rcases h with ⟨w, k, v, rfl⟩ | ⟨lab, rfl, n, rfl⟩
  · rcases h' with ⟨w', k', v', rfl⟩ | ⟨lab, rfl, n, rfl⟩
    · obtain ⟨rfl, rfl⟩ := verdL_uniq ok v v'
      rfl
    · exact (verdL_not ok v n).elim
  · rcases h' with ⟨w', k', v', rfl⟩ | ⟨lab', e, n', rfl⟩
    · exact (verdL_not ok v' n).elim
    · rw [lab_inj e hx, lab_inj e hy]
theorem tupD_not {d : PyData} {m : Int} (h : ∀ ds, d ≠ .tuple ds) : ¬ tupD d m = true := by
  cases d with
  | tuple ds => exact absurd rfl (h ds)
  | _ => exact fun z => nomatch z
def spSaidL (K : PySem.W.Frag) (P : Addr) : Sp := fun vs H Q _ => ∃ (g : Addr → Prop) (o : Addr) (x y : Str) (v : V) (d : PyData) (ws : List Wt) (E : List Ed) (pl : List Str), vs = [.ref o, .str x, .str y, v] ∧ OfAt H o ws E ∧ E.length ≤ 16 ∧ PlOk E pl ∧ x ∈ pl ∧ y ∈ pl ∧
  Th g H v d ∧ (Okd 5 8000000 d ∧ smD d) ∧ H P = some (TabO P) ∧ ∀ (u : V) (r : PyData) (H' : Hp), Same H H' → DueL E pl x y d r → Dp K H' u r → Q u H'
/-- one of what is wanted: office, one place, the other, a thing, what is due -/
def WntL (N : Addr → Prop) (H : Hp) (p : Addr) : Prop := ∃ (o : Addr) (ws : List Wt) (E : List Ed) (pl : List Str) (x y : Str) (v u : V) (d r : PyData), H p = some (.tup [.ref o, .str x, .str y, v, u]) ∧ OfAt H o ws E ∧ OfOk ws E ∧ PlOk E pl ∧ x ∈ pl ∧ y ∈ pl ∧
  Th N H v d ∧ (Okd 5 8000000 d ∧ smD d) ∧ Dn N H u r ∧ DueL E pl x y d r ∧ Okd 2 60000 r
theorem WntL.same {N : Addr → Prop} {H H' : Hp} {p : Addr} (s : Same H H') (h : WntL N H p) : WntL N H' p := by
  obtain ⟨o, ws, E, pl, x, y, v, u, d, r, h1, h2, h3, h4, hx, hy, h5, h6, h7, h8⟩ := h
  exact ⟨o, ws, E, pl, x, y, v, u, d, r, s _ _ h1, h2.same s, h3, h4, hx, hy, h5.same s, h6, h7.same s, h8⟩
theorem WntL.but {N : Addr → Prop} {f c : Addr} {n : Int} {H H' : Hp} {p : Addr} (nf : ∀ a, N a → a ≠ f) (hf : Fd H f c n) (b : But f H H') (h : WntL N H p) : WntL N H' p := by
  obtain ⟨o, ws, E, pl, x, y, v, u, d, r, h1, h2, h3, h4, hx, hy, h5, h6, h7, h8⟩ := h
  obtain ⟨zs, hz⟩ := hf.at
  exact ⟨o, ws, E, pl, x, y, v, u, d, r, b _ _ (ne_of h1 hz fun z => nomatch z) h1, h2.but hf b, h3, h4, hx, hy, h5.but nf b hf, h6, h7.but nf b hf, h8⟩
theorem WntL.mut {N : Addr → Prop} {H : Hp} {W p : Addr} {xs : List V} {o : HO} (nW : ∀ a, N a → a ≠ W) (hW : H W = some (.lst xs)) (h : WntL N H p) : WntL N (upd H W o) p := by
  obtain ⟨o', ws, E, pl, x, y, v, u, d, r, h1, h2, h3, h4, hx, hy, h5, h6, h7, h8⟩ := h
  exact ⟨o', ws, E, pl, x, y, v, u, d, r, tups_mut hW _ _ h1, h2.tups (tups_mut hW), h3, h4, hx, hy, h5.mut nW hW, h6, h7.mut nW hW, h8⟩
def top (i : Nat) : Stmt := PySem.Challenge.pw_pressnotes_k40_labels_judged.main.body.getD i (.Pass ⟨0, 0, 0, 0⟩)
abbrev s_is_number : Stmt := top 12
abbrev s_is_tuple_of : Stmt := top 13
abbrev s_places_of : Stmt := top 15
abbrev s_is_label : Stmt := top 17
abbrev s_is_labels_like : Stmt := top 18
abbrev s_lets_labels : Stmt := top 19
abbrev s_ltape : Stmt := top 21
abbrev s_ldraw : Stmt := top 22
abbrev s_loffice : Stmt := top 23
abbrev s_lplaces : Stmt := top 24
abbrev s_lapart : Stmt := top 25
abbrev s_lis_alone : Stmt := top 26
abbrev s_ldrawn : Stmt := top 27
abbrev s_lbent : Stmt := top 28
abbrev s_ldue : Stmt := top 29
abbrev s_lsaid : Stmt := top 30
abbrev s_law : Stmt := top 31
theorem sc_is_number : FnScope ["thing"] ["thing"] (defScope s_is_number) := ⟨rfl, rfl, rfl, by decide +kernel, rfl, by decide +kernel, by decide +kernel⟩
theorem sc_is_tuple_of : FnScope ["thing", "many"] ["thing", "many"] (defScope s_is_tuple_of) := ⟨rfl, rfl, rfl, by decide +kernel, rfl, by decide +kernel, by decide +kernel⟩
theorem sc_places_of : FnScope ["office", "found", "start", "end"] ["office"] (defScope s_places_of) := ⟨rfl, rfl, rfl, by decide +kernel, rfl, by decide +kernel, by decide +kernel⟩
theorem sc_is_label : FnScope ["thing", "place"] ["thing", "place"] (defScope s_is_label) := ⟨rfl, rfl, rfl, by decide +kernel, rfl, by decide +kernel, by decide +kernel⟩
theorem sc_is_labels_like : FnScope ["office", "thing", "places", "label", "place"] ["office", "thing"] (defScope s_is_labels_like) := ⟨rfl, rfl, rfl, by decide +kernel, rfl, by decide +kernel, by decide +kernel⟩
theorem sc_lets_labels : FnScope ["office", "one", "other", "thing", "numbers", "k", "start", "end"] ["office", "one", "other", "thing"] (defScope s_lets_labels) := ⟨rfl, rfl, rfl, by decide +kernel, rfl, by decide +kernel, by decide +kernel⟩
theorem sc_ltape : FnScope ["_law_script"] ["_law_script"] (defScope s_ltape) := ⟨rfl, rfl, rfl, by decide +kernel, rfl, by decide +kernel, by decide +kernel⟩
theorem sc_ldraw : FnScope ["_law_tape_here", "_law_many", "_law_found", "_law_at", "_law_cell", "_law_mixed"] ["_law_tape_here", "_law_many"] (defScope s_ldraw) := ⟨rfl, rfl, rfl, by decide +kernel, rfl, by decide +kernel, by decide +kernel⟩
theorem sc_loffice : FnScope ["_law_tape_here", "_law_words", "_law_many", "_law_first", "_law_step", "_law_places_here", "_law_k", "_law_roads", "_law_one", "_law_other", "_law_worths"] ["_law_tape_here"] (defScope s_loffice) := ⟨rfl, rfl, rfl, by decide +kernel, rfl, by decide +kernel, by decide +kernel⟩
theorem sc_lplaces : FnScope ["_law_office_here", "_law_found", "_law_road", "_law_place"] ["_law_office_here"] (defScope s_lplaces) := ⟨rfl, rfl, rfl, by decide +kernel, rfl, by decide +kernel, by decide +kernel⟩
theorem sc_lapart : FnScope ["_law_office_here", "_law_places_here", "_law_apart_here", "_law_road", "_law_place", "_law_via", "_law_one", "_law_other", "_law_new"] ["_law_office_here"] (defScope s_lapart) := ⟨rfl, rfl, rfl, by decide +kernel, rfl, by decide +kernel, by decide +kernel⟩
theorem sc_lis_alone : FnScope ["_law_e"] ["_law_e"] (defScope s_lis_alone) := ⟨rfl, rfl, rfl, by decide +kernel, rfl, by decide +kernel, by decide +kernel⟩
theorem sc_ldrawn : FnScope ["_law_tape_here", "_law_places_here", "_law_apart_here", "_law_way", "_law_begin", "_law_move", "_law_numbers", "_law_place", "_law_at"] ["_law_tape_here", "_law_places_here", "_law_apart_here"] (defScope s_ldrawn) := ⟨rfl, rfl, rfl, by decide +kernel, rfl, by decide +kernel, by decide +kernel⟩
theorem sc_lbent : FnScope ["_law_tape_here", "_law_some", "_law_way", "_law_at", "_law_place", "_law_number", "_law_other", "_law_things", "_law_one"] ["_law_tape_here", "_law_some"] (defScope s_lbent) := ⟨rfl, rfl, rfl, by decide +kernel, rfl, by decide +kernel, by decide +kernel⟩
theorem sc_ldue : FnScope ["_law_office_here", "_law_places_here", "_law_one", "_law_other", "_law_thing", "_law_label", "_law_place", "_law_part", "_law_k", "_law_begin", "_law_end"] ["_law_office_here", "_law_places_here", "_law_one", "_law_other", "_law_thing"] (defScope s_ldue) := ⟨rfl, rfl, rfl, by decide +kernel, rfl, by decide +kernel, by decide +kernel⟩
theorem sc_lsaid : FnScope ["_law_office_here", "_law_one", "_law_other", "_law_thing", "_law_found", "_law_e"] ["_law_office_here", "_law_one", "_law_other", "_law_thing"] (defScope s_lsaid) := ⟨rfl, rfl, rfl, by decide +kernel, rfl, by decide +kernel, by decide +kernel⟩
theorem sc_law : FnScope ["_law_script", "_law_tape_here", "_law_offices", "_law_wanted", "_law_k", "_law_office_here", "_law_places_here", "_law_apart_here", "_law_one", "_law_other", "_law_j", "_law_thing", "_law_due_here", "_law_kept"] ["_law_script"] (defScope s_law) := ⟨rfl, rfl, rfl, by decide +kernel, rfl, by decide +kernel, by decide +kernel⟩
abbrev s_NoPaper : Stmt := (clsBody (top 6)).getD 0 (.Pass ⟨0, 0, 0, 0⟩)
theorem sc_NoPaper : FnScope ["self", "word", "place"] ["self", "word", "place"] (defScope s_NoPaper) := ⟨rfl, rfl, rfl, by decide +kernel, rfl, by decide +kernel, by decide +kernel⟩
structure Txt (K : PySem.W.Frag) (mg : Str → Option Value) (f_is_number f_is_tuple_of f_places_of f_is_label f_is_labels_like f_lets_labels f_ltape f_ldraw f_loffice f_lplaces f_lapart f_lis_alone f_ldrawn f_lbent f_ldue f_lsaid f_law : Addr) : Prop where
  m_NoteError : mg "NoteError" = some (.ref (He.ga K "NoteError"))
  m_NoNumber : mg "NoNumber" = some (.ref (He.ga K "NoNumber"))
  m_NoStars : mg "NoStars" = some (.ref (He.ga K "NoStars"))
  m_NoRow : mg "NoRow" = some (.ref (He.ga K "NoRow"))
  m_NoPage : mg "NoPage" = some (.ref (He.ga K "NoPage"))
  m_NoPaper : mg "NoPaper" = some (.ref (He.ga K "NoPaper"))
  m_NoWorld : mg "NoWorld" = some (.ref (He.ga K "NoWorld"))
  m_NoBack : mg "NoBack" = some (.ref (He.ga K "NoBack"))
  m_NoText : mg "NoText" = some (.ref (He.ga K "NoText"))
  m_NoLine : mg "NoLine" = some (.ref (He.ga K "NoLine"))
  rf_NoPaper : Rf K "NoPaper" "word" "NoPaper" ["NoNumber", "NoStars", "NoRow", "NoPage", "NoWorld", "NoBack", "NoText", "NoLine"]
  rf_NoPaper_place : Rf K "NoPaper" "place" "NoPaper" ["NoNumber", "NoStars", "NoRow", "NoPage", "NoWorld", "NoBack", "NoText", "NoLine"]
  k_NoPaper_NoteError : PySem.W.kitOne K (.ref (He.ga K "NoPaper")) (.ref (He.ga K "NoteError")) = some true
  m_is_number : mg "is_number" = some (.ref f_is_number)
  m_is_tuple_of : mg "is_tuple_of" = some (.ref f_is_tuple_of)
  m_places_of : mg "places_of" = some (.ref f_places_of)
  m_is_label : mg "is_label" = some (.ref f_is_label)
  m_is_labels_like : mg "is_labels_like" = some (.ref f_is_labels_like)
  m_lets_labels : mg "lets_labels" = some (.ref f_lets_labels)
  m_ltape : mg "_law_tape" = some (.ref f_ltape)
  m_ldraw : mg "_law_draw" = some (.ref f_ldraw)
  m_loffice : mg "_law_office" = some (.ref f_loffice)
  m_lplaces : mg "_law_places" = some (.ref f_lplaces)
  m_lapart : mg "_law_apart" = some (.ref f_lapart)
  m_lis_alone : mg "_law_is_alone" = some (.ref f_lis_alone)
  m_ldrawn : mg "_law_drawn" = some (.ref f_ldrawn)
  m_lbent : mg "_law_bent" = some (.ref f_lbent)
  m_ldue : mg "_law_due" = some (.ref f_ldue)
  m_lsaid : mg "_law_said" = some (.ref f_lsaid)
  m_law : mg "law" = some (.ref f_law)
  len : mg "len" = none
  range : mg "range" = none
  sorted : mg "sorted" = none
  tuple : mg "tuple" = none
  list : mg "list" = none
  isinstance : mg "isinstance" = none
  repr : mg "repr" = none
  min : mg "min" = none
  all : mg "all" = none
  enumerate : mg "enumerate" = none
  zip : mg "zip" = none
  int : mg "int" = none
  bool : mg "bool" = none
  str : mg "str" = none
  dict : mg "dict" = none
  set : mg "set" = none
  ValueError : mg "ValueError" = none
section
variable {P : Program} {w : World} {K : PySem.W.Frag} {mg : Str → Option Value} {base : Heap} {f_is_number f_is_tuple_of f_places_of f_is_label f_is_labels_like f_lets_labels f_ltape f_ldraw f_loffice f_lplaces f_lapart f_lis_alone f_ldrawn f_lbent f_ldue f_lsaid f_law c_is_labels_like P_is_labels_like : Addr} {d_is_number d_is_tuple_of d_places_of d_is_label d_is_labels_like d_lets_labels d_ltape d_ldraw d_loffice d_lplaces d_lapart d_lis_alone d_ldrawn d_lbent d_ldue d_lsaid d_law : FuncData}
theorem ok_ldraw (F : Fun K "_law_draw" "_law_draw" s_ldraw f_ldraw d_ldraw) (T : Txt K mg f_is_number f_is_tuple_of f_places_of f_is_label f_is_labels_like f_lets_labels f_ltape f_ldraw f_loffice f_lplaces f_lapart f_lis_alone f_ldrawn f_lbent f_ldue f_lsaid f_law) :
    FnOk P w K mg base CX0 (1) f_ldraw d_ldraw ["_law_tape_here", "_law_many"] spDrawT := by
  refine F.ok sc_ldraw (fun vs H Q E h => ?_) (fun cdv A outer s H vs Q E hr h => ?_)

  · obtain ⟨f, c, m, n, rfl, _⟩ := h
    rfl
  obtain ⟨f, c, m, n, rfl, ⟨cells, at_, g, hf, hc, h63, h0, hn⟩, hn2, hm0, hm1, q0⟩ := h
  refine ⟨_, (pss_cons (ps_if (pt_cmpR op_gt (pe_ix ix_list (pv 0) pe_int (fun _ _ => rfl)) pe_int (nomark _))
  (pss_cons (ps_set (i := 2) sc_ldraw.nd rfl (.inl rfl) (pe_op op_modN (pe_ix ix_list (pv 0) pe_int (fun _ _ => rfl)) (pv 1)))
  (pss_cons (ps_asg (pe_op op_fdivN (pe_ix ix_list (pv 0) pe_int (fun _ _ => rfl)) (pv 1)) (pg_sub (pv 0) pe_int set_list))
  (pss_one (ps_ret (pv 2)))))
  pss_nil)
  (pss_cons (ps_set (i := 3) sc_ldraw.nd rfl (.inl rfl) (pe_ix ix_list (pv 0) pe_int (fun _ _ => rfl)))
  (pss_cons (ps_asg (pe_op op_add (pv 3) pe_int) (pg_sub (pv 0) pe_int set_list))
  (pss_cons (ps_set (i := 4) sc_ldraw.nd rfl (.inl rfl) (pe_ifExp (pt_cmpR (op_neP hr) (pe_ix ix_list (pv 0) pe_int (fun _ _ => rfl)) (pe_lst pa_nil) (nomark _)) (pe_ix ix_list (pe_ix ix_list (pv 0) pe_int (fun _ _ => rfl)) (pe_op op_modN (pv 3) (pe_callB call_len_seq (by rfl) T.len (by decide +kernel) (pa_cons (pe_ix ix_list (pv 0) pe_int (fun _ _ => rfl)) pa_nil))) (fun _ _ => rfl)) pe_int))
  (pss_cons (ps_if (PW.pt (pw_and (pt_cmpR op_ge (pv 4) (pe_op op_pow pe_int pe_int) (nomark _)) (pw_and1 (pt_cmpR op_lt (pv 3) (pe_callB call_len_seq (by rfl) T.len (by decide +kernel) (pa_cons (pe_ix ix_list (pv 0) pe_int (fun _ _ => rfl)) pa_nil)) (nomark _)))))
  (pss_cons (ps_asg (pe_op op_fdivN (pv 4) (pv 1)) (pg_sub (pv 0) pe_int set_list))
  (pss_one (ps_ret (pe_op op_modN (pv 4) (pv 1)))))
  pss_nil)
  (pss_cons (ps_set (i := 5) sc_ldraw.nd rfl (.inl rfl) (pe_op op_modN (pe_op op_mul (pe_op op_add (pe_op op_add (pe_op op_add (pe_op op_modN (pv 4) pe_int) (pe_op op_mul (pe_op op_mul pe_int (pv 3)) (pv 3))) (pe_op op_mul pe_int (pv 3))) pe_int) pe_int) pe_int))
  (pss_one (ps_ret (pe_op op_modN (pe_op op_fdivN (pe_op op_modN (pe_op op_mul (pe_op op_add (pv 5) (pe_op op_mul pe_int (pv 3))) pe_int) pe_int) pe_int) (pv 1)))))))))), ?_⟩
  have hcf : c ≠ f := fd_ne hf hc
  refine ⟨_, rfl, f, _, _, _, rfl, rfl, SqL.of hf, rfl, _, _, rfl, rfl, _, rfl, ?_⟩
  refine ite2 (fun cg => ?_) (fun cg => ?_)
  · refine ⟨_, rfl, f, _, _, _, rfl, rfl, SqL.of hf, rfl, _, rfl, _, _, rfl, rfl, by omega, ?_⟩
    refine ⟨_, rfl, f, _, _, _, rfl, rfl, SqL.of hf, rfl, _, rfl, _, _, rfl, rfl, ⟨by omega, by omega⟩, ?_⟩
    refine ⟨_, rfl, f, _, _, 2, rfl, rfl, hf, rfl, ?_⟩
    refine ⟨_, rfl, ?_⟩
    exact q0 _ _ (mod_lo _ _ hm0) (mod_hi _ _ hm0) ⟨cells, at_, _, upd_same, (upd_ne hcf).trans hc, h63, h0, by omega⟩ But.feed
  refine ⟨_, rfl, f, _, _, _, rfl, rfl, SqL.of hf, rfl, ?_⟩
  refine ⟨_, rfl, _, _, rfl, rfl, ?_⟩
  refine ⟨_, rfl, f, _, _, 1, rfl, rfl, hf, rfl, ?_⟩
  generalize hG : upd H f (HO.lst ([V.ref c, V.int at_, V.int g].set 1 ((fun i j => V.int (i + j)) at_ 1))) = G
  have hfG : G f = some (.lst [.ref c, .int (at_ + 1), .int g]) := by rw [← hG]; exact upd_same
  have hcG : G c = some (.lst (cells.map V.int)) := by rw [← hG]; exact (upd_ne hcf).trans hc
  have BG : But f H G := by rw [← hG]; exact But.feed
  refine ⟨_, rfl, f, _, _, _, rfl, rfl, SqL.of hfG, rfl, (show 0 ≤ sizeLine by decide), fun e ne => ?_⟩
  have NE := same_new ne (.lst [])
  have hf1 := NE _ _ hfG
  have hc1 := NE _ _ hcG
  have he1 : upd G e (.lst []) e = some (.lst []) := upd_same
  have B1 : But f H (upd G e (.lst [])) := BG.trans (But.of_same NE)
  generalize upd G e (HO.lst []) = H1 at *
  have q : ∀ (d : Int) (Hx : Hp), 0 ≤ d → d < m → Hx = H1 → Q (.int d) Hx := fun d Hx h1 h2 h3 => by
    subst h3
    exact q0 d _ h1 h2 ⟨cells, at_ + 1, g, hf1, hc1, h63, by omega, by omega⟩ B1
  have q2 : ∀ (d g' : Int), 0 ≤ d → d < m → True → Q (.int d) (upd H1 f (.lst [.ref c, .int (at_ + 1), .int g'])) := fun d g' h1 h2 _ => q0 d _ h1 h2 ⟨cells, at_ + 1, g', upd_same, (upd_ne hcf).trans hc1, h63, by omega, by omega⟩ (B1.trans But.feed)
  refine ⟨.list (cells.map .int), .list [], .lst (SqL.of hc1) (ints_all' cells), .lst (SqL.of he1) .nil, ints_plain cells, rfl, ints_depth cells, _, rfl, ?_⟩
  refine ite2 (fun c1 => ?_) (fun c1 => ?_)
  · have hl : 0 < cells.length := by
      cases cells with
      | nil => exact absurd c1 (by decide)
      | cons x l => exact Nat.succ_pos _
    obtain ⟨cell, hcell⟩ := at_mod at_ hl
    refine ⟨_, rfl, f, _, _, _, rfl, rfl, SqL.of hf1, rfl, _, rfl, _, rfl, f, _, _, _, rfl, rfl, SqL.of hf1, rfl, c, _, rfl, .inl (SqL.of hc1), _, _, rfl, rfl, ?_, c, _, _, _, rfl, rfl, SqL.of hc1, hcell, ?_⟩
    · rw [List.length_map]
      omega
    refine ⟨_, rfl, _, _, rfl, rfl, ⟨by decide, by decide, by decide⟩, _, _, rfl, rfl, _, rfl, ?_⟩
    refine ite2 (fun c2 => ?_) (fun c2 => ?_)
    · refine ⟨_, rfl, _, rfl, f, _, _, _, rfl, rfl, SqL.of hf1, rfl, c, _, rfl, .inl (SqL.of hc1), _, _, rfl, rfl, _, rfl, ?_⟩
      refine ite2 (fun c3 => ?_) (fun c3 => ?_)
      · refine ⟨_, rfl, _, rfl, _, _, rfl, rfl, ⟨by omega, by omega⟩, ?_⟩
        refine ⟨_, rfl, f, _, _, 2, rfl, rfl, hf1, rfl, ?_⟩
        refine ⟨_, rfl, _, rfl, _, _, rfl, rfl, by omega, ?_⟩
        exact q2 _ _ (mod_lo _ _ hm0) (mod_hi _ _ hm0) trivial
      ·
        refine ⟨_, rfl, _, _, rfl, rfl, (by show (_ : Int) ≠ 0; decide), _, rfl, _, _, rfl, rfl, .inl ⟨by decide, by decide⟩, _, rfl, _, _, rfl, rfl, .inl ⟨by omega, by omega⟩, _, _, rfl, rfl, _, rfl, _, _, rfl, rfl, .inl ⟨by decide, by decide⟩, _, _, rfl, rfl, _, _, rfl, rfl, _, _, rfl, rfl, .inr ⟨by decide, by decide⟩, _, _, rfl, rfl, (by show (_ : Int) ≠ 0; decide), ?_⟩
        refine ⟨_, rfl, _, rfl, _, _, rfl, rfl, .inl ⟨by decide, by decide⟩, _, _, rfl, rfl, _, _, rfl, rfl, .inr ⟨by decide, by decide⟩, _, _, rfl, rfl, (by show (_ : Int) ≠ 0; decide), _, _, rfl, rfl, ⟨by decide, by decide⟩, _, rfl, _, _, rfl, rfl, by omega, ?_⟩
        exact q _ _ (mod_lo _ _ hm0) (mod_hi _ _ hm0) rfl
    ·
      refine ⟨_, rfl, _, _, rfl, rfl, (by show (_ : Int) ≠ 0; decide), _, rfl, _, _, rfl, rfl, .inl ⟨by decide, by decide⟩, _, rfl, _, _, rfl, rfl, .inl ⟨by omega, by omega⟩, _, _, rfl, rfl, _, rfl, _, _, rfl, rfl, .inl ⟨by decide, by decide⟩, _, _, rfl, rfl, _, _, rfl, rfl, _, _, rfl, rfl, .inr ⟨by decide, by decide⟩, _, _, rfl, rfl, (by show (_ : Int) ≠ 0; decide), ?_⟩
      refine ⟨_, rfl, _, rfl, _, _, rfl, rfl, .inl ⟨by decide, by decide⟩, _, _, rfl, rfl, _, _, rfl, rfl, .inr ⟨by decide, by decide⟩, _, _, rfl, rfl, (by show (_ : Int) ≠ 0; decide), _, _, rfl, rfl, ⟨by decide, by decide⟩, _, rfl, _, _, rfl, rfl, by omega, ?_⟩
      exact q _ _ (mod_lo _ _ hm0) (mod_hi _ _ hm0) rfl
  ·
    refine ⟨_, rfl, _, _, rfl, rfl, ⟨by decide, by decide, by decide⟩, _, _, rfl, rfl, _, rfl, ?_⟩
    refine ite2 (fun c2 => ?_) (fun c2 => ?_)
    · refine ⟨_, rfl, _, rfl, f, _, _, _, rfl, rfl, SqL.of hf1, rfl, c, _, rfl, .inl (SqL.of hc1), _, _, rfl, rfl, _, rfl, ?_⟩
      refine ite2 (fun c3 => ?_) (fun c3 => ?_)
      · refine ⟨_, rfl, _, rfl, _, _, rfl, rfl, ⟨by omega, by omega⟩, ?_⟩
        refine ⟨_, rfl, f, _, _, 2, rfl, rfl, hf1, rfl, ?_⟩
        refine ⟨_, rfl, _, rfl, _, _, rfl, rfl, by omega, ?_⟩
        exact q2 _ _ (mod_lo _ _ hm0) (mod_hi _ _ hm0) trivial
      ·
        refine ⟨_, rfl, _, _, rfl, rfl, (by show (_ : Int) ≠ 0; decide), _, rfl, _, _, rfl, rfl, .inl ⟨by decide, by decide⟩, _, rfl, _, _, rfl, rfl, .inl ⟨by omega, by omega⟩, _, _, rfl, rfl, _, rfl, _, _, rfl, rfl, .inl ⟨by decide, by decide⟩, _, _, rfl, rfl, _, _, rfl, rfl, _, _, rfl, rfl, .inr ⟨by decide, by decide⟩, _, _, rfl, rfl, (by show (_ : Int) ≠ 0; decide), ?_⟩
        refine ⟨_, rfl, _, rfl, _, _, rfl, rfl, .inl ⟨by decide, by decide⟩, _, _, rfl, rfl, _, _, rfl, rfl, .inr ⟨by decide, by decide⟩, _, _, rfl, rfl, (by show (_ : Int) ≠ 0; decide), _, _, rfl, rfl, ⟨by decide, by decide⟩, _, rfl, _, _, rfl, rfl, by omega, ?_⟩
        exact q _ _ (mod_lo _ _ hm0) (mod_hi _ _ hm0) rfl
    ·
      refine ⟨_, rfl, _, _, rfl, rfl, (by show (_ : Int) ≠ 0; decide), _, rfl, _, _, rfl, rfl, .inl ⟨by decide, by decide⟩, _, rfl, _, _, rfl, rfl, .inl ⟨by omega, by omega⟩, _, _, rfl, rfl, _, rfl, _, _, rfl, rfl, .inl ⟨by decide, by decide⟩, _, _, rfl, rfl, _, _, rfl, rfl, _, _, rfl, rfl, .inr ⟨by decide, by decide⟩, _, _, rfl, rfl, (by show (_ : Int) ≠ 0; decide), ?_⟩
      refine ⟨_, rfl, _, rfl, _, _, rfl, rfl, .inl ⟨by decide, by decide⟩, _, _, rfl, rfl, _, _, rfl, rfl, .inr ⟨by decide, by decide⟩, _, _, rfl, rfl, (by show (_ : Int) ≠ 0; decide), _, _, rfl, rfl, ⟨by decide, by decide⟩, _, rfl, _, _, rfl, rfl, by omega, ?_⟩
      exact q _ _ (mod_lo _ _ hm0) (mod_hi _ _ hm0) rfl

theorem ok_ltape (F : Fun K "_law_tape" "_law_tape" s_ltape f_ltape d_ltape) (T : Txt K mg f_is_number f_is_tuple_of f_places_of f_is_label f_is_labels_like f_lets_labels f_ltape f_ldraw f_loffice f_lplaces f_lapart f_lis_alone f_ldrawn f_lbent f_ldue f_lsaid f_law) :
    FnOk P w K mg base CX0 (1) f_ltape d_ltape ["_law_script"] (spFeed K) := by
  refine F.ok sc_ltape (fun vs H Q E h => ?_) (fun cdv A outer s H vs Q E hr h => ?_)

  · obtain ⟨a, ns, rfl, _⟩ := h
    rfl
  obtain ⟨a, ns, rfl, hs, q⟩ := h
  refine ⟨_, (pss_one (ps_ret (pe_lst (pa_cons (pe_slice sl_list (pv 0) po_none (po_some pe_int)) (pa_cons pe_int (pa_cons pe_int pa_nil)))))), ?_⟩
  refine ⟨_, rfl, _, rfl, a, _, rfl, hs, fun c hc => ?_⟩
  have e : cutV (ns.map V.int) none (some 63) = (ns.take 63).map V.int := (cut_take _ 63).trans (List.map_take).symm
  refine ⟨(show 3 ≤ sizeLine by decide), fun f hf => ?_⟩
  have hcf : c ≠ f := ne_of_none upd_same hf
  refine q f c _ (free_of hf) ((same_new hc _).trans (same_new hf _)) ⟨ns.take 63, 0, 0, upd_same, (upd_ne hcf).trans (by rw [upd_same, e]), List.length_take_le .., Int.le_refl _, Int.le_refl _⟩

theorem ok_lplaces (F : Fun K "_law_places" "_law_places" s_lplaces f_lplaces d_lplaces) (T : Txt K mg f_is_number f_is_tuple_of f_places_of f_is_label f_is_labels_like f_lets_labels f_ltape f_ldraw f_loffice f_lplaces f_lapart f_lis_alone f_ldrawn f_lbent f_ldue f_lsaid f_law) :
    FnOk P w K mg base CX0 (1) f_lplaces d_lplaces ["_law_office_here"] spPlaces := by
  refine F.ok sc_lplaces (fun vs H Q E h => ?_) (fun cdv A outer s H vs Q E hr h => ?_)

  · obtain ⟨o, ws, E1, rfl, _⟩ := h
    rfl
  obtain ⟨o, ws, E1, rfl, hof, ok, q⟩ := h
  refine ⟨_, (pss_cons (ps_set (i := 1) sc_lplaces.nd rfl (.inr rfl) (pe_lst (pa_cons pe_str pa_nil)))
  (pss_cons (ps_for PassesOwn.never rfl (pi_tup (pe_ix ix_tup (pv 0) pe_int (fun _ _ => rfl))) (pg_name (i := 2) sc_lplaces.nd rfl (.inl rfl))
  (pss_one (ps_expr (pe_bm PySem.F.plainAttrs_list PySem.F.slot_list_extend PySem.F.type_list_extend mt_extend (pv 1) (pa_cons (pe_lc (own := [("_law_place", 3)]) (g := (gName 3)) (by rfl) sc_lplaces.nd (pi_tup (pv 2)) (blkOk_by (own := [("_law_place", 3)]) (N := ["_law_office_here", "_law_found", "_law_road", "_law_place"]) (sc := defScope s_lplaces) (by decide +kernel)) (fun _ _ _ _ _ => (pg_name (i := 3) sc_lplaces.nd rfl (.inl rfl))) (fun _ _ _ _ _ => (pts_one (pt_cmpR (show OpR _ (compareOp .NotIn) (rIn K true) from op_notIn_seq) (pv 3) (pv 1) (by rfl)))) (fun _ _ _ _ _ => (pv 3))) pa_nil)))))
  (pss_one (ps_ret (pe_callB (cr_sortedD hr) (by rfl) T.sorted (by decide +kernel) (pa_cons (pv 1) pa_nil)))))), ?_⟩
  obtain ⟨w', r', wp, rp, ho, hw, hrr, hws, hrd⟩ := hof
  have rl := hrd.len
  have le := ok.le
  refine ⟨(show 1 ≤ sizeLine by decide), fun F hF => ?_⟩
  have N0 := same_new hF (.lst [.str gNone])
  refine ⟨_, rfl, o, _, _, _, rfl, rfl, SqT.of (N0 _ _ ho), rfl, r', rfl, ⟨_, SqT.of (N0 _ _ hrr)⟩, ?_⟩
  refine for_tup (K := K) (a := r') (xs := rp.map V.ref) (fun i σ H' => ∃ (pl : List Str) (v2 v3 : Option V), σ = [some (.ref o), some (.ref F), v2, v3] ∧ Same H H' ∧ H' F = some (.lst (pl.map V.str)) ∧ pl.Nodup ∧ (∀ y, y ∈ pl ↔ plc (E1.take i) y) ∧ pl.length ≤ 1 + 2 * i) ?_ ?_ ?_ ?_
  · refine ⟨[gNone], none, none, rfl, N0, upd_same, by simp, fun y => ?_, Nat.le_refl _⟩
    rw [List.mem_singleton]
    refine ⟨.inl, ?_⟩
    rintro (h | ⟨e, he, _⟩)
    · exact h
    · exact nomatch he
  · rintro i σ H' _ ⟨_, _, _, _, S, _⟩
    exact SqT.of (S _ _ hrr)
  · rintro i y σ H1 hy ⟨pl, v2, v3, rfl, S1, hF1, nd, mem, len⟩
    obtain ⟨u, hu, rfl⟩ : ∃ u, rp[i]? = some u ∧ y = V.ref u := by
      rw [List.getElem?_map] at hy
      cases e : rp[i]? with
      | none => rw [e] at hy; cases hy
      | some p => rw [e] at hy; exact ⟨p, rfl, (Option.some.inj hy).symm⟩
    obtain ⟨e, he1, he2⟩ := Rds.get hrd hu
    obtain ⟨hi2, ee⟩ := List.getElem?_eq_some_iff.mp he1
    have oke := ok.ed e (List.mem_of_getElem? he1)
    have hu1 := S1 _ _ he2
    refine ⟨_, rfl, .inl ⟨rfl, _, SqL.of hF1⟩, _, rfl, u, rfl, ⟨_, SqT.of hu1⟩, fun D hD => ?_⟩
    have FD : F ≠ D := ne_of_none hF1 hD
    refine lc_tup (K := K) (a := u) (xs := [e.1, e.2].map V.str) (fun j H' => Same H1 H' ∧ H' D = some (.lst ((([e.1, e.2].take j).filter fun z => !decide (z ∈ pl)).map V.str))) ⟨same_new hD _, upd_same⟩ (fun j H' _ h => SqT.of (h.1 _ _ hu1)) ?_ ?_
    · rintro j z H2 hz ⟨S2, hD2⟩
      obtain ⟨s, hs, rfl⟩ : ∃ s, [e.1, e.2][j]? = some s ∧ z = V.str s := by
        rw [List.getElem?_map] at hz
        cases e' : [e.1, e.2][j]? with
        | none => rw [e'] at hz; cases hz
        | some p => rw [e'] at hz; exact ⟨p, rfl, (Option.some.inj hz).symm⟩
      obtain ⟨hj, es⟩ := List.getElem?_eq_some_iff.mp hs
      have more : ([e.1, e.2].take (j + 1)).filter (fun z => !decide (z ∈ pl)) = ([e.1, e.2].take j).filter (fun z => !decide (z ∈ pl)) ++ if (!decide (s ∈ pl)) = true then [s] else [] := by
        rw [List.take_succ_eq_append_getElem hj, List.filter_append, es]
        congr 1
        by_cases c : s ∈ pl <;> simp [c]
      refine ⟨rfl, _, rfl, _, rfl, F, _, rfl, .inl (SqL.of (S2 _ _ hF1)), rfl, flat_strs' _, _, rfl, ?_⟩
      rw [show (if true = true then !inV (V.str s) (pl.map V.str) else inV (V.str s) (pl.map V.str)) = !decide (s ∈ pl) from by rw [if_pos rfl, inV_strs]]
      refine ite2 (fun c => ?_) (fun c => ?_)
      · rw [if_pos c] at more
        refine ⟨_, rfl, _, hD2, ?_, same_mut S2 hD, ?_⟩
        · rw [List.length_map]
          refine Nat.lt_of_le_of_lt (Nat.le_trans (List.length_filter_le _ _) ?_) (show 100 < sizeLine by decide)
          exact Nat.le_trans (List.length_take_le _ _) (by have hj : j < 2 := hj; omega)
        · rw [upd_same, more, List.map_append]
          rfl
      · rw [if_neg c, List.append_nil] at more
        exact ⟨S2, by rw [more]; exact hD2⟩
    · rintro H2 ⟨S2, hD2⟩
      have hD2 : H2 D = some (.lst (([e.1, e.2].filter fun z => !decide (z ∈ pl)).map V.str)) := hD2
      have fl : ([e.1, e.2].filter fun z => !decide (z ∈ pl)).length ≤ 2 := List.length_filter_le _ _
      refine ⟨F, D, _, _, rfl, rfl, S2 _ _ hF1, hD2, ?_, pl ++ [e.1, e.2].filter fun z => !decide (z ∈ pl), _, _, rfl, same_mut (S1.trans S2) hF, ?_, ?_, fun y => ?_, ?_⟩
      · rw [List.length_map, List.length_map]
        have hi2' := hi2
        exact Nat.le_trans (show _ ≤ 100 by omega) (by decide)
      · rw [upd_same, List.map_append]
      · refine List.nodup_append.mpr ⟨nd, List.Pairwise.filter _ (show ([e.1, e.2] : List Str).Nodup from by simp [oke.2.2]), fun a ha b hb => ?_⟩
        obtain ⟨_, hb2⟩ := List.mem_filter.mp hb
        rintro rfl
        exact absurd (decide_eq_true ha) (by rw [Bool.not_eq_true'] at hb2; rw [hb2]; decide)
      · rw [List.mem_append, List.mem_filter, List.take_succ_eq_append_getElem hi2, ee]
        constructor
        · rintro (h | ⟨h, _⟩)
          · rcases (mem y).mp h with h | ⟨x, hx, h⟩
            · exact .inl h
            · exact .inr ⟨x, List.mem_append_left _ hx, h⟩
          · refine .inr ⟨e, List.mem_append_right _ List.mem_cons_self, ?_⟩
            simp only [List.mem_cons, List.not_mem_nil, or_false] at h
            exact h
        · rintro (h | ⟨x, hx, h⟩)
          · exact .inl ((mem y).mpr (.inl h))
          · rcases List.mem_append.mp hx with hx | hx
            · exact .inl ((mem y).mpr (.inr ⟨x, hx, h⟩))
            · rw [List.mem_singleton.mp hx] at h
              by_cases c : y ∈ pl
              · exact .inl c
              · refine .inr ⟨?_, by rw [decide_eq_false c]; rfl⟩
                simp only [List.mem_cons, List.not_mem_nil, or_false]
                exact h
      · rw [List.length_append]
        omega
  · rintro σ H1 ⟨pl, v2, v3, rfl, S1, hF1, nd, mem, len⟩
    rw [List.length_map, rl] at len
    rw [List.length_map, rl, List.take_length] at mem
    refine ⟨_, rfl, F, _, pl.map .str, rfl, SqL.of hF1, strs_all pl, strs_alike pl, strs_sortable pl, strs_flat pl, fun p hp => ?_⟩
    rw [sort_strs]
    refine q p _ _ (S1.trans (same_new hp _)) (S1.free hp) upd_same (sorted_up nd) (fun y => ?_) ?_
    · rw [List.mem_mergeSort]
      exact mem y
    · rw [List.length_mergeSort]
      omega

theorem ok_loffice (F : Fun K "_law_office" "_law_office" s_loffice f_loffice d_loffice) (T : Txt K mg f_is_number f_is_tuple_of f_places_of f_is_label f_is_labels_like f_lets_labels f_ltape f_ldraw f_loffice f_lplaces f_lapart f_lis_alone f_ldrawn f_lbent f_ldue f_lsaid f_law)
    (F_ldraw : Fun K "_law_draw" "_law_draw" s_ldraw f_ldraw d_ldraw) (b_ldraw : Binds K d_ldraw ["_law_tape_here", "_law_many"] []) (G_ldraw : FnOk P w K mg base CX0 (1) f_ldraw d_ldraw ["_law_tape_here", "_law_many"] spDrawT) :
    FnOk P w K mg base CX0 (2) f_loffice d_loffice ["_law_tape_here"] spOffice := by
  refine F.ok sc_loffice (fun vs H Q E h => ?_) (fun cdv A outer s H vs Q E hr h => ?_)

  · obtain ⟨f, c, n, rfl, _⟩ := h
    rfl
  obtain ⟨f, c, n, rfl, hf, hn, q⟩ := h
  refine ⟨_, (pss_cons (ps_set (i := 1) sc_loffice.nd rfl (.inr rfl) (pe_lst (pa_cons pe_str (pa_cons pe_str (pa_cons pe_str (pa_cons pe_str (pa_cons pe_str (pa_cons pe_str (pa_cons pe_str (pa_cons pe_str (pa_cons pe_str (pa_cons pe_str pa_nil))))))))))))
  (pss_cons (ps_set (i := 2) sc_loffice.nd rfl (.inl rfl) (pe_ix ix_list (pe_lst (pa_cons pe_int (pa_cons pe_int (pa_cons pe_int (pa_cons pe_int (pa_cons pe_int (pa_cons pe_int (pa_cons pe_int (pa_cons pe_int pa_nil))))))))) (pe_call G_ldraw hr (by rfl) T.m_ldraw F_ldraw.kp b_ldraw .nil pass0 (pa_cons (pv 0) (pa_cons pe_int pa_nil))) (fun _ _ => rfl)))
  (pss_cons (ps_set (i := 3) sc_loffice.nd rfl (.inr rfl) (pe_call G_ldraw hr (by rfl) T.m_ldraw F_ldraw.kp b_ldraw .nil pass0 (pa_cons (pv 0) (pa_cons pe_int pa_nil))))
  (pss_cons (ps_set (i := 4) sc_loffice.nd rfl (.inr rfl) (pe_ix ix_list (pe_lst (pa_cons pe_int (pa_cons pe_int (pa_cons pe_int (pa_cons pe_int pa_nil))))) (pe_call G_ldraw hr (by rfl) T.m_ldraw F_ldraw.kp b_ldraw .nil pass0 (pa_cons (pv 0) (pa_cons pe_int pa_nil))) (fun _ _ => rfl)))
  (pss_cons (ps_setLc (i := 5) (own := [("_law_k", 6)]) (g := (gName 6)) (by rfl) sc_loffice.nd rfl rfl (sw_true rfl rfl rfl (by decide +kernel)) (pi_range1 (by rfl) T.range (pa_cons (pv 2) pa_nil)) (blkOk_by (own := [("_law_k", 6)]) (N := ["_law_tape_here", "_law_words", "_law_many", "_law_first", "_law_step", "_law_places_here", "_law_k", "_law_roads", "_law_one", "_law_other", "_law_worths"]) (sc := defScope s_loffice) (by decide +kernel)) (fun _ _ _ _ _ => (pg_name (i := 6) sc_loffice.nd rfl (.inl rfl))) (fun _ _ _ _ _ => pts_nil) (fun _ _ _ _ _ => (pe_ix (show IxR _ (rIxL K) from ix_list) (pv 1) (pe_op op_modN (pe_op op_add (pv 3) (pe_op op_mul (pv 4) (pv 6))) pe_int) (fun _ _ => rfl))))
  (pss_cons (ps_set (i := 7) sc_loffice.nd rfl (.inl rfl) (pe_lst pa_nil))
  (pss_cons (ps_for PassesOwn.never rfl (pi_range1 (by rfl) T.range (pa_cons (pe_op op_add pe_int (pe_call G_ldraw hr (by rfl) T.m_ldraw F_ldraw.kp b_ldraw .nil pass0 (pa_cons (pv 0) (pa_cons pe_int pa_nil)))) pa_nil)) (pg_name (i := 6) sc_loffice.nd rfl (.inl rfl))
  (pss_cons (ps_set (i := 8) sc_loffice.nd rfl (.inr rfl) (pe_ix ix_list (pe_op op_cat (pe_lst (pa_cons pe_str pa_nil)) (pv 5)) (pe_call G_ldraw hr (by rfl) T.m_ldraw F_ldraw.kp b_ldraw .nil pass0 (pa_cons (pv 0) (pa_cons (pe_op op_add (pv 2) pe_int) pa_nil))) (fun _ _ => rfl)))
  (pss_cons (ps_set (i := 9) sc_loffice.nd rfl (.inl rfl) (pe_ix ix_list (pv 5) (pe_call G_ldraw hr (by rfl) T.m_ldraw F_ldraw.kp b_ldraw .nil pass0 (pa_cons (pv 0) (pa_cons (pv 2) pa_nil))) (fun _ _ => rfl)))
  (pss_one (ps_if (PW.pt (pw_and (pt_cmpR op_ne (pv 8) (pv 9) (nomark _)) (pw_and1 (pt_cmpR (op_notinLP hr) (pe_tup (pa_cons (pv 8) (pa_cons (pv 9) pa_nil))) (pv 7) (by rfl)))))
  (pss_one (ps_expr (pe_bm PySem.F.plainAttrs_list PySem.F.slot_list_append PySem.F.type_list_append mt_append (pv 7) (pa_cons (pe_tup (pa_cons (pv 8) (pa_cons (pv 9) pa_nil))) pa_nil))))
  pss_nil)))))
  (C8.pss_cut (ps_if (pt_cmpR (op_eqP hr) (pv 7) (pe_lst pa_nil) (nomark _))
  (pss_one (ps_expr (pe_bm PySem.F.plainAttrs_list PySem.F.slot_list_append PySem.F.type_list_append mt_append (pv 7) (pa_cons (pe_tup (pa_cons pe_str (pa_cons (pe_ix ix_list (pv 5) pe_int (fun _ _ => rfl)) pa_nil))) pa_nil))))
  pss_nil)
  (C8.pss_cut (ps_if (pt_cmpR op_eq (pe_call G_ldraw hr (by rfl) T.m_ldraw F_ldraw.kp b_ldraw .nil pass0 (pa_cons (pv 0) (pa_cons pe_int pa_nil))) pe_int (nomark _))
  (pss_cons (ps_set (i := 7) sc_loffice.nd rfl (.inl rfl) (pe_lst pa_nil))
  (pss_cons (ps_for PassesOwn.never rfl (pi_list (pe_op op_cat (pe_lst (pa_cons pe_str pa_nil)) (pv 5))) (pg_name (i := 8) sc_loffice.nd rfl (.inr rfl))
  (pss_one (ps_expr (pe_bm PySem.F.plainAttrs_list PySem.F.slot_list_extend PySem.F.type_list_extend mt_extend (pv 7) (pa_cons (pe_lc (own := [("_law_other", 9)]) (g := (gName 9)) (by rfl) sc_loffice.nd (pi_list (pv 5)) (blkOk_by (own := [("_law_other", 9)]) (N := ["_law_tape_here", "_law_words", "_law_many", "_law_first", "_law_step", "_law_places_here", "_law_k", "_law_roads", "_law_one", "_law_other", "_law_worths"]) (sc := defScope s_loffice) (by decide +kernel)) (fun _ _ _ _ _ => (pg_name (i := 9) sc_loffice.nd rfl (.inl rfl))) (fun _ _ _ _ _ => (pts_one (pt_cmpR op_ne (pv 9) (pv 8) (nomark _)))) (fun _ _ _ _ _ => (pe_tup (pa_cons (pv 8) (pa_cons (pv 9) pa_nil))))) pa_nil)))))
  (pss_one (ps_set (i := 7) sc_loffice.nd rfl (.inl rfl) (pe_slice sl_list (pv 7) po_none (po_some pe_int))))))
  pss_nil)
  (pss_cons (ps_set (i := 10) sc_loffice.nd rfl (.inl rfl) (pe_lst pa_nil))
  (pss_cons (ps_for PassesOwn.never rfl (pi_list (pe_slice sl_list (pe_lst (pa_cons pe_str (pa_cons pe_str (pa_cons pe_str (pa_cons pe_str pa_nil))))) po_none (po_some (pe_op op_add pe_int (pe_call G_ldraw hr (by rfl) T.m_ldraw F_ldraw.kp b_ldraw .nil pass0 (pa_cons (pv 0) (pa_cons pe_int pa_nil))))))) (pg_name (i := 8) sc_loffice.nd rfl (.inr rfl))
  (pss_one (ps_expr (pe_bm PySem.F.plainAttrs_list PySem.F.slot_list_append PySem.F.type_list_append mt_append (pv 10) (pa_cons (pe_tup (pa_cons (pv 8) (pa_cons (pe_ix ix_list (pe_lst (pa_cons pe_int (pa_cons pe_int (pa_cons pe_int (pa_cons (pe_op op_add pe_int (pe_call G_ldraw hr (by rfl) T.m_ldraw F_ldraw.kp b_ldraw .nil pass0 (pa_cons (pv 0) (pa_cons pe_int pa_nil)))) pa_nil))))) (pe_call G_ldraw hr (by rfl) T.m_ldraw F_ldraw.kp b_ldraw .nil pass0 (pa_cons (pv 0) (pa_cons pe_int pa_nil))) (fun _ _ => rfl)) pa_nil))) pa_nil)))))
  (pss_one (ps_ret (pe_tup (pa_cons (pe_callTy call_tuple_of (by rfl) T.tuple (by decide +kernel) (pa_cons (pv 10) pa_nil)) (pa_cons (pe_callTy call_tuple_of (by rfl) T.tuple (by decide +kernel) (pa_cons (pe_callB (cr_sortedD hr) (by rfl) T.sorted (by decide +kernel) (pa_cons (pv 7) pa_nil)) pa_nil)) pa_nil)))))))))))))))), ?_⟩
  refine ⟨(show 10 ≤ sizeLine by decide), fun W hW => ?_⟩
  have fW := hf.new (o := .lst (gWords.map V.str)) hW
  have neW := hf.ne hW
  have B0 : But f H (upd H W (.lst (gWords.map V.str))) := But.new hW
  have hW1 : upd H W (.lst (gWords.map V.str)) W = some (.lst (gWords.map V.str)) := upd_same
  change tSeq _ _ _ _ (upd H W (.lst (gWords.map V.str)))
  generalize upd H W (.lst (gWords.map V.str)) = H0 at *
  refine ⟨(show 8 ≤ sizeLine by decide), fun la hla => ?_⟩
  refine ⟨_, rfl, f, c, 8, n, rfl, fW.new hla, by omega, by decide, by decide, fun d1 H1 d10 d11 hf1 b1 => ?_⟩
  obtain ⟨m, m0, m1, am⟩ := few8 d10 d11
  have hla1 := b1 _ _ ((fW.ne hla).1) upd_same
  refine ⟨la, _, _, _, rfl, rfl, SqL.of hla1, am, ?_⟩
  refine ⟨_, rfl, f, c, 10, n + 1, rfl, hf1, by omega, by decide, by decide, fun d2 H2 d20 d21 hf2 b2 => ?_⟩
  refine ⟨(show 4 ≤ sizeLine by decide), fun lb hlb => ?_⟩
  refine ⟨_, rfl, f, c, 4, n + 1 + 1, rfl, hf2.new hlb, by omega, by decide, by decide, fun d3 H3 d30 d31 hf3 b3 => ?_⟩
  obtain ⟨st, st0, st1, ast⟩ := few4 d30 d31
  have hlb1 := b3 _ _ ((hf2.ne hlb).1) upd_same
  refine ⟨lb, _, _, _, rfl, rfl, SqL.of hlb1, ast, ?_⟩
  have B3 : But f H H3 := B0.trans ((But.new hla).trans (b1.trans (b2.trans ((But.new hlb).trans b3))))
  have hW3 : H3 W = some (.lst (gWords.map V.str)) := ((But.new hla).trans (b1.trans (b2.trans ((But.new hlb).trans b3)))) _ _ neW.1 hW1
  clear hla1 hlb1 am ast b1 b2 b3 hf1 hf2 B0
  refine ⟨_, rfl, m, rfl, by omega, by omega, fun D hD => ?_⟩
  have neD := hf3.ne hD
  refine lc_range (lo := 0) (n := m.toNat) (fun i H' => ∃ xs : List Str, Same H3 H' ∧ H' D = some (.lst (xs.map V.str)) ∧ xs.length = i ∧ ∀ x ∈ xs, x ∈ gWords) ⟨[], same_new hD _, upd_same, rfl, fun _ h => nomatch h⟩ ?_ ?_
  · rintro i H' hi ⟨xs, S, hD', len, ok⟩
    have w0 := mod_lo (d2 + st * (0 + (i : Int))) 10 (by decide)
    have w1 := mod_hi (d2 + st * (0 + (i : Int))) 10 (by decide)
    obtain ⟨nm, nm1, nm2⟩ := pick_str (xs := gWords) w0 w1
    refine ⟨rfl, _, rfl, _, rfl, _, rfl, _, rfl, _, _, rfl, rfl, .inl ⟨by omega, by omega⟩, _, _, rfl, rfl, _, _, rfl, rfl, (by show (10 : Int) ≠ 0; decide), W, _, _, _, rfl, rfl, SqL.of (S _ _ hW3), nm2, _, hD', ?_, xs ++ [nm], same_mut S hD, ?_, ?_, fun y hy => ?_⟩
    · rw [List.length_map, len]
      exact Nat.lt_of_lt_of_le (show _ < 100 by omega) (by decide)
    · rw [upd_same, List.map_append]
      rfl
    · rw [List.length_append, List.length_singleton, len]
    · rcases List.mem_append.mp hy with hy | hy
      · exact ok y hy
      · rw [List.mem_singleton.mp hy]
        exact nm1
  rintro H4 ⟨xs, S4, hD4, len, okx⟩
  have hf4 := hf3.same S4
  have B4 : But f H H4 := B3.trans (But.of_same S4)
  clear S4 hf3 hW3 B3 hD
  have xl : (xs.length : Int) = m := by omega
  generalize hH5 : H4 = H5 at *
  clear hH5
  refine ⟨(show 0 ≤ sizeLine by decide), fun R hR => ?_⟩
  refine ⟨_, rfl, f, c, 16, n + 1 + 1 + 1, rfl, hf4.new hR, by omega, by decide, by decide, fun d4 H6 d40 d41 hf6 b6 => ⟨_, _, rfl, rfl, 1 + d4, rfl, by omega, by omega, ?_⟩⟩
  have neR := hf4.ne hR
  have B6 : But f H5 H6 := (But.new hR).trans b6
  refine for_range (lo := 0) (n := (1 + d4).toNat) (fun i σ H' => ∃ (ps : List Addr) (es : List Ed) (v6 v8 v9 v10 : Option V), σ = [some (.ref f), some (.ref W), some (.int m), some (.int d2), some (.int st), some (.ref D), v6, some (.ref R), v8, v9, v10] ∧ Fd H' f c (n + 4 + 2 * i) ∧ But f H5 H' ∧ H' R = some (.lst (ps.map V.ref)) ∧ Rds H' ps es ∧ es.length ≤ i ∧ ∀ e ∈ es, EdOk e) ?_ ?_ ?_
  · exact ⟨[], [], none, none, none, none, rfl, hf6.mono (by omega), B6, b6 _ _ neR.1 upd_same, .nil, Nat.le_refl _, fun _ h => nomatch h⟩
  · rintro i σ H7 hi ⟨ps, es, v6, v8, v9, v10, rfl, hf7, B7, hR7, rd7, le7, ok7⟩
    have rl := rd7.len
    refine ⟨(show 1 ≤ sizeLine by decide), fun p1 hp1 => ?_⟩
    have Np1 := same_new hp1 (.lst [.str gNone])
    have hD7 := B7 _ _ neD.1 hD4
    refine ⟨_, rfl, p1, D, _, _, rfl, rfl, upd_same, Np1 _ _ hD7, ?_, fun p2 hp2 => ?_⟩
    · rw [List.length_map]
      exact Nat.le_trans (show 1 + xs.length ≤ 100 by omega) (by decide)
    have Np2 := same_new hp2 (.lst ([.str gNone] ++ xs.map V.str))
    have N12 := Np1.trans Np2
    have fd12 := hf7.same N12
    have ne2 := (hf7.same Np1).ne hp2
    refine ⟨_, rfl, _, rfl, _, _, rfl, rfl, f, c, m + 1, _, rfl, fd12, by omega, by omega, by omega, fun e1 H8 e10 e11 hf8 b8 => ?_⟩
    obtain ⟨one, one1, one2⟩ := pick_str (xs := gNone :: xs) (d := e1) e10 (by rw [List.length_map, List.length_cons]; omega)
    refine ⟨p2, _, _, _, rfl, rfl, SqL.of (b8 _ _ ne2.1 upd_same), one2, ?_⟩
    have B8 : But f H5 H8 := B7.trans ((But.of_same N12).trans b8)
    have hR8 := b8 _ _ neR.1 (N12 _ _ hR7)
    have rd8 := (rd7.same N12).but fd12 b8
    have hD8 := B8 _ _ neD.1 hD4
    refine ⟨_, rfl, _, rfl, _, rfl, f, c, m, _, rfl, hf8, by omega, by omega, by omega, fun e2 H9 e20 e21 hf9 b9 => ?_⟩
    obtain ⟨oth, oth1, oth2⟩ := pick_str (xs := xs) (d := e2) e20 (by rw [List.length_map]; omega)
    have B9 := B8.trans b9
    have hR9 := b9 _ _ neR.1 hR8
    have rd9 := rd8.but hf8 b9
    have hD9 := B9 _ _ neD.1 hD4
    refine ⟨D, _, _, _, rfl, rfl, SqL.of hD9, oth2, ?_⟩
    have ok1 : NmOk one := by
      rcases List.mem_cons.mp one1 with rfl | z
      · exact gn_ok
      · exact (gw_ok _ (okx _ z)).1
    have ok2 : NmOk oth := (gw_ok _ (okx _ oth1)).1
    refine ⟨_, rfl, _, rfl, rfl, _, rfl, ?_⟩
    refine ite2 (fun c1 => ?_) (fun c1 => ?_)
    · have c1 : one ≠ oth := fun z => by
        rw [z] at c1
        simp at c1
      refine ⟨_, rfl, _, rfl, (show 2 ≤ sizeLine by decide), fun u hu => ?_⟩
      have Nu := same_new hu (.tup [.str one, .str oth])
      have hR10 := Nu _ _ hR9
      have rd10 := rd9.same Nu
      have fd10 := hf9.same Nu
      refine ⟨_, rfl, edD (one, oth), es.map edD, .tup (SqT.of upd_same) (.cons (.str _) (.cons (.str _) .nil)), .lst (SqL.of hR10) rd10.dp, rfl, ed_plain _, ed_dep _, _, rfl, ?_⟩
      refine ite2 (fun c2 => ?_) (fun c2 => ?_)
      · refine ⟨_, rfl, .inl ⟨rfl, _, SqL.of hR10⟩, _, rfl, _, rfl, (show 2 ≤ sizeLine by decide), fun t ht => ?_⟩
        have Nt := same_new ht (.tup [.str one, .str oth])
        have hR11 := Nt _ _ hR10
        refine ⟨R, _, _, rfl, rfl, hR11, ?_, ?_⟩
        · rw [List.length_map, rl]
          exact Nat.lt_of_le_of_lt (show _ ≤ 100 by omega) (by decide)
        refine ⟨ps ++ [t], es ++ [(one, oth)], _, _, _, _, rfl, ((fd10.same Nt).upd neR).mono (by omega), ((B9.trans (But.of_same (Nu.trans Nt))).mut hR), ?_, ?_, ?_, fun e he => ?_⟩
        · rw [upd_same, List.map_append]
          rfl
        · exact Rds.put hR11 ((rd10.same Nt).app (Rds.mk1 upd_same))
        · rw [List.length_append, List.length_singleton]
          omega
        · rcases List.mem_append.mp he with he | he
          · exact ok7 e he
          · rw [List.mem_singleton.mp he]
            exact ⟨ok1, ok2, c1⟩
      · exact ⟨ps, es, _, _, _, _, rfl, fd10.mono (by omega), B9.trans (But.of_same Nu), hR10, rd10, by omega, ok7⟩
    · exact ⟨ps, es, _, _, _, _, rfl, hf9.mono (by omega), B9, hR9, rd9, by omega, ok7⟩
  rintro σ H7 ⟨ps, es, v6, v8, v9, v10, rfl, hf7, B7, hR7, rd7, le7, ok7⟩
  have hx0 : ∃ x0, x0 ∈ xs ∧ atI (xs.map V.str) ((0 : Nat) : Int) = some (.str x0) := by
    obtain ⟨y, y1, y2⟩ := pick_str (xs := xs) (d := ((0 : Nat) : Int)) (by decide) (by rw [List.length_map]; omega)
    exact ⟨y, y1, y2⟩
  obtain ⟨x0, x01, x02⟩ := hx0
  refine ⟨fun σ H' => ∃ (R : Addr) (ps : List Addr) (es : List Ed) (v6 v8 v9 v10 : Option V), σ = [some (.ref f), some (.ref W), some (.int m), some (.int d2), some (.int st), some (.ref D), v6, some (.ref R), v8, v9, v10] ∧ Fd H' f c (n + 40) ∧ But f H5 H' ∧ H' R = some (.lst (ps.map V.ref)) ∧ R ≠ f ∧ R ≠ c ∧ H5 R = none ∧ Rds H' ps es ∧ es.length ≤ 16 ∧ ∀ e ∈ es, EdOk e, ?_, ?_⟩
  · have hD7 := B7 _ _ neD.1 hD4
    refine ⟨_, rfl, (show 0 ≤ sizeLine by decide), fun e0 he0 => ?_⟩
    have Nz := same_new he0 (.lst [])
    have hR8 := Nz _ _ hR7
    have rd8 := rd7.same Nz
    refine ⟨.list (es.map edD), .list [], .lst (SqL.of hR8) rd8.dp, .lst (SqL.of upd_same) .nil, ed_plain _, rfl, eds_depth _, _, rfl, ?_⟩
    refine ite2 (fun c1 => ?_) (fun c1 => ?_)
    · have es0 : es = [] := by
        cases es with
        | nil => rfl
        | cons x l => exact absurd c1 (by simp [PyData.eqv, PyData.eqvAll])
      have rl := rd7.len
      have ps0 : ps = [] := by
        cases ps with
        | nil => rfl
        | cons x l => rw [es0] at rl; cases rl
      subst es0 ps0
      refine ⟨_, rfl, .inl ⟨rfl, _, SqL.of hR8⟩, _, rfl, D, _, _, _, rfl, rfl, SqL.of (Nz _ _ hD7), x02, (show 2 ≤ sizeLine by decide), fun t ht => ?_⟩
      have Nt := same_new ht (.tup [.str gNone, .str x0])
      have hR9 := Nt _ _ hR8
      refine ⟨R, _, _, rfl, rfl, hR9, (show 0 < sizeLine by decide), ?_⟩
      refine ⟨R, [t], [(gNone, x0)], _, _, _, _, rfl, (((hf7.same Nz).same Nt).upd neR).mono (by omega), ((B7.trans (But.of_same (Nz.trans Nt))).mut hR), upd_same, neR.1, neR.2, hR, ?_, (show 1 ≤ 16 by decide), fun e he => ?_⟩
      · exact Rds.put hR9 (Rds.mk1 upd_same)
      · rw [List.mem_singleton.mp he]
        exact ⟨gn_ok, (gw_ok _ (okx _ x01)).1, Ne.symm (gw_ok _ (okx _ x01)).2⟩
    · exact ⟨R, ps, es, _, _, _, _, rfl, (hf7.same Nz).mono (by omega), B7.trans (But.of_same Nz), hR8, neR.1, neR.2, hR, rd8, by omega, ok7⟩
  clear rd7 ok7 hR7 hf7 B7 le7 hR neR hf6 b6 B6
  rintro σ H7 ⟨R, ps, es, v6, v8, v9, v10, rfl, hf7, B7, hR7, Rf, Rc, R5, rd7, le7, ok7⟩
  refine ⟨fun σ H' => ∃ (R : Addr) (ps : List Addr) (es : List Ed) (v6 v8 v9 v10 : Option V), σ = [some (.ref f), some (.ref W), some (.int m), some (.int d2), some (.int st), some (.ref D), v6, some (.ref R), v8, v9, v10] ∧ Fd H' f c (n + 42) ∧ But f H5 H' ∧ H' R = some (.lst (ps.map V.ref)) ∧ R ≠ f ∧ R ≠ c ∧ H5 R = none ∧ Rds H' ps es ∧ es.length ≤ 16 ∧ ∀ e ∈ es, EdOk e, ?_, ?_⟩
  · refine ⟨_, rfl, f, c, 2, _, rfl, hf7, by omega, by decide, by decide, fun e1 H8 e10 e11 hf8 b8 => ?_⟩
    have B8 := B7.trans b8
    have hR8 := b8 _ _ Rf hR7
    have rd8 := rd7.but hf7 b8
    refine ⟨rfl, _, rfl, ?_⟩
    refine ite2 (fun c1 => ?_) (fun c1 => ?_)
    · have hD8 := B8 _ _ neD.1 hD4
      refine ⟨(show 0 ≤ sizeLine by decide), fun Z hZ => ?_⟩
      have NZ := same_new hZ (.lst [])
      have fZ := hf8.same NZ
      have neZ := hf8.ne hZ
      have Z5 := B8.back hf8 hZ
      have BZ := B8.trans (But.of_same NZ (f := f))
      have hZ0 : upd H8 Z (.lst []) Z = some (.lst []) := upd_same
      have hDZ := NZ _ _ hD8
      generalize upd H8 Z (HO.lst []) = HZ at *
      refine ⟨(show 1 ≤ sizeLine by decide), fun p1 hp1 => ?_⟩
      have Np1 := same_new hp1 (.lst [.str gNone])
      refine ⟨_, rfl, p1, D, _, _, rfl, rfl, upd_same, Np1 _ _ hDZ, ?_, fun p2 hp2 => ?_⟩
      · rw [List.length_map]
        exact Nat.le_trans (show 1 + xs.length ≤ 100 by omega) (by decide)
      have Np2 := same_new hp2 (.lst ([.str gNone] ++ xs.map V.str))
      have N12 := Np1.trans Np2
      have hp20 : upd (upd HZ p1 (.lst [.str gNone])) p2 (.lst ([.str gNone] ++ xs.map V.str)) p2 = some (.lst ((gNone :: xs).map V.str)) := upd_same
      have Z2 : Z ≠ p2 := ne_of_none (Np1 _ _ hZ0) hp2
      refine ⟨p2, rfl, ⟨_, SqL.of upd_same⟩, ?_⟩
      refine for_list (K := K) (a := p2) (xs := (gNone :: xs).map V.str) (fun i σ H' => ∃ (ps : List Addr) (es : List Ed) (v6 v8 v9 v10 : Option V), σ = [some (.ref f), some (.ref W), some (.int m), some (.int d2), some (.int st), some (.ref D), v6, some (.ref Z), v8, v9, v10] ∧ Fd H' f c (n + 42) ∧ But f H5 H' ∧ H' Z = some (.lst (ps.map V.ref)) ∧ H' p2 = some (.lst ((gNone :: xs).map V.str)) ∧ Rds H' ps es ∧ es.length ≤ 8 * i ∧ ∀ e ∈ es, EdOk e) ?_ ?_ ?_ ?_
      · exact ⟨[], [], _, _, _, _, rfl, (fZ.same N12).mono (by omega), BZ.trans (But.of_same N12), N12 _ _ hZ0, hp20, .nil, Nat.le_refl _, fun _ h => nomatch h⟩
      · rintro i σ H' _ ⟨_, _, _, _, _, _, _, _, _, _, h, _⟩
        exact SqL.of h
      · rintro i y σ H9 hy ⟨ps, es, v6, v8, v9, v10, rfl, hf9, B9, hZ9, hp9, rd9, le9, ok9⟩
        obtain ⟨one, hone, rfl⟩ : ∃ one, (gNone :: xs)[i]? = some one ∧ y = V.str one := by
          rw [List.getElem?_map] at hy
          cases e' : (gNone :: xs)[i]? with
          | none => rw [e'] at hy; cases hy
          | some p => rw [e'] at hy; exact ⟨p, rfl, (Option.some.inj hy).symm⟩
        have hi9 := (List.getElem?_eq_some_iff.mp hone).1
        rw [List.length_cons] at hi9
        have ok1 : NmOk one := by
          rcases List.mem_cons.mp (List.mem_of_getElem? hone) with rfl | z
          · exact gn_ok
          · exact (gw_ok _ (okx _ z)).1
        have hD9 := B9 _ _ neD.1 hD4
        have rl := rd9.len
        refine ⟨_, rfl, .inl ⟨rfl, _, SqL.of hZ9⟩, _, rfl, D, rfl, ⟨_, SqL.of hD9⟩, fun C hC => ?_⟩
        have ZC : Z ≠ C := ne_of_none hZ9 hC
        refine lc_list (K := K) (a := D) (xs := xs.map V.str) (fun j H' => ∃ (qs : List Addr) (ts : List Ed), Same H9 H' ∧ H' C = some (.lst (qs.map V.ref)) ∧ Rds H' qs ts ∧ ts.length ≤ j ∧ ∀ e ∈ ts, EdOk e) ⟨[], [], same_new hC _, upd_same, .nil, Nat.le_refl _, fun _ h => nomatch h⟩ (fun j H' _ h => by obtain ⟨_, _, S, _⟩ := h; exact SqL.of (S _ _ hD9)) ?_ ?_
        · rintro j z H10 hz ⟨qs, ts, S10, hC10, rd10, le10, ok10⟩
          obtain ⟨oth, hoth, rfl⟩ : ∃ oth, (xs)[j]? = some oth ∧ z = V.str oth := by
            rw [List.getElem?_map] at hz
            cases e' : (xs)[j]? with
            | none => rw [e'] at hz; cases hz
            | some p => rw [e'] at hz; exact ⟨p, rfl, (Option.some.inj hz).symm⟩
          have hj := (List.getElem?_eq_some_iff.mp hoth).1
          have ql := rd10.len
          refine ⟨rfl, _, rfl, _, rfl, rfl, _, rfl, ?_⟩
          refine ite2 (fun c2 => ?_) (fun c2 => ?_)
          · have c2 : one ≠ oth := fun z => by
              rw [z] at c2
              simp at c2
            refine ⟨_, rfl, _, rfl, (show 2 ≤ sizeLine by decide), fun t ht => ?_⟩
            have Nt := same_new ht (.tup [.str one, .str oth])
            have hC11 := Nt _ _ hC10
            refine ⟨_, hC11, ?_, qs ++ [t], ts ++ [(one, oth)], same_mut (S10.trans Nt) hC, ?_, ?_, ?_, fun e he => ?_⟩
            · rw [List.length_map, ql]
              exact Nat.lt_of_le_of_lt (show _ ≤ 100 by omega) (by decide)
            · rw [upd_same, List.map_append]
              rfl
            · exact Rds.put hC11 ((rd10.same Nt).app (Rds.mk1 upd_same))
            · rw [List.length_append, List.length_singleton]
              omega
            · rcases List.mem_append.mp he with he | he
              · exact ok10 e he
              · rw [List.mem_singleton.mp he]
                exact ⟨ok1, (gw_ok _ (okx _ (List.mem_of_getElem? hoth))).1, c2⟩
          · exact ⟨qs, ts, S10, hC10, rd10, by omega, ok10⟩
        · rintro H10 ⟨qs, ts, S10, hC10, rd10, le10, ok10⟩
          have ql := rd10.len
          rw [List.length_map] at le10
          have hZ10 := S10 _ _ hZ9
          refine ⟨Z, C, _, _, rfl, rfl, hZ10, hC10, ?_, ps ++ qs, es ++ ts, _, _, _, _, rfl, (hf9.same S10).upd neZ, (B9.trans (But.of_same S10)).mut Z5, ?_, (upd_ne (Ne.symm Z2)).trans (S10 _ _ hp9), ?_, ?_, fun e he => ?_⟩
          · rw [List.length_map, List.length_map, rl, ql]
            exact Nat.le_trans (show _ ≤ 1000 by omega) (by decide)
          · rw [upd_same, List.map_append]
          · exact Rds.put hZ10 ((rd9.same S10).app rd10)
          · rw [List.length_append]
            omega
          · rcases List.mem_append.mp he with he | he
            · exact ok9 e he
            · exact ok10 e he
      · rintro σ H9 ⟨ps, es, v6, v8, v9, v10, rfl, hf9, B9, hZ9, hp9, rd9, le9, ok9⟩
        refine ⟨_, rfl, _, rfl, Z, _, rfl, SqL.of hZ9, fun Y hY => ?_⟩
        have NY := same_new hY (.lst (cutV (ps.map V.ref) none (some 16)))
        have neY := hf9.ne hY
        have e16 : cutV (ps.map V.ref) none (some 16) = (ps.take 16).map V.ref := (cut_take _ 16).trans (List.map_take).symm
        refine ⟨Y, ps.take 16, es.take 16, _, _, _, _, rfl, hf9.same NY, B9.trans (But.of_same NY), by rw [upd_same, e16], neY.1, neY.2, B9.back hf9 hY, (rd9.same NY).take 16, List.length_take_le _ _, fun e he => ok9 e (List.mem_of_mem_take he)⟩
    · exact ⟨R, ps, es, _, _, _, _, rfl, hf8.mono (by omega), B8, hR8, Rf, Rc, R5, rd8, le7, ok7⟩
  clear rd7 ok7 hR7 hf7 B7 le7 Rf Rc R5
  rintro σ H7 ⟨R, ps, es, v6, v8, v9, v10, rfl, hf7, B7, hR7, Rf, Rc, R5, rd7, le7, ok7⟩
  refine ⟨(show 0 ≤ sizeLine by decide), fun Q2 hQ2 => ?_⟩
  have N1 := same_new hQ2 (.lst [])
  have neQ := hf7.ne hQ2
  have fd1 := hf7.same N1
  refine ⟨(show 4 ≤ sizeLine by decide), fun l0 hl0 => ?_⟩
  have N2 := same_new hl0 (.lst (gSer.map V.str))
  have fd2 := fd1.same N2
  have nel := fd1.ne hl0
  refine ⟨_, rfl, f, c, 4, _, rfl, fd2, by omega, by decide, by decide, fun d5 H8 d50 d51 hf8 b8 => ⟨_, _, rfl, rfl, _, rfl, l0, _, rfl, SqL.of (b8 _ _ nel.1 upd_same), fun l1 hl1 => ?_⟩⟩
  obtain ⟨k5, hk5⟩ : ∃ k : Nat, 1 + d5 = (k : Int) := ⟨(1 + d5).toNat, by omega⟩
  have ecut : cutV (gSer.map V.str) none (some (1 + d5)) = (gSer.take k5).map V.str := by
    rw [hk5]
    exact (cut_take _ k5).trans (List.map_take).symm
  have N3 := same_new hl1 (.lst (cutV (gSer.map V.str) none (some (1 + d5))))
  have hl10 : upd H8 l1 (.lst (cutV (gSer.map V.str) none (some (1 + d5)))) l1 = some (.lst ((gSer.take k5).map V.str)) := by rw [upd_same, ecut]
  have B9 : But f H7 (upd H8 l1 (.lst (cutV (gSer.map V.str) none (some (1 + d5))))) := (But.of_same (N1.trans N2)).trans (b8.trans (But.of_same N3))
  have fd9 := hf8.same N3
  have hQ9 := N3 _ _ (b8 _ _ neQ.1 (N2 _ _ (upd_same (H := H7) (a := Q2) (o := .lst []))))
  have nel1 := hf8.ne hl1
  have Ql1 : Q2 ≠ l1 := ne_of_none (b8 _ _ neQ.1 (N2 _ _ (upd_same (H := H7) (a := Q2) (o := .lst [])))) hl1
  refine ⟨l1, rfl, ⟨_, SqL.of hl10⟩, ?_⟩
  refine for_list (K := K) (a := l1) (xs := (gSer.take k5).map V.str) (fun i σ H' => ∃ (qs : List Addr) (ws : List Wt) (v6 v8 v9 : Option V), σ = [some (.ref f), some (.ref W), some (.int m), some (.int d2), some (.int st), some (.ref D), v6, some (.ref R), v8, v9, some (.ref Q2)] ∧ Fd H' f c (n + 50 + 2 * i) ∧ But f H7 H' ∧ H' Q2 = some (.lst (qs.map V.ref)) ∧ H' l1 = some (.lst ((gSer.take k5).map V.str)) ∧ Wts H' qs ws ∧ ws.length ≤ i ∧ ∀ w ∈ ws, WtOk w) ?_ ?_ ?_ ?_
  · exact ⟨[], [], _, _, _, rfl, fd9.mono (by omega), B9, hQ9, hl10, .nil, Nat.le_refl _, fun _ h => nomatch h⟩
  · rintro i σ H' _ ⟨_, _, _, _, _, _, _, _, _, h, _⟩
    exact SqL.of h
  · rintro i y σ H10 hy ⟨qs, ws, v6, v8, v9, rfl, hf10, B10, hQ10, hl10', wt10, le10, ok10⟩
    obtain ⟨one, hone, rfl⟩ : ∃ one, (gSer.take k5)[i]? = some one ∧ y = V.str one := by
      rw [List.getElem?_map] at hy
      cases e' : (gSer.take k5)[i]? with
      | none => rw [e'] at hy; cases hy
      | some p => rw [e'] at hy; exact ⟨p, rfl, (Option.some.inj hy).symm⟩
    have hi := (List.getElem?_eq_some_iff.mp hone).1
    have hi4 : i < 4 := Nat.lt_of_lt_of_le hi (Nat.le_trans (List.length_take_le' _ _) (show 4 ≤ 4 by decide))
    have ok1 := gs_ok one (List.mem_of_mem_take (List.mem_of_getElem? hone))
    have wl := wt10.len
    refine ⟨_, rfl, .inl ⟨rfl, _, SqL.of hQ10⟩, _, rfl, _, rfl, f, c, 1000, _, rfl, hf10, by omega, by decide, by decide, fun e1 H11 e10 e11 hf11 b11 => ⟨_, _, rfl, rfl, (show 4 ≤ sizeLine by decide), fun lq hlq => ?_⟩⟩
    have Nq := same_new hlq (.lst [.int 1, .int 5, .int 1000000, .int (1 + e1)])
    have fdq := hf11.same Nq
    have neq := hf11.ne hlq
    refine ⟨_, rfl, f, c, 4, _, rfl, fdq, by omega, by decide, by decide, fun e2 H12 e20 e21 hf12 b12 => ?_⟩
    obtain ⟨wv, wv0, wv1, wva⟩ := fewW e20 e21 e10 e11
    have B12 : But f H10 H12 := b11.trans ((But.of_same Nq).trans b12)
    have hQ12 := B12 _ _ neQ.1 hQ10
    have wt12 := wt10.but hf10 B12
    refine ⟨lq, _, _, _, rfl, rfl, SqL.of (b12 _ _ neq.1 upd_same), wva, (show 2 ≤ sizeLine by decide), fun t ht => ?_⟩
    have Nt := same_new ht (.tup [.str one, .int wv])
    have hQ13 := Nt _ _ hQ12
    refine ⟨Q2, _, _, rfl, rfl, hQ13, ?_, ?_⟩
    · rw [List.length_map, wl]
      exact Nat.lt_of_le_of_lt (show _ ≤ 100 by omega) (by decide)
    refine ⟨qs ++ [t], ws ++ [(one, wv)], _, _, _, rfl, ((hf12.same Nt).upd neQ).mono (by omega), ((B10.trans (B12.trans (But.of_same Nt))).mut hQ2), ?_, (upd_ne (Ne.symm Ql1)).trans (Nt _ _ (B12 _ _ nel1.1 hl10')), ?_, ?_, fun e he => ?_⟩
    · rw [upd_same, List.map_append]
      rfl
    · exact Wts.put hQ13 ((wt12.same Nt).app (Wts.mk1 upd_same))
    · rw [List.length_append, List.length_singleton]
      omega
    · rcases List.mem_append.mp he with he | he
      · exact ok10 e he
      · rw [List.mem_singleton.mp he]
        exact ⟨ok1, wv0, wv1⟩
  rintro σ H10 ⟨qs, ws, v6, v8, v9, rfl, hf10, B10, hQ10, _, wt10, le10, ok10⟩
  have lk : ((gSer.take k5).map V.str).length ≤ 4 := by
    rw [List.length_map]
    exact List.length_take_le' _ _
  have hR10 := B10 _ _ Rf hR7
  have rd10 := rd7.but hf7 B10
  have B5 : But f H H10 := B4.trans (B7.trans B10)
  refine ⟨_, rfl, Q2, _, rfl, .inl ⟨SqL.of hQ10, fun t1 ht1 => ?_⟩⟩
  have M1 := same_new ht1 (.tup (qs.map V.ref))
  refine ⟨_, rfl, R, _, es.map edD, rfl, SqL.of (M1 _ _ hR10), (rd10.same M1).dp, eds_alike _, eds_sortable _, eds_flat _, fun s1 hs1 => ?_⟩
  obtain ⟨rs, fs, so1, so2, so3, so4⟩ := sort_ed (rd10.same M1)
  rw [so1]
  have M2 := same_new hs1 (.lst (rs.map V.ref))
  refine ⟨s1, _, rfl, .inl ⟨SqL.of upd_same, fun t2 ht2 => ?_⟩⟩
  have M3 := same_new ht2 (.tup (rs.map V.ref))
  refine ⟨(show 2 ≤ sizeLine by decide), fun o ho => ?_⟩
  have M4 := same_new ho (.tup [.ref t1, .ref t2])
  have M34 := M3.trans M4
  have M24 := M2.trans M34
  have M14 := M1.trans M24
  have o0 : H10 o = none := free_of (free_of (free_of ho))
  refine q o ws fs _ ((hf10.same M14).mono (by omega)) (B5.trans (But.of_same M14)) (B5.back hf10 o0) ?_ ?_
  · exact ⟨t1, t2, qs, rs, upd_same, M24 _ _ upd_same, M4 _ _ upd_same, wt10.same M14, so2.same M24⟩
  · exact ⟨by omega, fun e he => ok7 e (so4 e he), by omega, ok10⟩

theorem ok_lapart (F : Fun K "_law_apart" "_law_apart" s_lapart f_lapart d_lapart) (T : Txt K mg f_is_number f_is_tuple_of f_places_of f_is_label f_is_labels_like f_lets_labels f_ltape f_ldraw f_loffice f_lplaces f_lapart f_lis_alone f_ldrawn f_lbent f_ldue f_lsaid f_law)
    (F_lplaces : Fun K "_law_places" "_law_places" s_lplaces f_lplaces d_lplaces) (b_lplaces : Binds K d_lplaces ["_law_office_here"] []) (G_lplaces : FnOk P w K mg base CX0 (1) f_lplaces d_lplaces ["_law_office_here"] spPlaces) :
    FnOk P w K mg base CX0 (2) f_lapart d_lapart ["_law_office_here"] spApt := by
  refine F.ok sc_lapart (fun vs H Q E h => ?_) (fun cdv A outer s H vs Q E hr h => ?_)

  · obtain ⟨o, ws, E1, rfl, _⟩ := h
    rfl
  obtain ⟨o, ws, E1, rfl, hof, ok, q⟩ := h
  refine ⟨_, (pss_cons (ps_set (i := 1) sc_lapart.nd rfl (.inl rfl) (pe_call G_lplaces hr (by rfl) T.m_lplaces F_lplaces.kp b_lplaces .nil pass0 (pa_cons (pv 0) pa_nil)))
  (pss_cons (ps_set (i := 2) sc_lapart.nd rfl (.inr rfl) pe_dnewT)
  (pss_cons (ps_for PassesOwn.never rfl (pi_tup (pe_ix ix_tup (pv 0) pe_int (fun _ _ => rfl))) (pg_name (i := 3) sc_lapart.nd rfl (.inl rfl))
  (pss_one (ps_dput (hu_of hr) (pv 2) (pv 3) pe_int rfl)))
  (pss_cons (ps_for PassesOwn.never rfl (pi_list (pv 1)) (pg_name (i := 4) sc_lapart.nd rfl (.inl rfl))
  (pss_one (ps_dput (hu_of hr) (pv 2) (pe_tup (pa_cons (pv 4) (pa_cons (pv 4) pa_nil))) pe_int rfl)))
  (pss_cons (ps_for PassesOwn.never rfl (pi_list (pv 1)) (pg_name (i := 5) sc_lapart.nd rfl (.inr rfl))
  (pss_one (ps_for PassesOwn.never rfl (pi_list (pe_lc (own := [("_law_place", 4)]) (g := (gName 4)) (by rfl) sc_lapart.nd (pi_list (pv 1)) (blkOk_by (own := [("_law_place", 4)]) (N := ["_law_office_here", "_law_places_here", "_law_apart_here", "_law_road", "_law_place", "_law_via", "_law_one", "_law_other", "_law_new"]) (sc := defScope s_lapart) (by decide +kernel)) (fun _ _ _ _ _ => (pg_name (i := 4) sc_lapart.nd rfl (.inl rfl))) (fun _ _ _ _ _ => (pts_one (pt_cmp (pc_din (hu_of hr) (pe_tup (pa_cons (pv 4) (pa_cons (pv 5) pa_nil))) (pv 2))))) (fun _ _ _ _ _ => (pv 4)))) (pg_name (i := 6) sc_lapart.nd rfl (.inl rfl))
  (pss_one (ps_for PassesOwn.never rfl (pi_list (pe_lc (own := [("_law_place", 4)]) (g := (gName 4)) (by rfl) sc_lapart.nd (pi_list (pv 1)) (blkOk_by (own := [("_law_place", 4)]) (N := ["_law_office_here", "_law_places_here", "_law_apart_here", "_law_road", "_law_place", "_law_via", "_law_one", "_law_other", "_law_new"]) (sc := defScope s_lapart) (by decide +kernel)) (fun _ _ _ _ _ => (pg_name (i := 4) sc_lapart.nd rfl (.inl rfl))) (fun _ _ _ _ _ => (pts_one (pt_cmp (pc_din (hu_of hr) (pe_tup (pa_cons (pv 5) (pa_cons (pv 4) pa_nil))) (pv 2))))) (fun _ _ _ _ _ => (pv 4)))) (pg_name (i := 7) sc_lapart.nd rfl (.inl rfl))
  (pss_cons (ps_set (i := 8) sc_lapart.nd rfl (.inl rfl) (pe_op op_add (pe_dget (hu_of hr) (pv 2) (pe_tup (pa_cons (pv 6) (pa_cons (pv 5) pa_nil))) (fun _ _ => rfl)) (pe_dget (hu_of hr) (pv 2) (pe_tup (pa_cons (pv 5) (pa_cons (pv 7) pa_nil))) (fun _ _ => rfl))))
  (pss_one (ps_dput (hu_of hr) (pv 2) (pe_tup (pa_cons (pv 6) (pa_cons (pv 7) pa_nil))) (pe_callB (call_min2 rfl) (by rfl) T.min (by decide +kernel) (pa_cons (pe_dget2 (hu_of hr) (pv 2) (pe_tup (pa_cons (pv 6) (pa_cons (pv 7) pa_nil))) (pv 8) ⟨rfl, rfl, rfl, rfl⟩) (pa_cons (pv 8) pa_nil))) rfl))))))))
  (pss_one (ps_ret (pv 2)))))))), ?_⟩
  refine ⟨_, rfl, o, ws, E1, rfl, hof, ok, fun P0 pl Hp SP P00 hP up mem pll => ?_⟩
  have hof1 := hof.same SP
  obtain ⟨w', r', wp, rp, ho, hw, hrr, hws, hrd⟩ := hof1
  have rl := hrd.len
  have le := ok.le
  intro A hA
  have NA := same_new hA (.dT [])
  have A0 := SP.free hA
  refine ⟨_, rfl, o, _, _, _, rfl, rfl, SqT.of (NA _ _ ho), rfl, r', rfl, ⟨_, SqT.of (NA _ _ hrr)⟩, ?_⟩
  refine for_tup (K := K) (a := r') (xs := rp.map V.ref) (fun i σ H' => ∃ (kvs : List (List Key × V)) (v3 : Option V), σ = [some (.ref o), some (.ref P0), some (.ref A), v3, none, none, none, none, none] ∧ Same Hp H' ∧ H' A = some (.dT kvs) ∧ apOf (ap1 (E1.take i)) kvs ∧ kvs.length ≤ i) ?_ ?_ ?_ ?_
  · exact ⟨[], none, rfl, NA, upd_same, fun _ _ => rfl, Nat.le_refl _⟩
  · rintro i σ H' _ ⟨_, _, _, S, _⟩
    exact SqT.of (S _ _ hrr)
  · rintro i y σ H1 hy ⟨kvs, v3, rfl, S1, hA1, ap, kl⟩
    obtain ⟨u, hu, rfl⟩ : ∃ u, rp[i]? = some u ∧ y = V.ref u := by
      rw [List.getElem?_map] at hy
      cases e : rp[i]? with
      | none => rw [e] at hy; cases hy
      | some p => rw [e] at hy; exact ⟨p, rfl, (Option.some.inj hy).symm⟩
    obtain ⟨e, he1, he2⟩ := Rds.get hrd hu
    have hi2 := (List.getElem?_eq_some_iff.mp he1).1
    refine ⟨_, rfl, _, rfl, A, _, rfl, DPut.t (k := [Sum.inr e.1, Sum.inr e.2]) hA1 (S1 _ _ he2) (Nat.lt_of_le_of_lt (show _ ≤ 100 by omega) (by decide)), ?_⟩
    exact ⟨_, _, rfl, same_mut S1 hA, upd_same, ap1_put he1 ap, Nat.le_trans (putK_le _ _ _) (by omega)⟩
  rintro σ H1 ⟨kvs, v3, rfl, S1, hA1, ap, kl⟩
  rw [List.length_map, rl] at kl
  rw [List.length_map, rl, List.take_length] at ap
  refine ⟨_, rfl, P0, rfl, ⟨_, SqL.of (S1 _ _ hP)⟩, ?_⟩
  refine for_list (K := K) (a := P0) (xs := pl.map V.str) (fun i σ H' => ∃ (kvs : List (List Key × V)) (v3 v4 : Option V), σ = [some (.ref o), some (.ref P0), some (.ref A), v3, v4, none, none, none, none] ∧ Same Hp H' ∧ H' A = some (.dT kvs) ∧ apOf (ap0 E1 (pl.take i)) kvs ∧ kvs.length ≤ 16 + i) ?_ ?_ ?_ ?_
  · exact ⟨kvs, _, none, rfl, S1, hA1, by rw [List.take_zero, ap0_zero]; exact ap, by omega⟩
  · rintro i σ H' _ ⟨_, _, _, _, S, _⟩
    exact SqL.of (S _ _ hP)
  · rintro i y σ H2 hy ⟨kvs, v3, v4, rfl, S2, hA2, ap, kl⟩
    obtain ⟨s, hs, rfl⟩ : ∃ s, (pl)[i]? = some s ∧ y = V.str s := by
      rw [List.getElem?_map] at hy
      cases e' : (pl)[i]? with
      | none => rw [e'] at hy; cases hy
      | some p => rw [e'] at hy; exact ⟨p, rfl, (Option.some.inj hy).symm⟩
    have hi2 := (List.getElem?_eq_some_iff.mp hs).1
    refine ⟨_, rfl, _, rfl, _, rfl, (show 2 ≤ sizeLine by decide), fun u hu => ?_⟩
    have Nu := same_new hu (.tup [.str s, .str s])
    refine ⟨A, _, rfl, DPut.t (k := [Sum.inr s, Sum.inr s]) (Nu _ _ hA2) upd_same (Nat.lt_of_le_of_lt (show _ ≤ 100 by omega) (by decide)), ?_⟩
    exact ⟨_, _, _, rfl, same_mut (S2.trans Nu) hA, upd_same, ap0_put hs ap, Nat.le_trans (putK_le _ _ _) (by omega)⟩
  clear ap kl hA1 S1
  rintro σ H1 ⟨kvs, v3, v4, rfl, S1, hA1, ap, kl⟩
  rw [List.length_map] at kl
  rw [List.length_map, List.take_length] at ap
  refine ⟨_, rfl, P0, rfl, ⟨_, SqL.of (S1 _ _ hP)⟩, ?_⟩
  refine for_list (K := K) (a := P0) (xs := pl.map V.str) (fun i σ H' => ∃ (kvs : List (List Key × V)) (d : Ap) (v3 v4 v5 v6 v7 v8 : Option V), σ = [some (.ref o), some (.ref P0), some (.ref A), v3, v4, v5, v6, v7, v8] ∧ Same Hp H' ∧ H' A = some (.dT kvs) ∧ apOf d kvs ∧ FwOk E1 (plc E1) (fun z => z ∈ pl.take i) d ∧ kvs.length ≤ 100 + 1600 * i) ?_ ?_ ?_ ?_
  · exact ⟨kvs, _, _, _, none, none, none, none, rfl, S1, hA1, ap, fw_init mem, by omega⟩
  · rintro i σ H' _ ⟨_, _, _, _, _, _, _, _, _, S, _⟩
    exact SqL.of (S _ _ hP)
  · rintro i y σ H2 hy ⟨kvs, d, v3, v4, v5, v6, v7, v8, rfl, S2, hA2, ap, fw, kl⟩
    obtain ⟨v, hv, rfl⟩ : ∃ v, (pl)[i]? = some v ∧ y = V.str v := by
      rw [List.getElem?_map] at hy
      cases e' : (pl)[i]? with
      | none => rw [e'] at hy; cases hy
      | some p => rw [e'] at hy; exact ⟨p, rfl, (Option.some.inj hy).symm⟩
    obtain ⟨hi2, ev⟩ := List.getElem?_eq_some_iff.mp hv
    have inV := List.mem_of_getElem? hv
    have Vv := (mem v).mp inV
    have rv := fw.refl v Vv
    have hP2 := S2 _ _ hP
    refine ⟨_, rfl, P0, rfl, ⟨_, SqL.of hP2⟩, fun C1 hC1 => ?_⟩
    refine lc_list (K := K) (a := P0) (xs := pl.map V.str) (fun j H' => Same H2 H' ∧ H' C1 = some (.lst (((pl.take j).filter (fun s => (d s v).isSome)).map V.str))) ⟨same_new hC1 _, upd_same⟩ (fun j H' _ h => SqL.of (h.1 _ _ hP2)) ?_ ?_
    · rintro j z Hq hz ⟨Sq, hCq⟩
      obtain ⟨s, hs, rfl⟩ : ∃ s, (pl)[j]? = some s ∧ z = V.str s := by
        rw [List.getElem?_map] at hz
        cases e' : (pl)[j]? with
        | none => rw [e'] at hz; cases hz
        | some p => rw [e'] at hz; exact ⟨p, rfl, (Option.some.inj hz).symm⟩
      have hj := (List.getElem?_eq_some_iff.mp hs).1
      have more := filt_take (F := (fun s => (d s v).isSome)) hs
      refine ⟨rfl, _, rfl, _, rfl, (show 2 ≤ sizeLine by decide), fun u hu => ?_⟩
      have Nu := same_new hu (.tup [.str s, .str v])
      refine ⟨_, rfl, A, _, rfl, ap_get ap (Nu _ _ (Sq _ _ hA2)) upd_same, _, rfl, ?_⟩
      rw [Option.isSome_map]
      refine ite2 (fun cq => ?_) (fun cq => ?_)
      · rw [if_pos cq] at more
        refine ⟨_, rfl, _, Nu _ _ hCq, ?_, same_mut (Sq.trans Nu) hC1, ?_⟩
        · rw [List.length_map]
          refine Nat.lt_of_le_of_lt (Nat.le_trans (List.length_filter_le _ _) ?_) (show 100 < sizeLine by decide)
          exact Nat.le_trans (List.length_take_le' _ _) (by omega)
        · rw [upd_same, more, List.map_append]
          rfl
      · rw [if_neg cq, List.append_nil] at more
        exact ⟨Sq.trans Nu, by rw [more]; exact Nu _ _ hCq⟩
    rintro H3 ⟨S3, hC3⟩
    rw [List.length_map, List.take_length] at hC3
    have S23 := S2.trans S3
    have C1A : C1 ≠ A := Ne.symm (ne_of_none hA2 hC1)
    have osm : ∀ x, x ∈ pl.filter (fun s => (d s v).isSome) ↔ x ∈ pl ∧ (d x v).isSome = true := fun x => List.mem_filter
    have osl : (pl.filter (fun s => (d s v).isSome)).length ≤ pl.length := List.length_filter_le _ _
    generalize pl.filter (fun s => (d s v).isSome) = os at *
    refine ⟨C1, rfl, ⟨_, SqL.of hC3⟩, ?_⟩
    refine for_list (K := K) (a := C1) (xs := os.map V.str) (fun k σ H' => ∃ (kvs : List (List Key × V)) (c : Ap) (v3 v4 v6 v7 v8 : Option V), σ = [some (.ref o), some (.ref P0), some (.ref A), v3, v4, some (.str v), v6, v7, v8] ∧ Same Hp H' ∧ H' A = some (.dT kvs) ∧ H' C1 = some (.lst (os.map V.str)) ∧ apOf c kvs ∧ MidA d v c ∧ (∀ x ∈ os.take k, ∀ y, c x y = fwStep d v x y) ∧ kvs.length ≤ 100 + 1600 * i + 40 * k) ?_ ?_ ?_ ?_
    · exact ⟨kvs, d, _, _, _, _, _, rfl, S23, S3 _ _ hA2, hC3, ap, fun x y => .inl rfl, fun x hx => (by rw [List.take_zero] at hx; exact nomatch hx), by omega⟩
    · rintro k σ H' _ ⟨_, _, _, _, _, _, _, _, _, _, h, _⟩
      exact SqL.of h
    · clear ap kl hA2 hC3 S23
      rintro k yx σ H4 hyx ⟨kvs, c, v3, v4, v6, v7, v8, rfl, S4, hA4, hC4, ap, mid, don, kl⟩
      obtain ⟨x, hx, rfl⟩ : ∃ x, (os)[k]? = some x ∧ yx = V.str x := by
        rw [List.getElem?_map] at hyx
        cases e' : (os)[k]? with
        | none => rw [e'] at hyx; cases hyx
        | some p => rw [e'] at hyx; exact ⟨p, rfl, (Option.some.inj hyx).symm⟩
      obtain ⟨hk, ex⟩ := List.getElem?_eq_some_iff.mp hx
      have inx := (osm x).mp (List.mem_of_getElem? hx)
      obtain ⟨a, ha⟩ := Option.isSome_iff_exists.mp inx.2
      have hP4 := S4 _ _ hP
      refine ⟨_, rfl, P0, rfl, ⟨_, SqL.of hP4⟩, fun C2 hC2 => ?_⟩
      refine lc_list (K := K) (a := P0) (xs := pl.map V.str) (fun j H' => Same H4 H' ∧ H' C2 = some (.lst (((pl.take j).filter (fun s => (c v s).isSome)).map V.str))) ⟨same_new hC2 _, upd_same⟩ (fun j H' _ h => SqL.of (h.1 _ _ hP4)) ?_ ?_
      · rintro j z Hq hz ⟨Sq, hCq⟩
        obtain ⟨s, hs, rfl⟩ : ∃ s, (pl)[j]? = some s ∧ z = V.str s := by
          rw [List.getElem?_map] at hz
          cases e' : (pl)[j]? with
          | none => rw [e'] at hz; cases hz
          | some p => rw [e'] at hz; exact ⟨p, rfl, (Option.some.inj hz).symm⟩
        have hj := (List.getElem?_eq_some_iff.mp hs).1
        have more := filt_take (F := (fun s => (c v s).isSome)) hs
        refine ⟨rfl, _, rfl, _, rfl, (show 2 ≤ sizeLine by decide), fun u hu => ?_⟩
        have Nu := same_new hu (.tup [.str v, .str s])
        refine ⟨_, rfl, A, _, rfl, ap_get ap (Nu _ _ (Sq _ _ hA4)) upd_same, _, rfl, ?_⟩
        rw [Option.isSome_map]
        refine ite2 (fun cq => ?_) (fun cq => ?_)
        · rw [if_pos cq] at more
          refine ⟨_, rfl, _, Nu _ _ hCq, ?_, same_mut (Sq.trans Nu) hC2, ?_⟩
          · rw [List.length_map]
            refine Nat.lt_of_le_of_lt (Nat.le_trans (List.length_filter_le _ _) ?_) (show 100 < sizeLine by decide)
            exact Nat.le_trans (List.length_take_le' _ _) (by omega)
          · rw [upd_same, more, List.map_append]
            rfl
        · rw [if_neg cq, List.append_nil] at more
          exact ⟨Sq.trans Nu, by rw [more]; exact Nu _ _ hCq⟩
      rintro H5 ⟨S5, hC5⟩
      rw [List.length_map, List.take_length] at hC5
      have S45 := S4.trans S5
      have C2A : C2 ≠ A := Ne.symm (ne_of_none hA4 hC2)
      have tsm : ∀ y, y ∈ pl.filter (fun s => (c v s).isSome) ↔ y ∈ pl ∧ (c v y).isSome = true := fun x => List.mem_filter
      have tsl : (pl.filter (fun s => (c v s).isSome)).length ≤ pl.length := List.length_filter_le _ _
      have tsc : ∀ y, y ∈ pl.filter (fun s => (c v s).isSome) ↔ y ∈ pl ∧ (d v y).isSome = true := fun y => by rw [tsm, mid.row rv]
      clear tsm
      generalize pl.filter (fun s => (c v s).isSome) = ts at *
      refine ⟨C2, rfl, ⟨_, SqL.of hC5⟩, ?_⟩
      refine for_list (K := K) (a := C2) (xs := ts.map V.str) (fun l σ H' => ∃ (kvs : List (List Key × V)) (c : Ap) (v3 v4 v7 v8 : Option V), σ = [some (.ref o), some (.ref P0), some (.ref A), v3, v4, some (.str v), some (.str x), v7, v8] ∧ Same Hp H' ∧ H' A = some (.dT kvs) ∧ H' C1 = some (.lst (os.map V.str)) ∧ apOf c kvs ∧ MidA d v c ∧ H' C2 = some (.lst (ts.map V.str)) ∧ (∀ x ∈ os.take k, ∀ y, c x y = fwStep d v x y) ∧ (∀ y ∈ ts.take l, c x y = fwStep d v x y) ∧ kvs.length ≤ 100 + 1600 * i + 40 * k + l) ?_ ?_ ?_ ?_
      · exact ⟨kvs, c, _, _, _, _, rfl, S45, S5 _ _ hA4, S5 _ _ hC4, ap, mid, hC5, don, fun x hx => (by rw [List.take_zero] at hx; exact nomatch hx), by omega⟩
      · rintro l σ H' _ ⟨_, _, _, _, _, _, _, _, _, _, _, _, h, _⟩
        exact SqL.of h
      · clear ap kl hA4 hC4 hC5 S45 mid don
        rintro l yy σ H6 hyy ⟨kvs, c, v3, v4, v7, v8, rfl, S6, hA6, hC6, ap, mid, hD6, don, dox, kl⟩
        obtain ⟨y, hy2, rfl⟩ : ∃ y, (ts)[l]? = some y ∧ yy = V.str y := by
          rw [List.getElem?_map] at hyy
          cases e' : (ts)[l]? with
          | none => rw [e'] at hyy; cases hyy
          | some p => rw [e'] at hyy; exact ⟨p, rfl, (Option.some.inj hyy).symm⟩
        obtain ⟨hl, ey⟩ := List.getElem?_eq_some_iff.mp hy2
        have iny := (tsc y).mp (List.mem_of_getElem? hy2)
        obtain ⟨b, hb⟩ := Option.isSome_iff_exists.mp iny.2
        have ca : c x v = some a := (mid.col rv x).trans ha
        have cb : c v y = some b := (mid.row rv y).trans hb
        refine ⟨_, rfl, _, rfl, _, rfl, (show 2 ≤ sizeLine by decide), fun u1 hu1 => ?_⟩
        have M1 := same_new hu1 (.tup [.str x, .str v])
        refine ⟨A, _, rfl, ap_some ap (M1 _ _ hA6) upd_same ca, _, rfl, _, rfl, _, rfl, (show 2 ≤ sizeLine by decide), fun u2 hu2 => ?_⟩
        have M2 := same_new hu2 (.tup [.str v, .str y])
        have M12 := M1.trans M2
        refine ⟨A, _, rfl, ap_some ap (M12 _ _ hA6) upd_same cb, _, _, rfl, rfl, ?_⟩
        refine ⟨_, rfl, A, rfl, .inr ⟨_, .inl (M12 _ _ hA6)⟩, _, rfl, _, rfl, (show 2 ≤ sizeLine by decide), fun u3 hu3 => ?_⟩
        have M3 := same_new hu3 (.tup [.str x, .str y])
        have M13 := M12.trans M3
        refine ⟨_, rfl, _, ap_get ap (M13 _ _ hA6) upd_same, _, rfl, gI (c x y) ((a : Int) + (b : Int)), (a : Int) + (b : Int), by rw [getD_int], ?_⟩
        rw [min_gI]
        refine ⟨_, rfl, _, rfl, _, rfl, (show 2 ≤ sizeLine by decide), fun u4 hu4 => ?_⟩
        have M4 := same_new hu4 (.tup [.str x, .str y])
        have M14 := M13.trans M4
        refine ⟨A, _, rfl, DPut.t (k := [Sum.inr x, Sum.inr y]) (M14 _ _ hA6) upd_same (Nat.lt_of_le_of_lt (show _ ≤ 100000 by omega) (by decide)), ?_⟩
        refine ⟨_, putA d v c x y, _, _, _, _, rfl, same_mut (S6.trans M14) hA, upd_same, (upd_ne C1A).trans (M14 _ _ hC6), apOf_step ap mid ha hb, putA_mid mid x y, (upd_ne C2A).trans (M14 _ _ hD6), fun x' hx' y' => putA_done (don x' hx' y'), fun y' hy' => ?_, Nat.le_trans (putK_le _ _ _) (by omega)⟩
        rw [List.take_succ_eq_append_getElem hl, ey] at hy'
        rcases List.mem_append.mp hy' with z | z
        · exact putA_done (dox y' z)
        · rw [List.mem_singleton.mp z]
          exact putA_at x y
      · clear ap kl hA4 hC4 hC5 S45 mid don
        rintro σ H6 ⟨kvs, c, v3, v4, v7, v8, rfl, S6, hA6, hC6, ap, mid, hD6, don, dox, kl⟩
        rw [List.length_map] at kl
        rw [List.length_map, List.take_length] at dox
        refine ⟨kvs, c, _, _, _, _, _, rfl, S6, hA6, hC6, ap, mid, fun x' hx' y' => ?_, by omega⟩
        rw [List.take_succ_eq_append_getElem hk, ex] at hx'
        rcases List.mem_append.mp hx' with z | z
        · exact don x' z y'
        · rw [List.mem_singleton.mp z]
          by_cases cy : y' ∈ ts
          · exact dox y' cy
          · refine mid.none (.inr ?_)
            cases hd : d v y' with
            | none => rfl
            | some n' => exact (cy ((tsc y').mpr ⟨(mem y').mpr (fw.dom _ _ _ hd).2, by rw [hd]; rfl⟩)).elim
    · clear ap kl hA2 hC3 S23
      rintro σ H4 ⟨kvs, c, v3, v4, v6, v7, v8, rfl, S4, hA4, hC4, ap, mid, don, kl⟩
      rw [List.length_map] at kl
      rw [List.length_map, List.take_length] at don
      have ec : c = fwStep d v := by
        funext x y
        by_cases cx : x ∈ os
        · exact don x cx y
        · refine mid.none (.inl ?_)
          cases hd : d x v with
          | none => rfl
          | some n' => exact (cx ((osm x).mpr ⟨(mem x).mpr (fw.dom _ _ _ hd).1, by rw [hd]; rfl⟩)).elim
      subst ec
      have f2 := fw_ok fw Vv
      refine ⟨kvs, _, _, _, _, _, _, _, rfl, S4, hA4, ap, ⟨f2.sound, f2.refl, f2.edge, fun z hz => f2.tri z ?_, f2.dom⟩, by omega⟩
      rw [List.take_succ_eq_append_getElem hi2, ev] at hz
      rcases List.mem_append.mp hz with k | k
      · exact .inl k
      · exact .inr (List.mem_singleton.mp k)
  · rintro σ H2 ⟨kvs, d, v3, v4, v5, v6, v7, v8, rfl, S2, hA2, ap, fw, kl⟩
    rw [List.length_map, List.take_length] at fw
    refine ⟨_, rfl, ?_⟩
    refine q A kvs d H2 (SP.trans S2) A0 hA2 ap ?_
    exact ⟨fw.sound, fw.refl, fw.edge, fun z hz => fw.tri z ((mem z).mpr hz), fw.dom⟩

theorem ok_places_of (F : Fun K "places_of" "places_of" s_places_of f_places_of d_places_of) (T : Txt K mg f_is_number f_is_tuple_of f_places_of f_is_label f_is_labels_like f_lets_labels f_ltape f_ldraw f_loffice f_lplaces f_lapart f_lis_alone f_ldrawn f_lbent f_ldue f_lsaid f_law) :
    FnOk P w K mg base CX0 (1) f_places_of d_places_of ["office"] spPlOf := by
  refine okC F sc_places_of (fun vs H Q E h => ?_) (fun cdv A outer s H vs Q E hr hcd h => ?_)

  · obtain ⟨o, ws, E1, rfl, _⟩ := h
    rfl
  obtain ⟨o, ws, E1, rfl, hof, le, q⟩ := h
  refine ⟨_, (pss_cons (ps_set (i := 1) sc_places_of.nd rfl (.inl rfl) (pe_set1 hcd))
  (pss_cons (ps_for PassesOwn.never rfl (pi_tup (pe_ix ix_tup (pv 0) pe_int (fun _ _ => rfl))) (pg_tup rfl (pgs_cons (pg_name (i := 2) sc_places_of.nd rfl (.inl rfl)) (pgs_cons (pg_name (i := 3) sc_places_of.nd rfl (.inl rfl)) pgs_nil)))
  (pss_cons (ps_expr (pe_saddX (pv 1) (pa_cons (pv 2) pa_nil)))
  (pss_one (ps_expr (pe_saddX (pv 1) (pa_cons (pv 3) pa_nil))))))
  (pss_one (ps_ret (pe_callTy call_tuple_of (by rfl) T.tuple (by decide +kernel) (pa_cons (pe_callB (cr_sortSS hr rfl) (by rfl) T.sorted (by decide +kernel) (pa_cons (pv 1) pa_nil)) pa_nil)))))), ?_⟩
  obtain ⟨w', r', wp, rp, ho, hw, hrr, hws, hrd⟩ := hof
  have rl := hrd.len
  refine fun F c0 o0 hF hc0 ho0 => ?_
  have N0 := same_new hF o0
  refine ⟨_, rfl, o, _, _, _, rfl, rfl, SqT.of (N0 _ _ ho), rfl, r', rfl, ⟨_, SqT.of (N0 _ _ hrr)⟩, ?_⟩
  refine for_tup (K := K) (a := r') (xs := rp.map V.ref) (fun i σ H' => ∃ (m : Nat) (v2 v3 : Option V), σ = [some (.ref o), some (.ref F), v2, v3] ∧ Same H H' ∧ H' F = some (SXO w F (fun j => ∃ y, j = .inr y ∧ plc (E1.take i) y) m) ∧ m ≤ 1 + 2 * i) ?_ ?_ ?_ ?_
  · refine ⟨c0, none, none, rfl, N0, ?_, hc0⟩
    rw [upd_same, ho0]
    congr 1
    congr 1
    funext j
    refine propext ⟨fun z => ⟨_, z, .inl rfl⟩, ?_⟩
    rintro ⟨y, rfl, z⟩
    rcases z with rfl | ⟨e, he, _⟩
    · rfl
    · exact nomatch he
  · rintro i σ H' _ ⟨_, _, _, _, S, _⟩
    exact SqT.of (S _ _ hrr)
  · rintro i y σ H1 hy ⟨m, v2, v3, rfl, S1, hF1, hm⟩
    obtain ⟨u, hu, rfl⟩ : ∃ u, rp[i]? = some u ∧ y = V.ref u := by
      rw [List.getElem?_map] at hy
      cases e' : rp[i]? with
      | none => rw [e'] at hy; cases hy
      | some p => rw [e'] at hy; exact ⟨p, rfl, (Option.some.inj hy).symm⟩
    obtain ⟨e, he1, he2⟩ := Rds.get hrd hu
    obtain ⟨hi2, ee⟩ := List.getElem?_eq_some_iff.mp he1
    refine ⟨u, _, rfl, SqT.of (S1 _ _ he2), rfl, _, _, rfl, _, _, rfl, rfl, ?_⟩
    refine ⟨_, rfl, ⟨F, _, _, rfl, hF1⟩, _, rfl, F, .inr e.1, _, _, rfl, rfl, hF1, by omega, fun m2 o2 hm2 ho2 => ?_⟩
    subst ho2
    refine ⟨_, rfl, ⟨F, _, _, rfl, upd_same⟩, _, rfl, F, .inr e.2, _, _, rfl, rfl, upd_same, by omega, fun m3 o3 hm3 ho3 => ?_⟩
    subst ho3
    refine ⟨m3, _, _, rfl, same_mut (same_mut S1 hF) hF, ?_, by omega⟩
    rw [upd_same]
    congr 1
    congr 1
    funext j
    have more : ∀ z, plc (E1.take (i + 1)) z ↔ plc (E1.take i) z ∨ z = e.1 ∨ z = e.2 := fun z => by
      rw [List.take_succ_eq_append_getElem hi2, ee]
      constructor
      · rintro (k | ⟨f, hf, k⟩)
        · exact .inl (.inl k)
        · rcases List.mem_append.mp hf with a | a
          · exact .inl (.inr ⟨f, a, k⟩)
          · cases List.mem_singleton.mp a
            exact .inr k
      · rintro ((k | ⟨f, hf, k⟩) | k)
        · exact .inl k
        · exact .inr ⟨f, List.mem_append_left _ hf, k⟩
        · exact .inr ⟨e, List.mem_append_right _ List.mem_cons_self, k⟩
    refine propext ⟨?_, ?_⟩
    · rintro ((⟨y, rfl, k⟩ | rfl) | rfl)
      · exact ⟨y, rfl, (more y).mpr (.inl k)⟩
      · exact ⟨_, rfl, (more _).mpr (.inr (.inl rfl))⟩
      · exact ⟨_, rfl, (more _).mpr (.inr (.inr rfl))⟩
    · rintro ⟨y, rfl, k⟩
      rcases (more y).mp k with k | rfl | rfl
      · exact .inl (.inl ⟨y, rfl, k⟩)
      · exact .inl (.inr rfl)
      · exact .inr rfl
  · rintro σ H1 ⟨m, v2, v3, rfl, S1, hF1, hm⟩
    rw [List.length_map, rl] at hm hF1
    rw [List.take_length] at hF1
    refine ⟨_, rfl, F, _, m, _, rfl, hF1, rfl, ?_, by omega, fun ns p up mem len hp => ?_⟩
    · rintro k ⟨y, rfl, _⟩
      exact ⟨y, rfl⟩
    refine ⟨p, _, rfl, .inl ⟨SqL.of upd_same, fun t ht => ?_⟩⟩
    have N := (same_new hp _).trans (same_new ht (.tup (ns.map V.str)))
    refine q t ns _ (S1.trans N) (S1.free (free_of ht)) upd_same up (fun y => ?_) (by rw [len]; omega)
    rw [mem]
    exact ⟨fun ⟨z, e, k⟩ => by cases e; exact k, fun k => ⟨y, rfl, k⟩⟩

theorem ok_is_number (F : Fun K "is_number" "is_number" s_is_number f_is_number d_is_number) (T : Txt K mg f_is_number f_is_tuple_of f_places_of f_is_label f_is_labels_like f_lets_labels f_ltape f_ldraw f_loffice f_lplaces f_lapart f_lis_alone f_ldrawn f_lbent f_ldue f_lsaid f_law) :
    FnOk P w K mg base CX0 (1) f_is_number d_is_number ["thing"] spNumM := by
  refine F.ok sc_is_number (fun vs H Q E h => ?_) (fun cdv A outer s H vs Q E hr h => ?_)

  · obtain ⟨v, d, N, rfl, _⟩ := h
    rfl
  obtain ⟨v, d, N, rfl, hd, q⟩ := h
  refine ⟨_, (pss_one (ps_ret (pe_and (pe_callB call_isi (by rfl) T.isinstance (by decide +kernel) (pa_cons (pv 0) (pa_cons (pe_bltn (v := .ty "int") (by rfl) T.int (by decide +kernel) rfl) pa_nil))) (pe_one (pe_not (pe_callB call_isi (by rfl) T.isinstance (by decide +kernel) (pa_cons (pv 0) (pa_cons (pe_bltn (v := .ty "bool") (by rfl) T.bool (by decide +kernel) rfl) pa_nil)))))))), ?_⟩
  have z := q H (Same.refl _)
  cases hd with
  | non => exact ⟨_, rfl, _, _, _, _, _, rfl, .ty _, .base .non, k_NoneType_int, _, rfl, iteF z⟩
  | bl b => exact ⟨_, rfl, _, _, _, _, _, rfl, .ty _, .base (.bl b), k_bool_int, _, rfl, iteT ⟨_, rfl, _, _, _, _, _, rfl, .ty _, .base (.bl b), k_bool_bool, _, rfl, z⟩⟩
  | int i => exact ⟨_, rfl, _, _, _, _, _, rfl, .ty _, .base (.int i), k_int_int, _, rfl, iteT ⟨_, rfl, _, _, _, _, _, rfl, .ty _, .base (.int i), k_int_bool, _, rfl, z⟩⟩
  | str x => exact ⟨_, rfl, _, _, _, _, _, rfl, .ty _, .base (.str x), k_str_int, _, rfl, iteF z⟩
  | lst _ h _ => exact ⟨_, rfl, _, _, _, _, _, rfl, .ty _, .base (.lst h), k_list_int, _, rfl, iteF z⟩
  | tup h _ => exact ⟨_, rfl, _, _, _, _, _, rfl, .ty _, .base (.tup h), k_tuple_int, _, rfl, iteF z⟩

theorem ok_is_tuple_of (F : Fun K "is_tuple_of" "is_tuple_of" s_is_tuple_of f_is_tuple_of d_is_tuple_of) (T : Txt K mg f_is_number f_is_tuple_of f_places_of f_is_label f_is_labels_like f_lets_labels f_ltape f_ldraw f_loffice f_lplaces f_lapart f_lis_alone f_ldrawn f_lbent f_ldue f_lsaid f_law) :
    FnOk P w K mg base CX0 (1) f_is_tuple_of d_is_tuple_of ["thing", "many"] spTupOfM := by
  refine F.ok sc_is_tuple_of (fun vs H Q E h => ?_) (fun cdv A outer s H vs Q E hr h => ?_)

  · obtain ⟨v, d, N, m, rfl, _⟩ := h
    rfl
  obtain ⟨v, d, N, m, rfl, hd, q⟩ := h
  refine ⟨_, (pss_one (ps_ret (pe_and (pe_callB call_isi (by rfl) T.isinstance (by decide +kernel) (pa_cons (pv 0) (pa_cons (pe_bltn (v := .ty "tuple") (by rfl) T.tuple (by decide +kernel) rfl) pa_nil))) (pe_one (pe_cmpR op_eq (pe_callB call_len_seq (by rfl) T.len (by decide +kernel) (pa_cons (pv 0) pa_nil)) (pv 1) (nomark _)))))), ?_⟩
  have z := q H (Same.refl _)
  rcases hd with hd | hd
  rotate_left
  · rcases hd with ⟨t, xs, ds, o, rfl, rfl, h3, h4, h5⟩ | ⟨nt, hd⟩
    · refine ⟨_, rfl, _, _, _, _, _, rfl, .ty _, .fTuple h3, k_tuple_tuple, _, rfl, iteT ?_⟩
      refine ⟨_, rfl, _, _, rfl, .inr (SqT.frz h3), _, rfl, rfl, ?_⟩
      rw [DnAll.len h5]
      have e : ∀ x y : Int, decide (V.int x = V.int y) = decide (x = y) := fun x y => by simp
      rw [e]
      exact z
    · cases hd with
      | non => exact ⟨_, rfl, _, _, _, _, _, rfl, .ty _, .base .non, k_NoneType_tuple, _, rfl, iteF z⟩
      | bl b => exact ⟨_, rfl, _, _, _, _, _, rfl, .ty _, .base (.bl b), k_bool_tuple, _, rfl, iteF z⟩
      | int i => exact ⟨_, rfl, _, _, _, _, _, rfl, .ty _, .base (.int i), k_int_tuple, _, rfl, iteF z⟩
      | str x => exact ⟨_, rfl, _, _, _, _, _, rfl, .ty _, .base (.str x), k_str_tuple, _, rfl, iteF z⟩
      | lst _ h _ => exact ⟨_, rfl, _, _, _, _, _, rfl, .ty _, .base (.lst h), k_list_tuple, _, rfl, iteF z⟩
      | tup h a => exact absurd rfl (nt _)
  cases hd with
  | non => exact ⟨_, rfl, _, _, _, _, _, rfl, .ty _, .base .non, k_NoneType_tuple, _, rfl, iteF z⟩
  | bl b => exact ⟨_, rfl, _, _, _, _, _, rfl, .ty _, .base (.bl b), k_bool_tuple, _, rfl, iteF z⟩
  | int i => exact ⟨_, rfl, _, _, _, _, _, rfl, .ty _, .base (.int i), k_int_tuple, _, rfl, iteF z⟩
  | str x => exact ⟨_, rfl, _, _, _, _, _, rfl, .ty _, .base (.str x), k_str_tuple, _, rfl, iteF z⟩
  | lst _ h _ => exact ⟨_, rfl, _, _, _, _, _, rfl, .ty _, .base (.lst h), k_list_tuple, _, rfl, iteF z⟩
  | tup h a =>
    refine ⟨_, rfl, _, _, _, _, _, rfl, .ty _, .base (.tup h), k_tuple_tuple, _, rfl, iteT ?_⟩
    refine ⟨_, rfl, _, _, rfl, .inr (SqT.of h), _, rfl, rfl, ?_⟩
    rw [DnAll.len a]
    have e : ∀ x y : Int, decide (V.int x = V.int y) = decide (x = y) := fun x y => by simp
    rw [e]
    exact z

theorem ok_is_label (F : Fun K "is_label" "is_label" s_is_label f_is_label d_is_label) (T : Txt K mg f_is_number f_is_tuple_of f_places_of f_is_label f_is_labels_like f_lets_labels f_ltape f_ldraw f_loffice f_lplaces f_lapart f_lis_alone f_ldrawn f_lbent f_ldue f_lsaid f_law)
    (F_is_tuple_of : Fun K "is_tuple_of" "is_tuple_of" s_is_tuple_of f_is_tuple_of d_is_tuple_of) (b_is_tuple_of : Binds K d_is_tuple_of ["thing", "many"] []) (G_is_tuple_of : FnOk P w K mg base CX0 (1) f_is_tuple_of d_is_tuple_of ["thing", "many"] spTupOfM)
    (F_is_number : Fun K "is_number" "is_number" s_is_number f_is_number d_is_number) (b_is_number : Binds K d_is_number ["thing"] []) (G_is_number : FnOk P w K mg base CX0 (1) f_is_number d_is_number ["thing"] spNumM) :
    FnOk P w K mg base CX0 (2) f_is_label d_is_label ["thing", "place"] spIsLbM := by
  refine F.ok sc_is_label (fun vs H Q E h => ?_) (fun cdv A outer s H vs Q E hr h => ?_)

  · obtain ⟨v, d, N, s, rfl, _⟩ := h
    rfl
  obtain ⟨v, d, N, s0, rfl, hd, pl, dp, q⟩ := h
  refine ⟨_, (pss_one (ps_ret (pe_and (pe_call G_is_tuple_of hr (by rfl) T.m_is_tuple_of F_is_tuple_of.kp b_is_tuple_of .nil pass0 (pa_cons (pv 0) (pa_cons pe_int pa_nil))) (pe_and (pe_cmpR (op_eqP hr) (pe_ix ix_tup (pv 0) pe_int (fun _ _ => rfl)) (pv 1) (nomark _)) (pe_one (pe_call G_is_number hr (by rfl) T.m_is_number F_is_number.kp b_is_number .nil pass0 (pa_cons (pe_ix ix_tup (pv 0) pe_int (fun _ _ => rfl)) pa_nil))))))), ?_⟩
  refine ⟨_, rfl, v, d, N, 2, rfl, .inl hd, fun H1 S1 => ?_⟩
  refine ⟨_, rfl, ?_⟩
  refine ite2 (fun c => ?_) (fun c => ?_)
  · obtain ⟨t, x, y, a, b, rfl, ht, rfl, h1, h2⟩ := tupD_two hd c
    have p1 : a.plain = true ∧ b.plain = true := by
      simp only [PyData.plain, PyData.plainAll, Bool.and_true, Bool.and_eq_true] at pl
      exact pl
    have d1 : a.depth ≤ 40 := by
      simp only [PyData.depth, PyData.depthAll] at dp
      omega
    refine ⟨_, rfl, t, _, _, _, rfl, rfl, SqT.of (S1 _ _ ht), rfl, _, rfl, a, .str s0, Dp.sm S1 h1.dp, .str _, p1.1, rfl, by omega, ?_⟩
    rw [Bool.false_xor]
    refine ⟨_, rfl, ?_⟩
    refine ite2 (fun c1 => ?_) (fun c1 => ?_)
    · refine ⟨_, rfl, t, _, _, _, rfl, rfl, SqT.of (S1 _ _ ht), rfl, y, b, N, rfl, h2.same S1, fun H2 S2 => ?_⟩
      have z := q H2 (S1.trans S2)
      have e : isLbD (.tuple [a, b]) s0 = isNumD b := by
        show (PyData.eqv a (.str s0) && isNumD b) = _
        rw [c1, Bool.true_and]
      rw [e] at z
      exact z
    · have z := q H1 S1
      have e : isLbD (.tuple [a, b]) s0 = false := by
        show (PyData.eqv a (.str s0) && isNumD b) = _
        rw [Bool.eq_false_iff.mpr c1, Bool.false_and]
      rw [e] at z
      exact z
  · have z := q H1 S1
    rw [isLbD_no s0 c] at z
    exact z

theorem ok_is_labels_like (F : Fun K "is_labels_like" "is_labels_like" s_is_labels_like f_is_labels_like d_is_labels_like) (T : Txt K mg f_is_number f_is_tuple_of f_places_of f_is_label f_is_labels_like f_lets_labels f_ltape f_ldraw f_loffice f_lplaces f_lapart f_lis_alone f_ldrawn f_lbent f_ldue f_lsaid f_law)
    (F_places_of : Fun K "places_of" "places_of" s_places_of f_places_of d_places_of) (b_places_of : Binds K d_places_of ["office"] []) (G_places_of : FnOk P w K mg base CX0 (2) f_places_of d_places_of ["office"] spPlOf)
    (F_is_tuple_of : Fun K "is_tuple_of" "is_tuple_of" s_is_tuple_of f_is_tuple_of d_is_tuple_of) (b_is_tuple_of : Binds K d_is_tuple_of ["thing", "many"] []) (G_is_tuple_of : FnOk P w K mg base CX0 (2) f_is_tuple_of d_is_tuple_of ["thing", "many"] spTupOfM)
    (F_is_label : Fun K "is_label" "is_label" s_is_label f_is_label d_is_label) (b_is_label : Binds K d_is_label ["thing", "place"] []) (G_is_label : FnOk P w K mg base CX0 (2) f_is_label d_is_label ["thing", "place"] spIsLbM)
    (hc_is_labels_like : d_is_labels_like.code = .ref c_is_labels_like) (TB_is_labels_like : GxR.TabB base mg c_is_labels_like P_is_labels_like) :
    FnOk P w K mg base CX0 (4) f_is_labels_like d_is_labels_like ["office", "thing"] (spLikeM P_is_labels_like) := by
  refine okT F hc_is_labels_like sc_is_labels_like (fun vs H Q E h => ?_) (fun A outer s H vs Q E hr h => ?_)

  · obtain ⟨o, v, ws, E1, pl, d, N, rfl, _⟩ := h
    rfl
  obtain ⟨o, v, ws, E1, pl, d, N, rfl, hof, le, pok, hd, pln, dep, hP, q⟩ := h
  refine ⟨_, (pss_cons (ps_set (i := 2) sc_is_labels_like.nd rfl (.inl rfl) (pe_call G_places_of (hr.mono (by decide)) (by rfl) T.m_places_of F_places_of.kp b_places_of .nil pass0 (pa_cons (pv 0) pa_nil)))
  (pss_cons (ps_if (pt_not (pt_val (pe_call G_is_tuple_of (hr.mono (by decide)) (by rfl) T.m_is_tuple_of F_is_tuple_of.kp b_is_tuple_of .nil pass0 (pa_cons (pv 1) (pa_cons (pe_callB call_len_seq (by rfl) T.len (by decide +kernel) (pa_cons (pv 2) pa_nil)) pa_nil)))))
  (pss_one (ps_ret pe_bl))
  pss_nil)
  (pss_one (ps_ret (pe_allG (own := [("label", 3), ("place", 4)]) (g := (gTup K 2 (gCons (gName 3) (gCons (gName 4) gNil)))) hr (by rfl) T.all sc_is_labels_like.nd TB_is_labels_like rfl (RZ.pi_zipA (by rfl) T.zip (pa_cons (pv 1) (pa_cons (pv 2) pa_nil))) (blkOk_by (own := [("label", 3), ("place", 4)]) (N := ["office", "thing", "places", "label", "place"]) (sc := defScope s_is_labels_like) (by decide +kernel)) (by decide +kernel) (fun _ _ _ _ _ => (pg_tup rfl (pgs_cons (pg_name (i := 3) sc_is_labels_like.nd rfl (.inl rfl)) (pgs_cons (pg_name (i := 4) sc_is_labels_like.nd rfl (.inl rfl)) pgs_nil)))) (fun _ _ _ _ _ => pts_nil) (fun _ _ _ _ _ => (pe_call G_is_label ((room_gx hr).mono (by decide)) (by rfl) T.m_is_label F_is_label.kp b_is_label .nil pass0 (pa_cons (pv 3) (pa_cons (pv 4) pa_nil))))))))), ?_⟩
  refine ⟨_, rfl, o, ws, E1, rfl, hof, le, fun p pl2 H1 S1 _ hp upp mem lp => ?_⟩
  have epl : pl2 = pl := ups_same upp pok.up fun y => by rw [mem, pok.mem]
  subst epl
  refine ⟨_, rfl, _, rfl, p, _, rfl, .inr (SqT.of hp), v, d, N, _, rfl, .inr (hd.same S1), fun H2 S2 => ?_⟩
  rw [List.length_map]
  refine ⟨_, rfl, ?_⟩
  by_cases c : tupD d ((pl2.length : Nat) : Int) = true
  · rw [c]
    obtain ⟨t, xs, ds, ob, rfl, ht, _, rfl, ha, el⟩ := tupD_at hd c
    have ln := DnAll.len ha
    have el2 : xs.length = (pl2.map V.str).length := by rw [List.length_map]; omega
    have ht2 := (S1.trans S2) _ _ ht
    have hp2 := S2 _ _ hp
    have ha2 := ha.same (S1.trans S2)
    refine iteF ?_
    refine ⟨_, rfl, _, rfl, t, p, _, _, rfl, .inr ⟨SqT.frz ht2, SqT.of hp2, ?_⟩⟩
    refine ⟨(S1.trans S2) _ _ hP, xs.length, fun _ => true, (fun i => .bl (likeF pl2 ds i)), (fun _ H' => Same H2 H'), gx_it (walk_zt (K := K) (a := t) (b := p) (xs := xs) (ys := pl2.map V.str) el2) (fun _ H' => Same H2 H') (Same.refl _) (fun i H' _ s => ⟨SqT.frz (s _ _ ht2), SqT.of (s _ _ hp2)⟩) ?_ ?_⟩
    · rintro i x H3 H4 hi s ⟨T1, x1, y1, rfl, nT, rfl, hx1, hy1⟩
      have hx1 : xs[i]? = some x1 := hx1
      have hy1 : (pl2.map V.str)[i]? = some y1 := hy1
      obtain ⟨y, hy, rfl⟩ : ∃ y, (pl2)[i]? = some y ∧ y1 = V.str y := by
        rw [List.getElem?_map] at hy1
        cases e' : (pl2)[i]? with
        | none => rw [e'] at hy1; cases hy1
        | some p => rw [e'] at hy1; exact ⟨p, rfl, (Option.some.inj hy1).symm⟩
      obtain ⟨a, ha1, hda⟩ := DnAll.get ha2 hx1
      have NT := same_new nT (.tup [x1, .str y])
      have S3 := s.trans NT
      have am := List.mem_of_getElem? ha1
      have f : likeF pl2 ds i = isLbD a y := by
        unfold likeF
        rw [ha1, hy]
      refine ⟨T1, _, rfl, SqT.of upd_same, rfl, _, _, rfl, _, _, rfl, rfl, rfl, rfl, ?_⟩
      exact ⟨_, rfl, _, rfl, x1, a, N, y, rfl, hda.same S3, parts_plain pln am, parts_depth dep am, fun H4 S4 => ⟨by rw [f], S3.trans S4⟩⟩
    · refine ⟨likeF pl2 ds, rfl, fun i H3 _ S3 => ?_⟩
      have z := q H3 (S1.trans (S2.trans S3))
      have e : likeD pl2 (.tuple ds) = (((List.range ds.length).filter fun _ => true).all (likeF pl2 ds)) := by
        show (decide _ && _) = _
        rw [decide_eq_true el, Bool.true_and]
      rw [e] at z
      rw [ln]
      exact z
  · have z := q H2 (S1.trans S2)
    rw [likeD_no c] at z
    rw [Bool.eq_false_iff.mpr c]
    exact iteT z

theorem ok_lets_labels (F : Fun K "lets_labels" "lets_labels" s_lets_labels f_lets_labels d_lets_labels) (T : Txt K mg f_is_number f_is_tuple_of f_places_of f_is_label f_is_labels_like f_lets_labels f_ltape f_ldraw f_loffice f_lplaces f_lapart f_lis_alone f_ldrawn f_lbent f_ldue f_lsaid f_law)
    (F_is_labels_like : Fun K "is_labels_like" "is_labels_like" s_is_labels_like f_is_labels_like d_is_labels_like) (b_is_labels_like : Binds K d_is_labels_like ["office", "thing"] []) (G_is_labels_like : FnOk P w K mg base CX0 (4) f_is_labels_like d_is_labels_like ["office", "thing"] (spLikeM P_is_labels_like)) {d_NoPaper : FuncData} (G_NoPaper : FnOk P w K mg base CX0 1 (He.ma K (He.ga K "NoPaper") "__init__") d_NoPaper ["self", "word", "place"] (spIn2 (He.ga K "NoPaper") "word" "place")) (b_NoPaper : Binds K d_NoPaper ["self", "word", "place"] []) :
    FnOk P w K mg base (L2.CX P w) (5) f_lets_labels d_lets_labels ["office", "one", "other", "thing"] (spLetsLM P_is_labels_like (He.ga K "NoPaper")) := by
  refine F.okX sc_lets_labels (fun vs H Q E h => ?_) (fun cdv A outer s H vs Q E hr h => ?_)

  · obtain ⟨o, x, y, v, ws, E1, pl, d, N, rfl, _⟩ := h
    rfl
  obtain ⟨o, x, y, v, ws, E1, pl, d, N, rfl, hof, le, pok, hx, hy, hd, pln, dep, hP, q, e⟩ := h
  refine ⟨_, (pss_cons (ps_if (pt_not (pt_val (pe_call G_is_labels_like hr (by rfl) T.m_is_labels_like F_is_labels_like.kp b_is_labels_like .nil pass0 (pa_cons (pv 0) (pa_cons (pv 3) pa_nil)))))
  (pss_one (ps_raise rfl (takes_of rfl rfl rfl rfl) (pmk_oex T.rf_NoPaper.o T.rf_NoPaper.iC T.rf_NoPaper.tI G_NoPaper (hr.mono (by decide)) b_NoPaper .nil pass0 (by rfl) T.m_NoPaper (pa_cons pe_str (pa_cons (pe_un un_neg pe_int) pa_nil)))))
  pss_nil)
  (pss_cons (ps_set (i := 4) sc_lets_labels.nd rfl (.inl rfl) (pe_callTy (call_dictT rfl) (by rfl) T.dict (by decide +kernel) (pa_cons (pv 3) pa_nil)))
  (pss_cons (ps_for (passes_of rfl) rfl (pi_enumT (by rfl) T.enumerate (pa_cons (pe_ix ix_tup (pv 0) pe_int (fun _ _ => rfl)) pa_nil)) (pg_tup rfl (pgs_cons (pg_name (i := 5) sc_lets_labels.nd rfl (.inl rfl)) (pgs_cons (pg_tup rfl (pgs_cons (pg_name (i := 6) sc_lets_labels.nd rfl (.inl rfl)) (pgs_cons (pg_name (i := 7) sc_lets_labels.nd rfl (.inl rfl)) pgs_nil))) pgs_nil)))
  (pss_one (ps_if (pt_cmpR op_gt (pe_dget (hu_of hr) (pv 4) (pv 7) (fun _ _ => rfl)) (pe_op op_add (pe_dget (hu_of hr) (pv 4) (pv 6) (fun _ _ => rfl)) pe_int) (nomark _))
  (pss_one (ps_raise rfl (takes_of rfl rfl rfl rfl) (pmk_oex T.rf_NoPaper.o T.rf_NoPaper.iC T.rf_NoPaper.tI G_NoPaper (hr.mono (by decide)) b_NoPaper .nil pass0 (by rfl) T.m_NoPaper (pa_cons pe_str (pa_cons (pv 5) pa_nil)))))
  pss_nil)))
  (pss_one (ps_ret (pe_op op_sub (pe_dget (hu_of hr) (pv 4) (pv 2) (fun _ _ => rfl)) (pe_dget (hu_of hr) (pv 4) (pv 1) (fun _ _ => rfl)))))))), ?_⟩
  refine ⟨_, rfl, _, rfl, o, v, ws, E1, pl, d, N, rfl, hof, le, pok, hd, pln, dep, hP, fun H1 S1 => ?_⟩
  cases c : likeD pl d with
  | false =>
    refine ⟨false, rfl, ?_⟩
    exact ⟨1, rfl, mk_read2 fun da H' hda s2 e2 => e _ _ (.inl ⟨c, rfl, rfl⟩) da H' (S1.free hda) (S1.trans s2) e2⟩
  | true =>
    obtain ⟨lab, rfl⟩ := like_lab (pok.up.imp fun {a b} k z => by rw [z] at k; exact sl_irr _ k) c
    refine ⟨true, rfl, ?_⟩
    rcases hd with ⟨t, xs, ds, ob, rfl, ed, ht, tp, ha⟩ | ⟨nt, _⟩
    rotate_left
    · exact absurd rfl (nt _)
    have ed : ds = pl.map fun s => PyData.tuple [.str s, .int (lab s)] := (PyData.tuple.inj ed).symm
    subst ed
    obtain ⟨ps, rfl, wt⟩ := lab_wts ha
    have wt := wt.same S1
    have ht := S1 _ _ ht
    refine ⟨_, rfl, t, ob, ps, _, rfl, ht, tp, wts_pairs wt, fun d hd => ?_⟩
    have Nd := same_new hd (.dK (mergeK [] (labK (labL pl lab))))
    have S2 := S1.trans Nd
    have hd2 : upd H1 d (.dK (mergeK [] (labK (labL pl lab)))) d = some (.dK (mergeK [] (labK (labL pl lab)))) := upd_same
    obtain ⟨w', r', wp, rp, ho, hw, hrr, hws, hrd⟩ := hof.same S2
    generalize upd H1 d (.dK (mergeK [] (labK (labL pl lab)))) = H2 at *
    have dget : ∀ {Hx : Hp} {s : Str}, Same H2 Hx → s ∈ pl → DGet Hx d (.str s) (some (.int (lab s))) := fun {Hx s} sx hs => by
      have z := DGet.k (k := Sum.inr s) (sx _ _ hd2)
      rw [lab_dict pok.up hs] at z
      exact z
    refine ⟨_, rfl, o, _, _, _, rfl, rfl, SqT.of ho, rfl, r', _, rfl, SqT.of hrr, ?_⟩
    refine for_it (walk_enumT (K := K) (a := r') (xs := rp.map V.ref)) (fun i σ H' => ∃ (v4 v5 v6 : Option V), σ = [some (.ref o), some (.str x), some (.str y), some (.ref t), some (.ref d), v4, v5, v6] ∧ Same H2 H' ∧ ∀ j : Nat, j < i → ∀ e : Ed, E1[j]? = some e → ¬ lab e.1 + 1 < lab e.2) ⟨none, none, none, rfl, Same.refl _, fun j hj => absurd hj (Nat.not_lt_zero _)⟩ (fun i σ H' _ h => by obtain ⟨_, _, _, _, S, _⟩ := h; exact SqT.of (S _ _ hrr)) ?_ ?_
    · rintro i z σ H3 H4 hi ⟨v4, v5, v6, rfl, S3, sofar⟩ ⟨T1, x1, y1, rfl, nT, rfl, hx1, hy1⟩
      cases Option.some.inj hx1
      have hy1 : (rp.map V.ref)[i]? = some y1 := hy1
      obtain ⟨u, hu, rfl⟩ : ∃ u, rp[i]? = some u ∧ y1 = V.ref u := by
        rw [List.getElem?_map] at hy1
        cases e' : rp[i]? with
        | none => rw [e'] at hy1; cases hy1
        | some p => rw [e'] at hy1; exact ⟨p, rfl, (Option.some.inj hy1).symm⟩
      obtain ⟨ee, he1, he2⟩ := Rds.get hrd hu
      have inE := List.mem_of_getElem? he1
      have NT := same_new nT (.tup [.int (i : Nat), .ref u])
      have S4 := S3.trans NT
      have i1 := (pok.mem ee.1).mpr (.inr ⟨ee, inE, .inl rfl⟩)
      have i2 := (pok.mem ee.2).mpr (.inr ⟨ee, inE, .inr rfl⟩)
      refine ⟨T1, _, rfl, SqT.of upd_same, rfl, _, _, rfl, _, _, rfl, u, _, rfl, SqT.of (S4 _ _ he2), rfl, _, _, rfl, _, _, rfl, rfl, rfl, ?_⟩
      refine ⟨_, rfl, _, rfl, d, _, rfl, dget S4 i2, _, rfl, _, rfl, d, _, rfl, dget S4 i1, _, _, rfl, rfl, _, _, rfl, rfl, _, rfl, ?_⟩
      refine ite2 (fun c1 => ?_) (fun c1 => ?_)
      · have c1 := of_decide_eq_true c1
        refine ⟨_, rfl, mk_read2 fun da H' hda s2 e2 => ?_⟩
        exact e _ _ (.inr ⟨lab, i, rfl, road_none sofar he1 (by omega), rfl, rfl⟩) da H' ((S2.trans S4).free hda) ((S2.trans S4).trans s2) e2
      · have c1 : ¬ lab ee.1 + 1 < lab ee.2 := fun k => c1 (decide_eq_true k)
        refine ⟨_, _, _, rfl, S4, fun j hj e0 he0 => ?_⟩
        by_cases cj : j < i
        · exact sofar j cj e0 he0
        · have : j = i := by omega
          subst this
          rw [he1] at he0
          cases he0
          exact c1
    · rintro σ H3 ⟨v4, v5, v6, rfl, S3, sofar⟩
      have rn : roadAt E1 lab = none := road_end fun j e0 he0 => sofar j (by
        have z := (List.getElem?_eq_some_iff.mp he0).1
        rw [List.length_map, hrd.len]
        exact z) e0 he0
      exact ⟨_, rfl, _, rfl, d, _, rfl, dget S3 hy, _, rfl, _, rfl, d, _, rfl, dget S3 hx, _, _, rfl, rfl, q lab rfl rn _ (S2.trans S3)⟩

theorem ok_lis_alone (F : Fun K "_law_is_alone" "_law_is_alone" s_lis_alone f_lis_alone d_lis_alone) (T : Txt K mg f_is_number f_is_tuple_of f_places_of f_is_label f_is_labels_like f_lets_labels f_ltape f_ldraw f_loffice f_lplaces f_lapart f_lis_alone f_ldrawn f_lbent f_ldue f_lsaid f_law) :
    FnP P w K mg base (1) f_lis_alone d_lis_alone ["_law_e"] (spAlone K "NoPaper") := by
  refine okP F sc_lis_alone (fun a c d vs H Q E h => ?_) (fun cdv A outer s H vs Q E a oe cls d hr hz hf h => ?_)

  · obtain ⟨rfl, _⟩ := h
    rfl
  obtain ⟨rfl, rfl, dd, fs, rfl, hd, q⟩ := h
  refine ⟨_, (pss_cons (ps_if (pt_val (pe_callB (call_isN (by exact rfl) T.rf_NoPaper hz hf (by exact List.mem_cons_self)) (by rfl) T.isinstance (by decide +kernel) (pa_cons (pv 0) (pa_cons (pe_tup (pa_cons (pe_glob (v := .ref (He.ga K "NoNumber")) (by rfl) T.m_NoNumber (by exact rfl)) (pa_cons (pe_glob (v := .ref (He.ga K "NoStars")) (by rfl) T.m_NoStars (by exact rfl)) (pa_cons (pe_glob (v := .ref (He.ga K "NoRow")) (by rfl) T.m_NoRow (by exact rfl)) (pa_cons (pe_glob (v := .ref (He.ga K "NoPage")) (by rfl) T.m_NoPage (by exact rfl)) (pa_cons (pe_glob (v := .ref (He.ga K "NoWorld")) (by rfl) T.m_NoWorld (by exact rfl)) (pa_cons (pe_glob (v := .ref (He.ga K "NoBack")) (by rfl) T.m_NoBack (by exact rfl)) (pa_cons (pe_glob (v := .ref (He.ga K "NoText")) (by rfl) T.m_NoText (by exact rfl)) (pa_cons (pe_glob (v := .ref (He.ga K "NoLine")) (by rfl) T.m_NoLine (by exact rfl)) pa_nil))))))))) pa_nil))))
  (pss_one (ps_ret pe_bl))
  pss_nil)
  (pss_one (ps_ret (pe_and (pe_callB (call_is1 (by exact rfl) T.rf_NoPaper hz hf (by exact List.mem_cons_self)) (by rfl) T.isinstance (by decide +kernel) (pa_cons (pv 0) (pa_cons (pe_glob (v := .ref (He.ga K "NoteError")) (by rfl) T.m_NoteError (by exact rfl)) pa_nil))) (pe_one (pe_callB (call_is1 (by exact rfl) T.rf_NoPaper hz hf (by exact List.mem_cons_self)) (by rfl) T.isinstance (by decide +kernel) (pa_cons (pv 0) (pa_cons (pe_bltn (v := .ty "ValueError") (by rfl) T.ValueError (by decide +kernel) rfl) pa_nil)))))))), ?_⟩
  refine ⟨_, rfl, (show 8 ≤ sizeLine by decide), fun tp ntp => ?_⟩
  have S2 := same_new ntp (.tup [V.ref (He.ga K "NoNumber"), V.ref (He.ga K "NoStars"), V.ref (He.ga K "NoRow"), V.ref (He.ga K "NoPage"), V.ref (He.ga K "NoWorld"), V.ref (He.ga K "NoBack"), V.ref (He.ga K "NoText"), V.ref (He.ga K "NoLine")])
  have hd2 := S2 _ _ hd
  refine ⟨rfl, dd, _, tp, [He.ga K "NoNumber", He.ga K "NoStars", He.ga K "NoRow", He.ga K "NoPage", He.ga K "NoWorld", He.ga K "NoBack", He.ga K "NoText", He.ga K "NoLine"], false, rfl, hd2, rfl, upd_same, T.rf_NoPaper.isO, ?_⟩
  refine ⟨false, rfl, iteF ?_⟩
  refine ⟨_, rfl, rfl, dd, _, _, _, true, rfl, hd2, rfl, fun u h => h, T.k_NoPaper_NoteError, true, rfl, iteT ?_⟩
  exact ⟨_, rfl, rfl, dd, _, _, _, true, rfl, hd2, rfl, fun u h => h, T.rf_NoPaper.isV, q _ S2⟩

theorem ok_ldrawn (F : Fun K "_law_drawn" "_law_drawn" s_ldrawn f_ldrawn d_ldrawn) (T : Txt K mg f_is_number f_is_tuple_of f_places_of f_is_label f_is_labels_like f_lets_labels f_ltape f_ldraw f_loffice f_lplaces f_lapart f_lis_alone f_ldrawn f_lbent f_ldue f_lsaid f_law)
    (F_ldraw : Fun K "_law_draw" "_law_draw" s_ldraw f_ldraw d_ldraw) (b_ldraw : Binds K d_ldraw ["_law_tape_here", "_law_many"] []) (G_ldraw : FnOk P w K mg base CX0 (1) f_ldraw d_ldraw ["_law_tape_here", "_law_many"] spDrawT) :
    FnOk P w K mg base CX0 (2) f_ldrawn d_ldrawn ["_law_tape_here", "_law_places_here", "_law_apart_here"] spDrawnL := by
  refine F.ok sc_ldrawn (fun vs H Q E h => ?_) (fun cdv A outer s H vs Q E hr h => ?_)

  · obtain ⟨f, c, P0, A, n, E1, pl, kvs, d, rfl, _⟩ := h
    rfl
  obtain ⟨f, c, P0, A, n, E1, pl, kvs, d, rfl, hf, hn, hP, Pf, pll, pl0, mem, hA, Af, ap, fw, q⟩ := h
  refine ⟨_, (pss_cons (ps_set (i := 3) sc_ldrawn.nd rfl (.inl rfl) (pe_call G_ldraw hr (by rfl) T.m_ldraw F_ldraw.kp b_ldraw .nil pass0 (pa_cons (pv 0) (pa_cons pe_int pa_nil))))
  (pss_cons (ps_set (i := 4) sc_ldrawn.nd rfl (.inr rfl) (pe_ix ix_list (pv 1) (pe_call G_ldraw hr (by rfl) T.m_ldraw F_ldraw.kp b_ldraw .nil pass0 (pa_cons (pv 0) (pa_cons (pe_callB call_len_seq (by rfl) T.len (by decide +kernel) (pa_cons (pv 1) pa_nil)) pa_nil))) (fun _ _ => rfl)))
  (pss_cons (ps_set (i := 5) sc_ldrawn.nd rfl (.inr rfl) (pe_ix ix_list (pe_lst (pa_cons pe_int (pa_cons pe_int (pa_cons (pe_un un_neg pe_int) (pa_cons (pe_op op_add (pe_op op_pow pe_int pe_int) (pe_call G_ldraw hr (by rfl) T.m_ldraw F_ldraw.kp b_ldraw .nil pass0 (pa_cons (pv 0) (pa_cons pe_int pa_nil)))) (pa_cons (pe_op op_sub pe_int (pe_op op_pow pe_int pe_int)) pa_nil)))))) (pe_call G_ldraw hr (by rfl) T.m_ldraw F_ldraw.kp b_ldraw .nil pass0 (pa_cons (pv 0) (pa_cons pe_int pa_nil))) (fun _ _ => rfl)))
  (pss_cons (ps_setLc (i := 6) (own := [("_law_place", 7)]) (g := (gName 7)) (by rfl) sc_ldrawn.nd rfl rfl (sw_true rfl rfl rfl (by decide +kernel)) (pi_list (pv 1)) (blkOk_by (own := [("_law_place", 7)]) (N := ["_law_tape_here", "_law_places_here", "_law_apart_here", "_law_way", "_law_begin", "_law_move", "_law_numbers", "_law_place", "_law_at"]) (sc := defScope s_ldrawn) (by decide +kernel)) (fun _ _ _ _ _ => (pg_name (i := 7) sc_ldrawn.nd rfl (.inl rfl))) (fun _ _ _ _ _ => pts_nil) (fun _ _ _ _ _ => (pe_op op_add (pe_dget2 (hu_of hr) (pv 2) (pe_tup (pa_cons (pv 4) (pa_cons (pv 7) pa_nil))) pe_int ⟨rfl, rfl, rfl, rfl⟩) (pv 5))))
  (C8.pss_cut (ps_if (pt_cmpR op_eq (pv 3) pe_int (nomark _))
  (pss_one (ps_setLc (i := 6) (own := [("_law_place", 7)]) (g := (gName 7)) (by rfl) sc_ldrawn.nd rfl rfl (sw_true rfl rfl rfl (by decide +kernel)) (pi_list (pv 1)) (blkOk_by (own := [("_law_place", 7)]) (N := ["_law_tape_here", "_law_places_here", "_law_apart_here", "_law_way", "_law_begin", "_law_move", "_law_numbers", "_law_place", "_law_at"]) (sc := defScope s_ldrawn) (by decide +kernel)) (fun _ _ _ _ _ => (pg_name (i := 7) sc_ldrawn.nd rfl (.inl rfl))) (fun _ _ _ _ _ => pts_nil) (fun _ _ _ _ _ => (pe_op op_add (pe_call G_ldraw hr (by rfl) T.m_ldraw F_ldraw.kp b_ldraw .nil pass0 (pa_cons (pv 0) (pa_cons pe_int pa_nil))) (pv 5)))))
  pss_nil)
  (C8.pss_cut (ps_if (pt_cmpR op_eq (pv 3) pe_int (nomark _))
  (pss_cons (ps_set (i := 8) sc_ldrawn.nd rfl (.inl rfl) (pe_call G_ldraw hr (by rfl) T.m_ldraw F_ldraw.kp b_ldraw .nil pass0 (pa_cons (pv 0) (pa_cons (pe_callB call_len_seq (by rfl) T.len (by decide +kernel) (pa_cons (pv 1) pa_nil)) pa_nil))))
  (pss_one (ps_asg (pe_op op_add (pe_ix ix_list (pv 6) (pv 8) (fun _ _ => rfl)) (pe_ix ix_list (pe_lst (pa_cons pe_int (pa_cons (pe_un un_neg pe_int) (pa_cons pe_int (pa_cons (pe_un un_neg pe_int) pa_nil))))) (pe_call G_ldraw hr (by rfl) T.m_ldraw F_ldraw.kp b_ldraw .nil pass0 (pa_cons (pv 0) (pa_cons pe_int pa_nil))) (fun _ _ => rfl))) (pg_sub (pv 6) (pv 8) set_list))))
  pss_nil)
  (pss_one (ps_ret (pe_tupZip (by rfl) (by rfl) T.tuple (by rfl) T.zip (pa_cons (pv 1) (pa_cons (pv 6) pa_nil))))))))))), ?_⟩
  refine ⟨_, rfl, f, c, 4, n, rfl, hf, by omega, by decide, by decide, fun w H1 w0 w1 hf1 b1 => ?_⟩
  have hP1 := b1 _ _ Pf hP
  refine ⟨_, rfl, _, rfl, _, rfl, P0, _, rfl, .inl (SqL.of hP1), f, c, _, _, rfl, hf1, by omega, ?_, ?_, fun e H2 e0 e1 hf2 b2 => ?_⟩
  · rw [List.length_map]; omega
  · rw [List.length_map]; omega
  obtain ⟨yv, yv1, yv2⟩ := atI_some (xs := pl.map V.str) e0 e1
  obtain ⟨x, hx, rfl⟩ := List.mem_map.mp yv2
  have hP2 := b2 _ _ Pf hP1
  refine ⟨P0, _, _, _, rfl, rfl, SqL.of hP2, yv1, ?_⟩
  have ten : (10 : Int) ^ (38 : Int).toNat = 100000000000000000000000000000000000000 := by decide +kernel
  have t39 : (10 ^ 39 : Int) = 1000000000000000000000000000000000000000 := by decide +kernel
  have cp : CPow 10 38 := ⟨by decide, by decide, by decide⟩
  refine ⟨5, rfl, 10, 38, rfl, rfl, cp, _, rfl, f, c, 9, _, rfl, hf2, by omega, by decide, by decide, fun g H3 g0 g1 hf3 b3 => ?_⟩
  refine ⟨_, _, rfl, rfl, 10, 38, rfl, rfl, cp, _, _, rfl, rfl, (show 5 ≤ sizeLine by decide), fun lm nlm => ?_⟩
  rw [ten]
  have Nlm := same_new nlm (.lst [V.int 0, .int 1, .int (-5), .int (100000000000000000000000000000000000000 + g), .int (0 - 100000000000000000000000000000000000000)])
  have nem := hf3.ne nlm
  refine ⟨_, rfl, f, c, 5, _, rfl, hf3.same Nlm, by omega, by decide, by decide, fun mi H4 m0 m1 hf4 b4 => ?_⟩
  have hlm4 := b4 _ _ nem.1 (show upd H3 lm (.lst [V.int 0, .int 1, .int (-5), .int (100000000000000000000000000000000000000 + g), .int (0 - 100000000000000000000000000000000000000)]) lm = some _ from upd_same)
  obtain ⟨mv, mv1, mv2⟩ := atI_some (xs := [V.int 0, .int 1, .int (-5), .int (100000000000000000000000000000000000000 + g), .int (0 - 100000000000000000000000000000000000000)]) m0 (show mi < 5 from m1)
  obtain ⟨mo, rfl, mo0, mo1⟩ : ∃ m : Int, mv = .int m ∧ -100000000000000000000000000000000000100 ≤ m ∧ m ≤ 100000000000000000000000000000000000100 := by
    simp only [List.mem_cons, List.not_mem_nil, or_false] at mv2
    rcases mv2 with rfl | rfl | rfl | rfl | rfl <;> exact ⟨_, rfl, by omega, by omega⟩
  have nb : ∀ i : Int, -100 ≤ i → i ≤ 100 → NbS (i + mo) := fun i h0 h1 => ⟨by omega, by omega⟩
  refine ⟨lm, _, _, _, rfl, rfl, SqL.of hlm4, mv1, ?_⟩
  have B4 : But f H H4 := b1.trans (b2.trans (b3.trans ((But.of_same Nlm).trans b4)))
  have hP4 := B4 _ _ Pf hP
  have hA4 := B4 _ _ Af hA
  clear hlm4 mv1 mv2 nlm Nlm nem b1 b2 b3 b4 hf1 hf2 hf3 hP1 hP2 yv1 yv2
  have inx := (mem x).mp hx
  refine ⟨_, rfl, P0, rfl, ⟨_, SqL.of hP4⟩, fun C hC => ?_⟩
  have neC := hf4.ne hC
  refine lc_list (K := K) (a := P0) (xs := pl.map V.str) (fun j H' => ∃ ns : List Int, Same H4 H' ∧ H' C = some (.lst (ns.map V.int)) ∧ ns.length = j ∧ ∀ i ∈ ns, NbS i) ⟨[], same_new hC _, upd_same, rfl, fun _ z => nomatch z⟩ (fun j H' _ h => by obtain ⟨_, S, _⟩ := h; exact SqL.of (S _ _ hP4)) ?_ ?_
  · rintro j z H5 hz ⟨ns, S5, hC5, ln, ok⟩
    obtain ⟨s, hs, rfl⟩ : ∃ s, (pl)[j]? = some s ∧ z = V.str s := by
      rw [List.getElem?_map] at hz
      cases e' : (pl)[j]? with
      | none => rw [e'] at hz; cases hz
      | some p => rw [e'] at hz; exact ⟨p, rfl, (Option.some.inj hz).symm⟩
    have hj := (List.getElem?_eq_some_iff.mp hs).1
    refine ⟨rfl, ?_⟩
    refine ⟨_, rfl, A, rfl, .inr ⟨kvs, .inl (S5 _ _ hA4)⟩, _, rfl, _, rfl, (show 2 ≤ sizeLine by decide), fun u hu => ?_⟩
    have Nu := same_new hu (.tup [.str x, .str s])
    obtain ⟨dv, hdv, d0, d1⟩ : ∃ dv : Int, ((d x s).map fun (n : Nat) => V.int n).getD (V.int 9) = V.int dv ∧ -100 ≤ dv ∧ dv ≤ 100 := by
      cases e : d x s with
      | none => exact ⟨9, rfl, by decide, by decide⟩
      | some m =>
        have := least_bound mem inx (fw_least fw (fun _ h => h) inx e)
        exact ⟨m, rfl, by omega, by omega⟩
    have N5 := S5.trans Nu
    refine ⟨_, ap_get ap (N5 _ _ hA4) upd_same, _, rfl, dv, mo, hdv, rfl, _, Nu _ _ hC5, ?_, ns ++ [dv + mo], same_mut N5 hC, ?_, ?_, ?_⟩
    · rw [List.length_map]
      exact Nat.lt_of_le_of_lt (show ns.length ≤ 100 by omega) (by decide)
    · rw [upd_same, List.map_append]
      rfl
    · rw [List.length_append, List.length_singleton, ln]
    · intro i hi
      rcases List.mem_append.mp hi with hi | hi
      · exact ok i hi
      · rw [List.mem_singleton.mp hi]
        exact nb dv d0 d1
  rintro H5 ⟨ns, S5, hC5, ln, ok⟩
  rw [List.length_map] at ln
  refine ⟨fun σ H' => ∃ (C : Addr) (ns : List Int) (v7 : Option V), σ = [some (.ref f), some (.ref P0), some (.ref A), some (.int w), some (.str x), some (.int mo), some (.ref C), v7, none] ∧ Fd H' f c (n + 45) ∧ But f H H' ∧ H C = none ∧ (C ≠ f ∧ C ≠ c) ∧ H' C = some (.lst (ns.map V.int)) ∧ ns.length = pl.length ∧ ∀ i ∈ ns, NbS i, ?_, ?_⟩
  · have B5 := B4.trans (But.of_same S5)
    have hP5 := B5 _ _ Pf hP
    refine ⟨_, rfl, rfl, _, rfl, ?_⟩
    refine ite2 (fun c0 => ?_) (fun c0 => ?_)
    rotate_left
    · exact ⟨C, ns, _, rfl, (hf4.same S5).mono (by omega), B5, B4.back hf4 hC, neC, hC5, ln, ok⟩
    · refine ⟨_, rfl, P0, rfl, ⟨_, SqL.of hP5⟩, fun C' hC' => ?_⟩
      have hf5 := hf4.same S5
      have neC' := hf5.ne hC'
      refine lc_list (K := K) (a := P0) (xs := pl.map V.str) (fun j H' => ∃ ns : List Int, Fd H' f c (n + 4 + j) ∧ But f H5 H' ∧ H' C' = some (.lst (ns.map V.int)) ∧ ns.length = j ∧ ∀ i ∈ ns, NbS i) ⟨[], (hf5.new hC').mono (by omega), But.new hC', upd_same, rfl, fun _ z => nomatch z⟩ (fun j H' _ h => by obtain ⟨_, _, b, _⟩ := h; exact SqL.of (b _ _ Pf hP5)) ?_ ?_
      · rintro j z H6 hz ⟨ns, hf6, b6, hC6, ln, ok⟩
        obtain ⟨s, hs, rfl⟩ : ∃ s, (pl)[j]? = some s ∧ z = V.str s := by
          rw [List.getElem?_map] at hz
          cases e' : (pl)[j]? with
          | none => rw [e'] at hz; cases hz
          | some p => rw [e'] at hz; exact ⟨p, rfl, (Option.some.inj hz).symm⟩
        have hj := (List.getElem?_eq_some_iff.mp hs).1
        refine ⟨rfl, _, rfl, f, c, 5, _, rfl, hf6, by omega, by decide, by decide, fun dv H7 d0 d1 hf7 b7 => ?_⟩
        refine ⟨_, rfl, _, _, rfl, rfl, _, b7 _ _ neC'.1 hC6, ?_, ns ++ [dv + mo], (hf7.upd neC').mono (by omega), (b6.trans b7).mut hC', ?_, ?_, ?_⟩
        · rw [List.length_map]
          exact Nat.lt_of_le_of_lt (show ns.length ≤ 100 by omega) (by decide)
        · rw [upd_same, List.map_append]
          rfl
        · rw [List.length_append, List.length_singleton, ln]
        · intro i hi
          rcases List.mem_append.mp hi with hi | hi
          · exact ok i hi
          · rw [List.mem_singleton.mp hi]
            exact nb dv (by omega) (by omega)
      rintro H6 ⟨ns, hf6, b6, hC6, ln, ok⟩
      rw [List.length_map] at ln
      exact ⟨C', ns, _, rfl, hf6.mono (by rw [List.length_map]; omega), B5.trans b6, B5.back hf5 hC', neC', hC6, ln, ok⟩
  clear hC5 ln ok S5 ns hC neC C H5
  rintro σ H5 ⟨C, ns, v7, rfl, hf5, B5, hC, neC, hC5, ln, ok⟩
  have hP5 := B5 _ _ Pf hP
  refine ⟨fun σ H' => ∃ (ns : List Int) (v7 v8 : Option V), σ = [some (.ref f), some (.ref P0), some (.ref A), some (.int w), some (.str x), some (.int mo), some (.ref C), v7, v8] ∧ Fd H' f c (n + 50) ∧ But f H H' ∧ H' C = some (.lst (ns.map V.int)) ∧ ns.length = pl.length ∧ ∀ i ∈ ns, NbOk i, ?_, ?_⟩
  · refine ⟨_, rfl, rfl, _, rfl, ?_⟩
    refine ite2 (fun c0 => ?_) (fun c0 => ?_)
    rotate_left
    · exact ⟨ns, _, _, rfl, hf5.mono (by omega), B5, hC5, ln, fun i hi => (ok i hi).ok⟩
    refine ⟨_, rfl, _, rfl, P0, _, rfl, .inl (SqL.of hP5), f, c, _, _, rfl, hf5, by omega, ?_, ?_, fun a H6 a0 a1 hf6 b6 => ?_⟩
    · rw [List.length_map]; omega
    · rw [List.length_map]; omega
    have hC6 := b6 _ _ neC.1 hC5
    obtain ⟨ja, rfl⟩ : ∃ j : Nat, a = j := ⟨a.toNat, by omega⟩
    have hja : ja < ns.length := by rw [List.length_map] at a1; omega
    have ia := ok _ (List.getElem_mem hja)
    refine ⟨_, rfl, _, rfl, C, _, _, _, rfl, rfl, SqL.of hC6, atI_nat (by rw [List.getElem?_map, List.getElem?_eq_getElem hja]; rfl), ?_⟩
    refine ⟨1, rfl, 9, rfl, (show 4 ≤ sizeLine by decide), fun l nl => ?_⟩
    have Nl := same_new nl (.lst [V.int 1, .int (-1), .int 2, .int (-9)])
    have nel := hf6.ne nl
    refine ⟨_, rfl, f, c, 4, _, rfl, hf6.same Nl, by omega, by decide, by decide, fun mi H7 m0 m1 hf7 b7 => ?_⟩
    have hl7 := b7 _ _ nel.1 (show upd H6 l (.lst [V.int 1, .int (-1), .int 2, .int (-9)]) l = some _ from upd_same)
    obtain ⟨mv, mv1, mv2⟩ := atI_some (xs := [V.int 1, .int (-1), .int 2, .int (-9)]) m0 (show mi < 4 from m1)
    obtain ⟨m, rfl, mo0, mo1⟩ : ∃ m : Int, mv = .int m ∧ -10 ≤ m ∧ m ≤ 10 := by
      simp only [List.mem_cons, List.not_mem_nil, or_false] at mv2
      rcases mv2 with rfl | rfl | rfl | rfl <;> exact ⟨_, rfl, by omega, by omega⟩
    have hC7 := b7 _ _ neC.1 (Nl _ _ hC6)
    refine ⟨l, _, _, _, rfl, rfl, SqL.of hl7, mv1, _, _, rfl, rfl, _, rfl, _, rfl, C, _, _, ja, rfl, rfl, hC7, ixN_at (by rw [List.length_map]; exact hja), ?_⟩
    refine ⟨ns.set ja (ns[ja] + m), _, _, rfl, (hf7.upd neC).mono (by omega), (B5.trans (b6.trans ((But.of_same Nl).trans b7))).mut hC, ?_, by rw [List.length_set, ln], fun i hi => ?_⟩
    · rw [upd_same, List.map_set]
    · rcases List.mem_or_eq_of_mem_set hi with hi | rfl
      · exact (ok i hi).ok
      · exact ia.more mo0 mo1
  clear hC5 ln ok hP5 B5 hf5 ns H5
  rintro σ H5 ⟨ns, v7, v8, rfl, hf5, B5, hC5, ln, ok⟩
  have hP5 := B5 _ _ Pf hP
  refine ⟨_, rfl, _, rfl, P0, C, _, _, rfl, SqL.of hP5, SqL.of hC5, by rw [List.length_map, List.length_map, ln], fun H' ts t o zp lt nt ho => ?_⟩
  rw [List.length_map] at lt
  have N := same_new nt (.frz o (.tup (ts.map V.ref)))
  have S6 := zp.1.trans N
  refine q t o ts (pl.zip ns) _ (hf5.same S6) (B5.trans (But.of_same S6)) upd_same ho ?_ ?_ fun w hw => ok _ (List.of_mem_zip hw).2
  · refine Wts.same N (wts_zip zp lt ln)
  · exact List.map_fst_zip (by omega)

theorem ok_lbent (F : Fun K "_law_bent" "_law_bent" s_lbent f_lbent d_lbent) (T : Txt K mg f_is_number f_is_tuple_of f_places_of f_is_label f_is_labels_like f_lets_labels f_ltape f_ldraw f_loffice f_lplaces f_lapart f_lis_alone f_ldrawn f_lbent f_ldue f_lsaid f_law)
    (F_ldraw : Fun K "_law_draw" "_law_draw" s_ldraw f_ldraw d_ldraw) (b_ldraw : Binds K d_ldraw ["_law_tape_here", "_law_many"] []) (G_ldraw : FnOk P w K mg base CX0 (1) f_ldraw d_ldraw ["_law_tape_here", "_law_many"] spDrawT) :
    FnOk P w K mg base CX0 (2) f_lbent d_lbent ["_law_tape_here", "_law_some"] spBentL := by
  refine F.ok sc_lbent (fun vs H Q E h => ?_) (fun cdv A outer s H vs Q E hr h => ?_)

  · obtain ⟨f, c, t, o, n, ps, ws, rfl, _⟩ := h
    rfl
  obtain ⟨f, c, t, o, n, ps, ws, rfl, hf, hn, ht, ho, hw, w0, w33, wok, q⟩ := h
  refine ⟨_, (pss_cons (ps_set (i := 2) sc_lbent.nd rfl (.inl rfl) (pe_call G_ldraw hr (by rfl) T.m_ldraw F_ldraw.kp b_ldraw .nil pass0 (pa_cons (pv 0) (pa_cons pe_int pa_nil))))
  (pss_cons (ps_set (i := 3) sc_lbent.nd rfl (.inr rfl) (pe_call G_ldraw hr (by rfl) T.m_ldraw F_ldraw.kp b_ldraw .nil pass0 (pa_cons (pv 0) (pa_cons (pe_callB call_len_seq (by rfl) T.len (by decide +kernel) (pa_cons (pv 1) pa_nil)) pa_nil))))
  (pss_cons (ps_asg (pe_ix ix_tup (pv 1) (pv 3) (fun _ _ => rfl)) (pg_tup rfl (pgs_cons (pg_name (i := 4) sc_lbent.nd rfl (.inl rfl)) (pgs_cons (pg_name (i := 5) sc_lbent.nd rfl (.inl rfl)) pgs_nil))))
  (pss_cons (ps_set (i := 6) sc_lbent.nd rfl (.inl rfl) (pe_lst (pa_cons (pe_tup (pa_cons (pv 4) (pa_cons (pe_cmpR op_eq (pv 5) pe_int (nomark _)) pa_nil))) (pa_cons (pe_tup (pa_cons (pv 4) (pa_cons pe_non pa_nil))) (pa_cons (pe_tup (pa_cons (pv 4) (pa_cons (pe_callTy call_str_int (by rfl) T.str (by decide +kernel) (pa_cons (pv 5) pa_nil)) pa_nil))) (pa_cons (pe_lst (pa_cons (pv 4) (pa_cons (pv 5) pa_nil))) (pa_cons (pe_tup (pa_cons (pv 4) (pa_cons (pv 5) (pa_cons pe_int pa_nil)))) pa_nil)))))))
  (pss_cons (ps_set (i := 6) sc_lbent.nd rfl (.inl rfl) (pe_op op_cat (pv 6) (pe_lst (pa_cons (pe_tup (pa_cons (pv 4) pa_nil)) (pa_cons (pe_tup (pa_cons pe_str (pa_cons (pv 5) pa_nil))) (pa_cons (pe_tup (pa_cons (pv 5) (pa_cons (pv 4) pa_nil))) (pa_cons (pv 4) (pa_cons (pe_tup (pa_cons (pv 4) (pa_cons (pe_tup (pa_cons (pv 5) pa_nil)) pa_nil))) pa_nil))))))))
  (pss_cons (ps_setLc (i := 7) (own := [("_law_one", 8)]) (g := (gName 8)) (by rfl) sc_lbent.nd rfl rfl (sw_true rfl rfl rfl (by decide +kernel)) (pi_list (pv 6)) (blkOk_by (own := [("_law_one", 8)]) (N := ["_law_tape_here", "_law_some", "_law_way", "_law_at", "_law_place", "_law_number", "_law_other", "_law_things", "_law_one"]) (sc := defScope s_lbent) (by decide +kernel)) (fun _ _ _ _ _ => (pg_name (i := 8) sc_lbent.nd rfl (.inl rfl))) (fun _ _ _ _ _ => pts_nil) (fun _ _ _ _ _ => (pe_op (show OpR _ (binaryOp .Add) (rCatF K) from op_catF) (pe_op (show OpR _ (binaryOp .Add) (rCatF K) from op_catF) (pe_slice (show SlR _ (rSlF K) from sl_tupF) (pv 1) po_none (po_some (pv 3))) (pe_tupF (pa_cons (pv 8) pa_nil))) (pe_slice (show SlR _ (rSlF K) from sl_tupF) (pv 1) (po_some (pe_op op_add (pv 3) pe_int)) po_none))))
  (pss_cons (ps_set (i := 7) sc_lbent.nd rfl (.inl rfl) (pe_op op_cat (pv 7) (pe_lst (pa_cons (pe_callTy call_list_of (by rfl) T.list (by decide +kernel) (pa_cons (pv 1) pa_nil)) (pa_cons (pe_op op_catF (pe_slice sl_tupF (pv 1) po_none (po_some (pv 3))) (pe_slice sl_tupF (pv 1) (po_some (pe_op op_add (pv 3) pe_int)) po_none)) (pa_cons (pe_op op_catF (pe_slice sl_tupF (pv 1) po_none (po_some (pe_op op_add (pv 3) pe_int))) (pe_slice sl_tupF (pv 1) (po_some (pv 3)) po_none)) (pa_cons (pe_revF (pv 1)) (pa_cons pe_non pa_nil))))))))
  (pss_one (ps_ret (pe_ifExp (pt_cmpR op_gt (pv 2) pe_int (nomark _)) (pv 1) (pe_ix ix_list (pv 7) (pv 2) (fun _ _ => rfl)))))))))))), ?_⟩
  have tf : ∀ {H1 : Hp}, But f H H1 → H1 t = some (.frz o (.tup (ps.map V.ref))) := fun b => by
    obtain ⟨zs, hz⟩ := hf.at
    exact b _ _ (ne_of ht hz fun z => nomatch z) ht
  have pl := hw.length
  have pl2 : (ps.map V.ref).length ≤ 33 := by rw [List.length_map]; omega
  refine ⟨_, rfl, f, c, 24, n, rfl, hf, by omega, by decide, by decide, fun way H1 y0 y1 hf1 b1 => ?_⟩
  refine ⟨_, rfl, _, rfl, t, _, rfl, .inr (SqT.frz (tf b1)), f, c, _, _, rfl, hf1, by omega, ?_, ?_, fun at_ H2 a0 a1 hf2 b2 => ?_⟩
  · rw [List.length_map]; omega
  · rw [List.length_map]; omega
  have b12 := b1.trans b2
  obtain ⟨ja, rfl⟩ : ∃ j : Nat, at_ = j := ⟨at_.toNat, by omega⟩
  have hja : ja < ps.length := by rw [List.length_map] at a1; omega
  obtain ⟨wt, hwt, hpt⟩ := Wts.get2 hw (List.getElem?_eq_getElem hja)
  obtain ⟨wn, wi⟩ := wok wt (List.mem_of_getElem? hwt)
  have ht2 := tf b12
  have hp2' : ∀ {p : Addr} {xs : List V}, H p = some (.tup xs) → H2 p = some (.tup xs) := fun e => by
    obtain ⟨zs, hz⟩ := hf.at
    exact b12 _ _ (ne_of e hz fun z => nomatch z) e
  refine ⟨_, rfl, _, rfl, t, _, _, _, rfl, rfl, SqT.frz ht2, atI_nat (by rw [List.getElem?_map, List.getElem?_eq_getElem hja]; rfl), ?_⟩
  refine ⟨_, _, rfl, SqT.of (hp2' hpt), rfl, _, _, rfl, _, _, rfl, rfl, ?_⟩
  have nb0 : NbOk 0 := ⟨by decide +kernel, by decide +kernel⟩
  have nzz : NmOk (("zzz" : String) : Str) := ⟨by decide +kernel, by decide +kernel⟩
  have U0 : Same H2 H2 := Same.refl _
  refine ⟨_, rfl, _, rfl, rfl, (show 2 ≤ sizeLine by decide), fun p1 np1 => ?_⟩
  have backp1 := np1
  have S1 := same_new np1 (.tup [V.str wt.1, .bl (decide (V.int wt.2 = V.int 1))])
  have hp1 : upd H2 p1 (.tup [V.str wt.1, .bl (decide (V.int wt.2 = V.int 1))]) p1 = some (.tup [V.str wt.1, .bl (decide (V.int wt.2 = V.int 1))]) := upd_same
  generalize hG1 : upd H2 p1 (.tup [V.str wt.1, .bl (decide (V.int wt.2 = V.int 1))]) = G1 at *
  clear hG1
  have U1 := U0.trans S1
  have ht2 := S1 _ _ ht2
  have qp1 : PtE (fun a => H a = none) G1 (.ref p1) := pt_of hp1 (Nat.le_of_ble_eq_true rfl) (vs2 (at_str wn) (at_bl _))
  refine ⟨_, rfl, (show 2 ≤ sizeLine by decide), fun p2 np2 => ?_⟩
  have backp2 := np2
  have S2 := same_new np2 (.tup [V.str wt.1, .non])
  have hp2 : upd G1 p2 (.tup [V.str wt.1, .non]) p2 = some (.tup [V.str wt.1, .non]) := upd_same
  generalize hG2 : upd G1 p2 (.tup [V.str wt.1, .non]) = G2 at *
  clear hG2
  have U2 := U1.trans S2
  have ht2 := S2 _ _ ht2
  have hp1 := S2 _ _ hp1
  have qp1 := qp1.same S2
  have qp2 : PtE (fun a => H a = none) G2 (.ref p2) := pt_of hp2 (Nat.le_of_ble_eq_true rfl) (vs2 (at_str wn) at_non)
  refine ⟨_, rfl, _, rfl, wt.2, rfl, nb_log wi, (show 2 ≤ sizeLine by decide), fun p3 np3 => ?_⟩
  have backp3 := np3
  have S3 := same_new np3 (.tup [V.str wt.1, .str (toString wt.2)])
  have hp3 : upd G2 p3 (.tup [V.str wt.1, .str (toString wt.2)]) p3 = some (.tup [V.str wt.1, .str (toString wt.2)]) := upd_same
  generalize hG3 : upd G2 p3 (.tup [V.str wt.1, .str (toString wt.2)]) = G3 at *
  clear hG3
  have U3 := U2.trans S3
  have ht2 := S3 _ _ ht2
  have hp1 := S3 _ _ hp1
  have hp2 := S3 _ _ hp2
  have qp1 := qp1.same S3
  have qp2 := qp2.same S3
  have qp3 : PtE (fun a => H a = none) G3 (.ref p3) := pt_of hp3 (Nat.le_of_ble_eq_true rfl) (vs2 (at_str wn) (at_text wi))
  refine ⟨_, rfl, _, rfl, (show 2 ≤ sizeLine by decide), fun p4 np4 => ?_⟩
  have backp4 := np4
  have S4 := same_new np4 (.lst [V.str wt.1, .int wt.2])
  have hp4 : upd G3 p4 (.lst [V.str wt.1, .int wt.2]) p4 = some (.lst [V.str wt.1, .int wt.2]) := upd_same
  generalize hG4 : upd G3 p4 (.lst [V.str wt.1, .int wt.2]) = G4 at *
  clear hG4
  have U4 := U3.trans S4
  have ht2 := S4 _ _ ht2
  have hp1 := S4 _ _ hp1
  have hp2 := S4 _ _ hp2
  have hp3 := S4 _ _ hp3
  have qp1 := qp1.same S4
  have qp2 := qp2.same S4
  have qp3 := qp3.same S4
  have qp4 : PtE (fun a => H a = none) G4 (.ref p4) := pt_lst (b12.back hf2 (U3.free np4)) hp4 (Nat.le_of_ble_eq_true rfl) (vs2 (at_str wn) (at_int wi))
  refine ⟨_, rfl, _, rfl, (show 3 ≤ sizeLine by decide), fun p5 np5 => ?_⟩
  have backp5 := np5
  have S5 := same_new np5 (.tup [V.str wt.1, .int wt.2, .int 0])
  have hp5 : upd G4 p5 (.tup [V.str wt.1, .int wt.2, .int 0]) p5 = some (.tup [V.str wt.1, .int wt.2, .int 0]) := upd_same
  generalize hG5 : upd G4 p5 (.tup [V.str wt.1, .int wt.2, .int 0]) = G5 at *
  clear hG5
  have U5 := U4.trans S5
  have ht2 := S5 _ _ ht2
  have hp1 := S5 _ _ hp1
  have hp2 := S5 _ _ hp2
  have hp3 := S5 _ _ hp3
  have hp4 := S5 _ _ hp4
  have qp1 := qp1.same S5
  have qp2 := qp2.same S5
  have qp3 := qp3.same S5
  have qp4 := qp4.same S5
  have qp5 : PtE (fun a => H a = none) G5 (.ref p5) := pt_of hp5 (Nat.le_of_ble_eq_true rfl) (vs3 (at_str wn) (at_int wi) (at_int nb0))
  refine ⟨(show 5 ≤ sizeLine by decide), fun la nla => ?_⟩
  have backla := nla
  have S6 := same_new nla (.lst [V.ref p1, .ref p2, .ref p3, .ref p4, .ref p5])
  have hla : upd G5 la (.lst [V.ref p1, .ref p2, .ref p3, .ref p4, .ref p5]) la = some (.lst [V.ref p1, .ref p2, .ref p3, .ref p4, .ref p5]) := upd_same
  generalize hG6 : upd G5 la (.lst [V.ref p1, .ref p2, .ref p3, .ref p4, .ref p5]) = G6 at *
  clear hG6
  have U6 := U5.trans S6
  have ht2 := S6 _ _ ht2
  have hp1 := S6 _ _ hp1
  have hp2 := S6 _ _ hp2
  have hp3 := S6 _ _ hp3
  have hp4 := S6 _ _ hp4
  have hp5 := S6 _ _ hp5
  have qp1 := qp1.same S6
  have qp2 := qp2.same S6
  have qp3 := qp3.same S6
  have qp4 := qp4.same S6
  have qp5 := qp5.same S6
  refine ⟨_, rfl, _, rfl, (show 1 ≤ sizeLine by decide), fun p6 np6 => ?_⟩
  have backp6 := np6
  have S7 := same_new np6 (.tup [V.str wt.1])
  have hp6 : upd G6 p6 (.tup [V.str wt.1]) p6 = some (.tup [V.str wt.1]) := upd_same
  generalize hG7 : upd G6 p6 (.tup [V.str wt.1]) = G7 at *
  clear hG7
  have U7 := U6.trans S7
  have ht2 := S7 _ _ ht2
  have hp1 := S7 _ _ hp1
  have hp2 := S7 _ _ hp2
  have hp3 := S7 _ _ hp3
  have hp4 := S7 _ _ hp4
  have hp5 := S7 _ _ hp5
  have hla := S7 _ _ hla
  have qp1 := qp1.same S7
  have qp2 := qp2.same S7
  have qp3 := qp3.same S7
  have qp4 := qp4.same S7
  have qp5 := qp5.same S7
  have qp6 : PtE (fun a => H a = none) G7 (.ref p6) := pt_of hp6 (Nat.le_of_ble_eq_true rfl) (vs1 (at_str wn))
  refine ⟨_, rfl, (show 2 ≤ sizeLine by decide), fun p7 np7 => ?_⟩
  have backp7 := np7
  have S8 := same_new np7 (.tup [V.str (("zzz" : String) : Str), .int wt.2])
  have hp7 : upd G7 p7 (.tup [V.str (("zzz" : String) : Str), .int wt.2]) p7 = some (.tup [V.str (("zzz" : String) : Str), .int wt.2]) := upd_same
  generalize hG8 : upd G7 p7 (.tup [V.str (("zzz" : String) : Str), .int wt.2]) = G8 at *
  clear hG8
  have U8 := U7.trans S8
  have ht2 := S8 _ _ ht2
  have hp1 := S8 _ _ hp1
  have hp2 := S8 _ _ hp2
  have hp3 := S8 _ _ hp3
  have hp4 := S8 _ _ hp4
  have hp5 := S8 _ _ hp5
  have hla := S8 _ _ hla
  have hp6 := S8 _ _ hp6
  have qp1 := qp1.same S8
  have qp2 := qp2.same S8
  have qp3 := qp3.same S8
  have qp4 := qp4.same S8
  have qp5 := qp5.same S8
  have qp6 := qp6.same S8
  have qp7 : PtE (fun a => H a = none) G8 (.ref p7) := pt_of hp7 (Nat.le_of_ble_eq_true rfl) (vs2 (at_str nzz) (at_int wi))
  refine ⟨_, rfl, _, rfl, (show 2 ≤ sizeLine by decide), fun p8 np8 => ?_⟩
  have backp8 := np8
  have S9 := same_new np8 (.tup [V.int wt.2, .str wt.1])
  have hp8 : upd G8 p8 (.tup [V.int wt.2, .str wt.1]) p8 = some (.tup [V.int wt.2, .str wt.1]) := upd_same
  generalize hG9 : upd G8 p8 (.tup [V.int wt.2, .str wt.1]) = G9 at *
  clear hG9
  have U9 := U8.trans S9
  have ht2 := S9 _ _ ht2
  have hp1 := S9 _ _ hp1
  have hp2 := S9 _ _ hp2
  have hp3 := S9 _ _ hp3
  have hp4 := S9 _ _ hp4
  have hp5 := S9 _ _ hp5
  have hla := S9 _ _ hla
  have hp6 := S9 _ _ hp6
  have hp7 := S9 _ _ hp7
  have qp1 := qp1.same S9
  have qp2 := qp2.same S9
  have qp3 := qp3.same S9
  have qp4 := qp4.same S9
  have qp5 := qp5.same S9
  have qp6 := qp6.same S9
  have qp7 := qp7.same S9
  have qp8 : PtE (fun a => H a = none) G9 (.ref p8) := pt_of hp8 (Nat.le_of_ble_eq_true rfl) (vs2 (at_int wi) (at_str wn))
  refine ⟨_, rfl, _, rfl, _, rfl, (show 1 ≤ sizeLine by decide), fun p9 np9 => ?_⟩
  have backp9 := np9
  have S10 := same_new np9 (.tup [V.int wt.2])
  have hp9 : upd G9 p9 (.tup [V.int wt.2]) p9 = some (.tup [V.int wt.2]) := upd_same
  generalize hG10 : upd G9 p9 (.tup [V.int wt.2]) = G10 at *
  clear hG10
  have U10 := U9.trans S10
  have ht2 := S10 _ _ ht2
  have hp1 := S10 _ _ hp1
  have hp2 := S10 _ _ hp2
  have hp3 := S10 _ _ hp3
  have hp4 := S10 _ _ hp4
  have hp5 := S10 _ _ hp5
  have hla := S10 _ _ hla
  have hp6 := S10 _ _ hp6
  have hp7 := S10 _ _ hp7
  have hp8 := S10 _ _ hp8
  have qp1 := qp1.same S10
  have qp2 := qp2.same S10
  have qp3 := qp3.same S10
  have qp4 := qp4.same S10
  have qp5 := qp5.same S10
  have qp6 := qp6.same S10
  have qp7 := qp7.same S10
  have qp8 := qp8.same S10
  refine ⟨(show 2 ≤ sizeLine by decide), fun p10 np10 => ?_⟩
  have backp10 := np10
  have S11 := same_new np10 (.tup [V.str wt.1, .ref p9])
  have hp10 : upd G10 p10 (.tup [V.str wt.1, .ref p9]) p10 = some (.tup [V.str wt.1, .ref p9]) := upd_same
  generalize hG11 : upd G10 p10 (.tup [V.str wt.1, .ref p9]) = G11 at *
  clear hG11
  have U11 := U10.trans S11
  have ht2 := S11 _ _ ht2
  have hp1 := S11 _ _ hp1
  have hp2 := S11 _ _ hp2
  have hp3 := S11 _ _ hp3
  have hp4 := S11 _ _ hp4
  have hp5 := S11 _ _ hp5
  have hla := S11 _ _ hla
  have hp6 := S11 _ _ hp6
  have hp7 := S11 _ _ hp7
  have hp8 := S11 _ _ hp8
  have hp9 := S11 _ _ hp9
  have qp1 := qp1.same S11
  have qp2 := qp2.same S11
  have qp3 := qp3.same S11
  have qp4 := qp4.same S11
  have qp5 := qp5.same S11
  have qp6 := qp6.same S11
  have qp7 := qp7.same S11
  have qp8 := qp8.same S11
  have qp10 : PtE (fun a => H a = none) G11 (.ref p10) := pt_of hp10 (Nat.le_of_ble_eq_true rfl) (vs2 (at_str wn) (at_one hp9 wi))
  refine ⟨(show 5 ≤ sizeLine by decide), fun lb nlb => ?_⟩
  have backlb := nlb
  have S12 := same_new nlb (.lst [V.ref p6, .ref p7, .ref p8, .str wt.1, .ref p10])
  have hlb : upd G11 lb (.lst [V.ref p6, .ref p7, .ref p8, .str wt.1, .ref p10]) lb = some (.lst [V.ref p6, .ref p7, .ref p8, .str wt.1, .ref p10]) := upd_same
  generalize hG12 : upd G11 lb (.lst [V.ref p6, .ref p7, .ref p8, .str wt.1, .ref p10]) = G12 at *
  clear hG12
  have U12 := U11.trans S12
  have ht2 := S12 _ _ ht2
  have hp1 := S12 _ _ hp1
  have hp2 := S12 _ _ hp2
  have hp3 := S12 _ _ hp3
  have hp4 := S12 _ _ hp4
  have hp5 := S12 _ _ hp5
  have hla := S12 _ _ hla
  have hp6 := S12 _ _ hp6
  have hp7 := S12 _ _ hp7
  have hp8 := S12 _ _ hp8
  have hp9 := S12 _ _ hp9
  have hp10 := S12 _ _ hp10
  have qp1 := qp1.same S12
  have qp2 := qp2.same S12
  have qp3 := qp3.same S12
  have qp4 := qp4.same S12
  have qp5 := qp5.same S12
  have qp6 := qp6.same S12
  have qp7 := qp7.same S12
  have qp8 := qp8.same S12
  have qp10 := qp10.same S12
  refine ⟨la, lb, _, _, rfl, rfl, hla, hlb, (show 10 ≤ sizeLine by decide), fun lc nlc => ?_⟩
  have backlc := nlc
  have S13 := same_new nlc (.lst ([V.ref p1, .ref p2, .ref p3, .ref p4, .ref p5] ++ [V.ref p6, .ref p7, .ref p8, .str wt.1, .ref p10]))
  have hlc : upd G12 lc (.lst ([V.ref p1, .ref p2, .ref p3, .ref p4, .ref p5] ++ [V.ref p6, .ref p7, .ref p8, .str wt.1, .ref p10])) lc = some (.lst ([V.ref p1, .ref p2, .ref p3, .ref p4, .ref p5] ++ [V.ref p6, .ref p7, .ref p8, .str wt.1, .ref p10])) := upd_same
  generalize hG13 : upd G12 lc (.lst ([V.ref p1, .ref p2, .ref p3, .ref p4, .ref p5] ++ [V.ref p6, .ref p7, .ref p8, .str wt.1, .ref p10])) = G13 at *
  clear hG13
  have U13 := U12.trans S13
  have ht2 := S13 _ _ ht2
  have hp1 := S13 _ _ hp1
  have hp2 := S13 _ _ hp2
  have hp3 := S13 _ _ hp3
  have hp4 := S13 _ _ hp4
  have hp5 := S13 _ _ hp5
  have hla := S13 _ _ hla
  have hp6 := S13 _ _ hp6
  have hp7 := S13 _ _ hp7
  have hp8 := S13 _ _ hp8
  have hp9 := S13 _ _ hp9
  have hp10 := S13 _ _ hp10
  have hlb := S13 _ _ hlb
  have qp1 := qp1.same S13
  have qp2 := qp2.same S13
  have qp3 := qp3.same S13
  have qp4 := qp4.same S13
  have qp5 := qp5.same S13
  have qp6 := qp6.same S13
  have qp7 := qp7.same S13
  have qp8 := qp8.same S13
  have qp10 := qp10.same S13
  have hlc : G13 lc = some (.lst [V.ref p1, .ref p2, .ref p3, .ref p4, .ref p5, .ref p6, .ref p7, .ref p8, .str wt.1, .ref p10]) := hlc

  refine ⟨_, rfl, lc, rfl, ⟨_, SqL.of hlc⟩, fun C hC => ?_⟩
  have l1 : (cutV (ps.map V.ref) none (some (ja : Int))).length ≤ 33 := Nat.le_trans (cutV_length _ _ _) pl2
  have l2 : (cutV (ps.map V.ref) (some ((ja : Int) + 1)) none).length ≤ 33 := Nat.le_trans (cutV_length _ _ _) pl2
  have l3 : (cutV (ps.map V.ref) none (some ((ja : Int) + 1))).length ≤ 33 := Nat.le_trans (cutV_length _ _ _) pl2
  have l4 : (cutV (ps.map V.ref) (some (ja : Int)) none).length ≤ 33 := Nat.le_trans (cutV_length _ _ _) pl2
  have z34 : ∀ {a b : List V}, a.length ≤ 34 → b.length ≤ 34 → a.length + b.length ≤ sizeLine := fun h k => Nat.le_trans (Nat.add_le_add h k) (by decide)
  refine lc_list (K := K) (a := lc) (xs := [V.ref p1, .ref p2, .ref p3, .ref p4, .ref p5, .ref p6, .ref p7, .ref p8, .str wt.1, .ref p10]) (fun j H' => ∃ rs : List V, Same G13 H' ∧ H' C = some (.lst rs) ∧ rs.length = j ∧ ∀ v ∈ rs, ∃ x ∈ [V.ref p1, .ref p2, .ref p3, .ref p4, .ref p5, .ref p6, .ref p7, .ref p8, .str wt.1, .ref p10], Fz H' (cutV (ps.map V.ref) none (some (ja : Int)) ++ [x] ++ cutV (ps.map V.ref) (some ((ja : Int) + 1)) none) v) ⟨[], same_new hC _, upd_same, rfl, fun _ z => nomatch z⟩ (fun j H' _ h => by obtain ⟨_, S, _⟩ := h; exact SqL.of (S _ _ hlc)) ?_ ?_
  · rintro j z H5 hz ⟨rs, S5, hC5, ln, ok⟩
    have hj := (List.getElem?_eq_some_iff.mp hz).1
    have inz := List.mem_of_getElem? hz
    refine ⟨rfl, _, rfl, _, rfl, _, rfl, slF (S5 _ _ ht2) ho fun q1 H6 o1 T1 h1 k1 => ?_⟩
    refine ⟨_, rfl, (show 1 ≤ sizeLine by decide), fun q2 o2 n2 k2 => ?_⟩
    have N2 := same_new n2 (.frz o2 (.tup [z]))
    refine catF (N2 _ _ h1) k1 upd_same k2 (z34 (by omega) (show 1 ≤ 34 by decide)) fun q3 H7 o3 T3 h3 k3 => ?_
    have T23 := T1.trans (N2.trans T3)
    refine ⟨_, rfl, _, rfl, _, _, rfl, rfl, _, rfl, slFn (T23 _ _ (S5 _ _ ht2)) ho fun q4 H8 o4 T4 h4 k4 => ?_⟩
    refine catF (T4 _ _ h3) k3 h4 k4 (z34 (by rw [List.length_append]; exact Nat.add_le_add l1 (Nat.le_refl 1)) (by omega)) fun q5 H9 o5 T5 h5 k5 => ?_
    have TT := T23.trans (T4.trans T5)
    have hC9 := TT _ _ hC5
    refine ⟨_, hC9, ?_, rs ++ [.ref q5], same_mut (S5.trans TT) hC, upd_same, by rw [List.length_append, List.length_singleton, ln], fun v hv => ?_⟩
    · exact Nat.lt_of_le_of_lt (show rs.length ≤ 10 from by rw [ln]; exact Nat.le_of_lt hj) (by decide)
    · rcases List.mem_append.mp hv with hv | hv
      · obtain ⟨x, x1, x2⟩ := ok v hv
        exact ⟨x, x1, (x2.same TT).mut hC9⟩
      · rw [List.mem_singleton.mp hv]
        exact ⟨z, inz, Fz.mut hC9 ⟨q5, o5, rfl, h5, k5⟩⟩
  rintro H5 ⟨rs, S5, hC5, ln, ok⟩
  have hC5 : H5 C = some (.lst rs) := hC5
  have ln : rs.length = 10 := ln
  have ht5 := S5 _ _ ht2
  refine ⟨_, rfl, _, rfl, t, _, rfl, .inr (SqT.frz ht5), fun l0 nl0 => ?_⟩
  have N0 := same_new nl0 (.lst (ps.map V.ref))
  have hl0 : upd H5 l0 (.lst (ps.map V.ref)) l0 = some (.lst (ps.map V.ref)) := upd_same
  generalize hG0 : upd H5 l0 (.lst (ps.map V.ref)) = H6 at *
  clear hG0
  have ht6 := N0 _ _ ht5
  refine ⟨_, rfl, _, rfl, _, rfl, slF ht6 ho fun q1 H7 o1 T1 h1 k1 => ?_⟩
  refine ⟨_, rfl, _, rfl, _, _, rfl, rfl, _, rfl, slFn (T1 _ _ ht6) ho fun q2 H8 o2 T2 h2 k2 => ?_⟩
  refine catF (T2 _ _ h1) k1 h2 k2 (z34 (by omega) (by omega)) fun c1 H9 o3 T3 h3 k3 => ?_
  have T13 := T1.trans (T2.trans T3)
  have ht9 := T13 _ _ ht6
  refine ⟨_, rfl, _, rfl, _, _, rfl, rfl, _, rfl, slF ht9 ho fun q4 H10 o4 T4 h4 k4 => ?_⟩
  refine ⟨_, rfl, _, rfl, _, rfl, slFn (T4 _ _ ht9) ho fun q5 H11 o5 T5 h5 k5 => ?_⟩
  refine catF (T5 _ _ h4) k4 h5 k5 (z34 (by omega) (by omega)) fun c2 H12 o6 T6 h6 k6 => ?_
  have T46 := T4.trans (T5.trans T6)
  have ht12 := T46 _ _ ht9
  refine ⟨_, rfl, t, _, rfl, SqT.frz ht12, fun rv o7 nrv k7 => ?_⟩
  have T7 := same_new nrv (.frz o7 (.tup (ps.map V.ref).reverse))
  have h7 : upd H12 rv (.frz o7 (.tup (ps.map V.ref).reverse)) rv = some (.frz o7 (.tup (ps.map V.ref).reverse)) := upd_same
  generalize hG7 : upd H12 rv (.frz o7 (.tup (ps.map V.ref).reverse)) = H13 at *
  clear hG7
  refine ⟨(show 5 ≤ sizeLine by decide), fun ld nld => ?_⟩
  have T8 := same_new nld (.lst [V.ref l0, .ref c1, .ref c2, .ref rv, .non])
  have hld : upd H13 ld (.lst [V.ref l0, .ref c1, .ref c2, .ref rv, .non]) ld = some (.lst [V.ref l0, .ref c1, .ref c2, .ref rv, .non]) := upd_same
  generalize hG8 : upd H13 ld (.lst [V.ref l0, .ref c1, .ref c2, .ref rv, .non]) = H14 at *
  clear hG8
  have T78 := T7.trans T8
  have T58 := N0.trans (T13.trans (T46.trans T78))
  refine ⟨C, ld, _, _, rfl, rfl, T58 _ _ hC5, hld, Nat.le_trans (show rs.length + 5 ≤ 15 by omega) (by decide), fun le nle => ?_⟩
  have T9 := same_new nle (.lst (rs ++ [V.ref l0, .ref c1, .ref c2, .ref rv, .non]))
  have hle : upd H14 le (.lst (rs ++ [V.ref l0, .ref c1, .ref c2, .ref rv, .non])) le = some (.lst (rs ++ [V.ref l0, .ref c1, .ref c2, .ref rv, .non])) := upd_same
  generalize hG9 : upd H14 le (.lst (rs ++ [V.ref l0, .ref c1, .ref c2, .ref rv, .non])) = H15 at *
  clear hG9
  have T59 := T58.trans T9
  have W15 := S5.trans T59
  have X15 := U13.trans W15
  have B15 := b12.trans (But.of_same X15)
  have fend := (hf2.same X15).mono (show n + 1 + 1 ≤ n + 10 by omega)
  have pt10 : ∀ v ∈ [V.ref p1, .ref p2, .ref p3, .ref p4, .ref p5, .ref p6, .ref p7, .ref p8, .str wt.1, .ref p10], PtE (fun a => H a = none) H15 v := by
    intro v hv
    simp only [List.mem_cons, List.not_mem_nil, or_false] at hv
    rcases hv with rfl | rfl | rfl | rfl | rfl | rfl | rfl | rfl | rfl | rfl
    · exact qp1.same W15
    · exact qp2.same W15
    · exact qp3.same W15
    · exact qp4.same W15
    · exact qp5.same W15
    · exact qp6.same W15
    · exact qp7.same W15
    · exact qp8.same W15
    · exact pt_str wn
    · exact qp10.same W15
  have ptp : ∀ v ∈ ps.map V.ref, PtE (fun a => H a = none) H15 v := by
    intro v hv
    obtain ⟨p, hp, rfl⟩ := List.mem_map.mp hv
    obtain ⟨i, hi, rfl⟩ := List.getElem_of_mem hp
    obtain ⟨w, hw1, hw2⟩ := Wts.get2 hw (List.getElem?_eq_getElem hi)
    obtain ⟨x1, x2⟩ := wok w (List.mem_of_getElem? hw1)
    exact pt_of (X15 _ _ (hp2' hw2)) (Nat.le_of_ble_eq_true rfl) (vs2 (at_str x1) (at_int x2))
  have ptc : ∀ lo hi, ∀ v ∈ cutV (ps.map V.ref) lo hi, PtE (fun a => H a = none) H15 v := fun lo hi v hv => ptp v (cut_mem hv)
  have app : ∀ {xs zs : List V}, (∀ v ∈ xs, PtE (fun a => H a = none) H15 v) → (∀ v ∈ zs, PtE (fun a => H a = none) H15 v) → ∀ v ∈ xs ++ zs, PtE (fun a => H a = none) H15 v := fun h1 h2 v hv => (List.mem_append.mp hv).elim (h1 v) (h2 v)
  have all : ∀ v ∈ rs ++ [V.ref l0, .ref c1, .ref c2, .ref rv, .non], ThE (fun a => H a = none) H15 v := by
    intro v hv
    rcases List.mem_append.mp hv with hv | hv
    · obtain ⟨x, x1, x2⟩ := ok v hv
      refine (x2.same T59).th ?_ (app (app (ptc _ _) (vs1 (pt10 x x1))) (ptc _ _))
      rw [List.length_append, List.length_append, List.length_singleton]
      omega
    · simp only [List.mem_cons, List.not_mem_nil, or_false] at hv
      rcases hv with rfl | rfl | rfl | rfl | rfl
      · exact th_lst (b12.back hf2 ((U13.trans S5).free nl0)) ((T13.trans (T46.trans (T78.trans T9))) _ _ hl0) (by omega) ptp
      · exact Fz.th ⟨c1, o3, rfl, (T46.trans (T78.trans T9)) _ _ h3, k3⟩ (by rw [List.length_append]; omega) (app (ptc _ _) (ptc _ _))
      · exact Fz.th ⟨c2, o6, rfl, (T78.trans T9) _ _ h6, k6⟩ (by rw [List.length_append]; omega) (app (ptc _ _) (ptc _ _))
      · exact Fz.th ⟨rv, o7, rfl, (T8.trans T9) _ _ h7, k7⟩ (by rw [List.length_reverse]; omega) fun v hv => ptp v (List.mem_reverse.mp hv)
      · exact th_non
  refine ⟨_, rfl, _, _, rfl, rfl, _, rfl, ?_⟩
  refine ite2 (fun c9 => ?_) (fun c9 => ?_)
  · exact ⟨_, rfl, q _ _ fend B15 (Fz.th ⟨t, o, rfl, (W15 _ _ ht2), ho⟩ (by omega) ptp)⟩
  · have w9 : way < 15 := by
      have z : ¬ (14 < way) := fun k => c9 (decide_eq_true k)
      omega
    obtain ⟨v, v1, v2⟩ := atI_some (xs := rs ++ [V.ref l0, .ref c1, .ref c2, .ref rv, .non]) y0 (by rw [List.length_append, ln]; exact w9)
    exact ⟨_, rfl, _, rfl, le, _, _, _, rfl, rfl, SqL.of hle, v1, q _ _ fend B15 (all v v2)⟩

theorem ok_ldue (F : Fun K "_law_due" "_law_due" s_ldue f_ldue d_ldue) (T : Txt K mg f_is_number f_is_tuple_of f_places_of f_is_label f_is_labels_like f_lets_labels f_ltape f_ldraw f_loffice f_lplaces f_lapart f_lis_alone f_ldrawn f_lbent f_ldue f_lsaid f_law) :
    FnG P w K mg base 1 f_ldue d_ldue ["_law_office_here", "_law_places_here", "_law_one", "_law_other", "_law_thing"] spDueL := by
  refine okG F sc_ldue (fun vs H Q E h => ?_) (fun cdv A outer s H vs Q E hr hg h => ?_)

  · obtain ⟨g, o, P0, x, y, v, d, ws, E1, pl, rfl, _⟩ := h
    rfl
  obtain ⟨g, o, P0, x, y, v, d, ws, E1, pl, rfl, hof, ok, hP, pok, pll, hx, hy, hd, ⟨od, sm⟩, dl, q⟩ := h
  refine ⟨_, (pss_cons (ps_if (PW.pt (pw_or (pt_not (pt_val (pe_callB call_isi (by rfl) T.isinstance (by decide +kernel) (pa_cons (pv 4) (pa_cons (pe_bltn (v := .ty "tuple") (by rfl) T.tuple (by decide +kernel) rfl) pa_nil))))) (pw_or1 (pt_cmpR op_ne (pe_callB call_len_seq (by rfl) T.len (by decide +kernel) (pa_cons (pv 4) pa_nil)) (pe_callB call_len_seq (by rfl) T.len (by decide +kernel) (pa_cons (pv 1) pa_nil)) (nomark _)))))
  (pss_one (ps_ret (pe_lst (pa_cons pe_str (pa_cons (pe_un un_neg pe_int) pa_nil)))))
  pss_nil)
  (pss_cons (ps_set (i := 5) sc_ldue.nd rfl (.inl rfl) pe_dnewK)
  (pss_cons (ps_for PassesOwn.never rfl (pi_zipM (by rfl) T.zip (pa_cons (pv 1) (pa_cons (pv 4) pa_nil))) (pg_tup rfl (pgs_cons (pg_name (i := 6) sc_ldue.nd rfl (.inl rfl)) (pgs_cons (pg_name (i := 7) sc_ldue.nd rfl (.inl rfl)) pgs_nil)))
  (pss_cons (ps_if (PW.pt (pw_or (pt_not (pt_val (pe_callB call_isi (by rfl) T.isinstance (by decide +kernel) (pa_cons (pv 7) (pa_cons (pe_bltn (v := .ty "tuple") (by rfl) T.tuple (by decide +kernel) rfl) pa_nil))))) (pw_or (pt_cmpR op_ne (pe_callB call_len_seq (by rfl) T.len (by decide +kernel) (pa_cons (pv 7) pa_nil)) pe_int (nomark _)) (pw_or1 (pt_cmpR (op_neP hr) (pe_ix ix_tup (pv 7) pe_int (fun _ _ => rfl)) (pv 6) (nomark _))))))
  (pss_one (ps_ret (pe_lst (pa_cons pe_str (pa_cons (pe_un un_neg pe_int) pa_nil)))))
  pss_nil)
  (pss_cons (ps_if (PW.pt (pw_or (pt_not (pt_val (pe_callB call_isi (by rfl) T.isinstance (by decide +kernel) (pa_cons (pe_ix ix_tup (pv 7) pe_int (fun _ _ => rfl)) (pa_cons (pe_bltn (v := .ty "int") (by rfl) T.int (by decide +kernel) rfl) pa_nil))))) (pw_or1 (pt_val (pe_callB call_isi (by rfl) T.isinstance (by decide +kernel) (pa_cons (pe_ix ix_tup (pv 7) pe_int (fun _ _ => rfl)) (pa_cons (pe_bltn (v := .ty "bool") (by rfl) T.bool (by decide +kernel) rfl) pa_nil)))))))
  (pss_one (ps_ret (pe_lst (pa_cons pe_str (pa_cons (pe_un un_neg pe_int) pa_nil)))))
  pss_nil)
  (pss_one (ps_dput (hu_of hr) (pv 5) (pv 6) (pe_ix ix_tup (pv 7) pe_int (fun _ _ => rfl)) rfl)))))
  (pss_cons (ps_for PassesOwn.never rfl (pi_enumT (by rfl) T.enumerate (pa_cons (pe_ix ix_tup (pv 0) pe_int (fun _ _ => rfl)) pa_nil)) (pg_tup rfl (pgs_cons (pg_name (i := 8) sc_ldue.nd rfl (.inl rfl)) (pgs_cons (pg_tup rfl (pgs_cons (pg_name (i := 9) sc_ldue.nd rfl (.inl rfl)) (pgs_cons (pg_name (i := 10) sc_ldue.nd rfl (.inl rfl)) pgs_nil))) pgs_nil)))
  (pss_one (ps_if (pt_cmpR op_gt (pe_op op_sub (pe_dget (hu_of hr) (pv 5) (pv 10) (fun _ _ => rfl)) (pe_dget (hu_of hr) (pv 5) (pv 9) (fun _ _ => rfl))) pe_int (nomark _))
  (pss_one (ps_ret (pe_lst (pa_cons pe_str (pa_cons (pv 8) pa_nil)))))
  pss_nil)))
  (pss_one (ps_ret (pe_tup (pa_cons pe_str (pa_cons (pe_callB (show CallR _ (.builtin "repr") (rReprD K) from cr_reprD hg hr) (by rfl) T.repr (by decide +kernel) (pa_cons (pe_op op_sub (pe_dget (hu_of hr) (pv 5) (pv 3) (fun _ _ => rfl)) (pe_dget (hu_of hr) (pv 5) (pv 2) (fun _ _ => rfl))) pa_nil)) pa_nil))))))))), ?_⟩
  have bad : ∀ {H1 : Hp} {l : Addr}, Same H H1 → H1 l = none → likeD pl d = false → Q (.ref l) (upd H1 l (.lst [.str (("shape" : String) : Str), .int (-1)])) := fun {H1 l} S1 nl hv => by
    refine q _ _ _ (S1.trans (same_new nl _)) (.inl ⟨_, _, .inl ⟨hv, rfl, rfl⟩, rfl⟩) (.lst (S1.free nl) upd_same (.cons (.str _) (.cons (.int _) .nil))) (okd_due ⟨by decide +kernel, by decide +kernel⟩ (by decide) (by decide))
  rcases hd with ⟨t, xs, ds, ob, rfl, rfl, ht, to, hxs⟩ | ⟨nt, hd⟩
  rotate_left
  · obtain ⟨ty, n1, n2⟩ := noTup_of (K := K) hd.dp nt
    refine ⟨_, rfl, _, _, _, _, _, rfl, .ty _, n1, n2, _, rfl, iteT ?_⟩
    exact ⟨1, rfl, (show 2 ≤ sizeLine by decide), fun l nl => bad (Same.refl _) nl (like_none nt)⟩
  have xl := dl _ rfl
  have ln := hxs.len
  refine ⟨_, rfl, _, _, _, _, _, rfl, .ty _, .fTuple ht, k_tuple_tuple, _, rfl, iteF ?_⟩
  refine ⟨_, rfl, _, _, rfl, .inr (SqT.frz ht), _, rfl, _, _, rfl, .inl (SqL.of hP), rfl, _, rfl, ?_⟩
  refine ite2 (fun c => ?_) (fun c => ?_)
  · refine ⟨1, rfl, (show 2 ≤ sizeLine by decide), fun l nl => bad (Same.refl _) nl (like_len fun e => ?_)⟩
    have c : (!decide (V.int ((xs.length : Nat) : Int) = V.int (((pl.map V.str).length : Nat) : Int))) = true := c
    rw [ln, List.length_map, e] at c
    simp at c
  have el : ds.length = pl.length := by
    have c : ¬ (!decide (V.int ((xs.length : Nat) : Int) = V.int (((pl.map V.str).length : Nat) : Int))) = true := c
    rw [ln, List.length_map] at c
    simp at c
    omega
  have pA : PyData.plainAll ds = true := od.plain
  have dA : PyData.depthAll ds ≤ 4 := by
    have z := od.dep
    simp only [PyData.depth] at z
    omega
  intro D nD
  have ND := same_new nD (.dK [])
  have el2 : (pl.map V.str).length = xs.length := by rw [List.length_map]; omega
  refine ⟨_, rfl, _, rfl, P0, t, _, _, rfl, SqL.of (ND _ _ hP), SqT.frz (ND _ _ ht), ?_⟩
  refine for_zipM (K := K) (a := P0) (b := t) (xs := pl.map V.str) (ys := xs) el2 (fun i σ H' => ∃ (kvs : List (Key × V)) (v6 v7 : Option V), σ = [some (.ref o), some (.ref P0), some (.str x), some (.str y), some (.ref t), some (.ref D), v6, v7, none, none, none] ∧ Same H H' ∧ H' D = some (.dK kvs) ∧ kvs.length ≤ i ∧
    ∀ (j : Nat) (a : PyData) (s : Str), j < i → ds[j]? = some a → pl[j]? = some s → isLbD a s = true ∧ valV kvs (Sum.inr s) = some (.int (numOf a))) ?_ ?_ ?_ ?_
  · exact ⟨[], none, none, rfl, ND, upd_same, Nat.le_refl _, fun j _ _ hj => absurd hj (Nat.not_lt_zero _)⟩
  · rintro i σ H' ⟨_, _, _, _, S, _⟩
    exact ⟨SqL.of (S _ _ hP), SqT.frz (S _ _ ht)⟩
  · rintro i z1 z T1 σ H1 hz1 hz ⟨kvs, v6, v7, rfl, S1, hD, kl, sofar⟩ nT
    obtain ⟨s0, hs0, rfl⟩ : ∃ s0, (pl)[i]? = some s0 ∧ z1 = V.str s0 := by
      rw [List.getElem?_map] at hz1
      cases e' : (pl)[i]? with
      | none => rw [e'] at hz1; cases hz1
      | some p => rw [e'] at hz1; exact ⟨p, rfl, (Option.some.inj hz1).symm⟩
    obtain ⟨a, ha, hda⟩ := hxs.get hz
    have NT := same_new nT (.tup [.str s0, z])
    have S2 := S1.trans NT
    have am := List.mem_of_getElem? ha
    have p1 := plain_of pA a am
    have p2 := depth_of dA a am
    have hda2 := hda.same S2
    refine ⟨T1, _, rfl, SqT.of upd_same, rfl, _, _, rfl, _, _, rfl, rfl, ?_⟩
    have two : 2 ≤ sizeLine := by decide
    rcases hda2.cases with ⟨u, ys, es, rfl, rfl, hu, hys⟩ | nta
    rotate_left
    · obtain ⟨ty, n1, n2⟩ := noTup_of (K := K) hda2.dp nta
      refine ⟨_, rfl, _, _, _, _, _, rfl, .ty _, n1, n2, _, rfl, iteT ?_⟩
      exact ⟨1, rfl, two, fun l nl => bad S2 nl (like_false ha hs0 (isLbD_no _ (tupD_not nta)))⟩
    refine ⟨_, rfl, _, _, _, _, _, rfl, .ty _, .base (.tup hu), k_tuple_tuple, _, rfl, iteF ?_⟩
    refine ⟨_, rfl, _, _, rfl, .inr (SqT.of hu), rfl, _, rfl, ?_⟩
    have lys := hys.len
    by_cases c2 : es.length = 2
    rotate_left
    · have e : (!decide (V.int ((ys.length : Nat) : Int) = V.int 2)) = true := by
        simp
        omega
      rw [e]
      refine iteT ⟨1, rfl, two, fun l nl => bad S2 nl (like_false ha hs0 (isLbD_no _ fun k => c2 ?_))⟩
      have k := of_decide_eq_true (p := (((es.length : Nat) : Int) = 2)) k
      omega
    have e : (!decide (V.int ((ys.length : Nat) : Int) = V.int 2)) = false := by
      simp
      omega
    rw [e]
    refine iteF ?_
    obtain ⟨x1, x2, rfl⟩ : ∃ x1 x2, ys = [x1, x2] := by
      match ys, lys.trans c2 with
      | [a, b], _ => exact ⟨a, b, rfl⟩
    obtain ⟨a1, a2, rfl⟩ : ∃ a1 a2, es = [a1, a2] := by
      match es, c2 with
      | [a, b], _ => exact ⟨a, b, rfl⟩
    have pp : a1.plain = true ∧ a2.plain = true := by
      simp only [PyData.plain, PyData.plainAll, Bool.and_true, Bool.and_eq_true] at p1
      exact p1
    have d1 : a1.depth ≤ 40 := by
      simp only [PyData.depth, PyData.depthAll] at p2
      omega
    obtain ⟨h1, h2⟩ : Dn g _ x1 a1 ∧ Dn g _ x2 a2 := by
      cases hys with
      | cons k r =>
        cases r with
        | cons k2 _ => exact ⟨k, k2⟩
    refine ⟨_, rfl, u, _, _, _, rfl, rfl, SqT.of hu, rfl, _, rfl, a1, .str s0, h1.dp, .str _, pp.1, rfl, by omega, ?_⟩
    rw [Bool.true_xor]
    refine ⟨_, rfl, ?_⟩
    refine ite2 (fun c3 => ?_) (fun c3 => ?_)
    · refine ⟨1, rfl, two, fun l nl => bad S2 nl (like_false ha hs0 ?_)⟩
      have c3 : PyData.eqv a1 (.str s0) = false := by simpa using c3
      show (PyData.eqv a1 (.str s0) && isNumD a2) = false
      rw [c3, Bool.false_and]
    have c3 : PyData.eqv a1 (.str s0) = true := by simpa using c3
    have isl : isLbD (.tuple [a1, a2]) s0 = isNumD a2 := by
      show (PyData.eqv a1 (.str s0) && isNumD a2) = isNumD a2
      rw [c3, Bool.true_and]
    have nob : isNumD a2 = false → likeD pl (.tuple ds) = false := fun k => like_false ha hs0 (isl.trans k)
    cases h2 with
    | non =>
      refine ⟨_, rfl, u, _, _, _, rfl, rfl, SqT.of hu, rfl, _, _, _, _, _, rfl, .ty _, .base .non, k_NoneType_int, _, rfl, iteT ?_⟩
      exact ⟨1, rfl, two, fun l nl => bad S2 nl (nob rfl)⟩
    | str w =>
      refine ⟨_, rfl, u, _, _, _, rfl, rfl, SqT.of hu, rfl, _, _, _, _, _, rfl, .ty _, .base (.str w), k_str_int, _, rfl, iteT ?_⟩
      exact ⟨1, rfl, two, fun l nl => bad S2 nl (nob rfl)⟩
    | lst _ h _ =>
      refine ⟨_, rfl, u, _, _, _, rfl, rfl, SqT.of hu, rfl, _, _, _, _, _, rfl, .ty _, .base (.lst h), k_list_int, _, rfl, iteT ?_⟩
      exact ⟨1, rfl, two, fun l nl => bad S2 nl (nob rfl)⟩
    | tup h _ =>
      refine ⟨_, rfl, u, _, _, _, rfl, rfl, SqT.of hu, rfl, _, _, _, _, _, rfl, .ty _, .base (.tup h), k_tuple_int, _, rfl, iteT ?_⟩
      exact ⟨1, rfl, two, fun l nl => bad S2 nl (nob rfl)⟩
    | bl b =>
      refine ⟨_, rfl, u, _, _, _, rfl, rfl, SqT.of hu, rfl, _, _, _, _, _, rfl, .ty _, .base (.bl b), k_bool_int, _, rfl, iteF ?_⟩
      refine ⟨_, rfl, u, _, _, _, rfl, rfl, SqT.of hu, rfl, _, _, _, _, _, rfl, .ty _, .base (.bl b), k_bool_bool, _, rfl, iteT ?_⟩
      exact ⟨1, rfl, two, fun l nl => bad S2 nl (nob rfl)⟩
    | int m =>
      refine ⟨_, rfl, u, _, _, _, rfl, rfl, SqT.of hu, rfl, _, _, _, _, _, rfl, .ty _, .base (.int m), k_int_int, _, rfl, iteF ?_⟩
      refine ⟨_, rfl, u, _, _, _, rfl, rfl, SqT.of hu, rfl, _, _, _, _, _, rfl, .ty _, .base (.int m), k_int_bool, _, rfl, iteF ?_⟩
      have hD2 := NT _ _ hD
      refine ⟨_, rfl, u, _, _, _, rfl, rfl, SqT.of hu, rfl, _, rfl, _, rfl, D, _, rfl, DPut.k (k := Sum.inr s0) hD2 (Nat.lt_of_le_of_lt (show kvs.length ≤ 100 from Nat.le_trans kl (by have := (List.getElem?_eq_some_iff.mp hs0).1; omega)) (by decide)), ?_⟩
      refine ⟨_, _, _, rfl, same_mut S2 nD, upd_same, Nat.le_trans (length_putK kvs _ _) (Nat.succ_le_succ kl), fun j a s hj h1 h2 => ?_⟩
      by_cases cj : j = i
      · subst cj
        rw [ha] at h1
        rw [hs0] at h2
        cases h1
        cases h2
        refine ⟨isl.trans rfl, ?_⟩
        rw [valV_put, if_pos rfl]
        rfl
      · obtain ⟨g1, g2⟩ := sofar j a s (by omega) h1 h2
        refine ⟨g1, ?_⟩
        rw [valV_put, if_neg fun z => ?_]
        · exact g2
        · cases Sum.inr.inj z
          have nd : pl.Nodup := pok.up.imp fun {a b} k z => by rw [z] at k; exact sl_irr _ k
          obtain ⟨b1, e1⟩ := List.getElem?_eq_some_iff.mp h2
          obtain ⟨b2, e2⟩ := List.getElem?_eq_some_iff.mp hs0
          exact cj ((List.getElem_inj nd).mp (e1.trans e2.symm))
  rintro σ H1 ⟨kvs, v6, v7, rfl, S1, hD, kl, all⟩
  rw [List.length_map] at all
  have lk : likeD pl (.tuple ds) = true := like_true el fun i a s h1 h2 => (all i a s (List.getElem?_eq_some_iff.mp h2).1 h1 h2).1
  obtain ⟨lab, el3⟩ := like_lab (pok.up.imp fun {a b} k z => by rw [z] at k; exact sl_irr _ k) lk
  have lv : ∀ s ∈ pl, valV kvs (Sum.inr s) = some (.int (lab s)) := fun s hs => by
    obtain ⟨j, hj⟩ := List.mem_iff_getElem?.mp hs
    have ed : ds = pl.map fun s => PyData.tuple [.str s, .int (lab s)] := PyData.tuple.inj el3
    exact (all j (.tuple [.str s, .int (lab s)]) s (List.getElem?_eq_some_iff.mp hj).1 (by rw [ed, List.getElem?_map, hj]; rfl) hj).2
  have dget : ∀ {Hx : Hp} {s : Str}, Same H1 Hx → s ∈ pl → DGet Hx D (.str s) (some (.int (lab s))) := fun {Hx s} sx hs => by
    have z := DGet.k (k := Sum.inr s) (sx _ _ hD)
    rw [lv s hs] at z
    exact z
  have sml : ∀ {s}, s ∈ pl → NbOk (lab s) := fun hs => lab_small (by rw [← el3]; exact sm) hs
  obtain ⟨w', r', wp, rp, ho, hw, hrr, hws, hrd⟩ := hof.same S1
  refine ⟨_, rfl, o, _, _, _, rfl, rfl, SqT.of ho, rfl, r', _, rfl, SqT.of hrr, ?_⟩
  refine for_it (walk_enumT (K := K) (a := r') (xs := rp.map V.ref)) (fun i σ H' => ∃ (v8 v9 v10 : Option V), σ = [some (.ref o), some (.ref P0), some (.str x), some (.str y), some (.ref t), some (.ref D), v6, v7, v8, v9, v10] ∧ Same H1 H' ∧ ∀ j : Nat, j < i → ∀ e : Ed, E1[j]? = some e → ¬ lab e.1 + 1 < lab e.2) ⟨none, none, none, rfl, Same.refl _, fun j hj => absurd hj (Nat.not_lt_zero _)⟩ (fun i σ H' _ h => by obtain ⟨_, _, _, _, S, _⟩ := h; exact SqT.of (S _ _ hrr)) ?_ ?_
  · rintro i z σ H3 H4 hi ⟨v8, v9, v10, rfl, S3, sofar⟩ ⟨T1, x1, y1, rfl, nT, rfl, hx1, hy1⟩
    cases Option.some.inj hx1
    have hy1 : (rp.map V.ref)[i]? = some y1 := hy1
    obtain ⟨u, hu, rfl⟩ : ∃ u, rp[i]? = some u ∧ y1 = V.ref u := by
      rw [List.getElem?_map] at hy1
      cases e' : rp[i]? with
      | none => rw [e'] at hy1; cases hy1
      | some p => rw [e'] at hy1; exact ⟨p, rfl, (Option.some.inj hy1).symm⟩
    obtain ⟨ee, he1, he2⟩ := Rds.get hrd hu
    have inE := List.mem_of_getElem? he1
    have ie : i < 16 := Nat.lt_of_lt_of_le (List.getElem?_eq_some_iff.mp he1).1 ok.le
    have NT := same_new nT (.tup [.int (i : Nat), .ref u])
    have S4 := S3.trans NT
    have i1 := (pok.mem ee.1).mpr (.inr ⟨ee, inE, .inl rfl⟩)
    have i2 := (pok.mem ee.2).mpr (.inr ⟨ee, inE, .inr rfl⟩)
    refine ⟨T1, _, rfl, SqT.of upd_same, rfl, _, _, rfl, _, _, rfl, u, _, rfl, SqT.of (S4 _ _ he2), rfl, _, _, rfl, _, _, rfl, rfl, rfl, ?_⟩
    refine ⟨_, rfl, _, rfl, D, _, rfl, dget S4 i2, _, rfl, _, rfl, D, _, rfl, dget S4 i1, _, _, rfl, rfl, _, _, rfl, rfl, _, rfl, ?_⟩
    refine ite2 (fun c1 => ?_) (fun c1 => ?_)
    · have c1 := of_decide_eq_true c1
      refine ⟨_, rfl, (show 2 ≤ sizeLine by decide), fun l nl => ?_⟩
      have S5 := (S1.trans S4).trans (same_new nl (.lst [V.str (("road" : String) : Str), .int ((i : Nat) : Int)]))
      exact q _ _ _ S5 (.inl ⟨_, _, .inr ⟨lab, i, el3, road_none sofar he1 (by omega), rfl, rfl⟩, rfl⟩) (.lst ((S1.trans S4).free nl) upd_same (.cons (.str _) (.cons (.int _) .nil))) (okd_due ⟨by decide +kernel, by decide +kernel⟩ (by omega) (by omega))
    · have c1 : ¬ 1 < lab ee.2 - lab ee.1 := fun k => c1 (decide_eq_true k)
      refine ⟨_, _, _, rfl, S4, fun j hj e0 he0 => ?_⟩
      by_cases cj : j < i
      · exact sofar j cj e0 he0
      · have : j = i := by omega
        subst this
        rw [he1] at he0
        cases he0
        omega
  · rintro σ H3 ⟨v8, v9, v10, rfl, S3, sofar⟩
    have rn : roadAt E1 lab = none := road_end fun j e0 he0 => sofar j (by
      have z := (List.getElem?_eq_some_iff.mp he0).1
      rw [List.length_map, hrd.len]
      exact z) e0 he0
    have od2 := nb_diff (sml hy) (sml hx)
    obtain ⟨s1, s2, s3, s4⟩ := od2.show (by decide) (by decide)
    refine ⟨_, rfl, _, rfl, D, _, rfl, dget S3 hy, _, rfl, _, rfl, D, _, rfl, dget S3 hx, _, _, rfl, rfl, _, .int (lab y - lab x), rfl, .int _, s1, s2, s3, s4, (show 2 ≤ sizeLine by decide), fun l nl => ?_⟩
    exact q _ _ _ ((S1.trans S3).trans (same_new nl _)) (.inr ⟨lab, el3, rn, rfl⟩) (.tup upd_same (.cons (.str _) (.cons (.str _) .nil))) (okd_told (sml hy) (sml hx))

theorem ok_lsaid (F : Fun K "_law_said" "_law_said" s_lsaid f_lsaid d_lsaid) (T : Txt K mg f_is_number f_is_tuple_of f_places_of f_is_label f_is_labels_like f_lets_labels f_ltape f_ldraw f_loffice f_lplaces f_lapart f_lis_alone f_ldrawn f_lbent f_ldue f_lsaid f_law)
    (F_lets_labels : Fun K "lets_labels" "lets_labels" s_lets_labels f_lets_labels d_lets_labels) (b_lets_labels : Binds K d_lets_labels ["office", "one", "other", "thing"] []) (G_lets_labels : FnOk P w K mg base (L2.CX P w) (5) f_lets_labels d_lets_labels ["office", "one", "other", "thing"] (spLetsLM P_is_labels_like (He.ga K "NoPaper")))
    (F_lis_alone : Fun K "_law_is_alone" "_law_is_alone" s_lis_alone f_lis_alone d_lis_alone) (b_lis_alone : Binds K d_lis_alone ["_law_e"] []) (G_lis_alone : FnP P w K mg base (5) f_lis_alone d_lis_alone ["_law_e"] (spAlone K "NoPaper")) :
    FnG P w K mg base 6 f_lsaid d_lsaid ["_law_office_here", "_law_one", "_law_other", "_law_thing"] (spSaidL K P_is_labels_like) := by
  refine okG F sc_lsaid (fun vs H Q E h => ?_) (fun cdv A outer s H vs Q E hr hg h => ?_)

  · obtain ⟨g, o, x, y, v, d, ws, E1, pl, rfl, _⟩ := h
    rfl
  obtain ⟨g, o, x, y, v, d, ws, E1, pl, rfl, hof, le, pok, hx, hy, hd, ⟨od, sm⟩, hP, q⟩ := h
  refine' ⟨_, (pss_cons (ps_set (i := 4) sc_lsaid.nd rfl (.inl rfl) pe_non)
  (pss_cons (ps_try_as (i := 5) (Wout := fun _ _ _ _ => False) rfl rfl sc_lsaid.nd rfl rfl ⟨rfl, by decide, .inl T.m_NoPaper⟩ takes0
  (fun W pn xe tk _ => by apply PSs.as; exact (pss_one (ps_set (i := 4) sc_lsaid.nd rfl (.inl rfl) (pe_tup (pa_cons pe_str (pa_cons (pe_callB (show CallR _ (.builtin "repr") (rReprD K) from cr_reprD hg hr) (by rfl) T.repr (by decide +kernel) (pa_cons (pe_callS G_lets_labels hr (by rfl) T.m_lets_labels F_lets_labels.kp b_lets_labels (fun σ => passAt tk σ) (pa_cons (pv 0) (pa_cons (pv 1) (pa_cons (pv 2) (pa_cons (pv 3) pa_nil))))) pa_nil)) pa_nil))))); rfl)
  ?su)
  (pss_one (ps_ret (pv 4))))), ?rd⟩
  case su =>
    intro a oe cls d pn hz hf
    apply PSs.as
    · exact (pss_one (ps_set (i := 4) sc_lsaid.nd rfl (.inl rfl) (pe_ifExp (pt_val (pe_callP G_lis_alone (roomH_suite hr) hz hf (by exact List.mem_cons_self) (by rfl) T.m_lis_alone F_lis_alone.kp b_lis_alone (pa_cons (pv 5) pa_nil))) (pe_lst (pa_cons (pe_fld (by exact rfl) T.rf_NoPaper hz hf (by exact List.mem_cons_self) (pv 5)) (pa_cons (pe_fld (by exact rfl) T.rf_NoPaper_place hz hf (by exact List.mem_cons_self) (pv 5)) pa_nil))) (pe_lst (pa_cons pe_str pa_nil)))))
    · rfl
  case rd =>
  refine ⟨_, rfl, _, rfl, _, rfl, _, rfl, ?_⟩
  have two : 2 ≤ sizeLine := by decide
  refine ⟨o, x, y, v, ws, E1, pl, d, g, rfl, hof, le, pok, hx, hy, hd, od.plain, Nat.le_trans od.dep (by decide), hP, fun lab e rn H1 S1 => ?_, fun w0 k0 hv dd H1 nd S1 hn => ?_⟩
  · have od2 := nb_diff (lab_small (by rw [← e]; exact sm) hy) (lab_small (by rw [← e]; exact sm) hx)
    obtain ⟨s1, s2, s3, s4⟩ := od2.show (by decide) (by decide)
    refine ⟨_, .int (lab y - lab x), rfl, .int _, s1, s2, s3, s4, two, fun t2 n2 => ?_⟩
    exact ⟨_, rfl, q _ _ _ (S1.trans (same_new n2 _)) (.inr ⟨lab, e, rn, rfl⟩) (.tup (SqT.of upd_same) (.cons (.str _) (.cons (.str _) .nil)))⟩
  · refine ⟨true, T.rf_NoPaper.ex, fun _ ex nx => ?_, fun z => Bool.noConfusion z⟩
    refine ⟨_, rfl, rfl, rfl, dd, _, rfl, hn, fun H2 S2 => ⟨true, rfl, iteT ?_⟩⟩
    have hn2 := S2 _ _ hn
    refine ⟨_, rfl, rfl, rfl, dd, _, _, rfl, hn2, look2 (by decide), ?_⟩
    refine ⟨_, rfl, rfl, rfl, dd, _, _, rfl, hn2, look2', (show 2 ≤ sizeLine by decide), fun l nl => ?_⟩
    exact ⟨_, rfl, q _ _ _ ((S1.trans S2).trans (same_new nl _)) (.inl ⟨_, _, hv, rfl⟩) (.lst (SqL.of upd_same) (.cons (.str _) (.cons (.int _) .nil)))⟩

theorem ok_law (F : Fun K "law" "law" s_law f_law d_law) (T : Txt K mg f_is_number f_is_tuple_of f_places_of f_is_label f_is_labels_like f_lets_labels f_ltape f_ldraw f_loffice f_lplaces f_lapart f_lis_alone f_ldrawn f_lbent f_ldue f_lsaid f_law)
    (F_ltape : Fun K "_law_tape" "_law_tape" s_ltape f_ltape d_ltape) (b_ltape : Binds K d_ltape ["_law_script"] []) (G_ltape : FnOk P w K mg base CX0 (6) f_ltape d_ltape ["_law_script"] (spFeed K))
    (F_loffice : Fun K "_law_office" "_law_office" s_loffice f_loffice d_loffice) (b_loffice : Binds K d_loffice ["_law_tape_here"] []) (G_loffice : FnOk P w K mg base CX0 (6) f_loffice d_loffice ["_law_tape_here"] spOffice)
    (F_lplaces : Fun K "_law_places" "_law_places" s_lplaces f_lplaces d_lplaces) (b_lplaces : Binds K d_lplaces ["_law_office_here"] []) (G_lplaces : FnOk P w K mg base CX0 (6) f_lplaces d_lplaces ["_law_office_here"] spPlaces)
    (F_lapart : Fun K "_law_apart" "_law_apart" s_lapart f_lapart d_lapart) (b_lapart : Binds K d_lapart ["_law_office_here"] []) (G_lapart : FnOk P w K mg base CX0 (6) f_lapart d_lapart ["_law_office_here"] spApt)
    (F_ldraw : Fun K "_law_draw" "_law_draw" s_ldraw f_ldraw d_ldraw) (b_ldraw : Binds K d_ldraw ["_law_tape_here", "_law_many"] []) (G_ldraw : FnOk P w K mg base CX0 (6) f_ldraw d_ldraw ["_law_tape_here", "_law_many"] spDrawT)
    (F_ldrawn : Fun K "_law_drawn" "_law_drawn" s_ldrawn f_ldrawn d_ldrawn) (b_ldrawn : Binds K d_ldrawn ["_law_tape_here", "_law_places_here", "_law_apart_here"] []) (G_ldrawn : FnOk P w K mg base CX0 (6) f_ldrawn d_ldrawn ["_law_tape_here", "_law_places_here", "_law_apart_here"] spDrawnL)
    (F_lbent : Fun K "_law_bent" "_law_bent" s_lbent f_lbent d_lbent) (b_lbent : Binds K d_lbent ["_law_tape_here", "_law_some"] []) (G_lbent : FnOk P w K mg base CX0 (6) f_lbent d_lbent ["_law_tape_here", "_law_some"] spBentL)
    (F_ldue : Fun K "_law_due" "_law_due" s_ldue f_ldue d_ldue) (b_ldue : Binds K d_ldue ["_law_office_here", "_law_places_here", "_law_one", "_law_other", "_law_thing"] []) (G_ldue : FnG P w K mg base (6) f_ldue d_ldue ["_law_office_here", "_law_places_here", "_law_one", "_law_other", "_law_thing"] spDueL)
    (F_lsaid : Fun K "_law_said" "_law_said" s_lsaid f_lsaid d_lsaid) (b_lsaid : Binds K d_lsaid ["_law_office_here", "_law_one", "_law_other", "_law_thing"] []) (G_lsaid : FnG P w K mg base (6) f_lsaid d_lsaid ["_law_office_here", "_law_one", "_law_other", "_law_thing"] (spSaidL K P_is_labels_like)) :
    FnG P w K mg base 7 f_law d_law ["_law_script"] (spLawT K [P_is_labels_like]) := by
  refine okG F sc_law (fun vs H Q E h => ?_) (fun cdv A outer s H vs Q E hr hg h => ?_)

  · obtain ⟨a, ns, rfl, _⟩ := h
    rfl
  obtain ⟨a, ns, rfl, hs, ht, q⟩ := h
  have hP1 : H P_is_labels_like = some (TabO P_is_labels_like) := ht _ List.mem_cons_self
  refine ⟨_, (pss_cons (ps_set (i := 1) sc_law.nd rfl (.inr rfl) (pe_call G_ltape hr (by rfl) T.m_ltape F_ltape.kp b_ltape .nil pass0 (pa_cons (pv 0) pa_nil)))
  (pss_cons (ps_set (i := 2) sc_law.nd rfl (.inl rfl) (pe_lst (pa_cons (pe_call G_loffice hr (by rfl) T.m_loffice F_loffice.kp b_loffice .nil pass0 (pa_cons (pv 1) pa_nil)) (pa_cons (pe_call G_loffice hr (by rfl) T.m_loffice F_loffice.kp b_loffice .nil pass0 (pa_cons (pv 1) pa_nil)) pa_nil))))
  (pss_cons (ps_set (i := 3) sc_law.nd rfl (.inl rfl) (pe_lst pa_nil))
  (pss_cons (ps_for PassesOwn.never rfl (pi_range1 (by rfl) T.range (pa_cons pe_int pa_nil)) (pg_name (i := 4) sc_law.nd rfl (.inl rfl))
  (pss_cons (ps_set (i := 5) sc_law.nd rfl (.inl rfl) (pe_ix ix_list (pv 2) (pe_op op_modN (pv 4) pe_int) (fun _ _ => rfl)))
  (pss_cons (ps_asg (pe_tup (pa_cons (pe_call G_lplaces hr (by rfl) T.m_lplaces F_lplaces.kp b_lplaces .nil pass0 (pa_cons (pv 5) pa_nil)) (pa_cons (pe_call G_lapart hr (by rfl) T.m_lapart F_lapart.kp b_lapart .nil pass0 (pa_cons (pv 5) pa_nil)) pa_nil))) (pg_tup rfl (pgs_cons (pg_name (i := 6) sc_law.nd rfl (.inr rfl)) (pgs_cons (pg_name (i := 7) sc_law.nd rfl (.inl rfl)) pgs_nil))))
  (pss_cons (ps_asg (pe_lc (own := [("_law_j", 10)]) (g := (gName 10)) (by rfl) sc_law.nd (pi_range1 (by rfl) T.range (pa_cons pe_int pa_nil)) (blkOk_by (own := [("_law_j", 10)]) (N := ["_law_script", "_law_tape_here", "_law_offices", "_law_wanted", "_law_k", "_law_office_here", "_law_places_here", "_law_apart_here", "_law_one", "_law_other", "_law_j", "_law_thing", "_law_due_here", "_law_kept"]) (sc := defScope s_law) (by decide +kernel)) (fun _ _ _ _ _ => (pg_name (i := 10) sc_law.nd rfl (.inl rfl))) (fun _ _ _ _ _ => pts_nil) (fun _ _ _ _ _ => (pe_ix (show IxR _ (rIxL K) from ix_list) (pv 6) (pe_call G_ldraw hr (by rfl) T.m_ldraw F_ldraw.kp b_ldraw .nil pass0 (pa_cons (pv 1) (pa_cons (pe_callB (show CallR _ (.builtin "len") (rLenS K) from call_len_seq) (by rfl) T.len (by decide +kernel) (pa_cons (pv 6) pa_nil)) pa_nil))) (fun _ _ => rfl)))) (pg_unl rfl (pgs_cons (pg_name (i := 8) sc_law.nd rfl (.inl rfl)) (pgs_cons (pg_name (i := 9) sc_law.nd rfl (.inl rfl)) pgs_nil))))
  (pss_cons (ps_set (i := 11) sc_law.nd rfl (.inl rfl) (pe_call G_lbent hr (by rfl) T.m_lbent F_lbent.kp b_lbent .nil pass0 (pa_cons (pv 1) (pa_cons (pe_call G_ldrawn hr (by rfl) T.m_ldrawn F_ldrawn.kp b_ldrawn .nil pass0 (pa_cons (pv 1) (pa_cons (pv 6) (pa_cons (pv 7) pa_nil)))) pa_nil))))
  (pss_one (ps_expr (pe_bm PySem.F.plainAttrs_list PySem.F.slot_list_append PySem.F.type_list_append mt_append (pv 3) (pa_cons (pe_tup (pa_cons (pv 5) (pa_cons (pv 8) (pa_cons (pv 9) (pa_cons (pv 11) (pa_cons (pe_callG G_ldue hg hr (by rfl) T.m_ldue F_ldue.kp b_ldue .nil pass0 (pa_cons (pv 5) (pa_cons (pv 6) (pa_cons (pv 8) (pa_cons (pv 9) (pa_cons (pv 11) pa_nil)))))) pa_nil)))))) pa_nil)))))))))
  (pss_cons (ps_for PassesOwn.never rfl (pi_list (pe_op op_cat (pv 3) (pe_revL (pv 3)))) (pg_tup rfl (pgs_cons (pg_name (i := 5) sc_law.nd rfl (.inl rfl)) (pgs_cons (pg_name (i := 8) sc_law.nd rfl (.inl rfl)) (pgs_cons (pg_name (i := 9) sc_law.nd rfl (.inl rfl)) (pgs_cons (pg_name (i := 11) sc_law.nd rfl (.inl rfl)) (pgs_cons (pg_name (i := 12) sc_law.nd rfl (.inl rfl)) pgs_nil))))))
  (pss_cons (ps_set (i := 13) sc_law.nd rfl (.inl rfl) (pe_callB (show CallR _ (.builtin "repr") (rReprD K) from cr_reprD hg hr) (by rfl) T.repr (by decide +kernel) (pa_cons (pv 11) pa_nil)))
  (pss_one (ps_if (PW.pt (pw_or (pt_cmpR op_ne (pe_callB (show CallR _ (.builtin "repr") (rReprD K) from cr_reprD hg hr) (by rfl) T.repr (by decide +kernel) (pa_cons (pe_callG G_lsaid hg hr (by rfl) T.m_lsaid F_lsaid.kp b_lsaid .nil pass0 (pa_cons (pv 5) (pa_cons (pv 8) (pa_cons (pv 9) (pa_cons (pv 11) pa_nil))))) pa_nil)) (pe_callB (show CallR _ (.builtin "repr") (rReprD K) from cr_reprD hg hr) (by rfl) T.repr (by decide +kernel) (pa_cons (pv 12) pa_nil)) (nomark _)) (pw_or1 (pt_cmpR op_ne (pe_callB (show CallR _ (.builtin "repr") (rReprD K) from cr_reprD hg hr) (by rfl) T.repr (by decide +kernel) (pa_cons (pv 11) pa_nil)) (pv 13) (nomark _)))))
  (pss_one (ps_ret pe_bl))
  pss_nil))))
  (pss_one (ps_ret pe_bl))))))), ?_⟩
  have two : 2 ≤ sizeLine := by decide
  refine ⟨_, rfl, a, ns, rfl, hs, fun f c H1 nf S1 fd1 => ?_⟩
  refine ⟨_, rfl, f, c, 0, rfl, fd1, by decide, fun o ws E1 H2 fd2 b2 no2 of2 ok2 => ?_⟩
  refine ⟨_, rfl, f, c, 0 + 200, rfl, fd2, by decide, fun p vs F1 H3 fd3 b3 np3 of3 ok3 => ?_⟩
  have of4 := of2.but fd2 b3
  have hP14 := tab_but fd2 b3 (tab_but fd1 b2 (S1 _ _ hP1))
  refine ⟨two, fun L nL => ?_⟩
  have neL := fd3.ne nL
  have NL := same_new nL (.lst [V.ref o, .ref p])
  refine ⟨(show 0 ≤ sizeLine by decide), fun W nW => ?_⟩
  have NW := same_new nW (.lst [])
  have neW := (fd3.same NL).ne nW
  have N2 := NL.trans NW
  have fd4 := (fd3.same N2).mono (show (0 : Int) + 200 + 200 ≤ 400 by decide)
  have of5 := of4.same N2
  have of6 := of3.same N2
  have hL5 : upd (upd H3 L (.lst [V.ref o, .ref p])) W (.lst []) L = some (.lst [V.ref o, .ref p]) := NW _ _ upd_same
  have hW5 : upd (upd H3 L (.lst [V.ref o, .ref p])) W (.lst []) W = some (.lst []) := upd_same
  have hP15 := N2 _ _ hP14
  have LW : L ≠ W := (ne_of_none (show upd H3 L (.lst [V.ref o, .ref p]) L = some _ from upd_same) nW)
  generalize hH4 : upd (upd H3 L (.lst [V.ref o, .ref p])) W (.lst []) = H4 at *
  clear hH4 N2 NW NL nL nW
  have NfW : ∀ b : Addr, (b ≠ f ∧ b ≠ W) → b ≠ f := fun _ h => h.1
  have NW2 : ∀ b : Addr, (b ≠ f ∧ b ≠ W) → b ≠ W := fun _ h => h.2
  refine ⟨12, rfl, by decide, by decide, ?_⟩
  refine for_range (lo := 0) (n := 12) (fun i σ H' => ∃ (ps : List Addr) (v4 v5 v6 v7 v8 v9 v10 v11 : Option V), σ = [some (.ref a), some (.ref f), some (.ref L), some (.ref W), v4, v5, v6, v7, v8, v9, v10, v11, none, none] ∧
    Fd H' f c (400 + 100 * i) ∧ H' L = some (.lst [V.ref o, .ref p]) ∧ OfAt H' o ws E1 ∧ OfAt H' p vs F1 ∧ H' W = some (.lst (ps.map V.ref)) ∧ ps.length = i ∧ (∀ z ∈ ps, WntL (fun b => b ≠ f ∧ b ≠ W) H' z) ∧ H' P_is_labels_like = some (TabO P_is_labels_like)) ?_ ?_ ?_
  · exact ⟨[], none, none, none, none, none, none, none, none, rfl, fd4.mono (by omega), hL5, of5, of6, hW5, rfl, fun z hz => (nomatch hz), hP15⟩
  · rintro i σ H5 hi ⟨ps, v4, v5, v6, v7, v8, v9, v10, v11, rfl, fd5, hL, ofo, ofp, hW, lps, wnt, hT1⟩
    obtain ⟨ov, ov1, ov2⟩ := atI_some (xs := [V.ref o, .ref p]) (mod_lo (0 + (i : Int)) 2 (by decide)) (mod_hi (0 + (i : Int)) 2 (by decide))
    refine ⟨_, rfl, _, rfl, _, _, rfl, rfl, (show (2 : Int) ≠ 0 by decide), L, _, _, _, rfl, rfl, SqL.of hL, ov1, ?_⟩
    obtain ⟨o1, us, D1, rfl, ofd, okd⟩ : ∃ o1 us D1, ov = .ref o1 ∧ OfAt H5 o1 us D1 ∧ OfOk us D1 := by
      simp only [List.mem_cons, List.not_mem_nil, or_false] at ov2
      rcases ov2 with rfl | rfl
      · exact ⟨o, ws, E1, rfl, ofo, ok2⟩
      · exact ⟨p, vs, F1, rfl, ofp, ok3⟩
    refine ⟨_, rfl, o1, us, D1, rfl, ofd, okd, fun P0 pl H6 S6 nP hP up mem pll => ?_⟩
    refine ⟨_, rfl, o1, us, D1, rfl, ofd.same S6, okd, fun A0 kvs dd H7 S7 nA hA ap fw => ?_⟩
    refine ⟨two, fun T1 nT1 => ?_⟩
    have NT := same_new nT1 (.tup [V.ref P0, .ref A0])
    refine ⟨T1, _, rfl, SqT.of upd_same, rfl, _, _, rfl, _, _, rfl, rfl, ?_⟩
    have S8 := S6.trans (S7.trans NT)
    have hP8 := NT _ _ (S7 _ _ hP)
    have hA8 := NT _ _ hA
    have fd8 := fd5.same S8
    have P0f : P0 ≠ f := (fd5.ne nP).1
    have A0f : A0 ≠ f := ((fd5.same S6).ne nA).1
    generalize hH8 : upd H7 T1 (.tup [V.ref P0, .ref A0]) = H8 at *
    clear hH8 NT
    have nmp : ∀ y ∈ pl, NmOk y := fun y hy => ((mem y).mp hy).elim (fun e => e ▸ gn_ok) fun ⟨e, he, k⟩ => k.elim (fun z => z ▸ (okd.ed e he).1) (fun z => z ▸ (okd.ed e he).2.1)
    have ppos : 0 < pl.length := List.length_pos_of_mem ((mem gNone).mpr (.inl rfl))
    refine ⟨2, rfl, by decide, by decide, fun D nD => ?_⟩
    have neD := fd8.ne nD
    refine lc_range (lo := 0) (n := 2) (fun j H' => ∃ ys : List Str, Fd H' f c (400 + 100 * i + j) ∧ But f H8 H' ∧ H' D = some (.lst (ys.map V.str)) ∧ ys.length = j ∧ ∀ y ∈ ys, y ∈ pl) ⟨[], (fd8.new nD).mono (by omega), But.new nD, upd_same, rfl, fun _ z => (nomatch z)⟩ ?_ ?_
    · rintro j H9 hj ⟨ys, fd9, b9, hD9, ly, iy⟩
      refine ⟨rfl, _, rfl, _, rfl, _, rfl, P0, _, rfl, .inl (SqL.of (b9 _ _ P0f hP8)), f, c, _, _, rfl, fd9, by omega, ?_, ?_, fun e H10 e0 e1 fd10 b10 => ?_⟩
      · rw [List.length_map]; omega
      · rw [List.length_map]; omega
      · obtain ⟨yv, yv1, yv2⟩ := atI_some (xs := pl.map V.str) e0 e1
        obtain ⟨y, hy, rfl⟩ := List.mem_map.mp yv2
        have hD10 := b10 _ _ neD.1 hD9
        refine ⟨P0, _, _, _, rfl, rfl, SqL.of ((b9.trans b10) _ _ P0f hP8), yv1, _, hD10, ?_, ys ++ [y], (fd10.upd neD).mono (by omega), (b9.trans b10).mut nD, ?_, ?_, ?_⟩
        · rw [List.length_map]
          exact Nat.lt_of_le_of_lt (show ys.length ≤ 2 by omega) (by decide)
        · rw [upd_same, List.map_append]
          rfl
        · rw [List.length_append, List.length_singleton, ly]
        · intro z hz
          rcases List.mem_append.mp hz with hz | hz
          · exact iy z hz
          · rw [List.mem_singleton.mp hz]
            exact hy
    rintro H9 ⟨ys, fd9, b9, hD9, ly, iy⟩
    obtain ⟨x, y, rfl⟩ : ∃ x y, ys = [x, y] := by
      match ys, ly with
      | [x, y], _ => exact ⟨x, y, rfl⟩
    refine ⟨D, _, rfl, SqL.of hD9, rfl, _, _, rfl, _, _, rfl, rfl, ?_⟩
    have bS8 := But.of_same (f := f) S8
    have fd9' : Fd H9 f c (400 + 100 * i + 2) := fd9
    have xin : x ∈ pl := iy x List.mem_cons_self
    have yin : y ∈ pl := iy y (List.mem_cons_of_mem _ List.mem_cons_self)
    have pok : PlOk D1 pl := ⟨up, mem, pll⟩
    refine ⟨_, rfl, _, rfl, _, rfl, _, rfl, f, c, P0, A0, _, D1, pl, kvs, dd, rfl, fd9', by omega, b9 _ _ P0f hP8, P0f, pll, ppos, mem, b9 _ _ A0f hA8, A0f, ap, fw, fun t ob pt wn H10 fd10 b10 ht10 tob wts ewn nb => ?_⟩
    have lwn : wn.length = pl.length := by rw [← ewn, List.length_map]
    refine ⟨f, c, t, ob, _, pt, wn, rfl, fd10, by omega, ht10, tob, wts, by omega, by omega, fun w hw => ⟨nmp _ (by rw [← ewn]; exact List.mem_map.mpr ⟨w, hw, rfl⟩), nb w hw⟩, fun v H11 fd11 b11 th => ?_⟩
    obtain ⟨d, hd, od, dl⟩ := th
    have hWf : W ≠ f := neW.1
    have B9 := bS8.trans b9
    have B10 := B9.trans b10
    have B11 := B10.trans b11
    have hW10 := B10 _ _ hWf hW
    have hW11 := B11 _ _ hWf hW
    have hd' : Th (fun b => b ≠ f ∧ b ≠ W) H11 v d := hd.imp fun b hb => ⟨(fd10.ne hb).1, (ne_of_none hW10 hb).symm⟩
    have of11 := ofd.but fd5 B11
    have hP11 : H11 P0 = some (.lst (pl.map V.str)) := b11 _ _ P0f (b10 _ _ P0f (b9 _ _ P0f hP8))
    refine ⟨_, rfl, .inl ⟨rfl, _, SqL.of hW11⟩, _, rfl, _, rfl, _, rfl, _, rfl, _, rfl, _, rfl, _, rfl, _, rfl, _, rfl, ?_⟩
    refine ⟨_, o1, P0, x, y, v, d, us, D1, pl, rfl, of11, okd, hP11, pok, pll, xin, yin, hd', od, dl, fun u r H12 S12 due du ou => ?_⟩
    refine ⟨(show 5 ≤ sizeLine by decide), fun T2 nT2 => ?_⟩
    have NT2 := same_new nT2 (.tup [V.ref o1, .str x, .str y, v, u])
    have S13 := S12.trans NT2
    have hW13 := S13 _ _ hW11
    refine ⟨W, _, _, rfl, rfl, hW13, ?_, ?_⟩
    · rw [List.length_map, lps]
      exact Nat.lt_of_lt_of_le (show i < 100 by omega) (by decide)
    have lab : ∀ z ∈ ps, WntL (fun b => b ≠ f ∧ b ≠ W) (upd H12 T2 (.tup [V.ref o1, .str x, .str y, v, u])) z := fun z hz => ((wnt z hz).but NfW fd5 B11).same S13
    have new : WntL (fun b => b ≠ f ∧ b ≠ W) (upd H12 T2 (.tup [V.ref o1, .str x, .str y, v, u])) T2 := by
      have fu : Dn (fun b => b ≠ f ∧ b ≠ W) H12 u r := du.imp fun b hb => ⟨(fd11.ne hb).1, (ne_of_none hW11 hb).symm⟩
      exact ⟨o1, us, D1, pl, x, y, v, u, d, r, upd_same, of11.same S13, okd, pok, xin, yin, hd'.same S13, od, fu.same NT2, due, ou⟩
    have fd13 := fd11.same S13
    have cW : W ≠ c := neW.2
    have Lf : L ≠ f := neL.1
    refine ⟨ps ++ [T2], _, _, _, _, _, _, _, _, rfl, (fd13.upd ⟨hWf, cW⟩).mono (by omega), ?_, ?_, ?_, ?_, ?_, ?_, ?_⟩
    · rw [upd_ne LW]
      exact S13 _ _ (B11 _ _ Lf hL)
    · exact ((ofo.but fd5 B11).same S13).tups (tups_mut hW13)
    · exact ((ofp.but fd5 B11).same S13).tups (tups_mut hW13)
    · rw [upd_same, List.map_append]
      rfl
    · rw [List.length_append, List.length_singleton, lps]
    · intro z hz
      rcases List.mem_append.mp hz with hz | hz
      · exact (lab z hz).mut NW2 hW13
      · rw [List.mem_singleton.mp hz]
        exact new.mut NW2 hW13
    · rw [upd_ne (ne_of (S13 _ _ (tab_but fd5 B11 hT1)) hW13 (fun z => by unfold TabO at z; exact nomatch z))]
      exact S13 _ _ (tab_but fd5 B11 hT1)
  rintro σ H5 ⟨ps, v4, v5, v6, v7, v8, v9, v10, v11, rfl, fd5, hL, ofo, ofp, hW, lps, wnt, hT1⟩
  refine ⟨_, rfl, _, rfl, W, _, rfl, SqL.of hW, fun R nR => ?_⟩
  have NR := same_new nR (.lst (ps.map V.ref).reverse)
  refine ⟨W, R, _, _, rfl, rfl, NR _ _ hW, upd_same, ?_, fun Z nZ => ?_⟩
  · rw [List.length_reverse, List.length_map, lps]
    decide
  have NZ := same_new nZ (.lst (ps.map V.ref ++ (ps.map V.ref).reverse))
  have hZ : upd (upd H5 R (.lst (ps.map V.ref).reverse)) Z (.lst (ps.map V.ref ++ (ps.map V.ref).reverse)) Z = some (.lst (ps.map V.ref ++ (ps.map V.ref).reverse)) := upd_same
  have S6 := NR.trans NZ
  generalize hH6 : upd (upd H5 R (.lst (ps.map V.ref).reverse)) Z (.lst (ps.map V.ref ++ (ps.map V.ref).reverse)) = H6 at *
  have wnt6 : ∀ z ∈ ps, WntL (fun b => b ≠ f ∧ b ≠ W) H6 z := fun z hz => (wnt z hz).same S6
  have hT16 := S6 _ _ hT1
  clear hH6 NZ NR
  refine ⟨Z, rfl, ⟨_, SqL.of hZ⟩, ?_⟩
  refine for_list (K := K) (a := Z) (xs := ps.map V.ref ++ (ps.map V.ref).reverse) (fun i σ H' => ∃ (v4 v5 v6 v7 v8 v9 v10 v11 v12 v13 : Option V), σ = [some (.ref a), some (.ref f), some (.ref L), some (.ref W), v4, v5, v6, v7, v8, v9, v10, v11, v12, v13] ∧ Same H6 H') ⟨_, _, _, _, _, _, _, _, _, _, rfl, Same.refl _⟩ (fun i σ H' _ h => by obtain ⟨_, _, _, _, _, _, _, _, _, _, _, S⟩ := h; exact SqL.of (S _ _ hZ)) ?_ ?_
  · rintro i x σ H7 hx ⟨w4, w5, w6, w7, w8, w9, w10, w11, w12, w13, rfl, S7⟩
    obtain ⟨z, hz, rfl⟩ : ∃ z ∈ ps, x = V.ref z := by
      rcases List.mem_append.mp (List.mem_of_getElem? hx) with k | k
      · obtain ⟨z, hz, e⟩ := List.mem_map.mp k
        exact ⟨z, hz, e.symm⟩
      · obtain ⟨z, hz, e⟩ := List.mem_map.mp (List.mem_reverse.mp k)
        exact ⟨z, hz, e.symm⟩
    obtain ⟨o1, us, D1, pl, x, y, v, u, d, r, h1, of1, ok1, pok, xin, yin, dv, od, du, due, our⟩ := (wnt6 z hz).same S7
    obtain ⟨s1, s2, s3, s4⟩ := od.1.show (by decide) (by decide)
    obtain ⟨r1, r2, r3, r4⟩ := our.show (by decide) (by decide)
    refine ⟨z, _, rfl, SqT.of h1, rfl, _, _, rfl, _, _, rfl, _, _, rfl, _, _, rfl, _, _, rfl, rfl, ?_⟩
    refine ⟨_, rfl, v, d, rfl, dv.dp, s1, s2, s3, s4, ?_⟩
    refine ⟨_, rfl, _, rfl, _, rfl, _, rfl, _, o1, x, y, v, d, us, D1, pl, rfl, of1, ok1.le, pok, xin, yin, dv, od, S7 _ _ hT16, fun u2 r' H8 S8 due2 du2 => ?_⟩
    have er := dueL_uniq pok xin yin due due2
    subst er
    refine ⟨u2, r, rfl, du2, r1, r2, r3, r4, ?_⟩
    refine ⟨_, rfl, u, r, rfl, (du.same S8).dp, r1, r2, r3, r4, rfl, ?_⟩
    have e1 : ∀ s : Str, (!decide (V.str s = V.str s)) = false := fun s => by rw [decide_eq_true rfl]; rfl
    rw [e1]
    refine ⟨_, rfl, iteF ?_⟩
    refine ⟨_, rfl, v, d, rfl, (dv.same S8).dp, s1, s2, s3, s4, _, rfl, rfl, ?_⟩
    rw [e1]
    exact ⟨_, rfl, iteF ⟨_, _, _, _, _, _, _, _, _, _, rfl, S7.trans S8⟩⟩
  · rintro σ H7 ⟨w4, w5, w6, w7, w8, w9, w10, w11, w12, w13, rfl, S7⟩
    refine q _ fun t ht => ?_
    rw [List.mem_singleton.mp ht]
    exact S7 _ _ hT16

end
def e_is_number : He.DefD := ⟨("is_number", none), "is_number", "is_number", defArgs s_is_number, defBody s_is_number, defScope s_is_number, [], []⟩
def e_is_tuple_of : He.DefD := ⟨("is_tuple_of", none), "is_tuple_of", "is_tuple_of", defArgs s_is_tuple_of, defBody s_is_tuple_of, defScope s_is_tuple_of, [], []⟩
def e_places_of : He.DefD := ⟨("places_of", none), "places_of", "places_of", defArgs s_places_of, defBody s_places_of, defScope s_places_of, [], []⟩
def e_is_label : He.DefD := ⟨("is_label", none), "is_label", "is_label", defArgs s_is_label, defBody s_is_label, defScope s_is_label, [], []⟩
def e_is_labels_like : He.DefD := ⟨("is_labels_like", none), "is_labels_like", "is_labels_like", defArgs s_is_labels_like, defBody s_is_labels_like, defScope s_is_labels_like, [], []⟩
def e_lets_labels : He.DefD := ⟨("lets_labels", none), "lets_labels", "lets_labels", defArgs s_lets_labels, defBody s_lets_labels, defScope s_lets_labels, [], []⟩
def e_ltape : He.DefD := ⟨("_law_tape", none), "_law_tape", "_law_tape", defArgs s_ltape, defBody s_ltape, defScope s_ltape, [], []⟩
def e_ldraw : He.DefD := ⟨("_law_draw", none), "_law_draw", "_law_draw", defArgs s_ldraw, defBody s_ldraw, defScope s_ldraw, [], []⟩
def e_loffice : He.DefD := ⟨("_law_office", none), "_law_office", "_law_office", defArgs s_loffice, defBody s_loffice, defScope s_loffice, [], []⟩
def e_lplaces : He.DefD := ⟨("_law_places", none), "_law_places", "_law_places", defArgs s_lplaces, defBody s_lplaces, defScope s_lplaces, [], []⟩
def e_lapart : He.DefD := ⟨("_law_apart", none), "_law_apart", "_law_apart", defArgs s_lapart, defBody s_lapart, defScope s_lapart, [], []⟩
def e_lis_alone : He.DefD := ⟨("_law_is_alone", none), "_law_is_alone", "_law_is_alone", defArgs s_lis_alone, defBody s_lis_alone, defScope s_lis_alone, [], []⟩
def e_ldrawn : He.DefD := ⟨("_law_drawn", none), "_law_drawn", "_law_drawn", defArgs s_ldrawn, defBody s_ldrawn, defScope s_ldrawn, [], []⟩
def e_lbent : He.DefD := ⟨("_law_bent", none), "_law_bent", "_law_bent", defArgs s_lbent, defBody s_lbent, defScope s_lbent, [], []⟩
def e_ldue : He.DefD := ⟨("_law_due", none), "_law_due", "_law_due", defArgs s_ldue, defBody s_ldue, defScope s_ldue, [], []⟩
def e_lsaid : He.DefD := ⟨("_law_said", none), "_law_said", "_law_said", defArgs s_lsaid, defBody s_lsaid, defScope s_lsaid, [], []⟩
def e_law : He.DefD := ⟨("law", none), "law", "law", defArgs s_law, defBody s_law, defScope s_law, [], []⟩
def e_NoPaper : He.DefD := ⟨("NoPaper", some "__init__"), "__init__", "NoPaper.__init__", defArgs s_NoPaper, defBody s_NoPaper, defScope s_NoPaper, [], []⟩
def fn : List He.DefD := [e_is_number, e_is_tuple_of, e_places_of, e_is_label, e_is_labels_like, e_lets_labels, e_ltape, e_ldraw, e_loffice, e_lplaces, e_lapart, e_lis_alone, e_ldrawn, e_lbent, e_ldue, e_lsaid, e_law, e_NoPaper]
def fa : List He.Fa := [.glo "is_number", .glo "is_tuple_of", .glo "places_of", .glo "is_label", .glo "is_labels_like", .glo "lets_labels", .glo "_law_tape", .glo "_law_draw", .glo "_law_office", .glo "_law_places", .glo "_law_apart", .glo "_law_is_alone", .glo "_law_drawn", .glo "_law_bent", .glo "_law_due", .glo "_law_said", .glo "law", .free "len", .free "range", .free "sorted", .free "tuple", .free "list", .free "isinstance", .free "repr", .free "min", .free "all", .free "enumerate", .free "zip", .free "int", .free "bool", .free "str", .free "dict", .free "set", .free "ValueError", .glo "NoteError", .glo "NoNumber", .glo "NoStars", .glo "NoRow", .glo "NoPage", .glo "NoPaper", .glo "NoWorld", .glo "NoBack", .glo "NoText", .glo "NoLine"]
abbrev R : PySem.W.OpenRow := PySem.W.OpenLaw.row PySem.Challenge.rw_pressnotes_k40_labels_judged
def tf : List He.Defn := [("is_labels_like", none)]
def exB (K : PySem.W.Frag) : Bool := rfB K "NoPaper" "word" "NoPaper" ["NoNumber", "NoStars", "NoRow", "NoPage", "NoWorld", "NoBack", "NoText", "NoLine"] && rfB K "NoPaper" "place" "NoPaper" ["NoNumber", "NoStars", "NoRow", "NoPage", "NoWorld", "NoBack", "NoText", "NoLine"] && decide (PySem.W.kitOne K (.ref (He.ga K "NoPaper")) (.ref (He.ga K "NoteError")) = some true)
abbrev hk : PySem.W.Hook := He.hookX 6 fa fn [] tf exB
def ob (s : PySem.W.SharedT) : He.AlX := He.obsX 6 fa fn [] tf exB (HandSHeadRun.getT s)
theorem ob_eq (s : PySem.W.SharedT) : ob s = hk.obs s.abs := He.obsX_eq (HandSHeadRun.getT_eq s)
def loose : List Str := [("NoteError" : PySem.Str), ("NoNumber" : PySem.Str), ("NoStars" : PySem.Str), ("NoRow" : PySem.Str), ("NoPage" : PySem.Str), ("NoPaper" : PySem.Str), ("NoWorld" : PySem.Str), ("NoBack" : PySem.Str), ("NoText" : PySem.Str), ("NoLine" : PySem.Str), ("is_number" : PySem.Str), ("is_tuple_of" : PySem.Str), ("places_of" : PySem.Str), ("is_label" : PySem.Str), ("is_labels_like" : PySem.Str), ("lets_labels" : PySem.Str), ("_law_tape" : PySem.Str), ("_law_draw" : PySem.Str), ("_law_office" : PySem.Str), ("_law_places" : PySem.Str), ("_law_apart" : PySem.Str), ("_law_is_alone" : PySem.Str), ("_law_drawn" : PySem.Str), ("_law_bent" : PySem.Str), ("_law_due" : PySem.Str), ("_law_said" : PySem.Str)]
theorem run (w : World) : HandSHeadRun.RunEq R (PySem.W.view R.prog [31]) hk ob 8000 [("NoteError" : PySem.Str), ("NoNumber" : PySem.Str), ("NoStars" : PySem.Str), ("NoRow" : PySem.Str), ("NoPage" : PySem.Str), ("NoPaper" : PySem.Str), ("NoWorld" : PySem.Str), ("NoBack" : PySem.Str), ("NoText" : PySem.Str), ("NoLine" : PySem.Str), ("is_number" : PySem.Str), ("is_tuple_of" : PySem.Str), ("places_of" : PySem.Str), ("is_label" : PySem.Str), ("is_labels_like" : PySem.Str), ("lets_labels" : PySem.Str), ("_law_tape" : PySem.Str), ("_law_draw" : PySem.Str), ("_law_office" : PySem.Str), ("_law_places" : PySem.Str), ("_law_apart" : PySem.Str), ("_law_is_alone" : PySem.Str), ("_law_drawn" : PySem.Str), ("_law_bent" : PySem.Str), ("_law_due" : PySem.Str), ("_law_said" : PySem.Str)] w := by
  intro os
  kernel_rfl
theorem toFun {K : PySem.W.Frag} {x : Str} {st : Stmt} {f : Addr} {fd : FuncData} (F : FunD K x x (defArgs st) (defBody st) (defScope st) [] [] f fd) : Fun K x x st f fd := by
  obtain ⟨oc, od, dV, kV, doc, pm, an, cdv, ct, osl, e, lk, hcd, hd, hk⟩ := F.ex
  have z : dV = .none := by
    rcases hd with h | h
    · exact h.2
    · exact absurd rfl h.1
  subst z
  exact ⟨⟨oc, od, kV, doc, pm, an, cdv, ct, osl, e, lk, hcd⟩, F.kp⟩
theorem toFunQ {K : PySem.W.Frag} {x q : Str} {st : Stmt} {f : Addr} {fd : FuncData} (F : FunD K x q (defArgs st) (defBody st) (defScope st) [] [] f fd) : Fun K x q st f fd := by
  obtain ⟨oc, od, dV, kV, doc, pm, an, cdv, ct, osl, e, lk, hcd, hd, hk⟩ := F.ex
  have z : dV = .none := by
    rcases hd with h | h
    · exact h.2
    · exact absurd rfl h.1
  subst z
  exact ⟨⟨oc, od, kV, doc, pm, an, cdv, ct, osl, e, lk, hcd⟩, F.kp⟩
theorem facts {w : World} {K : PySem.W.Frag} {h : Heap} {mg : Str → Option Value} {f : Addr} (X : K.In h) (G : h.Ns mainGlobals mg) (hfa : mg ("law" : Str) = some (.ref f)) (c : He.SaysD fa fn K) (rf_NoPaper : Rf K "NoPaper" "word" "NoPaper" ["NoNumber", "NoStars", "NoRow", "NoPage", "NoWorld", "NoBack", "NoText", "NoLine"]) (rf_NoPaper_place : Rf K "NoPaper" "place" "NoPaper" ["NoNumber", "NoStars", "NoRow", "NoPage", "NoWorld", "NoBack", "NoText", "NoLine"]) (k_NoPaper_NoteError : PySem.W.kitOne K (.ref (He.ga K "NoPaper")) (.ref (He.ga K "NoteError")) = some true) :
    ∃ fd : FuncData, (∀ (s : Shared) (v : Value), BindsTo s fd ⟨[v], []⟩ [("_law_script", v)]) ∧ ∀ base : Heap, K.In base → base.Ns mainGlobals mg → (∀ p ∈ tf.map (He.cT K), GxR.TabB base mg p.1 p.2) → FnG (PySem.Challenge.rw_pressnotes_k40_labels_judged).prog w K mg base 7 f fd ["_law_script"] (spLawT K ((tf.map (He.cT K)).map (·.2))) := by
  obtain ⟨d_is_number, F0_is_number⟩ := c.def_ 0 (d := e_is_number) rfl
  have F_is_number := toFun (st := s_is_number) F0_is_number
  obtain ⟨d_is_tuple_of, F0_is_tuple_of⟩ := c.def_ 1 (d := e_is_tuple_of) rfl
  have F_is_tuple_of := toFun (st := s_is_tuple_of) F0_is_tuple_of
  obtain ⟨d_places_of, F0_places_of⟩ := c.def_ 2 (d := e_places_of) rfl
  have F_places_of := toFun (st := s_places_of) F0_places_of
  obtain ⟨d_is_label, F0_is_label⟩ := c.def_ 3 (d := e_is_label) rfl
  have F_is_label := toFun (st := s_is_label) F0_is_label
  obtain ⟨d_is_labels_like, F0_is_labels_like⟩ := c.def_ 4 (d := e_is_labels_like) rfl
  have F_is_labels_like := toFun (st := s_is_labels_like) F0_is_labels_like
  obtain ⟨d_lets_labels, F0_lets_labels⟩ := c.def_ 5 (d := e_lets_labels) rfl
  have F_lets_labels := toFun (st := s_lets_labels) F0_lets_labels
  obtain ⟨d_ltape, F0_ltape⟩ := c.def_ 6 (d := e_ltape) rfl
  have F_ltape := toFun (st := s_ltape) F0_ltape
  obtain ⟨d_ldraw, F0_ldraw⟩ := c.def_ 7 (d := e_ldraw) rfl
  have F_ldraw := toFun (st := s_ldraw) F0_ldraw
  obtain ⟨d_loffice, F0_loffice⟩ := c.def_ 8 (d := e_loffice) rfl
  have F_loffice := toFun (st := s_loffice) F0_loffice
  obtain ⟨d_lplaces, F0_lplaces⟩ := c.def_ 9 (d := e_lplaces) rfl
  have F_lplaces := toFun (st := s_lplaces) F0_lplaces
  obtain ⟨d_lapart, F0_lapart⟩ := c.def_ 10 (d := e_lapart) rfl
  have F_lapart := toFun (st := s_lapart) F0_lapart
  obtain ⟨d_lis_alone, F0_lis_alone⟩ := c.def_ 11 (d := e_lis_alone) rfl
  have F_lis_alone := toFun (st := s_lis_alone) F0_lis_alone
  obtain ⟨d_ldrawn, F0_ldrawn⟩ := c.def_ 12 (d := e_ldrawn) rfl
  have F_ldrawn := toFun (st := s_ldrawn) F0_ldrawn
  obtain ⟨d_lbent, F0_lbent⟩ := c.def_ 13 (d := e_lbent) rfl
  have F_lbent := toFun (st := s_lbent) F0_lbent
  obtain ⟨d_ldue, F0_ldue⟩ := c.def_ 14 (d := e_ldue) rfl
  have F_ldue := toFun (st := s_ldue) F0_ldue
  obtain ⟨d_lsaid, F0_lsaid⟩ := c.def_ 15 (d := e_lsaid) rfl
  have F_lsaid := toFun (st := s_lsaid) F0_lsaid
  obtain ⟨d_law, F0_law⟩ := c.def_ 16 (d := e_law) rfl
  have F_law := toFun (st := s_law) F0_law
  obtain ⟨d_NoPaper, F0_NoPaper⟩ := c.def_ 17 (d := e_NoPaper) rfl
  have F_NoPaper := toFunQ (st := s_NoPaper) F0_NoPaper
  have b_NoPaper := F_NoPaper.binds (ps := ["self", "word", "place"]) fun _ _ _ _ _ _ us hl => match us, hl with | [_, _, _], _ => rfl
  have T : Txt K mg _ _ _ _ _ _ _ _ _ _ _ _ _ _ _ _ _ := ⟨He.glo_ok X G (c.fact 34 (f := .glo "NoteError") rfl), He.glo_ok X G (c.fact 35 (f := .glo "NoNumber") rfl), He.glo_ok X G (c.fact 36 (f := .glo "NoStars") rfl), He.glo_ok X G (c.fact 37 (f := .glo "NoRow") rfl), He.glo_ok X G (c.fact 38 (f := .glo "NoPage") rfl), He.glo_ok X G (c.fact 39 (f := .glo "NoPaper") rfl), He.glo_ok X G (c.fact 40 (f := .glo "NoWorld") rfl), He.glo_ok X G (c.fact 41 (f := .glo "NoBack") rfl), He.glo_ok X G (c.fact 42 (f := .glo "NoText") rfl), He.glo_ok X G (c.fact 43 (f := .glo "NoLine") rfl), rf_NoPaper, rf_NoPaper_place, k_NoPaper_NoteError, He.glo_ok X G (c.fact 0 (f := .glo "is_number") rfl), He.glo_ok X G (c.fact 1 (f := .glo "is_tuple_of") rfl), He.glo_ok X G (c.fact 2 (f := .glo "places_of") rfl), He.glo_ok X G (c.fact 3 (f := .glo "is_label") rfl), He.glo_ok X G (c.fact 4 (f := .glo "is_labels_like") rfl), He.glo_ok X G (c.fact 5 (f := .glo "lets_labels") rfl), He.glo_ok X G (c.fact 6 (f := .glo "_law_tape") rfl), He.glo_ok X G (c.fact 7 (f := .glo "_law_draw") rfl), He.glo_ok X G (c.fact 8 (f := .glo "_law_office") rfl), He.glo_ok X G (c.fact 9 (f := .glo "_law_places") rfl), He.glo_ok X G (c.fact 10 (f := .glo "_law_apart") rfl), He.glo_ok X G (c.fact 11 (f := .glo "_law_is_alone") rfl), He.glo_ok X G (c.fact 12 (f := .glo "_law_drawn") rfl), He.glo_ok X G (c.fact 13 (f := .glo "_law_bent") rfl), He.glo_ok X G (c.fact 14 (f := .glo "_law_due") rfl), He.glo_ok X G (c.fact 15 (f := .glo "_law_said") rfl), He.glo_ok X G (c.fact 16 (f := .glo "law") rfl), He.free_ok X G (c.fact 17 (f := .free "len") rfl), He.free_ok X G (c.fact 18 (f := .free "range") rfl), He.free_ok X G (c.fact 19 (f := .free "sorted") rfl), He.free_ok X G (c.fact 20 (f := .free "tuple") rfl), He.free_ok X G (c.fact 21 (f := .free "list") rfl), He.free_ok X G (c.fact 22 (f := .free "isinstance") rfl), He.free_ok X G (c.fact 23 (f := .free "repr") rfl), He.free_ok X G (c.fact 24 (f := .free "min") rfl), He.free_ok X G (c.fact 25 (f := .free "all") rfl), He.free_ok X G (c.fact 26 (f := .free "enumerate") rfl), He.free_ok X G (c.fact 27 (f := .free "zip") rfl), He.free_ok X G (c.fact 28 (f := .free "int") rfl), He.free_ok X G (c.fact 29 (f := .free "bool") rfl), He.free_ok X G (c.fact 30 (f := .free "str") rfl), He.free_ok X G (c.fact 31 (f := .free "dict") rfl), He.free_ok X G (c.fact 32 (f := .free "set") rfl), He.free_ok X G (c.fact 33 (f := .free "ValueError") rfl)⟩
  have el := hfa.symm.trans T.m_law
  cases el
  have b_is_number := F_is_number.binds (ps := ["thing"]) fun _ _ _ _ _ _ us hl => match us, hl with | [_], _ => rfl
  have b_is_tuple_of := F_is_tuple_of.binds (ps := ["thing", "many"]) fun _ _ _ _ _ _ us hl => match us, hl with | [_, _], _ => rfl
  have b_places_of := F_places_of.binds (ps := ["office"]) fun _ _ _ _ _ _ us hl => match us, hl with | [_], _ => rfl
  have b_is_label := F_is_label.binds (ps := ["thing", "place"]) fun _ _ _ _ _ _ us hl => match us, hl with | [_, _], _ => rfl
  have b_is_labels_like := F_is_labels_like.binds (ps := ["office", "thing"]) fun _ _ _ _ _ _ us hl => match us, hl with | [_, _], _ => rfl
  have b_lets_labels := F_lets_labels.binds (ps := ["office", "one", "other", "thing"]) fun _ _ _ _ _ _ us hl => match us, hl with | [_, _, _, _], _ => rfl
  have b_ltape := F_ltape.binds (ps := ["_law_script"]) fun _ _ _ _ _ _ us hl => match us, hl with | [_], _ => rfl
  have b_ldraw := F_ldraw.binds (ps := ["_law_tape_here", "_law_many"]) fun _ _ _ _ _ _ us hl => match us, hl with | [_, _], _ => rfl
  have b_loffice := F_loffice.binds (ps := ["_law_tape_here"]) fun _ _ _ _ _ _ us hl => match us, hl with | [_], _ => rfl
  have b_lplaces := F_lplaces.binds (ps := ["_law_office_here"]) fun _ _ _ _ _ _ us hl => match us, hl with | [_], _ => rfl
  have b_lapart := F_lapart.binds (ps := ["_law_office_here"]) fun _ _ _ _ _ _ us hl => match us, hl with | [_], _ => rfl
  have b_lis_alone := F_lis_alone.binds (ps := ["_law_e"]) fun _ _ _ _ _ _ us hl => match us, hl with | [_], _ => rfl
  have b_ldrawn := F_ldrawn.binds (ps := ["_law_tape_here", "_law_places_here", "_law_apart_here"]) fun _ _ _ _ _ _ us hl => match us, hl with | [_, _, _], _ => rfl
  have b_lbent := F_lbent.binds (ps := ["_law_tape_here", "_law_some"]) fun _ _ _ _ _ _ us hl => match us, hl with | [_, _], _ => rfl
  have b_ldue := F_ldue.binds (ps := ["_law_office_here", "_law_places_here", "_law_one", "_law_other", "_law_thing"]) fun _ _ _ _ _ _ us hl => match us, hl with | [_, _, _, _, _], _ => rfl
  have b_lsaid := F_lsaid.binds (ps := ["_law_office_here", "_law_one", "_law_other", "_law_thing"]) fun _ _ _ _ _ _ us hl => match us, hl with | [_, _, _, _], _ => rfl
  have b_law := F_law.binds (ps := ["_law_script"]) fun _ _ _ _ _ _ us hl => match us, hl with | [_], _ => rfl
  refine ⟨d_law, fun s v => FunD.bindsA (ps := ["_law_script"]) F0_law (fun _ _ _ _ _ _ us hl => match us, hl with | [_], _ => rfl) s [v] rfl, fun base _ _ TBs => ?_⟩
  have hc_is_labels_like := code_of (p := ("is_labels_like", none)) F0_is_labels_like
  have TB_is_labels_like := TBs (He.cT K ("is_labels_like", none)) (List.mem_map.mpr ⟨_, by simp [tf], rfl⟩)
  have G_NoPaper : FnOk (PySem.Challenge.rw_pressnotes_k40_labels_judged).prog w K mg base CX0 1 _ _ _ (spIn2 (He.ga K "NoPaper") "word" "place") := init_ok2 F_NoPaper sc_NoPaper rfl rf_NoPaper.o rf_NoPaper.no rf_NoPaper_place.no (fun X h1 h2 h3 => pss_cons (ps_ost (pv 0 (by rw [h1]; rfl) (by rw [h3]; exact Or.inl rfl)) (pv 1 (by rw [h1]; rfl) (by rw [h3]; exact Or.inl rfl))) (pss_one (ps_ost (pv 0 (by rw [h1]; rfl) (by rw [h3]; exact Or.inl rfl)) (pv 2 (by rw [h1]; rfl) (by rw [h3]; exact Or.inl rfl))))) rfl
  have G_ldraw : FnOk (PySem.Challenge.rw_pressnotes_k40_labels_judged).prog w K mg base CX0 1 _ _ _ _ := ok_ldraw F_ldraw T
  have G_ltape : FnOk (PySem.Challenge.rw_pressnotes_k40_labels_judged).prog w K mg base CX0 1 _ _ _ _ := ok_ltape F_ltape T
  have G_loffice : FnOk (PySem.Challenge.rw_pressnotes_k40_labels_judged).prog w K mg base CX0 2 _ _ _ _ := ok_loffice F_loffice T F_ldraw b_ldraw G_ldraw
  have G_lplaces : FnOk (PySem.Challenge.rw_pressnotes_k40_labels_judged).prog w K mg base CX0 1 _ _ _ _ := ok_lplaces F_lplaces T
  have G_lapart : FnOk (PySem.Challenge.rw_pressnotes_k40_labels_judged).prog w K mg base CX0 2 _ _ _ _ := ok_lapart F_lapart T F_lplaces b_lplaces G_lplaces
  have G_places_of : FnOk (PySem.Challenge.rw_pressnotes_k40_labels_judged).prog w K mg base CX0 1 _ _ _ _ := ok_places_of F_places_of T
  have G_is_number : FnOk (PySem.Challenge.rw_pressnotes_k40_labels_judged).prog w K mg base CX0 1 _ _ _ _ := ok_is_number F_is_number T
  have G_is_tuple_of : FnOk (PySem.Challenge.rw_pressnotes_k40_labels_judged).prog w K mg base CX0 1 _ _ _ _ := ok_is_tuple_of F_is_tuple_of T
  have G_is_label : FnOk (PySem.Challenge.rw_pressnotes_k40_labels_judged).prog w K mg base CX0 2 _ _ _ _ := ok_is_label F_is_label T F_is_tuple_of b_is_tuple_of G_is_tuple_of F_is_number b_is_number G_is_number
  have G_is_labels_like : FnOk (PySem.Challenge.rw_pressnotes_k40_labels_judged).prog w K mg base CX0 4 _ _ _ _ := ok_is_labels_like F_is_labels_like T F_places_of b_places_of (G_places_of.mono (by decide)) F_is_tuple_of b_is_tuple_of (G_is_tuple_of.mono (by decide)) F_is_label b_is_label G_is_label hc_is_labels_like TB_is_labels_like
  have G_lets_labels : FnOk (PySem.Challenge.rw_pressnotes_k40_labels_judged).prog w K mg base (L2.CX (PySem.Challenge.rw_pressnotes_k40_labels_judged).prog w) 5 _ _ _ _ := ok_lets_labels F_lets_labels T F_is_labels_like b_is_labels_like G_is_labels_like G_NoPaper b_NoPaper
  have G_lis_alone : FnP (PySem.Challenge.rw_pressnotes_k40_labels_judged).prog w K mg base  1 _ _ _ _ := ok_lis_alone F_lis_alone T
  have G_ldrawn : FnOk (PySem.Challenge.rw_pressnotes_k40_labels_judged).prog w K mg base CX0 2 _ _ _ _ := ok_ldrawn F_ldrawn T F_ldraw b_ldraw G_ldraw
  have G_lbent : FnOk (PySem.Challenge.rw_pressnotes_k40_labels_judged).prog w K mg base CX0 2 _ _ _ _ := ok_lbent F_lbent T F_ldraw b_ldraw G_ldraw
  have G_ldue : FnG (PySem.Challenge.rw_pressnotes_k40_labels_judged).prog w K mg base  1 _ _ _ _ := ok_ldue F_ldue T
  have G_lsaid : FnG (PySem.Challenge.rw_pressnotes_k40_labels_judged).prog w K mg base  6 _ _ _ _ := ok_lsaid F_lsaid T F_lets_labels b_lets_labels G_lets_labels F_lis_alone b_lis_alone (G_lis_alone.mono (by decide))
  exact ok_law F_law T F_ltape b_ltape (G_ltape.mono (by decide)) F_loffice b_loffice (G_loffice.mono (by decide)) F_lplaces b_lplaces (G_lplaces.mono (by decide)) F_lapart b_lapart (G_lapart.mono (by decide)) F_ldraw b_ldraw (G_ldraw.mono (by decide)) F_ldrawn b_ldrawn (G_ldrawn.mono (by decide)) F_lbent b_lbent (G_lbent.mono (by decide)) F_ldue b_ldue (G_ldue.mono (by decide)) F_lsaid b_lsaid (G_lsaid.mono (by decide))

end Pn
open PySem PySem.W PySem.Calls PyProof.Rows
set_option maxRecDepth 100000 in
set_option maxHeartbeats 0 in
theorem PySem.Challenge.cw_pressnotes_k40_labels_judged_holds : PySem.Challenge.rw_pressnotes_k40_labels_judged.Holds := by
  w_on; o_law
  refine HandSHeadRun.head_any (r := OpenLaw.row PySem.Challenge.rw_pressnotes_k40_labels_judged) (q := view (OpenLaw.row PySem.Challenge.rw_pressnotes_k40_labels_judged).prog [31]) (H := Pn.hk) (ob := Pn.ob) (M := 8000) (loose := [("NoteError" : PySem.Str), ("NoNumber" : PySem.Str), ("NoStars" : PySem.Str), ("NoRow" : PySem.Str), ("NoPage" : PySem.Str), ("NoPaper" : PySem.Str), ("NoWorld" : PySem.Str), ("NoBack" : PySem.Str), ("NoText" : PySem.Str), ("NoLine" : PySem.Str), ("is_number" : PySem.Str), ("is_tuple_of" : PySem.Str), ("places_of" : PySem.Str), ("is_label" : PySem.Str), ("is_labels_like" : PySem.Str), ("lets_labels" : PySem.Str), ("_law_tape" : PySem.Str), ("_law_draw" : PySem.Str), ("_law_office" : PySem.Str), ("_law_places" : PySem.Str), ("_law_apart" : PySem.Str), ("_law_is_alone" : PySem.Str), ("_law_drawn" : PySem.Str), ("_law_bent" : PySem.Str), ("_law_due" : PySem.Str), ("_law_said" : PySem.Str)]) (d := HandSHeadRun.topDef (OpenLaw.row PySem.Challenge.rw_pressnotes_k40_labels_judged).prog 31) (kwd := []) Pn.ob_eq
    (by kernel_rfl) (fun s => by kernel_rfl) Pn.run (by kernel_rfl) (by kernel_rfl) (by kernel_rfl) (by rfl) (by first | assumption | decide +kernel) (by decide +kernel) ⟨rfl, rfl, rfl, rfl, rfl, by decide +kernel⟩ ?hw ?hc
  case hw => w_witness2
  case hc =>
    refine Pn.walkGT (l := PySem.Challenge.rw_pressnotes_k40_labels_judged) (n := 63) (k := 7) (x := "_law_script") (sp := Pn.spLawT) rfl (by decide) (by kernel_rfl) ⟨rfl, by decide, by decide⟩ ?F (fun K ts H a ns hl sq tt => ⟨a, ns, rfl, sq, tt, fun _ h => ⟨rfl, h⟩⟩)
    intro w mg fa h Y G hmg0
    obtain ⟨K, KX, c⟩ := Y
    have hmg : mg ("law" : PySem.Str) = some (.ref fa) := by
      have e : (HandSHeadRun.topDef (OpenLaw.row PySem.Challenge.rw_pressnotes_k40_labels_judged).prog 31).name = ("law" : PySem.Str) := by kernel_rfl
      rw [← e]
      exact hmg0
    obtain ⟨fd, hb, hF⟩ := Pn.facts (w := w) KX G hmg c.t.d (Pn.rfB_ok (Bool.and_eq_true_iff.mp (Bool.and_eq_true_iff.mp c.more).1).1) (Pn.rfB_ok (Bool.and_eq_true_iff.mp (Bool.and_eq_true_iff.mp c.more).1).2) (of_decide_eq_true (Bool.and_eq_true_iff.mp c.more).2)
    refine ⟨K, fd, Pn.tf.map (He.cT K), KX, fun p hp => ?_, fun p hp => ?_, fun p hp => ?_, hb, hF⟩
    · obtain ⟨d, hd, rfl⟩ := List.mem_map.mp hp
      exact c.empty d hd
    · obtain ⟨d, hd, rfl⟩ := List.mem_map.mp hp
      exact c.out d hd
    · obtain ⟨d, hd, rfl⟩ := List.mem_map.mp hp
      exact PySem.W.codeHd_of_K KX (c.hd d hd)
