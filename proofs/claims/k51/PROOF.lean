import PyProof.Rows.All
import Wide.All
import OpenK.AllK
import Wide.FinOn
import HandS.ForMost
import HandS.StrMore
import HandS.Wide
import HandS.IsInst
import HandS.Codes
import HandS.Conv
import HandS.Style
import HandS.Ends
import KE.GoesNew
import HandS.ForDict
import HandS.TupAny
import HandS.TupMul
import PyProof.NeKinds
import HandS.Words
import KE.GoesZip
import HandS.Zip
import HandS.Walk
import HandS.Dict
import PyProof.Rows.RegReprOcc
import PyProof.Rows.StrStrike
import PyProof.FitsInt
import PyProof.ReprLen
import PyProof.Rows.IntBool
import PyProof.CallStr
import HandS.TupLe
import HandS.More
import PyProof.Rows.EqBoolInt
import HandS.Gcd
import KE.KMathGC
import PyProof.EqKinds
import HandS.JoinGen
import PyProof.StrCaseBound
import PyProof.Rows.StrFit
import HandS.TupLen
import PySem.Challenge.RW_leastmakers_k51_programs_judged
set_option Elab.async false
set_option linter.all false
set_option maxRecDepth 100000
set_option maxHeartbeats 8000000
/-! repr of whole data, and promises of defs that call it -/
namespace G1
open PySem PySem.Spec PyProof.Rows L2

/-- a promise of a def where no repr is under way around the call -/
structure FnG (P : Program) (w : World) (K : PySem.W.Frag) (mg : Str → Option Value) (base : Heap) (k : Nat) (f : Addr) (fd : FuncData) (ps : List Str) (sp : Sp) : Prop where
  cnt : ∀ vs H Q E, sp vs H Q E → vs.length = ps.length
  go : ∀ (A : Around) (ou : List Env) (s : Shared) (H : Hp) (ar : Args) (us : List Value) (vs : List V) (Q : VK) (E : XK), A.guards = some [] → Room k A →
    Env0 P w K mg base A ou s H → BindsTo s fd ar (ps.zip us) → Vals vs us → sp vs H Q E →
    codeAny (model P w) A (.call (.ref f) ar) (CR CX0 ou P w H s Q E) s

theorem FnG.of {P : Program} {w : World} {K : PySem.W.Frag} {mg : Str → Option Value} {base : Heap} {k : Nat} {f : Addr} {fd : FuncData} {ps : List Str} {sp : Sp}
    (F : FnOk P w K mg base CX0 k f fd ps sp) : FnG P w K mg base k f fd ps sp :=
  ⟨F.len, fun A ou s H ar us vs Q E _ hr he hb hv hs => F.run A ou s H ar us vs Q E hr he hb hv hs⟩

section
variable {P : Program} {w : World} {K : PySem.W.Frag} {mg : Str → Option Value} {base : Heap}
theorem fnG_of {x qual : Str} {st : Stmt} {f : Addr} {fd : FuncData} {N ps : List Str} {k : Nat} {sp : Sp} (F : Fun K x qual st f fd) (S : FnScope N ps (defScope st))
    (cnt : ∀ vs H Q E, sp vs H Q E → vs.length = ps.length)
    (body : ∀ (cdv : Value) (A : Around) (ou : List Env) (s : Shared) (H : Hp) (vs : List V) (Q : VK) (E : XK), A.guards = some [] →
      Room k (A.deeper (envOfC qual (defScope st) s.heap.objs.size f cdv)) → sp vs H Q E →
      ∃ t, PSs (cxOf CX0 P w K mg base N qual (defScope st) f cdv A ou s H E).nox (defBody st) t ∧
        t { nx := fun _ H' => Q .non H', rt := Q } (start N vs) H) :
    FnG P w K mg base (k + 1) f fd ps sp := by
  obtain ⟨oc, od, kV, doc, pm, an, cdv, ct, osl, rfl, lk, hcd⟩ := F.ex
  refine ⟨cnt, fun A ou s H ar us vs Q E hgd hr e0 hb rv hsp => ?_⟩
  have inK : K.In s.heap := e0.mod.kin.keeps fun b o e => (e0.bs b o e).1
  have hlim : s.heap.NoLimit := e0.mod.nolimit.keeps fun b o e => (e0.bs b o e).1
  have kinds : ∀ y ∈ ps.zip us, (defScope st).names.lookup y.1 = some .local ∨
      ((defScope st).names.lookup y.1 = some .cell ∧ ((cellsFrom (s.heap.objs.size + 1) (defScope st).names []).lookup y.1).isSome = true) := by
    intro y hy
    cases S.par y.1 (List.of_mem_zip hy).1 with
    | inl q => exact Or.inl q
    | inr q => exact Or.inr ⟨q, PySem.W.cellsFrom_some _ _ _ (Or.inl q)⟩
  refine codeAny_call_function hr.depth (inK _ _ lk) rfl S.co S.gen rfl (PySem.W.codeRec_of inK hcd) (hb _ _ _ _ ?_)
  refine wpAny_newFunctionEnv_cells S.kind kinds fun env he s1 x => ?_
  subst he
  refine And.intro (hlim.keeps x.toInCall.keep) (codeAny_func ?_)
  obtain ⟨t, ht0, hq⟩ := body cdv A ou s H vs Q E hgd (hr.deeper _) hsp
  have ht := ht0.nox
  have J0 := inv_start (CX := CX0) S hr.hd e0 (cnt _ _ _ _ hsp) rv x (E := E)
  refine wpAny_mono (ht.run [] s1 (start N vs) H _ J0 hq) ?_ (fun e s' hs => hs)
  intro fl s' hs
  cases fl with
  | ret u =>
    obtain ⟨v, σ', H', J, r1, q⟩ := hs
    exact ⟨v, H', J.os, J.bare, J.base, J.hok, r1, q⟩
  | next =>
    obtain ⟨σ', H', J, q⟩ := hs
    exact ⟨V.non, H', J.os, J.bare, J.base, J.hok, rfl, q⟩
  | brk => exact hs.choose_spec.choose_spec.2.elim
  | cont => exact hs.choose_spec.choose_spec.2.elim
end

section
variable {X : Cx} {k : Nat} {f : Addr} {fd : FuncData} {ps ks : List Str} {sp : Sp} {dvs : List V} {ds : List Value} {E : XK} {x : Str} {p pos : Pos} {e : Expr} {es : List Expr} {t : TA}
/-- f(e, ..) of such a def -/
theorem pe_callGd (F : FnG X.prog X.w X.K X.mg X.base k f fd ps sp) (hgd : X.A.guards = some []) (hr : Room k X.A) (hg : Gl X x) (hm : X.mg x = some (.ref f)) (hk : PySem.W.keepIn X.K (.ref f) = true)
    (hb : Binds X.K fd ps []) (ha : PA X (e :: es) t) (hdb : (x == ("__debug__" : Str)) = false := by decide)
    (he : starEach (e :: es) X.env = (false, eval e X.env) :: starEach es X.env := by rfl) (hpl : (backTo pos (starEach es X.env)).any (·.1) = false := by rfl) :
    PE X (.Call (.Name x p) (e :: es) [] pos) (fun σ H Q => t σ H fun vs H1 => sp vs H1 Q E) := by
  refine ⟨fun pins s σ H Q I h => wpAny_Call_Name_kw (ld_glob I hg hm ?_ hdb)⟩
  refine PySem.W.callWith_K (h₀ := X.base) I.ok.mod.kin hk (thn (ha.run pos pins s σ H _ I h) ?_) he hpl
  intro us s1 hus
  obtain ⟨vs, H1, I1, r, q⟩ := hus
  refine ⟨I1.kIn, ?_⟩
  have hl : (us ++ []).length = ps.length := by rw [List.append_nil, ← r.length]; exact F.cnt _ _ _ _ q
  have hbt := hb s1 us I1.kIn hl
  rw [List.append_nil] at hbt
  refine wpAny_call (codeAny_mono (F.go X.A X.stack s1 H1 ⟨us, []⟩ us vs Q E hgd hr I1.env0 hbt r q) ?_)
  intro rr s' hq
  cases rr with
  | error ev => exact hq.elim
  | ok fl =>
    cases fl with
    | ret u => exact I1.after hq
    | next => exact hq.elim
    | brk => exact hq.elim
    | cont => exact hq.elim

/-- repr of a list or a tuple of plain data -/
def rRepr (K : PySem.W.Frag) : List V → Hp → VK → Prop := fun xs H Q => ∃ (a : Addr) (d : PyData), xs = [.ref a] ∧ Dp K H (.ref a) d ∧ d.showable = true ∧ d.hasDict = false ∧ d.depth ≤ 60 ∧
  d.shown.length ≤ sizeLine ∧ Q (.str d.shown) H
theorem call_reprD (hgd : X.A.guards = some []) (hu : X.A.units + 64 < cLine) : CallR X (.builtin "repr") (rRepr X.K) := by
  intro pins s σ H xs us Q I r h
  obtain ⟨a, d, rfl, hd, hs, hnd, hdp, hz, q⟩ := h
  obtain ⟨u, rfl, ru⟩ := vals1 r
  obtain rfl : u = Value.ref a := ru
  obtain ⟨as, r1⟩ := Dp.reads I d (.ref a) (.ref a) hd rfl
  refine repr_of_reads' r1 hs (fun z => by rw [hnd] at z; cases z) hgd (by omega) (fun _ _ e => e) (fun h' tu tk hk => ?_) hz
  refine ⟨.str d.shown, H, ?_, ⟨tu, rfl⟩, q⟩
  exact I.kept (t' := tk) hk
/-- x * n of a text -/
def rMulS : R2 := fun x y H Q => ∃ (z : Str) (n : Int), x = .str z ∧ y = .int n ∧ 0 ≤ n ∧ n < 2 ^ 30 ∧ z.length * n.toNat ≤ 1000000 ∧ Q (.str (Txt.mul z n)) H
end
end G1
/-! the end of a row whose law calls repr -/
namespace G1
open PySem PySem.Spec PyProof.Rows L2

theorem enterG {P : Program} {w : World} {K : PySem.W.Frag} {mg mb : Str → Option Value} {k : Nat} {fa a : Addr} {fd : FuncData} {x : Str} {sp : Sp} {s₁ : Shared} {vs : List Value} {ns : List Int}
    (inK : K.In s₁.heap) (hns : s₁.heap.Ns mainGlobals mg) (hbn : s₁.heap.Ns builtinsNs mb) (hbb : ∀ x : Str, x ≠ "__name__" → mb x = bootBuiltins x) (hlim : s₁.heap.NoLimit) (hg0 : s₁.gens = #[])
    (ha : s₁.heap.get? a = some { cls := .type "list", data := .seq vs.toArray }) (hi : IntsAre vs ns) (hl : ns.length ≤ sizeLine) (hr : Room k callerA)
    (F : ∀ base : Heap, K.In base → base.Ns mainGlobals mg → FnG P w K mg base k fa fd [x] sp)
    (hbind : ∀ (s : Shared) (u : Value), BindsTo s fd ⟨[u], []⟩ [(x, u)])
    (hsp : ∀ H : Hp, Only H → SqL K H a (ns.map V.int) → sp [.ref a] H (fun v _ => v = .bl true) fun _ _ _ => False) :
    codeAny (model P w) callerA (.call (.ref fa) ⟨[.ref a], []⟩)
      (fun r s' => r = .ok (.ret (.bool true)) ∧ OldK s₁.heap s'.heap ∧ s'.os = s₁.os ∧ AllBare s'.gens) s₁ := by
  have rv := vals_ints hi
  have lv := hi.length
  suffices core : ∀ H : Hp, Only H → SqL K H a (ns.map V.int) → HOk P w H s₁.heap → (∀ b, H b ≠ none → b = a ∧ K.lookup a = none) →
      codeAny (model P w) callerA (.call (.ref fa) ⟨[.ref a], []⟩)
        (fun r s' => r = .ok (.ret (.bool true)) ∧ OldK s₁.heap s'.heap ∧ s'.os = s₁.os ∧ AllBare s'.gens) s₁ by
    by_cases hk : K.lookup a = none
    · refine core (fun b => if b = a then some (.frz { cls := .type "list", data := .seq vs.toArray } (.lst (ns.map V.int))) else none) ?_ (Or.inl (Or.inr ⟨_, if_pos rfl⟩)) ?_ ?_
      · intro b
        by_cases hb : b = a
        · exact Or.inr ⟨_, _, if_pos hb⟩
        · exact Or.inl (if_neg hb)
      · intro b u z
        dsimp only at z
        by_cases hb : b = a
        · rw [if_pos hb] at z
          cases z
          subst hb
          exact ⟨ha, by rw [List.length_map]; exact hl, vs, _, rv, ha⟩
        · rw [if_neg hb] at z
          cases z
      · intro b z
        by_cases hb : b = a
        · exact ⟨hb, hk⟩
        · exact absurd (if_neg hb) z
    · obtain ⟨o, ho⟩ := Option.ne_none_iff_exists'.mp hk
      have e := inK a o ho
      rw [ha] at e
      cases e
      exact core (fun _ => none) (fun _ => Or.inl rfl) (Or.inr ⟨_, vs.toArray, _, ho, rfl, rfl, rfl, by rw [List.size_toArray, lv]; exact hl, by simpa using rv⟩)
        (fun b u z => by cases z) (fun b z => absurd rfl z)
  intro H hO hS hok hA
  have untr : ∀ {b : Addr} {o : Obj} {es : Array DictEntry} {ep : Nat}, s₁.heap.get? b = some o → o.data = .dict es ep → H b = none := by
    intro b o es ep e d
    by_cases q : H b = none
    · exact q
    · obtain ⟨rfl, _⟩ := hA b q
      rw [ha] at e
      cases e
      exact nomatch d
  have tohid : ∀ {b : Addr} {m : Str → Option Value}, s₁.heap.Ns b m → (hidT s₁.heap H).Ns b m := by
    rintro b m ⟨o, es, ep, e, d, r⟩
    exact ⟨o, es, ep, hidT_get e (untr e d), d, r⟩
  have hKb : K.In (hidT s₁.heap H) := by
    intro b o e
    refine hidT_get (inK b o e) ?_
    by_cases q : H b = none
    · exact q
    · obtain ⟨rfl, z⟩ := hA b q
      rw [z] at e
      cases e
  obtain ⟨mc, l1, l2⟩ := hlim
  have hM : Mod K mg (hidT s₁.heap H) := ⟨hKb, tohid hns, ⟨mb, tohid hbn, hbb⟩, ⟨mc, tohid l1, l2⟩⟩
  have e0 : Env0 P w K mg (hidT s₁.heap H) callerA [] s₁ H :=
    ⟨rfl, hM, fun b o e => of_hidT e, Nat.le_of_eq (hidT_size _ _), trivial, fun b hb => (List.not_mem_nil hb).elim, hok, .of_eq hg0⟩
  refine codeAny_mono ((F _ hKb (tohid hns)).go callerA [] s₁ H ⟨[.ref a], []⟩ [.ref a] [.ref a] _ _ rfl hr e0 (hbind s₁ (.ref a)) (.cons rfl .nil) (hsp H hO hS)) ?_
  intro r s' h
  cases r with
  | error e => exact h.elim
  | ok fl =>
    cases fl with
    | next => exact h.elim
    | brk => exact h.elim
    | cont => exact h.elim
    | ret u =>
      obtain ⟨v, H', os, bare, un, hok', r', q⟩ := h
      subst q
      obtain rfl : u = Value.bool true := r'
      refine ⟨rfl, OldK.of_keep (fun b o e => ?_), os, bare⟩
      rcases hO b with z | ⟨ob, xs, z⟩
      · exact un.keep b o e z (fun y => (List.not_mem_nil y).elim) List.not_mem_nil
      · obtain ⟨e1, _⟩ := hok b _ z
        obtain ⟨e2, _⟩ := hok' b _ (un.frzs b ob _ z)
        rw [e] at e1
        cases e1
        exact e2

theorem walkG {l : PySem.W.OpenLaw} {n k : Nat} {q : Program} {loose : List Str} {XP : (Str → Option Value) → Heap → Prop} {YP : World → Heap → Prop} {d : DefRec} {K : Params → PySem.W.Frag} {sp : PySem.W.Frag → Sp} {x : Str}
    (hn : l.most = some n) (hn2 : n ≤ sizeLine) (hdf : d.params.defaults = []) (hr : Room k callerA)
    (hY : ∀ (w : World) (h : Heap), YP w h → (K w.params).In h)
    (F : ∀ (w : World) (mg : Str → Option Value) (fa : Addr) (h : Heap), (K w.params).In h → h.Ns mainGlobals mg → mg d.name = some (.ref fa) →
      ∃ fd : FuncData, (∀ (s : Shared) (u : Value), BindsTo s fd ⟨[u], []⟩ [(x, u)]) ∧
        ∀ base : Heap, (K w.params).In base → base.Ns mainGlobals mg → FnG l.prog w (K w.params) mg base k fa fd [x] (sp (K w.params)))
    (hsp : ∀ (K : PySem.W.Frag) (H : Hp) (a : Addr) (ns : List Int), ns.length ≤ n → Only H → SqL K H a (ns.map V.int) → sp K [.ref a] H (fun v _ => v = .bl true) fun _ _ _ => False) :
    PySem.W.WalkO q loose XP YP l.row.toRowW d [] (fun f vs => PySem.call f vs) := by
  refine Att.attach_call hn hdf ?_
  intro w s₀ s₁ mg mb fa o pm cd doc a vs ns G Y ho hd hcd hmg hobj hints hlen hg0
  have inK := hY w _ Y
  obtain ⟨fd, hb, hF⟩ := F w mg fa _ inK G.T.g hmg
  exact enterG inK G.T.g G.T.b G.T.builtins G.T.nolimit hg0 hobj hints (Nat.le_trans hlen hn2) hr hF hb (fun H hO hS => hsp _ H a ns hlen hO hS)
end G1
/-! texts of the signs 0 and 1, as lists of bools -/
namespace G1
open PySem PySem.Spec PyProof.Rows L2

def cB (b : Bool) : Nat := if b then 49 else 48
def B (l : List Bool) : Str := SX.S (l.map cB)
theorem cB_inj {a b : Bool} (h : cB a = cB b) : a = b := by
  cases a <;> cases b <;> first | rfl | (exact absurd h (by decide))
theorem map_cB_inj : ∀ {l m : List Bool}, l.map cB = m.map cB → l = m
  | [], [], _ => rfl
  | [], _ :: _, h => by cases h
  | _ :: _, [], h => by cases h
  | a :: l, b :: m, h => by
    rw [List.map_cons, List.map_cons] at h
    injection h with h1 h2
    rw [cB_inj h1, map_cB_inj h2]
theorem B_inj {l m : List Bool} (h : B l = B m) : l = m := map_cB_inj (SX.S_inj h)
theorem B_dec (l m : List Bool) : decide (V.str (B l) = V.str (B m)) = decide (l = m) := by
  by_cases h : l = m
  · rw [h, decide_eq_true rfl, decide_eq_true rfl]
  · rw [decide_eq_false h, decide_eq_false fun e => h (B_inj (V.str.inj e))]
theorem B_len (l : List Bool) : (B l).length = l.length := by
  unfold B
  rw [SX.S_len, List.length_map]
theorem B_cps (l : List Bool) : (B l).cps.toList = l.map cB := rfl
theorem B_app (l m : List Bool) : B l ++ B m = B (l ++ m) := by
  unfold B
  rw [SX.S_cat, List.map_append]
theorem B_nil : ("" : Str) = B [] := by decide +kernel
theorem B_0 : ("0" : Str) = B [false] := by decide +kernel
theorem B_1 : ("1" : Str) = B [true] := by decide +kernel
theorem B_one (b : Bool) : (⟨#[cB b]⟩ : Str) = B [b] := by cases b <;> decide +kernel
theorem B_str0 : (Str.ofString (toString (0 : Int))) = B [false] := by decide +kernel
theorem B_str1 : (Str.ofString (toString (1 : Int))) = B [true] := by decide +kernel
theorem B_str (i : Int) (h0 : 0 ≤ i) (h2 : i < 2) : (Str.ofString (toString i)) = B [decide (i = 1)] := by
  have h : i = 0 ∨ i = 1 := by omega
  rcases h with rfl | rfl
  · exact B_str0
  · exact B_str1

/-! ### slices -/
theorem B_cut (l : List Bool) (lo hi : Option Int) : cutS (B l) lo hi = B ((l.drop (HT.sIx l.length 0 lo)).take (HT.sIx l.length l.length hi - HT.sIx l.length 0 lo)) := by
  unfold cutS B
  rw [SX.S_len, List.length_map, ← List.map_drop, ← List.map_take]
theorem sIx_of (n d : Nat) {i : Int} (h : 0 ≤ i) : HT.sIx n d (some i) = min i.toNat n := by
  show (if i < 0 then (i + (n : Int)).toNat else min i.toNat n) = _
  rw [if_neg (by omega)]
theorem B_to (l : List Bool) {j : Int} (h : 0 ≤ j) : cutS (B l) none (some j) = B (l.take j.toNat) := by
  rw [B_cut, sIx_of _ _ h]
  show B ((l.drop 0).take (min j.toNat l.length - 0)) = _
  rw [List.drop_zero, Nat.sub_zero, ← List.take_eq_take_min]
theorem B_from (l : List Bool) {i : Int} (h : 0 ≤ i) : cutS (B l) (some i) none = B (l.drop i.toNat) := by
  rw [B_cut, sIx_of _ _ h]
  show B ((l.drop (min i.toNat l.length)).take (l.length - min i.toNat l.length)) = _
  rw [List.take_of_length_le (by rw [List.length_drop]; omega)]
  by_cases hi : i.toNat ≤ l.length
  · rw [Nat.min_eq_left hi]
  · rw [Nat.min_eq_right (by omega), List.drop_length, List.drop_of_length_le (by omega)]
theorem B_mid (l : List Bool) {i j : Int} (h : 0 ≤ i) (hj : 0 ≤ j) : cutS (B l) (some i) (some j) = B ((l.take j.toNat).drop i.toNat) := by
  rw [B_cut, sIx_of _ _ h, sIx_of _ _ hj]
  congr 1
  apply List.ext_getElem?
  intro k
  rw [List.getElem?_take, List.getElem?_drop, List.getElem?_drop, List.getElem?_take]
  by_cases hi : i.toNat ≤ l.length
  · rw [Nat.min_eq_left hi]
    by_cases hj2 : j.toNat ≤ l.length
    · rw [Nat.min_eq_left hj2]
      by_cases h3 : k < j.toNat - i.toNat
      · rw [if_pos h3, if_pos (by omega)]
      · rw [if_neg h3, if_neg (by omega)]
    · rw [Nat.min_eq_right (by omega)]
      by_cases h3 : k < l.length - i.toNat
      · rw [if_pos h3, if_pos (by omega)]
      · rw [if_neg h3]
        split
        · exact (List.getElem?_eq_none (by omega)).symm
        · rfl
  · have hm : min i.toNat l.length = l.length := Nat.min_eq_right (Nat.le_of_lt (Nat.lt_of_not_le hi))
    rw [hm, List.getElem?_eq_none (by omega), List.getElem?_eq_none (by omega)]
    split <;> split <;> rfl

/-! ### signs -/
theorem B_at (l : List Bool) {i : Int} {k : Nat} {b : Bool} (hi : i = (k : Int)) (h : l[k]? = some b) : atI (B l).cps.toList i = some (cB b) := by
  subst hi
  refine atI_nat ?_
  rw [B_cps, List.getElem?_map, h]
  rfl
theorem B_atNeg (l : List Bool) {i : Int} {k : Nat} {b : Bool} (hi : i = -1 - (k : Int)) (hk : k < l.length) (h : l[l.length - 1 - k]? = some b) : atI (B l).cps.toList i = some (cB b) := by
  unfold atI ixN
  have e1 : (B l).cps.toList.length = l.length := by rw [B_cps, List.length_map]
  rw [e1, if_neg (by omega), if_pos (by omega)]
  show (B l).cps.toList[(i + (l.length : Int)).toNat]? = _
  rw [show (i + (l.length : Int)).toNat = l.length - 1 - k by omega, B_cps, List.getElem?_map, h]
  rfl

/-! ### many times -/
def rep (n : Nat) (l : List Bool) : List Bool := (List.replicate n l).flatten
theorem rep_zero (l : List Bool) : rep 0 l = [] := rfl
theorem rep_succ (n : Nat) (l : List Bool) : rep (n + 1) l = l ++ rep n l := by
  unfold rep
  rw [List.replicate_succ, List.flatten_cons]
theorem rep_length (n : Nat) (l : List Bool) : (rep n l).length = n * l.length := by
  induction n with
  | zero => rw [rep_zero, Nat.zero_mul]; rfl
  | succ n ih => rw [rep_succ, List.length_append, ih, Nat.succ_mul, Nat.add_comm]
theorem rep_get (n : Nat) (l : List Bool) (i : Nat) (h : i < n * l.length) : (rep n l)[i]? = l[i % l.length]? := by
  induction n generalizing i with
  | zero => rw [Nat.zero_mul] at h; omega
  | succ n ih =>
    rw [rep_succ]
    by_cases hi : i < l.length
    · rw [List.getElem?_append_left hi, Nat.mod_eq_of_lt hi]
    · have h1 : l.length ≤ i := by omega
      rw [List.getElem?_append_right h1, ih (i - l.length) (by rw [Nat.succ_mul] at h; omega), ← Nat.mod_eq_sub_mod h1]
theorem foldl_app (c : Array Nat) : ∀ (n : Nat) (acc : Array Nat), ((List.replicate n c).foldl (· ++ ·) acc).toList = acc.toList ++ (List.replicate n c.toList).flatten
  | 0, acc => by simp
  | n + 1, acc => by
    rw [List.replicate_succ, List.foldl_cons, foldl_app c n, List.replicate_succ, List.flatten_cons, Array.toList_append, List.append_assoc]
theorem map_rep (n : Nat) (l : List Bool) : (rep n l).map cB = (List.replicate n (l.map cB)).flatten := by
  induction n with
  | zero => rfl
  | succ n ih => rw [rep_succ, List.map_append, ih, List.replicate_succ, List.flatten_cons]
theorem B_mul (l : List Bool) {n : Int} (h : 0 ≤ n) : Txt.mul (B l) n = B (rep n.toNat l) := by
  unfold Txt.mul
  by_cases h1 : n < 1
  · rw [if_pos h1, show n.toNat = 0 by omega, rep_zero]
    rfl
  · rw [if_neg h1]
    by_cases h2 : (n == 1 || (B l).length == 0) = true
    · rw [if_pos h2]
      rw [Bool.or_eq_true, beq_iff_eq, beq_iff_eq, B_len] at h2
      rcases h2 with h2 | h2
      · subst h2
        show B l = B (rep 1 l)
        rw [rep_succ, rep_zero, List.append_nil]
      · rw [List.length_eq_zero_iff] at h2
        subst h2
        congr 1
        have := rep_length n.toNat []
        rw [List.length_nil, Nat.mul_zero, List.length_eq_zero_iff] at this
        exact this.symm
    · rw [if_neg h2]
      unfold B
      rw [map_rep]
      refine TL.ext_tl ?_
      show (List.foldl (· ++ ·) #[] (List.replicate n.toNat (SX.S (l.map cB)).cps)).toList = _
      rw [foldl_app]
      simp [TL.tl]

/-! ### joined -/
theorem join_nil (ls : List (List Bool)) : Txt.join (B []) (ls.map B) = B ls.flatten := by
  have e : ls.map B = (ls.map (List.map cB)).map SX.S := by rw [List.map_map]; rfl
  rw [e]
  show Txt.join (SX.S []) _ = _
  rw [SX.join_S]
  unfold B
  congr 1
  have key : ∀ ms : List (List Nat), TL.joinL [] ms = ms.flatten := by
    intro ms
    induction ms with
    | nil => rfl
    | cons m ms ih =>
      cases ms with
      | nil => simp [TL.joinL]
      | cons k ks =>
        rw [List.flatten_cons, ← ih]
        simp [TL.joinL]
  rw [key, ← List.map_flatten]
end G1
namespace G1
open PySem PySem.Spec PyProof.Rows L2
section
variable {X : Cx}
theorem tooLong_no {n : Nat} (h : n ≤ 1000000) : Builtin.Str.tooLong n = false := by
  unfold Builtin.Str.tooLong
  rw [decide_eq_false_iff_not]
  exact Nat.not_lt.mpr (Nat.le_trans h (by decide))
theorem op_mulS : OpR X (binaryOp .Mult) rMulS := by
  intro pins s σ H x y v u Q I rx ry h
  obtain ⟨z, n, rfl, rfl, h0, h1, h2, q⟩ := h
  obtain ⟨t, rfl⟩ := rx
  obtain ⟨t2, rfl⟩ := ry
  have hb : z.length = 0 ∨ n.toNat = 0 ∨ (z.length ≤ 1000000) := by
    rcases Nat.eq_zero_or_pos z.length with e | e
    · exact .inl e
    · rcases Nat.eq_zero_or_pos n.toNat with e2 | e2
      · exact .inr (.inl e2)
      · refine .inr (.inr (Nat.le_trans ?_ h2))
        exact Nat.le_mul_of_pos_right _ e2
  refine PySem.SB.mul ⟨?_, fun a b c => ?_, fun a b => tooLong_no h2⟩ fun t' k => ⟨.str (Txt.mul z n), H, I.tok _, ⟨_, rfl⟩, q⟩
  · rw [Bool.or_eq_false_iff]
    exact ⟨decide_eq_false (by omega), decide_eq_false (by omega)⟩
  · rw [Bool.or_eq_false_iff] at b
    have hz : z.length ≠ 0 := by
      have := b.2
      simpa using this
    have hz2 : (z.length : Int) ≤ 1000000 := by omega
    have h3 : (2 ^ 63 - 1 : Int) / n ≥ 1000000 := by
      apply Int.le_ediv_of_mul_le (by omega)
      omega
    omega
end
theorem szM {n : Nat} (h : n ≤ 1000000) : n ≤ sizeLine := Nat.le_trans h (by decide)
end G1
namespace G1
open PySem PySem.Spec PyProof.Rows L2
theorem B_last (l : List Bool) : cutS (B l) (some (-1)) none = B (l.drop (l.length - 1)) := by
  rw [B_cut]
  have e : HT.sIx l.length 0 (some (-1)) = l.length - 1 := by
    show (if (-1 : Int) < 0 then (-1 + (l.length : Int)).toNat else min (-1 : Int).toNat l.length) = _
    rw [if_pos (by decide)]
    omega
  rw [e]
  show B ((l.drop (l.length - 1)).take (l.length - (l.length - 1))) = _
  rw [List.take_of_length_le (by rw [List.length_drop]; omega)]
theorem B_init (l : List Bool) : cutS (B l) none (some (-1)) = B (l.take (l.length - 1)) := by
  rw [B_cut]
  have e : HT.sIx l.length l.length (some (-1)) = l.length - 1 := by
    show (if (-1 : Int) < 0 then (-1 + (l.length : Int)).toNat else min (-1 : Int).toNat l.length) = _
    rw [if_pos (by decide)]
    omega
  rw [e]
  show B ((l.drop 0).take (l.length - 1 - 0)) = _
  rw [List.drop_zero, Nat.sub_zero]
end G1
/-! calls by keywords alone; repr of a truth -/
namespace G1
open PySem PySem.Spec PyProof.Rows L2
section
variable {X : Cx} {CX : CXT} {k : Nat} {f : Addr} {fd : FuncData} {ps ks : List Str} {sp : Sp} {E : XK} {x : Str} {p pos : Pos} {kws : List Keyword} {tk : TA}
variable {g : List Value → List Value → List Value} {gV : List V → List V → List V}
/-- f(k = v, ..) -/
theorem pe_callK0 (F : FnOk X.prog X.w X.K X.mg X.base CX k f fd ps sp) (hr : Room k X.A) (hg : Gl X x) (hm : X.mg x = some (.ref f)) (hk : PySem.W.keepIn X.K (.ref f) = true) (hb : KBinds X.K fd ps ks g gV) (hx : Passes CX X E)
    (hkw : PK X kws tk) (hall : (backToKw pos (keywordEach kws X.env)).all (·.1.isSome) = true := by rfl) (hks : (backToKw pos (keywordEach kws X.env)).filterMap (·.1) = ks := by rfl)
    (hdb : (x == ("__debug__" : Str)) = false := by decide)
    (hpl : ((backTo pos (starEach [] X.env)).any (·.1) || (backToKw pos (keywordEach kws X.env)).any (·.1.isNone)) = false := by rfl) :
    PE X (.Call (.Name x p) [] kws pos) (fun σ H Q => tk σ H fun zs H1 => sp (gV [] zs) H1 Q E) := by
  refine ⟨fun pins s σ H Q I h => wpAny_Call_Name_kw (ld_glob I hg hm ?_ hdb)⟩
  refine PySem.W.callWith_KW0 (h₀ := X.base) I.ok.mod.kin hk hall (thn (hkw.run pos pins s σ H _ I h) ?_) hpl
  intro ws s2 hws
  obtain ⟨zs, H2, I2, rz, q2⟩ := hws
  refine ⟨I2.kIn, ?_⟩
  rw [hks]
  exact run_fnk (us := []) (vs := []) F hr hb hx I2 .nil rz q2
end
/-- two keywords, the second parameter's first -/
def swapW {α : Type} : List α → List α → List α
  | [], a :: b :: _ => [b, a]
  | _, _ => []
theorem kbinds_swap {K : PySem.W.Frag} {fd : FuncData} {p0 p1 : Str}
    (h : ∀ a b : Value, bindArgs fd ⟨[], [(p1, a), (p0, b)]⟩ = pure [(p0, b), (p1, a)]) : KBinds K fd [p0, p1] [p1, p0] swapW swapW := by
  refine ⟨fun s us ws _ hl => ?_, fun {vs us zs ws} r1 r2 => ?_⟩
  · cases us with
    | cons u us => cases hl
    | nil =>
      cases ws with
      | nil => cases hl
      | cons a ws =>
        cases ws with
        | nil => cases hl
        | cons b ws => exact .of_eq (h a b)
  · cases r1 with
    | cons q t => exact .nil
    | nil =>
      cases r2 with
      | nil => exact .nil
      | cons q1 t1 =>
        cases t1 with
        | nil => exact .nil
        | cons q2 t2 => exact .cons q2 (.cons q1 .nil)
section
variable {X : Cx}
theorem call_reprB : CallR X (.builtin "repr") (fun xs H Q => ∃ b : Bool, xs = [.bl b] ∧ Q (.str (if b then "True" else "False")) H) := by
  intro pins s σ H xs us Q I r h
  obtain ⟨b, rfl, q⟩ := h
  obtain ⟨u, rfl, ru⟩ := vals1 r
  obtain rfl : u = Value.bool b := ru
  exact PySem.P.repr_of_bool ⟨.str _, H, I.tok _, ⟨_, rfl⟩, q⟩
end
end G1
namespace G1
open PySem PySem.Spec PyProof.Rows L2
/-- one keyword -/
def oneW {α : Type} : List α → List α → List α
  | [], a :: _ => [a]
  | _, _ => []
theorem kbinds_one {K : PySem.W.Frag} {fd : FuncData} {p0 : Str} (h : ∀ a : Value, bindArgs fd ⟨[], [(p0, a)]⟩ = pure [(p0, a)]) : KBinds K fd [p0] [p0] oneW oneW := by
  refine ⟨fun s us ws _ hl => ?_, fun {vs us zs ws} r1 r2 => ?_⟩
  · cases us with
    | cons u us => cases hl
    | nil =>
      cases ws with
      | nil => cases hl
      | cons a ws => exact .of_eq (h a)
  · cases r1 with
    | cons q t => exact .nil
    | nil =>
      cases r2 with
      | nil => exact .nil
      | cons q1 t1 => exact .cons q1 .nil
/-- a value by a word: what follows is shown once -/
theorem pe_cut {X : Cx} {e : Expr} {t : TE} (h : PE X e t) : PE X e (fun σ H Q => ∃ M : V → Hp → Prop, t σ H M ∧ ∀ v H', M v H' → Q v H') := by
  refine ⟨fun pins s σ H Q I hq => ?_⟩
  obtain ⟨M, h1, h2⟩ := hq
  refine thn (h.run pins s σ H M I h1) ?_
  intro u s1 hu
  obtain ⟨v, H1, I1, r1, q1⟩ := hu
  exact ⟨v, H1, I1, r1, h2 v H1 q1⟩
end G1
namespace G1
open PySem PySem.Spec PyProof.Rows L2
theorem cB_small (b : Bool) : cB b < 16 ^ 8 := by cases b <;> decide
theorem leaf_B (l : List Bool) : PyData.leavesShort 8 (.str (B l)) = true := by
  simp only [PyData.leavesShort, List.all_eq_true, decide_eq_true_eq]
  intro c hc
  rw [B_cps] at hc
  obtain ⟨b, _, rfl⟩ := List.mem_map.mp hc
  exact cB_small b
theorem w_B (l : List Bool) : PyData.weight (.str (B l)) = l.length := by
  simp only [PyData.weight]
  exact B_len l
/-- repr of one object, read as data that is not great -/
theorem go_repr {K : PySem.W.Frag} {H : Hp} {R : PyData → Prop} {a : Addr} (d : PyData) (hd : Dp K H (.ref a) d) (h1 : d.showable = true) (h2 : d.hasDict = false) (h3 : d.depth ≤ 60) (h4 : d.leavesShort 8 = true) (h5 : d.weight ≤ 2 ^ 20) (q : R d) :
    ∃ (a' : Addr) (d' : PyData), [V.ref a] = [V.ref a'] ∧ Dp K H (.ref a') d' ∧ d'.showable = true ∧ d'.hasDict = false ∧ d'.depth ≤ 60 ∧ d'.shown.length ≤ sizeLine ∧ R d' :=
  ⟨a, d, rfl, hd, h1, h2, h3, PyData.shown_fits (Nat.le_refl _) (by decide) h4 h5, q⟩
theorem str_refl (z : Str) : decide (V.str z = V.str z) = true := decide_eq_true rfl
end G1
namespace G1
open PySem PySem.Spec PyProof.Rows L2
/-- the data of a table, of lists of texts and of truths -/
def dTab (h t : List Bool) : PyData := .tuple [.str (B h), .str (B t)]
theorem dp_tab {K : PySem.W.Frag} {H : Hp} {p : Addr} {h t : List Bool} (e : H p = some (.tup [.str (B h), .str (B t)])) : Dp K H (.ref p) (dTab h t) :=
  .tup (.inl (.inl e)) (.cons (.str _) (.cons (.str _) .nil))
def dStrs (ls : List (List Bool)) : PyData := .list (ls.map fun l => .str (B l))
def dBools (bs : List Bool) : PyData := .list (bs.map PyData.bool)
theorem dpAll_strs {K : PySem.W.Frag} {H : Hp} : ∀ ls : List (List Bool), DpAll K H (ls.map fun l => V.str (B l)) (ls.map fun l => .str (B l))
  | [] => .nil
  | l :: ls => .cons (.str _) (dpAll_strs ls)
theorem dpAll_bools {K : PySem.W.Frag} {H : Hp} : ∀ bs : List Bool, DpAll K H (bs.map V.bl) (bs.map PyData.bool)
  | [] => .nil
  | b :: bs => .cons (.bl _) (dpAll_bools bs)
/-- repr of a table -/
theorem repr_tab {K : PySem.W.Frag} {H : Hp} {R : PyData → Prop} {a : Addr} {h t : List Bool} (e : H a = some (.tup [.str (B h), .str (B t)])) (h1 : h.length ≤ 5000) (t1 : t.length ≤ 5000) (q : R (dTab h t)) :
    ∃ (a' : Addr) (d' : PyData), [V.ref a] = [V.ref a'] ∧ Dp K H (.ref a') d' ∧ d'.showable = true ∧ d'.hasDict = false ∧ d'.depth ≤ 60 ∧ d'.shown.length ≤ sizeLine ∧ R d' := by
  refine go_repr (dTab h t) (dp_tab e) ?_ ?_ ?_ ?_ ?_ q
  · simp [dTab, PyData.showable, PyData.showableAll]
  · simp [dTab, PyData.hasDict, PyData.hasDictAll]
  · simp [dTab, PyData.depth, PyData.depthAll]
  · simp only [dTab, PyData.leavesShort, PyData.leavesShortAll, Bool.and_eq_true]
    exact ⟨leaf_B h, leaf_B t, trivial⟩
  · simp only [dTab, PyData.weight, PyData.weightAll]
    have e1 := w_B h
    have e2 := w_B t
    simp only [PyData.weight] at e1 e2
    omega
/-- repr of three texts -/
theorem repr_s3 {K : PySem.W.Frag} {H : Hp} {R : PyData → Prop} {a : Addr} {x y z : List Bool} (e : H a = some (.lst [.str (B x), .str (B y), .str (B z)])) (h1 : x.length ≤ 100000) (h2 : y.length ≤ 100000) (h3 : z.length ≤ 100000) (q : R (dStrs [x, y, z])) :
    ∃ (a' : Addr) (d' : PyData), [V.ref a] = [V.ref a'] ∧ Dp K H (.ref a') d' ∧ d'.showable = true ∧ d'.hasDict = false ∧ d'.depth ≤ 60 ∧ d'.shown.length ≤ sizeLine ∧ R d' := by
  refine go_repr (dStrs [x, y, z]) (.lst (.inl (.inl e)) (dpAll_strs [x, y, z])) ?_ ?_ ?_ ?_ ?_ q
  · simp [dStrs, PyData.showable, PyData.showableAll]
  · simp [dStrs, PyData.hasDict, PyData.hasDictAll]
  · simp [dStrs, PyData.depth, PyData.depthAll]
  · simp only [dStrs, List.map_cons, List.map_nil, PyData.leavesShort, PyData.leavesShortAll, Bool.and_eq_true]
    exact ⟨leaf_B x, leaf_B y, leaf_B z, trivial⟩
  · simp only [dStrs, List.map_cons, List.map_nil, PyData.weight, PyData.weightAll]
    have e1 := w_B x
    have e2 := w_B y
    have e3 := w_B z
    simp only [PyData.weight] at e1 e2 e3
    omega
theorem bools_ok : ∀ bs : List Bool, PyData.showableAll (bs.map PyData.bool) = true ∧ PyData.hasDictAll (bs.map PyData.bool) = false ∧ PyData.depthAll (bs.map PyData.bool) = 0 ∧ PyData.leavesShortAll 8 (bs.map PyData.bool) = true ∧ PyData.weightAll (bs.map PyData.bool) ≤ 2 * bs.length
  | [] => by simp [PyData.showableAll, PyData.hasDictAll, PyData.depthAll, PyData.leavesShortAll, PyData.weightAll]
  | b :: bs => by
    obtain ⟨h1, h2, h3, h4, h5⟩ := bools_ok bs
    simp [PyData.showableAll, PyData.hasDictAll, PyData.depthAll, PyData.leavesShortAll, PyData.weightAll, PyData.showable, PyData.hasDict, PyData.depth, PyData.leavesShort, PyData.weight, h1, h2, h3, h4]
    omega
/-- repr of truths -/
theorem repr_bs {K : PySem.W.Frag} {H : Hp} {R : PyData → Prop} {a : Addr} (bs : List Bool) {xs : List V} (e : H a = some (.lst xs)) (ex : xs = bs.map V.bl) (hl : bs.length ≤ 1000) (q : R (dBools bs)) :
    ∃ (a' : Addr) (d' : PyData), [V.ref a] = [V.ref a'] ∧ Dp K H (.ref a') d' ∧ d'.showable = true ∧ d'.hasDict = false ∧ d'.depth ≤ 60 ∧ d'.shown.length ≤ sizeLine ∧ R d' := by
  subst ex
  obtain ⟨h1, h2, h3, h4, h5⟩ := bools_ok bs
  refine go_repr (dBools bs) (.lst (.inl (.inl e)) (dpAll_bools bs)) ?_ ?_ ?_ ?_ ?_ q
  · simp only [dBools, PyData.showable]; exact h1
  · simp only [dBools, PyData.hasDict]; exact h2
  · simp only [dBools, PyData.depth, h3]; omega
  · simp only [dBools, PyData.leavesShort]; exact h4
  · simp only [dBools, PyData.weight]; omega
end G1
namespace G1
open PySem PySem.Spec PyProof.Rows L2
def dMix (a b c : Bool) (x : List Bool) : PyData := .list [.bool a, .bool b, .bool c, .str (B x)]
theorem repr_mix {K : PySem.W.Frag} {H : Hp} {R : PyData → Prop} {p : Addr} {a b c : Bool} {x : List Bool} (e : H p = some (.lst [.bl a, .bl b, .bl c, .str (B x)])) (h1 : x.length ≤ 100000) (q : R (dMix a b c x)) :
    ∃ (a' : Addr) (d' : PyData), [V.ref p] = [V.ref a'] ∧ Dp K H (.ref a') d' ∧ d'.showable = true ∧ d'.hasDict = false ∧ d'.depth ≤ 60 ∧ d'.shown.length ≤ sizeLine ∧ R d' := by
  refine go_repr (dMix a b c x) (.lst (.inl (.inl e)) (.cons (.bl _) (.cons (.bl _) (.cons (.bl _) (.cons (.str _) .nil))))) ?_ ?_ ?_ ?_ ?_ q
  · simp [dMix, PyData.showable, PyData.showableAll]
  · simp [dMix, PyData.hasDict, PyData.hasDictAll]
  · simp [dMix, PyData.depth, PyData.depthAll]
  · simp only [dMix, PyData.leavesShort, PyData.leavesShortAll, Bool.and_eq_true]
    exact ⟨trivial, trivial, trivial, leaf_B x, trivial⟩
  · simp only [dMix, PyData.weight, PyData.weightAll]
    have e1 := w_B x
    simp only [PyData.weight] at e1
    omega
theorem L_01 : Str.ofString "01" = B [false, true] := by decide +kernel
theorem L_001 : Str.ofString "001" = B [false, false, true] := by decide +kernel
theorem L_1000 : Str.ofString "1000" = B [true, false, false, false] := by decide +kernel
end G1
namespace G1
open PySem PySem.Spec PyProof.Rows L2
/-- data that may stand in a list that is shown -/
structure Small (d : PyData) : Prop where
  sh : d.showable = true
  nd : d.hasDict = false
  dp : d.depth ≤ 20
  lv : d.leavesShort 8 = true
  wt : d.weight ≤ 20000
theorem small_bool (b : Bool) : Small (.bool b) := ⟨rfl, rfl, by simp [PyData.depth], rfl, by simp [PyData.weight]⟩
theorem small_none : Small .none := ⟨rfl, rfl, by simp [PyData.depth], rfl, by simp [PyData.weight]⟩
theorem small_B {l : List Bool} (h : l.length ≤ 20000) : Small (.str (B l)) := by
  refine ⟨rfl, rfl, by simp [PyData.depth], leaf_B l, ?_⟩
  rw [w_B]; exact h
theorem small_tab {h t : List Bool} (h1 : h.length ≤ 5000) (t1 : t.length ≤ 5000) : Small (dTab h t) := by
  refine ⟨?_, ?_, ?_, ?_, ?_⟩
  · simp [dTab, PyData.showable, PyData.showableAll]
  · simp [dTab, PyData.hasDict, PyData.hasDictAll]
  · simp [dTab, PyData.depth, PyData.depthAll]
  · simp only [dTab, PyData.leavesShort, PyData.leavesShortAll, Bool.and_eq_true]
    exact ⟨leaf_B h, leaf_B t, trivial⟩
  · simp only [dTab, PyData.weight, PyData.weightAll]
    have e1 := w_B h
    have e2 := w_B t
    simp only [PyData.weight] at e1 e2
    omega
theorem small_all : ∀ ds : List PyData, (∀ d ∈ ds, Small d) → PyData.showableAll ds = true ∧ PyData.hasDictAll ds = false ∧ PyData.depthAll ds ≤ 20 ∧ PyData.leavesShortAll 8 ds = true ∧ PyData.weightAll ds ≤ 20001 * ds.length
  | [], _ => by simp [PyData.showableAll, PyData.hasDictAll, PyData.depthAll, PyData.leavesShortAll, PyData.weightAll]
  | d :: ds, h => by
    obtain ⟨h1, h2, h3, h4, h5⟩ := small_all ds fun e he => h e (List.mem_cons_of_mem _ he)
    have s := h d List.mem_cons_self
    refine ⟨?_, ?_, ?_, ?_, ?_⟩
    · simp [PyData.showableAll, h1, s.sh]
    · simp [PyData.hasDictAll, h2, s.nd]
    · have := s.dp
      simp only [PyData.depthAll]
      omega
    · simp [PyData.leavesShortAll, h4, s.lv]
    · have := s.wt
      simp only [PyData.weightAll, List.length_cons]
      omega
/-- repr of a list of such -/
theorem repr_items {K : PySem.W.Frag} {H : Hp} {R : PyData → Prop} {a : Addr} {xs : List V} (ds : List PyData) (e : H a = some (.lst xs)) (hd : DpAll K H xs ds) (hs : ∀ d ∈ ds, Small d) (hl : ds.length ≤ 40) (q : R (.list ds)) :
    ∃ (a' : Addr) (d' : PyData), [V.ref a] = [V.ref a'] ∧ Dp K H (.ref a') d' ∧ d'.showable = true ∧ d'.hasDict = false ∧ d'.depth ≤ 60 ∧ d'.shown.length ≤ sizeLine ∧ R d' := by
  obtain ⟨h1, h2, h3, h4, h5⟩ := small_all ds hs
  refine go_repr (.list ds) (.lst (.inl (.inl e)) hd) ?_ ?_ ?_ ?_ ?_ q
  · simp only [PyData.showable]; exact h1
  · simp only [PyData.hasDict]; exact h2
  · simp only [PyData.depth]; omega
  · simp only [PyData.leavesShort]; exact h4
  · simp only [PyData.weight]
    have : 20001 * ds.length ≤ 20001 * 40 := Nat.mul_le_mul_left _ hl
    omega
theorem eqv_tab (a b c d : List Bool) : PyData.eqv (dTab a b) (dTab c d) = decide (a = c ∧ b = d) := by
  have e : ∀ x y : List Bool, (B x == B y) = decide (x = y) := fun x y => by
    by_cases h : x = y
    · subst h; simp
    · rw [decide_eq_false h]
      exact beq_eq_false_iff_ne.mpr fun z => h (B_inj z)
  have e2 : PyData.eqv (dTab a b) (dTab c d) = ((B a == B c) && ((B b == B d) && true)) := by simp only [dTab, PyData.eqv, PyData.eqvAll]
  rw [e2, e, e, Bool.and_true, Bool.decide_and]
theorem shaped_tab (h t : List Bool) : SeqAt.shaped (dTab h t) = true := by
  have l : ∀ x : List Bool, PyData.canLay0 (.str (B x)) = true := fun x => by
    simp only [PyData.canLay0, PyData.strOk]
    rw [Array.all_eq_true_iff_forall_mem]
    intro c hc
    have hc2 : c ∈ (B x).cps.toList := Array.mem_toList_iff.mpr hc
    rw [B_cps] at hc2
    obtain ⟨b, _, rfl⟩ := List.mem_map.mp hc2
    cases b <;> decide
  show (PyData.canLay0 (dTab h t) && decide (PyData.depth (dTab h t) ≤ 64)) = true
  rw [Bool.and_eq_true]
  refine ⟨?_, decide_eq_true ?_⟩
  · simp only [dTab, PyData.canLay0, PyData.canLayAll0, Bool.and_eq_true]
    exact ⟨l h, l t, trivial⟩
  · simp [dTab, PyData.depth, PyData.depthAll]
end G1
/-! what draws come from: a list of two lists and a count, changed by each draw; all else stands -/
namespace G1
open PySem PySem.Spec PyProof.Rows L2

/-- the well at w, its great cells at g -/
def WellAt (w g : Addr) (H : Hp) : Prop := ∃ (c : Addr) (gs cs : List Int) (k : Int), w ≠ g ∧ c ≠ g ∧ c ≠ w ∧ H w = some (.lst [.ref g, .ref c, .int k]) ∧
  H g = some (.lst (gs.map V.int)) ∧ H c = some (.lst (cs.map V.int)) ∧ 0 < cs.length ∧ gs.length ≤ 1000 ∧ cs.length ≤ 1000
/-- H' is as H but for the well -/
def Go (w g : Addr) (H H' : Hp) : Prop := ∀ a o, a ≠ w → a ≠ g → H a = some o → H' a = some o
theorem Go.refl {w g : Addr} {H : Hp} : Go w g H H := fun _ _ _ _ h => h
theorem Go.trans {w g : Addr} {H H1 H2 : Hp} (a : Go w g H H1) (b : Go w g H1 H2) : Go w g H H2 := fun x o h1 h2 h => b x o h1 h2 (a x o h1 h2 h)
theorem Go.of {w g : Addr} {H H' : Hp} (h : Same H H') : Go w g H H' := fun x o _ _ e => h x o e
/-- o stands at a, apart from the well -/
structure At (w g : Addr) (H : Hp) (a : Addr) (o : HO) : Prop where
  nw : a ≠ w
  ng : a ≠ g
  at_ : H a = some o
theorem At.go {w g : Addr} {H H' : Hp} {a : Addr} {o : HO} (x : At w g H a o) (s : Go w g H H') : At w g H' a o := ⟨x.nw, x.ng, s a o x.nw x.ng x.at_⟩
theorem same_new {H : Hp} {p : Addr} {o : HO} (h : H p = none) : Same H (upd H p o) := fun b x e => by
  rw [upd_ne (ne_of_none e h)]
  exact e
theorem Same.rfl' {H : Hp} : Same H H := fun _ _ h => h
theorem WellAt.same {w g : Addr} {H H' : Hp} (W : WellAt w g H) (s : Same H H') : WellAt w g H' := by
  obtain ⟨c, gs, cs, k, h1, h2, h3, h4, h5, h6, h7⟩ := W
  exact ⟨c, gs, cs, k, h1, h2, h3, s _ _ h4, s _ _ h5, s _ _ h6, h7⟩
theorem WellAt.fresh {w g p : Addr} {H : Hp} (W : WellAt w g H) (h : H p = none) : p ≠ w ∧ p ≠ g := by
  obtain ⟨c, gs, cs, k, h1, h2, h3, h4, h5, h6, h7⟩ := W
  exact ⟨(ne_of_none h4 h).symm, (ne_of_none h5 h).symm⟩
/-- a new object beside the well -/
theorem new_w {w g : Addr} {H : Hp} {o : HO} {Q : VK} (W : WellAt w g H)
    (h : ∀ p H', H p = none → Same H H' → WellAt w g H' → At w g H' p o → Q (.ref p) H') : ∀ p, H p = none → Q (.ref p) (upd H p o) := fun p hp =>
  h p _ hp (same_new hp) (W.same (same_new hp)) ⟨(W.fresh hp).1, (W.fresh hp).2, upd_same⟩
/-- a new object -/
theorem new_s {H : Hp} {o : HO} {Q : VK} (h : ∀ p H', H p = none → Same H H' → H' p = some o → Q (.ref p) H') : ∀ p, H p = none → Q (.ref p) (upd H p o) :=
  fun p hp => h p _ hp (same_new hp) upd_same
theorem new_of {w g p : Addr} {H H' : Hp} {o : HO} (W : WellAt w g H) (hp : H p = none) (e : upd H p o = H') : Same H H' ∧ WellAt w g H' ∧ At w g H' p o := by
  subst e
  exact ⟨same_new hp, W.same (same_new hp), (W.fresh hp).1, (W.fresh hp).2, upd_same⟩
theorem new_of0 {p : Addr} {H H' : Hp} {o : HO} (hp : H p = none) (e : upd H p o = H') : Same H H' ∧ H' p = some o := by
  subst e
  exact ⟨same_new hp, upd_same⟩
theorem same_mut {H H1 : Hp} {D : Addr} {o : HO} (s : Same H H1) (h : H D = none) : Same H (upd H1 D o) := fun b x e => by
  rw [upd_ne (ne_of_none e h)]
  exact s _ _ e
theorem szl {n : Nat} (h : n ≤ 1000) : n ≤ sizeLine := Nat.le_trans h (by decide)
theorem At.sqL {K : PySem.W.Frag} {w g : Addr} {H : Hp} {a : Addr} {xs : List V} (x : At w g H a (.lst xs)) : SqL K H a xs := .inl (.inl x.at_)
theorem At.sqT {K : PySem.W.Frag} {w g : Addr} {H : Hp} {a : Addr} {xs : List V} (x : At w g H a (.tup xs)) : SqT K H a xs := .inl (.inl x.at_)
theorem sqL_of {K : PySem.W.Frag} {H : Hp} {a : Addr} {xs : List V} (h : H a = some (.lst xs)) : SqL K H a xs := .inl (.inl h)
theorem sqT_of {K : PySem.W.Frag} {H : Hp} {a : Addr} {xs : List V} (h : H a = some (.tup xs)) : SqT K H a xs := .inl (.inl h)
/-- a tuple stands apart from the well -/
theorem WellAt.tup {w g a : Addr} {H : Hp} {xs : List V} (W : WellAt w g H) (h : H a = some (.tup xs)) : At w g H a (.tup xs) := by
  obtain ⟨c, gs, cs, k, h1, h2, h3, h4, h5, h6, h7⟩ := W
  exact ⟨ne_of h h4 (by intro z; cases z), ne_of h h5 (by intro z; cases z), h⟩
end G1
namespace G1
open PySem PySem.Spec PyProof.Rows L2
theorem ifT {A B : Prop} (h : A) : if true = true then A else B := by rw [if_pos rfl]; exact h
theorem ifF {A B : Prop} (h : B) : if false = true then A else B := by rw [if_neg Bool.false_ne_true]; exact h
theorem ifD {c : Prop} [Decidable c] {A B : Prop} (h1 : c → A) (h2 : ¬ c → B) : if decide c = true then A else B := by
  by_cases h : c
  · rw [decide_eq_true h]
    exact ifT (h1 h)
  · rw [decide_eq_false h]
    exact ifF (h2 h)
theorem ifDn {c : Prop} [Decidable c] {A B : Prop} (h1 : ¬ c → A) (h2 : c → B) : if (!decide c) = true then A else B := by
  by_cases h : c
  · rw [decide_eq_true h]
    exact ifF (h2 h)
  · rw [decide_eq_false h]
    exact ifT (h1 h)
theorem ifB {b : Bool} {A B : Prop} (h1 : b = true → A) (h2 : b = false → B) : if b = true then A else B := by
  cases b with
  | true => exact ifT (h1 rfl)
  | false => exact ifF (h2 rfl)
end G1
namespace G1
open PySem PySem.Spec PyProof.Rows L2
theorem dpAll_ints {K : PySem.W.Frag} {H : Hp} : ∀ ns : List Int, DpAll K H (ns.map V.int) (ns.map PyData.int)
  | [] => .nil
  | n :: ns => .cons (.int n) (dpAll_ints ns)
theorem lay_ints : ∀ ns : List Int, PyData.canLayAll0 (ns.map PyData.int) = true
  | [] => by simp [PyData.canLayAll0]
  | n :: ns => by simp [PyData.canLayAll0, PyData.canLay0, lay_ints ns]
theorem depth_ints : ∀ ns : List Int, PyData.depthAll (ns.map PyData.int) = 0
  | [] => by simp [PyData.depthAll]
  | n :: ns => by simp [PyData.depthAll, PyData.depth, depth_ints ns]
theorem shaped_ints (ns : List Int) : SeqAt.shaped (.list (ns.map PyData.int)) = true := by
  show (PyData.canLay0 (.list (ns.map PyData.int)) && decide (PyData.depth (.list (ns.map PyData.int)) ≤ 64)) = true
  rw [Bool.and_eq_true]
  refine ⟨by simp only [PyData.canLay0]; exact lay_ints ns, decide_eq_true ?_⟩
  simp only [PyData.depth, depth_ints]
  omega
theorem eqv_ints_nil (ns : List Int) : PyData.eqv (.list (ns.map PyData.int)) (.list []) = decide (ns = []) := by
  cases ns with
  | nil => simp [PyData.eqv, PyData.eqvAll]
  | cons n ns => simp [PyData.eqv, PyData.eqvAll]
end G1

namespace G1
open PySem PySem.Spec PyProof.Rows L2
theorem ix_zero {n : Nat} (h : 0 < n) : ixN n 0 = some 0 := by
  unfold ixN
  rw [if_pos (by omega), if_pos (by omega)]
  rfl
theorem ix_at {n j : Nat} {i : Int} (e : i = (j : Int)) (h : j < n) : ixN n i = some j := by
  subst e
  unfold ixN
  rw [if_pos (by omega), if_pos (by omega)]
  rfl
end G1

namespace G1
open PySem PySem.Spec PyProof.Rows L2
theorem seq_zero (n : Nat) : seqIndex? 0 (n + 1) = some 0 := by
  unfold seqIndex?
  simp
end G1

namespace G1
open PySem PySem.Spec PyProof.Rows L2
section
variable {K : PySem.W.Frag} {H : Hp} {Q : VK} {p : Addr} {xs : List V} {v : V}
theorem go_ixL {R : V → Prop} {j : Nat} (hs : H p = some (.lst xs)) (hj : xs[j]? = some v) (q : R v) :
    ∃ p' xs' i' v', V.ref p = V.ref p' ∧ V.int (j : Int) = V.int i' ∧ SqL K H p' xs' ∧ atI xs' i' = some v' ∧ R v' :=
  ⟨p, xs, _, v, rfl, rfl, sqL_of hs, atI_nat hj, q⟩
theorem go_ixLi {R : V → Prop} {i : Int} {j : Nat} (hs : H p = some (.lst xs)) (e : i = (j : Int)) (hj : xs[j]? = some v) (q : R v) :
    ∃ p' xs' i' v', V.ref p = V.ref p' ∧ V.int i = V.int i' ∧ SqL K H p' xs' ∧ atI xs' i' = some v' ∧ R v' := by
  subst e
  exact ⟨p, xs, _, v, rfl, rfl, sqL_of hs, atI_nat hj, q⟩
theorem go_ixT {R : V → Prop} {j : Nat} (hs : H p = some (.tup xs)) (hj : xs[j]? = some v) (q : R v) :
    ∃ p' xs' i' v', V.ref p = V.ref p' ∧ V.int (j : Int) = V.int i' ∧ SqT K H p' xs' ∧ atI xs' i' = some v' ∧ R v' :=
  ⟨p, xs, _, v, rfl, rfl, sqT_of hs, atI_nat hj, q⟩
theorem go_ixLast {R : V → Prop} (hs : H p = some (.lst xs)) (hj : xs[xs.length - 1]? = some v) (q : R v) :
    ∃ p' xs' i' v', V.ref p = V.ref p' ∧ V.int (-1) = V.int i' ∧ SqL K H p' xs' ∧ atI xs' i' = some v' ∧ R v' := by
  refine ⟨p, xs, _, v, rfl, rfl, sqL_of hs, ?_, q⟩
  have hl : 0 < xs.length := by
    cases xs with
    | nil => simp at hj
    | cons a l => simp
  unfold atI ixN
  rw [if_neg (by omega), if_pos (by omega)]
  show xs[(-1 + (xs.length : Int)).toNat]? = _
  rw [show (-1 + (xs.length : Int)).toNat = xs.length - 1 by omega]
  exact hj
theorem go_tup {R : List V → Prop} (hs : H p = some (.tup xs)) (q : R xs) : ∃ a ys, V.ref p = V.ref a ∧ SqT K H a ys ∧ R ys := ⟨p, xs, rfl, sqT_of hs, q⟩
theorem go_unl {R : List V → Prop} (hs : H p = some (.lst xs)) (q : R xs) : ∃ a ys, V.ref p = V.ref a ∧ SqL K H a ys ∧ R ys := ⟨p, xs, rfl, sqL_of hs, q⟩
theorem go_lenL {R : List V → Prop} (hs : H p = some (.lst xs)) (q : R xs) : ∃ p' ys, [V.ref p] = [V.ref p'] ∧ (SqL K H p' ys ∨ SqT K H p' ys) ∧ R ys :=
  ⟨p, xs, rfl, Or.inl (sqL_of hs), q⟩
end
end G1

namespace G1
open PySem PySem.Spec PyProof.Rows L2
section
variable {l m : List Bool}
/-- len of a text of two signs -/
theorem go_lenS {R : Str → Prop} (h : l.length ≤ 1000000) (q : R (B l)) : ∃ z, [V.str (B l)] = [V.str z] ∧ z.length ≤ sizeLine ∧ R z :=
  ⟨B l, rfl, by rw [B_len]; exact szM h, q⟩
theorem go_addS {R : Str → Str → Prop} (h : l.length + m.length ≤ 1000000) (q : R (B l) (B m)) : ∃ i j, V.str (B l) = V.str i ∧ V.str (B m) = V.str j ∧ i.length + j.length ≤ sizeLine ∧ R i j :=
  ⟨B l, B m, rfl, rfl, by rw [B_len, B_len]; exact szM h, q⟩
theorem go_mulS {R : Str → Int → Prop} {n : Int} (h : 0 ≤ n ∧ n < 2 ^ 30) (h2 : l.length * n.toNat ≤ 1000000) (q : R (B l) n) :
    ∃ z k, V.str (B l) = V.str z ∧ V.int n = V.int k ∧ 0 ≤ k ∧ k < 2 ^ 30 ∧ z.length * k.toNat ≤ 1000000 ∧ R z k :=
  ⟨B l, n, rfl, rfl, h.1, h.2, by rw [B_len]; exact h2, q⟩
theorem go_sl {R : Str → Prop} (h : l.length ≤ 1000000) (q : R (B l)) : ∃ z, V.str (B l) = V.str z ∧ z.length ≤ sizeLine ∧ R z :=
  ⟨B l, rfl, by rw [B_len]; exact szM h, q⟩
theorem go_ixS {R : Nat → Prop} {i : Int} {k : Nat} {b : Bool} (hi : i = (k : Int)) (h : l.length ≤ 1000000) (hk : l[k]? = some b) (q : R (cB b)) :
    ∃ z i' c, V.str (B l) = V.str z ∧ V.int i = V.int i' ∧ z.length ≤ sizeLine ∧ atI z.cps.toList i' = some c ∧ R c :=
  ⟨B l, i, _, rfl, rfl, by rw [B_len]; exact szM h, B_at l hi hk, q⟩
theorem go_ixSn {R : Nat → Prop} {i : Int} {k : Nat} {b : Bool} (hi : i = -1 - (k : Int)) (h : l.length ≤ 1000000) (hl : k < l.length) (hk : l[l.length - 1 - k]? = some b) (q : R (cB b)) :
    ∃ z i' c, V.str (B l) = V.str z ∧ V.int i = V.int i' ∧ z.length ≤ sizeLine ∧ atI z.cps.toList i' = some c ∧ R c :=
  ⟨B l, i, _, rfl, rfl, by rw [B_len]; exact szM h, B_atNeg l hi hl hk, q⟩
end
end G1
namespace G1
open PySem PySem.Spec PyProof.Rows L2
theorem log_small {i : Int} (h0 : 0 ≤ i) (h1 : i < 2 ^ 64) : i.natAbs.log2 < 1920 := by
  have h : i.natAbs < 2 ^ 64 := by omega
  by_cases hz : i.natAbs = 0
  · rw [hz]; decide
  · exact Nat.lt_of_lt_of_le ((Nat.log2_lt hz).mpr h) (by decide)
theorem go_bit {R : Int → Prop} {i : Int} (h : 0 ≤ i ∧ i < 2) (q : R i) : ∃ k, [V.int i] = [V.int k] ∧ k.natAbs.log2 < 1920 ∧ R k :=
  ⟨i, rfl, log_small h.1 (by omega), q⟩
theorem flat_one : ∀ bs : List Bool, (bs.map fun b => [b]).flatten = bs
  | [] => rfl
  | b :: bs => by rw [List.map_cons, List.flatten_cons, flat_one bs]; rfl
theorem len_one : ∀ bs : List Bool, ((bs.map fun b => B [b]).map (·.length)).sum = bs.length
  | [] => rfl
  | b :: bs => by
    rw [List.map_cons, List.map_cons, List.sum_cons, len_one bs, B_len, List.length_cons, List.length_cons, List.length_nil]
    omega
theorem go_join {K : PySem.W.Frag} {H : Hp} {R : Str → List Str → Prop} {D : Addr} {bs : List Bool} (hD : H D = some (.lst (bs.map fun b => V.str (B [b])))) (hl : bs.length ≤ 1000000) (q : R (B []) (bs.map fun b => B [b])) :
    ∃ a p ys, V.str (B []) = V.str a ∧ [V.ref D] = [V.ref p] ∧ (SqL K H p (List.map V.str ys) ∨ SqT K H p (List.map V.str ys)) ∧ (List.map (fun x => x.length) ys).sum + ys.length * a.length ≤ 16777216 ∧ R a ys := by
  refine ⟨B [], D, bs.map fun b => B [b], rfl, rfl, Or.inl ?_, ?_, q⟩
  · rw [List.map_map]
    exact sqL_of hD
  · rw [len_one, B_len]
    simp
    omega
theorem joined (bs : List Bool) : Txt.join (B []) (bs.map fun b => B [b]) = B bs := by
  have e : (bs.map fun b => B [b]) = (bs.map fun b => [b]).map B := by rw [List.map_map]; rfl
  rw [e, join_nil, flat_one]
end G1
namespace G1
open PySem PySem.Spec PyProof.Rows L2
theorem go_in {K : PySem.W.Frag} {H : Hp} {R : Bool → Prop} {p : Addr} {x : Int} {ys : List Int} {xs : List V} (hs : H p = some (.tup xs)) (e : xs = ys.map V.int) (q : ∀ b, R b) :
    ∃ p' zs, V.ref p = V.ref p' ∧ (SqL K H p' zs ∨ SqT K H p' zs) ∧ flatV (.int x) = true ∧ zs.all flatV = true ∧ R (inV (.int x) zs) := by
  refine ⟨p, xs, rfl, Or.inr (sqT_of hs), rfl, ?_, q _⟩
  subst e
  rw [List.all_eq_true]
  intro v hv
  obtain ⟨i, _, rfl⟩ := List.mem_map.mp hv
  rfl
theorem mul_le {a b n m : Nat} (h1 : a ≤ n) (h2 : b ≤ m) (h : n * m ≤ 1000000) : a * b ≤ 1000000 := Nat.le_trans (Nat.mul_le_mul h1 h2) h
end G1
/-! texts of any signs, as lists of codes -/
namespace G1
open PySem PySem.Spec PyProof.Rows L2
def C (l : List Nat) : Str := SX.S l
theorem C_inj {l m : List Nat} (h : C l = C m) : l = m := SX.S_inj h
theorem C_dec (l m : List Nat) : decide (V.str (C l) = V.str (C m)) = decide (l = m) := by
  by_cases h : l = m
  · rw [h, decide_eq_true rfl, decide_eq_true rfl]
  · rw [decide_eq_false h, decide_eq_false fun e => h (C_inj (V.str.inj e))]
theorem C_len (l : List Nat) : (C l).length = l.length := SX.S_len l
theorem C_cps (l : List Nat) : (C l).cps.toList = l := rfl
theorem C_app (l m : List Nat) : C l ++ C m = C (l ++ m) := SX.S_cat l m
theorem C_one (c : Nat) : (⟨#[c]⟩ : Str) = C [c] := rfl
theorem C_cut (l : List Nat) (lo hi : Option Int) : cutS (C l) lo hi = C ((l.drop (HT.sIx l.length 0 lo)).take (HT.sIx l.length l.length hi - HT.sIx l.length 0 lo)) := by
  unfold cutS C
  rw [SX.S_len]
theorem C_to (l : List Nat) {j : Int} (h : 0 ≤ j) : cutS (C l) none (some j) = C (l.take j.toNat) := by
  rw [C_cut, sIx_of _ _ h]
  show C ((l.drop 0).take (min j.toNat l.length - 0)) = _
  rw [List.drop_zero, Nat.sub_zero, ← List.take_eq_take_min]
theorem C_from (l : List Nat) {i : Int} (h : 0 ≤ i) : cutS (C l) (some i) none = C (l.drop i.toNat) := by
  rw [C_cut, sIx_of _ _ h]
  show C ((l.drop (min i.toNat l.length)).take (l.length - min i.toNat l.length)) = _
  rw [List.take_of_length_le (by rw [List.length_drop]; omega)]
  by_cases hi : i.toNat ≤ l.length
  · rw [Nat.min_eq_left hi]
  · rw [Nat.min_eq_right (by omega), List.drop_length, List.drop_of_length_le (by omega)]
theorem C_mid (l : List Nat) {i j : Int} (h : 0 ≤ i) (hj : 0 ≤ j) : cutS (C l) (some i) (some j) = C ((l.take j.toNat).drop i.toNat) := by
  rw [C_cut, sIx_of _ _ h, sIx_of _ _ hj]
  congr 1
  apply List.ext_getElem?
  intro k
  rw [List.getElem?_take, List.getElem?_drop, List.getElem?_drop, List.getElem?_take]
  by_cases hi : i.toNat ≤ l.length
  · rw [Nat.min_eq_left hi]
    by_cases hj2 : j.toNat ≤ l.length
    · rw [Nat.min_eq_left hj2]
      by_cases h3 : k < j.toNat - i.toNat
      · rw [if_pos h3, if_pos (by omega)]
      · rw [if_neg h3, if_neg (by omega)]
    · rw [Nat.min_eq_right (by omega)]
      by_cases h3 : k < l.length - i.toNat
      · rw [if_pos h3, if_pos (by omega)]
      · rw [if_neg h3]
        split
        · exact (List.getElem?_eq_none (by omega)).symm
        · rfl
  · have hm : min i.toNat l.length = l.length := Nat.min_eq_right (Nat.le_of_lt (Nat.lt_of_not_le hi))
    rw [hm, List.getElem?_eq_none (by omega), List.getElem?_eq_none (by omega)]
    split <;> split <;> rfl
theorem C_at (l : List Nat) {i : Int} {k : Nat} {b : Nat} (hi : i = (k : Int)) (h : l[k]? = some b) : atI (C l).cps.toList i = some b := by
  subst hi
  exact atI_nat h
def repN (n : Nat) (l : List Nat) : List Nat := (List.replicate n l).flatten
theorem repN_zero (l : List Nat) : repN 0 l = [] := rfl
theorem repN_succ (n : Nat) (l : List Nat) : repN (n + 1) l = l ++ repN n l := by
  unfold repN
  rw [List.replicate_succ, List.flatten_cons]
theorem repN_length (n : Nat) (l : List Nat) : (repN n l).length = n * l.length := by
  induction n with
  | zero => rw [repN_zero, Nat.zero_mul]; rfl
  | succ n ih => rw [repN_succ, List.length_append, ih, Nat.succ_mul, Nat.add_comm]
theorem repN_get (n : Nat) (l : List Nat) (i : Nat) (h : i < n * l.length) : (repN n l)[i]? = l[i % l.length]? := by
  induction n generalizing i with
  | zero => rw [Nat.zero_mul] at h; omega
  | succ n ih =>
    rw [repN_succ]
    by_cases hi : i < l.length
    · rw [List.getElem?_append_left hi, Nat.mod_eq_of_lt hi]
    · have h1 : l.length ≤ i := by omega
      rw [List.getElem?_append_right h1, ih (i - l.length) (by rw [Nat.succ_mul] at h; omega), ← Nat.mod_eq_sub_mod h1]
theorem C_mul (l : List Nat) {n : Int} (h : 0 ≤ n) : Txt.mul (C l) n = C (repN n.toNat l) := by
  unfold Txt.mul
  by_cases h1 : n < 1
  · rw [if_pos h1, show n.toNat = 0 by omega, repN_zero]
    rfl
  · rw [if_neg h1]
    by_cases h2 : (n == 1 || (C l).length == 0) = true
    · rw [if_pos h2]
      rw [Bool.or_eq_true, beq_iff_eq, beq_iff_eq, C_len] at h2
      rcases h2 with h2 | h2
      · subst h2
        show C l = C (repN 1 l)
        rw [repN_succ, repN_zero, List.append_nil]
      · rw [List.length_eq_zero_iff] at h2
        subst h2
        congr 1
        have := repN_length n.toNat []
        rw [List.length_nil, Nat.mul_zero, List.length_eq_zero_iff] at this
        exact this.symm
    · rw [if_neg h2]
      unfold C repN
      refine TL.ext_tl ?_
      show (List.foldl (· ++ ·) #[] (List.replicate n.toNat (SX.S l).cps)).toList = _
      rw [foldl_app]
      simp [TL.tl]
theorem joinC (ls : List (List Nat)) : Txt.join (B []) (ls.map C) = C ls.flatten := by
  show Txt.join (SX.S []) (ls.map SX.S) = _
  rw [SX.join_S]
  unfold C
  congr 1
  have key : ∀ ms : List (List Nat), TL.joinL [] ms = ms.flatten := by
    intro ms
    induction ms with
    | nil => rfl
    | cons m ms ih =>
      cases ms with
      | nil => simp [TL.joinL]
      | cons k ks =>
        rw [List.flatten_cons, ← ih]
        simp [TL.joinL]
  exact key _
theorem C_dig (i : Nat) (h : i < 10) : (Str.ofString (toString (i : Int))) = C [48 + i] := by
  have : i = 0 ∨ i = 1 ∨ i = 2 ∨ i = 3 ∨ i = 4 ∨ i = 5 ∨ i = 6 ∨ i = 7 ∨ i = 8 ∨ i = 9 := by omega
  rcases this with rfl | rfl | rfl | rfl | rfl | rfl | rfl | rfl | rfl | rfl <;> decide +kernel
/-- join of single signs -/
theorem go_joinC {K : PySem.W.Frag} {H : Hp} {R : Str → List Str → Prop} {D : Addr} {bs : List Nat} (hD : H D = some (.lst (bs.map fun b => V.str (C [b])))) (hl : bs.length ≤ 1000000) (q : R (B []) (bs.map fun b => C [b])) :
    ∃ a p ys, V.str (B []) = V.str a ∧ [V.ref D] = [V.ref p] ∧ (SqL K H p (List.map V.str ys) ∨ SqT K H p (List.map V.str ys)) ∧ (List.map (fun x => x.length) ys).sum + ys.length * a.length ≤ 16777216 ∧ R a ys := by
  have ln : ∀ bs : List Nat, ((bs.map fun b => C [b]).map (·.length)).sum = bs.length := by
    intro bs
    induction bs with
    | nil => rfl
    | cons b bs ih =>
      rw [List.map_cons, List.map_cons, List.sum_cons, ih, C_len, List.length_cons, List.length_cons, List.length_nil]
      omega
  refine ⟨B [], D, bs.map fun b => C [b], rfl, rfl, Or.inl ?_, ?_, q⟩
  · rw [List.map_map]
    exact sqL_of hD
  · rw [ln, B_len]
    simp
    omega
theorem joinedC (bs : List Nat) : Txt.join (B []) (bs.map fun b => C [b]) = C bs := by
  have e : (bs.map fun b => C [b]) = (bs.map fun b => [b]).map C := by rw [List.map_map]; rfl
  rw [e, joinC]
  congr 1
  induction bs with
  | nil => rfl
  | cons b bs ih => rw [List.map_cons, List.flatten_cons, ih (by rw [List.map_map]; rfl)]; rfl
theorem go_lenT {K : PySem.W.Frag} {H : Hp} {p : Addr} {xs : List V} {R : List V → Prop} (hs : H p = some (.tup xs)) (q : R xs) : ∃ p' ys, [V.ref p] = [V.ref p'] ∧ (SqL K H p' ys ∨ SqT K H p' ys) ∧ R ys :=
  ⟨p, xs, rfl, Or.inr (sqT_of hs), q⟩
section
variable {l m : List Nat}
theorem goC_sl {R : Str → Prop} (h : l.length ≤ 1000000) (q : R (C l)) : ∃ z, V.str (C l) = V.str z ∧ z.length ≤ sizeLine ∧ R z :=
  ⟨C l, rfl, by rw [C_len]; exact szM h, q⟩
theorem goC_mulS {R : Str → Int → Prop} {n : Int} (h : 0 ≤ n ∧ n < 2 ^ 30) (h2 : l.length * n.toNat ≤ 1000000) (q : R (C l) n) :
    ∃ z k, V.str (C l) = V.str z ∧ V.int n = V.int k ∧ 0 ≤ k ∧ k < 2 ^ 30 ∧ z.length * k.toNat ≤ 1000000 ∧ R z k :=
  ⟨C l, n, rfl, rfl, h.1, h.2, by rw [C_len]; exact h2, q⟩
theorem goC_ixS {R : Nat → Prop} {i : Int} {k : Nat} {b : Nat} (hi : i = (k : Int)) (h : l.length ≤ 1000000) (hk : l[k]? = some b) (q : R b) :
    ∃ z i' c, V.str (C l) = V.str z ∧ V.int i = V.int i' ∧ z.length ≤ sizeLine ∧ atI z.cps.toList i' = some c ∧ R c :=
  ⟨C l, i, _, rfl, rfl, by rw [C_len]; exact szM h, C_at l hi hk, q⟩
end
end G1
/-! for i, c in enumerate(text) -/
namespace G1
open PySem PySem.Spec PyProof.Rows L2
/-- the signs of x, each in a new pair with its place -/
def Ites (x : Str) : It :=
  ⟨fun i _ => i < x.cps.size, fun i H v H' => ∃ T c, v = .ref T ∧ H T = none ∧ x.cps[i]? = some c ∧ H' = upd H T (.tup [.int (i : Nat), .str ⟨#[c]⟩]), fun i _ => i = x.cps.size⟩
theorem turn_enumS {P : Program} {w : World} {K : PySem.W.Frag} {elts : List Expr} {kk : Nat} {tpos : Pos} (x : Str) (t : Tok) (e it : Addr) (hne : e ≠ it) :
    Turn P w K (.Tuple elts kk tpos) (Ites x) [e, it] e (fun i h => (∃ old, IsEnum h e it (0 + (i : Int)) old) ∧ h.IsStrIter it (strIterType x) x t i) where
  mem := by simp
  obj := fun i h st b hb => by
    obtain ⟨⟨old, he⟩, ⟨o, ho, hc, hd⟩⟩ := st
    rcases (by simpa using hb : b = e ∨ b = it) with rfl | rfl
    · exact ⟨_, he, fun v z => nomatch z⟩
    · refine ⟨o, ho, fun v z => ?_⟩
      rw [hd] at z
      cases z
  keep := fun i h h' st k => by
    obtain ⟨⟨old, he⟩, o, ho, r⟩ := st
    exact ⟨⟨old, k e (by simp) _ he⟩, o, k it (by simp) o ho, r⟩
  item := by
    intro X hX hW hKK calm i pins s σ H E I away st hg
    subst hX hW hKK
    have D := Draws.text (prog := X.prog) (w := X.w) (A := X.A.in1) (I.ok.hd calm) it x t
    have W := GoesN.enumFrom (elts := elts) (x1 := kk) (pos := tpos) 0 D e hne (by simpa using hne) (by simp)
    refine W.goes i s _ E hg st fun v h' tk hY st' hk htk => ?_
    obtain ⟨T, t', y, ev, hT, ⟨c, u, hcx, ey⟩, hO⟩ := hY
    subst ev ey
    obtain ⟨o, ho, hoc, n, hod⟩ := hO
    have new : ObjOk X.prog X.w (upd H T (.tup [.int (i : Nat), .str ⟨#[c]⟩])) h' T (.tup [.int (i : Nat), .str ⟨#[c]⟩]) :=
      ⟨by show 2 ≤ sizeLine; decide, [.int (0 + (i : Int)) t', .str ⟨#[c]⟩ u], .cons ⟨t', by rw [Int.zero_add]⟩ (.cons ⟨u, rfl⟩ .nil), ⟨o, ho, hoc, n, hod⟩⟩
    have I1 : Inv X pins σ (upd H T (.tup [.int (i : Nat), .str ⟨#[c]⟩])) { s with heap := h', toks := tk } :=
      I.turnedNew (ch := [e, it]) hk away hT new
    refine ⟨.ref T, _, I1, rfl, ⟨T, c, rfl, I.hok.fresh hT, hcx, rfl⟩, st', fun b hb => ?_⟩
    have hb' : b < s.heap.objs.size := by
      obtain ⟨⟨old, he⟩, o2, ho2, _⟩ := st
      rcases (by simpa using hb : b = e ∨ b = it) with rfl | rfl
      · exact Heap.lt_size he
      · exact Heap.lt_size ho2
    rw [upd_ne (Nat.ne_of_lt (Nat.lt_of_lt_of_le hb' hT))]
    exact (away b hb).1
  done := by
    intro X hX hW hKK calm i pins s σ H E I away st hg
    subst hX hW hKK
    replace hg : i = x.cps.size := hg
    subst hg
    have D := Draws.text (prog := X.prog) (w := X.w) (A := X.A.in1) (I.ok.hd calm) it x t
    have W := GoesN.enumFrom (elts := elts) (x1 := kk) (pos := tpos) 0 D e hne (by simpa using hne) (by simp)
    refine W.stops s _ E st fun h' tk hk htk => ?_
    exact I.turnedL (t' := tk) (ch := [e, it]) hk away
  self := fun A i s Q E st q => wpAny_pyIter_enum st.1.choose_spec q
def iEnumS (ta : TA) : TI := fun σ H R => ta σ H fun vs H1 => ∃ x, vs = [.str x] ∧ R (Ites x) H1
theorem pi_enumS {X : Cx} {e : Expr} {ta : TA} {p pos tpos : Pos} {elts : List Expr} {kk : Nat} (hg : Gl X "enumerate") (hm : X.mg "enumerate" = none) (ha : PA X [e] ta) (hs : starEach [e] X.env = [(false, eval e X.env)] := by rfl) :
    PI X (.Tuple elts kk tpos) (.Call (.Name "enumerate" p) [e] [] pos) (iEnumS ta) := by
  refine ⟨fun pn s σ H R Iv told => Call_ (ld_blt Iv hg hm boot_enumerate (PyProof.Rows.callWith_type1 (thn (ha.run pos pn s σ H _ Iv told) ?_) hs rfl))⟩
  rintro us s1 ⟨vs, H1, I1, r1, x, rfl, q⟩
  cases r1 with
  | cons r rr =>
    cases rr
    obtain ⟨t, rfl⟩ := r
    refine call_enumerate_str fun h' he hit hsz hk => wpAny_pyIter_enum he ?_
    refine ⟨s1.heap.objs.size + 1, [s1.heap.objs.size + 1, s1.heap.objs.size], _, _, H1, rfl, I1.kept (t' := s1.toks) hk, turn_enumS x t (s1.heap.objs.size + 1) s1.heap.objs.size (Nat.succ_ne_self _), ⟨⟨.none, he⟩, hit⟩, fun b hb => ?_, q⟩
    have up : s1.heap.objs.size ≤ b := by
      rcases (by simpa using hb : b = s1.heap.objs.size + 1 ∨ b = s1.heap.objs.size) with rfl | rfl
      · exact Nat.le_succ _
      · exact Nat.le_refl _
    exact I1.fpOk up (I1.hok.fresh up)
theorem lc_enumS {x : Str} {g : TG} {tt : TT} {te : TE} {vs : List Nat} {σ : L2.St} {H1 : Hp} {D : Addr} {Qd : Hp → Prop} (Pv : Nat → Hp → Prop) (h0 : Pv 0 (upd H1 D (.lst [])))
    (hs : ∀ i c T H, x.cps[i]? = some c → Pv i H → H T = none → g (.ref T) (wipe σ vs) (upd H T (.tup [.int (i : Nat), .str ⟨#[c]⟩])) fun σ2 H2 => wipe σ2 vs = wipe σ vs ∧ tt σ2 H2 fun b H3 =>
      if b = true then te σ2 H3 fun y H4 => ∃ acc, H4 D = some (.lst acc) ∧ acc.length < sizeLine ∧ Pv (i + 1) (upd H4 D (.lst (acc ++ [y]))) else Pv (i + 1) H3) (hd : ∀ H, Pv x.cps.size H → Qd H) :
    ∃ W : Nat → Nat → Hp → Prop, (∃ m, W 0 m (upd H1 D (.lst []))) ∧ ∀ i m H, W i m H →
      ((Ites x).stop i H ∧ Qd H) ∨ ((Ites x).go i H ∧ ∃ Nx : Hp → Prop, (∀ H', Nx H' → ∃ m', m' < m ∧ W (i + 1) m' H') ∧ ∀ v H', (Ites x).yld i H v H' → g v (wipe σ vs) H' fun σ2 H2 => wipe σ2 vs = wipe σ vs ∧ tt σ2 H2 fun b H3 =>
        if b = true then te σ2 H3 fun y H4 => ∃ acc, H4 D = some (.lst acc) ∧ acc.length < sizeLine ∧ Nx (upd H4 D (.lst (acc ++ [y]))) else Nx H3) := by
  refine ⟨fun i m H => m = x.cps.size - i ∧ i ≤ x.cps.size ∧ Pv i H, ⟨x.cps.size, by simp, Nat.zero_le _, h0⟩, ?_⟩
  rintro i m H ⟨rfl, hi, p⟩
  by_cases hlt : i < x.cps.size
  · refine .inr ⟨hlt, Pv (i + 1), fun H' p' => ⟨x.cps.size - (i + 1), by omega, rfl, hlt, p'⟩, fun v H' y => ?_⟩
    obtain ⟨T, c, rfl, hT, hc, rfl⟩ := y
    exact hs i c T H hc p hT
  · have e : i = x.cps.size := by omega
    subst e
    exact .inl ⟨rfl, hd H p⟩
theorem for_enumS {x : Str} {g : TG} {tb : TS} {D : Ends} {σ : L2.St} {H : Hp} (Pv : Nat → L2.St → Hp → Prop) (h0 : Pv 0 σ H)
    (hs : ∀ i c T σ H, x.cps[i]? = some c → Pv i σ H → H T = none → g (.ref T) σ (upd H T (.tup [.int (i : Nat), .str ⟨#[c]⟩])) fun σ2 H2 => tb { D with nx := Pv (i + 1), ct := Pv (i + 1), bk := D.nx } σ2 H2) (hd : ∀ σ H, Pv x.cps.size σ H → D.nx σ H) :
    ∃ W : Nat → Nat → L2.St → Hp → Prop, (∃ m, W 0 m σ H) ∧ ∀ i m σ H, W i m σ H →
      ((Ites x).stop i H ∧ D.nx σ H) ∨ ((Ites x).go i H ∧ ∃ N : L2.St → Hp → Prop, (∀ σ' H', N σ' H' → ∃ m', m' < m ∧ W (i + 1) m' σ' H') ∧ ∀ v H', (Ites x).yld i H v H' → g v σ H' fun σ2 H2 => tb { D with nx := N, ct := N, bk := D.nx } σ2 H2) := by
  refine ⟨fun i m σ H => m = x.cps.size - i ∧ i ≤ x.cps.size ∧ Pv i σ H, ⟨x.cps.size, by simp, Nat.zero_le _, h0⟩, ?_⟩
  rintro i m σ H ⟨rfl, hi, p⟩
  by_cases hlt : i < x.cps.size
  · refine .inr ⟨hlt, Pv (i + 1), fun σ' H' p' => ⟨x.cps.size - (i + 1), by omega, rfl, hlt, p'⟩, fun v H' y => ?_⟩
    obtain ⟨T, c, rfl, hT, hc, rfl⟩ := y
    exact hs i c T σ H hc p hT
  · have e : i = x.cps.size := by omega
    subst e
    exact .inl ⟨rfl, hd σ H p⟩
end G1
/-! for i, x in enumerate(tuple) -/
namespace G1
open PySem PySem.Spec PyProof.Rows L2
def enumObj (n : Addr) : Obj := { cls := .type "enumerate", data := .fields #[.none, .bool false, .ref n, rawInt 0, .none, .none] }
/-- enumerate(v) of what has an iterator -/
theorem meets_en {v : Value} {o : Obj} {Hh : Heap → Prop} (B : Begins v o Hh) : Meets (Builtin.«enumerate.__new__» ⟨[.type "enumerate", v], []⟩) (fun _ R s => Hh s.heap ∧
    R (.ok (.ret (.ref (s.heap.push o).objs.size))) { s with heap := (s.heap.push o).push (enumObj s.heap.objs.size) }) := by
  refine .of_wp fun pr ww AA RR s hyp => ?_
  obtain ⟨hp, gg, dd, tt, ss⟩ := s
  obtain ⟨h1, hyp⟩ := hyp
  have hsub := sub_enumerate
  have it : ∀ {A' : Around} {E' : Value → Shared → Prop} {Q' : Value → Shared → Prop}, Q' (.ref hp.objs.size) ⟨hp.push o, gg, dd, tt, ss⟩ → wpAny (model pr ww) A' (pyIter v) Q' E' ⟨hp, gg, dd, tt, ss⟩ := fun z => B.iter pr ww _ _ ⟨hp, gg, dd, tt, ss⟩ _ h1 z
  wp_walk using it
  refine wpAny_stack_any fun _ => wpAny_pure ?_
  split
  · rename_i cc _ _ _ _ _
    cases (cc == Value.type "enumerate") <;> (wp_walk using it; exact ⟨_, rfl, hyp⟩)
  · (wp_walk using it; exact ⟨_, rfl, hyp⟩)
theorem call_en {P : Program} {w : World} {A : Around} {E : Value → Shared → Prop} {s : Shared} {v : Value} {o : Obj} {Hh : Heap → Prop} {Q : Value → Shared → Prop} (B : Begins v o Hh) (h1 : Hh s.heap)
    (h : ∀ h', IsEnum h' (s.heap.objs.size + 1) s.heap.objs.size 0 .none → h'.get? s.heap.objs.size = some o → (∀ b x, s.heap.get? b = some x → h'.get? b = some x) → Q (.ref (s.heap.objs.size + 1)) { s with heap := h' }) :
    wpAny (model P w) A (call (.type "enumerate") [v]) Q E s := by
  refine callType_new F.called_enumerate (by decide) (F.typeCall_enumerate_1 _) (F.newCall_enumerate_1 _) (fun z => F.args_object_init_2 z _) F.entry_enumerate_new (meets_en B) ⟨h1, ?_⟩
  have z1 : (s.heap.push o).objs.size = s.heap.objs.size + 1 := Heap.size_push ..
  have e1 := Heap.get?_push_size (s.heap.push o) (o := enumObj s.heap.objs.size) rfl
  show _ ∧ _
  rw [z1]
  rw [z1] at e1
  exact ⟨⟨_, e1, rfl⟩, h _ e1 (Heap.get?_push_of_some _ (Heap.get?_push_size _ B.free)) fun b x z => Heap.get?_push_of_some _ (Heap.get?_push_of_some _ z)⟩
/-- the items of the tuple at a, each in a new pair with its place -/
def Iten (K : PySem.W.Frag) (a : Addr) : It :=
  ⟨fun i H => ∃ (xs : List V) (x : V), SqT K H a xs ∧ xs[i]? = some x, fun i H v H' => ∃ T x, v = .ref T ∧ H T = none ∧ H' = upd H T (.tup [.int (i : Nat), x]) ∧ ∀ xs, SqT K H a xs → xs[i]? = some x, fun i H => ∃ xs : List V, SqT K H a xs ∧ xs.length = i⟩
theorem turn_en {P : Program} {w : World} {K : PySem.W.Frag} {elts : List Expr} {kk : Nat} {tpos : Pos} (a e it : Addr) :
    Turn P w K (.Tuple elts kk tpos) (Iten K a) [e, it] e (fun i h => (∃ old, IsEnum h e it (0 + (i : Int)) old) ∧ h.IsTupleIter it a i ∧ e ≠ it ∧ e ≠ a ∧ a ≠ it) where
  mem := by simp
  obj := fun i h st b hb => by
    obtain ⟨⟨old, he⟩, ⟨o, ho, hc, hd⟩, _⟩ := st
    rcases (by simpa using hb : b = e ∨ b = it) with rfl | rfl
    · exact ⟨_, he, fun v z => nomatch z⟩
    · refine ⟨o, ho, fun v z => ?_⟩
      rw [hd] at z
      cases z
  keep := fun i h h' st k => by
    obtain ⟨⟨old, he⟩, hi, r⟩ := st
    exact ⟨⟨old, k e (by simp) _ he⟩, hi.at fun o q => k it (by simp) o q, r⟩
  item := by
    intro X hX hW hKK calm i pins s σ H E I away st hg
    subst hX hW hKK
    obtain ⟨he, hit, n1, n2, n3⟩ := st
    obtain ⟨xs, x, hq, hx⟩ := hg
    obtain ⟨its, rv, p, _⟩ := I.tuple hq
    obtain ⟨u, hu, ru⟩ := rv.get hx
    have D := Draws.tuple (prog := X.prog) (w := X.w) (A := X.A.in1) (I.ok.hd calm) it a n3 its.toArray
    have W := GoesN.enumFrom (elts := elts) (x1 := kk) (pos := tpos) 0 D e n1 (by simp [n1, n2]) (by simp)
    have il : i < its.toArray.size := by
      have := (List.getElem?_eq_some_iff.mp hu).1
      simpa using this
    refine W.goes i s _ E il ⟨he, hit, p⟩ fun v h' tk hY st' hk htk => ?_
    obtain ⟨T, t', y, ev, hT, hy, hO⟩ := hY
    have ey : y = u := by
      rw [List.getElem?_toArray, hu] at hy
      exact (Option.some.inj hy).symm
    subst ev ey
    obtain ⟨o, ho, hoc, n, hod⟩ := hO
    have new : ObjOk X.prog X.w (upd H T (.tup [.int (i : Nat), x])) h' T (.tup [.int (i : Nat), x]) :=
      ⟨by show 2 ≤ sizeLine; decide, [.int (0 + (i : Int)) t', y], .cons ⟨t', by rw [Int.zero_add]⟩ (.cons ru .nil), ⟨o, ho, hoc, n, hod⟩⟩
    have I1 : Inv X pins σ (upd H T (.tup [.int (i : Nat), x])) { s with heap := h', toks := tk } := I.turnedNew (ch := [e, it]) hk away hT new
    refine ⟨.ref T, _, I1, rfl, ⟨T, x, rfl, I.hok.fresh hT, rfl, fun ys hy => by rw [I.tuple_inj hy hq]; exact hx⟩, ⟨st'.1, st'.2.1, n1, n2, n3⟩, fun b hb => ?_⟩
    have hb' : b < s.heap.objs.size := by
      obtain ⟨old, he⟩ := he
      obtain ⟨o2, ho2, _⟩ := hit
      rcases (by simpa using hb : b = e ∨ b = it) with rfl | rfl
      · exact Heap.lt_size he
      · exact Heap.lt_size ho2
    rw [upd_ne (Nat.ne_of_lt (Nat.lt_of_lt_of_le hb' hT))]
    exact (away b hb).1
  done := by
    intro X hX hW hKK calm i pins s σ H E I away st hg
    subst hX hW hKK
    obtain ⟨he, hit, n1, n2, n3⟩ := st
    obtain ⟨xs, hq, hl⟩ := hg
    obtain ⟨its, rv, p, _⟩ := I.tuple hq
    have l2 := rv.length
    have D := Draws.tuple (prog := X.prog) (w := X.w) (A := X.A.in1) (I.ok.hd calm) it a n3 its.toArray
    have W := GoesN.enumFrom (elts := elts) (x1 := kk) (pos := tpos) 0 D e n1 (by simp [n1, n2]) (by simp)
    have ei : i = its.toArray.size := by
      rw [List.size_toArray]
      omega
    rw [ei] at he hit
    refine W.stops s _ E ⟨he, hit, p⟩ fun h' tk hk htk => ?_
    exact I.turnedL (t' := tk) (ch := [e, it]) hk away
  self := fun A i s Q E st q => wpAny_pyIter_enum st.1.choose_spec q
def iEnumT (K : PySem.W.Frag) (ta : TA) : TI := fun σ H R => ta σ H fun vs H1 => ∃ a xs, vs = [.ref a] ∧ SqT K H1 a xs ∧ R (Iten K a) H1
theorem pi_enumT {X : Cx} {e : Expr} {ta : TA} {p pos tpos : Pos} {elts : List Expr} {kk : Nat} (hg : Gl X "enumerate") (hm : X.mg "enumerate" = none) (ha : PA X [e] ta) (hs : starEach [e] X.env = [(false, eval e X.env)] := by rfl) :
    PI X (.Tuple elts kk tpos) (.Call (.Name "enumerate" p) [e] [] pos) (iEnumT X.K ta) := by
  refine ⟨fun pn s σ H R Iv told => Call_ (ld_blt Iv hg hm boot_enumerate (PyProof.Rows.callWith_type1 (thn (ha.run pos pn s σ H _ Iv told) ?_) hs rfl))⟩
  rintro us s1 ⟨vs, H1, I1, r1, a, xs, rfl, hq, q⟩
  cases r1 with
  | cons r rr =>
    cases rr
    cases r
    obtain ⟨its, rv, p', _⟩ := I1.tuple hq
    have la : a < s1.heap.objs.size := by
      obtain ⟨o, ho, _⟩ := p'
      exact Heap.lt_size ho
    refine call_en (begins_tuple a its.toArray) p' fun h' he hit hk => wpAny_pyIter_enum he ?_
    refine ⟨s1.heap.objs.size + 1, [s1.heap.objs.size + 1, s1.heap.objs.size], _, _, H1, rfl, I1.kept (t' := s1.toks) hk, turn_en a (s1.heap.objs.size + 1) s1.heap.objs.size, ⟨⟨.none, he⟩, ⟨_, hit, rfl, rfl⟩, Nat.succ_ne_self _, ?_, ?_⟩, fun b hb => ?_, q⟩
    · exact fun z => absurd la (by rw [← z]; exact Nat.not_lt.mpr (Nat.le_succ _))
    · exact Nat.ne_of_lt la
    · have up : s1.heap.objs.size ≤ b := by
        rcases (by simpa using hb : b = s1.heap.objs.size + 1 ∨ b = s1.heap.objs.size) with rfl | rfl
        · exact Nat.le_succ _
        · exact Nat.le_refl _
      exact I1.fpOk up (I1.hok.fresh up)
theorem lc_enumT {K : PySem.W.Frag} {a : Addr} {xs : List V} {g : TG} {tt : TT} {te : TE} {vs : List Nat} {σ : L2.St} {H1 : Hp} {D : Addr} {Qd : Hp → Prop} (Pv : Nat → Hp → Prop) (h0 : Pv 0 (upd H1 D (.lst [])))
    (hq : ∀ i H, Pv i H → SqT K H a xs)
    (hs : ∀ i x T H, xs[i]? = some x → Pv i H → H T = none → g (.ref T) (wipe σ vs) (upd H T (.tup [.int (i : Nat), x])) fun σ2 H2 => wipe σ2 vs = wipe σ vs ∧ tt σ2 H2 fun b H3 =>
      if b = true then te σ2 H3 fun y H4 => ∃ acc, H4 D = some (.lst acc) ∧ acc.length < sizeLine ∧ Pv (i + 1) (upd H4 D (.lst (acc ++ [y]))) else Pv (i + 1) H3) (hd : ∀ H, Pv xs.length H → Qd H) :
    ∃ W : Nat → Nat → Hp → Prop, (∃ m, W 0 m (upd H1 D (.lst []))) ∧ ∀ i m H, W i m H →
      ((Iten K a).stop i H ∧ Qd H) ∨ ((Iten K a).go i H ∧ ∃ Nx : Hp → Prop, (∀ H', Nx H' → ∃ m', m' < m ∧ W (i + 1) m' H') ∧ ∀ v H', (Iten K a).yld i H v H' → g v (wipe σ vs) H' fun σ2 H2 => wipe σ2 vs = wipe σ vs ∧ tt σ2 H2 fun b H3 =>
        if b = true then te σ2 H3 fun y H4 => ∃ acc, H4 D = some (.lst acc) ∧ acc.length < sizeLine ∧ Nx (upd H4 D (.lst (acc ++ [y]))) else Nx H3) := by
  refine ⟨fun i m H => m = xs.length - i ∧ i ≤ xs.length ∧ Pv i H, ⟨xs.length, by simp, Nat.zero_le _, h0⟩, ?_⟩
  rintro i m H ⟨rfl, hi, p⟩
  have sq := hq i H p
  by_cases hlt : i < xs.length
  · refine .inr ⟨⟨xs, xs[i], sq, List.getElem?_eq_getElem hlt⟩, Pv (i + 1), fun H' p' => ⟨xs.length - (i + 1), by omega, rfl, hlt, p'⟩, fun v H' y => ?_⟩
    obtain ⟨T, x, rfl, hT, rfl, hx⟩ := y
    exact hs i x T H (hx xs sq) p hT
  · have e : i = xs.length := by omega
    subst e
    exact .inl ⟨⟨xs, sq, rfl⟩, hd H p⟩
end G1
/-! repr of None and of numbers -/
namespace G1
open PySem PySem.Spec PyProof.Rows L2
def shO0 : V → Str
  | .int i => Str.ofString (toString i)
  | _ => "None"
/-- the text of None or of a number -/
@[irreducible] def shO (v : V) : Str := shO0 v
/-- None, or a number that is not too great -/
def Leaf (v : V) : Prop := v = .non ∨ ∃ i : Int, v = .int i ∧ i.natAbs.log2 < 1920
theorem leaf_non : Leaf .non := .inl rfl
theorem leaf_int {i : Int} (h0 : 0 ≤ i) (h1 : i < 2 ^ 1000) : Leaf (.int i) := by
  refine .inr ⟨i, rfl, ?_⟩
  obtain ⟨n, rfl⟩ : ∃ n : Nat, i = (n : Int) := ⟨i.toNat, by omega⟩
  have hn : n < 2 ^ 1000 := by
    have e : ((2 : Int) ^ 1000) = ((2 ^ 1000 : Nat) : Int) := by norm_cast
    rw [e] at h1
    exact Int.ofNat_lt.mp h1
  by_cases z : n = 0
  · subst z
    decide
  · have : n.log2 < 1000 := (Nat.log2_lt z).mpr hn
    show n.log2 < 1920
    omega
section
variable {X : Cx}
theorem call_reprO : CallR X (.builtin "repr") (fun xs H Q => ∃ v : V, xs = [v] ∧ Leaf v ∧ Q (.str (shO v)) H) := by
  intro pn s σ H xs us Q I r told
  obtain ⟨v, rfl, lf, q⟩ := told
  obtain ⟨u, rfl, ru⟩ := vals1 r
  unfold shO at q
  rcases lf with rfl | ⟨i, rfl, hi⟩
  · obtain rfl : u = Value.none := ru
    exact PySem.P.repr_of_none ⟨.str _, H, I.tok _, ⟨_, rfl⟩, q⟩
  · obtain ⟨t, rfl⟩ := ru
    exact PySem.P.repr_of_int hi ⟨.str _, H, I.tok _, ⟨_, rfl⟩, q⟩
end
end G1
/-! repr of lists of numbers and None -/
namespace G1
open PySem PySem.Spec PyProof.Rows L2
/-- None, or a number below 10 ** 30 -/
def Num (d : PyData) : Prop := d = .none ∨ ∃ i : Int, d = .int i ∧ 0 ≤ i ∧ i < 10 ^ 30
theorem num_weight {d : PyData} (h : Num d) : d.weight ≤ 101 := by
  rcases h with rfl | ⟨i, rfl, h0, h1⟩
  · exact Nat.zero_le _
  · show (if i == 0 then 0 else i.natAbs.log2 + 1) ≤ 101
    split
    · omega
    · obtain ⟨n, rfl⟩ : ∃ n : Nat, i = (n : Int) := ⟨i.toNat, by omega⟩
      rename_i hz
      have z : n ≠ 0 := fun e => by rw [e] at hz; exact hz rfl
      have hn : n < 2 ^ 100 := by
        have e : (10 : Int) ^ 30 < ((2 ^ 100 : Nat) : Int) := by decide
        omega
      have : n.log2 < 100 := (Nat.log2_lt z).mpr hn
      show n.log2 + 1 ≤ 101
      omega
theorem num_short {d : PyData} (h : Num d) : d.leavesShort 40 = true := by
  rcases h with rfl | ⟨i, rfl, h0, h1⟩
  · rfl
  · show decide ((PyData.shown (.int i)).length ≤ 40) = true
    rw [decide_eq_true_eq]
    have e := PyProof.Rows.toString_length_le h0 (k := 30) (by decide) h1
    have e2 : (PyData.shown (.int i)).length = (Str.ofString (toString i)).length := rfl
    omega
theorem log_ok {i : Int} (h0 : 0 ≤ i) (h1 : i < 10 ^ 30) : i.natAbs.log2 < 1920 := by
  rcases leaf_int h0 (Int.lt_trans h1 (by decide)) with e | ⟨j, e, h⟩
  · cases e
  · obtain rfl := V.int.inj e
    exact h
theorem num_all : ∀ ds : List PyData, (∀ d ∈ ds, Num d) → PyData.showableAll ds = true ∧ PyData.hasDictAll ds = false ∧ PyData.depthAll ds ≤ 20 ∧ PyData.leavesShortAll 40 ds = true ∧ PyData.weightAll ds ≤ 102 * ds.length
  | [], _ => by simp [PyData.showableAll, PyData.hasDictAll, PyData.depthAll, PyData.leavesShortAll, PyData.weightAll]
  | d :: ds, h => by
    obtain ⟨h1, h2, h3, h4, h5⟩ := num_all ds fun e he => h e (List.mem_cons_of_mem _ he)
    have n := h d List.mem_cons_self
    have nw := num_weight n
    have ns := num_short n
    refine ⟨?_, ?_, ?_, ?_, ?_⟩
    · rcases n with rfl | ⟨i, rfl, i0, i1⟩
      · simp [PyData.showableAll, PyData.showable, h1]
      · simp [PyData.showableAll, PyData.showable, h1, log_ok i0 i1]
    · rcases n with rfl | ⟨i, rfl, _⟩ <;> simp [PyData.hasDictAll, PyData.hasDict, h2]
    · rcases n with rfl | ⟨i, rfl, _⟩ <;> (simp only [PyData.depthAll, PyData.depth]; omega)
    · simp [PyData.leavesShortAll, h4, ns]
    · simp only [PyData.weightAll, List.length_cons]
      omega
theorem repr_nums {K : PySem.W.Frag} {H : Hp} {R : PyData → Prop} {a : Addr} {xs : List V} (ds : List PyData) (e : H a = some (.lst xs)) (hd : DpAll K H xs ds) (hs : ∀ d ∈ ds, Num d) (hl : ds.length ≤ 40) (q : R (.list ds)) :
    ∃ (a' : Addr) (d' : PyData), [V.ref a] = [V.ref a'] ∧ Dp K H (.ref a') d' ∧ d'.showable = true ∧ d'.hasDict = false ∧ d'.depth ≤ 60 ∧ d'.shown.length ≤ sizeLine ∧ R d' := by
  obtain ⟨h1, h2, h3, h4, h5⟩ := num_all ds hs
  refine ⟨a, .list ds, rfl, .lst (.inl (.inl e)) hd, ?_, ?_, ?_, ?_, q⟩
  · simp only [PyData.showable]; exact h1
  · simp only [PyData.hasDict]; exact h2
  · simp only [PyData.depth]; omega
  · have s := PyData.shown_le 40 (by decide) (.list ds) (by simp only [PyData.leavesShort]; exact h4)
    simp only [PyData.weight] at s
    have : 102 * ds.length ≤ 102 * 40 := Nat.mul_le_mul_left _ hl
    exact Nat.le_trans s (Nat.le_trans (by omega : 42 * PyData.weightAll ds + 40 ≤ 200000) (by decide))
end G1
/-! draws from a dict: two lists, a sum and a count under a name of its own -/
namespace G1
open PySem PySem.Spec PyProof.Rows L2
/-- the dict's pairs -/
def dkv (m : Str) (g c : Addr) (W k : Int) : List (Key × V) := [(Sum.inr ("great" : Str), .ref g), (Sum.inr ("cells" : Str), .ref c), (Sum.inr ("whole" : Str), .int W), (Sum.inr m, .int k)]
/-- the deck at w, its great numbers at g -/
def DkAt (m : Str) (w g : Addr) (H : Hp) : Prop := ∃ (c : Addr) (gs cs : List Int) (W k : Int), w ≠ g ∧ c ≠ g ∧ c ≠ w ∧ H w = some (.dK (dkv m g c W k)) ∧
  H g = some (.lst (gs.map V.int)) ∧ H c = some (.lst (cs.map V.int)) ∧ 0 < cs.length ∧ gs.length ≤ 1000 ∧ cs.length ≤ 1000
section
variable {m : Str} {w g p : Addr} {H H' : Hp} {o : HO}
theorem DkAt.same (D : DkAt m w g H) (s : Same H H') : DkAt m w g H' := by
  obtain ⟨c, gs, cs, W, k, h1, h2, h3, h4, h5, h6, h7⟩ := D
  exact ⟨c, gs, cs, W, k, h1, h2, h3, s _ _ h4, s _ _ h5, s _ _ h6, h7⟩
theorem DkAt.fresh (D : DkAt m w g H) (h : H p = none) : p ≠ w ∧ p ≠ g := by
  obtain ⟨c, gs, cs, W, k, h1, h2, h3, h4, h5, h6, h7⟩ := D
  exact ⟨(ne_of_none h4 h).symm, (ne_of_none h5 h).symm⟩
theorem new_ofK (D : DkAt m w g H) (hp : H p = none) (e : upd H p o = H') : Same H H' ∧ DkAt m w g H' ∧ At w g H' p o := by
  subst e
  exact ⟨same_new hp, D.same (same_new hp), (D.fresh hp).1, (D.fresh hp).2, upd_same⟩
theorem DkAt.tup {a : Addr} {xs : List V} (D : DkAt m w g H) (h : H a = some (.tup xs)) : At w g H a (.tup xs) := by
  obtain ⟨c, gs, cs, W, k, h1, h2, h3, h4, h5, h6, h7⟩ := D
  exact ⟨ne_of h h4 (by intro z; cases z), ne_of h h5 (by intro z; cases z), h⟩
end
theorem dk_get {m : Str} {g c : Addr} {W k : Int} (hm : Sum.inr m ≠ (Sum.inr ("great" : Str) : Key) ∧ Sum.inr m ≠ (Sum.inr ("cells" : Str) : Key) ∧ Sum.inr m ≠ (Sum.inr ("whole" : Str) : Key)) :
    valV (dkv m g c W k) (Sum.inr ("great" : Str)) = some (.ref g) ∧ valV (dkv m g c W k) (Sum.inr ("cells" : Str)) = some (.ref c) ∧ valV (dkv m g c W k) (Sum.inr ("whole" : Str)) = some (.int W) ∧ valV (dkv m g c W k) (Sum.inr m) = some (.int k) := by
  have e1 : (Sum.inr ("great" : Str) : Key) ≠ Sum.inr ("cells" : Str) := by decide
  have e2 : (Sum.inr ("great" : Str) : Key) ≠ Sum.inr ("whole" : Str) := by decide
  have e3 : (Sum.inr ("cells" : Str) : Key) ≠ Sum.inr ("whole" : Str) := by decide
  refine ⟨?_, ?_, ?_, ?_⟩
  · simp [dkv, valV]
  · simp [dkv, valV, e1]
  · simp [dkv, valV, e2, e3]
  · simp [dkv, valV, hm.1.symm, hm.2.1.symm, hm.2.2.symm]
end G1
/-! draws from a dict, the list of cells named; objects apart from all of it -/
namespace G1
open PySem PySem.Spec PyProof.Rows L2
def DkC (m : Str) (w g c : Addr) (H : Hp) : Prop := ∃ (gs cs : List Int) (W k : Int), w ≠ g ∧ c ≠ g ∧ c ≠ w ∧ H w = some (.dK (dkv m g c W k)) ∧
  H g = some (.lst (gs.map V.int)) ∧ H c = some (.lst (cs.map V.int)) ∧ 0 < cs.length ∧ gs.length ≤ 1000 ∧ cs.length ≤ 1000
/-- o stands at a, apart from the deck -/
structure Ac (w g c : Addr) (H : Hp) (a : Addr) (o : HO) : Prop where
  nw : a ≠ w
  ng : a ≠ g
  nc : a ≠ c
  at_ : H a = some o
theorem Ac.go {w g c : Addr} {H H' : Hp} {a : Addr} {o : HO} (x : Ac w g c H a o) (s : Go w g H H') : Ac w g c H' a o := ⟨x.nw, x.ng, x.nc, s a o x.nw x.ng x.at_⟩
theorem Ac.same {w g c : Addr} {H H' : Hp} {a : Addr} {o : HO} (x : Ac w g c H a o) (s : Same H H') : Ac w g c H' a o := ⟨x.nw, x.ng, x.nc, s a o x.at_⟩
section
variable {m : Str} {w g c p : Addr} {H H' : Hp} {o : HO}
theorem DkC.same (D : DkC m w g c H) (s : Same H H') : DkC m w g c H' := by
  obtain ⟨gs, cs, W, k, h1, h2, h3, h4, h5, h6, h7⟩ := D
  exact ⟨gs, cs, W, k, h1, h2, h3, s _ _ h4, s _ _ h5, s _ _ h6, h7⟩
theorem DkC.fresh (D : DkC m w g c H) (h : H p = none) : p ≠ w ∧ p ≠ g ∧ p ≠ c := by
  obtain ⟨gs, cs, W, k, h1, h2, h3, h4, h5, h6, h7⟩ := D
  exact ⟨(ne_of_none h4 h).symm, (ne_of_none h5 h).symm, (ne_of_none h6 h).symm⟩
theorem new_ofC (D : DkC m w g c H) (hp : H p = none) (e : upd H p o = H') : Same H H' ∧ DkC m w g c H' ∧ Ac w g c H' p o := by
  subst e
  exact ⟨same_new hp, D.same (same_new hp), (D.fresh hp).1, (D.fresh hp).2.1, (D.fresh hp).2.2, upd_same⟩
theorem DkC.tup {a : Addr} {xs : List V} (D : DkC m w g c H) (h : H a = some (.tup xs)) : Ac w g c H a (.tup xs) := by
  obtain ⟨gs, cs, W, k, h1, h2, h3, h4, h5, h6, h7⟩ := D
  exact ⟨ne_of h h4 (by intro z; cases z), ne_of h h5 (by intro z; cases z), ne_of h h6 (by intro z; cases z), h⟩
/-- what stands apart is written -/
theorem DkC.upd {u : HO} (D : DkC m w g c H) (n1 : p ≠ w) (n2 : p ≠ g) (n3 : p ≠ c) : DkC m w g c (L2.upd H p u) := by
  obtain ⟨gs, cs, W, k, h1, h2, h3, h4, h5, h6, h7⟩ := D
  exact ⟨gs, cs, W, k, h1, h2, h3, (upd_ne n1.symm).trans h4, (upd_ne n2.symm).trans h5, (upd_ne n3.symm).trans h6, h7⟩
theorem Ac.upd {a : Addr} {u : HO} (x : Ac w g c H a o) (n : a ≠ p) : Ac w g c (L2.upd H p u) a o := ⟨x.nw, x.ng, x.nc, (upd_ne n).trans x.at_⟩
theorem Ac.set {u : HO} (x : Ac w g c H p o) : Ac w g c (L2.upd H p u) p u := ⟨x.nw, x.ng, x.nc, upd_same⟩
theorem go_upd' {D : Addr} {u : HO} {H1 : Hp} (S : Go w g H H1) (h : H D = none) : Go w g H (L2.upd H1 D u) := fun x v h1 h2 e => by
  rw [upd_ne (ne_of_none e h)]
  exact S x v h1 h2 e
end
end G1
/-! tuple[::-1] -/
namespace G1
open PySem PySem.Spec PyProof.Rows L2 HT
section
variable {prog : Program} {w : World} {A : Around} {E : Value → Shared → Prop} {s : Shared}
theorem adjust_rev (n : Nat) : Builtin.Slice.sliceAdjust none none (-1) (n : Int) = ((n : Int) - 1, -1) := by
  unfold Builtin.Slice.sliceAdjust
  simp
theorem places_rev (n : Nat) : Builtin.Slice.slicePlaces ((n : Int) - 1) (-1) (-1) = n := by
  unfold Builtin.Slice.slicePlaces
  have h1 : ¬ ((-1 : Int) > 0) := by omega
  simp only [h1, if_false]
  rw [show (- -1 : Int) = 1 by decide, Int.ediv_one]
  split <;> omega
theorem sliceApplied_rev {sl : Addr} {vs : Value} {n : Nat} {Q : Int × Int × Nat → Shared → Prop} (hs : s.heap.IsSliceOf sl .none .none vs) (ps : IsPart vs (some (-1)))
    (h : Q ((n : Int) - 1, -1, n) s) : wpAny (model prog w) A (Builtin.Slice.sliceApplied (.ref sl) (pure (n : Int))) Q E s := by
  obtain ⟨os, hos, hcs, hds⟩ := id hs
  unfold Builtin.Slice.sliceApplied Builtin.Slice.sliceFields
  refine wpAny_bind (wpAny_bind (wpAny_field hos hds (x := .none) rfl (wpAny_bind (wpAny_field hos hds (x := .none) rfl (wpAny_bind (wpAny_field hos hds (x := vs) rfl (wpAny_pure ?_)))))))
  refine wpAny_bind (slicePart_ ps ?_)
  show wpAny _ _ (if ((-1 : Int) == 0) = true then _ else _) _ _ s
  rw [if_neg (by decide)]
  refine wpAny_bind (slicePart_ .none (wpAny_bind (slicePart_ .none (wpAny_bind (wpAny_pure ?_)))))
  show wpAny _ _ (match Builtin.Slice.sliceAdjust none none (-1) (n : Int) with | (lo, hi) => pure (lo, (-1 : Int), Builtin.Slice.slicePlaces lo hi (-1))) _ _ s
  rw [adjust_rev n]
  show wpAny _ _ (pure ((n : Int) - 1, (-1 : Int), Builtin.Slice.slicePlaces ((n : Int) - 1) (-1) (-1))) _ _ s
  rw [places_rev]
  exact wpAny_pure h
theorem pick_rev (xs : Array Value) : ((List.range xs.size).filterMap fun (m : Nat) => xs[((xs.size : Int) - 1 + (m : Int) * -1).toNat]?).toArray = xs.toList.reverse.toArray := by
  have e : (fun (m : Nat) => xs[((xs.size : Int) - 1 + (m : Int) * -1).toNat]?) = (xs[·]?) ∘ fun m => xs.size - 1 - m := by
    funext m
    have : ((xs.size : Int) - 1 + (m : Int) * -1).toNat = xs.size - 1 - m := by omega
    rw [this]
    rfl
  rw [e, ← List.filterMap_map, PySem.W.krv_range, List.filterMap_reverse, PySem.W.krv_all]
theorem getItem_tuple_rev {t sl : Addr} {items : Array Value} {vs : Value} {Q : Value → Shared → Prop} (ht : IsTup s.heap t items) (hs : s.heap.IsSliceOf sl .none .none vs) (ps : IsPart vs (some (-1)))
    (h : Q (.ref s.heap.objs.size) { s with heap := s.heap.push { cls := .type "tuple", data := .seq items.toList.reverse.toArray } })
    (hsz : items.size ≤ sizeLine) : wpAny (model prog w) A (getItem (.ref t) (.ref sl)) Q E s := by
  have htake : sizeOk (.seq items.toList.reverse.toArray) := by
    show items.toList.reverse.toArray.size ≤ sizeLine
    rw [List.size_toArray, List.length_reverse, Array.length_toList]
    exact hsz
  obtain ⟨os, hos, hcs, hds⟩ := id hs
  have hTs : s.TypeIs (.ref sl) "slice" := ⟨os, hos, hcs⟩
  unfold getItem
  try with_reducible refine wpAny_holding ?_
  first | refine wpAny_bind (wpAny_pure ?_) | skip
  refine wpAny_bind (wpAny_sequenceKey ht.typeIs (by decide) ?_)
  refine wpAny_bind (wpAny_callSpecial?_slot (name := Str.ofString "__getitem__") ht.typeIs PyProof.Rows.slot_tuple_getitem
    (wpAny_call_entry PyProof.Rows.slot_tuple_getitem ht.typeIs entry_tuple_getitem ?_ (args_tuple_getitem _ _)))
  show wpAny _ _ (Builtin.Tuple.tupleItemsOf (.ref t) >>= _) _ _ s
  refine wpAny_bind (tupleItemsOf_ ht ?_)
  refine wpAny_bind (wpAny_typeOf hTs ?_)
  rw [if_pos (by decide)]
  refine wpAny_bind (sliceApplied_rev hs ps ?_)
  have hno : ¬ ((((items.size : Int) - 1) == 0 && (-1 : Int) == 1 && items.size == items.size) = true) := by
    intro q
    rw [Bool.and_eq_true, Bool.and_eq_true] at q
    exact absurd q.1.2 (by decide)
  show wpAny _ _ (if (((items.size : Int) - 1) == 0 && (-1 : Int) == 1 && items.size == items.size) = true then _ else _) _ _ s
  rw [if_neg hno, pick_rev]
  first
    | exact wpAny_bind (m := Builtin.Tuple.tupleExact _) (wpAny_newObj_type (wpAny_pure ⟨_, rfl, wpAny_pure h⟩) htake)
    | exact wpAny_bind (m := Builtin.Tuple.tupleExact _) (wpAny_newObj_type (wpAny_bind (wpAny_pure (wpAny_pure ⟨_, rfl, wpAny_pure h⟩))) htake)
    | exact wpAny_bind (wpAny_bind (m := Builtin.Tuple.tupleExact _) (wpAny_newObj_type (wpAny_pure (wpAny_pure ⟨_, rfl, wpAny_pure h⟩)) htake))
    | exact wpAny_bind (wpAny_bind (m := Builtin.Tuple.tupleExact _) (wpAny_newObj_type (wpAny_pure ⟨_, rfl, wpAny_pure h⟩) htake))
end
section
variable {X : Cx}
def tRevT (K : PySem.W.Frag) (te : TE) : TE := fun σ H Q => te σ H fun x H1 => ∃ a xs, x = .ref a ∧ SqT K H1 a xs ∧ ∀ p, H1 p = none → Q (.ref p) (upd H1 p (.tup xs.reverse))
theorem pe_revT {e : Expr} {te : TE} {k : Nat} {p1 p2 p3 pos : Pos} (he : PE X e te) : PE X (.Subscript e (.Slice none none (some (.UnaryOp .USub (.Constant (.int 1) k p1) p2)) p3) pos) (tRevT X.K te) := by
  refine ⟨fun pins s σ H Q I h => ?_⟩
  refine Subscript_ (thn (he.run pins s σ H _ I h) fun v s1 ⟨x, H1, I1, r1, q1⟩ => ?_)
  obtain ⟨a, xs, ex, hx, q⟩ := q1
  subst ex
  cases r1
  have hst : PO X (some (.UnaryOp .USub (.Constant (.int 1) k p1) p2)) (tPart (tUn (rU fun i => .int (-i)) (tC (.int 1)))) := po_some (pe_un un_neg pe_int)
  refine wpAny_Slice ?_
  rw [evalPart_none]
  refine wpAny_pure (wpAny_pure ?_)
  refine thn (hst.run pins s1 σ H1 (fun o H4 => o = some (-1) ∧ H4 = H1) I1 ⟨1, rfl, -1, rfl, rfl, rfl⟩) fun vs s4 ⟨o, H4, I4, ps, eo, e4⟩ => ?_
  subst eo e4
  have I5 : Inv X pins σ H4 { s4 with heap := s4.heap.push { cls := .type "slice", data := .fields #[.none, .none, vs] } } := I4.kept (t' := s4.toks) fun b ob q => Heap.get?_push_of_some _ q
  obtain ⟨its, r, ht, hz⟩ := I5.tuple hx
  have hlen := r.length
  show wpAny (model X.prog X.w) X.A (subscriptTail e (.Slice none none (some (.UnaryOp .USub (.Constant (.int 1) k p1) p2)) p3) (.ref a) (.ref s4.heap.objs.size)) (EP X pins σ Q) X.xe { s4 with heap := s4.heap.push { cls := .type "slice", data := .fields #[.none, .none, vs] } }
  refine tail_any (ops := [.ref a, .ref s4.heap.objs.size]) ht.typeIs (PyProof.Rows.slot_tuple_getitem.lookup) ?_ (by with_unfolding_all rfl)
  refine getItem_tuple_rev ht (Heap.IsSliceOf.new _ .none .none vs) ps ?_ (by rw [List.size_toArray]; omega)
  refine ⟨.ref _, _, I5.laid (t' := s4.toks) (o := .tup xs.reverse) (fun b ob q => Heap.get?_push_of_some _ q) (Nat.le_refl _) ?_, rfl, q _ (I5.hok.fresh (Nat.le_refl _))⟩
  exact ⟨by rw [List.length_reverse]; exact hz, _, r.reverse, IsTup.new _ _⟩
end
end G1
/-! tuple * n of any n from 1 on -/
namespace G1
open PySem PySem.Spec PyProof.Rows L2
theorem tuple_mul1 (l : Addr) (items : Array Value) (n : Nat) (dd : Option Addr) (sl : Array (Option Value)) (u : Tok) :
    Meets (Builtin.«tuple.__mul__» ⟨[.ref l, .int 1 u], []⟩) (fun _ R s => s.heap.get? l = some { cls := .type "tuple", dict := dd, data := .seq items n, slots := sl } ∧
      R (.ok (.ret (Value.ref l))) s) :=
  .of_wp fun prog w A R s h => by
    obtain ⟨hp, g, d, tk, os⟩ := s
    obtain ⟨hl, h⟩ := h
    have f1 := AutoSeq1.idx_int
    have c0 : (decide ((1 : Int) < -(2 ^ 63)) || decide ((1 : Int) ≥ 2 ^ 63)) = false := by decide
    have c1 : (items.isEmpty || (1 : Int) == 1) = true := by simp
    wp_walk using wpAny_loadPart' hl
    repeat (first
      | (refine wpAny_ite_false (decide_eq_false (by rw [c0]; exact Bool.false_ne_true)) ?_; wp_walk using wpAny_loadPart' hl)
      | (refine wpAny_ite_true (decide_eq_true c1) ?_; wp_walk using wpAny_loadPart' hl))
    exact ⟨_, rfl, h⟩
def rRepA (K : PySem.W.Frag) : R2 := fun x y H Q => ∃ l k xs, x = .ref l ∧ y = .int k ∧ SqT K H l xs ∧ xs ≠ [] ∧ 1 ≤ k ∧ k ≤ 1000000 ∧ k.toNat * xs.length ≤ 1000000 ∧ (k = 1 → Q (.ref l) H) ∧ (k ≠ 1 → ∀ p, H p = none → Q (.ref p) (upd H p (.tup (List.replicate k.toNat xs).flatten)))
section
variable {X : Cx}
theorem op_repA : OpR X (binaryOp .Mult) (rRepA X.K) := by
  intro pins s σ H x y v u Q I rx ry h
  obtain ⟨l, k, xs, rfl, rfl, hT, hne, h1, h2, hz, q1, q2⟩ := h
  cases rx
  obtain ⟨t, rfl⟩ := ry
  obtain ⟨its, r, ⟨⟨cls, dd, data, sl⟩, ho, hc, n, hd⟩, hs⟩ := I.tuple hT
  simp only at hc hd
  subst hc hd
  have hle : its.length = xs.length := r.length.symm
  have hn : its ≠ [] := fun e => hne (by
    rw [e] at hle
    exact List.eq_nil_of_length_eq_zero hle.symm)
  have hi : its.toArray.isEmpty = false := by
    cases its with
    | nil => exact absurd rfl hn
    | cons a b => rfl
  have hsz0 : its.toArray.size = xs.length := by rw [List.size_toArray, hle]
  by_cases k1 : k = 1
  · subst k1
    refine wpAny_binaryOp_repeat_ref (T := "tuple") (U := "int") (by decide) ⟨_, ho, rfl⟩ (fun s' => typeIs_int s' 1 t) noFill_tuple_mul F.fills_int_mul F.slot_int_rmul repeat_tuple F.slot_int_index.lookup
      (call_meets F.slot_int_rmul (typeIs_int s 1 t) F.entry_int_rmul (F.args_int_rmul_2 _ _) (int_rmul_tuple 1 t l its.toArray n dd sl)
        ⟨ho, rfl, ⟨_, ho, rfl⟩, call_meets F.slot_tuple_mul ⟨_, ho, rfl⟩ F.entry_tuple_mul (F.args_tuple_mul_2 _ _) (tuple_mul1 l its.toArray n dd sl t) ⟨ho, ?_⟩⟩)
    exact ⟨.ref l, H, I, rfl, q1 rfl⟩
  have hm : ((its.toArray.size : Nat) : Int) * k ≤ 1000000 := by
    rw [hsz0]
    have : ((k.toNat * xs.length : Nat) : Int) = ((xs.length : Nat) : Int) * k := by
      rw [Int.natCast_mul, Int.toNat_of_nonneg (by omega), Int.mul_comm]
    omega
  have flen : (List.replicate k.toNat its).flatten.length ≤ sizeLine := by
    rw [PyProof.Rows.lm_len_rep_flat, hle, sizeLine_eq]
    omega
  have c0 : (decide (k < -(2 ^ 63)) || decide (k ≥ 2 ^ 63)) = false := by
    rw [decide_eq_false (by omega), decide_eq_false (by omega)] <;> rfl
  have c1 : (its.toArray.isEmpty || k == 1) = false := by
    rw [hi, Bool.false_or]
    exact beq_eq_false_iff_ne.mpr (by omega)
  have c2 : (decide (k ≤ 0) || its.toArray.isEmpty) = false := by
    rw [hi, Bool.or_false]
    exact decide_eq_false (by omega)
  have c4 : Builtin.Tuple.tupleTooMany (((its.toArray.size : Nat) : Int) * k) = false := by
    unfold Builtin.Tuple.tupleTooMany
    rw [sizeLine_eq]
    exact decide_eq_false (by omega)
  refine wpAny_binaryOp_repeat_ref (T := "tuple") (U := "int") (by decide) ⟨_, ho, rfl⟩ (fun s' => typeIs_int s' k t) noFill_tuple_mul F.fills_int_mul F.slot_int_rmul repeat_tuple F.slot_int_index.lookup
    (call_meets F.slot_int_rmul (typeIs_int s k t) F.entry_int_rmul (F.args_int_rmul_2 _ _) (int_rmul_tuple k t l its.toArray n dd sl)
      ⟨ho, rfl, ⟨_, ho, rfl⟩, call_meets F.slot_tuple_mul ⟨_, ho, rfl⟩ F.entry_tuple_mul (F.args_tuple_mul_2 _ _) (tuple_mulW l its.toArray n dd sl k t c0 c1 c2 (by omega) c4 (by rw [size_rep, List.size_toArray]; exact flen)) ⟨ho, ?_⟩⟩)
  rw [size_rep]
  refine ⟨.ref s.heap.objs.size, _, I.laid (t' := s.toks) (o := .tup (List.replicate k.toNat xs).flatten) (fun b ob q => Heap.get?_push_of_some _ q) (Nat.le_refl _) ?_, rfl, q2 k1 _ (I.hok.fresh (Nat.le_refl _))⟩
  exact ⟨by rw [PyProof.Rows.lm_len_rep_flat, sizeLine_eq]; omega, _, r.rep k.toNat, IsTup.new _ _⟩
end

/-! one way for all cases of tuples put together -/
section
variable {K : PySem.W.Frag} {H : Hp} {Q : VK}
theorem rep_all {l : Addr} {k : Int} {xs : List V} (hl : H l = some (.tup xs)) (hne : xs ≠ []) (h1 : 1 ≤ k) (h2 : k ≤ 1000000) (hz : k.toNat * xs.length ≤ 1000000)
    (h : ∀ p H', Same H H' → H' p = some (.tup (List.replicate k.toNat xs).flatten) → Q (.ref p) H') : rRepA K (.ref l) (.int k) H Q := by
  refine ⟨l, k, xs, rfl, rfl, .inl (.inl hl), hne, h1, h2, hz, fun e => ?_, fun _ p np => h p _ (fun b x e => by rw [upd_ne (ne_of_none e np)]; exact e) upd_same⟩
  subst e
  refine h l H (fun _ _ e => e) ?_
  rw [hl]
  show some (HO.tup xs) = some (HO.tup (List.replicate 1 xs).flatten)
  simp
theorem rep_all_eq {l : Addr} {k : Nat} {v : V} {xs : List V} (e : v = .int (k : Nat)) (hl : H l = some (.tup xs)) (hne : xs ≠ []) (h1 : 1 ≤ k) (h2 : k ≤ 1000000) (hz : k * xs.length ≤ 1000000)
    (h : ∀ p H', Same H H' → H' p = some (.tup (List.replicate k xs).flatten) → Q (.ref p) H') : rRepA K (.ref l) v H Q := by
  subst e
  exact rep_all hl hne (by omega) (by omega) hz h
theorem cat_all {a b : Addr} {xs ys : List V} (ha : H a = some (.tup xs)) (hb : H b = some (.tup ys)) (hz : xs.length + ys.length ≤ sizeLine)
    (h : ∀ p H', Same H H' → H' p = some (.tup (xs ++ ys)) → Q (.ref p) H') : rCatA K (.ref a) (.ref b) H Q := by
  refine ⟨a, b, xs, ys, rfl, rfl, .inl (.inl ha), .inl (.inl hb), hz, fun e => ?_, fun _ e => ?_, fun _ _ p np => h p _ (fun b x e => by rw [upd_ne (ne_of_none e np)]; exact e) upd_same⟩
  · subst e
    exact h b H (fun _ _ e => e) hb
  · subst e
    exact h a H (fun _ _ e => e) (by rw [List.append_nil]; exact ha)
theorem sl_all {a : Addr} {xs : List V} {lo hi : Option Int} (ha : H a = some (.tup xs)) (h : ∀ p H', Same H H' → H' p = some (.tup (cutV xs lo hi)) → Q (.ref p) H') : rSlA K (.ref a) lo hi H Q := by
  refine ⟨a, xs, rfl, .inl (.inl ha), fun w => ?_, fun _ p np => h p _ (fun b x e => by rw [upd_ne (ne_of_none e np)]; exact e) upd_same⟩
  refine h a H (fun _ _ e => e) ?_
  rw [ha]
  unfold cutV
  rw [w.1, w.2, List.drop_zero, Nat.sub_zero, List.take_length]
end

/-- t != () of any tuple -/
def rNe0 (K : PySem.W.Frag) : R2 := fun x y H Q => ∃ a b xs, x = .ref a ∧ y = .ref b ∧ SqT K H a xs ∧ SqT K H b [] ∧ Q (.bl (!xs.isEmpty)) H
section
variable {X : Cx}
theorem op_neT0 (hu : X.A.units + 64 < cLine) : OpR X (compareOp .NotEq) (rNe0 X.K) := by
  intro pins s σ H x y v u Q I rx ry h
  obtain ⟨a, b, xs, rfl, rfl, ha, hb, q⟩ := h
  cases rx
  cases ry
  obtain ⟨its, r1, p1, _⟩ := I.tuple ha
  obtain ⟨its2, r2, p2, _⟩ := I.tuple hb
  cases r2
  have R := PySem.SeqAt.RcNeAt.tuples (A := X.A) (s := s) (e := fun _ => true) p1 p2 (by omega) (fun j h1 h2 => absurd h2 (by simp)) X.prog X.w X.xe (EP X pins σ Q)
  refine R ⟨.bl _, H, I, rfl, ?_⟩
  have e : (!((List.range (min its.toArray.size (#[] : Array Value).size)).all (fun _ => true) && its.toArray.size == (#[] : Array Value).size)) = !xs.isEmpty := by
    have hl := r1.length
    cases xs with
    | nil =>
      cases its with
      | nil => rfl
      | cons c cs => cases hl
    | cons y ys =>
      cases its with
      | nil => cases hl
      | cons c cs => simp
  rw [show (!((List.range (min its.toArray.size ([] : List Value).toArray.size)).all (fun _ => true) && its.toArray.size == ([] : List Value).toArray.size)) = !xs.isEmpty from e]
  exact q
end
end G1
/-! zip of a tuple and a list -/
namespace G1
open PySem PySem.Spec PyProof.Rows L2
/-- the items of the tuple at a and of the list at c beside one another -/
def ItzM (K : PySem.W.Frag) (a c : Addr) : It :=
  ⟨fun i H => ∃ (xs ys : List V) (x y : V), SqT K H a xs ∧ SqL K H c ys ∧ xs[i]? = some x ∧ ys[i]? = some y,
   fun i H v H' => ∃ T x y, v = .ref T ∧ H T = none ∧ H' = upd H T (.tup [x, y]) ∧ (∀ xs, SqT K H a xs → xs[i]? = some x) ∧ ∀ ys, SqL K H c ys → ys[i]? = some y,
   fun i H => ∃ xs ys : List V, SqT K H a xs ∧ SqL K H c ys ∧ i = min xs.length ys.length⟩
theorem sepM {a c b : Addr} (ha : a < b) (hc : c < b) : ZipSep2 (b + 4) (b + 2) (b + 3) b (b + 1) [b, a] [b + 1, c] := by
  have n : ∀ (i j : Nat), i ≠ j → b + i ≠ b + j := fun i j h z => h (Nat.add_left_cancel z)
  have la : ∀ i : Nat, b + i ≠ a := fun i => Nat.ne_of_gt (Nat.lt_of_lt_of_le ha (Nat.le_add_right b i))
  have lc : ∀ i : Nat, b + i ≠ c := fun i => Nat.ne_of_gt (Nat.lt_of_lt_of_le hc (Nat.le_add_right b i))
  have nm : ∀ x y z : Addr, x ≠ y → x ≠ z → x ∉ [y, z] := fun x y z h1 h2 m => by
    rcases (by simpa using m : x = y ∨ x = z) with e | e
    · exact h1 e
    · exact h2 e
  exact ⟨n 2 4 (by decide), n 3 4 (by decide), n 2 3 (by decide), n 2 0 (by decide), by simp, nm _ _ _ (n 4 0 (by decide)) (la 4), nm _ _ _ (n 3 0 (by decide)) (la 3),
    n 2 1 (by decide), by simp, nm _ _ _ (n 4 1 (by decide)) (lc 4), nm _ _ _ (n 3 1 (by decide)) (lc 3), nm _ _ _ (n 0 1 (by decide)) (lc 0), nm _ _ _ (n 1 0 (by decide)) (la 1)⟩
def tnM (a c b : Addr) (i : Nat) (h : Heap) : Prop :=
  IsZip h (b + 4) (b + 2) (b + 3) .none ∧ IsTupOf2 h (b + 2) (.ref b) (.ref (b + 1)) ∧ (∃ u v, IsTupOf2 h (b + 3) u v) ∧ h.IsTupleIter b a i ∧ h.IsListIter (b + 1) c i
theorem turn_zipM {P : Program} {w : World} {K : PySem.W.Frag} {elts : List Expr} {kk : Nat} {tpos : Pos} {a c b : Addr} (ha : a < b) (hc : c < b) :
    Turn P w K (.Tuple elts kk tpos) (ItzM K a c) [b, b + 1, b + 2, b + 3, b + 4] (b + 4) (tnM a c b) where
  mem := by simp
  obj := fun i h st x hx => by
    obtain ⟨hz, h2, ⟨u, v, h3⟩, ⟨o1, q1, _, d1⟩, ⟨o2, q2, _, d2⟩⟩ := st
    rcases (by simpa using hx : x = b ∨ x = b + 1 ∨ x = b + 2 ∨ x = b + 3 ∨ x = b + 4) with rfl | rfl | rfl | rfl | rfl
    · exact ⟨o1, q1, fun v z => by rw [d1] at z; cases z⟩
    · exact ⟨o2, q2, fun v z => by rw [d2] at z; cases z⟩
    · exact ⟨_, h2, fun v z => nomatch z⟩
    · exact ⟨_, h3, fun v z => nomatch z⟩
    · exact ⟨_, hz, fun v z => nomatch z⟩
  keep := fun i h h' st k => by
    obtain ⟨hz, h2, ⟨u, v, h3⟩, ⟨o1, q1, r1⟩, ⟨o2, q2, r2⟩⟩ := st
    exact ⟨k _ (by simp) _ hz, k _ (by simp) _ h2, ⟨u, v, k _ (by simp) _ h3⟩, ⟨o1, k _ (by simp) _ q1, r1⟩, ⟨o2, k _ (by simp) _ q2, r2⟩⟩
  item := by
    intro X hX hW hKK calm i pins s σ H E I away st hg
    subst hX hW hKK
    obtain ⟨xs, ys, x, y, hqx, hqy, hx, hy⟩ := hg
    obtain ⟨hz, hTI, hTO, st1, st2⟩ := st
    obtain ⟨its, rv, p1, _⟩ := I.tuple hqx
    obtain ⟨its2, rv2, p2, _⟩ := I.list hqy
    obtain ⟨u, hu, ru⟩ := rv.get hx
    obtain ⟨u2, hu2, ru2⟩ := rv2.get hy
    have D1 := Draws.tuple (prog := X.prog) (w := X.w) (A := X.A.in1) (I.ok.hd calm) b a (Nat.ne_of_lt ha) its.toArray
    have D2 := Draws.list (prog := X.prog) (w := X.w) (A := X.A.in1) (I.ok.hd calm) (b + 1) c (Nat.ne_of_lt (Nat.lt_succ_of_lt hc)) its2.toArray
    have W := GoesN.zip2 (elts := elts) (x1 := kk) (pos := tpos) (sepM ha hc) D1 D2
    have il : i < min its.toArray.size its2.toArray.size := by
      have e1 := (List.getElem?_eq_some_iff.mp hu).1
      have e2 := (List.getElem?_eq_some_iff.mp hu2).1
      rw [List.size_toArray, List.size_toArray]
      omega
    refine W.goes i s _ E il ⟨hz, hTI, hTO, ⟨st1, p1⟩, ⟨st2, p2.isList⟩⟩ fun v h' tk hY st' hk htk => ?_
    obtain ⟨T, y1, y2, ev, hT, hy1, hy2, hO⟩ := hY
    have ey1 : y1 = u := by
      rw [List.getElem?_toArray, hu] at hy1
      exact (Option.some.inj hy1).symm
    have ey2 : y2 = u2 := by
      rw [List.getElem?_toArray, hu2] at hy2
      exact (Option.some.inj hy2).symm
    subst ev ey1 ey2
    obtain ⟨o, ho, hoc, n, hod⟩ := hO
    have new : ObjOk X.prog X.w (upd H T (.tup [x, y])) h' T (.tup [x, y]) :=
      ⟨by show 2 ≤ sizeLine; decide, [y1, y2], .cons ru (.cons ru2 .nil), ⟨o, ho, hoc, n, hod⟩⟩
    have I1 : Inv X pins σ (upd H T (.tup [x, y])) { s with heap := h', toks := tk } :=
      I.turnedNew (ch := [b, b + 1, b + 2, b + 3, b + 4]) (fun q o hq e => hk q o (fun z => hq (by
        rcases (by simpa using z : q = b + 4 ∨ q = b + 3 ∨ q = b ∨ q = b + 1) with rfl | rfl | rfl | rfl <;> simp)) e) away hT new
    refine ⟨.ref T, _, I1, rfl, ⟨T, x, y, rfl, I.hok.fresh hT, rfl, fun zs hq => by rw [I.tuple_inj hq hqx]; exact hx, fun zs hq => by rw [I.list_inj hq hqy]; exact hy⟩, ⟨st'.1, st'.2.1, st'.2.2.1, st'.2.2.2.1.1, st'.2.2.2.2.1⟩, fun q hq => ?_⟩
    have hb' : q < s.heap.objs.size := by
      have e4 : b + 4 < s.heap.objs.size := Heap.lt_size hz
      have l : ∀ j : Nat, j ≤ 4 → b + j < s.heap.objs.size := fun j hj => Nat.lt_of_le_of_lt (Nat.add_le_add_left hj b) e4
      rcases (by simpa using hq : q = b ∨ q = b + 1 ∨ q = b + 2 ∨ q = b + 3 ∨ q = b + 4) with rfl | rfl | rfl | rfl | rfl
      · exact l 0 (by decide)
      · exact l 1 (by decide)
      · exact l 2 (by decide)
      · exact l 3 (by decide)
      · exact l 4 (by decide)
    rw [upd_ne (Nat.ne_of_lt (Nat.lt_of_lt_of_le hb' hT))]
    exact (away q hq).1
  done := by
    intro X hX hW hKK calm i pins s σ H E I away st hg
    subst hX hW hKK
    obtain ⟨xs, ys, hqx, hqy, hi⟩ := hg
    obtain ⟨hz, hTI, hTO, st1, st2⟩ := st
    obtain ⟨its, rv, p1, _⟩ := I.tuple hqx
    obtain ⟨its2, rv2, p2, _⟩ := I.list hqy
    have l1 := rv.length
    have l2 := rv2.length
    have D1 := Draws.tuple (prog := X.prog) (w := X.w) (A := X.A.in1) (I.ok.hd calm) b a (Nat.ne_of_lt ha) its.toArray
    have D2 := Draws.list (prog := X.prog) (w := X.w) (A := X.A.in1) (I.ok.hd calm) (b + 1) c (Nat.ne_of_lt (Nat.lt_succ_of_lt hc)) its2.toArray
    have W := GoesN.zip2 (elts := elts) (x1 := kk) (pos := tpos) (sepM ha hc) D1 D2
    have ei : i = min its.toArray.size its2.toArray.size := by
      rw [List.size_toArray, List.size_toArray]
      omega
    rw [ei] at st1 st2
    refine W.stops s _ E ⟨hz, hTI, hTO, ⟨st1, p1⟩, ⟨st2, p2.isList⟩⟩ fun h' tk hk htk => ?_
    exact I.turnedL (t' := tk) (ch := [b, b + 1, b + 2, b + 3, b + 4]) (fun q o hq e => hk q o (fun z => hq (by
        rcases (by simpa using z : q = b + 4 ∨ q = b + 3 ∨ q = b ∨ q = b + 1) with rfl | rfl | rfl | rfl <;> simp)) e) away
  self := fun A i s Q E st q => wpAny_pyIter_zip st.1 q
def iZipM (K : PySem.W.Frag) (ta : TA) : TI := fun σ H R => ta σ H fun vs H1 => ∃ a c xs ys, vs = [.ref a, .ref c] ∧ SqT K H1 a xs ∧ SqL K H1 c ys ∧ R (ItzM K a c) H1
theorem pi_zipM {X : Cx} {e e2 : Expr} {ta : TA} {p pos tpos : Pos} {elts : List Expr} {kk : Nat} (hg : Gl X "zip") (hm : X.mg "zip" = none) (ha : PA X [e, e2] ta)
    (hs : starEach [e, e2] X.env = (false, eval e X.env) :: starEach [e2] X.env := by rfl) (hpl : (backTo pos (starEach [e2] X.env)).any (·.1) = false := by rfl) :
    PI X (.Tuple elts kk tpos) (.Call (.Name "zip" p) [e, e2] [] pos) (iZipM X.K ta) := by
  refine ⟨fun pins s σ H R I h => ?_⟩
  refine Call_ (ld_blt I hg hm PyProof.Rows.boot_zip (PyProof.Rows.callWith_type1 (thn (ha.run pos pins s σ H _ I h) fun us s1 ⟨vs, H1, I1, r1, q1⟩ => ?_) hs hpl))
  obtain ⟨a, c, xs, ys, ex, hqx, hqy, q⟩ := q1
  subst ex
  cases r1 with
  | cons r rr =>
    cases rr with
    | cons r' rr =>
      cases rr
      cases r
      cases r'
      obtain ⟨its, rv, p1, _⟩ := I1.tuple hqx
      obtain ⟨its2, rv2, p2, _⟩ := I1.list hqy
      have la : a < s1.heap.objs.size := by
        obtain ⟨o, ho, _⟩ := p1
        exact Heap.lt_size ho
      have lc : c < s1.heap.objs.size := p2.lt
      refine zip_begins2 (begins_tuple a its.toArray) (begins_list c its2.toArray) p1 p2.isList fun h' hz hTI hTO h1 h2 hsz hk => wpAny_pyIter_zip hz ?_
      have I2 : Inv X pins σ H1 { s1 with heap := h' } := I1.kept (t' := s1.toks) hk
      refine ⟨s1.heap.objs.size + 4, [s1.heap.objs.size, s1.heap.objs.size + 1, s1.heap.objs.size + 2, s1.heap.objs.size + 3, s1.heap.objs.size + 4], _, _, H1, rfl, I2, turn_zipM la lc, ⟨hz, hTI, ⟨_, _, hTO⟩, ⟨_, h1, rfl, rfl⟩, ⟨_, h2, rfl, rfl⟩⟩, fun x hx => ?_, q⟩
      have up : s1.heap.objs.size ≤ x := by
        rcases (by simpa using hx : x = s1.heap.objs.size ∨ x = s1.heap.objs.size + 1 ∨ x = s1.heap.objs.size + 2 ∨ x = s1.heap.objs.size + 3 ∨ x = s1.heap.objs.size + 4) with z | z | z | z | z
        · rw [z]; exact Nat.le_refl _
        · rw [z]; exact Nat.le_add_right _ _
        · rw [z]; exact Nat.le_add_right _ _
        · rw [z]; exact Nat.le_add_right _ _
        · rw [z]; exact Nat.le_add_right _ _
      exact I1.fpOk up (I1.hok.fresh up)
end G1
/-! one of two readings; zips as walks -/
namespace G1
open PySem PySem.Spec PyProof.Rows L2 RZ
section
variable {X : Cx}
theorem PE.or {e : Expr} {t1 t2 : TE} (a : PE X e t1) (b : PE X e t2) : PE X e (fun σ H Q => t1 σ H Q ∨ t2 σ H Q) :=
  ⟨fun pins s σ H Q I h => h.elim (fun h => a.run pins s σ H Q I h) (fun h => b.run pins s σ H Q I h)⟩
theorem PI.or {tg e : Expr} {t1 t2 : TI} (a : PI X tg e t1) (b : PI X tg e t2) : PI X tg e (fun σ H R => t1 σ H R ∨ t2 σ H R) :=
  ⟨fun pins s σ H R I h => h.elim (fun h => a.run pins s σ H R I h) (fun h => b.run pins s σ H R I h)⟩
end
section
variable {K : PySem.W.Frag} {a c : Addr} {xs ys : List V}
theorem walk_zipM {n : Nat} (hn : n = min xs.length ys.length) : Walk (ItzM K a c) n (fun H => SqT K H a xs ∧ SqL K H c ys) (YPair (fun i => xs[i]?) (fun i => ys[i]?)) := by
  subst hn
  refine ⟨fun i H hi q => ⟨xs, ys, xs[i]'(by omega), ys[i]'(by omega), q.1, q.2, by simp [show i < xs.length by omega], by simp [show i < ys.length by omega]⟩, fun H q => ⟨xs, ys, q.1, q.2, rfl⟩, fun i H v H' hi q y => ?_⟩
  obtain ⟨T, x, y, rfl, hT, rfl, h1, h2⟩ := y
  exact ⟨T, x, y, rfl, hT, rfl, h1 xs q.1, h2 ys q.2⟩
theorem walk_zipT {n : Nat} (hn : n = min xs.length ys.length) : Walk (ItzT K a c) n (fun H => SqT K H a xs ∧ SqT K H c ys) (YPair (fun i => xs[i]?) (fun i => ys[i]?)) := by
  subst hn
  refine ⟨fun i H hi q => ⟨xs, ys, xs[i]'(by omega), ys[i]'(by omega), q.1, q.2, by simp [show i < xs.length by omega], by simp [show i < ys.length by omega]⟩, fun H q => ⟨xs, ys, q.1, q.2, by omega⟩, fun i H v H' hi q y => ?_⟩
  obtain ⟨T, x, y, rfl, hT, rfl, h1, h2⟩ := y
  exact ⟨T, x, y, rfl, hT, rfl, h1 xs q.1, h2 ys q.2⟩
end
end G1
/-! repr of small numbers, tuples of them, tables beside one another -/
namespace G1
open PySem PySem.Spec PyProof.Rows L2
theorem small_int {i : Int} (h0 : 0 ≤ i) (h1 : i ≤ 10000) : Small (.int i) := by
  refine ⟨?_, rfl, by simp [PyData.depth], ?_, ?_⟩
  · simp only [PyData.showable]
    exact decide_eq_true (log_small h0 (by omega))
  · show decide ((PyData.shown (.int i)).length ≤ 8) = true
    rw [decide_eq_true_eq]
    have e := PyProof.Rows.toString_length_le h0 (k := 5) (by decide) (by omega)
    have e2 : (PyData.shown (.int i)).length = (Str.ofString (toString i)).length := rfl
    omega
  · show (if i == 0 then 0 else i.natAbs.log2 + 1) ≤ 20000
    split
    · omega
    · have z : i.natAbs ≠ 0 := fun e => by
        rename_i hz
        exact hz (by rw [Int.natAbs_eq_zero.mp e]; rfl)
      have : i.natAbs.log2 < 64 := (Nat.log2_lt z).mpr (by omega)
      omega
/-- a tuple of small data -/
theorem small_tup {ds : List PyData} (h : ∀ d ∈ ds, Small d ∧ d.weight ≤ 100 ∧ d.depth ≤ 3) (hl : ds.length ≤ 20) : Small (.tuple ds) := by
  obtain ⟨h1, h2, h3, h4, h5⟩ := small_all ds fun d hd => (h d hd).1
  have w : ∀ ds : List PyData, (∀ d ∈ ds, d.weight ≤ 100 ∧ d.depth ≤ 3) → PyData.weightAll ds ≤ 101 * ds.length ∧ PyData.depthAll ds ≤ 3 := by
    intro ds
    induction ds with
    | nil => intro _; simp [PyData.weightAll, PyData.depthAll]
    | cons d ds ih =>
      intro hd
      have a := hd d List.mem_cons_self
      have b := ih fun e he => hd e (List.mem_cons_of_mem _ he)
      refine ⟨?_, ?_⟩
      · simp only [PyData.weightAll, List.length_cons]
        omega
      · simp only [PyData.depthAll]
        omega
  obtain ⟨w1, w2⟩ := w ds fun d hd => (h d hd).2
  refine ⟨?_, ?_, ?_, ?_, ?_⟩
  · simp only [PyData.showable]; exact h1
  · simp only [PyData.hasDict]; exact h2
  · simp only [PyData.depth]; omega
  · simp only [PyData.leavesShort]; exact h4
  · simp only [PyData.weight]
    have : 101 * ds.length ≤ 101 * 20 := Nat.mul_le_mul_left _ hl
    omega
theorem int_fit {i : Int} (h0 : 0 ≤ i) (h1 : i ≤ 10000) : Small (.int i) ∧ PyData.weight (.int i) ≤ 20 ∧ PyData.depth (.int i) ≤ 1 := by
  refine ⟨small_int h0 h1, ?_, by simp [PyData.depth]⟩
  show (if i == 0 then 0 else i.natAbs.log2 + 1) ≤ 20
  split
  · omega
  · have z : i.natAbs ≠ 0 := fun e => by
      rename_i hz
      exact hz (by rw [Int.natAbs_eq_zero.mp e]; rfl)
    have : i.natAbs.log2 < 14 := (Nat.log2_lt z).mpr (by omega)
    omega
def dKs (ks : List Nat) : PyData := .tuple (ks.map fun k => PyData.int (k : Nat))
theorem dp_ks {K : PySem.W.Frag} {H : Hp} : ∀ ks : List Nat, DpAll K H (ks.map fun k => V.int (k : Nat)) (ks.map fun k => PyData.int (k : Nat))
  | [] => .nil
  | k :: ks => .cons (.int _) (dp_ks ks)
theorem small_ks {ks : List Nat} (h : ∀ k ∈ ks, k ≤ 10000) (hl : ks.length ≤ 20) : Small (dKs ks) := small_tup (fun d hd => by
  obtain ⟨k, hk, rfl⟩ := List.mem_map.mp hd
  have a := int_fit (i := (k : Int)) (by omega) (by have := h k hk; omega)
  exact ⟨a.1, by have := a.2.1; omega, by have := a.2.2; omega⟩) (by rw [List.length_map]; exact hl)

/-- two tables -/
@[irreducible] def dT2 (a b c d : List Bool) : PyData := .list [dTab a b, dTab c d]
theorem repr_t2 {K : PySem.W.Frag} {H : Hp} {R : PyData → Prop} {l p p' : Addr} {a b c d : List Bool} (e : H l = some (.lst [.ref p, .ref p'])) (h1 : H p = some (.tup [.str (B a), .str (B b)])) (h2 : H p' = some (.tup [.str (B c), .str (B d)]))
    (l1 : a.length ≤ 5000) (l2 : b.length ≤ 5000) (l3 : c.length ≤ 5000) (l4 : d.length ≤ 5000) (q : R (dT2 a b c d)) :
    ∃ (a' : Addr) (d' : PyData), [V.ref l] = [V.ref a'] ∧ Dp K H (.ref a') d' ∧ d'.showable = true ∧ d'.hasDict = false ∧ d'.depth ≤ 60 ∧ d'.shown.length ≤ sizeLine ∧ R d' := by
  unfold dT2 at q
  exact repr_items [dTab a b, dTab c d] e (.cons (dp_tab h1) (.cons (dp_tab h2) .nil)) (List.forall_mem_cons.mpr ⟨small_tab l1 l2, List.forall_mem_cons.mpr ⟨small_tab l3 l4, fun _ z => by cases z⟩⟩) (by simp) q
/-- a tuple of small numbers -/
theorem repr_ks {K : PySem.W.Frag} {H : Hp} {R : PyData → Prop} {p : Addr} {ks : List Nat} (h1 : H p = some (.tup (ks.map fun k => V.int (k : Nat)))) (h : ∀ k ∈ ks, k ≤ 10000) (hl : ks.length ≤ 20) (q : R (dKs ks)) :
    ∃ (a' : Addr) (d' : PyData), [V.ref p] = [V.ref a'] ∧ Dp K H (.ref a') d' ∧ d'.showable = true ∧ d'.hasDict = false ∧ d'.depth ≤ 60 ∧ d'.shown.length ≤ sizeLine ∧ R d' := by
  have sm := small_ks h hl
  exact go_repr (dKs ks) (.tup (sqT_of h1) (dp_ks ks)) sm.sh sm.nd (Nat.le_trans sm.dp (by decide)) sm.lv (Nat.le_trans sm.wt (by decide)) q
/-- a tuple of small numbers, its text never unfolded -/
@[irreducible] def dKi (ks : List Nat) : PyData := dKs ks
theorem repr_ki {K : PySem.W.Frag} {H : Hp} {R : PyData → Prop} {p : Addr} {ks : List Nat} (h1 : H p = some (.tup (ks.map fun k => V.int (k : Nat)))) (h : ∀ k ∈ ks, k ≤ 10000) (hl : ks.length ≤ 20) (q : R (dKi ks)) :
    ∃ (a' : Addr) (d' : PyData), [V.ref p] = [V.ref a'] ∧ Dp K H (.ref a') d' ∧ d'.showable = true ∧ d'.hasDict = false ∧ d'.depth ≤ 60 ∧ d'.shown.length ≤ sizeLine ∧ R d' := by
  unfold dKi at q
  exact repr_ks h1 h hl q

/-- figures in a tuple, many of them -/
theorem dig_all : ∀ l : List Nat, (∀ k ∈ l, k ≤ 9) → PyData.showableAll (l.map fun k => PyData.int (k : Nat)) = true ∧ PyData.hasDictAll (l.map fun k => PyData.int (k : Nat)) = false ∧ PyData.depthAll (l.map fun k => PyData.int (k : Nat)) = 0 ∧
    PyData.leavesShortAll 8 (l.map fun k => PyData.int (k : Nat)) = true ∧ PyData.weightAll (l.map fun k => PyData.int (k : Nat)) ≤ 21 * l.length
  | [], _ => by simp [PyData.showableAll, PyData.hasDictAll, PyData.depthAll, PyData.leavesShortAll, PyData.weightAll]
  | k :: l, h => by
    obtain ⟨h1, h2, h3, h4, h5⟩ := dig_all l fun e he => h e (List.mem_cons_of_mem _ he)
    have k9 := h k List.mem_cons_self
    obtain ⟨a, w, d⟩ := int_fit (i := (k : Int)) (by omega) (by omega)
    have a1 := a.sh
    have a4 := a.lv
    refine ⟨?_, ?_, ?_, ?_, ?_⟩
    · simp only [List.map_cons, PyData.showableAll, h1, a1, Bool.and_self]
    · simp [PyData.hasDictAll, PyData.hasDict, h2]
    · simp [PyData.depthAll, PyData.depth, h3]
    · simp only [List.map_cons, PyData.leavesShortAll, h4, a4, Bool.and_self]
    · simp only [List.map_cons, PyData.weightAll, List.length_cons]
      omega
@[irreducible] def dDg (l : List Nat) : PyData := dKs l
theorem repr_dg {K : PySem.W.Frag} {H : Hp} {R : PyData → Prop} {p : Addr} {l : List Nat} (h1 : H p = some (.tup (l.map fun k => V.int (k : Nat)))) (h : ∀ k ∈ l, k ≤ 9) (hl : l.length ≤ 40000) (q : R (dDg l)) :
    ∃ (a' : Addr) (d' : PyData), [V.ref p] = [V.ref a'] ∧ Dp K H (.ref a') d' ∧ d'.showable = true ∧ d'.hasDict = false ∧ d'.depth ≤ 60 ∧ d'.shown.length ≤ sizeLine ∧ R d' := by
  unfold dDg at q
  obtain ⟨g1, g2, g3, g4, g5⟩ := dig_all l h
  refine go_repr (dKs l) (.tup (sqT_of h1) (dp_ks l)) ?_ ?_ ?_ ?_ ?_ q
  · simp only [dKs, PyData.showable]; exact g1
  · simp only [dKs, PyData.hasDict]; exact g2
  · simp only [dKs, PyData.depth, g3]; decide
  · simp only [dKs, PyData.leavesShort]; exact g4
  · simp only [dKs, PyData.weight]; omega
@[irreducible] def dDg2 (l k : List Nat) : PyData := .list [dKs l, dKs k]
theorem repr_dg2 {K : PySem.W.Frag} {H : Hp} {R : PyData → Prop} {o p p' : Addr} {l k : List Nat} (h0 : H o = some (.lst [.ref p, .ref p'])) (h1 : H p = some (.tup (l.map fun k => V.int (k : Nat)))) (h2 : H p' = some (.tup (k.map fun k => V.int (k : Nat))))
    (hl9 : ∀ x ∈ l, x ≤ 9) (hk9 : ∀ x ∈ k, x ≤ 9) (hl : l.length ≤ 10000) (hk : k.length ≤ 10000) (q : R (dDg2 l k)) :
    ∃ (a' : Addr) (d' : PyData), [V.ref o] = [V.ref a'] ∧ Dp K H (.ref a') d' ∧ d'.showable = true ∧ d'.hasDict = false ∧ d'.depth ≤ 60 ∧ d'.shown.length ≤ sizeLine ∧ R d' := by
  unfold dDg2 at q
  obtain ⟨g1, g2, g3, g4, g5⟩ := dig_all l hl9
  obtain ⟨k1, k2, k3, k4, k5⟩ := dig_all k hk9
  refine go_repr (.list [dKs l, dKs k]) (.lst (.inl (.inl h0)) (.cons (.tup (sqT_of h1) (dp_ks l)) (.cons (.tup (sqT_of h2) (dp_ks k)) .nil))) ?_ ?_ ?_ ?_ ?_ q
  · simp only [dKs, PyData.showable, PyData.showableAll, g1, k1, Bool.and_self]
  · simp only [dKs, PyData.hasDict, PyData.hasDictAll, g2, k2, Bool.or_self]
  · simp only [dKs, PyData.depth, PyData.depthAll, g3, k3]; decide
  · simp only [dKs, PyData.leavesShort, PyData.leavesShortAll, g4, k4, Bool.and_self]
  · simp only [dKs, PyData.weight, PyData.weightAll]; omega

/-- two small numbers in a list -/
@[irreducible] def dI2 (a b : Nat) : PyData := .list [.int (a : Nat), .int (b : Nat)]
theorem repr_i2 {K : PySem.W.Frag} {H : Hp} {R : PyData → Prop} {o : Addr} {a b : Nat} (h0 : H o = some (.lst [.int (a : Nat), .int (b : Nat)])) (ha : a ≤ 10000) (hb : b ≤ 10000) (q : R (dI2 a b)) :
    ∃ (a' : Addr) (d' : PyData), [V.ref o] = [V.ref a'] ∧ Dp K H (.ref a') d' ∧ d'.showable = true ∧ d'.hasDict = false ∧ d'.depth ≤ 60 ∧ d'.shown.length ≤ sizeLine ∧ R d' := by
  unfold dI2 at q
  exact repr_items [.int (a : Nat), .int (b : Nat)] h0 (.cons (.int _) (.cons (.int _) .nil)) (List.forall_mem_cons.mpr ⟨small_int (by omega) (by omega), List.forall_mem_cons.mpr ⟨small_int (by omega) (by omega), fun _ z => by cases z⟩⟩) (by simp) q
end G1
/-! repr of whole data with dicts in it: address 1 is a dict of the base, so nothing that is tracked stands there -/
namespace G1
open PySem PySem.Spec PyProof.Rows L2
def HasSys (base : Heap) : Prop := ∃ mm, base.Ns sysModules mm
def kD : Key → PyData
  | .inl i => .int i
  | .inr x => .str x
mutual
inductive DpD (K : PySem.W.Frag) (H : Hp) : V → PyData → Prop
  | non : DpD K H .non .none
  | bl (b : Bool) : DpD K H (.bl b) (.bool b)
  | int (i : Int) : DpD K H (.int i) (.int i)
  | str (x : Str) : DpD K H (.str x) (.str x)
  | lst {a : Addr} {xs : List V} {ds : List PyData} : SqL K H a xs → DpDAll K H xs ds → DpD K H (.ref a) (.list ds)
  | tup {a : Addr} {xs : List V} {ds : List PyData} : SqT K H a xs → DpDAll K H xs ds → DpD K H (.ref a) (.tuple ds)
  | dct {a : Addr} {kvs : List (Key × V)} {ds : List (PyData × PyData)} : H a = some (.dK kvs) → DpDKv K H kvs ds → DpD K H (.ref a) (.dict ds)
inductive DpDAll (K : PySem.W.Frag) (H : Hp) : List V → List PyData → Prop
  | nil : DpDAll K H [] []
  | cons {v : V} {vs : List V} {d : PyData} {ds : List PyData} : DpD K H v d → DpDAll K H vs ds → DpDAll K H (v :: vs) (d :: ds)
inductive DpDKv (K : PySem.W.Frag) (H : Hp) : List (Key × V) → List (PyData × PyData) → Prop
  | nil : DpDKv K H [] []
  | cons {k : Key} {v : V} {kvs : List (Key × V)} {d : PyData} {ds : List (PyData × PyData)} : DpD K H v d → DpDKv K H kvs ds → DpDKv K H ((k, v) :: kvs) ((kD k, d) :: ds)
end
section
variable {X : Cx} {pins : List (Addr × Obj)} {σ : L2.St} {H : Hp} {s : Shared}
theorem sys_not {a : Addr} {o : Obj} {vs : Array Value} {n : Nat} (I : Inv X pins σ H s) (hb : HasSys X.base) (e : s.heap.get? a = some o) (d : o.data = .seq vs n) : a ≠ sysModules := by
  rintro rfl
  obtain ⟨mm, o', es, ep, e', d', _⟩ := hb
  rw [(I.bs _ o' e').1] at e
  cases e
  rw [d'] at d
  cases d
theorem key_reads {h : Heap} {k : Key} {v : Value} (e : keyIs k v = true) : Reads h v (kD k) [] := by
  rcases keyIs_shape e with ⟨i, t, rfl, rfl⟩ | ⟨x, t, rfl, rfl⟩
  · exact Reads.int i t
  · exact Reads.str x t
mutual
theorem DpD.reads (I : Inv X pins σ H s) (hb : HasSys X.base) : ∀ {v : V} {d : PyData} (u : Value), DpD X.K H v d → RelV v u → ∃ as, Reads s.heap u d as ∧ sysModules ∉ as
  | _, _, _, .non, r => by
    cases r
    exact ⟨_, Reads.none, List.not_mem_nil⟩
  | _, _, _, .bl b, r => by
    cases r
    exact ⟨_, Reads.bool b, List.not_mem_nil⟩
  | _, _, _, .int i, r => by
    obtain ⟨t, rfl⟩ := r
    exact ⟨_, Reads.int i t, List.not_mem_nil⟩
  | _, _, _, .str x, r => by
    obtain ⟨t, rfl⟩ := r
    exact ⟨_, Reads.str x t, List.not_mem_nil⟩
  | _, _, _, .lst hs ha, r => by
    cases r
    obtain ⟨its, rv, ⟨o, n, ho, hc, _, hd⟩, _⟩ := I.list hs
    obtain ⟨as, hr, hn⟩ := DpDAll.reads I hb its ha rv
    exact ⟨_, Reads.list ho hc hd hr, fun m => (List.mem_cons.mp m).elim (fun z => sys_not I hb ho hd z.symm) hn⟩
  | _, _, _, .tup hs ha, r => by
    cases r
    obtain ⟨its, rv, ⟨o, ho, hc, n, hd⟩, _⟩ := I.tuple hs
    obtain ⟨as, hr, hn⟩ := DpDAll.reads I hb its ha rv
    exact ⟨_, Reads.tuple ho hc hd hr, hn⟩
  | _, _, _, .dct hd hk, r => by
    cases r
    obtain ⟨_, ns, vs, kv, o, es, ep, ho, ex, hdat, _, pr, _⟩ := dk_of I.hok hd
    obtain ⟨⟨as, h1, n1⟩, bs, h2, n2⟩ := DpDKv.reads I hb _ _ hk kv pr
    refine ⟨_, Reads.dict ho ex.1 hdat h1 h2, ?_⟩
    intro m
    rcases List.mem_append.mp m with m | m
    · rcases List.mem_cons.mp m with z | z
      · rw [← z] at ns
        exact absurd ns (by decide)
      · exact n1 z
    · exact n2 m
theorem DpDAll.reads (I : Inv X pins σ H s) (hb : HasSys X.base) : ∀ {vs : List V} {ds : List PyData} (us : List Value), DpDAll X.K H vs ds → Vals vs us → ∃ as, ReadsAll s.heap us ds as ∧ sysModules ∉ as
  | _, _, _, .nil, r => by
    cases r
    exact ⟨_, ReadsAll.nil, List.not_mem_nil⟩
  | _, _, _, .cons h1 h2, r => by
    cases r with
    | cons r1 r2 =>
      obtain ⟨as, q1, n1⟩ := DpD.reads I hb _ h1 r1
      obtain ⟨bs, q2, n2⟩ := DpDAll.reads I hb _ h2 r2
      exact ⟨_, ReadsAll.cons q1 q2, fun m => (List.mem_append.mp m).elim n1 n2⟩
theorem DpDKv.reads (I : Inv X pins σ H s) (hb : HasSys X.base) : ∀ {kvs : List (Key × V)} {ds : List (PyData × PyData)} (vs : List (Key × Value)) (es : List DictEntry), DpDKv X.K H kvs ds → KV kvs vs → Pairs (mixKind X.prog X.w) es vs →
    (∃ as, ReadsAll s.heap (es.map (·.key)) (ds.map (·.1)) as ∧ sysModules ∉ as) ∧ ∃ bs, ReadsAll s.heap (es.map (·.val)) (ds.map (·.2)) bs ∧ sysModules ∉ bs
  | _, _, _, _, .nil, kv, pr => by
    cases kv
    cases pr
    exact ⟨⟨_, ReadsAll.nil, List.not_mem_nil⟩, _, ReadsAll.nil, List.not_mem_nil⟩
  | _, _, _, _, .cons h1 h2, kv, pr => by
    cases kv with
    | cons r kv2 =>
      cases pr with
      | cons e1 e2 pr2 =>
        obtain ⟨e0, rv⟩ := r
        obtain ⟨⟨as, q1, n1⟩, bs, q2, n2⟩ := DpDKv.reads I hb _ _ h2 kv2 pr2
        rw [← e2] at rv
        obtain ⟨cs, q3, n3⟩ := DpD.reads I hb _ h1 rv
        have e1' : keyIs _ _ = true := e1
        rw [← e0] at e1'
        exact ⟨⟨_, ReadsAll.cons (key_reads e1') q1, fun m => (List.mem_append.mp m).elim List.not_mem_nil n1⟩, _, ReadsAll.cons q3 q2, fun m => (List.mem_append.mp m).elim n3 n2⟩
end
/-- repr of a list, a tuple or a dict of data, dicts in it too -/
def rReprD (K : PySem.W.Frag) : List V → Hp → VK → Prop := fun xs H Q => ∃ (a : Addr) (d : PyData), xs = [.ref a] ∧ DpD K H (.ref a) d ∧ d.showable = true ∧ d.depth ≤ 60 ∧ d.shown.length ≤ sizeLine ∧ Q (.str d.shown) H
theorem call_reprDD (hb : HasSys X.base) (hgd : X.A.guards = some []) (hu : X.A.units + 64 < cLine) : CallR X (.builtin "repr") (rReprD X.K) := by
  intro pins s σ H xs us Q I r h
  obtain ⟨a, d, rfl, hd, hs, hdp, hz, q⟩ := h
  obtain ⟨u, rfl, ru⟩ := vals1 r
  obtain rfl : u = Value.ref a := ru
  obtain ⟨as, r1, hn⟩ := DpD.reads I hb (.ref a) hd rfl
  refine repr_of_reads' r1 hs (fun _ => hn) hgd (by omega) (fun _ _ e => e) (fun h' tu tk hk => ?_) hz
  refine ⟨.str d.shown, H, ?_, ⟨tu, rfl⟩, q⟩
  exact I.kept (t' := tk) hk
end
theorem enterGS {P : Program} {w : World} {K : PySem.W.Frag} {mg mb : Str → Option Value} {k : Nat} {fa a : Addr} {fd : FuncData} {x : Str} {sp : Sp} {s₁ : Shared} {vs : List Value} {ns : List Int}
    (inK : K.In s₁.heap) (hns : s₁.heap.Ns mainGlobals mg) (hbn : s₁.heap.Ns builtinsNs mb) (hbb : ∀ x : Str, x ≠ "__name__" → mb x = bootBuiltins x) (hlim : s₁.heap.NoLimit) (hsy : HasSys s₁.heap) (hg0 : s₁.gens = #[])
    (ha : s₁.heap.get? a = some { cls := .type "list", data := .seq vs.toArray }) (hi : IntsAre vs ns) (hl : ns.length ≤ sizeLine) (hr : Room k callerA)
    (F : ∀ base : Heap, K.In base → base.Ns mainGlobals mg → HasSys base → FnG P w K mg base k fa fd [x] sp)
    (hbind : ∀ (s : Shared) (u : Value), BindsTo s fd ⟨[u], []⟩ [(x, u)])
    (hsp : ∀ H : Hp, Only H → SqL K H a (ns.map V.int) → sp [.ref a] H (fun v _ => v = .bl true) fun _ _ _ => False) :
    codeAny (model P w) callerA (.call (.ref fa) ⟨[.ref a], []⟩)
      (fun r s' => r = .ok (.ret (.bool true)) ∧ OldK s₁.heap s'.heap ∧ s'.os = s₁.os ∧ AllBare s'.gens) s₁ := by
  have rv := vals_ints hi
  have lv := hi.length
  suffices core : ∀ H : Hp, Only H → SqL K H a (ns.map V.int) → HOk P w H s₁.heap → (∀ b, H b ≠ none → b = a ∧ K.lookup a = none) →
      codeAny (model P w) callerA (.call (.ref fa) ⟨[.ref a], []⟩)
        (fun r s' => r = .ok (.ret (.bool true)) ∧ OldK s₁.heap s'.heap ∧ s'.os = s₁.os ∧ AllBare s'.gens) s₁ by
    by_cases hk : K.lookup a = none
    · refine core (fun b => if b = a then some (.frz { cls := .type "list", data := .seq vs.toArray } (.lst (ns.map V.int))) else none) ?_ (Or.inl (Or.inr ⟨_, if_pos rfl⟩)) ?_ ?_
      · intro b
        by_cases hb : b = a
        · exact Or.inr ⟨_, _, if_pos hb⟩
        · exact Or.inl (if_neg hb)
      · intro b u z
        dsimp only at z
        by_cases hb : b = a
        · rw [if_pos hb] at z
          cases z
          subst hb
          exact ⟨ha, by rw [List.length_map]; exact hl, vs, _, rv, ha⟩
        · rw [if_neg hb] at z
          cases z
      · intro b z
        by_cases hb : b = a
        · exact ⟨hb, hk⟩
        · exact absurd (if_neg hb) z
    · obtain ⟨o, ho⟩ := Option.ne_none_iff_exists'.mp hk
      have e := inK a o ho
      rw [ha] at e
      cases e
      exact core (fun _ => none) (fun _ => Or.inl rfl) (Or.inr ⟨_, vs.toArray, _, ho, rfl, rfl, rfl, by rw [List.size_toArray, lv]; exact hl, by simpa using rv⟩)
        (fun b u z => by cases z) (fun b z => absurd rfl z)
  intro H hO hS hok hA
  have untr : ∀ {b : Addr} {o : Obj} {es : Array DictEntry} {ep : Nat}, s₁.heap.get? b = some o → o.data = .dict es ep → H b = none := by
    intro b o es ep e d
    by_cases q : H b = none
    · exact q
    · obtain ⟨rfl, _⟩ := hA b q
      rw [ha] at e
      cases e
      exact nomatch d
  have tohid : ∀ {b : Addr} {m : Str → Option Value}, s₁.heap.Ns b m → (hidT s₁.heap H).Ns b m := by
    rintro b m ⟨o, es, ep, e, d, r⟩
    exact ⟨o, es, ep, hidT_get e (untr e d), d, r⟩
  have hKb : K.In (hidT s₁.heap H) := by
    intro b o e
    refine hidT_get (inK b o e) ?_
    by_cases q : H b = none
    · exact q
    · obtain ⟨rfl, z⟩ := hA b q
      rw [z] at e
      cases e
  obtain ⟨mc, l1, l2⟩ := hlim
  have hM : Mod K mg (hidT s₁.heap H) := ⟨hKb, tohid hns, ⟨mb, tohid hbn, hbb⟩, ⟨mc, tohid l1, l2⟩⟩
  have e0 : Env0 P w K mg (hidT s₁.heap H) callerA [] s₁ H :=
    ⟨rfl, hM, fun b o e => of_hidT e, Nat.le_of_eq (hidT_size _ _), trivial, fun b hb => (List.not_mem_nil hb).elim, hok, .of_eq hg0⟩
  refine codeAny_mono ((F _ hKb (tohid hns) ⟨_, tohid hsy.choose_spec⟩).go callerA [] s₁ H ⟨[.ref a], []⟩ [.ref a] [.ref a] _ _ rfl hr e0 (hbind s₁ (.ref a)) (.cons rfl .nil) (hsp H hO hS)) ?_
  intro r s' h
  cases r with
  | error e => exact h.elim
  | ok fl =>
    cases fl with
    | next => exact h.elim
    | brk => exact h.elim
    | cont => exact h.elim
    | ret u =>
      obtain ⟨v, H', os, bare, un, hok', r', q⟩ := h
      subst q
      obtain rfl : u = Value.bool true := r'
      refine ⟨rfl, OldK.of_keep (fun b o e => ?_), os, bare⟩
      rcases hO b with z | ⟨ob, xs, z⟩
      · exact un.keep b o e z (fun y => (List.not_mem_nil y).elim) List.not_mem_nil
      · obtain ⟨e1, _⟩ := hok b _ z
        obtain ⟨e2, _⟩ := hok' b _ (un.frzs b ob _ z)
        rw [e] at e1
        cases e1
        exact e2

theorem walkGS {l : PySem.W.OpenLaw} {n k : Nat} {q : Program} {loose : List Str} {XP : (Str → Option Value) → Heap → Prop} {YP : World → Heap → Prop} {d : DefRec} {K : Params → PySem.W.Frag} {sp : PySem.W.Frag → Sp} {x : Str}
    (hq : importsNone q = true) (hn : l.most = some n) (hn2 : n ≤ sizeLine) (hdf : d.params.defaults = []) (hr : Room k callerA)
    (hY : ∀ (w : World) (h : Heap), YP w h → (K w.params).In h)
    (F : ∀ (w : World) (mg : Str → Option Value) (fa : Addr) (h : Heap), (K w.params).In h → h.Ns mainGlobals mg → mg d.name = some (.ref fa) →
      ∃ fd : FuncData, (∀ (s : Shared) (u : Value), BindsTo s fd ⟨[u], []⟩ [(x, u)]) ∧
        ∀ base : Heap, (K w.params).In base → base.Ns mainGlobals mg → HasSys base → FnG l.prog w (K w.params) mg base k fa fd [x] (sp (K w.params)))
    (hsp : ∀ (K : PySem.W.Frag) (H : Hp) (a : Addr) (ns : List Int), ns.length ≤ n → Only H → SqL K H a (ns.map V.int) → sp K [.ref a] H (fun v _ => v = .bl true) fun _ _ _ => False) :
    PySem.W.WalkO q loose XP YP l.row.toRowW d [] (fun f vs => PySem.call f vs) := by
  refine Att.attach_call hn hdf ?_
  intro w s₀ s₁ mg mb fa o pm cd doc a vs ns G Y ho hd hcd hmg hobj hints hlen hg0
  have inK := hY w _ Y
  obtain ⟨fd, hb, hF⟩ := F w mg fa _ inK G.T.g hmg
  exact enterGS inK G.T.g G.T.b G.T.builtins G.T.nolimit (let ⟨mm, y, _⟩ := (G.T.seer hq).mods; ⟨mm, y⟩) hg0 hobj hints (Nat.le_trans hlen hn2) hr hF hb (fun H hO hS => hsp _ H a ns hlen hO hS)
end G1
/-! texts of any signs: nothing but noughts and ones in them -/
namespace G1
open PySem PySem.Spec PyProof.Rows L2
def plainL (l : List Nat) : Bool := l.all fun k => k == 48 || k == 49
/-- nothing but 0 and 1 -/
def plainS (x : Str) : Bool := plainL x.cps.toList
theorem cnt_cons' (c k : Nat) (l : List Nat) : cnt c (k :: l) = (if k = c then 1 else 0) + cnt c l := by
  first | exact cnt_cons .. | (rw [cnt_cons]; done) | (rw [cnt_cons]; simp; done)
theorem cnt_plain : ∀ l : List Nat, (cnt 48 l + cnt 49 l = (l.length : Int) ↔ plainL l = true) ∧ cnt 48 l + cnt 49 l ≤ (l.length : Int)
  | [] => by
    have e : ∀ c, cnt c [] = 0 := fun c => rfl
    rw [e, e]
    simp [plainL]
  | k :: l => by
    obtain ⟨h1, h2⟩ := cnt_plain l
    rw [cnt_cons', cnt_cons', List.length_cons]
    have e : plainL (k :: l) = ((k == 48 || k == 49) && plainL l) := rfl
    by_cases a : k = 48
    · subst a
      rw [e, if_pos rfl, if_neg (by decide), show ((48 : Nat) == 48 || (48 : Nat) == 49) = true from rfl, Bool.true_and, ← h1]
      constructor
      · constructor <;> intro h <;> omega
      · omega
    · by_cases b : k = 49
      · subst b
        rw [e, if_neg (by decide), if_pos rfl, show ((49 : Nat) == 48 || (49 : Nat) == 49) = true from rfl, Bool.true_and, ← h1]
        constructor
        · constructor <;> intro h <;> omega
        · omega
      · rw [e, if_neg a, if_neg b, show (k == 48 || k == 49) = false by simp [a, b], Bool.false_and]
        constructor
        · constructor
          · intro h
            omega
          · intro h
            cases h
        · omega
theorem count_plain (x : Str) : Txt.count x ⟨#[48]⟩ + Txt.count x ⟨#[49]⟩ = (x.length : Int) ↔ plainS x = true := by
  rw [count_cnt, count_cnt]
  have e : (x.length : Int) = (x.cps.toList.length : Int) := by rw [Array.length_toList]; rfl
  rw [e]
  exact (cnt_plain x.cps.toList).1
theorem strike_plain (x : Str) : Txt.replace (Txt.replace x ⟨#[48]⟩ ⟨#[]⟩) ⟨#[49]⟩ ⟨#[]⟩ = ⟨#[]⟩ ↔ plainS x = true := by
  have e : (Txt.replace (Txt.replace x ⟨#[48]⟩ ⟨#[]⟩) ⟨#[49]⟩ ⟨#[]⟩).cps.toList = List.filter (fun y => y != 49) (List.filter (fun y => y != 48) x.cps.toList) :=
    (replace_strikes (Txt.replace x ⟨#[48]⟩ ⟨#[]⟩) 49).trans (by rw [replace_strikes])
  generalize Txt.replace (Txt.replace x ⟨#[48]⟩ ⟨#[]⟩) ⟨#[49]⟩ ⟨#[]⟩ = z at e
  obtain ⟨⟨zl⟩⟩ := z
  have e' : zl = List.filter (fun y => y != 49) (List.filter (fun y => y != 48) x.cps.toList) := e
  rw [show ((⟨⟨zl⟩⟩ : Str) = ⟨#[]⟩ ↔ zl = []) from ⟨fun h => by injection h with h; injection h, fun h => by rw [h]⟩, e', List.filter_filter, List.filter_eq_nil_iff]
  unfold plainS plainL
  rw [List.all_eq_true]
  constructor
  · intro h k hk
    have := h k hk
    simp at this ⊢
    omega
  · intro h k hk
    have := h k hk
    simp at this ⊢
    omega
end G1
/-! things of all kinds, apart from the well -/
namespace G1
open PySem PySem.Spec PyProof.Rows L2
mutual
inductive Th (w g : Addr) (H : Hp) : V → PyData → Prop
  | non : Th w g H .non .none
  | bl (b : Bool) : Th w g H (.bl b) (.bool b)
  | int (i : Int) : Th w g H (.int i) (.int i)
  | str (x : Str) : Th w g H (.str x) (.str x)
  | lst {a : Addr} {xs : List V} {ds : List PyData} : a ≠ w → a ≠ g → H a = some (.lst xs) → ThAll w g H xs ds → Th w g H (.ref a) (.list ds)
  | tup {a : Addr} {xs : List V} {ds : List PyData} : H a = some (.tup xs) → ThAll w g H xs ds → Th w g H (.ref a) (.tuple ds)
  | dct {a : Addr} {kvs : List (Key × V)} {ds : List (PyData × PyData)} : a ≠ w → a ≠ g → H a = some (.dK kvs) → ThKv w g H kvs ds → Th w g H (.ref a) (.dict ds)
inductive ThAll (w g : Addr) (H : Hp) : List V → List PyData → Prop
  | nil : ThAll w g H [] []
  | cons {v : V} {vs : List V} {d : PyData} {ds : List PyData} : Th w g H v d → ThAll w g H vs ds → ThAll w g H (v :: vs) (d :: ds)
inductive ThKv (w g : Addr) (H : Hp) : List (Key × V) → List (PyData × PyData) → Prop
  | nil : ThKv w g H [] []
  | cons {k : Key} {v : V} {kvs : List (Key × V)} {d : PyData} {ds : List (PyData × PyData)} : Th w g H v d → ThKv w g H kvs ds → ThKv w g H ((k, v) :: kvs) ((kD k, d) :: ds)
end
section
variable {w g : Addr} {H H' : Hp}
mutual
theorem Th.go (W : WellAt w g H) (s : Go w g H H') : ∀ {v : V} {d : PyData}, Th w g H v d → Th w g H' v d
  | _, _, .non => .non
  | _, _, .bl b => .bl b
  | _, _, .int i => .int i
  | _, _, .str x => .str x
  | _, _, .lst n1 n2 h t => .lst n1 n2 (s _ _ n1 n2 h) (ThAll.go W s t)
  | _, _, .tup h t => .tup ((W.tup h).go s).at_ (ThAll.go W s t)
  | _, _, .dct n1 n2 h t => .dct n1 n2 (s _ _ n1 n2 h) (ThKv.go W s t)
theorem ThAll.go (W : WellAt w g H) (s : Go w g H H') : ∀ {vs : List V} {ds : List PyData}, ThAll w g H vs ds → ThAll w g H' vs ds
  | _, _, .nil => .nil
  | _, _, .cons a b => .cons (Th.go W s a) (ThAll.go W s b)
theorem ThKv.go (W : WellAt w g H) (s : Go w g H H') : ∀ {vs : List (Key × V)} {ds : List (PyData × PyData)}, ThKv w g H vs ds → ThKv w g H' vs ds
  | _, _, .nil => .nil
  | _, _, .cons a b => .cons (Th.go W s a) (ThKv.go W s b)
end
mutual
theorem Th.toD {K : PySem.W.Frag} : ∀ {v : V} {d : PyData}, Th w g H v d → DpD K H v d
  | _, _, .non => .non
  | _, _, .bl b => .bl b
  | _, _, .int i => .int i
  | _, _, .str x => .str x
  | _, _, .lst _ _ h t => .lst (sqL_of h) (ThAll.toD t)
  | _, _, .tup h t => .tup (sqT_of h) (ThAll.toD t)
  | _, _, .dct _ _ h t => .dct h (ThKv.toD t)
theorem ThAll.toD {K : PySem.W.Frag} : ∀ {vs : List V} {ds : List PyData}, ThAll w g H vs ds → DpDAll K H vs ds
  | _, _, .nil => .nil
  | _, _, .cons a b => .cons (Th.toD a) (ThAll.toD b)
theorem ThKv.toD {K : PySem.W.Frag} : ∀ {vs : List (Key × V)} {ds : List (PyData × PyData)}, ThKv w g H vs ds → DpDKv K H vs ds
  | _, _, .nil => .nil
  | _, _, .cons a b => .cons (Th.toD a) (ThKv.toD b)
end
theorem Th.same {v : V} {d : PyData} (W : WellAt w g H) (t : Th w g H v d) (s : Same H H') : Th w g H' v d := t.go W (Go.of s)
theorem ThAll.length : ∀ {vs : List V} {ds : List PyData}, ThAll w g H vs ds → vs.length = ds.length
  | _, _, .nil => rfl
  | _, _, .cons _ b => by rw [List.length_cons, List.length_cons, ThAll.length b]
theorem ThAll.mem : ∀ {vs : List V} {ds : List PyData} {x : V}, ThAll w g H vs ds → x ∈ vs → ∃ d ∈ ds, Th w g H x d
  | _, _, _, .nil, h => by cases h
  | _, _, x, .cons a b, h => by
    rcases List.mem_cons.mp h with e | h
    · subst e
      exact ⟨_, List.mem_cons_self, a⟩
    · obtain ⟨d, h1, h2⟩ := ThAll.mem b h
      exact ⟨d, List.mem_cons_of_mem _ h1, h2⟩
def isTupD : PyData → Bool
  | .tuple _ => true
  | _ => false
def isStrD : PyData → Bool
  | .str _ => true
  | _ => false
theorem Th.isTup {K : PySem.W.Frag} {v : V} {d : PyData} (t : Th w g H v d) : ∃ ty, TyX K H v ty ∧ PySem.W.kitOne K ty (.type "tuple") = some (isTupD d) := by
  cases t with
  | non => exact ⟨_, .base .non, rfl⟩
  | bl b => exact ⟨_, .base (.bl b), rfl⟩
  | int i => exact ⟨_, .base (.int i), rfl⟩
  | str x => exact ⟨_, .base (.str x), rfl⟩
  | lst _ _ h _ => exact ⟨_, .base (.lst h), rfl⟩
  | tup h _ => exact ⟨_, .base (.tup h), rfl⟩
  | dct _ _ h _ => exact ⟨_, .base (.dK h), rfl⟩
theorem Th.isStr {K : PySem.W.Frag} {v : V} {d : PyData} (t : Th w g H v d) : ∃ ty, TyX K H v ty ∧ PySem.W.kitOne K ty (.type "str") = some (isStrD d) := by
  cases t with
  | non => exact ⟨_, .base .non, rfl⟩
  | bl b => exact ⟨_, .base (.bl b), rfl⟩
  | int i => exact ⟨_, .base (.int i), rfl⟩
  | str x => exact ⟨_, .base (.str x), rfl⟩
  | lst _ _ h _ => exact ⟨_, .base (.lst h), rfl⟩
  | tup h _ => exact ⟨_, .base (.tup h), rfl⟩
  | dct _ _ h _ => exact ⟨_, .base (.dK h), rfl⟩
end
end G1
/-! values of all kinds: how great they are, repr of any of them -/
namespace G1
open PySem PySem.Spec PyProof.Rows L2
/-! ### as the heap goes on -/
def TupOk (w g : Addr) (H : Hp) : Prop := ∀ a xs, H a = some (.tup xs) → a ≠ w ∧ a ≠ g
section
variable {w g : Addr} {H H' : Hp}
mutual
theorem Th.go2 (W : TupOk w g H) (s : Go w g H H') : ∀ {v : V} {d : PyData}, Th w g H v d → Th w g H' v d
  | _, _, .non => .non
  | _, _, .bl b => .bl b
  | _, _, .int i => .int i
  | _, _, .str x => .str x
  | _, _, .lst n1 n2 h t => .lst n1 n2 (s _ _ n1 n2 h) (ThAll.go2 W s t)
  | _, _, .tup h t => .tup (s _ _ (W _ _ h).1 (W _ _ h).2 h) (ThAll.go2 W s t)
  | _, _, .dct n1 n2 h t => .dct n1 n2 (s _ _ n1 n2 h) (ThKv.go2 W s t)
theorem ThAll.go2 (W : TupOk w g H) (s : Go w g H H') : ∀ {vs : List V} {ds : List PyData}, ThAll w g H vs ds → ThAll w g H' vs ds
  | _, _, .nil => .nil
  | _, _, .cons a b => .cons (Th.go2 W s a) (ThAll.go2 W s b)
theorem ThKv.go2 (W : TupOk w g H) (s : Go w g H H') : ∀ {vs : List (Key × V)} {ds : List (PyData × PyData)}, ThKv w g H vs ds → ThKv w g H' vs ds
  | _, _, .nil => .nil
  | _, _, .cons a b => .cons (Th.go2 W s a) (ThKv.go2 W s b)
end
mutual
theorem Th.same2 (s : Same H H') : ∀ {v : V} {d : PyData}, Th w g H v d → Th w g H' v d
  | _, _, .non => .non
  | _, _, .bl b => .bl b
  | _, _, .int i => .int i
  | _, _, .str x => .str x
  | _, _, .lst n1 n2 h t => .lst n1 n2 (s _ _ h) (ThAll.same2 s t)
  | _, _, .tup h t => .tup (s _ _ h) (ThAll.same2 s t)
  | _, _, .dct n1 n2 h t => .dct n1 n2 (s _ _ h) (ThKv.same2 s t)
theorem ThAll.same2 (s : Same H H') : ∀ {vs : List V} {ds : List PyData}, ThAll w g H vs ds → ThAll w g H' vs ds
  | _, _, .nil => .nil
  | _, _, .cons a b => .cons (Th.same2 s a) (ThAll.same2 s b)
theorem ThKv.same2 (s : Same H H') : ∀ {vs : List (Key × V)} {ds : List (PyData × PyData)}, ThKv w g H vs ds → ThKv w g H' vs ds
  | _, _, .nil => .nil
  | _, _, .cons a b => .cons (Th.same2 s a) (ThKv.same2 s b)
end
theorem ThAll.get {vs : List V} {ds : List PyData} (t : ThAll w g H vs ds) : ∀ {i : Nat} {v : V}, vs[i]? = some v → ∃ d, ds[i]? = some d ∧ Th w g H v d := by
  induction vs generalizing ds with
  | nil => intro i v h; simp at h
  | cons a vs ih =>
    cases t with
    | cons x xs =>
      intro i v h
      cases i with
      | zero =>
        obtain rfl := Option.some.inj h
        exact ⟨_, rfl, x⟩
      | succ i => exact ih xs h
theorem ThAll.append {vs us : List V} {ds es : List PyData} (t : ThAll w g H vs ds) (u : ThAll w g H us es) : ThAll w g H (vs ++ us) (ds ++ es) := by
  induction vs generalizing ds with
  | nil => cases t; exact u
  | cons a vs ih => cases t with | cons x xs => exact .cons x (ih xs)
theorem ThAll.take {vs : List V} {ds : List PyData} (t : ThAll w g H vs ds) : ∀ n, ThAll w g H (vs.take n) (ds.take n) := by
  induction vs generalizing ds with
  | nil => intro n; cases t; simp; exact .nil
  | cons a vs ih =>
    intro n
    cases t with
    | cons x xs =>
      cases n with
      | zero => exact .nil
      | succ n => exact .cons x (ih xs n)
theorem ThAll.drop {vs : List V} {ds : List PyData} (t : ThAll w g H vs ds) : ∀ n, ThAll w g H (vs.drop n) (ds.drop n) := by
  induction vs generalizing ds with
  | nil => intro n; cases t; simp; exact .nil
  | cons a vs ih =>
    intro n
    cases t with
    | cons x xs =>
      cases n with
      | zero => exact .cons x xs
      | succ n => exact ih xs n
theorem ThAll.rev {vs : List V} {ds : List PyData} (t : ThAll w g H vs ds) : ThAll w g H vs.reverse ds.reverse := by
  induction vs generalizing ds with
  | nil => cases t; exact .nil
  | cons a vs ih =>
    cases t with
    | cons x xs =>
      rw [List.reverse_cons, List.reverse_cons]
      exact (ih xs).append (.cons x .nil)
end
/-! ### how great they are -/
mutual
def Ok (B : Nat) : PyData → Prop
  | .none | .bool _ => True
  | .int i => i.natAbs ≤ B
  | .str x => ∀ c ∈ x.cps.toList, c < 16 ^ 8
  | .list xs | .tuple xs => OkAll B xs
  | .dict kvs => OkKv B kvs
def OkAll (B : Nat) : List PyData → Prop
  | [] => True
  | x :: xs => Ok B x ∧ OkAll B xs
def OkKv (B : Nat) : List (PyData × PyData) → Prop
  | [] => True
  | (k, v) :: r => Ok B k ∧ Ok B v ∧ OkKv B r
end
mutual
theorem Ok.mono {B C : Nat} (h : B ≤ C) : ∀ {d : PyData}, Ok B d → Ok C d
  | .none, _ => by simp [Ok]
  | .bool _, _ => by simp [Ok]
  | .int i, a => by simp only [Ok] at *; omega
  | .str x, a => by simp only [Ok] at *; exact a
  | .list xs, a => by simp only [Ok] at *; exact OkAll.mono h a
  | .tuple xs, a => by simp only [Ok] at *; exact OkAll.mono h a
  | .dict kvs, a => by simp only [Ok] at *; exact OkKv.mono h a
theorem OkAll.mono {B C : Nat} (h : B ≤ C) : ∀ {d : List PyData}, OkAll B d → OkAll C d
  | [], _ => by simp [OkAll]
  | x :: xs, a => by
    simp only [OkAll] at *
    exact ⟨Ok.mono h a.1, OkAll.mono h a.2⟩
theorem OkKv.mono {B C : Nat} (h : B ≤ C) : ∀ {d : List (PyData × PyData)}, OkKv B d → OkKv C d
  | [], _ => by simp [OkKv]
  | (k, v) :: r, a => by
    simp only [OkKv] at *
    exact ⟨Ok.mono h a.1, Ok.mono h a.2.1, OkKv.mono h a.2.2⟩
end
theorem okAll_iff {B : Nat} : ∀ {ds : List PyData}, OkAll B ds ↔ ∀ d ∈ ds, Ok B d
  | [] => by simp [OkAll]
  | x :: xs => by
    simp only [OkAll, List.mem_cons, forall_eq_or_imp]
    rw [okAll_iff]
theorem ok_tup {B : Nat} {ds : List PyData} : Ok B (.tuple ds) ↔ ∀ d ∈ ds, Ok B d := by simp only [Ok]; exact okAll_iff
theorem ok_lst {B : Nat} {ds : List PyData} : Ok B (.list ds) ↔ ∀ d ∈ ds, Ok B d := by simp only [Ok]; exact okAll_iff
theorem log_of {i : Int} {B : Nat} (h : i.natAbs ≤ B) (hB : B < 10 ^ 38) : i.natAbs.log2 < 1920 := by
  by_cases z : i.natAbs = 0
  · rw [z]; decide
  · exact (Nat.log2_lt z).mpr (Nat.lt_of_le_of_lt h (Nat.lt_trans hB (by decide)))
mutual
theorem Ok.shows {B : Nat} (hB : B < 10 ^ 38) : ∀ {d : PyData}, Ok B d → d.showable = true ∧ d.leavesShort 40 = true
  | .none, _ => ⟨rfl, rfl⟩
  | .bool _, _ => ⟨rfl, rfl⟩
  | .int i, a => by
    simp only [Ok] at a
    refine ⟨by simp only [PyData.showable]; exact decide_eq_true (log_of a hB), ?_⟩
    simp only [PyData.leavesShort]
    refine decide_eq_true ?_
    have := int_text_length_le10 (a := i) (k := 38) (by decide) (by omega)
    show (Str.ofString (toString i)).length ≤ 40
    rw [PySem.ofString_length]
    omega
  | .str x, a => by
    simp only [Ok] at a
    refine ⟨rfl, ?_⟩
    simp only [PyData.leavesShort, List.all_eq_true, decide_eq_true_eq]
    exact a
  | .list xs, a => by
    simp only [Ok] at a
    simp only [PyData.showable, PyData.leavesShort]
    exact OkAll.shows hB a
  | .tuple xs, a => by
    simp only [Ok] at a
    simp only [PyData.showable, PyData.leavesShort]
    exact OkAll.shows hB a
  | .dict kvs, a => by
    simp only [Ok] at a
    simp only [PyData.showable, PyData.leavesShort]
    exact OkKv.shows hB a
theorem OkAll.shows {B : Nat} (hB : B < 10 ^ 38) : ∀ {d : List PyData}, OkAll B d → PyData.showableAll d = true ∧ PyData.leavesShortAll 40 d = true
  | [], _ => ⟨rfl, rfl⟩
  | x :: xs, a => by
    simp only [OkAll] at a
    obtain ⟨h1, h2⟩ := Ok.shows hB a.1
    obtain ⟨h3, h4⟩ := OkAll.shows hB a.2
    simp only [PyData.showableAll, PyData.leavesShortAll, h1, h2, h3, h4, Bool.and_self, and_self]
theorem OkKv.shows {B : Nat} (hB : B < 10 ^ 38) : ∀ {d : List (PyData × PyData)}, OkKv B d → PyData.showableKv d = true ∧ PyData.leavesShortKv 40 d = true
  | [], _ => ⟨rfl, rfl⟩
  | (k, v) :: r, a => by
    simp only [OkKv] at a
    obtain ⟨h1, h2⟩ := Ok.shows hB a.1
    obtain ⟨h3, h4⟩ := Ok.shows hB a.2.1
    obtain ⟨h5, h6⟩ := OkKv.shows hB a.2.2
    simp only [PyData.showableKv, PyData.leavesShortKv, h1, h2, h3, h4, h5, h6, Bool.and_self, and_self]
end
/-! ### weights and depths of items put together -/
theorem weight_app : ∀ (a b : List PyData), PyData.weightAll (a ++ b) = PyData.weightAll a + PyData.weightAll b
  | [], b => by simp [PyData.weightAll]
  | x :: a, b => by
    simp only [List.cons_append, PyData.weightAll, weight_app a b]
    omega
theorem weight_take (a : List PyData) (n : Nat) : PyData.weightAll (a.take n) + PyData.weightAll (a.drop n) = PyData.weightAll a := by
  rw [← weight_app, List.take_append_drop]
theorem weight_rev : ∀ a : List PyData, PyData.weightAll a.reverse = PyData.weightAll a
  | [] => rfl
  | x :: a => by
    rw [List.reverse_cons, weight_app, weight_rev a]
    simp only [PyData.weightAll]
    omega
theorem weight_one (x : PyData) : PyData.weightAll [x] = x.weight + 1 := by simp [PyData.weightAll]
theorem depth_all_le {n : Nat} : ∀ {a : List PyData}, PyData.depthAll a ≤ n ↔ ∀ d ∈ a, d.depth ≤ n
  | [] => by simp [PyData.depthAll]
  | x :: a => by
    simp only [PyData.depthAll, List.mem_cons, forall_eq_or_imp]
    rw [← depth_all_le (a := a)]
    omega
/-! ### repr of any value -/
def rReprT (K : PySem.W.Frag) : List V → Hp → VK → Prop := fun xs H Q => ∃ (v : V) (d : PyData), xs = [v] ∧ DpD K H v d ∧ d.showable = true ∧ d.depth ≤ 60 ∧ d.shown.length ≤ sizeLine ∧ Q (.str d.shown) H
section
variable {X : Cx}
theorem call_reprT (hb : HasSys X.base) (hgd : X.A.guards = some []) (hu : X.A.units + 64 < cLine) : CallR X (.builtin "repr") (rReprT X.K) := by
  intro pins s σ H xs us Q I r h
  obtain ⟨v, d, rfl, hd, hs, hdp, hz, q⟩ := h
  cases hd with
  | non =>
    obtain ⟨u, rfl, ru⟩ := vals1 r
    obtain rfl : u = Value.none := ru
    exact PySem.P.repr_of_none ⟨.str _, H, I.tok _, ⟨_, rfl⟩, q⟩
  | bl b =>
    obtain ⟨u, rfl, ru⟩ := vals1 r
    obtain rfl : u = Value.bool b := ru
    refine PySem.P.repr_of_bool ⟨.str _, H, I.tok _, ⟨_, rfl⟩, ?_⟩
    cases b <;> exact q
  | int i =>
    obtain ⟨u, rfl, ru⟩ := vals1 r
    obtain ⟨t, rfl⟩ := ru
    have hi : i.natAbs.log2 < 1920 := by simpa only [PyData.showable, decide_eq_true_eq] using hs
    exact PySem.P.repr_of_int hi ⟨.str _, H, I.tok _, ⟨_, rfl⟩, q⟩
  | str x =>
    obtain ⟨u, rfl, ru⟩ := vals1 r
    obtain ⟨t, rfl⟩ := ru
    exact PySem.P.repr_of_str ⟨.str _, H, I.tok _, ⟨_, rfl⟩, q⟩ hz
  | lst h1 h2 => exact call_reprDD hb hgd hu pins s σ H _ us Q I r ⟨_, _, rfl, .lst h1 h2, hs, hdp, hz, q⟩
  | tup h1 h2 => exact call_reprDD hb hgd hu pins s σ H _ us Q I r ⟨_, _, rfl, .tup h1 h2, hs, hdp, hz, q⟩
  | dct h1 h2 => exact call_reprDD hb hgd hu pins s σ H _ us Q I r ⟨_, _, rfl, .dct h1 h2, hs, hdp, hz, q⟩
end
/-- repr of a value that is not too great -/
theorem repr_val {K : PySem.W.Frag} {H : Hp} {R : PyData → Prop} {v : V} {d : PyData} {B : Nat} (hd : DpD K H v d) (ok : Ok B d) (hB : B < 10 ^ 38) (hw : d.weight ≤ 300000) (hdp : d.depth ≤ 60) (q : R d) :
    ∃ (v' : V) (d' : PyData), [v] = [v'] ∧ DpD K H v' d' ∧ d'.showable = true ∧ d'.depth ≤ 60 ∧ d'.shown.length ≤ sizeLine ∧ R d' := by
  obtain ⟨h1, h2⟩ := ok.shows hB
  have s := PyData.shown_le 40 (by decide) d h2
  exact ⟨v, d, rfl, hd, h1, hdp, Nat.le_trans s (Nat.le_trans (by omega : _ ≤ 42 * 300000 + 40) (by decide)), q⟩
/-! ### kinds -/
def isIntD : PyData → Bool
  | .int _ | .bool _ => true
  | _ => false
def isBoolD : PyData → Bool
  | .bool _ => true
  | _ => false
section
variable {w g : Addr} {H : Hp}
theorem Th.isInt {K : PySem.W.Frag} {v : V} {d : PyData} (t : Th w g H v d) : ∃ ty, TyX K H v ty ∧ PySem.W.kitOne K ty (.type "int") = some (isIntD d) := by
  cases t with
  | non => exact ⟨_, .base .non, rfl⟩
  | bl b => exact ⟨_, .base (.bl b), rfl⟩
  | int i => exact ⟨_, .base (.int i), rfl⟩
  | str x => exact ⟨_, .base (.str x), rfl⟩
  | lst _ _ h _ => exact ⟨_, .base (.lst h), rfl⟩
  | tup h _ => exact ⟨_, .base (.tup h), rfl⟩
  | dct _ _ h _ => exact ⟨_, .base (.dK h), rfl⟩
theorem Th.isBool {K : PySem.W.Frag} {v : V} {d : PyData} (t : Th w g H v d) : ∃ ty, TyX K H v ty ∧ PySem.W.kitOne K ty (.type "bool") = some (isBoolD d) := by
  cases t with
  | non => exact ⟨_, .base .non, rfl⟩
  | bl b => exact ⟨_, .base (.bl b), rfl⟩
  | int i => exact ⟨_, .base (.int i), rfl⟩
  | str x => exact ⟨_, .base (.str x), rfl⟩
  | lst _ _ h _ => exact ⟨_, .base (.lst h), rfl⟩
  | tup h _ => exact ⟨_, .base (.tup h), rfl⟩
  | dct _ _ h _ => exact ⟨_, .base (.dK h), rfl⟩
end
end G1
/-! truths among the numbers; how great data are that are put together; things laid one after another -/
namespace G1
open PySem PySem.Spec PyProof.Rows L2
section
variable {X : Cx}
theorem op_addX : OpR X (binaryOp .Add) (fun x y H Q => (∃ i j, x = .int i ∧ y = .int j ∧ Q (.int (i + j)) H) ∨ ∃ b j, x = .bl b ∧ y = .int j ∧ Q (.int ((if b = true then (1 : Int) else 0) + j)) H) := by
  intro pins s σ H x y v u Q I rx ry h
  rcases h with ⟨i, j, rfl, rfl, q⟩ | ⟨b, j, rfl, rfl, q⟩
  · obtain ⟨t, rfl⟩ := rx
    obtain ⟨t', rfl⟩ := ry
    exact add_int ⟨.int _, H, I.tok _, ⟨_, rfl⟩, q⟩
  · cases rx
    obtain ⟨t', rfl⟩ := ry
    exact PySem.IntBool.add_bool_int ⟨.int _, H, I.tok _, ⟨_, rfl⟩, q⟩
theorem op_subX : OpR X (binaryOp .Sub) (fun x y H Q => (∃ i j, x = .int i ∧ y = .int j ∧ Q (.int (i - j)) H) ∨ (∃ b j, x = .bl b ∧ y = .int j ∧ Q (.int ((if b = true then (1 : Int) else 0) - j)) H) ∨
    ∃ i b, x = .int i ∧ y = .bl b ∧ Q (.int (i - if b = true then (1 : Int) else 0)) H) := by
  intro pins s σ H x y v u Q I rx ry h
  rcases h with ⟨i, j, rfl, rfl, q⟩ | ⟨b, j, rfl, rfl, q⟩ | ⟨i, b, rfl, rfl, q⟩
  · obtain ⟨t, rfl⟩ := rx
    obtain ⟨t', rfl⟩ := ry
    exact sub_int ⟨.int _, H, I.tok _, ⟨_, rfl⟩, q⟩
  · cases rx
    obtain ⟨t', rfl⟩ := ry
    exact PySem.IntBool.sub_bool_int ⟨.int _, H, I.tok _, ⟨_, rfl⟩, q⟩
  · obtain ⟨t, rfl⟩ := rx
    cases ry
    exact PySem.IntBool.sub_int_bool ⟨.int _, H, I.tok _, ⟨_, rfl⟩, q⟩
theorem call_strX : CallR X (.type "str") (fun xs H Q => (∃ i, xs = [.int i] ∧ i.natAbs.log2 < 1920 ∧ Q (.str (toString i)) H) ∨ ∃ b, xs = [.bl b] ∧ Q (.str (if b then "True" else "False")) H) := by
  intro pins s σ H xs us Q I r h
  rcases h with ⟨i, rfl, hz, q⟩ | ⟨b, rfl, q⟩
  · obtain ⟨u, rfl, t, rfl⟩ := vals1 r
    exact PySem.P.str_of_int hz ⟨.str _, H, I.tok _, ⟨_, rfl⟩, q⟩
  · obtain ⟨u, rfl, r1⟩ := vals1 r
    cases r1
    exact PySem.P.str_of_bool ⟨.str _, H, I.tok _, ⟨_, rfl⟩, q⟩
end
/-! ### how great -/
def cutD (ds : List PyData) (lo hi : Option Int) : List PyData := (ds.drop (HT.sIx ds.length 0 lo)).take (HT.sIx ds.length ds.length hi - HT.sIx ds.length 0 lo)
theorem ThAll.cut {w g : Addr} {H : Hp} {xs : List V} {ds : List PyData} (t : ThAll w g H xs ds) (lo hi : Option Int) : ThAll w g H (cutV xs lo hi) (cutD ds lo hi) := by
  unfold cutV cutD
  rw [t.length]
  exact (t.drop _).take _
structure Bd (B W D : Nat) (d : PyData) : Prop where
  ok : Ok B d
  wt : d.weight ≤ W
  dp : d.depth ≤ D
structure BdL (B W D : Nat) (ds : List PyData) : Prop where
  ok : ∀ d ∈ ds, Ok B d
  wt : PyData.weightAll ds ≤ W
  dp : ∀ d ∈ ds, d.depth ≤ D
section
variable {B W D B' W' D' : Nat} {d : PyData} {ds es : List PyData}
theorem Bd.mono (x : Bd B W D d) (h1 : B ≤ B') (h2 : W ≤ W') (h3 : D ≤ D') : Bd B' W' D' d := ⟨x.ok.mono h1, Nat.le_trans x.wt h2, Nat.le_trans x.dp h3⟩
theorem BdL.mono (x : BdL B W D ds) (h1 : B ≤ B') (h2 : W ≤ W') (h3 : D ≤ D') : BdL B' W' D' ds := ⟨fun d h => (x.ok d h).mono h1, Nat.le_trans x.wt h2, fun d h => Nat.le_trans (x.dp d h) h3⟩
theorem BdL.tup (x : BdL B W D ds) : Bd B W (D + 1) (.tuple ds) := ⟨ok_tup.mpr x.ok, by simpa [PyData.weight] using x.wt, by simp only [PyData.depth]; have := depth_all_le.mpr x.dp; omega⟩
theorem BdL.lst (x : BdL B W D ds) : Bd B W (D + 1) (.list ds) := ⟨ok_lst.mpr x.ok, by simpa [PyData.weight] using x.wt, by simp only [PyData.depth]; have := depth_all_le.mpr x.dp; omega⟩
theorem Bd.un (x : Bd B W D (.tuple ds)) : 1 ≤ D ∧ BdL B W (D - 1) ds := by
  obtain ⟨h1, h2, h3⟩ := x
  simp only [PyData.weight] at h2
  simp only [PyData.depth] at h3
  exact ⟨by omega, ok_tup.mp h1, h2, depth_all_le.mp (by omega)⟩
theorem wt_drop (ds : List PyData) (n : Nat) : PyData.weightAll (ds.drop n) ≤ PyData.weightAll ds := by have := weight_take ds n; omega
theorem wt_take (ds : List PyData) (n : Nat) : PyData.weightAll (ds.take n) ≤ PyData.weightAll ds := by have := weight_take ds n; omega
theorem BdL.cut (x : BdL B W D ds) (lo hi : Option Int) : BdL B W D (cutD ds lo hi) := by
  unfold cutD
  exact ⟨fun d h => x.ok d (List.mem_of_mem_drop (List.mem_of_mem_take h)), Nat.le_trans (wt_take _ _) (Nat.le_trans (wt_drop _ _) x.wt), fun d h => x.dp d (List.mem_of_mem_drop (List.mem_of_mem_take h))⟩
theorem BdL.app (x : BdL B W D ds) (y : BdL B W' D es) : BdL B (W + W') D (ds ++ es) := by
  refine ⟨fun d h => (List.mem_append.mp h).elim (x.ok d) (y.ok d), ?_, fun d h => (List.mem_append.mp h).elim (x.dp d) (y.dp d)⟩
  rw [weight_app]
  have := x.wt
  have := y.wt
  omega
theorem BdL.one (x : Bd B W D d) : BdL B (W + 1) D [d] := by
  refine ⟨fun e h => ?_, ?_, fun e h => ?_⟩
  · rw [List.mem_singleton] at h
    exact h ▸ x.ok
  · rw [weight_one]
    have := x.wt
    omega
  · rw [List.mem_singleton] at h
    exact h ▸ x.dp
theorem BdL.rev (x : BdL B W D ds) : BdL B W D ds.reverse := ⟨fun d h => x.ok d (List.mem_reverse.mp h), by rw [weight_rev]; exact x.wt, fun d h => x.dp d (List.mem_reverse.mp h)⟩
theorem wt_mem : ∀ {ds : List PyData}, d ∈ ds → d.weight + 1 ≤ PyData.weightAll ds
  | [], h => by cases h
  | e :: ds, h => by
    simp only [PyData.weightAll]
    rcases List.mem_cons.mp h with rfl | h
    · omega
    · have := wt_mem h
      omega
theorem wt_len : ∀ ds : List PyData, ds.length ≤ PyData.weightAll ds
  | [] => Nat.zero_le _
  | e :: ds => by
    simp only [PyData.weightAll, List.length_cons]
    have := wt_len ds
    omega
theorem BdL.mem (x : BdL B W D ds) (h : d ∈ ds) : Bd B W D d := ⟨x.ok d h, by have := wt_mem h; have := x.wt; omega, x.dp d h⟩
theorem BdL.len (x : BdL B W D ds) : ds.length ≤ W := Nat.le_trans (wt_len ds) x.wt
theorem log_wt {i : Int} {k : Nat} (h : i.natAbs < 2 ^ k) : PyData.weight (.int i) ≤ k := by
  show (if i == 0 then 0 else i.natAbs.log2 + 1) ≤ k
  split
  · omega
  · have z : i.natAbs ≠ 0 := fun e => by
      rename_i hz
      exact hz (by rw [Int.natAbs_eq_zero.mp e]; rfl)
    have := (Nat.log2_lt z).mpr h
    omega
theorem bd_int {i : Int} (h : i.natAbs ≤ B) (hB : B < 10 ^ 38) : Bd B 127 0 (.int i) := ⟨by simp only [Ok]; exact h, log_wt (Nat.lt_of_le_of_lt h (Nat.lt_trans hB (by decide))), by simp [PyData.depth]⟩
theorem bd_bl (b : Bool) : Bd B 0 0 (.bool b) := ⟨by simp [Ok], by simp [PyData.weight], by simp [PyData.depth]⟩
theorem bd_non : Bd B 0 0 .none := ⟨by simp [Ok], by simp [PyData.weight], by simp [PyData.depth]⟩
theorem cps_small (s : String) : ∀ c ∈ (Str.ofString s).cps.toList, c < 16 ^ 8 := by
  intro c hc
  rw [Str.ofString_eq_toList] at hc
  obtain ⟨x, _, rfl⟩ := List.mem_map.mp hc
  have h := x.valid
  have : x.toNat < 0x110000 := by
    rcases h with h | ⟨_, h⟩
    · exact Nat.lt_trans h (by decide)
    · exact h
  exact Nat.lt_trans this (by decide)
theorem bd_str (s : String) (h : (Str.ofString s).length ≤ W) : Bd B W 0 (.str (Str.ofString s)) := ⟨by simp only [Ok]; exact cps_small s, h, by simp [PyData.depth]⟩
end
/-! ### things laid one after another -/
section
variable {m : Str} {w g c p : Addr} {H0 H H' : Hp} {vs us : List V} {ds es : List PyData}
theorem DkC.tups (W : DkC m w g c H) : TupOk w g H := fun a xs h => ⟨(W.tup h).nw, (W.tup h).ng⟩
theorem ThAll.hd {v : V} {d : PyData} (t : ThAll w g H (v :: vs) (d :: ds)) : Th w g H v d := by cases t; assumption
theorem ThAll.tl {v : V} {d : PyData} (t : ThAll w g H (v :: vs) (d :: ds)) : ThAll w g H vs ds := by cases t; assumption
/-- the state of a def that lays things: since H0 nothing but the deck has changed, the deck stands, vs are things -/
structure Ly (m : Str) (w g c : Addr) (H0 H : Hp) (vs : List V) (ds : List PyData) : Prop where
  go : Go w g H0 H
  dk : DkC m w g c H
  th : ThAll w g H vs ds
theorem Ly.nil (W : DkC m w g c H) : Ly m w g c H H [] [] := ⟨fun _ _ _ _ e => e, W, .nil⟩
theorem Ly.same (y : Ly m w g c H0 H vs ds) (s : Same H H') : Ly m w g c H0 H' vs ds := ⟨y.go.trans (Go.of s), y.dk.same s, y.th.same2 s⟩
theorem Ly.goes (y : Ly m w g c H0 H vs ds) (s : Go w g H H') (W : DkC m w g c H') : Ly m w g c H0 H' vs ds := ⟨y.go.trans s, W, y.th.go2 y.dk.tups s⟩
theorem Ly.more {v : V} {d : PyData} (y : Ly m w g c H0 H vs ds) (t : Th w g H v d) : Ly m w g c H0 H (v :: vs) (d :: ds) := ⟨y.go, y.dk, .cons t y.th⟩
theorem Ly.addAll (y : Ly m w g c H0 H vs ds) (t : ThAll w g H us es) : Ly m w g c H0 H (us ++ vs) (es ++ ds) := ⟨y.go, y.dk, t.append y.th⟩
/-- a new tuple -/
theorem Ly.newT {ts : List V} {ks : List PyData} (y : Ly m w g c H0 H vs ds) (np : H p = none) (hU : upd H p (.tup ts) = H') (t : ThAll w g H ts ks) : Ly m w g c H0 H' (.ref p :: vs) (.tuple ks :: ds) := by
  obtain ⟨s, W, a⟩ := new_ofC y.dk np hU
  exact ⟨y.go.trans (Go.of s), W, .cons (.tup a.at_ (t.same2 s)) (y.th.same2 s)⟩
/-- a new list -/
theorem Ly.newL {ts : List V} {ks : List PyData} (y : Ly m w g c H0 H vs ds) (np : H p = none) (hU : upd H p (.lst ts) = H') (t : ThAll w g H ts ks) : Ly m w g c H0 H' (.ref p :: vs) (.list ks :: ds) := by
  obtain ⟨s, W, a⟩ := new_ofC y.dk np hU
  exact ⟨y.go.trans (Go.of s), W, .cons (.lst a.nw a.ng a.at_ (t.same2 s)) (y.th.same2 s)⟩
/-- a new list of things that is no thing to keep: apart from the deck -/
theorem Ly.newA {ts : List V} (y : Ly m w g c H0 H vs ds) (np : H p = none) (hU : upd H p (.lst ts) = H') : Ly m w g c H0 H' vs ds ∧ Ac w g c H' p (.lst ts) := by
  obtain ⟨s, W, a⟩ := new_ofC y.dk np hU
  exact ⟨⟨y.go.trans (Go.of s), W, y.th.same2 s⟩, a⟩
theorem Ly.newD {kvs : List (Key × V)} {ks : List (PyData × PyData)} (y : Ly m w g c H0 H vs ds) (np : H p = none) (hU : upd H p (.dK kvs) = H') (t : ThKv w g H kvs ks) : Ly m w g c H0 H' (.ref p :: vs) (.dict ks :: ds) := by
  obtain ⟨s, W, a⟩ := new_ofC y.dk np hU
  exact ⟨y.go.trans (Go.of s), W, .cons (.dct a.nw a.ng a.at_ (ThKv.same2 s t)) (y.th.same2 s)⟩
/-- a tuple that stands there -/
theorem Ly.oldT {ts : List V} {ks : List PyData} (y : Ly m w g c H0 H vs ds) (hp : H p = some (.tup ts)) (t : ThAll w g H ts ks) : Ly m w g c H0 H (.ref p :: vs) (.tuple ks :: ds) := y.more (.tup hp t)
end
end G1
/-! things laid one after another beside a deck of any make: each with how great it is at most -/
namespace G1
open PySem PySem.Spec PyProof.Rows L2
/-- what a deck at w, g, c must be -/
structure Dok (D : Hp → Prop) (w g c : Addr) : Prop where
  same : ∀ {H H' : Hp}, D H → Same H H' → D H'
  fresh : ∀ {H : Hp} {p : Addr}, D H → H p = none → p ≠ w ∧ p ≠ g ∧ p ≠ c
  tup : ∀ {H : Hp} {a : Addr} {xs : List V}, D H → H a = some (.tup xs) → a ≠ w ∧ a ≠ g ∧ a ≠ c
  upd : ∀ {H : Hp} {p : Addr} {o : HO}, D H → p ≠ w → p ≠ g → p ≠ c → D (upd H p o)
theorem dok_dkC {m : Str} {w g c : Addr} : Dok (DkC m w g c) w g c :=
  ⟨fun D s => D.same s, fun D h => D.fresh h, fun D h => ⟨(D.tup h).nw, (D.tup h).ng, (D.tup h).nc⟩, fun D h1 h2 h3 => D.upd h1 h2 h3⟩
/-- a thing that is not too great -/
def Bt (B W D : Nat) (w g : Addr) (H : Hp) (v : V) : Prop := ∃ d, Th w g H v d ∧ Bd B W D d
def BtL (B W D : Nat) (w g : Addr) (H : Hp) (vs : List V) : Prop := ∃ ds, ThAll w g H vs ds ∧ BdL B W D ds
section
variable {B W D B' W' D' W1 W2 D1 D2 : Nat} {w g : Addr} {H H' : Hp} {v : V} {vs us : List V}
theorem Bt.non : Bt B 0 0 w g H .non := ⟨_, .non, bd_non⟩
theorem Bt.bl (b : Bool) : Bt B 0 0 w g H (.bl b) := ⟨_, .bl b, bd_bl b⟩
theorem Bt.int {i : Int} (h : i.natAbs ≤ B) (hB : B < 10 ^ 38) : Bt B 127 0 w g H (.int i) := ⟨_, .int i, bd_int h hB⟩
theorem Bt.str (s : String) (h : (Str.ofString s).length ≤ 20) : Bt B 20 0 w g H (.str (Str.ofString s)) := ⟨_, .str _, bd_str s h⟩
theorem repN_len (l : List Nat) : ∀ n, (repN n l).length = n * l.length
  | 0 => by simp [repN]
  | n + 1 => by
    show (l ++ repN n l).length = _
    rw [List.length_append, repN_len l n, Nat.succ_mul]
    omega
theorem repN_mem {l : List Nat} {c : Nat} : ∀ {n}, c ∈ repN n l → c ∈ l
  | 0, h => by simp [repN] at h
  | n + 1, h => by
    have h' : c ∈ l ++ repN n l := h
    rcases List.mem_append.mp h' with q | q
    · exact q
    · exact repN_mem q
theorem Bt.code {l : List Nat} (h : l.length ≤ W) (hc : ∀ k ∈ l, k < 16 ^ 8) : Bt B W 0 w g H (.str (C l)) :=
  ⟨_, .str _, by simp only [Ok]; exact hc, by rw [show PyData.weight (.str (C l)) = (C l).length from rfl, C_len]; exact h, by simp [PyData.depth]⟩
/-- the same sign again and again -/
theorem Bt.mulC {l : List Nat} {n : Nat} (hl : l.length ≤ 2) (hc : ∀ k ∈ l, k < 16 ^ 8) : Bt B (n * 2) 0 w g H (.str (Txt.mul (C l) (n : Int))) := by
  rw [C_mul l (by omega), Int.toNat_natCast]
  refine Bt.code ?_ fun k hk => hc k (repN_mem hk)
  rw [repN_len]
  exact Nat.mul_le_mul_left n hl
theorem Bt.rep {l : List Nat} {n : Int} (hl : l.length ≤ 2) (hc : ∀ k ∈ l, k < 16 ^ 8) : Bt B (n.toNat * 2) 0 w g H (.str (C (repN n.toNat l))) := by
  refine Bt.code ?_ fun k hk => hc k (repN_mem hk)
  rw [repN_len]
  exact Nat.mul_le_mul_left _ hl
theorem Bt.mono (x : Bt B W D w g H v) (h1 : B ≤ B') (h2 : W ≤ W') (h3 : D ≤ D') : Bt B' W' D' w g H v := by
  obtain ⟨d, t, b⟩ := x
  exact ⟨d, t, b.mono h1 h2 h3⟩
theorem BtL.mono (x : BtL B W D w g H vs) (h1 : B ≤ B') (h2 : W ≤ W') (h3 : D ≤ D') : BtL B' W' D' w g H vs := by
  obtain ⟨d, t, b⟩ := x
  exact ⟨d, t, b.mono h1 h2 h3⟩
theorem BtL.nil : BtL B 0 0 w g H [] := ⟨[], .nil, ⟨fun _ h => (by cases h), Nat.le_refl _, fun _ h => (by cases h)⟩⟩
theorem BtL.cons (x : Bt B W1 D1 w g H v) (y : BtL B W2 D2 w g H vs) : BtL B (W1 + 1 + W2) (max D1 D2) w g H (v :: vs) := by
  obtain ⟨d, t, b⟩ := x
  obtain ⟨ds, ts, bs⟩ := y
  exact ⟨d :: ds, .cons t ts, (BdL.one (b.mono (Nat.le_refl _) (Nat.le_refl _) (Nat.le_max_left D1 D2))).app (bs.mono (Nat.le_refl _) (Nat.le_refl _) (Nat.le_max_right D1 D2))⟩
theorem BtL.app (x : BtL B W1 D1 w g H vs) (y : BtL B W2 D2 w g H us) : BtL B (W1 + W2) (max D1 D2) w g H (vs ++ us) := by
  obtain ⟨ds, t, b⟩ := x
  obtain ⟨es, ts, bs⟩ := y
  exact ⟨ds ++ es, t.append ts, (b.mono (Nat.le_refl _) (Nat.le_refl _) (Nat.le_max_left D1 D2)).app (bs.mono (Nat.le_refl _) (Nat.le_refl _) (Nat.le_max_right D1 D2))⟩
theorem BtL.mem (x : BtL B W D w g H vs) (h : v ∈ vs) : Bt B W D w g H v := by
  obtain ⟨ds, t, b⟩ := x
  obtain ⟨d, hd, td⟩ := t.mem h
  exact ⟨d, td, b.mem hd⟩
theorem BtL.cut (x : BtL B W D w g H vs) (lo hi : Option Int) : BtL B W D w g H (cutV vs lo hi) := by
  obtain ⟨ds, t, b⟩ := x
  exact ⟨_, t.cut lo hi, b.cut lo hi⟩
theorem BtL.rev (x : BtL B W D w g H vs) : BtL B W D w g H vs.reverse := by
  obtain ⟨ds, t, b⟩ := x
  exact ⟨_, t.rev, b.rev⟩
theorem BtL.len (x : BtL B W D w g H vs) : vs.length ≤ W := by
  obtain ⟨ds, t, b⟩ := x
  rw [t.length]
  exact b.len
theorem BtL.tup {a : Addr} (x : BtL B W D w g H vs) (h : H a = some (.tup vs)) : Bt B W (D + 1) w g H (.ref a) := by
  obtain ⟨ds, t, b⟩ := x
  exact ⟨_, .tup h t, b.tup⟩
theorem BtL.lst {a : Addr} (x : BtL B W D w g H vs) (h : H a = some (.lst vs)) (n1 : a ≠ w) (n2 : a ≠ g) : Bt B W (D + 1) w g H (.ref a) := by
  obtain ⟨ds, t, b⟩ := x
  exact ⟨_, .lst n1 n2 h t, b.lst⟩
theorem Bt.go (x : Bt B W D w g H v) (T : TupOk w g H) (s : Go w g H H') : Bt B W D w g H' v := by
  obtain ⟨d, t, b⟩ := x
  exact ⟨d, t.go2 T s, b⟩
theorem BtL.go (x : BtL B W D w g H vs) (T : TupOk w g H) (s : Go w g H H') : BtL B W D w g H' vs := by
  obtain ⟨d, t, b⟩ := x
  exact ⟨d, t.go2 T s, b⟩
/-- n times the same things -/
theorem BtL.rep (x : BtL B W D w g H vs) : ∀ n : Nat, BtL B (n * W) D w g H (List.flatten (List.replicate n vs))
  | 0 => by simpa using BtL.nil.mono (Nat.le_refl _) (Nat.le_refl _) (Nat.zero_le D)
  | n + 1 => by
    have := x.app (BtL.rep x n)
    rw [List.replicate_succ, List.flatten_cons]
    exact this.mono (Nat.le_refl _) (by rw [Nat.succ_mul]; omega) (by omega)
theorem BtL.snoc (x : BtL B W1 D w g H vs) (y : Bt B W2 D w g H v) : BtL B (W1 + (W2 + 1)) D w g H (vs ++ [v]) :=
  (x.app (BtL.cons y BtL.nil)).mono (Nat.le_refl _) (by omega) (by omega)
end
/-- what has been laid: a thing; a list; a tuple -/
inductive En
  | th (v : V) (W D : Nat)
  | ls (a : Addr) (xs : List V) (W D : Nat)
  | tp (a : Addr) (xs : List V) (W D : Nat)
def En.ok (B : Nat) (w g c : Addr) (H : Hp) : En → Prop
  | .th v W D => Bt B W D w g H v
  | .ls a xs W D => Ac w g c H a (.lst xs) ∧ BtL B W D w g H xs
  | .tp a xs W D => H a = some (.tup xs) ∧ BtL B W D w g H xs
/-- since H0 nothing but the deck has changed, the deck stands, and what is laid stands -/
structure Lz (D : Hp → Prop) (B : Nat) (w g c : Addr) (H0 H : Hp) (es : List En) : Prop where
  ok : Dok D w g c
  go : Go w g H0 H
  dk : D H
  th : ∀ e ∈ es, En.ok B w g c H e
section
variable {D : Hp → Prop} {B W Dp : Nat} {w g c p a : Addr} {H0 H H' : Hp} {es : List En} {e : En} {v : V} {xs : List V}
theorem Lz.tups (y : Lz D B w g c H0 H es) : TupOk w g H := fun a xs h => ⟨(y.ok.tup y.dk h).1, (y.ok.tup y.dk h).2.1⟩
theorem En.ok.go {x : En} (h : En.ok B w g c H x) (T : TupOk w g H) (s : Go w g H H') : En.ok B w g c H' x := by
  cases x with
  | th v W D => exact Bt.go h T s
  | ls a xs W D => exact ⟨h.1.go s, h.2.go T s⟩
  | tp a xs W D => exact ⟨s _ _ (T _ _ h.1).1 (T _ _ h.1).2 h.1, h.2.go T s⟩
theorem Lz.nil (o : Dok D w g c) (h : D H) : Lz D B w g c H H [] := ⟨o, fun _ _ _ _ e => e, h, fun _ h => by cases h⟩
theorem Lz.goes (y : Lz D B w g c H0 H es) (s : Go w g H H') (h : D H') : Lz D B w g c H0 H' es :=
  ⟨y.ok, y.go.trans s, h, fun e he => (y.th e he).go y.tups s⟩
theorem Lz.same (y : Lz D B w g c H0 H es) (s : Same H H') : Lz D B w g c H0 H' es := y.goes (Go.of s) (y.ok.same y.dk s)
theorem Lz.add (y : Lz D B w g c H0 H es) (h : En.ok B w g c H e) : Lz D B w g c H0 H (e :: es) :=
  ⟨y.ok, y.go, y.dk, fun x hx => by
    rcases List.mem_cons.mp hx with q | q
    · subst q; exact h
    · exact y.th x q⟩
theorem Lz.addT (y : Lz D B w g c H0 H es) (h : Bt B W Dp w g H v) : Lz D B w g c H0 H (.th v W Dp :: es) := y.add h
theorem Lz.drop (y : Lz D B w g c H0 H (e :: es)) : Lz D B w g c H0 H es := ⟨y.ok, y.go, y.dk, fun x hx => y.th x (List.mem_cons_of_mem _ hx)⟩
theorem Lz.wipe (y : Lz D B w g c H0 H es) : Lz D B w g c H0 H [] := ⟨y.ok, y.go, y.dk, fun _ h => by cases h⟩
theorem Lz.again (y : Lz D B w g c H0 H es) : Lz D B w g c H H es := ⟨y.ok, fun _ _ _ _ e => e, y.dk, y.th⟩
theorem Lz.new (y : Lz D B w g c H0 H es) {o : HO} (np : H p = none) (hU : upd H p o = H') : Same H H' ∧ Lz D B w g c H0 H' es ∧ Ac w g c H' p o := by
  subst hU
  have f := y.ok.fresh y.dk np
  exact ⟨same_new np, y.same (same_new np), f.1, f.2.1, f.2.2, upd_same⟩
theorem Lz.newT (y : Lz D B w g c H0 H es) (np : H p = none) (hU : upd H p (.tup xs) = H') (t : BtL B W Dp w g H xs) : Lz D B w g c H0 H' (.tp p xs W Dp :: es) := by
  obtain ⟨s, y', a⟩ := y.new np hU
  exact y'.add ⟨a.at_, t.go y.tups (Go.of s)⟩
theorem Lz.newL (y : Lz D B w g c H0 H es) (np : H p = none) (hU : upd H p (.lst xs) = H') (t : BtL B W Dp w g H xs) : Lz D B w g c H0 H' (.ls p xs W Dp :: es) := by
  obtain ⟨s, y', a⟩ := y.new np hU
  exact y'.add ⟨a, t.go y.tups (Go.of s)⟩
theorem upd_twice {H : Hp} {p : Addr} {a b : HO} : upd (upd H p a) p b = upd H p b := by
  funext x
  by_cases e : x = p
  · rw [e, upd_same, upd_same]
  · rw [upd_ne e, upd_ne e, upd_ne e]
/-- a dict with nothing in it -/
theorem Lz.newD0 (y : Lz D B w g c H0 H es) (np : H p = none) (hU : upd H p (.dK []) = H') : Lz D B w g c H0 H' (.th (.ref p) 0 1 :: es) := by
  obtain ⟨s, y', a⟩ := y.new np hU
  exact y'.addT ⟨.dict [], .dct a.nw a.ng a.at_ .nil, ⟨by simp [Ok, OkKv], by decide, by decide⟩⟩
theorem Lz.get_tp (y : Lz D B w g c H0 H es) (h : .tp a xs W Dp ∈ es) : Bt B W (Dp + 1) w g H (.ref a) := (y.th _ h).2.tup (y.th _ h).1
theorem Lz.get_ls (y : Lz D B w g c H0 H es) (h : .ls a xs W Dp ∈ es) : Bt B W (Dp + 1) w g H (.ref a) := (y.th _ h).2.lst (y.th _ h).1.at_ (y.th _ h).1.nw (y.th _ h).1.ng
theorem Lz.get_th (y : Lz D B w g c H0 H es) (h : .th v W Dp ∈ es) : Bt B W Dp w g H v := y.th _ h
theorem Lz.ls_at (y : Lz D B w g c H0 H es) (h : .ls a xs W Dp ∈ es) : H a = some (.lst xs) := (y.th _ h).1.at_
theorem Lz.ls_ac (y : Lz D B w g c H0 H es) (h : .ls a xs W Dp ∈ es) : Ac w g c H a (.lst xs) := (y.th _ h).1
theorem Lz.tp_at (y : Lz D B w g c H0 H es) (h : .tp a xs W Dp ∈ es) : H a = some (.tup xs) := (y.th _ h).1
theorem Lz.ls_bt (y : Lz D B w g c H0 H es) (h : .ls a xs W Dp ∈ es) : BtL B W Dp w g H xs := (y.th _ h).2
theorem Lz.tp_bt (y : Lz D B w g c H0 H es) (h : .tp a xs W Dp ∈ es) : BtL B W Dp w g H xs := (y.th _ h).2
theorem Lz.kT {G : Prop} (y : Lz D B w g c H0 H es) (np : H p = none) (hU : upd H p (.tup xs) = H') (t : BtL B W Dp w g H xs) (k : Lz D B w g c H0 H' (.tp p xs W Dp :: es) → G) : G := k (y.newT np hU t)
theorem Lz.kL {G : Prop} (y : Lz D B w g c H0 H es) (np : H p = none) (hU : upd H p (.lst xs) = H') (t : BtL B W Dp w g H xs) (k : Lz D B w g c H0 H' (.ls p xs W Dp :: es) → G) : G := k (y.newL np hU t)
theorem Lz.kD0 {G : Prop} (y : Lz D B w g c H0 H es) (np : H p = none) (hU : upd H p (.dK []) = H') (k : Lz D B w g c H0 H' (.th (.ref p) 0 1 :: es) → G) : G := k (y.newD0 np hU)
/-- two lists one behind the other -/
theorem Lz.kCat {b : Addr} {ys : List V} {W2 D2 : Nat} {Q : VK} (y : Lz D B w g c H0 H es) (h1 : .ls a xs W Dp ∈ es) (h2 : .ls b ys W2 D2 ∈ es) (hz : W + W2 ≤ 10000000)
    (k : ∀ p H', Lz D B w g c H0 H' (.ls p (xs ++ ys) (W + W2) (max Dp D2) :: es) → Q (.ref p) H') :
    rCat (.ref a) (.ref b) H Q := by
  have l1 := (y.ls_bt h1).len
  have l2 := (y.ls_bt h2).len
  exact ⟨a, b, xs, ys, rfl, rfl, y.ls_at h1, y.ls_at h2, Nat.le_trans (by omega) (show 10000000 ≤ sizeLine by decide), fun p np => k p _ (y.newL np rfl ((y.ls_bt h1).app (y.ls_bt h2)))⟩
/-- a dict with one entry, displayed -/
theorem Lz.dict1 {W1 : Nat} {H1 H2 H3 : Hp} {k : Key} (z : Lz D B w g c H0 H1 es) (np : H1 p = none) (hU : upd H1 p (.dK []) = H2) (hV : upd H2 p (.dK [(k, v)]) = H3) (bk : Bd B W1 0 (kD k)) (b : Bt B W Dp w g H1 v) :
    Lz D B w g c H0 H3 (.th (.ref p) (W1 + W + 2) (Dp + 1) :: es) := by
  subst hU
  rw [upd_twice] at hV
  obtain ⟨s, y', a⟩ := z.new np hV
  obtain ⟨d, t, bd⟩ := b.go z.tups (Go.of s)
  refine y'.addT ⟨.dict [(kD k, d)], .dct a.nw a.ng a.at_ (.cons t .nil), ?_, ?_, ?_⟩
  · simp only [Ok, OkKv]
    exact ⟨bk.ok, bd.ok, trivial⟩
  · have h1 := bk.wt
    have h2 := bd.wt
    simp only [PyData.weight, PyData.weightKv]
    omega
  · have h1 := bk.dp
    have h2 := bd.dp
    simp only [PyData.depth, PyData.depthKv]
    omega
theorem Lz.kDk {G : Prop} (y : Lz D B w g c H0 H es) (np : H p = none) (hU : upd H p (.dK []) = H') (k : Lz D B w g c H0 H es ∧ H p = none ∧ upd H p (.dK []) = H' ∧ H' p = some (.dK []) → Lz D B w g c H0 H' (.th (.ref p) 0 1 :: es) → G) : G := k ⟨y, np, hU, by rw [← hU]; exact upd_same⟩ (y.newD0 np hU)
theorem Lz.kSl {K : PySem.W.Frag} {lo hi : Option Int} {Q : VK} (y : Lz D B w g c H0 H es) (h : .tp a xs W Dp ∈ es)
    (k : ∀ p H', Lz D B w g c H0 H' (.tp p (cutV xs lo hi) W Dp :: es) → Q (.ref p) H') : rSlA K (.ref a) lo hi H Q :=
  sl_all (y.tp_at h) fun p H' s hp => k p H' ((y.same s).add ⟨hp, ((y.tp_bt h).go y.tups (Go.of s)).cut lo hi⟩)
theorem Lz.kCatT {K : PySem.W.Frag} {b : Addr} {ys : List V} {W2 D2 : Nat} {Q : VK} (y : Lz D B w g c H0 H es) (h1 : .tp a xs W Dp ∈ es) (h2 : .tp b ys W2 D2 ∈ es) (hz : W + W2 ≤ 10000000)
    (k : ∀ p H', Lz D B w g c H0 H' (.tp p (xs ++ ys) (W + W2) (max Dp D2) :: es) → Q (.ref p) H') : rCatA K (.ref a) (.ref b) H Q := by
  have l1 := (y.tp_bt h1).len
  have l2 := (y.tp_bt h2).len
  exact cat_all (y.tp_at h1) (y.tp_at h2) (Nat.le_trans (by omega) (show 10000000 ≤ sizeLine by decide)) fun p H' s hp => k p H' ((y.same s).add ⟨hp, ((y.tp_bt h1).go y.tups (Go.of s)).app ((y.tp_bt h2).go y.tups (Go.of s))⟩)
end
section
variable {B W D : Nat} {w g : Addr} {H : Hp} {v : V} {xs : List V}
theorem BtL.split {j : Nat} (x : BtL B W D w g H xs) (h : xs[j]? = some v) : ∃ W1 W2 W3, BtL B W1 D w g H (xs.take j) ∧ Bt B W2 D w g H v ∧ BtL B W3 D w g H (xs.drop (j + 1)) ∧ W1 + (W2 + 1) + W3 ≤ W := by
  obtain ⟨ds, t, b⟩ := x
  obtain ⟨d, hd, td⟩ := t.get h
  have e1 := weight_take ds j
  have e2 : ds.drop j = d :: ds.drop (j + 1) := by
    obtain ⟨hi, rfl⟩ := List.getElem?_eq_some_iff.mp hd
    exact List.drop_eq_getElem_cons hi
  rw [e2] at e1
  simp only [PyData.weightAll] at e1
  have bw := b.wt
  refine ⟨_, _, _, ⟨_, t.take j, ⟨fun d h => b.ok d (List.mem_of_mem_take h), Nat.le_refl _, fun d h => b.dp d (List.mem_of_mem_take h)⟩⟩,
    ⟨d, td, ⟨b.ok d (List.mem_of_getElem? hd), Nat.le_refl _, b.dp d (List.mem_of_getElem? hd)⟩⟩,
    ⟨_, t.drop (j + 1), ⟨fun d h => b.ok d (List.mem_of_mem_drop h), Nat.le_refl _, fun d h => b.dp d (List.mem_of_mem_drop h)⟩⟩, ?_⟩
  omega
theorem Bt.tupE {ds : List PyData} {a : Addr} (h : H a = some (.tup xs)) (t : ThAll w g H xs ds) (b : Bd B W D (.tuple ds)) : 1 ≤ D ∧ BtL B W (D - 1) w g H xs := ⟨b.un.1, _, t, b.un.2⟩
end
theorem Lz.up {D : Hp → Prop} {B B' : Nat} {w g c : Addr} {H0 H : Hp} {es : List En} (y : Lz D B w g c H0 H es) (h : B ≤ B') : Lz D B' w g c H0 H es :=
  ⟨y.ok, y.go, y.dk, fun e he => by
    have := y.th e he
    cases e with
    | th v W D => exact Bt.mono this h (Nat.le_refl _) (Nat.le_refl _)
    | ls a xs W D => exact ⟨this.1, this.2.mono h (Nat.le_refl _) (Nat.le_refl _)⟩
    | tp a xs W D => exact ⟨this.1, this.2.mono h (Nat.le_refl _) (Nat.le_refl _)⟩⟩
/-- the same tuple with a better bound -/
theorem Lz.fine {D : Hp → Prop} {B W W' Dp : Nat} {w g c a : Addr} {xs : List V} {H0 H : Hp} {es : List En} (y : Lz D B w g c H0 H (.tp a xs W Dp :: es)) (h : BtL B W' Dp w g H xs) : Lz D B w g c H0 H (.tp a xs W' Dp :: es) :=
  ⟨y.ok, y.go, y.dk, fun e he => by
    rcases List.mem_cons.mp he with q | q
    · subst q
      exact ⟨(y.th _ (List.Mem.head _)).1, h⟩
    · exact y.th e (List.mem_cons_of_mem _ q)⟩
/-- each of them -/
def BtA (B W D : Nat) (w g : Addr) (H : Hp) (vs : List V) : Prop := ∀ v ∈ vs, Bt B W D w g H v
theorem BtA.nil {B W D : Nat} {w g : Addr} {H : Hp} : BtA B W D w g H [] := fun _ h => by cases h
theorem BtA.cons {B W D : Nat} {w g : Addr} {H : Hp} {v : V} {vs : List V} (x : Bt B W D w g H v) (y : BtA B W D w g H vs) : BtA B W D w g H (v :: vs) := fun u h => by
  rcases List.mem_cons.mp h with rfl | h
  · exact x
  · exact y u h
theorem BtA.app {B W D : Nat} {w g : Addr} {H : Hp} {us vs : List V} (x : BtA B W D w g H us) (y : BtA B W D w g H vs) : BtA B W D w g H (us ++ vs) := fun u h =>
  (List.mem_append.mp h).elim (x u) (y u)
theorem Bt.mono2 {B W D W' D' : Nat} {w g : Addr} {H : Hp} {v : V} (x : Bt B W D w g H v) (h2 : W ≤ W') (h3 : D ≤ D') : Bt B W' D' w g H v := x.mono (Nat.le_refl _) h2 h3
theorem Bt.intText {B : Nat} {w g : Addr} {H : Hp} {i : Int} (h : i.natAbs ≤ B) (hB : B < 10 ^ 38) : Bt B 100 0 w g H (.str (Str.ofString (toString i))) :=
  ⟨_, .str _, bd_str _ (by have := int_text_length_le10 (a := i) (k := 38) (by decide) (by omega); rw [PySem.ofString_length]; omega)⟩
theorem Bt.blText {B : Nat} {w g : Addr} {H : Hp} {b : Bool} : Bt B 100 0 w g H (.str (if b then "True" else "False")) := by
  cases b <;> exact ⟨_, .str _, bd_str _ (by decide +kernel)⟩
section
variable {D : Hp → Prop} {B W Dp : Nat} {w g c a : Addr} {H0 H : Hp} {es : List En} {xs : List V}
/-- a tuple again and again -/
theorem Lz.kRep {K : PySem.W.Frag} {n : Int} {Q : VK} (y : Lz D B w g c H0 H es) (h : .tp a xs W Dp ∈ es) (hne : xs ≠ []) (n1 : 1 ≤ n) (n2 : n ≤ 1000) (hW : W ≤ 1000)
    (k : ∀ p H', Lz D B w g c H0 H' (.tp p (List.replicate n.toNat xs).flatten (n.toNat * W) Dp :: es) → Q (.ref p) H') : rRepA K (.ref a) (.int n) H Q := by
  have l1 := (y.tp_bt h).len
  refine rep_all (y.tp_at h) hne n1 (by omega) ?_ fun p H' s hp => k p H' ((y.same s).add ⟨hp, ((y.tp_bt h).go y.tups (Go.of s)).rep n.toNat⟩)
  refine Nat.le_trans (Nat.mul_le_mul (show n.toNat ≤ 1000 by omega) (show xs.length ≤ 1000 by omega)) (by decide)
end
/-- a number within bounds -/
def Nm (lo hi : Int) (v : V) : Prop := ∃ i : Int, v = .int i ∧ lo ≤ i ∧ i ≤ hi
def NmA (lo hi : Int) (vs : List V) : Prop := ∀ v ∈ vs, Nm lo hi v
theorem NmA.nil {lo hi : Int} : NmA lo hi [] := fun _ h => by cases h
theorem NmA.cons {lo hi i : Int} {vs : List V} (h1 : lo ≤ i) (h2 : i ≤ hi) (y : NmA lo hi vs) : NmA lo hi (.int i :: vs) := fun u h => by
  rcases List.mem_cons.mp h with rfl | h
  · exact ⟨i, rfl, h1, h2⟩
  · exact y u h
theorem BtA.go {B W D : Nat} {w g : Addr} {H H' : Hp} {vs : List V} (x : BtA B W D w g H vs) (T : TupOk w g H) (s : Go w g H H') : BtA B W D w g H' vs := fun v h => (x v h).go T s
theorem BtA.mono {B W D B' W' D' : Nat} {w g : Addr} {H : Hp} {vs : List V} (x : BtA B W D w g H vs) (h1 : B ≤ B') (h2 : W ≤ W') (h3 : D ≤ D') : BtA B' W' D' w g H vs := fun v h => (x v h).mono h1 h2 h3
end G1
/-! what judges share: numbers within bounds, pairs, triples, rows that rise -/
namespace G1
open PySem PySem.Spec PyProof.Rows L2 RZ
def wholeD (lo hi : Int) : PyData → Bool
  | .int i => decide (lo ≤ i) && decide (i ≤ hi)
  | _ => false
def pairD : PyData → Bool
  | .tuple [_, _] => true
  | _ => false
def tripD : PyData → Bool
  | .tuple [_, _, _] => true
  | _ => false
theorem pair_of {d : PyData} (h : pairD d = true) : ∃ a b, d = .tuple [a, b] := by
  unfold pairD at h
  split at h
  · exact ⟨_, _, rfl⟩
  · cases h
theorem trip_of {d : PyData} (h : tripD d = true) : ∃ a b c, d = .tuple [a, b, c] := by
  unfold tripD at h
  split at h
  · exact ⟨_, _, _, rfl⟩
  · cases h
theorem whole_int {lo hi : Int} {d : PyData} (h : wholeD lo hi d = true) : ∃ i, d = .int i ∧ lo ≤ i ∧ i ≤ hi := by
  unfold wholeD at h
  split at h
  · rw [Bool.and_eq_true, decide_eq_true_eq, decide_eq_true_eq] at h
    exact ⟨_, rfl, h.1, h.2⟩
  · cases h
theorem szl2 {n : Nat} (h : n ≤ 1000000) : n < sizeLine := Nat.lt_of_le_of_lt h (by decide)
theorem szl3 {n : Nat} (h : n ≤ 1000000) : n ≤ sizeLine := Nat.le_trans h (by decide)
def spWhole : Sp := fun vs H Q _ => ∃ (w g : Addr) (v : V) (d : PyData) (lo hi : Int), vs = [v, .int lo, .int hi] ∧ Th w g H v d ∧ Q (.bl (wholeD lo hi d)) H
def spTrip : Sp := fun vs H Q _ => ∃ (w g : Addr) (v : V) (d : PyData), vs = [v] ∧ Th w g H v d ∧ Q (.bl (tripD d)) H
def spIsPair : Sp := fun vs H Q _ => ∃ (w g : Addr) (v : V) (d : PyData), vs = [v] ∧ Th w g H v d ∧ Q (.bl (pairD d)) H
/-! ### a one for each that is not -/
section
variable {α : Type} {p : α → Bool} {ds : List α} {d : α} {i : Nat}
def ones (ds : List α) (p : α → Bool) : List Int := (ds.filter fun d => !p d).map fun _ => (1 : Int)
theorem ones_bad (hd : ds[i]? = some d) (h : p d = false) : ones (ds.take (i + 1)) p = ones (ds.take i) p ++ [1] := by
  unfold ones
  rw [List.take_add_one, hd, List.filter_append, List.map_append]
  simp [h]
theorem ones_ok (hd : ds[i]? = some d) (h : p d = true) : ones (ds.take (i + 1)) p = ones (ds.take i) p := by
  unfold ones
  rw [List.take_add_one, hd, List.filter_append, List.map_append]
  simp [h]
theorem ones_len : (ones (ds.take i) p).length ≤ ds.length := by
  unfold ones
  rw [List.length_map]
  refine Nat.le_trans (List.length_filter_le _ _) ?_
  rw [List.length_take]
  omega
theorem ones_all : decide (ones ds p = []) = ds.all p := by
  rw [Bool.eq_iff_iff, decide_eq_true_eq]
  unfold ones
  rw [List.map_eq_nil_iff, List.filter_eq_nil_iff, List.all_eq_true]
  constructor
  · intro h d hd
    have := h d hd
    cases hh : p d with
    | true => rfl
    | false => rw [hh] at this; exact absurd rfl this
  · intro h d hd
    rw [h d hd]
    decide
end
/-! ### enumerate over a tuple as a walk -/
theorem walk_enT {K : PySem.W.Frag} {a : Addr} {xs : List V} : Walk (Iten K a) xs.length (fun H => SqT K H a xs) (YPair (fun i => some (.int (i : Nat))) (fun i => xs[i]?)) := by
  refine ⟨fun i H hi q => ⟨xs, xs[i]'(by omega), q, by simp [show i < xs.length by omega]⟩, fun H q => ⟨xs, q, rfl⟩, fun i H v H' hi q y => ?_⟩
  obtain ⟨T, x, rfl, hT, rfl, h1⟩ := y
  exact ⟨T, _, x, rfl, hT, rfl, rfl, h1 xs q⟩
/-! ### < of numbers or of tuples of numbers -/
section
variable {X : Cx}
/-- < of two numbers, or of two tuples of numbers -/
def rLtX (K : PySem.W.Frag) : R2 := fun x y H Q => (∃ i j, x = .int i ∧ y = .int j ∧ Q (.bl (decide (i < j))) H) ∨ rLtT K x y H Q
theorem op_ltX {k : Nat} {K : PySem.W.Frag} (hK : X.K = K) (hr : Room k X.A) : OpR X (compareOp .Lt) (rLtX K) := by
  subst hK
  intro pins s σ H x y v u Q I rx ry h
  rcases h with h | h
  · exact op_lt pins s σ H x y v u Q I rx ry h
  · exact op_ltT (Nat.lt_of_succ_lt (hu_of hr)) pins s σ H x y v u Q I rx ry h
end
/-! ### rows that rise -/
def ltD : PyData → PyData → Bool
  | .int i, .int j => decide (i < j)
  | .tuple [.int a, .int b], .tuple [.int c, .int e] => HT.lexLt [a, b] [c, e]
  | _, _ => false
/-- numbers all, or pairs of numbers all -/
def Comp (ds : List PyData) : Prop := (∀ d ∈ ds, ∃ i, d = .int i) ∨ ∀ d ∈ ds, ∃ a b, d = .tuple [.int a, .int b]
def adj (ds : List PyData) : List Bool := List.zipWith ltD ds (ds.drop 1)
def ascD (ds : List PyData) : Bool := (adj ds).all id
theorem adj_len (ds : List PyData) : (adj ds).length = ds.length - 1 := by
  unfold adj
  rw [List.length_zipWith, List.length_drop]
  omega
theorem adj_get {ds : List PyData} {i : Nat} {x y : PyData} (h1 : ds[i]? = some x) (h2 : (ds.drop 1)[i]? = some y) : (adj ds)[i]? = some (ltD x y) := by
  unfold adj
  rw [List.getElem?_zipWith, h1, h2]
theorem adj_take {ds : List PyData} {i : Nat} {x y : PyData} (h1 : ds[i]? = some x) (h2 : (ds.drop 1)[i]? = some y) : (adj ds).take (i + 1) = (adj ds).take i ++ [ltD x y] := by
  rw [List.take_add_one, adj_get h1 h2]
  rfl
theorem Comp.of {ds : List PyData} {x y : PyData} (c : Comp ds) (hx : x ∈ ds) (hy : y ∈ ds) : (∃ i j, x = .int i ∧ y = .int j) ∨ ∃ a b k e, x = .tuple [.int a, .int b] ∧ y = .tuple [.int k, .int e] := by
  rcases c with c | c
  · obtain ⟨i, rfl⟩ := c x hx
    obtain ⟨j, rfl⟩ := c y hy
    exact .inl ⟨i, j, rfl, rfl⟩
  · obtain ⟨a, b, rfl⟩ := c x hx
    obtain ⟨k, e, rfl⟩ := c y hy
    exact .inr ⟨a, b, k, e, rfl, rfl⟩
theorem Th.two {w g : Addr} {H : Hp} {v : V} {a b : Int} (t : Th w g H v (.tuple [.int a, .int b])) : ∃ p, v = .ref p ∧ H p = some (.tup [.int a, .int b]) := by
  cases t with
  | tup h ta =>
    cases ta with
    | cons t1 ta =>
      cases ta with
      | cons t2 ta =>
        cases ta
        cases t1
        cases t2
        exact ⟨_, rfl, h⟩
theorem lt_go {K : PySem.W.Frag} {w g : Addr} {H : Hp} {x y : V} {dx dy : PyData} {ds : List PyData} {Q : VK} (c : Comp ds) (hx : dx ∈ ds) (hy : dy ∈ ds) (tx : Th w g H x dx) (ty : Th w g H y dy) (q : Q (.bl (ltD dx dy)) H) :
    rLtX K x y H Q := by
  rcases c.of hx hy with ⟨i, j, rfl, rfl⟩ | ⟨a, b, k, e, rfl, rfl⟩
  · cases tx
    cases ty
    exact .inl ⟨i, j, rfl, rfl, q⟩
  · obtain ⟨p1, rfl, h1⟩ := tx.two
    obtain ⟨p2, rfl, h2⟩ := ty.two
    exact .inr ⟨p1, p2, [a, b], [k, e], rfl, rfl, sqT_of h1, sqT_of h2, q⟩
/-! ### slices and sums of tuples of things -/
theorem no_part {σ : L2.St} {H : Hp} {Q : Option Int → Hp → Prop} (h : Q none H) : tNoPart σ H Q := h
theorem cutV_from (xs : List V) (n : Nat) : cutV xs (some (n : Int)) none = xs.drop n := by
  by_cases h : n ≤ xs.length
  · unfold cutV
    rw [sIx_of _ _ (by omega)]
    show (xs.drop (min (n : Int).toNat xs.length)).take (xs.length - min (n : Int).toNat xs.length) = _
    rw [Int.toNat_natCast, Nat.min_eq_left h, List.take_of_length_le (by rw [List.length_drop]; exact Nat.le_refl _)]
  · unfold cutV
    rw [sIx_of _ _ (by omega)]
    show (xs.drop (min (n : Int).toNat xs.length)).take (xs.length - min (n : Int).toNat xs.length) = _
    rw [Int.toNat_natCast, Nat.min_eq_right (by omega), Nat.sub_self, List.take_zero, List.drop_of_length_le (by omega)]
theorem cutV_to (xs : List V) (n : Nat) : cutV xs none (some (n : Int)) = xs.take n := by
  unfold cutV
  rw [sIx_of _ _ (by omega)]
  show (xs.drop 0).take (min (n : Int).toNat xs.length - 0) = _
  rw [List.drop_zero, Nat.sub_zero, Int.toNat_natCast, ← List.take_eq_take_min]
theorem cutV_one (xs : List V) : cutV xs (some 1) none = xs.drop 1 := cutV_from xs 1
theorem cutV_two (xs : List V) : cutV xs (some 2) none = xs.drop 2 := cutV_from xs 2
/-! ### numbers one after another -/
theorem asc_two (a b : PyData) (l : List PyData) : ascD (a :: b :: l) = (ltD a b && ascD (b :: l)) := rfl
theorem asc_sorted : ∀ ns : List Int, ns.Pairwise (· ≤ ·) → (ascD (ns.map PyData.int) = true ↔ ns.Nodup)
  | [], _ => by simp [ascD, adj]
  | [a], _ => by simp [ascD, adj]
  | a :: b :: l, h => by
    have ih := asc_sorted (b :: l) (List.pairwise_cons.mp h).2
    have ha := (List.pairwise_cons.mp h).1
    have hb := (List.pairwise_cons.mp (List.pairwise_cons.mp h).2).1
    rw [List.map_cons, List.map_cons, asc_two, Bool.and_eq_true, ← List.map_cons, ih, List.nodup_cons (a := a)]
    have e : ltD (.int a) (.int b) = decide (a < b) := rfl
    rw [e, decide_eq_true_eq]
    constructor
    · rintro ⟨h1, h2⟩
      refine ⟨fun m => ?_, h2⟩
      rcases List.mem_cons.mp m with rfl | m
      · omega
      · have := hb a m
        omega
    · rintro ⟨h1, h2⟩
      refine ⟨?_, h2⟩
      have h3 := ha b List.mem_cons_self
      have h4 : a ≠ b := fun e => h1 (e ▸ List.mem_cons_self)
      omega
theorem asc_perm {ns ns' : List Int} (p : ns'.Perm ns) (h : ns'.Pairwise (· ≤ ·)) : ascD (ns'.map PyData.int) = decide ns.Nodup := by
  rw [Bool.eq_iff_iff, decide_eq_true_eq, asc_sorted ns' h, p.nodup_iff]
theorem nodup_snoc {l : List Int} {x : Int} : (l ++ [x]).Nodup ↔ l.Nodup ∧ x ∉ l := by
  rw [List.nodup_append]
  simp
  intro _
  constructor
  · intro h m
    exact h x m rfl
  · intro h a m e
    exact h (e ▸ m)
theorem in_ints (x : Int) (l : List Int) : inV (.int x) (l.map V.int) = decide (x ∈ l) := by
  rw [Bool.eq_iff_iff, decide_eq_true_eq]
  simp [inV, eqV]
theorem th_ints {w g : Addr} {H : Hp} : ∀ ns : List Int, ThAll w g H (ns.map V.int) (ns.map PyData.int)
  | [] => .nil
  | n :: ns => .cons (.int n) (th_ints ns)
theorem ThAll.two {w g : Addr} {H : Hp} {xs : List V} {d1 d2 : PyData} (t : ThAll w g H xs [d1, d2]) : ∃ v1 v2, xs = [v1, v2] ∧ Th w g H v1 d1 ∧ Th w g H v2 d2 := by
  cases t with
  | cons t1 t => cases t with
    | cons t2 t => cases t; exact ⟨_, _, rfl, t1, t2⟩
theorem ThAll.three {w g : Addr} {H : Hp} {xs : List V} {d1 d2 d3 : PyData} (t : ThAll w g H xs [d1, d2, d3]) : ∃ v1 v2 v3, xs = [v1, v2, v3] ∧ Th w g H v1 d1 ∧ Th w g H v2 d2 ∧ Th w g H v3 d3 := by
  cases t with
  | cons t1 t => cases t with
    | cons t2 t => cases t with
      | cons t3 t => cases t; exact ⟨_, _, _, rfl, t1, t2, t3⟩
theorem Th.tupE {w g : Addr} {H : Hp} {v : V} {ds : List PyData} (t : Th w g H v (.tuple ds)) : ∃ a xs, v = .ref a ∧ H a = some (.tup xs) ∧ ThAll w g H xs ds := by
  cases t with
  | tup h ta => exact ⟨_, _, rfl, h, ta⟩
theorem Th.pair {w g : Addr} {H : Hp} {v : V} {d1 d2 : PyData} (t : Th w g H v (.tuple [d1, d2])) : ∃ a v1 v2, v = .ref a ∧ H a = some (.tup [v1, v2]) ∧ Th w g H v1 d1 ∧ Th w g H v2 d2 := by
  obtain ⟨a, xs, rfl, h, ta⟩ := t.tupE
  obtain ⟨v1, v2, rfl, t1, t2⟩ := ta.two
  exact ⟨a, v1, v2, rfl, h, t1, t2⟩
theorem Th.triple {w g : Addr} {H : Hp} {v : V} {d1 d2 d3 : PyData} (t : Th w g H v (.tuple [d1, d2, d3])) : ∃ a v1 v2 v3, v = .ref a ∧ H a = some (.tup [v1, v2, v3]) ∧ Th w g H v1 d1 ∧ Th w g H v2 d2 ∧ Th w g H v3 d3 := by
  obtain ⟨a, xs, rfl, h, ta⟩ := t.tupE
  obtain ⟨v1, v2, v3, rfl, t1, t2, t3⟩ := ta.three
  exact ⟨a, v1, v2, v3, rfl, h, t1, t2, t3⟩
/-- a word or nothing -/
def vO : Option Str → V
  | none => .non
  | some s => .str s
def dO : Option Str → PyData
  | none => .none
  | some s => .str s
theorem th_O {w g : Addr} {H : Hp} (o : Option Str) : Th w g H (vO o) (dO o) := by
  cases o
  · exact .non
  · exact .str _
theorem isTupD_ne {d : PyData} (h : isTupD d = false) (R : List PyData → Prop) : ∀ ds, d = .tuple ds → R ds := fun ds e => by
  subst e
  cases h
/-! ### within comprehensions the fragment is to be named -/
section
variable {X : Cx} {K : PySem.W.Frag}
theorem sl_listK (hK : X.K = K) : SlR X (rSlL K) := hK ▸ sl_list
theorem ix_tupK (hK : X.K = K) : IxR X (rIxT K) := hK ▸ ix_tup
theorem op_inK (hK : X.K = K) : OpR X (compareOp .In) (rIn K false) := hK ▸ op_in_seq
theorem op_notInK (hK : X.K = K) : OpR X (compareOp .NotIn) (rIn K true) := hK ▸ op_notIn_seq
end
section
variable {X : Cx}
/-- == of a number or a truth, and a number -/
theorem op_eqX : OpR X (compareOp .Eq) (fun x y H Q => rEq x y H Q ∨ ∃ b j, x = .bl b ∧ y = .int j ∧ Q (.bl ((if b = true then (1 : Int) else 0) == j)) H) := by
  intro pins s σ H x y v u Q I rx ry h
  rcases h with h | ⟨b, j, rfl, rfl, q⟩
  · exact op_eq pins s σ H x y v u Q I rx ry h
  · cases rx
    obtain ⟨t', rfl⟩ := ry
    exact PySem.EqBoolInt.eq_bool_int ⟨.bl _, H, I, rfl, q⟩
end
/-! ### pairs of numbers -/
def PrA (B : Nat) (H : Hp) (xs : List V) : Prop := ∀ x ∈ xs, ∃ (q : Addr) (a b : Int), x = .ref q ∧ H q = some (.tup [.int a, .int b]) ∧ a.natAbs ≤ B ∧ b.natAbs ≤ B
theorem PrA.nil {B : Nat} {H : Hp} : PrA B H [] := fun _ h => by cases h
theorem PrA.go {B : Nat} {w g : Addr} {H H' : Hp} {xs : List V} (p : PrA B H xs) (T : TupOk w g H) (s : Go w g H H') : PrA B H' xs := fun x hx => by
  obtain ⟨q, a, b, e, h, r⟩ := p x hx
  exact ⟨q, a, b, e, s _ _ (T _ _ h).1 (T _ _ h).2 h, r⟩
theorem PrA.upd {B : Nat} {H : Hp} {L : Addr} {ys : List V} {o : HO} {xs : List V} (p : PrA B H xs) (hL : H L = some (.lst ys)) : PrA B (upd H L o) xs := fun x hx => by
  obtain ⟨q, a, b, e, h, r⟩ := p x hx
  refine ⟨q, a, b, e, ?_, r⟩
  rw [upd_ne (ne_of h hL (by intro z; cases z))]
  exact h
theorem PrA.snoc {B : Nat} {H : Hp} {xs : List V} {q : Addr} {a b : Int} (p : PrA B H xs) (h : H q = some (.tup [.int a, .int b])) (ha : a.natAbs ≤ B) (hb : b.natAbs ≤ B) : PrA B H (xs ++ [.ref q]) := fun x hx => by
  rcases List.mem_append.mp hx with hx | hx
  · exact p x hx
  · rw [List.mem_singleton] at hx
    exact ⟨q, a, b, hx, h, ha, hb⟩
theorem PrA.perm {B : Nat} {H : Hp} {xs ys : List V} (p : PrA B H xs) (h : ys.Perm xs) : PrA B H ys := fun x hx => p x (h.mem_iff.mp hx)
theorem PrA.bt {B : Nat} (hB : B < 10 ^ 38) {w g : Addr} {H : Hp} : ∀ {xs : List V}, PrA B H xs → BtL B (xs.length * 257) 1 w g H xs
  | [], _ => BtL.nil.mono (Nat.le_refl _) (Nat.zero_le _) (Nat.zero_le _)
  | x :: xs, p => by
    obtain ⟨q, a, b, rfl, h, ha, hb⟩ := p x (List.mem_cons_self ..)
    have h1 : BtL B _ 0 w g H [.int a, .int b] := BtL.cons (Bt.int ha hB) (BtL.cons (Bt.int hb hB) BtL.nil)
    exact ((h1.tup h).mono2 (show _ ≤ 256 by decide) (Nat.le_refl _) |> fun z => (BtL.cons z (PrA.bt hB fun y hy => p y (List.mem_cons_of_mem _ hy))).mono (Nat.le_refl _) (by rw [List.length_cons]; omega) (by decide))
theorem ints_bt {B : Nat} (hB : B < 10 ^ 38) {w g : Addr} {H : Hp} : ∀ {ns : List Int}, (∀ n ∈ ns, n.natAbs ≤ B) → BtL B (ns.length * 128) 0 w g H (ns.map V.int)
  | [], _ => BtL.nil.mono (Nat.le_refl _) (Nat.zero_le _) (Nat.zero_le _)
  | n :: ns, h => (BtL.cons (Bt.int (h n (List.mem_cons_self ..)) hB) (ints_bt hB fun y hy => h y (List.mem_cons_of_mem _ hy))).mono (Nat.le_refl _) (by rw [List.length_cons]; omega) (by decide)
/-! ### a dict of the module: texts to numbers -/
def dvOk (kvs : List (Str × Int)) (z : Str) (r : Option Value) : Prop := match kvs.lookup z with
  | none => r = none
  | some k => ∃ t, r = some (.int k t)
def lookE (es : Array DictEntry) (z : Str) : Option (Option Value) := match es.toList.find? (fun x => x.key.isStr z) with
  | some e => some (some e.val)
  | none => if (es.toList.any fun x => x.refKey) = true then none else some none
theorem ns_look {K : PySem.W.Frag} {a : Addr} {es : Array DictEntry} {n : Nat} (l : K.lookup a = some { cls := .type "dict", data := .dict es n }) (z : Str) : PySem.W.nsIn K a z = lookE es z := by
  unfold PySem.W.nsIn lookE
  rw [l]
  dsimp only
  cases es.toList.find? (fun x => x.key.isStr z) <;> rfl
def MatchE : List DictEntry → List (Str × Int) → Prop
  | [], [] => True
  | e :: es, (k, v) :: kvs => (∃ t, e.key = .str k t) ∧ (∃ t, e.val = .int v t) ∧ MatchE es kvs
  | _, _ => False
theorem match_any : ∀ {es : List DictEntry} {kvs : List (Str × Int)}, MatchE es kvs → (es.any fun x => x.refKey) = false
  | [], _, _ => rfl
  | e :: es, [], h => h.elim
  | e :: es, (k, v) :: kvs, ⟨⟨t, h1⟩, _, h3⟩ => by
    rw [List.any_cons, match_any h3, Bool.or_false]
    unfold DictEntry.refKey
    rw [h1]
theorem match_find : ∀ {es : List DictEntry} {kvs : List (Str × Int)} (z : Str), MatchE es kvs → match kvs.lookup z with
    | none => es.find? (fun x => x.key.isStr z) = none
    | some k => ∃ e t, es.find? (fun x => x.key.isStr z) = some e ∧ e.val = .int k t
  | [], [], z, _ => rfl
  | [], _ :: _, z, h => h.elim
  | e :: es, [], z, h => h.elim
  | e :: es, (k, v) :: kvs, z, ⟨⟨t, h1⟩, ⟨t2, h2⟩, h3⟩ => by
    have ih := match_find z h3
    have e1 : e.key.isStr z = (k == z) := by rw [h1]; rfl
    by_cases c : z = k
    · subst c
      have l1 : List.lookup z ((z, v) :: kvs) = some v := by simp [List.lookup]
      rw [l1]
      exact ⟨e, t2, by rw [List.find?_cons_of_pos (by rw [e1]; simp)], h2⟩
    · have l1 : List.lookup z ((k, v) :: kvs) = List.lookup z kvs := by
        have : (z == k) = false := by simp [c]
        simp [List.lookup, this]
      have f1 : List.find? (fun x => x.key.isStr z) (e :: es) = List.find? (fun x => x.key.isStr z) es := by
        refine List.find?_cons_of_neg ?_
        rw [e1]
        simp
        exact fun q => c q.symm
      rw [l1, f1]
      exact ih
theorem look_match {es : Array DictEntry} {kvs : List (Str × Int)} (h : MatchE es.toList kvs) (z : Str) : ∃ r, lookE es z = some r ∧ dvOk kvs z r := by
  have f := match_find z h
  unfold lookE dvOk
  cases e : kvs.lookup z with
  | none =>
    rw [e] at f
    dsimp only at f ⊢
    rw [f]
    exact ⟨none, by simp [match_any h], rfl⟩
  | some k =>
    rw [e] at f
    obtain ⟨e0, t, h1, h2⟩ := f
    dsimp only
    rw [h1]
    exact ⟨some e0.val, rfl, t, congrArg some h2⟩
/-- t == () of any tuple -/
def rEq0 (K : PySem.W.Frag) : R2 := fun x y H Q => ∃ a b xs, x = .ref a ∧ y = .ref b ∧ SqT K H a xs ∧ SqT K H b [] ∧ Q (.bl xs.isEmpty) H
section
variable {X : Cx}
theorem op_eqT0 (hu : X.A.units + 64 < cLine) : OpR X (compareOp .Eq) (rEq0 X.K) := by
  intro pins s σ H x y v u Q I rx ry h
  obtain ⟨a, b, xs, rfl, rfl, ha, hb, q⟩ := h
  cases rx
  cases ry
  obtain ⟨its, r1, p1, _⟩ := I.tuple ha
  obtain ⟨its2, r2, p2, _⟩ := I.tuple hb
  cases r2
  have R := PySem.SeqAt.RcAt.tuples (A := X.A) (s := s) (e := fun _ => true) p1 p2 (by omega) (fun j h1 h2 => absurd h2 (by simp)) X.prog X.w X.xe (EP X pins σ Q)
  refine R ⟨.bl _, H, I, rfl, ?_⟩
  have e : ((List.range (min its.toArray.size (#[] : Array Value).size)).all (fun _ => true) && its.toArray.size == (#[] : Array Value).size) = xs.isEmpty := by
    have hl := r1.length
    cases xs with
    | nil =>
      cases its with
      | nil => rfl
      | cons c cs => cases hl
    | cons y ys =>
      cases its with
      | nil => cases hl
      | cons c cs => simp
  rw [show ((List.range (min its.toArray.size ([] : List Value).toArray.size)).all (fun _ => true) && its.toArray.size == ([] : List Value).toArray.size) = xs.isEmpty from e]
  exact q
end
theorem in_strs (z : Str) (l : List Str) : inV (.str z) (l.map V.str) = decide (z ∈ l) := by
  rw [Bool.eq_iff_iff, decide_eq_true_eq]
  simp [inV, eqV]
section
variable {X : Cx} {K : PySem.W.Frag}
theorem call_isi_K (hK : X.K = K) : CallR X (.builtin "isinstance") (rIsi K) := hK ▸ call_isi
end
end G1
/-! xs[::e] of a list of two, e one or minus one -/
namespace G1
open PySem PySem.Spec PyProof.Rows L2 HT
theorem pick_one (a b : Value) : slicePick #[a, b] none none (some 1) = #[a, b] := by
  simp [slicePick, sliceBounds, sliceRange, List.range, List.range.loop]
section
variable {X : Cx}
def tStep2 (K : PySem.W.Frag) (te ts : TE) : TE := fun σ H Q => te σ H fun x H1 => tPart ts σ H1 fun o H2 => ∃ a v0 v1, x = .ref a ∧ (o = some 1 ∨ o = some (-1)) ∧ SqL K H2 a [v0, v1] ∧
  ∀ p, H2 p = none → Q (.ref p) (upd H2 p (.lst (if o = some 1 then [v0, v1] else [v1, v0])))
theorem pe_step2 {e e2 : Expr} {te ts : TE} {p3 pos : Pos} (he : PE X e te) (hs : PE X e2 ts) : PE X (.Subscript e (.Slice none none (some e2) p3) pos) (tStep2 X.K te ts) := by
  refine ⟨fun pins s σ H Q I h => ?_⟩
  refine Subscript_ (thn (he.run pins s σ H _ I h) fun v s1 ⟨x, H1, I1, r1, q1⟩ => ?_)
  have hst : PO X (some e2) (tPart ts) := po_some hs
  refine wpAny_Slice ?_
  rw [evalPart_none]
  refine wpAny_pure (wpAny_pure ?_)
  refine thn (hst.run pins s1 σ H1 _ I1 q1) fun vs s4 ⟨o, H4, I4, ps, q4⟩ => ?_
  obtain ⟨a, v0, v1, rfl, ho, hx, q⟩ := q4
  cases r1
  have I5 : Inv X pins σ H4 { s4 with heap := s4.heap.push { cls := .type "slice", data := .fields #[.none, .none, vs] } } := I4.kept (t' := s4.toks) fun b ob q => Heap.get?_push_of_some _ q
  obtain ⟨its, r, ht, hz⟩ := I5.list hx
  have hlen := r.length
  replace ht := ht.isList
  show wpAny (model X.prog X.w) X.A (subscriptTail e (.Slice none none (some e2) p3) (.ref a) (.ref s4.heap.objs.size)) (EP X pins σ Q) X.xe { s4 with heap := s4.heap.push { cls := .type "slice", data := .fields #[.none, .none, vs] } }
  refine tail_any (ops := [.ref a, .ref s4.heap.objs.size]) (T := "list") (by obtain ⟨o, h1, h2, _⟩ := ht; exact ⟨o, h1, h2⟩) (PySem.F.slot_list_getitem.lookup) ?_ (by with_unfolding_all rfl)
  refine wpAny_getItem_list_slice ht (Heap.IsSliceOf.new _ .none .none vs) .none .none ps ?_ ?_ (by rw [List.size_toArray, ← hlen]; exact hz)
  · rcases ho with rfl | rfl <;> decide
  refine ⟨.ref _, _, I5.laid (t' := s4.toks) (o := .lst (if o = some 1 then [v0, v1] else [v1, v0])) (fun b ob q => Heap.get?_push_of_some _ q) (Nat.le_refl _) ?_, rfl, q _ (I5.hok.fresh (Nat.le_refl _))⟩
  rcases its with _ | ⟨u0, _ | ⟨u1, _ | ⟨u2, its⟩⟩⟩
  · cases hlen
  · cases hlen
  · cases r with
    | cons r0 r =>
      cases r with
      | cons r1 r =>
        rcases ho with rfl | rfl
        · refine ⟨szl (by simp), [u0, u1], 0, .cons r0 (.cons r1 .nil), ?_⟩
          rw [pick_one]
          exact Heap.get?_push_size _ rfl
        · refine ⟨szl (by simp), [u1, u0], 0, .cons r1 (.cons r0 .nil), ?_⟩
          rw [PySem.W.krv_pick]
          exact Heap.get?_push_size _ rfl
  · cases hlen
end
end G1
/-! things with no list and no dict in them stay as long as tuples do -/
namespace G1
open PySem PySem.Spec PyProof.Rows L2
mutual
def Pu : PyData → Prop
  | .tuple ds => PuA ds
  | .list _ => False
  | .dict _ => False
  | _ => True
def PuA : List PyData → Prop
  | [] => True
  | d :: ds => Pu d ∧ PuA ds
end
def TupKeep (H H' : Hp) : Prop := ∀ a xs, H a = some (.tup xs) → H' a = some (.tup xs)
theorem TupKeep.upd {H : Hp} {p : Addr} {o u : HO} (h : H p = some o) (no : ∀ xs, o ≠ .tup xs) : TupKeep H (upd H p u) := fun a xs e => by
  rw [upd_ne (fun q => by rw [q, h] at e; exact no xs (Option.some.inj e))]
  exact e
section
variable {w g w' g' : Addr} {H H' : Hp}
mutual
theorem Th.pu (s : TupKeep H H') : ∀ {v : V} {d : PyData}, Th w g H v d → Pu d → Th w' g' H' v d
  | _, _, .non, _ => .non
  | _, _, .bl b, _ => .bl b
  | _, _, .int i, _ => .int i
  | _, _, .str x, _ => .str x
  | _, _, .lst _ _ _ _, h => by simp only [Pu] at h
  | _, _, .tup h t, p => .tup (s _ _ h) (ThAll.pu s t (by simpa only [Pu] using p))
  | _, _, .dct _ _ _ _, h => by simp only [Pu] at h
theorem ThAll.pu (s : TupKeep H H') : ∀ {vs : List V} {ds : List PyData}, ThAll w g H vs ds → PuA ds → ThAll w' g' H' vs ds
  | _, _, .nil, _ => .nil
  | _, _, .cons t ts, p => by
    simp only [PuA] at p
    exact .cons (Th.pu s t p.1) (ThAll.pu s ts p.2)
end
end
end G1
/-! numbers up to 10 ** 40; dicts of two -/
namespace G1
open PySem PySem.Spec PyProof.Rows L2
theorem log_of4 {i : Int} {B : Nat} (h : i.natAbs ≤ B) (hB : B < 10 ^ 40) : i.natAbs.log2 < 1920 := by
  by_cases z : i.natAbs = 0
  · rw [z]; decide
  · exact (Nat.log2_lt z).mpr (Nat.lt_of_le_of_lt h (Nat.lt_trans hB (by decide)))
mutual
theorem Ok.shows4 {B : Nat} (hB : B < 10 ^ 40) : ∀ {d : PyData}, Ok B d → d.showable = true ∧ d.leavesShort 42 = true
  | .none, _ => ⟨rfl, rfl⟩
  | .bool _, _ => ⟨rfl, rfl⟩
  | .int i, a => by
    simp only [Ok] at a
    refine ⟨by simp only [PyData.showable]; exact decide_eq_true (log_of4 a hB), ?_⟩
    simp only [PyData.leavesShort]
    refine decide_eq_true ?_
    have := int_text_length_le10 (a := i) (k := 40) (by decide) (by omega)
    show (Str.ofString (toString i)).length ≤ 42
    rw [PySem.ofString_length]
    omega
  | .str x, a => by
    simp only [Ok] at a
    refine ⟨rfl, ?_⟩
    simp only [PyData.leavesShort, List.all_eq_true, decide_eq_true_eq]
    exact a
  | .list xs, a => by
    simp only [Ok] at a
    simp only [PyData.showable, PyData.leavesShort]
    exact OkAll.shows4 hB a
  | .tuple xs, a => by
    simp only [Ok] at a
    simp only [PyData.showable, PyData.leavesShort]
    exact OkAll.shows4 hB a
  | .dict kvs, a => by
    simp only [Ok] at a
    simp only [PyData.showable, PyData.leavesShort]
    exact OkKv.shows4 hB a
theorem OkAll.shows4 {B : Nat} (hB : B < 10 ^ 40) : ∀ {d : List PyData}, OkAll B d → PyData.showableAll d = true ∧ PyData.leavesShortAll 42 d = true
  | [], _ => ⟨rfl, rfl⟩
  | x :: xs, a => by
    simp only [OkAll] at a
    obtain ⟨h1, h2⟩ := Ok.shows4 hB a.1
    obtain ⟨h3, h4⟩ := OkAll.shows4 hB a.2
    simp only [PyData.showableAll, PyData.leavesShortAll, h1, h2, h3, h4, Bool.and_self, and_self]
theorem OkKv.shows4 {B : Nat} (hB : B < 10 ^ 40) : ∀ {d : List (PyData × PyData)}, OkKv B d → PyData.showableKv d = true ∧ PyData.leavesShortKv 42 d = true
  | [], _ => ⟨rfl, rfl⟩
  | (k, v) :: r, a => by
    simp only [OkKv] at a
    obtain ⟨h1, h2⟩ := Ok.shows4 hB a.1
    obtain ⟨h3, h4⟩ := Ok.shows4 hB a.2.1
    obtain ⟨h5, h6⟩ := OkKv.shows4 hB a.2.2
    simp only [PyData.showableKv, PyData.leavesShortKv, h1, h2, h3, h4, h5, h6, Bool.and_self, and_self]
end
/-- repr of a value that is not too great -/
theorem repr_val4 {K : PySem.W.Frag} {H : Hp} {R : PyData → Prop} {v : V} {d : PyData} {B : Nat} (hd : DpD K H v d) (ok : Ok B d) (hB : B < 10 ^ 40) (hw : d.weight ≤ 360000) (hdp : d.depth ≤ 60) (q : R d) :
    ∃ (v' : V) (d' : PyData), [v] = [v'] ∧ DpD K H v' d' ∧ d'.showable = true ∧ d'.depth ≤ 60 ∧ d'.shown.length ≤ sizeLine ∧ R d' := by
  obtain ⟨h1, h2⟩ := ok.shows4 hB
  have s := PyData.shown_le 42 (by decide) d h2
  exact ⟨v, d, rfl, hd, h1, hdp, Nat.le_trans s (Nat.le_trans (by omega : _ ≤ 44 * 360000 + 42) (by decide)), q⟩
theorem bd_int4 {B : Nat} {i : Int} (h : i.natAbs ≤ B) (hB : B < 10 ^ 40) : Bd B 140 0 (.int i) := ⟨by simp only [Ok]; exact h, log_wt (Nat.lt_of_le_of_lt h (Nat.lt_trans hB (by decide))), by simp [PyData.depth]⟩
theorem Bt.int4 {B : Nat} {w g : Addr} {H : Hp} {i : Int} (h : i.natAbs ≤ B) (hB : B < 10 ^ 40) : Bt B 140 0 w g H (.int i) := ⟨_, .int i, bd_int4 h hB⟩
section
variable {D : Hp → Prop} {B W Dp W' : Nat} {w g c p : Addr} {H0 : Hp} {es : List En} {v u : V}
/-- a dict with two entries, displayed -/
theorem Lz.dict2 {W1 W2 : Nat} {H1 H2 H3 : Hp} {k k' : Key} (z : Lz D B w g c H0 H1 es) (np : H1 p = none) (hU : upd H1 p (.dK []) = H2) (hV : upd H2 p (.dK [(k, v), (k', u)]) = H3) (bk : Bd B W1 0 (kD k)) (bk' : Bd B W2 0 (kD k')) (b : Bt B W Dp w g H1 v) (b' : Bt B W' Dp w g H1 u) :
    Lz D B w g c H0 H3 (.th (.ref p) (W1 + W + 2 + (W2 + W' + 2)) (Dp + 1) :: es) := by
  subst hU
  rw [upd_twice] at hV
  obtain ⟨s, y', a⟩ := z.new np hV
  obtain ⟨d, t, bd⟩ := b.go z.tups (Go.of s)
  obtain ⟨d', t', bd'⟩ := b'.go z.tups (Go.of s)
  refine y'.addT ⟨.dict [(kD k, d), (kD k', d')], .dct a.nw a.ng a.at_ (.cons t (.cons t' .nil)), ?_, ?_, ?_⟩
  · simp only [Ok, OkKv]
    exact ⟨bk.ok, bd.ok, bk'.ok, bd'.ok, trivial⟩
  · have h1 := bk.wt
    have h2 := bd.wt
    have h3 := bk'.wt
    have h4 := bd'.wt
    simp only [PyData.weight, PyData.weightKv]
    omega
  · have h1 := bk.dp
    have h2 := bd.dp
    have h3 := bk'.dp
    have h4 := bd'.dp
    simp only [PyData.depth, PyData.depthKv]
    omega
end
end G1
/-! any thing == a text, any thing in a row of texts; math.lcm -/
namespace PySem
theorem dict_eq_declines_str (l : Addr) (es : Array DictEntry) (n : Nat) (dd : Option Addr) (sl : Array (Option Value)) (b : Str) (u : Tok) :
    Meets (Builtin.«dict.__eq__» ⟨[.ref l, .str b u], []⟩) (fun _ R s => s.heap.get? l = some { cls := .type "dict", dict := dd, data := .dict es n, slots := sl } ∧ R (.ok (.ret .notImplemented)) s) :=
  .of_wp fun prog w A R s h => by obtain ⟨hp, g, d, tk, os⟩ := s; obtain ⟨hl, h⟩ := h; have f1 := F.sub_str_dict; wp_walk using wpAny_loadPart' hl; exact ⟨_, rfl, h⟩
theorem str_eq_declines_dict (b : Str) (u : Tok) (l : Addr) (c : Value) (es : Array DictEntry) (n : Nat) (dd : Option Addr) (sl : Array (Option Value)) :
    Meets (Builtin.«str.__eq__» ⟨[.str b u, .ref l], []⟩) (fun _ R s => s.heap.get? l = some { cls := c, dict := dd, data := .dict es n, slots := sl } ∧ R (.ok (.ret .notImplemented)) s) :=
  .of_wp fun prog w A R s h => by obtain ⟨hp, g, d, tk, os⟩ := s; obtain ⟨hl, h⟩ := h; wp_walk using wpAny_loadPart' hl, wpAny_load hl; exact ⟨_, rfl, h⟩
end PySem
namespace PySem.SeqAt
variable {A : Around} {s : Shared}
theorem RcAt.dict_str {l : Addr} {o : Obj} {es : Array DictEntry} {n : Nat} (b : Str) (u : Tok) (ho : s.heap.get? l = some o) (hc : o.cls = .type "dict") (hd : o.data = .dict es n) (hu : A.units < cLine) : RcAt A s (.ref l) (.str b u) false := fun prog w E Q h => by
  obtain ⟨cls, dd, data, sl⟩ := o
  simp only at hc hd
  subst hc hd
  exact rc_eq_decline_or (k := false) ⟨_, ho, rfl⟩ (typeIs_str s b u) (by decide) F.sub_str_dict F.slot_dict_eq F.slot_str_eq_refl
    (fun _ hq => call_meets F.slot_dict_eq ⟨_, ho, rfl⟩ F.entry_dict_eq (F.args_dict_eq_2 _ _) (dict_eq_declines_str l es n dd sl b u) ⟨ho, hq⟩)
    (fun _ hq => call_meets F.slot_str_eq_refl (typeIs_str s b u) F.entry_str_eq (F.args_str_eq_2 _ _) (str_eq_declines_dict b u l (.type "dict") es n dd sl) ⟨ho, hq⟩)
    (fun _ hq => wpAny_of_eq (rfl : isSame (.ref l) (.str b u) = pure false) hq) (.inr hu) h
theorem RcAt.str_dict {l : Addr} {o : Obj} {es : Array DictEntry} {n : Nat} (b : Str) (u : Tok) (ho : s.heap.get? l = some o) (hc : o.cls = .type "dict") (hd : o.data = .dict es n) (hu : A.units < cLine) : RcAt A s (.str b u) (.ref l) false := fun prog w E Q h => by
  obtain ⟨cls, dd, data, sl⟩ := o
  simp only at hc hd
  subst hc hd
  exact rc_eq_decline_or (k := false) (typeIs_str s b u) ⟨_, ho, rfl⟩ (by decide) F.sub_dict_str F.slot_str_eq F.slot_dict_eq_refl
    (fun _ hq => call_meets F.slot_str_eq (typeIs_str s b u) F.entry_str_eq (F.args_str_eq_2 _ _) (str_eq_declines_dict b u l (.type "dict") es n dd sl) ⟨ho, hq⟩)
    (fun _ hq => call_meets F.slot_dict_eq_refl ⟨_, ho, rfl⟩ F.entry_dict_eq (F.args_dict_eq_2 _ _) (dict_eq_declines_str l es n dd sl b u) ⟨ho, hq⟩)
    (fun _ hq => wpAny_of_eq (rfl : isSame (.str b u) (.ref l) = pure false) hq) (.inr hu) h
theorem EqAt.str_dict {l : Addr} {o : Obj} {es : Array DictEntry} {n : Nat} (b : Str) (u : Tok) (ho : s.heap.get? l = some o) (hc : o.cls = .type "dict") (hd : o.data = .dict es n) (hu : A.units < cLine) : EqAt A s (.str b u) (.ref l) false := fun prog w E Q h => by
  unfold eqBool
  refine wpAny_holding ?_
  refine wpAny_ite_split (fun hab => absurd (eq_of_beq hab) nofun) (fun _ => ?_)
  exact wpAny_bind (RcAt.str_dict b u ho hc hd hu prog w E _ (wpAny_truthy_bool h))
end PySem.SeqAt
namespace G1
open PySem PySem.Spec PyProof.Rows L2
/-- x == a text -/
def isSD (d : PyData) (z : Str) : Bool := match d with
  | .str x => decide (x = z)
  | _ => false
def rEqSX (K : PySem.W.Frag) : R2 := fun x y H Q => ∃ (w g : Addr) (d : PyData) (z : Str), y = .str z ∧ Th w g H x d ∧ Q (.bl (isSD d z)) H
section
variable {X : Cx} {K : PySem.W.Frag}
theorem op_eqSX (hK : X.K = K) (hu : X.A.units + 64 < cLine) : OpR X (compareOp .Eq) (rEqSX K) := by
  subst hK
  intro pins s σ H x y v u Q I rx ry h
  obtain ⟨w, g, d, z, rfl, t, q⟩ := h
  have ry0 := ry
  obtain ⟨tz, rfl⟩ := ry
  have fin : ∀ b, b = isSD d z → EP X pins σ Q (.bool b) s := fun b e => ⟨.bl b, H, I, rfl, e ▸ q⟩
  cases t with
  | non =>
    cases rx
    exact PySem.SeqAt.RcAt.none_str z tz _ _ _ _ (fin _ rfl)
  | bl b =>
    cases rx
    exact PySem.SeqAt.RcAt.bool_str b z tz _ _ _ _ (fin _ rfl)
  | int i =>
    obtain ⟨t, rfl⟩ := rx
    exact PySem.SeqAt.RcAt.int_str i t z tz _ _ _ _ (fin _ rfl)
  | str x =>
    obtain ⟨t, rfl⟩ := rx
    exact PySem.SeqAt.RcAt.str_str x t z tz _ _ _ _ (fin _ rfl)
  | lst _ _ hl _ =>
    cases rx
    obtain ⟨its, r1, p1, _⟩ := I.list (sqL_of hl)
    exact PySem.SeqAt.RcAt.list_str z tz p1.isList (by omega) _ _ _ _ (fin _ rfl)
  | tup hl _ =>
    cases rx
    obtain ⟨its, r1, p1, _⟩ := I.tuple (sqT_of hl)
    exact PySem.SeqAt.RcAt.tuple_str z tz p1 (by omega) _ _ _ _ (fin _ rfl)
  | dct _ _ hl _ =>
    cases rx
    obtain ⟨_, _, vs, _, o, es, ep, ho, hx, hd, _⟩ := I.hok _ _ hl
    exact PySem.SeqAt.RcAt.dict_str z tz ho hx.1 hd (by omega) _ _ _ _ (fin _ rfl)
/-- x in a tuple of texts -/
def rInSX (K : PySem.W.Frag) : R2 := fun x y H Q => ∃ (w g : Addr) (d : PyData) (p : Addr) (zs : List Str), y = .ref p ∧ SqT K H p (zs.map V.str) ∧ Th w g H x d ∧ Q (.bl (zs.any (isSD d))) H
theorem any_strs {d : PyData} : ∀ {zs : List Str} {us : List Value}, Vals (zs.map V.str) us → us.any (fun y => match y with | .str z _ => isSD d z | _ => false) = zs.any (isSD d)
  | [], _, .nil => rfl
  | z :: zs, _, .cons ⟨t, e⟩ r => by
    subst e
    rw [List.any_cons, List.any_cons, any_strs r]
theorem op_inSX (hK : X.K = K) (hu : X.A.units + 64 < cLine) : OpR X (compareOp .In) (rInSX K) := by
  subst hK
  intro pins s σ H x y v u Q I rx ry h
  obtain ⟨w, g, d, p, zs, rfl, hq, t, q⟩ := h
  cases ry
  obtain ⟨its, r, pl, hz⟩ := I.tuple hq
  have str_of : ∀ {zs : List Str} {us : List Value}, Vals (zs.map V.str) us → ∀ y ∈ us, ∃ z t, y = .str z t := by
    intro zs
    induction zs with
    | nil => intro us r; cases r; intro y hy; cases hy
    | cons z zs ih =>
      intro us r
      cases r with
      | cons r1 r2 =>
        obtain ⟨t, rfl⟩ := r1
        intro y hy
        rcases List.mem_cons.mp hy with rfl | hy
        · exact ⟨z, t, rfl⟩
        · exact ih r2 y hy
  refine PySem.SeqAt.in_tupleAt (fun y => match y with | .str z _ => isSD d z | _ => false) pl (fun y hy => ?_) ⟨.bl _, H, I, rfl, ?_⟩
  · obtain ⟨z, tz, rfl⟩ := str_of r y (by simpa using hy)
    have hu1 : X.A.in1.units < cLine := by
      have : X.A.in1.units ≤ X.A.units + 1 := by first | exact Nat.le_refl _ | exact Nat.le_succ _
      omega
    have fin : ∀ b, b = isSD d z → PySem.SeqAt.EqAt X.A.in1 s (.str z tz) v b → PySem.SeqAt.EqAt X.A.in1 s (.str z tz) v (isSD d z) := fun b e h => e ▸ h
    cases t with
    | non =>
      cases rx
      exact fin _ rfl (PySem.SeqAt.EqAt.str_none z tz)
    | bl b =>
      cases rx
      exact fin _ rfl (PySem.SeqAt.EqAt.str_bool z tz b)
    | int i =>
      obtain ⟨t, rfl⟩ := rx
      exact fin _ rfl (PySem.SeqAt.EqAt.str_int z tz i t)
    | str x =>
      obtain ⟨t, rfl⟩ := rx
      exact fin (z == x) (by rw [Bool.eq_iff_iff]; simp [isSD]; exact eq_comm) (PySem.SeqAt.EqAt.str_str z tz x t)
    | lst _ _ hl _ =>
      cases rx
      obtain ⟨its, r1, p1, _⟩ := I.list (sqL_of hl)
      exact fin _ rfl (PySem.SeqAt.EqAt.str_list z tz p1.isList hu1)
    | tup hl _ =>
      cases rx
      obtain ⟨its, r1, p1, _⟩ := I.tuple (sqT_of hl)
      exact fin _ rfl (PySem.SeqAt.EqAt.str_tuple z tz p1 hu1)
    | dct _ _ hl _ =>
      cases rx
      obtain ⟨_, _, vs, _, o, es, ep, ho, hx, hd, _⟩ := I.hok _ _ hl
      exact fin _ rfl (PySem.SeqAt.EqAt.str_dict z tz ho hx.1 hd hu1)
  · have := any_strs (d := d) r
    rw [show its.toArray.any (fun y => match y with | .str z _ => isSD d z | _ => false) = its.any (fun y => match y with | .str z _ => isSD d z | _ => false) by simp, this]
    exact q
/-- math.lcm -/
def rLcm : List V → Hp → VK → Prop := fun vs H Q => ∃ a b : Int, vs = [.int a, .int b] ∧ a.natAbs < 2 ^ 64 ∧ b.natAbs < 2 ^ 64 ∧ Q (.int ((Nat.lcm a.natAbs b.natAbs : Nat) : Int)) H
theorem cr_lcm : CallR X (.builtin "math.lcm") rLcm := by
  intro pins s σ H vs us Q I r h
  obtain ⟨a, b, rfl, ha, hb, q⟩ := h
  obtain ⟨t, u, rfl⟩ := Vals.int2 r
  exact PySem.W.mc_lcm ha hb fun _ => ⟨.int _, H, I.tok _, ⟨_, rfl⟩, q⟩
end
end G1
/-! text.upper() -/
namespace G1
open PySem PySem.Spec PyProof.Rows L2
theorem shifted_le {N : Nat} : ∀ {l : List (Nat × Nat × Nat)} {c k : Nat}, (l.all fun r => decide (r.2.2 + (r.2.1 - r.1) < N)) = true → Unicode.shifted l c = some k → k < N
  | [], c, k, _, h => by simp [Unicode.shifted] at h
  | (a, b, t) :: l, c, k, ha, h => by
    rw [List.all_cons, Bool.and_eq_true, decide_eq_true_eq] at ha
    unfold Unicode.shifted at h
    split at h
    · cases h
    · split at h
      · rename_i h1 h2
        cases h
        have := ha.1
        dsimp only at this
        omega
      · exact shifted_le ha.2 h
theorem lookup_mem {β : Type} : ∀ {l : List (Nat × β)} {c : Nat} {v : β}, l.lookup c = some v → ∃ k, (k, v) ∈ l
  | [], _, _, h => by simp at h
  | (k, u) :: l, c, v, h => by
    rw [List.lookup_cons] at h
    split at h
    · cases h
      exact ⟨k, List.Mem.head _⟩
    · obtain ⟨j, hj⟩ := lookup_mem h
      exact ⟨j, List.Mem.tail _ hj⟩
theorem upper_lt {c k : Nat} (h : k ∈ Unicode.upperOf c) : k < 16 ^ 8 ∨ k = c := by
  unfold Unicode.upperOf Unicode.image at h
  split at h
  · rename_i cs hc
    obtain ⟨j, hj⟩ := lookup_mem hc
    have key : (UnicodeData.severalUpper.all fun r => r.2.all fun k => decide (k < 16 ^ 8)) = true := by decide +kernel
    exact .inl (of_decide_eq_true (List.all_eq_true.mp (List.all_eq_true.mp key _ hj) _ h))
  · rw [List.mem_singleton] at h
    cases hs : Unicode.shifted UnicodeData.oneUpper c with
    | none => rw [hs] at h; exact .inr h
    | some m =>
      rw [hs] at h
      have : k = m := h
      subst this
      exact .inl (shifted_le (N := 16 ^ 8) (by decide +kernel) hs)
theorem mem_upper {x : Str} {k : Nat} (h : k ∈ (Txt.upper x).cps.toList) : ∃ c ∈ x.cps.toList, k ∈ Unicode.upperOf c := by
  unfold Txt.upper PySem.placed at h
  simp only [Array.mem_toList_iff, Array.mem_flatten, Array.mem_mapIdx] at h
  obtain ⟨a, ⟨i, hi, rfl⟩, hk⟩ := h
  exact ⟨x.cps[i], by simp, by simpa using hk⟩
theorem ok_upper {x : Str} (h : ∀ c ∈ x.cps.toList, c < 16 ^ 8) : ∀ c ∈ (Txt.upper x).cps.toList, c < 16 ^ 8 := fun k hk => by
  obtain ⟨c, hc, h2⟩ := mem_upper hk
  rcases upper_lt h2 with h3 | rfl
  · exact h3
  · exact h k hc
theorem Bt.upper {B W : Nat} {w g : Addr} {H : Hp} {x : Str} (h : ∀ c ∈ x.cps.toList, c < 16 ^ 8) (l : x.length ≤ W) : Bt B (3 * W) 0 w g H (.str (Txt.upper x)) :=
  ⟨_, .str _, by simp only [Ok]; exact ok_upper h, Nat.le_trans (len_upper x) (Nat.mul_le_mul_left 3 l), by simp [PyData.depth]⟩
def rUpper : V → List V → Hp → VK → Prop := fun x vs H Q => ∃ z, x = .str z ∧ vs = [] ∧ z.length ≤ 5592405 ∧ Q (.str (Txt.upper z)) H
section
variable {X : Cx}
theorem mt_upper : MtR X "str.upper" rUpper := by
  intro pins s σ H x vs v us Q I rx rv h
  obtain ⟨z, rfl, rfl, hz, q⟩ := h
  cases rv
  obtain ⟨t, rfl⟩ := rx
  exact PySem.SC.upper (fit_upper hz) ⟨.str _, H, I.tok _, ⟨_, rfl⟩, q⟩
end
/-- text of any signs, with some cut off, with more -/
def Ct (W : Nat) (l : List Nat) : Prop := l.length ≤ W ∧ ∀ k ∈ l, k < 16 ^ 8
theorem Ct.bt {B W : Nat} {w g : Addr} {H : Hp} {l : List Nat} (c : Ct W l) : Bt B W 0 w g H (.str (C l)) := Bt.code c.1 c.2
theorem Ct.app {W W' : Nat} {l m : List Nat} (a : Ct W l) (b : Ct W' m) : Ct (W + W') (l ++ m) :=
  ⟨by rw [List.length_append]; exact Nat.add_le_add a.1 b.1, fun k hk => (List.mem_append.mp hk).elim (a.2 k) (b.2 k)⟩
theorem Ct.cut {W : Nat} {l : List Nat} (a : Ct W l) (n m : Nat) : Ct W ((l.drop n).take m) :=
  ⟨by rw [List.length_take, List.length_drop]; have := a.1; omega, fun k hk => a.2 k (List.mem_of_mem_drop (List.mem_of_mem_take hk))⟩
theorem any_C (x : Str) : ∃ l, x = C l := ⟨x.cps.toList, rfl⟩
end G1
/-! draws from a list of two lists, a sum and a count, the list of cells named -/
namespace G1
open PySem PySem.Spec PyProof.Rows L2
def DkL (w g c : Addr) (H : Hp) : Prop := ∃ (gs cs : List Int) (k t : Int), w ≠ g ∧ c ≠ g ∧ c ≠ w ∧ H w = some (.lst [.ref g, .ref c, .int k, .int t]) ∧
  H g = some (.lst (gs.map V.int)) ∧ H c = some (.lst (cs.map V.int)) ∧ 0 < cs.length ∧ gs.length ≤ 1000 ∧ cs.length ≤ 1000
section
variable {w g c p : Addr} {H H' : Hp} {o : HO}
theorem DkL.same (D : DkL w g c H) (s : Same H H') : DkL w g c H' := by
  obtain ⟨gs, cs, k, t, h1, h2, h3, h4, h5, h6, h7⟩ := D
  exact ⟨gs, cs, k, t, h1, h2, h3, s _ _ h4, s _ _ h5, s _ _ h6, h7⟩
theorem DkL.fresh (D : DkL w g c H) (h : H p = none) : p ≠ w ∧ p ≠ g ∧ p ≠ c := by
  obtain ⟨gs, cs, k, t, h1, h2, h3, h4, h5, h6, h7⟩ := D
  exact ⟨(ne_of_none h4 h).symm, (ne_of_none h5 h).symm, (ne_of_none h6 h).symm⟩
theorem new_ofL (D : DkL w g c H) (hp : H p = none) (e : L2.upd H p o = H') : Same H H' ∧ DkL w g c H' ∧ Ac w g c H' p o := by
  subst e
  exact ⟨same_new hp, D.same (same_new hp), (D.fresh hp).1, (D.fresh hp).2.1, (D.fresh hp).2.2, upd_same⟩
theorem DkL.tup {a : Addr} {xs : List V} (D : DkL w g c H) (h : H a = some (.tup xs)) : Ac w g c H a (.tup xs) := by
  obtain ⟨gs, cs, k, t, h1, h2, h3, h4, h5, h6, h7⟩ := D
  exact ⟨ne_of h h4 (by intro z; cases z), ne_of h h5 (by intro z; cases z), ne_of h h6 (by intro z; cases z), h⟩
theorem DkL.upd {u : HO} (D : DkL w g c H) (n1 : p ≠ w) (n2 : p ≠ g) (n3 : p ≠ c) : DkL w g c (L2.upd H p u) := by
  obtain ⟨gs, cs, k, t, h1, h2, h3, h4, h5, h6, h7⟩ := D
  exact ⟨gs, cs, k, t, h1, h2, h3, (upd_ne n1.symm).trans h4, (upd_ne n2.symm).trans h5, (upd_ne n3.symm).trans h6, h7⟩
theorem dok_l : Dok (DkL w g c) w g c := ⟨fun D s => D.same s, fun D h => D.fresh h, fun D h => ⟨(D.tup h).nw, (D.tup h).ng, (D.tup h).nc⟩, fun D h1 h2 h3 => D.upd h1 h2 h3⟩
end
end G1
/-! things with no list in them, bounded: they stay whatever lists do -/
namespace G1
open PySem PySem.Spec PyProof.Rows L2
def Bp (W D : Nat) (w g : Addr) (H : Hp) (v : V) : Prop := ∃ d, Th w g H v d ∧ Bd (10 ^ 30) W D d ∧ Pu d
section
variable {W D W' D' : Nat} {w g w' g' : Addr} {H H' : Hp} {v : V} {vs : List V}
theorem Bp.bt (b : Bp W D w g H v) : Bt (10 ^ 30) W D w g H v := let ⟨d, t, bd, _⟩ := b; ⟨d, t, bd⟩
theorem Bp.keep (b : Bp W D w g H v) (s : TupKeep H H') : Bp W D w' g' H' v := let ⟨d, t, bd, p⟩ := b; ⟨d, t.pu s p, bd, p⟩
theorem Bp.go (b : Bp W D w g H v) (T : TupOk w g H) (s : Go w g H H') : Bp W D w g H' v := b.keep fun a xs h => s a _ (T a xs h).1 (T a xs h).2 h
theorem Bp.mono (b : Bp W D w g H v) (h1 : W ≤ W') (h2 : D ≤ D') : Bp W' D' w g H v := let ⟨d, t, bd, p⟩ := b; ⟨d, t, bd.mono (Nat.le_refl _) h1 h2, p⟩
def BpA (W D : Nat) (w g : Addr) (H : Hp) (vs : List V) : Prop := ∀ v ∈ vs, Bp W D w g H v
theorem BpA.keep (b : BpA W D w g H vs) (s : TupKeep H H') : BpA W D w' g' H' vs := fun v h => (b v h).keep s
theorem BpA.go (b : BpA W D w g H vs) (T : TupOk w g H) (s : Go w g H H') : BpA W D w g H' vs := fun v h => (b v h).go T s
theorem BpA.snoc (b : BpA W D w g H vs) (x : Bp W D w g H v) : BpA W D w g H (vs ++ [v]) := fun u h => (List.mem_append.mp h).elim (b u) fun h => by rw [List.mem_singleton.mp h]; exact x
theorem BpA.nil : BpA W D w g H [] := fun _ h => by cases h
/-- as one tuple -/
theorem BpA.all (b : BpA W D w g H vs) : ∃ ds, ThAll w g H vs ds ∧ BdL (10 ^ 30) (vs.length * (W + 1)) D ds ∧ PuA ds := by
  induction vs with
  | nil => exact ⟨[], .nil, ⟨fun _ h => (by cases h), Nat.zero_le _, fun _ h => (by cases h)⟩, by simp [PuA]⟩
  | cons v vs ih =>
    obtain ⟨ds, t, bd, p⟩ := ih fun u h => b u (List.mem_cons_of_mem _ h)
    obtain ⟨d, t1, b1, p1⟩ := b v (List.mem_cons_self ..)
    refine ⟨d :: ds, .cons t1 t, ((BdL.one b1).app bd).mono (Nat.le_refl _) ?_ (Nat.le_refl _), by simp only [PuA]; exact ⟨p1, p⟩⟩
    rw [List.length_cons, Nat.succ_mul]
    omega
theorem BpA.tup {a : Addr} (b : BpA W D w g H vs) (h : H a = some (.tup vs)) : Bp (vs.length * (W + 1)) (D + 1) w g H (.ref a) := by
  obtain ⟨ds, t, bd, p⟩ := b.all
  exact ⟨.tuple ds, .tup h t, bd.tup, by simp only [Pu]; exact p⟩
theorem Bp.int {i : Int} (h : i.natAbs ≤ 10 ^ 30) : Bp 127 0 w g H (.int i) := ⟨_, .int i, bd_int h (by decide), by simp [Pu]⟩
def shortS (z : Str) : Bool := decide (z.length ≤ 20) && z.cps.toList.all fun c => decide (c < 16 ^ 8)
theorem Bp.str {z : Str} (h : shortS z = true) : Bp 127 0 w g H (.str z) := by
  unfold shortS at h
  rw [Bool.and_eq_true, decide_eq_true_eq, List.all_eq_true] at h
  exact ⟨_, .str z, ⟨by simp only [Ok]; exact fun c hc => of_decide_eq_true (h.2 c hc), Nat.le_trans h.1 (by decide), by simp [PyData.depth]⟩, by simp [Pu]⟩
theorem BpA.cons (x : Bp W D w g H v) (b : BpA W D w g H vs) : BpA W D w g H (v :: vs) := fun u h => by
  rcases List.mem_cons.mp h with rfl | h
  · exact x
  · exact b u h
def ShA (vs : List V) : Prop := ∀ v ∈ vs, ∃ z, v = .str z ∧ shortS z = true
theorem ShA.nil : ShA [] := fun _ h => by cases h
theorem ShA.cons {z : Str} (h : shortS z = true) (b : ShA vs) : ShA (.str z :: vs) := fun u hu => by
  rcases List.mem_cons.mp hu with rfl | hu
  · exact ⟨z, rfl, h⟩
  · exact b u hu
/-- lists of numbers, lists of words -/
def NlA (w g c : Addr) (H : Hp) (lo hi : Int) (vs : List V) : Prop := ∀ v ∈ vs, ∃ p xs, v = .ref p ∧ Ac w g c H p (.lst xs) ∧ NmA lo hi xs ∧ xs.length ≤ 10
def WlA (w g c : Addr) (H : Hp) (vs : List V) : Prop := ∀ v ∈ vs, ∃ p xs, v = .ref p ∧ Ac w g c H p (.lst xs) ∧ ShA xs ∧ 0 < xs.length ∧ xs.length ≤ 10
theorem NlA.nil {c : Addr} {lo hi : Int} : NlA w g c H lo hi [] := fun _ h => by cases h
theorem NlA.cons {c p : Addr} {lo hi : Int} {xs : List V} (h : Ac w g c H p (.lst xs)) (n : NmA lo hi xs) (l : xs.length ≤ 10) (b : NlA w g c H lo hi vs) : NlA w g c H lo hi (.ref p :: vs) := fun u hu => by
  rcases List.mem_cons.mp hu with rfl | hu
  · exact ⟨p, xs, rfl, h, n, l⟩
  · exact b u hu
theorem WlA.nil {c : Addr} : WlA w g c H [] := fun _ h => by cases h
theorem WlA.cons {c p : Addr} {xs : List V} (h : Ac w g c H p (.lst xs)) (n : ShA xs) (l0 : 0 < xs.length) (l : xs.length ≤ 10) (b : WlA w g c H vs) : WlA w g c H (.ref p :: vs) := fun u hu => by
  rcases List.mem_cons.mp hu with rfl | hu
  · exact ⟨p, xs, rfl, h, n, l0, l⟩
  · exact b u hu
end
end G1
namespace G51
open PySem PySem.Spec PyProof.Rows L2 G1
local macro_rules | `(tactic| walk_at "side") => `(tactic| first
  | assumption
  | omega
  | (constructor <;> omega)
  | rfl
  | decide
  | (dsimp only; decide)
  | (refine szl ?_; simp only [List.length_cons, List.length_nil]; omega)
  | (unfold CMul; omega)
  | (unfold CDiv; omega)
  | (unfold CPow; omega)
  | (unfold CMul; simp; done)
  | (unfold CMul; simp; omega)
  | (simp only [List.length_map, List.length_append, List.length_take, List.length_drop, rep_length, List.length_cons, List.length_nil, Nat.zero_add, Nat.mul_one]; omega))
local macro_rules | `(tactic| walk_at "go1") => `(tactic| first
  | (apply go_bit; (focus walk_at "side"); rw [B_str _ (by walk_at "side") (by walk_at "side")])
  | (apply go_lenS; (focus walk_at "side"); simp only [B_len])
  | (apply go_addS; (focus walk_at "side"); rw [B_app])
  | (apply go_mulS; (focus walk_at "side"); (focus walk_at "side"); rw [B_mul _ (by walk_at "side")])
  | (apply go_sl; (focus walk_at "side"); first | rw [B_last] | rw [B_init] | rw [B_to _ (by walk_at "side")] | rw [B_from _ (by walk_at "side")] | rw [B_mid _ (by walk_at "side") (by walk_at "side")])
  | (apply goC_sl; (focus walk_at "side"); first | rw [C_to _ (by walk_at "side")] | rw [C_from _ (by walk_at "side")] | rw [C_mid _ (by walk_at "side") (by walk_at "side")])
  | (apply goC_mulS; (focus walk_at "side"); (focus walk_at "side"); rw [C_mul _ (by walk_at "side")])
  | refine ⟨_, rfl, ?_⟩
  | refine ⟨_, _, rfl, rfl, ?_⟩
  | refine ⟨_, _, _, rfl, rfl, ?_⟩
  | refine ⟨_, _, rfl, ?_⟩
  | refine ⟨_, _, _, rfl, ?_⟩
  | (apply go_tup; assumption)
  | (apply go_unl; assumption)
  | (apply go_ixL; assumption; (first | rfl | assumption))
  | (apply go_ixT; assumption; (first | rfl | assumption))
  | (apply go_lenL; assumption)
  | (apply go_lenT; assumption)
  | refine Or.inl ⟨_, rfl, ?_⟩
  | (refine And.intro ?ll ?_; (case ll => walk_at "side")))
local macro_rules | `(tactic| walk_at "go") => `(tactic| repeat (walk_at "go1"))
def topS (i : Nat) : Stmt := PySem.Challenge.pw_leastmakers_k51_programs_judged.main.body.getD i (.Pass ⟨0, 0, 0, 0⟩)
abbrev s_is_whole : Stmt := topS 15
abbrev nm_is_whole : List Str := ["value", "low", "high"]
theorem sc_is_whole : FnScope nm_is_whole ["value", "low", "high"] (defScope s_is_whole) := ⟨rfl, rfl, rfl, by decide +kernel, rfl, by decide +kernel, by decide +kernel⟩
abbrev s_least_multiple : Stmt := topS 19
abbrev nm_least_multiple : List Str := ["numbers", "multiple", "number"]
theorem sc_least_multiple : FnScope nm_least_multiple ["numbers"] (defScope s_least_multiple) := ⟨rfl, rfl, rfl, by decide +kernel, rfl, by decide +kernel, by decide +kernel⟩
abbrev s_program_error : Stmt := topS 29
abbrev nm_program_error : List Str := ["value", "place", "item"]
theorem sc_program_error : FnScope nm_program_error ["value"] (defScope s_program_error) := ⟨rfl, rfl, rfl, by decide +kernel, rfl, by decide +kernel, by decide +kernel⟩
abbrev s_is_step : Stmt := topS 30
abbrev nm_is_step : List Str := ["value", "many", "word", "items"]
theorem sc_is_step : FnScope nm_is_step ["value", "many"] (defScope s_is_step) := ⟨rfl, rfl, rfl, by decide +kernel, rfl, by decide +kernel, by decide +kernel⟩
abbrev s_is_count_and_places : Stmt := topS 31
abbrev nm_is_count_and_places : List Str := ["items", "many_items", "many", "item"]
theorem sc_is_count_and_places : FnScope nm_is_count_and_places ["items", "many_items", "many"] (defScope s_is_count_and_places) := ⟨rfl, rfl, rfl, by decide +kernel, rfl, by decide +kernel, by decide +kernel⟩
abbrev s_are_places : Stmt := topS 32
abbrev nm_are_places : List Str := ["items", "many", "size", "places", "place"]
theorem sc_are_places : FnScope nm_are_places ["items", "many"] (defScope s_are_places) := ⟨rfl, rfl, rfl, by decide +kernel, rfl, by decide +kernel, by decide +kernel⟩
abbrev s_round_number : Stmt := topS 33
abbrev nm_round_number : List Str := ["program", "step"]
theorem sc_round_number : FnScope nm_round_number ["program"] (defScope s_round_number) := ⟨rfl, rfl, rfl, by decide +kernel, rfl, by decide +kernel, by decide +kernel⟩
abbrev s_book_error : Stmt := topS 38
abbrev nm_book_error : List Str := ["value", "many", "rules", "place", "rule"]
theorem sc_book_error : FnScope nm_book_error ["value"] (defScope s_book_error) := ⟨rfl, rfl, rfl, by decide +kernel, rfl, by decide +kernel, by decide +kernel⟩
abbrev s_rule_error : Stmt := topS 52
abbrev nm_rule_error : List Str := ["value", "modulus", "factors", "begin"]
theorem sc_rule_error : FnScope nm_rule_error ["value"] (defScope s_rule_error) := ⟨rfl, rfl, rfl, by decide +kernel, rfl, by decide +kernel, by decide +kernel⟩
abbrev s_saying_error : Stmt := topS 59
abbrev nm_saying_error : List Str := ["value"]
theorem sc_saying_error : FnScope nm_saying_error ["value"] (defScope s_saying_error) := ⟨rfl, rfl, rfl, by decide +kernel, rfl, by decide +kernel, by decide +kernel⟩
abbrev s_is_over : Stmt := topS 66
abbrev nm_is_over : List Str := ["saying", "many", "part"]
theorem sc_is_over : FnScope nm_is_over ["saying", "many"] (defScope s_is_over) := ⟨rfl, rfl, rfl, by decide +kernel, rfl, by decide +kernel, by decide +kernel⟩
abbrev s_maker_error : Stmt := topS 81
abbrev nm_maker_error : List Str := ["value", "waiting", "looked", "path", "thing", "word", "inner", "place", "part"]
theorem sc_maker_error : FnScope nm_maker_error ["value"] (defScope s_maker_error) := ⟨rfl, rfl, rfl, by decide +kernel, rfl, by decide +kernel, by decide +kernel⟩
abbrev s_wrong_word : Stmt := topS 82
abbrev nm_wrong_word : List Str := ["path", "thing", "kind", "fits"]
theorem sc_wrong_word : FnScope nm_wrong_word ["path", "thing"] (defScope s_wrong_word) := ⟨rfl, rfl, rfl, by decide +kernel, rfl, by decide +kernel, by decide +kernel⟩
abbrev s_fits_one : Stmt := topS 83
abbrev nm_fits_one : List Str := ["kind", "item"]
theorem sc_fits_one : FnScope nm_fits_one ["kind", "item"] (defScope s_fits_one) := ⟨rfl, rfl, rfl, by decide +kernel, rfl, by decide +kernel, by decide +kernel⟩
abbrev s_fits_two : Stmt := topS 84
abbrev nm_fits_two : List Str := ["kind", "item", "other"]
theorem sc_fits_two : FnScope nm_fits_two ["kind", "item", "other"] (defScope s_fits_two) := ⟨rfl, rfl, rfl, by decide +kernel, rfl, by decide +kernel, by decide +kernel⟩
abbrev s_deck : Stmt := topS 86
abbrev nm_deck : List Str := ["_law_script", "_law_cells", "_law_great", "_law_cell"]
theorem sc_deck : FnScope nm_deck ["_law_script"] (defScope s_deck) := ⟨rfl, rfl, rfl, by decide +kernel, rfl, by decide +kernel, by decide +kernel⟩
abbrev s_draw : Stmt := topS 87
abbrev nm_draw : List Str := ["_law_deck_here", "_law_many", "_law_left", "_law_cell", "_law_mixed"]
theorem sc_draw : FnScope nm_draw ["_law_deck_here", "_law_many"] (defScope s_draw) := ⟨rfl, rfl, rfl, by decide +kernel, rfl, by decide +kernel, by decide +kernel⟩
abbrev s_one : Stmt := topS 88
abbrev nm_one : List Str := ["_law_deck_here", "_law_items"]
theorem sc_one : FnScope nm_one ["_law_deck_here", "_law_items"] (defScope s_one) := ⟨rfl, rfl, rfl, by decide +kernel, rfl, by decide +kernel, by decide +kernel⟩
abbrev s_step_drawn : Stmt := topS 89
abbrev nm_step_drawn : List Str := ["_law_deck_here", "_law_word", "_law_place", "_law_many", "_law_sizes", "_law_near", "_law_to", "_law_k", "_law_last", "_law_other", "_law_m", "_law_turn"]
theorem sc_step_drawn : FnScope nm_step_drawn ["_law_deck_here", "_law_word", "_law_place", "_law_many", "_law_sizes"] (defScope s_step_drawn) := ⟨rfl, rfl, rfl, by decide +kernel, rfl, by decide +kernel, by decide +kernel⟩
abbrev s_program : Stmt := topS 90
abbrev nm_program : List Str := ["_law_deck_here", "_law_many", "_law_sizes", "_law_words", "_law_found", "_law_place", "_law_word"]
theorem sc_program : FnScope nm_program ["_law_deck_here"] (defScope s_program) := ⟨rfl, rfl, rfl, by decide +kernel, rfl, by decide +kernel, by decide +kernel⟩
abbrev s_loops : Stmt := topS 91
abbrev nm_loops : List Str := ["_law_deck_here", "_law_found", "_law_rings", "_law_size", "_law_first", "_law_k", "_law_other", "_law_m", "_law_last", "_law_rest_here"]
theorem sc_loops : FnScope nm_loops ["_law_deck_here"] (defScope s_loops) := ⟨rfl, rfl, rfl, by decide +kernel, rfl, by decide +kernel, by decide +kernel⟩
abbrev s_lany : Stmt := topS 92
abbrev nm_lany : List Str := ["_law_deck_here"]
theorem sc_lany : FnScope nm_lany ["_law_deck_here"] (defScope s_lany) := ⟨rfl, rfl, rfl, by decide +kernel, rfl, by decide +kernel, by decide +kernel⟩
abbrev s_lis_whole : Stmt := topS 93
abbrev nm_lis_whole : List Str := ["_law_value", "_law_least", "_law_most"]
theorem sc_lis_whole : FnScope nm_lis_whole ["_law_value", "_law_least", "_law_most"] (defScope s_lis_whole) := ⟨rfl, rfl, rfl, by decide +kernel, rfl, by decide +kernel, by decide +kernel⟩
abbrev s_lare_places : Stmt := topS 94
abbrev nm_lare_places : List Str := ["_law_values", "_law_many", "_law_value"]
theorem sc_lare_places : FnScope nm_lare_places ["_law_values", "_law_many"] (defScope s_lare_places) := ⟨rfl, rfl, rfl, by decide +kernel, rfl, by decide +kernel, by decide +kernel⟩
abbrev s_lis_step : Stmt := topS 95
abbrev nm_lis_step : List Str := ["_law_value", "_law_many"]
theorem sc_lis_step : FnScope nm_lis_step ["_law_value", "_law_many"] (defScope s_lis_step) := ⟨rfl, rfl, rfl, by decide +kernel, rfl, by decide +kernel, by decide +kernel⟩
abbrev s_common : Stmt := topS 96
abbrev nm_common : List Str := ["_law_one_here", "_law_other"]
theorem sc_common : FnScope nm_common ["_law_one_here", "_law_other"] (defScope s_common) := ⟨rfl, rfl, rfl, by decide +kernel, rfl, by decide +kernel, by decide +kernel⟩
abbrev s_odd : Stmt := topS 97
abbrev nm_odd : List Str := ["_law_deck_here", "_law_some"]
theorem sc_odd : FnScope nm_odd ["_law_deck_here"] (defScope s_odd) := ⟨rfl, rfl, rfl, by decide +kernel, rfl, by decide +kernel, by decide +kernel⟩
abbrev s_bent : Stmt := topS 98
abbrev nm_bent : List Str := ["_law_deck_here", "_law_value", "_law_deep", "_law_at", "_law_more", "_law_some"]
theorem sc_bent : FnScope nm_bent ["_law_deck_here", "_law_value", "_law_deep"] (defScope s_bent) := ⟨rfl, rfl, rfl, by decide +kernel, rfl, by decide +kernel, by decide +kernel⟩
abbrev s_lrest : Stmt := topS 99
abbrev nm_lrest : List Str := ["_law_deck_here", "_law_many", "_law_m", "_law_turn"]
theorem sc_lrest : FnScope nm_lrest ["_law_deck_here", "_law_many"] (defScope s_lrest) := ⟨rfl, rfl, rfl, by decide +kernel, rfl, by decide +kernel, by decide +kernel⟩
abbrev s_error : Stmt := topS 100
abbrev nm_error : List Str := ["_law_value", "_law_size", "_law_place", "_law_step"]
theorem sc_error : FnScope nm_error ["_law_value"] (defScope s_error) := ⟨rfl, rfl, rfl, by decide +kernel, rfl, by decide +kernel, by decide +kernel⟩
abbrev s_law : Stmt := topS 101
abbrev nm_law : List Str := ["_law_script", "_law_deck_here", "_law_turn", "_law_program_here", "_law_ends", "_law_some", "_law_wide", "_law_rests", "_law_spoilt", "_law_values", "_law_value", "_law_due", "_law_held", "_law_word", "_law_right", "_law_found", "_law_fixed", "_law_step", "_law_k"]
theorem sc_law : FnScope nm_law ["_law_script"] (defScope s_law) := ⟨rfl, rfl, rfl, by decide +kernel, rfl, by decide +kernel, by decide +kernel⟩
structure Tp (K : PySem.W.Frag) (mg : Str → Option Value) where
  a_is_whole : Addr
  d_is_whole : FuncData
  F_is_whole : Fun K "is_whole" "is_whole" s_is_whole a_is_whole d_is_whole
  g_is_whole : mg "is_whole" = some (.ref a_is_whole)
  a_least_multiple : Addr
  d_least_multiple : FuncData
  F_least_multiple : Fun K "least_multiple" "least_multiple" s_least_multiple a_least_multiple d_least_multiple
  g_least_multiple : mg "least_multiple" = some (.ref a_least_multiple)
  a_program_error : Addr
  d_program_error : FuncData
  F_program_error : Fun K "program_error" "program_error" s_program_error a_program_error d_program_error
  g_program_error : mg "program_error" = some (.ref a_program_error)
  a_is_step : Addr
  d_is_step : FuncData
  F_is_step : Fun K "_is_step" "_is_step" s_is_step a_is_step d_is_step
  g_is_step : mg "_is_step" = some (.ref a_is_step)
  a_is_count_and_places : Addr
  d_is_count_and_places : FuncData
  F_is_count_and_places : Fun K "_is_count_and_places" "_is_count_and_places" s_is_count_and_places a_is_count_and_places d_is_count_and_places
  g_is_count_and_places : mg "_is_count_and_places" = some (.ref a_is_count_and_places)
  a_are_places : Addr
  d_are_places : FuncData
  F_are_places : Fun K "_are_places" "_are_places" s_are_places a_are_places d_are_places
  g_are_places : mg "_are_places" = some (.ref a_are_places)
  a_round_number : Addr
  d_round_number : FuncData
  F_round_number : Fun K "round_number" "round_number" s_round_number a_round_number d_round_number
  g_round_number : mg "round_number" = some (.ref a_round_number)
  a_book_error : Addr
  d_book_error : FuncData
  F_book_error : Fun K "book_error" "book_error" s_book_error a_book_error d_book_error
  g_book_error : mg "book_error" = some (.ref a_book_error)
  a_rule_error : Addr
  d_rule_error : FuncData
  F_rule_error : Fun K "rule_error" "rule_error" s_rule_error a_rule_error d_rule_error
  g_rule_error : mg "rule_error" = some (.ref a_rule_error)
  a_saying_error : Addr
  d_saying_error : FuncData
  F_saying_error : Fun K "saying_error" "saying_error" s_saying_error a_saying_error d_saying_error
  g_saying_error : mg "saying_error" = some (.ref a_saying_error)
  a_is_over : Addr
  d_is_over : FuncData
  F_is_over : Fun K "is_over" "is_over" s_is_over a_is_over d_is_over
  g_is_over : mg "is_over" = some (.ref a_is_over)
  a_maker_error : Addr
  d_maker_error : FuncData
  F_maker_error : Fun K "maker_error" "maker_error" s_maker_error a_maker_error d_maker_error
  g_maker_error : mg "maker_error" = some (.ref a_maker_error)
  a_wrong_word : Addr
  d_wrong_word : FuncData
  F_wrong_word : Fun K "_wrong_word" "_wrong_word" s_wrong_word a_wrong_word d_wrong_word
  g_wrong_word : mg "_wrong_word" = some (.ref a_wrong_word)
  a_fits_one : Addr
  d_fits_one : FuncData
  F_fits_one : Fun K "_fits_one" "_fits_one" s_fits_one a_fits_one d_fits_one
  g_fits_one : mg "_fits_one" = some (.ref a_fits_one)
  a_fits_two : Addr
  d_fits_two : FuncData
  F_fits_two : Fun K "_fits_two" "_fits_two" s_fits_two a_fits_two d_fits_two
  g_fits_two : mg "_fits_two" = some (.ref a_fits_two)
  a_deck : Addr
  d_deck : FuncData
  F_deck : Fun K "_law_deck" "_law_deck" s_deck a_deck d_deck
  g_deck : mg "_law_deck" = some (.ref a_deck)
  a_draw : Addr
  d_draw : FuncData
  F_draw : Fun K "_law_draw" "_law_draw" s_draw a_draw d_draw
  g_draw : mg "_law_draw" = some (.ref a_draw)
  a_one : Addr
  d_one : FuncData
  F_one : Fun K "_law_one" "_law_one" s_one a_one d_one
  g_one : mg "_law_one" = some (.ref a_one)
  a_step_drawn : Addr
  d_step_drawn : FuncData
  F_step_drawn : Fun K "_law_step_drawn" "_law_step_drawn" s_step_drawn a_step_drawn d_step_drawn
  g_step_drawn : mg "_law_step_drawn" = some (.ref a_step_drawn)
  a_program : Addr
  d_program : FuncData
  F_program : Fun K "_law_program" "_law_program" s_program a_program d_program
  g_program : mg "_law_program" = some (.ref a_program)
  a_loops : Addr
  d_loops : FuncData
  F_loops : Fun K "_law_loops" "_law_loops" s_loops a_loops d_loops
  g_loops : mg "_law_loops" = some (.ref a_loops)
  a_lany : Addr
  d_lany : FuncData
  F_lany : Fun K "_law_any" "_law_any" s_lany a_lany d_lany
  g_lany : mg "_law_any" = some (.ref a_lany)
  a_lis_whole : Addr
  d_lis_whole : FuncData
  F_lis_whole : Fun K "_law_is_whole" "_law_is_whole" s_lis_whole a_lis_whole d_lis_whole
  g_lis_whole : mg "_law_is_whole" = some (.ref a_lis_whole)
  a_lare_places : Addr
  d_lare_places : FuncData
  F_lare_places : Fun K "_law_are_places" "_law_are_places" s_lare_places a_lare_places d_lare_places
  g_lare_places : mg "_law_are_places" = some (.ref a_lare_places)
  a_lis_step : Addr
  d_lis_step : FuncData
  F_lis_step : Fun K "_law_is_step" "_law_is_step" s_lis_step a_lis_step d_lis_step
  g_lis_step : mg "_law_is_step" = some (.ref a_lis_step)
  a_common : Addr
  d_common : FuncData
  F_common : Fun K "_law_common" "_law_common" s_common a_common d_common
  g_common : mg "_law_common" = some (.ref a_common)
  a_odd : Addr
  d_odd : FuncData
  F_odd : Fun K "_law_odd" "_law_odd" s_odd a_odd d_odd
  g_odd : mg "_law_odd" = some (.ref a_odd)
  a_bent : Addr
  d_bent : FuncData
  F_bent : Fun K "_law_bent" "_law_bent" s_bent a_bent d_bent
  g_bent : mg "_law_bent" = some (.ref a_bent)
  a_lrest : Addr
  d_lrest : FuncData
  F_lrest : Fun K "_law_rest" "_law_rest" s_lrest a_lrest d_lrest
  g_lrest : mg "_law_rest" = some (.ref a_lrest)
  a_error : Addr
  d_error : FuncData
  F_error : Fun K "_law_error" "_law_error" s_error a_error d_error
  g_error : mg "_law_error" = some (.ref a_error)
  a_law : Addr
  d_law : FuncData
  F_law : Fun K "law" "law" s_law a_law d_law
  g_law : mg "law" = some (.ref a_law)
  n_all : mg "all" = none
  n_bool : mg "bool" = none
  n_enumerate : mg "enumerate" = none
  n_int : mg "int" = none
  n_isinstance : mg "isinstance" = none
  n_len : mg "len" = none
  n_list : mg "list" = none
  n_max : mg "max" = none
  n_min : mg "min" = none
  n_range : mg "range" = none
  n_repr : mg "repr" = none
  n_sorted : mg "sorted" = none
  n_str : mg "str" = none
  n_sum : mg "sum" = none
  n_tuple : mg "tuple" = none
  n_zip : mg "zip" = none
  pr : PySem.Params
  a__ITEMS_BEHIND : Addr
  es__ITEMS_BEHIND : Array DictEntry
  n__ITEMS_BEHIND : Nat
  m__ITEMS_BEHIND : mg "_ITEMS_BEHIND" = some (.ref a__ITEMS_BEHIND)
  D__ITEMS_BEHIND : ∀ wd : World, wd.params = pr → KDict K wd a__ITEMS_BEHIND es__ITEMS_BEHIND n__ITEMS_BEHIND
  L__ITEMS_BEHIND : ∀ z, ∃ r, PySem.W.nsIn K a__ITEMS_BEHIND z = some r ∧ dvOk [(("table" : Str), 1), (("watches" : Str), 1), (("coins" : Str), 1), (("web" : Str), 1), (("game" : Str), 1), (("book" : Str), 2), (("program" : Str), 2), (("row" : Str), 2), (("saying" : Str), 2)] z r
  a__ANSWERS : Addr
  m__ANSWERS : mg "_ANSWERS" = some (.ref a__ANSWERS)
  q__ANSWERS : ∃ (o : Obj) (its : Array Value) (n : Nat), K.lookup a__ANSWERS = some o ∧ o.cls = .type "tuple" ∧ o.data = .seq its n ∧ its.size ≤ sizeLine ∧ Vals [V.str ("yes" : Str), V.str ("no" : Str), V.str ("never" : Str)] its.toList
  m_lcm : mg "lcm" = some (.builtin "math.lcm")
  k_MAX_PLACES : Tok
  m_MAX_PLACES : mg "MAX_PLACES" = some (.int 6 k_MAX_PLACES)
  k_MAX_STEP : Tok
  m_MAX_STEP : mg "MAX_STEP" = some (.int 4 k_MAX_STEP)
  k_MAX_ROUND : Tok
  m_MAX_ROUND : mg "MAX_ROUND" = some (.int 6 k_MAX_ROUND)
  k__MOST_MAKERS : Tok
  m__MOST_MAKERS : mg "_MOST_MAKERS" = some (.int 9 k__MOST_MAKERS)
  k__MOST_PATH : Tok
  m__MOST_PATH : mg "_MOST_PATH" = some (.int 2 k__MOST_PATH)
  k__MOST_INNER : Tok
  m__MOST_INNER : mg "_MOST_INNER" = some (.int 3 k__MOST_INNER)
section
variable {K : PySem.W.Frag} {mg : Str → Option Value} (T : Tp K mg)
theorem b_is_whole : Binds K T.d_is_whole ["value", "low", "high"] [] := T.F_is_whole.binds (ps := ["value", "low", "high"]) fun _ _ _ _ _ _ us hl => match us, hl with | [_, _, _], _ => rfl
theorem b_least_multiple : Binds K T.d_least_multiple ["numbers"] [] := T.F_least_multiple.binds (ps := ["numbers"]) fun _ _ _ _ _ _ us hl => match us, hl with | [_], _ => rfl
theorem b_program_error : Binds K T.d_program_error ["value"] [] := T.F_program_error.binds (ps := ["value"]) fun _ _ _ _ _ _ us hl => match us, hl with | [_], _ => rfl
theorem b_is_step : Binds K T.d_is_step ["value", "many"] [] := T.F_is_step.binds (ps := ["value", "many"]) fun _ _ _ _ _ _ us hl => match us, hl with | [_, _], _ => rfl
theorem b_is_count_and_places : Binds K T.d_is_count_and_places ["items", "many_items", "many"] [] := T.F_is_count_and_places.binds (ps := ["items", "many_items", "many"]) fun _ _ _ _ _ _ us hl => match us, hl with | [_, _, _], _ => rfl
theorem b_are_places : Binds K T.d_are_places ["items", "many"] [] := T.F_are_places.binds (ps := ["items", "many"]) fun _ _ _ _ _ _ us hl => match us, hl with | [_, _], _ => rfl
theorem b_round_number : Binds K T.d_round_number ["program"] [] := T.F_round_number.binds (ps := ["program"]) fun _ _ _ _ _ _ us hl => match us, hl with | [_], _ => rfl
theorem b_book_error : Binds K T.d_book_error ["value"] [] := T.F_book_error.binds (ps := ["value"]) fun _ _ _ _ _ _ us hl => match us, hl with | [_], _ => rfl
theorem b_rule_error : Binds K T.d_rule_error ["value"] [] := T.F_rule_error.binds (ps := ["value"]) fun _ _ _ _ _ _ us hl => match us, hl with | [_], _ => rfl
theorem b_saying_error : Binds K T.d_saying_error ["value"] [] := T.F_saying_error.binds (ps := ["value"]) fun _ _ _ _ _ _ us hl => match us, hl with | [_], _ => rfl
theorem b_is_over : Binds K T.d_is_over ["saying", "many"] [] := T.F_is_over.binds (ps := ["saying", "many"]) fun _ _ _ _ _ _ us hl => match us, hl with | [_, _], _ => rfl
theorem b_maker_error : Binds K T.d_maker_error ["value"] [] := T.F_maker_error.binds (ps := ["value"]) fun _ _ _ _ _ _ us hl => match us, hl with | [_], _ => rfl
theorem b_wrong_word : Binds K T.d_wrong_word ["path", "thing"] [] := T.F_wrong_word.binds (ps := ["path", "thing"]) fun _ _ _ _ _ _ us hl => match us, hl with | [_, _], _ => rfl
theorem b_fits_one : Binds K T.d_fits_one ["kind", "item"] [] := T.F_fits_one.binds (ps := ["kind", "item"]) fun _ _ _ _ _ _ us hl => match us, hl with | [_, _], _ => rfl
theorem b_fits_two : Binds K T.d_fits_two ["kind", "item", "other"] [] := T.F_fits_two.binds (ps := ["kind", "item", "other"]) fun _ _ _ _ _ _ us hl => match us, hl with | [_, _, _], _ => rfl
theorem b_deck : Binds K T.d_deck ["_law_script"] [] := T.F_deck.binds (ps := ["_law_script"]) fun _ _ _ _ _ _ us hl => match us, hl with | [_], _ => rfl
theorem b_draw : Binds K T.d_draw ["_law_deck_here", "_law_many"] [] := T.F_draw.binds (ps := ["_law_deck_here", "_law_many"]) fun _ _ _ _ _ _ us hl => match us, hl with | [_, _], _ => rfl
theorem b_one : Binds K T.d_one ["_law_deck_here", "_law_items"] [] := T.F_one.binds (ps := ["_law_deck_here", "_law_items"]) fun _ _ _ _ _ _ us hl => match us, hl with | [_, _], _ => rfl
theorem b_step_drawn : Binds K T.d_step_drawn ["_law_deck_here", "_law_word", "_law_place", "_law_many", "_law_sizes"] [] := T.F_step_drawn.binds (ps := ["_law_deck_here", "_law_word", "_law_place", "_law_many", "_law_sizes"]) fun _ _ _ _ _ _ us hl => match us, hl with | [_, _, _, _, _], _ => rfl
theorem b_program : Binds K T.d_program ["_law_deck_here"] [] := T.F_program.binds (ps := ["_law_deck_here"]) fun _ _ _ _ _ _ us hl => match us, hl with | [_], _ => rfl
theorem b_loops : Binds K T.d_loops ["_law_deck_here"] [] := T.F_loops.binds (ps := ["_law_deck_here"]) fun _ _ _ _ _ _ us hl => match us, hl with | [_], _ => rfl
theorem b_lany : Binds K T.d_lany ["_law_deck_here"] [] := T.F_lany.binds (ps := ["_law_deck_here"]) fun _ _ _ _ _ _ us hl => match us, hl with | [_], _ => rfl
theorem b_lis_whole : Binds K T.d_lis_whole ["_law_value", "_law_least", "_law_most"] [] := T.F_lis_whole.binds (ps := ["_law_value", "_law_least", "_law_most"]) fun _ _ _ _ _ _ us hl => match us, hl with | [_, _, _], _ => rfl
theorem b_lare_places : Binds K T.d_lare_places ["_law_values", "_law_many"] [] := T.F_lare_places.binds (ps := ["_law_values", "_law_many"]) fun _ _ _ _ _ _ us hl => match us, hl with | [_, _], _ => rfl
theorem b_lis_step : Binds K T.d_lis_step ["_law_value", "_law_many"] [] := T.F_lis_step.binds (ps := ["_law_value", "_law_many"]) fun _ _ _ _ _ _ us hl => match us, hl with | [_, _], _ => rfl
theorem b_common : Binds K T.d_common ["_law_one_here", "_law_other"] [] := T.F_common.binds (ps := ["_law_one_here", "_law_other"]) fun _ _ _ _ _ _ us hl => match us, hl with | [_, _], _ => rfl
theorem b_odd : Binds K T.d_odd ["_law_deck_here"] [] := T.F_odd.binds (ps := ["_law_deck_here"]) fun _ _ _ _ _ _ us hl => match us, hl with | [_], _ => rfl
theorem b_bent : Binds K T.d_bent ["_law_deck_here", "_law_value", "_law_deep"] [] := T.F_bent.binds (ps := ["_law_deck_here", "_law_value", "_law_deep"]) fun _ _ _ _ _ _ us hl => match us, hl with | [_, _, _], _ => rfl
theorem b_lrest : Binds K T.d_lrest ["_law_deck_here", "_law_many"] [] := T.F_lrest.binds (ps := ["_law_deck_here", "_law_many"]) fun _ _ _ _ _ _ us hl => match us, hl with | [_, _], _ => rfl
theorem b_error : Binds K T.d_error ["_law_value"] [] := T.F_error.binds (ps := ["_law_value"]) fun _ _ _ _ _ _ us hl => match us, hl with | [_], _ => rfl
theorem b_law : Binds K T.d_law ["_law_script"] [] := T.F_law.binds (ps := ["_law_script"]) fun _ _ _ _ _ _ us hl => match us, hl with | [_], _ => rfl
end
set_option pp.deepTerms false
set_option pp.deepTerms.threshold 5
section
variable {P : Program} {wd : World} {K : PySem.W.Frag} {mg : Str → Option Value} {base : Heap} (T : Tp K mg)
theorem mem_ints {x : V} {ns : List Int} {xs : List V} (e : xs = ns.map V.int) (h : x ∈ xs) : ∃ i ∈ ns, x = .int i := by
  subst e
  obtain ⟨i, h1, h2⟩ := List.mem_map.mp h
  exact ⟨i, h1, h2.symm⟩
abbrev Dk (w g c : Addr) (H : Hp) : Prop := DkL w g c H
def spDeck (K : PySem.W.Frag) : Sp := fun vs H Q _ => ∃ (a : Addr) (ns : List Int), vs = [.ref a] ∧ SqL K H a (ns.map V.int) ∧ ns.length ≤ 63 ∧
  ∀ w g c H', Same H H' → Dk w g c H' → Q (.ref w) H'
theorem ok_deck : FnOk P wd K mg base CX0 1 T.a_deck T.d_deck ["_law_script"] (spDeck K) := by
  refine T.F_deck.ok sc_deck (fun vs H Q E h => ?_) (fun cdv A outer s H vs Q E hr h => ?_)
  · obtain ⟨a, ns, rfl, _⟩ := h
    rfl
  · obtain ⟨a, ns, rfl, hS, hl, q⟩ := h
    refine ⟨_, (pss_cons (ps_setLc (i := 1) (own := [("_law_cell", 3)]) rfl sc_deck.nd rfl rfl (sw_true rfl rfl rfl (by decide +kernel)) (pi_list (pv 0)) (blkOk_by (N := nm_deck) (sc := defScope s_deck) (by decide +kernel)) (fun _ _ _ _ _ => pg_name (i := 3) sc_deck.nd rfl (Or.inl rfl)) (fun _ _ _ _ _ => pts_nil) (fun _ _ _ _ _ => (pe_ifExp (pt_cmpR op_ge (pv 3) pe_int (nomark _)) (pe_op op_mul pe_int (pv 3)) (pe_op op_sub (pe_op op_sub pe_int (pe_op op_mul pe_int (pv 3))) pe_int))))
      (pss_cons (ps_setLc (i := 2) (own := [("_law_cell", 3)]) rfl sc_deck.nd rfl rfl (sw_true rfl rfl rfl (by decide +kernel)) (pi_list (pv 1)) (blkOk_by (N := nm_deck) (sc := defScope s_deck) (by decide +kernel)) (fun _ _ _ _ _ => pg_name (i := 3) sc_deck.nd rfl (Or.inl rfl)) (fun _ _ _ _ _ => pts_one (pt_cmpR op_ge (pv 3) (pe_op op_pow pe_int pe_int) (nomark _))) (fun _ _ _ _ _ => (pe_op op_fdiv (pv 3) pe_int)))
      (pss_one (ps_ret (pe_lst (pa_cons (pe_revL (pv 2)) (pa_cons (pe_op op_cat (pv 1) (pe_lst (pa_cons (pe_op op_add pe_int (pe_callB call_len_seq rfl T.n_len PySem.boot_len (pa_cons (pv 1) pa_nil))) pa_nil))) (pa_cons (pe_callB (cr_sum rfl) rfl T.n_sum (by decide +kernel) (pa_cons (pv 1) pa_nil)) (pa_cons pe_int pa_nil))))))))), ?_⟩
    walk_at "go"
    refine ⟨⟨_, hS⟩, fun D nD => ?_⟩
    refine lc_list (xs := ns.map V.int) (fun i H2 => ∃ cs : List Int, H2 D = some (.lst (cs.map V.int)) ∧ cs.length = i ∧ Same H H2) ⟨[], upd_same, rfl, same_new nD⟩
      (fun i H2 _ p => p.choose_spec.2.2.seq hS) (fun i x H2 hx p => ?_) (fun H2 p => ?_)
    · obtain ⟨cs, hD, hc, S⟩ := p
      obtain ⟨z, _, rfl⟩ := mem_ints (x := x) (ns := ns) rfl (List.mem_of_getElem? hx)
      have hil : i < (ns.map V.int).length := (List.getElem?_eq_some_iff.mp hx).1
      rw [List.length_map] at hil
      refine ⟨rfl, ?_⟩
      walk_at "go"
      refine ifD (fun big => ?_) (fun nb => ?_)
      · walk_at "go"
        refine ⟨_, hD, small1000 (by rw [List.length_map]; omega), cs ++ [_], by rw [upd_same, List.map_append]; rfl, by rw [List.length_append]; simp; omega, same_mut S nD⟩
      · walk_at "go"
        refine ⟨_, hD, small1000 (by rw [List.length_map]; omega), cs ++ [_], by rw [upd_same, List.map_append]; rfl, by rw [List.length_append]; simp; omega, same_mut S nD⟩
    · obtain ⟨cs, hD, hc, S1⟩ := p
      rw [List.length_map] at hc
      walk_at "go"
      refine ⟨⟨_, sqL_of hD⟩, fun D2 nD2 => ?_⟩
      refine lc_list (xs := cs.map V.int) (fun i H3 => ∃ gs : List Int, H3 D2 = some (.lst (gs.map V.int)) ∧ gs.length ≤ i ∧ Same H2 H3) ⟨[], upd_same, Nat.zero_le _, same_new nD2⟩
        (fun i H3 _ p => sqL_of (p.choose_spec.2.2 _ _ hD)) (fun i x H3 hx p => ?_) (fun H3 p => ?_)
      · obtain ⟨gs, hD2, hg, S⟩ := p
        obtain ⟨z, _, rfl⟩ := mem_ints (x := x) (ns := cs) rfl (List.mem_of_getElem? hx)
        have hil : i < (cs.map V.int).length := (List.getElem?_eq_some_iff.mp hx).1
        rw [List.length_map] at hil
        refine ⟨rfl, ?_⟩
        walk_at "go"
        refine ifD (fun big => ?_) (fun nb => ?_)
        · walk_at "go"
          refine ⟨_, hD2, small1000 (by rw [List.length_map]; omega), gs ++ [_], by rw [upd_same, List.map_append]; rfl, by rw [List.length_append]; simp; omega, same_mut S nD2⟩
        · exact ⟨gs, hD2, by omega, S⟩
      · obtain ⟨gs, hD2, hg, S2⟩ := p
        rw [List.length_map] at hg
        have hD3 := S2 _ _ hD
        walk_at "go"
        intro r nr
        generalize hU : upd H3 r _ = H4
        obtain ⟨s4, hr4⟩ := new_of0 nr hU
        rw [← List.map_reverse] at hr4
        have hD4 := s4 _ _ hD3
        walk_at "go"
        intro l1 nl1
        generalize hU1 : upd H4 l1 _ = H5
        obtain ⟨s5, hl1⟩ := new_of0 nl1 hU1
        have hD5 := s5 _ _ hD4
        have hr5 := s5 _ _ hr4
        refine ⟨D, l1, _, _, rfl, rfl, hD5, hl1, szl (by rw [List.length_map]; simp; omega), fun c3 nc3 => ?_⟩
        generalize hU2 : upd H5 c3 _ = H6
        obtain ⟨s6, hc3⟩ := new_of0 nc3 hU2
        have hD6 := s6 _ _ hD5
        have hr6 := s6 _ _ hr5
        walk_at "go"
        refine ⟨D, cs, rfl, sqL_of hD6, ?_⟩
        walk_at "go"
        intro w nw
        generalize hU3 : upd H6 w _ = H7
        obtain ⟨s7, hw⟩ := new_of0 nw hU3
        obtain ⟨z, hz⟩ : ∃ z : Int, H6 c3 = some (.lst ((cs ++ [z]).map V.int)) := ⟨_, by rw [List.map_append]; exact hc3⟩
        have Sall : Same H H7 := fun b o e => s7 _ _ (s6 _ _ (s5 _ _ (s4 _ _ (S2 _ _ (S1 _ _ e)))))
        have hr7 := s7 _ _ hr6
        have hc7 := s7 _ _ hz
        refine q w r c3 H7 Sall ⟨gs.reverse, cs ++ [z], _, 0, (ne_of_none hr6 nw).symm, (ne_of_none hr5 nc3).symm, ne_of_none hz nw, hw, hr7, hc7, by simp, by rw [List.length_reverse]; omega, by simp; omega⟩
def spDraw : Sp := fun vs H Q _ => ∃ (w g c : Addr) (n : Int), vs = [.ref w, .int n] ∧ Dk w g c H ∧ 0 < n ∧ n < 1073741824 ∧
  ∀ (d : Int) H', Go w g H H' → Dk w g c H' → 0 ≤ d → d < n → Q (.int d) H'
theorem ok_draw : FnOk P wd K mg base CX0 1 T.a_draw T.d_draw ["_law_deck_here", "_law_many"] spDraw := by
  refine T.F_draw.ok sc_draw (fun vs H Q E h => ?_) (fun cdv A outer s H vs Q E hr h => ?_)
  · obtain ⟨w, g, c, n, rfl, _⟩ := h
    rfl
  · have hu4 : (cxOf CX0 P wd K mg base nm_draw "_law_draw" (defScope s_draw) T.a_draw cdv A outer s H E).A.units + 64 < cLine := hr.units
    obtain ⟨w, g, c, n, rfl, W, n0, n1, q⟩ := h
    refine ⟨_, (pss_cons (ps_if (pt_cmpR (op_neD hu4) (pe_ix ix_list (pv 0) pe_int (fun _ _ => rfl)) (pe_lst pa_nil) (nomark _)) (pss_cons (ps_set (i := 2) sc_draw.nd rfl (Or.inl rfl) (pe_callTy call_int1 rfl T.n_int (by decide +kernel) (pa_cons (pe_bm0 PySem.F.plainAttrs_list PySem.F.slot_list_pop PySem.F.type_list_pop mt_pop (pe_ix ix_list (pv 0) pe_int (fun _ _ => rfl))) pa_nil)))
      (pss_cons (ps_if (pt_cmpR op_ge (pv 2) (pv 1) (nomark _)) (pss_one (ps_expr (pe_bm PySem.F.plainAttrs_list PySem.F.slot_list_append PySem.F.type_list_append mt_append (pe_ix ix_list (pv 0) pe_int (fun _ _ => rfl)) (pa_cons (pe_op op_fdiv (pv 2) (pv 1)) pa_nil)))) pss_nil)
      (pss_one (ps_ret (pe_op op_mod (pe_callTy call_int1 rfl T.n_int (by decide +kernel) (pa_cons (pv 2) pa_nil)) (pv 1)))))) pss_nil)
      (pss_cons (ps_asg (pe_op op_add (pe_ix ix_list (pv 0) pe_int (fun _ _ => rfl)) pe_int) (pg_sub (pv 0) pe_int set_list))
      (pss_cons (ps_set (i := 3) sc_draw.nd rfl (Or.inl rfl) (pe_ix ix_list (pe_ix ix_list (pv 0) pe_int (fun _ _ => rfl)) (pe_op op_mod (pe_callTy call_int1 rfl T.n_int (by decide +kernel) (pa_cons (pe_ix ix_list (pv 0) pe_int (fun _ _ => rfl)) pa_nil)) (pe_callB call_len_seq rfl T.n_len PySem.boot_len (pa_cons (pe_ix ix_list (pv 0) pe_int (fun _ _ => rfl)) pa_nil))) (fun _ _ => rfl)))
      (pss_cons (ps_set (i := 4) sc_draw.nd rfl (Or.inl rfl) (pe_op op_mod (pe_callTy call_int1 rfl T.n_int (by decide +kernel) (pa_cons (pe_op op_add (pe_op op_add (pv 3) (pe_op op_mul pe_int (pe_ix ix_list (pv 0) pe_int (fun _ _ => rfl)))) (pe_op op_mul pe_int (pe_ix ix_list (pv 0) pe_int (fun _ _ => rfl)))) pa_nil)) pe_int))
      (pss_cons (ps_set (i := 4) sc_draw.nd rfl (Or.inl rfl) (pe_op op_mod (pe_callTy call_int1 rfl T.n_int (by decide +kernel) (pa_cons (pe_op op_add (pe_op op_add (pe_op op_mul (pv 4) (pv 4)) (pe_op op_mul pe_int (pe_ix ix_list (pv 0) pe_int (fun _ _ => rfl)))) (pe_ix ix_list (pv 0) pe_int (fun _ _ => rfl))) pa_nil)) pe_int))
      (pss_one (ps_ret (pe_op op_mod (pe_op op_fdiv (pe_op op_mod (pe_callTy call_int1 rfl T.n_int (by decide +kernel) (pa_cons (pe_op op_add (pe_op op_mul (pv 4) (pv 4)) (pv 3)) pa_nil)) pe_int) pe_int) (pv 1))))))))), ?_⟩
    obtain ⟨gs, cs, k, t, e1, e2, e3, hw, hg, hc, h0, hgs, hcs⟩ := W
    walk_at "go"
    intro o no
    have s1 : Same H (upd H o (.lst [])) := same_new no
    have ho : (upd H o (.lst [])) o = some (.lst []) := upd_same
    generalize upd H o (.lst []) = H1 at s1 ho
    replace hw := s1 _ _ hw
    replace hg := s1 _ _ hg
    replace hc := s1 _ _ hc
    refine ⟨.list (gs.map PyData.int), .list [], .lst (sqL_of hg) (dpAll_ints _), .lst (sqL_of ho) .nil, shaped_ints _, by rfl, _, rfl, ?_⟩
    rw [eqv_ints_nil]
    refine ifDn (fun hne => ?_) (fun he => ?_)
    · obtain ⟨r, gs', rfl⟩ : ∃ r gs', gs = gs' ++ [r] := by
        rcases List.eq_nil_or_concat gs with h | ⟨gs', r, h⟩
        · exact absurd h hne
        · exact ⟨r, gs', by rw [h, List.concat_eq_append]⟩
      rw [List.map_append] at hg
      walk_at "go"
      refine ⟨Or.inl ⟨rfl, _, sqL_of hg⟩, ?_⟩
      refine ⟨g, _, .int r, rfl, rfl, hg, by simp, ?_⟩
      generalize hU : upd H1 g _ = H2
      have hg2 : H2 g = some (.lst (gs'.map V.int)) := by rw [← hU, upd_same]; simp
      have hw2 : H2 w = some (.lst [V.ref g, V.ref c, V.int k, V.int t]) := by rw [← hU]; exact (upd_ne e1).trans hw
      have hc2 : H2 c = some (.lst (cs.map V.int)) := by rw [← hU]; exact (upd_ne e2).trans hc
      have s2 : Go w g H H2 := fun a x n1 n2 e => by
        rw [← hU, upd_ne n2]
        exact s1 _ _ e
      clear hU
      have lgs : gs'.length < 1000 := by rw [List.length_append] at hgs; simp at hgs; omega
      walk_at "go"
      refine ifD (fun ge => ?_) (fun nge => ?_)
      · walk_at "go"
        refine ⟨Or.inl ⟨rfl, _, sqL_of hg2⟩, ?_⟩
        walk_at "go"
        refine ⟨g, _, _, rfl, rfl, hg2, szl2 (by rw [List.length_map]; omega), ?_⟩
        generalize hU : upd H2 g _ = H3
        have hg3 : H3 g = some (.lst ((gs' ++ [r / n]).map V.int)) := by rw [← hU, upd_same, List.map_append]; rfl
        have hw3 : H3 w = some (.lst [V.ref g, V.ref c, V.int k, V.int t]) := by rw [← hU]; exact (upd_ne e1).trans hw2
        have hc3 : H3 c = some (.lst (cs.map V.int)) := by rw [← hU]; exact (upd_ne e2).trans hc2
        have s3 : Go w g H H3 := fun a x n1 n2 e => by
          rw [← hU, upd_ne n2]
          exact s2 _ _ n1 n2 e
        clear hU
        walk_at "go"
        exact q _ _ s3 ⟨_, cs, k, t, e1, e2, e3, hw3, hg3, hc3, h0, by rw [List.length_append]; simp; omega, hcs⟩ (Int.emod_nonneg _ (by omega)) (Int.emod_lt_of_pos _ n0)
      · walk_at "go"
        exact q _ _ s2 ⟨_, cs, k, t, e1, e2, e3, hw2, hg2, hc2, h0, by omega, hcs⟩ (Int.emod_nonneg _ (by omega)) (Int.emod_lt_of_pos _ n0)
    · subst he
      walk_at "go"
      refine ⟨_, _, _, 3, rfl, rfl, hw, ix_at (j := 3) rfl (by simp), ?_⟩
      generalize hU : upd H1 w _ = H2
      have hw2 : H2 w = some (.lst [V.ref g, V.ref c, V.int k, V.int (t + 1)]) := by rw [← hU, upd_same]; rfl
      have hg2 : H2 g = some (.lst (([] : List Int).map V.int)) := by rw [← hU]; exact (upd_ne e1.symm).trans hg
      have hc2 : H2 c = some (.lst (cs.map V.int)) := by rw [← hU]; exact (upd_ne e3).trans hc
      have s2 : Go w g H H2 := fun a x n1 n2 e => by
        rw [← hU, upd_ne n1]
        exact s1 _ _ e
      clear hU
      have hm : ((t + 1) % (((cs.map V.int).length : Nat) : Int)).toNat < cs.length := by
        rw [List.length_map]
        have h1 := Int.emod_nonneg (t + 1) (show (cs.length : Int) ≠ 0 by omega)
        have h2 := Int.emod_lt_of_pos (t + 1) (show 0 < (cs.length : Int) by omega)
        omega
      obtain ⟨x, hx⟩ : ∃ x, cs[((t + 1) % (((cs.map V.int).length : Nat) : Int)).toNat]? = some x := ⟨_, List.getElem?_eq_getElem hm⟩
      walk_at "go"
      refine go_ixLi (xs := cs.map V.int) (v := .int x) hc2 (j := ((t + 1) % (((cs.map V.int).length : Nat) : Int)).toNat) ?_ (by rw [List.getElem?_map, hx]; rfl) ?_
      · rw [Int.toNat_of_nonneg (Int.emod_nonneg _ (by rw [List.length_map]; omega))]
      walk_at "go"
      exact q _ _ s2 ⟨[], cs, k, t + 1, e1, e2, e3, hw2, hg2, hc2, h0, by simp, hcs⟩ (Int.emod_nonneg _ (by omega)) (Int.emod_lt_of_pos _ n0)
/-- one of the items -/
def spPick : Sp := fun vs H Q _ => ∃ (w g c l : Addr) (xs : List V), vs = [.ref w, .ref l] ∧ Dk w g c H ∧ Ac w g c H l (.lst xs) ∧ 0 < xs.length ∧ xs.length < 1000000 ∧
  ∀ x H', x ∈ xs → Go w g H H' → Dk w g c H' → Q x H'
theorem ok_pick : FnOk P wd K mg base CX0 2 T.a_one T.d_one ["_law_deck_here", "_law_items"] spPick := by
  have G_draw : FnOk P wd K mg base CX0 1 T.a_draw T.d_draw ["_law_deck_here", "_law_many"] spDraw := ok_draw T
  refine T.F_one.ok sc_one (fun vs H Q E h => ?_) (fun cdv A outer s H vs Q E hr h => ?_)
  · obtain ⟨w, g, c, l, xs, rfl, _⟩ := h
    rfl
  · obtain ⟨w, g, c, l, xs, rfl, W, L, l0, l1, q⟩ := h
    refine ⟨_, (pss_one (ps_ret (pe_ix ix_list (pv 1) (pe_call G_draw hr rfl T.g_draw T.F_draw.kp (b_draw T) .nil pass0 (pa_cons (pv 0) (pa_cons (pe_callB call_len_seq rfl T.n_len PySem.boot_len (pa_cons (pv 1) pa_nil)) pa_nil))) (fun _ _ => rfl)))), ?_⟩
    have hl := L.at_
    walk_at "go"
    refine ⟨w, g, c, _, rfl, W, by omega, by omega, fun d H' s1 W1 d0 d1 => ?_⟩
    have hl1 := (L.go s1).at_
    obtain ⟨x, hx⟩ : ∃ x, xs[d.toNat]? = some x := ⟨_, List.getElem?_eq_getElem (by omega)⟩
    refine go_ixLi hl1 (j := d.toNat) (by omega) hx ?_
    exact q x H' (List.mem_of_getElem? hx) s1 W1
end
set_option pp.deepTerms false
set_option pp.deepTerms.threshold 5
set_option hygiene false in
local macro_rules | `(tactic| walk_at "mem") => `(tactic| first | exact List.Mem.head _ | (apply List.Mem.tail; walk_at "mem"))
set_option hygiene false in
local macro_rules | `(tactic| walk_at "bt") => `(tactic| first
  | exact Bt.non
  | exact Bt.bl _
  | (refine Bt.int ?_ ?_; (first | omega | decide); (first | omega | decide))
  | (refine Bt.intText ?_ ?_; (first | omega | decide); (first | omega | decide))
  | exact Bt.blText
  | (refine Bt.rep ?_ ?_; (focus decide +kernel); decide +kernel)
  | (refine Bt.str _ ?_; decide +kernel)
  | (refine Bt.code ?_ ?_; (focus decide); decide)
  | (apply Lz.get_tp Y; walk_at "mem")
  | (apply Lz.get_th Y; walk_at "mem")
  | (apply Lz.get_ls Y; walk_at "mem")
  | assumption)
set_option hygiene false in
local macro_rules | `(tactic| walk_at "btl") => `(tactic| first
  | (apply BtL.app; (focus walk_at "btl"); walk_at "btl")
  | (apply BtL.cons; (focus walk_at "bt"); walk_at "btl")
  | exact BtL.nil
  | (apply BtL.rev; walk_at "btl")
  | (apply Lz.ls_bt Y; walk_at "mem")
  | (apply Lz.tp_bt Y; walk_at "mem")
  | assumption)
set_option hygiene false in
local macro_rules | `(tactic| walk_at "bta") => `(tactic| first
  | (apply BtA.app; (focus walk_at "bta"); walk_at "bta")
  | (apply BtA.cons; (focus (apply Bt.mono2; (focus walk_at "bt"); (focus (first | (clear b30; omega) | omega | decide)); (focus (first | (clear b30; omega) | omega | decide)))); walk_at "bta")
  | exact BtA.nil)
set_option hygiene false in
local macro_rules | `(tactic| walk_at "new") => `(tactic| (intro p np; generalize hU : upd _ p _ = HH; first
  | (apply Lz.kT Y np hU; (focus walk_at "btl"); clear Y hU np; intro Y)
  | (apply Lz.kL Y np hU; (focus walk_at "btl"); clear Y hU np; intro Y)
  | (apply Lz.kDk Y np hU; clear Y hU np; intro Zd Y)))
set_option hygiene false in
local macro_rules | `(tactic| walk_at "cat") => `(tactic| (apply Lz.kCat Y; (focus walk_at "mem"); (focus walk_at "mem"); (focus (first | (clear b30; omega) | omega | decide)); clear Y; intro p HH Y))
set_option hygiene false in
local macro_rules | `(tactic| walk_at "tups") => `(tactic| first
  | (apply go_tup; (focus (apply Lz.tp_at Y; walk_at "mem")))
  | (apply go_lenT; (focus (apply Lz.tp_at Y; walk_at "mem")))
  | (apply go_ixT; (focus (apply Lz.tp_at Y; walk_at "mem")); (focus (first | rfl | assumption)))
  | (apply Lz.kSl Y; (focus walk_at "mem"); clear Y; intro p HH Y)
  | (apply Lz.kCatT Y; (focus walk_at "mem"); (focus walk_at "mem"); (focus (first | (clear b30; omega) | omega | decide)); clear Y; intro p HH Y)
  | refine no_part ?_
  | ((try unfold tC); apply Lz.kRep Y; (focus walk_at "mem"); (focus simp); (focus omega); (focus omega); (focus omega); clear Y; intro p HH Y))
set_option hygiene false in
local macro_rules | `(tactic| walk_at "lay1") => `(tactic| first | walk_at "go1" | walk_at "new" | walk_at "tups" | walk_at "cat")
set_option hygiene false in
local macro_rules | `(tactic| walk_at "lay") => `(tactic| repeat (walk_at "lay1"))
set_option hygiene false in
local macro_rules | `(tactic| walk_at "nma") => `(tactic| first
  | (apply NmA.cons; (focus omega); (focus omega); walk_at "nma")
  | exact NmA.nil)
set_option hygiene false in
local macro_rules | `(tactic| walk_at "draw") => `(tactic| (refine ⟨w, g, c, _, rfl, Lz.dk Y, by omega, by omega, fun d HH sd Wd d0 d1 => ?_⟩; replace Y := Lz.goes Y sd Wd; clear sd Wd))
section
variable {P : Program} {wd : World} {K : PySem.W.Frag} {mg : Str → Option Value} {base : Heap} (T : Tp K mg)
theorem ok_is_whole : FnOk P wd K mg base CX0 1 T.a_is_whole T.d_is_whole ["value", "low", "high"] spWhole := by
  refine T.F_is_whole.ok sc_is_whole (fun vs H Q E h => ?_) (fun cdv A outer s H vs Q E hr h => ?_)
  · obtain ⟨w, g, v, d, lo, hi, rfl, _⟩ := h
    rfl
  · obtain ⟨w, g, v, d, lo, hi, rfl, t, q⟩ := h
    refine ⟨_, (pss_one (ps_ret (pe_and (pe_callB call_isi rfl T.n_isinstance (by decide +kernel) (pa_cons (pv 0) (pa_cons (pe_bltn (v := .ty "int") rfl T.n_int (by decide +kernel) rfl) pa_nil))) (pe_and (pe_not (pe_callB call_isi rfl T.n_isinstance (by decide +kernel) (pa_cons (pv 0) (pa_cons (pe_bltn (v := .ty "bool") rfl T.n_bool (by decide +kernel) rfl) pa_nil)))) (pe_one (pe_chain op_le op_le (pv 1) (pv 0) (pv 2))))))), ?_⟩
    obtain ⟨ty, h1, h2⟩ := t.isInt (K := K)
    obtain ⟨ty', h3, h4⟩ := t.isBool (K := K)
    walk_at "go"
    refine ⟨_, _, ty, _, _, rfl, .ty "int", h1, h2, ?_⟩
    refine ⟨_, rfl, ?_⟩
    cases t with
    | int i =>
      refine ifB (fun _ => ?_) (fun c => by cases c)
      walk_at "go"
      refine ⟨_, _, ty', _, _, rfl, .ty "bool", h3, h4, ?_⟩
      refine ⟨_, rfl, ?_⟩
      refine ⟨_, rfl, ?_⟩
      refine ifB (fun _ => ?_) (fun c => by cases c)
      walk_at "go"
      refine ite2 (fun c => ?_) (fun c => ?_)
      · walk_at "go"
        have e : wholeD lo hi (.int i) = decide (i ≤ hi) := by
          show (decide (lo ≤ i) && decide (i ≤ hi)) = _
          rw [c, Bool.true_and]
        rw [e] at q
        exact q
      · have e : wholeD lo hi (.int i) = false := by
          show (decide (lo ≤ i) && decide (i ≤ hi)) = _
          rw [Bool.eq_false_iff.mpr c, Bool.false_and]
        rw [e] at q
        exact q
    | bl b =>
      refine ifB (fun _ => ?_) (fun c => by cases c)
      walk_at "go"
      refine ⟨_, _, ty', _, _, rfl, .ty "bool", h3, h4, ?_⟩
      refine ⟨_, rfl, ?_⟩
      refine ⟨_, rfl, ?_⟩
      exact ifB (fun c => by cases c) (fun _ => q)
    | _ => exact q
theorem ok_lis_whole : FnOk P wd K mg base CX0 1 T.a_lis_whole T.d_lis_whole ["_law_value", "_law_least", "_law_most"] spWhole := by
  refine T.F_lis_whole.ok sc_lis_whole (fun vs H Q E h => ?_) (fun cdv A outer s H vs Q E hr h => ?_)
  · obtain ⟨w, g, v, d, lo, hi, rfl, _⟩ := h
    rfl
  · obtain ⟨w, g, v, d, lo, hi, rfl, t, q⟩ := h
    refine ⟨_, (pss_one (ps_ret (pe_and (pe_callB call_isi rfl T.n_isinstance (by decide +kernel) (pa_cons (pv 0) (pa_cons (pe_bltn (v := .ty "int") rfl T.n_int (by decide +kernel) rfl) pa_nil))) (pe_and (pe_not (pe_callB call_isi rfl T.n_isinstance (by decide +kernel) (pa_cons (pv 0) (pa_cons (pe_bltn (v := .ty "bool") rfl T.n_bool (by decide +kernel) rfl) pa_nil)))) (pe_one (pe_chain op_le op_le (pv 1) (pv 0) (pv 2))))))), ?_⟩
    obtain ⟨ty, h1, h2⟩ := t.isInt (K := K)
    obtain ⟨ty', h3, h4⟩ := t.isBool (K := K)
    walk_at "go"
    refine ⟨_, _, ty, _, _, rfl, .ty "int", h1, h2, ?_⟩
    refine ⟨_, rfl, ?_⟩
    cases t with
    | int i =>
      refine ifB (fun _ => ?_) (fun c => by cases c)
      walk_at "go"
      refine ⟨_, _, ty', _, _, rfl, .ty "bool", h3, h4, ?_⟩
      refine ⟨_, rfl, ?_⟩
      refine ⟨_, rfl, ?_⟩
      refine ifB (fun _ => ?_) (fun c => by cases c)
      walk_at "go"
      refine ite2 (fun c => ?_) (fun c => ?_)
      · walk_at "go"
        have e : wholeD lo hi (.int i) = decide (i ≤ hi) := by
          show (decide (lo ≤ i) && decide (i ≤ hi)) = _
          rw [c, Bool.true_and]
        rw [e] at q
        exact q
      · have e : wholeD lo hi (.int i) = false := by
          show (decide (lo ≤ i) && decide (i ≤ hi)) = _
          rw [Bool.eq_false_iff.mpr c, Bool.false_and]
        rw [e] at q
        exact q
    | bl b =>
      refine ifB (fun _ => ?_) (fun c => by cases c)
      walk_at "go"
      refine ⟨_, _, ty', _, _, rfl, .ty "bool", h3, h4, ?_⟩
      refine ⟨_, rfl, ?_⟩
      refine ⟨_, rfl, ?_⟩
      exact ifB (fun c => by cases c) (fun _ => q)
    | _ => exact q

def plD (m : Int) (ds : List PyData) : Bool := ds.all (wholeD 0 (m - 1))
def cntD (k m : Int) : List PyData → Bool
  | a :: r => decide (((a :: r).length : Int) = k) && (wholeD 1 4 a && plD m r)
  | [] => false
def spCnt : Sp := fun vs H Q _ => ∃ (w g a : Addr) (xs : List V) (ds : List PyData) (k m : Int), vs = [.ref a, .int k, .int m] ∧ H a = some (.tup xs) ∧ ThAll w g H xs ds ∧ ds.length ≤ 300000 ∧ 1 ≤ k ∧ ∀ H', Same H H' → Q (.bl (cntD k m ds)) H'
theorem cnt_no {k m : Int} {ds : List PyData} (h : (ds.length : Int) ≠ k) : cntD k m ds = false := by
  cases ds with
  | nil => rfl
  | cons a r => simp only [cntD, decide_eq_false h, Bool.false_and]
theorem cnt_yes {k m : Int} {a : PyData} {r : List PyData} (h : ((a :: r).length : Int) = k) : cntD k m (a :: r) = (wholeD 1 4 a && plD m r) := by
  simp only [cntD, decide_eq_true h, Bool.true_and]
theorem ok_is_count_and_places : FnOk P wd K mg base CX0 2 T.a_is_count_and_places T.d_is_count_and_places ["items", "many_items", "many"] spCnt := by
  have G_is_whole : FnOk P wd K mg base CX0 1 T.a_is_whole T.d_is_whole ["value", "low", "high"] spWhole := ok_is_whole T
  refine T.F_is_count_and_places.ok sc_is_count_and_places (fun vs H Q E h => ?_) (fun cdv A outer s H vs Q E hr h => ?_)
  · obtain ⟨w, g, a, xs, ds, k, m, rfl, _⟩ := h
    rfl
  · obtain ⟨w, g, a, xs, ds, k, m, rfl, h, ta, ll, k1, q⟩ := h
    refine ⟨_, (pss_cons (ps_if (PW.pt (pw_or (pt_cmpR op_ne (pe_callB call_len_seq rfl T.n_len PySem.boot_len (pa_cons (pv 0) pa_nil)) (pv 1) (nomark _)) (pw_or1 (pt_not (pt_val (pe_call G_is_whole hr rfl T.g_is_whole T.F_is_whole.kp (b_is_whole T) .nil pass0 (pa_cons (pe_ix ix_tup (pv 0) pe_int (fun _ _ => rfl)) (pa_cons pe_int (pa_cons (pe_glob (v := .int 4) rfl T.m_MAX_STEP ⟨_, rfl⟩) pa_nil))))))))) (pss_one (ps_ret pe_bl)) pss_nil)
      (pss_one (ps_ret (pe_callB (cr_all rfl) rfl T.n_all (by decide +kernel) (pa_cons (pe_lc (own := [("item", 3)]) rfl sc_is_count_and_places.nd (pi_tup (pe_slice sl_tupA (pv 0) (po_some pe_int) po_none)) (blkOk_by (N := nm_is_count_and_places) (sc := defScope s_is_count_and_places) (by decide +kernel)) (fun _ _ _ _ _ => pg_name (i := 3) sc_is_count_and_places.nd rfl (Or.inl rfl)) (fun _ _ _ _ _ => pts_nil) (fun _ _ _ _ _ => (pe_call G_is_whole hr rfl T.g_is_whole T.F_is_whole.kp (b_is_whole T) .nil pass0 (pa_cons (pv 3) (pa_cons pe_int (pa_cons (pe_op op_sub (pv 2) pe_int) pa_nil)))))) pa_nil))))), ?_⟩
    have hl := ta.length
    walk_at "go"
    refine ifDn (fun ne => ?_) (fun ee => ?_)
    · walk_at "go"
      have ne2 : (ds.length : Int) ≠ k := fun e => ne (congrArg V.int (by rw [hl]; exact e))
      rw [cnt_no ne2] at q
      exact q H (fun _ _ e => e)
    · have ee := V.int.inj ee
      obtain ⟨d0, dr, rfl⟩ : ∃ d0 dr, ds = d0 :: dr := by
        cases ds with
        | nil => simp only [List.length_nil] at hl; omega
        | cons d0 dr => exact ⟨_, _, rfl⟩
      obtain ⟨v0, vr, rfl⟩ : ∃ v0 vr, xs = v0 :: vr := by
        cases xs with
        | nil => simp at hl
        | cons v0 vr => exact ⟨_, _, rfl⟩
      rw [cnt_yes (by rw [← hl]; exact ee)] at q
      walk_at "go"
      refine ⟨w, g, v0, d0, _, _, rfl, ta.hd, ?_⟩
      refine ⟨_, rfl, ?_⟩
      cases w0 : wholeD 1 4 d0 with
      | false =>
        rw [w0, Bool.false_and] at q
        refine ifB (fun _ => ?_) (fun c => by cases c)
        walk_at "go"
        exact q H (fun _ _ e => e)
      | true =>
        rw [w0, Bool.true_and] at q
        refine ifB (fun c => by cases c) (fun _ => ?_)
        walk_at "go"
        refine no_part ?_
        refine sl_all h fun p H1 s1 hp => ?_
        rw [cutV_one, List.drop_one, List.tail_cons] at hp
        have tr := ta.tl.same2 s1
        have hlr := tr.length
        have lr : dr.length ≤ 300000 := by rw [List.length_cons] at ll; omega
        walk_at "go"
        refine ⟨⟨_, sqT_of hp⟩, fun D nD => ?_⟩
        refine lc_it (walk_tup (xs := vr)) (fun i H2 => H2 D = some (.lst ((dr.take i).map fun d => V.bl (wholeD 0 (m - 1) d))) ∧ Same H1 H2) ⟨upd_same, same_new nD⟩
          (fun i H2 _ p => sqT_of (p.2 _ _ hp)) (fun i x H2 H3 hi p y => ?_) (fun H2 p => ?_)
        · obtain ⟨hD, S⟩ := p
          obtain ⟨rfl, hx⟩ := y
          obtain ⟨d, hd, td⟩ := tr.get hx
          walk_at "go"
          refine ⟨w, g, x, d, _, _, rfl, td.same2 S, ?_⟩
          refine ⟨_, hD, szl2 (by rw [List.length_map, List.length_take]; omega), ?_, same_mut S nD⟩
          rw [upd_same, List.take_add_one, hd, List.map_append]
          rfl
        · obtain ⟨hD, S⟩ := p
          rw [tr.length, List.take_length] at hD
          refine ⟨D, dr.map (wholeD 0 (m - 1)), rfl, sqL_of (by rw [List.map_map]; exact hD), ?_⟩
          rw [List.all_map]
          have e : dr.all (id ∘ wholeD 0 (m - 1)) = plD m dr := rfl
          rw [e]
          exact q H2 (s1.trans S)
def plaD (k m : Int) : PyData → Bool
  | .tuple ps => decide ((ps.length : Int) = k) && plD m ps
  | _ => false
def restD (m : Int) : List PyData → Bool
  | [.int i, d] => wholeD 2 6 (.int i) && plaD i m d
  | _ => false
theorem rest_len {m : Int} {ds : List PyData} (h : ds.length ≠ 2) : restD m ds = false := by
  unfold restD
  split
  · exact absurd rfl h
  · rfl
def endD : List PyData → Bool
  | [.str z] => decide (z = ("yes" : Str) ∨ z = ("no" : Str))
  | _ => false
def stepD (m : Int) : PyData → Bool
  | .tuple (.str z :: items) => if z = ("add" : Str) then cntD 2 m items else if z = ("take" : Str) then cntD 3 m items else if z = ("rest" : Str) then restD m items else if z = ("end" : Str) then endD items else false
  | _ => false
theorem step_no {m : Int} {d0 : PyData} {r : List PyData} (h : ∀ z, d0 ≠ .str z) : stepD m (.tuple (d0 :: r)) = false := by
  unfold stepD
  split
  · rename_i z items e
    cases e
    exact absurd rfl (h z)
  · rfl
theorem step_str {m : Int} {z : Str} {items : List PyData} : stepD m (.tuple (.str z :: items)) = if z = ("add" : Str) then cntD 2 m items else if z = ("take" : Str) then cntD 3 m items else if z = ("rest" : Str) then restD m items else if z = ("end" : Str) then endD items else false := rfl
def spPl : Sp := fun vs H Q _ => ∃ (w g a : Addr) (x y : V) (k m : Int) (d : PyData), vs = [.ref a, .int m] ∧ H a = some (.tup [.int k, y]) ∧ Th w g H y d ∧ d.weight ≤ 300000 ∧
  ∀ H', Same H H' → Q (.bl (plaD k m d)) H'
theorem ok_are_places : FnOk P wd K mg base CX0 2 T.a_are_places T.d_are_places ["items", "many"] spPl := by
  have G_is_whole : FnOk P wd K mg base CX0 1 T.a_is_whole T.d_is_whole ["value", "low", "high"] spWhole := ok_is_whole T
  refine T.F_are_places.ok sc_are_places (fun vs H Q E h => ?_) (fun cdv A outer s H vs Q E hr h => ?_)
  · obtain ⟨w, g, a, x, y, k, m, d, rfl, _⟩ := h
    rfl
  · obtain ⟨w, g, a, x, y, k, m, d, rfl, h, t, wt, q⟩ := h
    refine ⟨_, (pss_cons (ps_asg (pv 0) (pg_tup rfl (pgs_cons (pg_name (i := 2) sc_are_places.nd rfl (Or.inl rfl)) (pgs_cons (pg_name (i := 3) sc_are_places.nd rfl (Or.inl rfl)) pgs_nil))))
      (pss_cons (ps_if (PW.pt (pw_or (pt_not (pt_val (pe_callB call_isi rfl T.n_isinstance (by decide +kernel) (pa_cons (pv 3) (pa_cons (pe_bltn (v := .ty "tuple") rfl T.n_tuple (by decide +kernel) rfl) pa_nil))))) (pw_or1 (pt_cmpR op_ne (pe_callB call_len_seq rfl T.n_len PySem.boot_len (pa_cons (pv 3) pa_nil)) (pv 2) (nomark _))))) (pss_one (ps_ret pe_bl)) pss_nil)
      (pss_one (ps_ret (pe_callB (cr_all rfl) rfl T.n_all (by decide +kernel) (pa_cons (pe_lc (own := [("place", 4)]) rfl sc_are_places.nd (pi_tup (pv 3)) (blkOk_by (N := nm_are_places) (sc := defScope s_are_places) (by decide +kernel)) (fun _ _ _ _ _ => pg_name (i := 4) sc_are_places.nd rfl (Or.inl rfl)) (fun _ _ _ _ _ => pts_nil) (fun _ _ _ _ _ => (pe_call G_is_whole hr rfl T.g_is_whole T.F_is_whole.kp (b_is_whole T) .nil pass0 (pa_cons (pv 4) (pa_cons pe_int (pa_cons (pe_op op_sub (pv 1) pe_int) pa_nil)))))) pa_nil)))))), ?_⟩
    obtain ⟨ty, h1, h2⟩ := t.isTup (K := K)
    walk_at "go"
    refine ⟨_, _, ty, _, _, rfl, .ty "tuple", h1, h2, ?_⟩
    refine ⟨_, rfl, ?_⟩
    cases t with
    | tup hp ta =>
      rename_i p xs ds
      have ll : ds.length ≤ 300000 := Nat.le_trans (wt_len ds) (by simpa [PyData.weight] using wt)
      have hl := ta.length
      refine ifB (fun c => by cases c) (fun _ => ?_)
      walk_at "go"
      refine ifDn (fun ne => ?_) (fun ee => ?_)
      · walk_at "go"
        have ne2 : ¬ (ds.length : Int) = k := fun e => ne (congrArg V.int (by rw [hl]; exact e))
        have q2 := q H (fun _ _ e => e)
        simp only [plaD] at q2
        rw [decide_eq_false ne2, Bool.false_and] at q2
        exact q2
      · have ee2 : (ds.length : Int) = k := by rw [← hl]; exact V.int.inj ee
        replace q : ∀ H', Same H H' → Q (.bl (plD m ds)) H' := fun H' s' => by
          have q2 := q H' s'
          simp only [plaD] at q2
          rw [decide_eq_true ee2, Bool.true_and] at q2
          exact q2
        walk_at "go"
        refine ⟨⟨_, sqT_of hp⟩, fun D nD => ?_⟩
        refine lc_it (walk_tup (xs := xs)) (fun i H2 => H2 D = some (.lst ((ds.take i).map fun d => V.bl (wholeD 0 (m - 1) d))) ∧ Same H H2) ⟨upd_same, same_new nD⟩
          (fun i H2 _ p => sqT_of (p.2 _ _ hp)) (fun i x H2 H3 hi p y => ?_) (fun H2 p => ?_)
        · obtain ⟨hD, S⟩ := p
          obtain ⟨rfl, hx⟩ := y
          obtain ⟨d, hd, td⟩ := ta.get hx
          walk_at "go"
          refine ⟨w, g, x, d, _, _, rfl, td.same2 S, ?_⟩
          refine ⟨_, hD, szl2 (by rw [List.length_map, List.length_take]; omega), ?_, same_mut S nD⟩
          rw [upd_same, List.take_add_one, hd, List.map_append]
          rfl
        · obtain ⟨hD, S⟩ := p
          rw [ta.length, List.take_length] at hD
          refine ⟨D, ds.map (wholeD 0 (m - 1)), rfl, sqL_of (by rw [List.map_map]; exact hD), ?_⟩
          rw [List.all_map]
          have e : ds.all (id ∘ wholeD 0 (m - 1)) = plD m ds := rfl
          rw [e]
          exact q H2 S
    | _ =>
      refine ifB (fun _ => ?_) (fun c => by cases c)
      walk_at "go"
      exact q H (fun _ _ e => e)
def spStep : Sp := fun vs H Q _ => ∃ (w g : Addr) (v : V) (d : PyData) (m : Int), vs = [v, .int m] ∧ Th w g H v d ∧ d.weight ≤ 300000 ∧ ∀ H', Same H H' → Q (.bl (stepD m d)) H'
theorem ok_is_step : FnOk P wd K mg base CX0 3 T.a_is_step T.d_is_step ["value", "many"] spStep := by
  have G_is_whole : FnOk P wd K mg base CX0 1 T.a_is_whole T.d_is_whole ["value", "low", "high"] spWhole := ok_is_whole T
  have G_is_count_and_places : FnOk P wd K mg base CX0 2 T.a_is_count_and_places T.d_is_count_and_places ["items", "many_items", "many"] spCnt := ok_is_count_and_places T
  have G_are_places : FnOk P wd K mg base CX0 2 T.a_are_places T.d_are_places ["items", "many"] spPl := ok_are_places T
  refine T.F_is_step.ok sc_is_step (fun vs H Q E h => ?_) (fun cdv A outer s H vs Q E hr h => ?_)
  · obtain ⟨w, g, v, d, m, rfl, _⟩ := h
    rfl
  · have hu4 : (cxOf CX0 P wd K mg base nm_is_step "_is_step" (defScope s_is_step) T.a_is_step cdv A outer s H E).A.units + 64 < cLine := hr.units
    obtain ⟨w, g, v, d, m, rfl, t, wt, q⟩ := h
    refine ⟨_, (pss_cons (ps_if (PW.pt (pw_or (pt_not (pt_val (pe_callB call_isi rfl T.n_isinstance (by decide +kernel) (pa_cons (pv 0) (pa_cons (pe_bltn (v := .ty "tuple") rfl T.n_tuple (by decide +kernel) rfl) pa_nil))))) (pw_or1 (pt_cmpR (op_eqT0 hu4) (pv 0) (pe_tup pa_nil) (nomark _))))) (pss_one (ps_ret pe_bl)) pss_nil)
      (pss_cons (ps_par (i := 2) (j := 3) rfl sc_is_step.nd rfl rfl (by decide) rfl rfl (pa_cons (pe_ix ix_tup (pv 0) pe_int (fun _ _ => rfl)) (pa_cons (pe_slice sl_tupA (pv 0) (po_some pe_int) po_none) pa_nil)) rfl)
      (pss_cons (ps_if (pt_cmpR (op_eqSX (K := K) rfl hu4) (pv 2) pe_str (nomark _)) (pss_one (ps_ret (pe_call G_is_count_and_places hr rfl T.g_is_count_and_places T.F_is_count_and_places.kp (b_is_count_and_places T) .nil pass0 (pa_cons (pv 3) (pa_cons pe_int (pa_cons (pv 1) pa_nil)))))) pss_nil)
      (pss_cons (ps_if (pt_cmpR (op_eqSX (K := K) rfl hu4) (pv 2) pe_str (nomark _)) (pss_one (ps_ret (pe_call G_is_count_and_places hr rfl T.g_is_count_and_places T.F_is_count_and_places.kp (b_is_count_and_places T) .nil pass0 (pa_cons (pv 3) (pa_cons pe_int (pa_cons (pv 1) pa_nil)))))) pss_nil)
      (pss_cons (ps_if (pt_cmpR (op_eqSX (K := K) rfl hu4) (pv 2) pe_str (nomark _)) (pss_one (ps_ret (pe_and (pe_cmpR op_eq (pe_callB call_len_seq rfl T.n_len PySem.boot_len (pa_cons (pv 3) pa_nil)) pe_int (nomark _)) (pe_and (pe_call G_is_whole (hr.mono (by decide)) rfl T.g_is_whole T.F_is_whole.kp (b_is_whole T) .nil pass0 (pa_cons (pe_ix ix_tup (pv 3) pe_int (fun _ _ => rfl)) (pa_cons pe_int (pa_cons (pe_glob (v := .int 6) rfl T.m_MAX_ROUND ⟨_, rfl⟩) pa_nil)))) (pe_one (pe_call G_are_places hr rfl T.g_are_places T.F_are_places.kp (b_are_places T) .nil pass0 (pa_cons (pv 3) (pa_cons (pv 1) pa_nil)))))))) pss_nil)
      (pss_one (ps_ret (pe_and (pe_cmpR (op_eqSX (K := K) rfl hu4) (pv 2) pe_str (nomark _)) (pe_and (pe_cmpR op_eq (pe_callB call_len_seq rfl T.n_len PySem.boot_len (pa_cons (pv 3) pa_nil)) pe_int (nomark _)) (pe_one (pe_cmpR (op_inSX (K := K) rfl hu4) (pe_ix ix_tup (pv 3) pe_int (fun _ _ => rfl)) (pe_tup (pa_cons pe_str (pa_cons pe_str pa_nil))) (by rfl)))))))))))), ?_⟩
    obtain ⟨ty, h1, h2⟩ := t.isTup (K := K)
    walk_at "go"
    refine ⟨_, _, ty, _, _, rfl, .ty "tuple", h1, h2, ?_⟩
    refine ⟨_, rfl, ?_⟩
    cases t with
    | tup h ta =>
      rename_i a xs ds
      refine ifB (fun c => by cases c) (fun _ => ?_)
      have hl := ta.length
      have wl := wt_len ds
      simp only [PyData.weight] at wt
      walk_at "go"
      intro p0 np0
      generalize hU0 : upd H p0 _ = H0
      obtain ⟨s0, hp0⟩ := new_of0 np0 hU0
      refine ⟨a, p0, xs, rfl, rfl, sqT_of (s0 _ _ h), sqT_of hp0, ?_⟩
      refine ⟨_, rfl, ?_⟩
      cases ds with
      | nil =>
        cases ta
        refine ifB (fun _ => ?_) (fun c => by cases c)
        walk_at "go"
        exact q H0 s0
      | cons d0 dr =>
        obtain ⟨v0, vr, rfl⟩ : ∃ v0 vr, xs = v0 :: vr := by
          cases xs with
          | nil => simp at hl
          | cons v0 vr => exact ⟨_, _, rfl⟩
        refine ifB (fun c => by cases c) (fun _ => ?_)
        have h' := s0 _ _ h
        walk_at "go"
        refine no_part ?_
        refine sl_all h' fun p H1 s1 hp => ?_
        rw [cutV_one, List.drop_one, List.tail_cons] at hp
        have S := s0.trans s1
        have td0 := ta.hd.same2 S
        have tr := ta.tl.same2 S
        have hlr := tr.length
        have wr : PyData.weightAll dr + d0.weight ≤ 300000 := by simp only [PyData.weightAll] at wt; omega
        have lr : dr.length ≤ 300000 := by have := wt_len dr; omega
        clear h1 h2 hU0 hp0 np0 h' s0 s1
        walk_at "go"
        refine ⟨w, g, d0, _, rfl, td0, ?_⟩
        refine ⟨_, rfl, ?_⟩
        by_cases hs : ∃ z, d0 = .str z
        · obtain ⟨z, rfl⟩ := hs
          rw [step_str] at q
          have isz : ∀ y : Str, isSD (.str z) y = decide (z = y) := fun _ => rfl
          rw [isz]
          refine ifD (fun e => ?_) (fun ne => ?_)
          · rw [if_pos e] at q
            walk_at "go"
            exact ⟨w, g, p, vr, dr, 2, m, rfl, hp, tr, lr, by decide, fun H2 s2 => q H2 (S.trans s2)⟩
          · rw [if_neg ne] at q
            walk_at "go"
            refine ⟨w, g, _, _, rfl, td0, ?_⟩
            refine ⟨_, rfl, ?_⟩
            rw [isz]
            refine ifD (fun e => ?_) (fun ne => ?_)
            · rw [if_pos e] at q
              walk_at "go"
              exact ⟨w, g, p, vr, dr, 3, m, rfl, hp, tr, lr, by decide, fun H2 s2 => q H2 (S.trans s2)⟩
            · rw [if_neg ne] at q
              walk_at "go"
              refine ⟨w, g, _, _, rfl, td0, ?_⟩
              refine ⟨_, rfl, ?_⟩
              rw [isz]
              refine ifD (fun e => ?_) (fun ne => ?_)
              · rw [if_pos e] at q
                walk_at "go"
                refine ifD (fun e2 => ?_) (fun n2 => ?_)
                · have e2 := V.int.inj e2
                  obtain ⟨da, db, rfl⟩ : ∃ da db, dr = [da, db] := by
                    rcases dr with _ | ⟨d1, _ | ⟨d2, _ | ⟨d3, dr⟩⟩⟩
                    · simp only [List.length_nil] at hlr; omega
                    · simp only [List.length_cons, List.length_nil] at hlr; omega
                    · exact ⟨_, _, rfl⟩
                    · simp only [List.length_cons] at hlr; omega
                  obtain ⟨va, vb, rfl, ta1, tb1⟩ := tr.two
                  walk_at "go"
                  refine ⟨w, g, va, da, _, _, rfl, ta1, ?_⟩
                  refine ⟨_, rfl, ?_⟩
                  cases wa : wholeD 2 6 da with
                  | false =>
                    refine ifB (fun c => by cases c) (fun _ => ?_)
                    have er : restD m [da, db] = false := by
                      cases da with
                      | int i => show (wholeD 2 6 (.int i) && _) = _; rw [wa, Bool.false_and]
                      | _ => rfl
                    rw [er] at q
                    exact q H1 S
                  | true =>
                    refine ifB (fun _ => ?_) (fun c => by cases c)
                    obtain ⟨i, rfl, i2, i6⟩ := whole_int wa
                    cases ta1
                    have er : restD m [.int i, db] = plaD i m db := by
                      show (wholeD 2 6 (.int i) && _) = _
                      rw [wa, Bool.true_and]
                    walk_at "go"
                    refine ⟨w, g, p, .int i, vb, i, m, db, rfl, hp, tb1, by simp only [PyData.weightAll] at wr; omega, fun H2 s2 => ?_⟩
                    rw [← er]
                    exact q H2 (S.trans s2)
                · have n2 : dr.length ≠ 2 := fun e => n2 (congrArg V.int (by rw [hlr, e]; rfl))
                  have er : restD m dr = false := rest_len n2
                  rw [er] at q
                  exact q H1 S
              · rw [if_neg ne] at q
                walk_at "go"
                refine ⟨w, g, _, _, rfl, td0, ?_⟩
                refine ⟨_, rfl, ?_⟩
                rw [isz]
                refine ifD (fun e => ?_) (fun ne => ?_)
                · rw [if_pos e] at q
                  walk_at "go"
                  refine ifD (fun e2 => ?_) (fun n2 => ?_)
                  · have e2 := V.int.inj e2
                    obtain ⟨da, rfl⟩ : ∃ da, dr = [da] := by
                      rcases dr with _ | ⟨d1, _ | ⟨d2, dr⟩⟩
                      · simp only [List.length_nil] at hlr; omega
                      · exact ⟨_, rfl⟩
                      · simp only [List.length_cons] at hlr; omega
                    obtain ⟨va, rfl⟩ : ∃ va, vr = [va] := by
                      rcases vr with _ | ⟨d1, _ | ⟨d2, dr⟩⟩
                      · simp at hlr
                      · exact ⟨_, rfl⟩
                      · simp at hlr
                    walk_at "go"
                    intro pt npt
                    generalize hU2 : upd H1 pt _ = H2
                    obtain ⟨s2, hpt⟩ := new_of0 npt hU2
                    refine ⟨w, g, da, pt, [("yes" : Str), ("no" : Str)], rfl, sqT_of hpt, tr.hd.same2 s2, ?_⟩
                    have er : endD [da] = [("yes" : Str), ("no" : Str)].any (isSD da) := by
                      cases da with
                      | str y => 
                        show decide (y = ("yes" : Str) ∨ y = ("no" : Str)) = (decide (y = ("yes" : Str)) || (decide (y = ("no" : Str)) || false))
                        rw [Bool.or_false, Bool.decide_or]
                      | _ => rfl
                    rw [← er]
                    exact q H2 (S.trans s2)
                  · have n2 : dr.length ≠ 1 := fun e => n2 (congrArg V.int (by rw [hlr, e]; rfl))
                    have er : endD dr = false := by
                      unfold endD
                      split
                      · exact absurd rfl n2
                      · rfl
                    rw [er] at q
                    exact q H1 S
                · rw [if_neg ne] at q
                  exact q H1 S
        · have ns : ∀ z, d0 ≠ .str z := fun z e => hs ⟨z, e⟩
          rw [step_no ns] at q
          have isz : ∀ y : Str, isSD d0 y = false := fun y => by
            cases hd : d0 with
            | str x => exact absurd hd (ns x)
            | _ => rfl
          rw [isz]
          refine ifB (fun c => by cases c) (fun _ => ?_)
          walk_at "go"
          refine ⟨w, g, _, _, rfl, td0, ?_⟩
          refine ⟨_, rfl, ?_⟩
          rw [isz]
          refine ifB (fun c => by cases c) (fun _ => ?_)
          walk_at "go"
          refine ⟨w, g, _, _, rfl, td0, ?_⟩
          refine ⟨_, rfl, ?_⟩
          rw [isz]
          refine ifB (fun c => by cases c) (fun _ => ?_)
          walk_at "go"
          refine ⟨w, g, _, _, rfl, td0, ?_⟩
          rw [isz]
          refine ⟨_, rfl, ?_⟩
          exact q H1 S
    | _ =>
      refine ifB (fun _ => ?_) (fun c => by cases c)
      walk_at "go"
      exact q H (fun _ _ e => e)
end
set_option pp.deepTerms false
set_option pp.deepTerms.threshold 5
section
variable {P : Program} {wd : World} {K : PySem.W.Frag} {mg : Str → Option Value} {base : Heap} (T : Tp K mg)
def lcmL (ns : List Nat) : Nat := ns.foldl Nat.lcm 1
theorem lcmL_snoc (ns : List Nat) (n : Nat) : lcmL (ns ++ [n]) = Nat.lcm (lcmL ns) n := by unfold lcmL; rw [List.foldl_append]; rfl
theorem lcmL_dvd : ∀ {ns : List Nat}, (∀ n ∈ ns, 2 ≤ n ∧ n ≤ 6) → lcmL ns ∣ 60 := by
  intro ns
  suffices h : ∀ (ns : List Nat) (m : Nat), m ∣ 60 → (∀ n ∈ ns, 2 ≤ n ∧ n ≤ 6) → ns.foldl Nat.lcm m ∣ 60 from fun hn => h ns 1 (by decide) hn
  intro ns
  induction ns with
  | nil => intro m hm _; exact hm
  | cons n ns ih =>
    intro m hm hn
    refine ih (Nat.lcm m n) (Nat.lcm_dvd hm ?_) fun k hk => hn k (List.mem_cons_of_mem _ hk)
    have h := hn n (List.mem_cons_self ..)
    have : n = 2 ∨ n = 3 ∨ n = 4 ∨ n = 5 ∨ n = 6 := by omega
    rcases this with rfl | rfl | rfl | rfl | rfl <;> decide
def spLm : Sp := fun vs H Q _ => ∃ (a : Addr) (ns : List Nat), vs = [.ref a] ∧ H a = some (.lst (ns.map fun (n : Nat) => V.int (n : Int))) ∧ (∀ n ∈ ns, 2 ≤ n ∧ n ≤ 6) ∧ Q (.int (lcmL ns : Nat)) H
theorem ok_least_multiple : FnOk P wd K mg base CX0 1 T.a_least_multiple T.d_least_multiple ["numbers"] spLm := by
  refine T.F_least_multiple.ok sc_least_multiple (fun vs H Q E h => ?_) (fun cdv A outer s H vs Q E hr h => ?_)
  · obtain ⟨a, ns, rfl, _⟩ := h
    rfl
  · obtain ⟨a, ns, rfl, h, hn, q⟩ := h
    refine ⟨_, (pss_cons (ps_set (i := 1) sc_least_multiple.nd rfl (Or.inl rfl) pe_int)
      (pss_cons (ps_for PassesOwn.never rfl (pi_list (pv 0)) (pg_name (i := 2) sc_least_multiple.nd rfl (Or.inl rfl)) (pss_one (ps_set (i := 1) sc_least_multiple.nd rfl (Or.inl rfl) (pe_callBfun cr_lcm rfl T.m_lcm (pa_cons (pv 1) (pa_cons (pv 2) pa_nil))))))
      (pss_one (ps_ret (pv 1))))), ?_⟩
    walk_at "go"
    refine ⟨⟨_, sqL_of h⟩, ?_⟩
    refine for_it (walk_list (xs := ns.map fun (n : Nat) => V.int (n : Int))) (fun i σ H2 => ∃ y2 : Option V, σ = [some (.ref a), some (.int (lcmL (ns.take i) : Nat)), y2] ∧ H2 = H) ⟨_, rfl, rfl⟩
      (fun i σ H2 _ px => ?_) (fun i x σ H2 H3 hi px y => ?_) (fun σ H2 px => ?_)
    · obtain ⟨_, _, rfl⟩ := px
      exact sqL_of h
    · obtain ⟨y2, rfl, rfl⟩ := px
      obtain ⟨rfl, hx⟩ := y
      rw [List.getElem?_map] at hx
      obtain ⟨n, hn2, rfl⟩ := Option.map_eq_some_iff.mp hx
      have b1 := Nat.le_of_dvd (by decide) (lcmL_dvd (ns := ns.take i) fun k hk => hn k (List.mem_of_mem_take hk))
      have b2 := hn n (List.mem_of_getElem? hn2)
      walk_at "go"
      refine ⟨some (.int (n : Int)), ?_, rfl⟩
      rw [List.take_add_one, hn2]
      show _ = [some (V.ref a), some (V.int ((lcmL (ns.take i ++ [n]) : Nat) : Int)), some (V.int (n : Int))]
      rw [lcmL_snoc]
      rfl
    · obtain ⟨y2, rfl, rfl⟩ := px
      rw [List.length_map, List.take_length]
      walk_at "go"
      exact q
/-- the number of a rest -/
def rdS : PyData → Option Nat
  | .tuple (.str z :: .int i :: _) => if z = ("rest" : Str) then some i.toNat else none
  | _ => none
def rdL (ds : List PyData) : List Nat := ds.filterMap rdS
theorem rdL_snoc (ds : List PyData) (d : PyData) : rdL (ds ++ [d]) = rdL ds ++ (rdS d).toList := by
  unfold rdL
  rw [List.filterMap_append]
  congr 1
theorem step_word {m : Int} {d : PyData} (h : stepD m d = true) : ∃ z items, d = .tuple (.str z :: items) ∧ items ≠ [] ∧ (z = ("rest" : Str) → ∃ i e, items = [.int i, e] ∧ 2 ≤ i ∧ i ≤ 6) := by
  unfold stepD at h
  split at h
  · rename_i z items
    refine ⟨z, items, rfl, ?_, fun e => ?_⟩
    · rintro rfl
      split at h
      · cases h
      · split at h
        · cases h
        · split at h
          · cases h
          · split at h <;> cases h
    · subst e
      rw [if_neg (by decide), if_neg (by decide), if_pos rfl] at h
      unfold restD at h
      split at h
      · rename_i i e
        rw [Bool.and_eq_true] at h
        obtain ⟨j, hj, h2, h6⟩ := whole_int h.1
        cases hj
        exact ⟨i, e, rfl, h2, h6⟩
      · cases h
  · cases h
theorem rdS_rest {i : Int} {e : PyData} : rdS (.tuple [.str ("rest" : Str), .int i, e]) = some i.toNat := by
  show (if ("rest" : Str) = ("rest" : Str) then some i.toNat else none) = _
  exact if_pos rfl
theorem rdS_no {z : Str} {items : List PyData} (h : z ≠ ("rest" : Str)) : rdS (.tuple (.str z :: items)) = none := by
  unfold rdS
  split
  · rename_i z' i r e
    cases e
    exact if_neg h
  · rfl
theorem rd_bound {m : Int} {ds : List PyData} (h : ∀ d ∈ ds, stepD m d = true) : ∀ n ∈ rdL ds, 2 ≤ n ∧ n ≤ 6 := fun n hn => by
  obtain ⟨d, hd, he⟩ := List.mem_filterMap.mp hn
  obtain ⟨z, items, rfl, _, hr⟩ := step_word (h d hd)
  by_cases hz : z = ("rest" : Str)
  · obtain ⟨i, e, rfl, h2, h6⟩ := hr hz
    subst hz
    rw [rdS_rest] at he
    cases he
    omega
  · rw [rdS_no hz] at he
    cases he
def spRn : Sp := fun vs H Q _ => ∃ (w g a : Addr) (xs : List V) (ds : List PyData) (m : Int), vs = [.ref a] ∧ H a = some (.tup xs) ∧ ThAll w g H xs ds ∧ ds.length ≤ 300000 ∧ (∀ d ∈ ds, stepD m d = true) ∧ ∀ H', Same H H' → Q (.int (lcmL (rdL ds) : Nat)) H'
theorem ok_round_number : FnOk P wd K mg base CX0 2 T.a_round_number T.d_round_number ["program"] spRn := by
  have G_least_multiple : FnOk P wd K mg base CX0 1 T.a_least_multiple T.d_least_multiple ["numbers"] spLm := ok_least_multiple T
  refine T.F_round_number.ok sc_round_number (fun vs H Q E h => ?_) (fun cdv A outer s H vs Q E hr h => ?_)
  · obtain ⟨w, g, a, xs, ds, m, rfl, _⟩ := h
    rfl
  · obtain ⟨w, g, a, xs, ds, m, rfl, h, ta, ll, hst, q⟩ := h
    refine ⟨_, (pss_one (ps_ret (pe_call G_least_multiple hr rfl T.g_least_multiple T.F_least_multiple.kp (b_least_multiple T) .nil pass0 (pa_cons (pe_lc (own := [("step", 1)]) rfl sc_round_number.nd (pi_tup (pv 0)) (blkOk_by (N := nm_round_number) (sc := defScope s_round_number) (by decide +kernel)) (fun _ _ _ _ _ => pg_name (i := 1) sc_round_number.nd rfl (Or.inl rfl)) (fun _ _ _ _ _ => pts_one (pt_cmpR op_eq (pe_ix (ix_tupK (K := K) rfl) (pv 1) pe_int (fun _ _ => rfl)) pe_str (nomark _))) (fun _ _ _ _ _ => (pe_ix (ix_tupK (K := K) rfl) (pv 1) pe_int (fun _ _ => rfl)))) pa_nil)))), ?_⟩
    have hl := ta.length
    walk_at "go"
    refine ⟨⟨_, sqT_of h⟩, fun D nD => ?_⟩
    refine lc_it (walk_tup (xs := xs)) (fun i H2 => H2 D = some (.lst ((rdL (ds.take i)).map fun (n : Nat) => V.int (n : Int))) ∧ Same H H2) ⟨upd_same, same_new nD⟩
      (fun i H2 _ p => sqT_of (p.2 _ _ h)) (fun i x H2 H3 hi p y => ?_) (fun H2 p => ?_)
    · obtain ⟨hD, S⟩ := p
      obtain ⟨rfl, hx⟩ := y
      obtain ⟨d, hd, td⟩ := ta.get hx
      have sd := hst d (List.mem_of_getElem? hd)
      have et : rdL (ds.take (i + 1)) = rdL (ds.take i) ++ (rdS d).toList := by rw [List.take_add_one, hd]; exact rdL_snoc _ _
      have lrd : (rdL (ds.take i)).length ≤ 300000 := Nat.le_trans (List.length_filterMap_le _ _) (by rw [List.length_take]; omega)
      obtain ⟨z, items, rfl, ine, hr2⟩ := step_word sd
      obtain ⟨p, ys, rfl, hp, tp⟩ := td.tupE
      have hp3 := S _ _ hp
      have t0 := tp
      cases tp with
      | @cons v0 vr _ _ tz tr =>
        cases tz
        walk_at "go"
        refine ifD (fun ez => ?_) (fun nz => ?_)
        · have ez := V.str.inj ez
          obtain ⟨k, e, rfl, k2, k6⟩ := hr2 ez
          subst ez
          obtain ⟨va, vb, rfl, t1, t2⟩ := tr.two
          cases t1
          rw [rdS_rest] at et
          walk_at "go"
          refine ⟨_, hD, szl2 (by rw [List.length_map]; omega), ?_, same_mut S nD⟩
          rw [upd_same, et, List.map_append]
          show some (HO.lst (_ ++ [V.int k])) = some (HO.lst (_ ++ [V.int ((k.toNat : Nat) : Int)]))
          rw [Int.toNat_of_nonneg (by omega)]
        · have nz2 : z ≠ ("rest" : Str) := fun c => nz (congrArg V.str c)
          rw [rdS_no nz2, Option.toList_none, List.append_nil] at et
          rw [← et] at hD
          exact ⟨hD, S⟩
    · obtain ⟨hD, S⟩ := p
      rw [hl, List.take_length] at hD
      exact ⟨D, rdL ds, rfl, hD, rd_bound hst, q H2 S⟩
end
set_option pp.deepTerms false
set_option pp.deepTerms.threshold 5
section
variable {P : Program} {wd : World} {K : PySem.W.Frag} {mg : Str → Option Value} {base : Heap} (T : Tp K mg)
def resFrom (m : Int) (fin : PyData) : Nat → List PyData → PyData
  | _, [] => fin
  | i, d :: ds => if stepD m d = true then resFrom m fin (i + 1) ds else .tuple [.int (i : Nat), .str ("step" : Str)]
def finD (ds : List PyData) : PyData := if lcmL (rdL ds) > 6 then .tuple [.none, .str ("rests" : Str)] else .none
def resP : PyData → PyData
  | .tuple ds => if 1 ≤ ds.length ∧ ds.length ≤ 6 then resFrom ds.length (finD ds) 0 ds else .tuple [.none, .str ("program" : Str)]
  | _ => .tuple [.none, .str ("program" : Str)]
theorem res_yes {m : Int} {f : PyData} {i : Nat} {ds : List PyData} {d : PyData} (hd : ds[i]? = some d) (h : stepD m d = true) : resFrom m f i (ds.drop i) = resFrom m f (i + 1) (ds.drop (i + 1)) := by
  obtain ⟨hi, rfl⟩ := List.getElem?_eq_some_iff.mp hd
  rw [List.drop_eq_getElem_cons hi]
  show (if stepD m ds[i] = true then resFrom m f (i + 1) (ds.drop (i + 1)) else .tuple [.int (i : Nat), .str ("step" : Str)]) = _
  rw [if_pos h]
theorem res_bad {m : Int} {f : PyData} {i : Nat} {ds : List PyData} {d : PyData} (hd : ds[i]? = some d) (h : stepD m d = false) : resFrom m f i (ds.drop i) = .tuple [.int (i : Nat), .str ("step" : Str)] := by
  obtain ⟨hi, rfl⟩ := List.getElem?_eq_some_iff.mp hd
  rw [List.drop_eq_getElem_cons hi]
  show (if stepD m ds[i] = true then resFrom m f (i + 1) (ds.drop (i + 1)) else .tuple [.int (i : Nat), .str ("step" : Str)]) = _
  rw [if_neg (by rw [h]; decide)]
theorem resP_no {d : PyData} (h : isTupD d = false) : resP d = .tuple [.none, .str ("program" : Str)] := by
  unfold resP
  split
  · cases h
  · rfl
def spPErr : Sp := fun vs H Q _ => ∃ (w g : Addr) (v : V) (d : PyData), vs = [v] ∧ Th w g H v d ∧ d.weight ≤ 300000 ∧ ∀ x H', Same H H' → Th w g H' x (resP d) → Q x H'
theorem ok_program_error : FnOk P wd K mg base CX0 4 T.a_program_error T.d_program_error ["value"] spPErr := by
  have G_is_step : FnOk P wd K mg base CX0 3 T.a_is_step T.d_is_step ["value", "many"] spStep := ok_is_step T
  have G_round_number : FnOk P wd K mg base CX0 2 T.a_round_number T.d_round_number ["program"] spRn := ok_round_number T
  refine T.F_program_error.ok sc_program_error (fun vs H Q E h => ?_) (fun cdv A outer s H vs Q E hr h => ?_)
  · obtain ⟨w, g, v, d, rfl, _⟩ := h
    rfl
  · obtain ⟨w, g, v, d, rfl, t, wt, q⟩ := h
    refine ⟨_, (pss_cons (ps_if (PW.pt (pw_or (pt_not (pt_val (pe_callB call_isi rfl T.n_isinstance (by decide +kernel) (pa_cons (pv 0) (pa_cons (pe_bltn (v := .ty "tuple") rfl T.n_tuple (by decide +kernel) rfl) pa_nil))))) (pw_or1 (pt_not (pt_chain op_le op_le pe_int (pe_callB call_len_seq rfl T.n_len PySem.boot_len (pa_cons (pv 0) pa_nil)) (pe_glob (v := .int 6) rfl T.m_MAX_PLACES ⟨_, rfl⟩)))))) (pss_one (ps_ret (pe_tup (pa_cons pe_non (pa_cons pe_str pa_nil))))) pss_nil)
      (pss_cons (ps_for PassesOwn.never rfl (pi_enumT rfl T.n_enumerate (pa_cons (pv 0) pa_nil)) (pg_tup rfl (pgs_cons (pg_name (i := 1) sc_program_error.nd rfl (Or.inl rfl)) (pgs_cons (pg_name (i := 2) sc_program_error.nd rfl (Or.inl rfl)) pgs_nil))) (pss_one (ps_if (pt_not (pt_val (pe_call G_is_step hr rfl T.g_is_step T.F_is_step.kp (b_is_step T) .nil pass0 (pa_cons (pv 2) (pa_cons (pe_callB call_len_seq rfl T.n_len PySem.boot_len (pa_cons (pv 0) pa_nil)) pa_nil))))) (pss_one (ps_ret (pe_tup (pa_cons (pv 1) (pa_cons pe_str pa_nil))))) pss_nil)))
      (pss_cons (ps_if (pt_cmpR op_gt (pe_call G_round_number (hr.mono (by decide)) rfl T.g_round_number T.F_round_number.kp (b_round_number T) .nil pass0 (pa_cons (pv 0) pa_nil)) (pe_glob (v := .int 6) rfl T.m_MAX_ROUND ⟨_, rfl⟩) (nomark _)) (pss_one (ps_ret (pe_tup (pa_cons pe_non (pa_cons pe_str pa_nil))))) pss_nil)
      (pss_one (ps_ret pe_non))))), ?_⟩
    obtain ⟨ty, h1, h2⟩ := t.isTup (K := K)
    walk_at "go"
    refine ⟨_, _, ty, _, _, rfl, .ty "tuple", h1, h2, ?_⟩
    refine ⟨_, rfl, ?_⟩
    cases t with
    | tup h ta =>
      rename_i a xs ds
      refine ifB (fun c => by cases c) (fun _ => ?_)
      have hl := ta.length
      simp only [PyData.weight] at wt
      walk_at "go"
      have none_ : ¬ (1 ≤ ds.length ∧ ds.length ≤ 6) → ∀ p H1, Same H H1 → H1 p = some (.tup [.non, .str ("program" : Str)]) → Q (.ref p) H1 := fun z p H1 s1 hp => by
        refine q _ H1 s1 ?_
        rw [show resP (.tuple ds) = .tuple [.none, .str ("program" : Str)] from if_neg z]
        exact .tup hp (.cons .non (.cons (.str _) .nil))
      refine ite2 (fun c1 => ?_) (fun n1 => ?_)
      · rw [decide_eq_true_eq] at c1
        walk_at "go"
        refine ifDn (fun c2 => ?_) (fun n2 => ?_)
        · walk_at "go"
          intro p np
          generalize hU : upd H p _ = H1
          obtain ⟨s1, hp⟩ := new_of0 np hU
          exact none_ (by omega) p H1 s1 hp
        · have c3 : 1 ≤ ds.length ∧ ds.length ≤ 6 := by omega
          replace q : ∀ (x : V) (H' : Hp), Same H H' → Th w g H' x (resFrom ds.length (finD ds) 0 (ds.drop 0)) → Q x H' := fun x H' s1 t1 => q x H' s1 (by rw [show resP (.tuple ds) = resFrom ds.length (finD ds) 0 ds from if_pos c3]; exact t1)
          walk_at "go"
          refine ⟨a, xs, rfl, sqT_of h, ?_⟩
          refine for_it (walk_enT (xs := xs)) (fun i σ H2 => ∃ y1 y2 : Option V, σ = [some (.ref a), y1, y2] ∧ Same H H2 ∧ resFrom ds.length (finD ds) 0 (ds.drop 0) = resFrom ds.length (finD ds) i (ds.drop i) ∧ ∀ d ∈ ds.take i, stepD ds.length d = true) ⟨_, _, rfl, fun _ _ e => e, rfl, fun _ h => by cases h⟩
            (fun i σ H2 _ px => ?_) (fun i x σ H2 H3 hi px y => ?_) (fun σ H2 px => ?_)
          · obtain ⟨y1, y2, _, S, _⟩ := px
            exact sqT_of (S _ _ h)
          · obtain ⟨y1, y2, rfl, S, e, al⟩ := px
            obtain ⟨T', x0, x, rfl, hT, rfl, hx0, hx⟩ := y
            cases hx0
            obtain ⟨d, hd, td⟩ := ta.get hx
            generalize hU2 : upd H2 T' _ = H4
            obtain ⟨s4, hT4⟩ := new_of0 hT hU2
            have S4 := S.trans s4
            have h4 := S4 _ _ h
            have wd2 : d.weight ≤ 300000 := by have := wt_mem (List.mem_of_getElem? hd); omega
            walk_at "go"
            refine ⟨w, g, x, d, (ds.length : Int), by rw [hl]; rfl, td.same2 S4, wd2, fun H5 s5 => ?_⟩
            refine ⟨_, rfl, ?_⟩
            cases hs : stepD (ds.length : Int) d with
            | true =>
              refine ifB (fun c => by cases c) (fun _ => ?_)
              refine ⟨_, _, rfl, S4.trans s5, e.trans (res_yes hd hs), fun d2 h2 => ?_⟩
              rw [List.take_add_one, hd] at h2
              rcases List.mem_append.mp h2 with h2 | h2
              · exact al d2 h2
              · have h3 : d2 = d := by simpa using h2
                rw [h3]
                exact hs
            | false =>
              refine ifB (fun _ => ?_) (fun c => by cases c)
              walk_at "go"
              intro p np
              generalize hU : upd H5 p _ = H6
              obtain ⟨s6, hp⟩ := new_of0 np hU
              refine q _ H6 ((S4.trans s5).trans s6) ?_
              rw [e, res_bad hd hs]
              exact .tup hp (.cons (.int _) (.cons (.str _) .nil))
          · obtain ⟨y1, y2, rfl, S, e, al⟩ := px
            have h2' := S _ _ h
            rw [hl, List.take_length] at al
            walk_at "go"
            refine ⟨w, g, a, xs, ds, _, rfl, h2', ta.same2 S, by omega, al, fun H3 s3 => ?_⟩
            have ef : resFrom ds.length (finD ds) 0 (ds.drop 0) = finD ds := by rw [e, hl, List.drop_length]; rfl
            rw [ef] at q
            unfold finD at q
            walk_at "go"
            refine ifD (fun gt => ?_) (fun le => ?_)
            · rw [if_pos (by omega)] at q
              walk_at "go"
              intro p np
              generalize hU : upd H3 p _ = H4
              obtain ⟨s4, hp⟩ := new_of0 np hU
              exact q _ H4 ((S.trans s3).trans s4) (.tup hp (.cons .non (.cons (.str _) .nil)))
            · rw [if_neg (by omega)] at q
              walk_at "go"
              exact q _ H3 (S.trans s3) .non
      · walk_at "go"
        intro p np
        generalize hU : upd H p _ = H1
        obtain ⟨s1, hp⟩ := new_of0 np hU
        refine none_ (fun c => n1 (decide_eq_true ?_)) p H1 s1 hp
        omega
    | _ =>
      refine ifB (fun _ => ?_) (fun c => by cases c)
      walk_at "go"
      intro p np
      generalize hU : upd H p _ = H1
      obtain ⟨s1, hp⟩ := new_of0 np hU
      refine q _ H1 s1 ?_
      rw [resP_no rfl]
      exact .tup hp (.cons .non (.cons (.str _) .nil))
end
set_option pp.deepTerms false
set_option pp.deepTerms.threshold 5
section
variable {P : Program} {wd : World} {K : PySem.W.Frag} {mg : Str → Option Value} {base : Heap} (T : Tp K mg)
def spLp : Sp := fun vs H Q _ => ∃ (w g a : Addr) (xs : List V) (ds : List PyData) (m : Int), vs = [.ref a, .int m] ∧ H a = some (.tup xs) ∧ ThAll w g H xs ds ∧ ds.length ≤ 300000 ∧ ∀ H', Same H H' → Q (.bl (plD m ds)) H'
theorem ok_lare_places : FnOk P wd K mg base CX0 2 T.a_lare_places T.d_lare_places ["_law_values", "_law_many"] spLp := by
  have G_lis_whole : FnOk P wd K mg base CX0 1 T.a_lis_whole T.d_lis_whole ["_law_value", "_law_least", "_law_most"] spWhole := ok_lis_whole T
  refine T.F_lare_places.ok sc_lare_places (fun vs H Q E h => ?_) (fun cdv A outer s H vs Q E hr h => ?_)
  · obtain ⟨w, g, a, xs, ds, m, rfl, _⟩ := h
    rfl
  · have hu4 : (cxOf CX0 P wd K mg base nm_lare_places "_law_are_places" (defScope s_lare_places) T.a_lare_places cdv A outer s H E).A.units + 64 < cLine := hr.units
    obtain ⟨w, g, a, xs, ds, m, rfl, h, ta, ll, q⟩ := h
    refine ⟨_, (pss_one (ps_ret (pe_cmpR (op_eqD hu4) (pe_lc (own := [("_law_value", 2)]) rfl sc_lare_places.nd (pi_tup (pv 0)) (blkOk_by (N := nm_lare_places) (sc := defScope s_lare_places) (by decide +kernel)) (fun _ _ _ _ _ => pg_name (i := 2) sc_lare_places.nd rfl (Or.inl rfl)) (fun _ _ _ _ _ => pts_one (pt_not (pt_val (pe_call G_lis_whole hr rfl T.g_lis_whole T.F_lis_whole.kp (b_lis_whole T) .nil pass0 (pa_cons (pv 2) (pa_cons pe_int (pa_cons (pe_op op_sub (pv 1) pe_int) pa_nil))))))) (fun _ _ _ _ _ => pe_int)) (pe_lst pa_nil) (nomark _)))), ?_⟩
    have hl := ta.length
    walk_at "go"
    refine ⟨⟨_, sqT_of h⟩, fun D nD => ?_⟩
    refine lc_it walk_tup (fun i H2 => H2 D = some (.lst ((ones (ds.take i) (wholeD 0 (m - 1))).map V.int)) ∧ Same H H2) ⟨upd_same, same_new nD⟩
      (fun i H2 _ p => sqT_of (p.2 _ _ h)) (fun i x H2 H3 hi p y => ?_) (fun H2 p => ?_)
    · obtain ⟨hD, S⟩ := p
      obtain ⟨rfl, hx⟩ := y
      obtain ⟨d, hd, td⟩ := ta.get hx
      have le := ones_len (ds := ds) (p := wholeD 0 (m - 1)) (i := i)
      walk_at "go"
      refine ⟨w, g, x, d, _, _, rfl, td.same2 S, ?_⟩
      refine ⟨_, rfl, ?_⟩
      cases hh : wholeD 0 (m - 1) d with
      | false =>
        refine ifB (fun _ => ?_) (fun c => by cases c)
        walk_at "go"
        refine ⟨_, hD, szl2 (by rw [List.length_map]; omega), ?_, same_mut S nD⟩
        rw [upd_same, ones_bad hd hh, List.map_append]
        rfl
      | true =>
        refine ifB (fun c => by cases c) (fun _ => ?_)
        refine ⟨?_, S⟩
        rw [hD, ones_ok hd hh]
    · obtain ⟨hD, S⟩ := p
      rw [hl, List.take_length] at hD
      walk_at "go"
      intro o no
      generalize hU : upd H2 o _ = H3
      obtain ⟨s3, ho⟩ := new_of0 no hU
      have hD3 := s3 _ _ hD
      refine ⟨.list ((ones ds (wholeD 0 (m - 1))).map PyData.int), .list [], .lst (sqL_of hD3) (dpAll_ints _), .lst (sqL_of ho) .nil, shaped_ints _, by rfl, ?_⟩
      rw [eqv_ints_nil, ones_all]
      exact q H3 (S.trans s3)
theorem ok_lis_step : FnOk P wd K mg base CX0 3 T.a_lis_step T.d_lis_step ["_law_value", "_law_many"] spStep := by
  have G_lis_whole : FnOk P wd K mg base CX0 1 T.a_lis_whole T.d_lis_whole ["_law_value", "_law_least", "_law_most"] spWhole := ok_lis_whole T
  have G_lare_places : FnOk P wd K mg base CX0 2 T.a_lare_places T.d_lare_places ["_law_values", "_law_many"] spLp := ok_lare_places T
  refine T.F_lis_step.ok sc_lis_step (fun vs H Q E h => ?_) (fun cdv A outer s H vs Q E hr h => ?_)
  · obtain ⟨w, g, v, d, m, rfl, _⟩ := h
    rfl
  · have hu4 : (cxOf CX0 P wd K mg base nm_lis_step "_law_is_step" (defScope s_lis_step) T.a_lis_step cdv A outer s H E).A.units + 64 < cLine := hr.units
    obtain ⟨w, g, v, d, m, rfl, t, wt, q⟩ := h
    refine ⟨_, (pss_cons (ps_if (PW.pt (pw_or (pt_not (pt_val (pe_callB call_isi rfl T.n_isinstance (by decide +kernel) (pa_cons (pv 0) (pa_cons (pe_bltn (v := .ty "tuple") rfl T.n_tuple (by decide +kernel) rfl) pa_nil))))) (pw_or (pt_cmpR (op_eqT0 hu4) (pv 0) (pe_tup pa_nil) (nomark _)) (pw_or1 (pt_not (pt_val (pe_callB call_isi rfl T.n_isinstance (by decide +kernel) (pa_cons (pe_ix ix_tup (pv 0) pe_int (fun _ _ => rfl)) (pa_cons (pe_bltn (v := .ty "str") rfl T.n_str (by decide +kernel) rfl) pa_nil))))))))) (pss_one (ps_ret pe_bl)) pss_nil)
      (pss_cons (ps_if (pt_cmpR op_eq (pe_ix ix_tup (pv 0) pe_int (fun _ _ => rfl)) pe_str (nomark _)) (pss_one (ps_ret (pe_and (pe_cmpR op_eq (pe_callB call_len_seq rfl T.n_len PySem.boot_len (pa_cons (pv 0) pa_nil)) pe_int (nomark _)) (pe_and (pe_callB call_isi rfl T.n_isinstance (by decide +kernel) (pa_cons (pe_ix ix_tup (pv 0) pe_int (fun _ _ => rfl)) (pa_cons (pe_bltn (v := .ty "str") rfl T.n_str (by decide +kernel) rfl) pa_nil))) (pe_one (pe_cmpR op_in_seq (pe_ix ix_tup (pv 0) pe_int (fun _ _ => rfl)) (pe_tup (pa_cons pe_str (pa_cons pe_str pa_nil))) (by rfl))))))) pss_nil)
      (pss_cons (ps_if (pt_cmpR op_eq (pe_ix ix_tup (pv 0) pe_int (fun _ _ => rfl)) pe_str (nomark _)) (pss_cons (ps_if (PW.pt (pw_or (pt_cmpR op_ne (pe_callB call_len_seq rfl T.n_len PySem.boot_len (pa_cons (pv 0) pa_nil)) pe_int (nomark _)) (pw_or (pt_not (pt_val (pe_call G_lis_whole (hr.mono (by decide)) rfl T.g_lis_whole T.F_lis_whole.kp (b_lis_whole T) .nil pass0 (pa_cons (pe_ix ix_tup (pv 0) pe_int (fun _ _ => rfl)) (pa_cons pe_int (pa_cons pe_int pa_nil)))))) (pw_or1 (pt_not (pt_val (pe_callB call_isi rfl T.n_isinstance (by decide +kernel) (pa_cons (pe_ix ix_tup (pv 0) pe_int (fun _ _ => rfl)) (pa_cons (pe_bltn (v := .ty "tuple") rfl T.n_tuple (by decide +kernel) rfl) pa_nil))))))))) (pss_one (ps_ret pe_bl)) pss_nil)
      (pss_one (ps_ret (pe_and (pe_cmpR op_eq (pe_callB call_len_seq rfl T.n_len PySem.boot_len (pa_cons (pe_ix ix_tup (pv 0) pe_int (fun _ _ => rfl)) pa_nil)) (pe_ix ix_tup (pv 0) pe_int (fun _ _ => rfl)) (nomark _)) (pe_one (pe_call G_lare_places hr rfl T.g_lare_places T.F_lare_places.kp (b_lare_places T) .nil pass0 (pa_cons (pe_ix ix_tup (pv 0) pe_int (fun _ _ => rfl)) (pa_cons (pv 1) pa_nil)))))))) pss_nil)
      (pss_cons (ps_if (PW.pt (pw_or (pt_cmpR op_notIn_seq (pe_ix ix_tup (pv 0) pe_int (fun _ _ => rfl)) (pe_tup (pa_cons pe_str (pa_cons pe_str pa_nil))) (by rfl)) (pw_or1 (pt_cmpR op_ne (pe_callB call_len_seq rfl T.n_len PySem.boot_len (pa_cons (pv 0) pa_nil)) (pe_ifExp (pt_cmpR op_eq (pe_ix ix_tup (pv 0) pe_int (fun _ _ => rfl)) pe_str (nomark _)) pe_int pe_int) (nomark _))))) (pss_one (ps_ret pe_bl)) pss_nil)
      (pss_one (ps_ret (pe_and (pe_call G_lis_whole (hr.mono (by decide)) rfl T.g_lis_whole T.F_lis_whole.kp (b_lis_whole T) .nil pass0 (pa_cons (pe_ix ix_tup (pv 0) pe_int (fun _ _ => rfl)) (pa_cons pe_int (pa_cons pe_int pa_nil)))) (pe_one (pe_call G_lare_places hr rfl T.g_lare_places T.F_lare_places.kp (b_lare_places T) .nil pass0 (pa_cons (pe_slice sl_tupA (pv 0) (po_some pe_int) po_none) (pa_cons (pv 1) pa_nil))))))))))), ?_⟩
    obtain ⟨ty, h1, h2⟩ := t.isTup (K := K)
    walk_at "go"
    refine ⟨_, _, ty, _, _, rfl, .ty "tuple", h1, h2, ?_⟩
    refine ⟨_, rfl, ?_⟩
    cases t with
    | tup h ta =>
      rename_i a xs ds
      refine ifB (fun c => by cases c) (fun _ => ?_)
      have hl := ta.length
      have wl := wt_len ds
      simp only [PyData.weight] at wt
      walk_at "go"
      intro p0 np0
      generalize hU0 : upd H p0 _ = H0
      obtain ⟨s0, hp0⟩ := new_of0 np0 hU0
      have h' := s0 _ _ h
      refine ⟨a, p0, xs, rfl, rfl, sqT_of h', sqT_of hp0, ?_⟩
      refine ⟨_, rfl, ?_⟩
      cases ds with
      | nil =>
        cases ta
        refine ifB (fun _ => ?_) (fun c => by cases c)
        walk_at "go"
        exact q H0 s0
      | cons d0 dr =>
        obtain ⟨v0, vr, rfl⟩ : ∃ v0 vr, xs = v0 :: vr := by
          cases xs with
          | nil => simp at hl
          | cons v0 vr => exact ⟨_, _, rfl⟩
        refine ifB (fun c => by cases c) (fun _ => ?_)
        have td0 := ta.hd.same2 s0
        have tr := ta.tl.same2 s0
        have hlr := tr.length
        obtain ⟨ty0, h3, h4⟩ := td0.isStr (K := K)
        have wr : PyData.weightAll dr + d0.weight ≤ 300000 := by simp only [PyData.weightAll] at wt; omega
        have lr : dr.length ≤ 300000 := by have := wt_len dr; omega
        walk_at "go"
        refine ⟨_, _, ty0, _, _, rfl, .ty "str", h3, h4, ?_⟩
        refine ⟨_, rfl, ?_⟩
        cases td0 with
        | str z =>
          refine ifB (fun c => by cases c) (fun _ => ?_)
          rw [step_str] at q
          walk_at "go"
          refine ifD (fun e => ?_) (fun ne => ?_)
          · have e := V.str.inj e
            rw [if_neg (by rw [e]; decide), if_neg (by rw [e]; decide), if_neg (by rw [e]; decide), if_pos e] at q
            walk_at "go"
            refine ifD (fun e2 => ?_) (fun n2 => ?_)
            · have e2 := V.int.inj e2
              obtain ⟨da, rfl⟩ : ∃ da, dr = [da] := by
                rcases dr with _ | ⟨d1, _ | ⟨d2, dr⟩⟩
                · simp only [List.length_nil, List.length_cons] at hlr e2; omega
                · exact ⟨_, rfl⟩
                · simp only [List.length_cons] at hlr e2; omega
              obtain ⟨va, rfl⟩ : ∃ va, vr = [va] := by
                rcases vr with _ | ⟨d1, _ | ⟨d2, dr⟩⟩
                · simp at hlr
                · exact ⟨_, rfl⟩
                · simp at hlr
              have t1 := tr.hd
              obtain ⟨ty1, h5, h6⟩ := t1.isStr (K := K)
              walk_at "go"
              refine ⟨_, _, ty1, _, _, rfl, .ty "str", h5, h6, ?_⟩
              refine ⟨_, rfl, ?_⟩
              cases t1 with
              | str y =>
                refine ifB (fun _ => ?_) (fun c => by cases c)
                walk_at "go"
                intro pt npt
                generalize hU2 : upd H0 pt _ = H2
                obtain ⟨s2, hpt⟩ := new_of0 npt hU2
                refine ⟨pt, [("yes" : Str), ("no" : Str)].map V.str, rfl, .inr (sqT_of hpt), rfl, rfl, ?_⟩
                rw [if_neg (by decide), in_strs]
                have er : endD [.str y] = decide (y ∈ [("yes" : Str), ("no" : Str)]) := by
                  show decide (y = ("yes" : Str) ∨ y = ("no" : Str)) = _
                  simp
                rw [← er]
                exact q H2 (s0.trans s2)
              | _ =>
                refine ifB (fun c => by cases c) (fun _ => ?_)
                exact q H0 s0
            · have n2 : dr.length ≠ 1 := fun e => n2 (congrArg V.int (by rw [List.length_cons, hlr, e]; rfl))
              have er : endD dr = false := by
                unfold endD
                split
                · exact absurd rfl n2
                · rfl
              rw [er] at q
              exact q H0 s0
          · have ne : z ≠ ("end" : Str) := fun c => ne (congrArg V.str c)
            walk_at "go"
            refine ifD (fun e => ?_) (fun ne2 => ?_)
            · have e := V.str.inj e
              rw [if_neg (by rw [e]; decide), if_neg (by rw [e]; decide), if_pos e] at q
              walk_at "go"
              refine ifDn (fun n3 => ?_) (fun e3 => ?_)
              · have n3 : dr.length ≠ 2 := fun e => n3 (congrArg V.int (by rw [List.length_cons, hlr, e]; rfl))
                rw [rest_len n3] at q
                walk_at "go"
                exact q H0 s0
              · have e3 := V.int.inj e3
                obtain ⟨da, db, rfl⟩ : ∃ da db, dr = [da, db] := by
                  rcases dr with _ | ⟨d1, _ | ⟨d2, _ | ⟨d3, dr⟩⟩⟩
                  · simp only [List.length_nil, List.length_cons] at hlr e3; omega
                  · simp only [List.length_cons, List.length_nil] at hlr e3; omega
                  · exact ⟨_, _, rfl⟩
                  · simp only [List.length_cons] at hlr e3; omega
                obtain ⟨va, vb, rfl, ta1, tb1⟩ := tr.two
                walk_at "go"
                refine ⟨w, g, va, da, _, _, rfl, ta1, ?_⟩
                refine ⟨_, rfl, ?_⟩
                cases wa : wholeD 2 6 da with
                | false =>
                  refine ifB (fun _ => ?_) (fun c => by cases c)
                  have er : restD m [da, db] = false := by
                    cases da with
                    | int i => show (wholeD 2 6 (.int i) && _) = _; rw [wa, Bool.false_and]
                    | _ => rfl
                  rw [er] at q
                  walk_at "go"
                  exact q H0 s0
                | true =>
                  refine ifB (fun c => by cases c) (fun _ => ?_)
                  obtain ⟨i, rfl, i2, i6⟩ := whole_int wa
                  cases ta1
                  have er : restD m [.int i, db] = plaD i m db := by
                    show (wholeD 2 6 (.int i) && _) = _
                    rw [wa, Bool.true_and]
                  rw [er] at q
                  obtain ⟨ty2, h5, h6⟩ := tb1.isTup (K := K)
                  walk_at "go"
                  refine ⟨_, _, ty2, _, _, rfl, .ty "tuple", h5, h6, ?_⟩
                  refine ⟨_, rfl, ?_⟩
                  cases tb1 with
                  | @tup pb ps dps hb tps =>
                    have lps := tps.length
                    have lw : dps.length ≤ 300000 := by
                      have := wt_len dps
                      simp only [PyData.weightAll, PyData.weight] at wr
                      omega
                    simp only [plaD] at q
                    refine ifB (fun c => by cases c) (fun _ => ?_)
                    walk_at "go"
                    refine ifD (fun e4 => ?_) (fun n4 => ?_)
                    · have e4 : (dps.length : Int) = i := by rw [← lps]; exact V.int.inj e4
                      rw [decide_eq_true e4, Bool.true_and] at q
                      walk_at "go"
                      exact ⟨w, g, pb, ps, dps, m, rfl, hb, tps, lw, fun H2 s2 => q H2 (s0.trans s2)⟩
                    · have n4 : ¬ (dps.length : Int) = i := fun e => n4 (congrArg V.int (by rw [lps]; exact e))
                      rw [decide_eq_false n4, Bool.false_and] at q
                      exact q H0 s0
                  | _ =>
                    refine ifB (fun _ => ?_) (fun c => by cases c)
                    walk_at "go"
                    exact q H0 s0
            · have ne2 : z ≠ ("rest" : Str) := fun c => ne2 (congrArg V.str c)
              walk_at "go"
              intro pt npt
              generalize hU2 : upd H0 pt _ = H2
              obtain ⟨s2, hpt⟩ := new_of0 npt hU2
              have S := s0.trans s2
              have h2' := s2 _ _ h'
              have tr2 := tr.same2 s2
              refine ⟨pt, [("add" : Str), ("take" : Str)].map V.str, rfl, .inr (sqT_of hpt), rfl, rfl, ?_⟩
              rw [if_pos rfl, in_strs]
              refine ⟨_, rfl, ?_⟩
              refine ifDn (fun nin => ?_) (fun hin => ?_)
              · rw [if_neg (fun e => nin (by rw [e]; exact List.Mem.head _)), if_neg (fun e => nin (by rw [e]; exact List.Mem.tail _ (List.Mem.head _))), if_neg ne2, if_neg ne] at q
                walk_at "go"
                exact q H2 S
              · walk_at "go"
                refine ifD (fun e => ?_) (fun na => ?_)
                · have e := V.str.inj e
                  rw [if_pos e] at q
                  walk_at "go"
                  refine ifDn (fun n3 => ?_) (fun e3 => ?_)
                  · have er : cntD 2 m dr = false := cnt_no fun e => n3 (congrArg V.int (by rw [List.length_cons, hlr]; omega))
                    rw [er] at q
                    walk_at "go"
                    exact q H2 S
                  · have e3 := V.int.inj e3
                    rw [List.length_cons, hlr] at e3
                    obtain ⟨d1, r1, rfl⟩ : ∃ d1 r1, dr = d1 :: r1 := by
                      cases dr with
                      | nil => simp only [List.length_nil] at e3; omega
                      | cons d1 r1 => exact ⟨_, _, rfl⟩
                    obtain ⟨v1, vr1, rfl⟩ : ∃ v1 vr1, vr = v1 :: vr1 := by
                      cases vr with
                      | nil => simp at hlr
                      | cons v1 vr1 => exact ⟨_, _, rfl⟩
                    rw [cnt_yes (by omega)] at q
                    walk_at "go"
                    refine ⟨w, g, v1, d1, _, _, rfl, tr2.hd, ?_⟩
                    refine ⟨_, rfl, ?_⟩
                    cases w1 : wholeD 1 4 d1 with
                    | false =>
                      rw [w1, Bool.false_and] at q
                      refine ifB (fun c => by cases c) (fun _ => ?_)
                      exact q H2 S
                    | true =>
                      rw [w1, Bool.true_and] at q
                      refine ifB (fun _ => ?_) (fun c => by cases c)
                      walk_at "go"
                      refine no_part ?_
                      refine sl_all h2' fun p H3 s3 hp => ?_
                      rw [cutV_two] at hp
                      have lr1 : r1.length ≤ 300000 := by rw [List.length_cons] at lr; omega
                      walk_at "go"
                      refine ⟨w, g, p, vr1, r1, m, rfl, hp, tr2.tl.same2 s3, lr1, fun H4 s4 => q H4 ((S.trans s3).trans s4)⟩
                · have na : z ≠ ("add" : Str) := fun c => na (congrArg V.str c)
                  have tk : z = ("take" : Str) := by
                    rcases List.mem_cons.mp hin with h | h
                    · exact absurd h na
                    · exact List.mem_singleton.mp h
                  rw [if_neg na, if_pos tk] at q
                  walk_at "go"
                  refine ifDn (fun n3 => ?_) (fun e3 => ?_)
                  · have er : cntD 3 m dr = false := cnt_no fun e => n3 (congrArg V.int (by rw [List.length_cons, hlr]; omega))
                    rw [er] at q
                    walk_at "go"
                    exact q H2 S
                  · have e3 := V.int.inj e3
                    rw [List.length_cons, hlr] at e3
                    obtain ⟨d1, r1, rfl⟩ : ∃ d1 r1, dr = d1 :: r1 := by
                      cases dr with
                      | nil => simp only [List.length_nil] at e3; omega
                      | cons d1 r1 => exact ⟨_, _, rfl⟩
                    obtain ⟨v1, vr1, rfl⟩ : ∃ v1 vr1, vr = v1 :: vr1 := by
                      cases vr with
                      | nil => simp at hlr
                      | cons v1 vr1 => exact ⟨_, _, rfl⟩
                    rw [cnt_yes (by omega)] at q
                    walk_at "go"
                    refine ⟨w, g, v1, d1, _, _, rfl, tr2.hd, ?_⟩
                    refine ⟨_, rfl, ?_⟩
                    cases w1 : wholeD 1 4 d1 with
                    | false =>
                      rw [w1, Bool.false_and] at q
                      refine ifB (fun c => by cases c) (fun _ => ?_)
                      exact q H2 S
                    | true =>
                      rw [w1, Bool.true_and] at q
                      refine ifB (fun _ => ?_) (fun c => by cases c)
                      walk_at "go"
                      refine no_part ?_
                      refine sl_all h2' fun p H3 s3 hp => ?_
                      rw [cutV_two] at hp
                      have lr1 : r1.length ≤ 300000 := by rw [List.length_cons] at lr; omega
                      walk_at "go"
                      refine ⟨w, g, p, vr1, r1, m, rfl, hp, tr2.tl.same2 s3, lr1, fun H4 s4 => q H4 ((S.trans s3).trans s4)⟩
        | _ =>
          refine ifB (fun _ => ?_) (fun c => by cases c)
          walk_at "go"
          exact q H0 s0
    | _ =>
      refine ifB (fun _ => ?_) (fun c => by cases c)
      walk_at "go"
      exact q H (fun _ _ e => e)
end
set_option pp.deepTerms false
set_option pp.deepTerms.threshold 5
section
variable {P : Program} {wd : World} {K : PySem.W.Frag} {mg : Str → Option Value} {base : Heap} (T : Tp K mg)
def spDiv : Sp := fun vs H Q _ => ∃ (a b : Nat), vs = [.int a, .int b] ∧ Q (.int (Nat.gcd a b : Nat)) H
theorem ok_common : FnOk P wd K mg base CX0 1 T.a_common T.d_common ["_law_one_here", "_law_other"] spDiv := by
  refine T.F_common.ok sc_common (fun vs H Q E h => ?_) (fun cdv A outer s H vs Q E hr h => ?_)
  · obtain ⟨a, b, rfl, _⟩ := h
    rfl
  · obtain ⟨a, b, rfl, q⟩ := h
    refine ⟨_, (pss_cons (ps_while PassesOwn.never (pt_cmpR op_ne (pv 1) pe_int (nomark _)) (pss_one (ps_par (i := 0) (j := 1) rfl sc_common.nd rfl rfl (by decide) rfl rfl (pa_cons (pv 1) (pa_cons (pe_op op_mod (pe_callTy call_int1 rfl T.n_int (by decide +kernel) (pa_cons (pv 0) pa_nil)) (pv 1)) pa_nil)) rfl)))
      (pss_one (ps_ret (pv 0)))), ?_⟩
    walk_at "go"
    refine ⟨fun m σ H2 => ∃ x y : Nat, σ = [some (.int x), some (.int y)] ∧ H2 = H ∧ m = y ∧ Nat.gcd x y = Nat.gcd a b, ⟨b, a, b, rfl, rfl, rfl, rfl⟩, fun m σ H2 p => ?_⟩
    obtain ⟨x, y, rfl, rfl, rfl, hg⟩ := p
    walk_at "go"
    refine ifDn (fun hne => ?_) (fun he => ?_)
    · have y0 : 0 < m := by
        rcases Nat.eq_zero_or_pos m with z | z
        · exact absurd (by rw [z]; rfl) hne
        · exact z
      refine ⟨fun σ' H' => σ' = [some (.int m), some (.int ((x % m : Nat) : Int))] ∧ H' = H2, fun σ' H' p => ?_, ?_⟩
      · obtain ⟨rfl, rfl⟩ := p
        refine ⟨x % m, Nat.mod_lt _ y0, m, x % m, rfl, rfl, rfl, ?_⟩
        rw [← hg, Nat.gcd_comm m, ← Nat.gcd_rec, Nat.gcd_comm]
      · walk_at "go"
        exact rfl
    · have e0 : m = 0 := by
        have := V.int.inj he
        omega
      subst e0
      rw [Nat.gcd_zero_right] at hg
      walk_at "go"
      rw [hg]
      exact q
theorem lcm_div (m n : Nat) : m / Nat.gcd m n * n = Nat.lcm m n := by
  unfold Nat.lcm
  obtain ⟨c, hc⟩ := Nat.gcd_dvd_left m n
  rcases Nat.eq_zero_or_pos (Nat.gcd m n) with z | z
  · rw [z, Nat.div_zero, Nat.div_zero, Nat.zero_mul]
  · generalize Nat.gcd m n = g at *
    subst hc
    rw [Nat.mul_div_cancel_left _ z, Nat.mul_assoc, Nat.mul_div_cancel_left _ z]
theorem ok_error : FnOk P wd K mg base CX0 4 T.a_error T.d_error ["_law_value"] spPErr := by
  have G_lis_step : FnOk P wd K mg base CX0 3 T.a_lis_step T.d_lis_step ["_law_value", "_law_many"] spStep := ok_lis_step T
  have G_common : FnOk P wd K mg base CX0 1 T.a_common T.d_common ["_law_one_here", "_law_other"] spDiv := ok_common T
  refine T.F_error.ok sc_error (fun vs H Q E h => ?_) (fun cdv A outer s H vs Q E hr h => ?_)
  · obtain ⟨w, g, v, d, rfl, _⟩ := h
    rfl
  · obtain ⟨w, g, v, d, rfl, t, wt, q⟩ := h
    refine ⟨_, (pss_cons (ps_if (PW.pt (pw_or (pt_not (pt_val (pe_callB call_isi rfl T.n_isinstance (by decide +kernel) (pa_cons (pv 0) (pa_cons (pe_bltn (v := .ty "tuple") rfl T.n_tuple (by decide +kernel) rfl) pa_nil))))) (pw_or1 (pt_not (pt_chain op_le op_le pe_int (pe_callB call_len_seq rfl T.n_len PySem.boot_len (pa_cons (pv 0) pa_nil)) pe_int))))) (pss_one (ps_ret (pe_tup (pa_cons pe_non (pa_cons pe_str pa_nil))))) pss_nil)
      (pss_cons (ps_set (i := 1) sc_error.nd rfl (Or.inl rfl) pe_int)
      (pss_cons (ps_for PassesOwn.never rfl (pi_enumT rfl T.n_enumerate (pa_cons (pv 0) pa_nil)) (pg_tup rfl (pgs_cons (pg_name (i := 2) sc_error.nd rfl (Or.inl rfl)) (pgs_cons (pg_name (i := 3) sc_error.nd rfl (Or.inl rfl)) pgs_nil))) (pss_cons (ps_if (pt_not (pt_val (pe_call G_lis_step hr rfl T.g_lis_step T.F_lis_step.kp (b_lis_step T) .nil pass0 (pa_cons (pv 3) (pa_cons (pe_callB call_len_seq rfl T.n_len PySem.boot_len (pa_cons (pv 0) pa_nil)) pa_nil))))) (pss_one (ps_ret (pe_tup (pa_cons (pv 2) (pa_cons pe_str pa_nil))))) pss_nil)
      (pss_one (ps_if (pt_cmpR op_eq (pe_ix ix_tup (pv 3) pe_int (fun _ _ => rfl)) pe_str (nomark _)) (pss_one (ps_set (i := 1) sc_error.nd rfl (Or.inl rfl) (pe_op op_mul (pe_op op_fdiv (pv 1) (pe_call G_common (hr.mono (by decide)) rfl T.g_common T.F_common.kp (b_common T) .nil pass0 (pa_cons (pv 1) (pa_cons (pe_ix ix_tup (pv 3) pe_int (fun _ _ => rfl)) pa_nil)))) (pe_ix ix_tup (pv 3) pe_int (fun _ _ => rfl))))) pss_nil))))
      (pss_one (ps_ret (pe_ifExp (pt_cmpR op_gt (pv 1) pe_int (nomark _)) (pe_tup (pa_cons pe_non (pa_cons pe_str pa_nil))) pe_non)))))), ?_⟩
    obtain ⟨ty, h1, h2⟩ := t.isTup (K := K)
    walk_at "go"
    refine ⟨_, _, ty, _, _, rfl, .ty "tuple", h1, h2, ?_⟩
    refine ⟨_, rfl, ?_⟩
    cases t with
    | tup h ta =>
      rename_i a xs ds
      refine ifB (fun c => by cases c) (fun _ => ?_)
      have hl := ta.length
      simp only [PyData.weight] at wt
      walk_at "go"
      have none_ : ¬ (1 ≤ ds.length ∧ ds.length ≤ 6) → ∀ p H1, Same H H1 → H1 p = some (.tup [.non, .str ("program" : Str)]) → Q (.ref p) H1 := fun z p H1 s1 hp => by
        refine q _ H1 s1 ?_
        rw [show resP (.tuple ds) = .tuple [.none, .str ("program" : Str)] from if_neg z]
        exact .tup hp (.cons .non (.cons (.str _) .nil))
      refine ite2 (fun c1 => ?_) (fun n1 => ?_)
      · rw [decide_eq_true_eq] at c1
        walk_at "go"
        refine ifDn (fun c2 => ?_) (fun n2 => ?_)
        · walk_at "go"
          intro p np
          generalize hU : upd H p _ = H1
          obtain ⟨s1, hp⟩ := new_of0 np hU
          exact none_ (by omega) p H1 s1 hp
        · have c3 : 1 ≤ ds.length ∧ ds.length ≤ 6 := by omega
          replace q : ∀ (x : V) (H' : Hp), Same H H' → Th w g H' x (resFrom ds.length (finD ds) 0 (ds.drop 0)) → Q x H' := fun x H' s1 t1 => q x H' s1 (by rw [show resP (.tuple ds) = resFrom ds.length (finD ds) 0 ds from if_pos c3]; exact t1)
          walk_at "go"
          refine ⟨a, xs, rfl, sqT_of h, ?_⟩
          refine for_it (walk_enT (xs := xs)) (fun i σ H2 => ∃ y2 y3 : Option V, σ = [some (.ref a), some (.int (lcmL (rdL (ds.take i)) : Nat)), y2, y3] ∧ Same H H2 ∧ resFrom ds.length (finD ds) 0 (ds.drop 0) = resFrom ds.length (finD ds) i (ds.drop i) ∧ ∀ d ∈ ds.take i, stepD ds.length d = true) ⟨_, _, rfl, fun _ _ e => e, rfl, fun _ h => by cases h⟩
            (fun i σ H2 _ px => ?_) (fun i x σ H2 H3 hi px y => ?_) (fun σ H2 px => ?_)
          · obtain ⟨y1, y2, _, S, _⟩ := px
            exact sqT_of (S _ _ h)
          · obtain ⟨y1, y2, rfl, S, e, al⟩ := px
            obtain ⟨T', x0, x, rfl, hT, rfl, hx0, hx⟩ := y
            cases hx0
            obtain ⟨d, hd, td⟩ := ta.get hx
            generalize hU2 : upd H2 T' _ = H4
            obtain ⟨s4, hT4⟩ := new_of0 hT hU2
            have S4 := S.trans s4
            have h4 := S4 _ _ h
            have wd2 : d.weight ≤ 300000 := by have := wt_mem (List.mem_of_getElem? hd); omega
            walk_at "go"
            refine ⟨w, g, x, d, (ds.length : Int), by rw [hl]; rfl, td.same2 S4, wd2, fun H5 s5 => ?_⟩
            refine ⟨_, rfl, ?_⟩
            cases hs : stepD (ds.length : Int) d with
            | true =>
              refine ifB (fun c => by cases c) (fun _ => ?_)
              have al2 : ∀ d ∈ ds.take (i + 1), stepD ds.length d = true := fun d2 h2 => by
                rw [List.take_add_one, hd] at h2
                rcases List.mem_append.mp h2 with h2 | h2
                · exact al d2 h2
                · have h3 : d2 = d := by simpa using h2
                  rw [h3]
                  exact hs
              have et : rdL (ds.take (i + 1)) = rdL (ds.take i) ++ (rdS d).toList := by rw [List.take_add_one, hd]; exact rdL_snoc _ _
              have e2 := e.trans (res_yes hd hs)
              have td5 := (td.same2 S4).same2 s5
              have b1 := Nat.le_of_dvd (by decide) (lcmL_dvd (rd_bound al))
              obtain ⟨z, items, rfl, ine, hr2⟩ := step_word hs
              obtain ⟨p, ys, rfl, hp, tp⟩ := td5.tupE
              cases tp with
              | @cons v0 vr _ _ tz tr =>
                cases tz
                walk_at "go"
                refine ifD (fun ez => ?_) (fun nz => ?_)
                · have ez := V.str.inj ez
                  obtain ⟨k, ee, rfl, k2, k6⟩ := hr2 ez
                  subst ez
                  obtain ⟨va, vb, rfl, t1, t2⟩ := tr.two
                  cases t1
                  rw [rdS_rest] at et
                  obtain ⟨n, rfl⟩ : ∃ n : Nat, k = (n : Int) := ⟨k.toNat, by omega⟩
                  have gp : 0 < Nat.gcd (lcmL (rdL (ds.take i))) n := Nat.gcd_pos_of_pos_right _ (by omega)
                  have gl : Nat.gcd (lcmL (rdL (ds.take i))) n ≤ 6 := Nat.le_trans (Nat.gcd_le_right _ (by omega)) (by omega)
                  walk_at "go"
                  have ev : lcmL (rdL (ds.take (i + 1))) = lcmL (rdL (ds.take i)) / Nat.gcd (lcmL (rdL (ds.take i))) n * n := by
                    rw [et, lcm_div]
                    exact lcmL_snoc _ _
                  rw [ev, Int.natCast_mul, Int.natCast_ediv]
                  exact ⟨_, _, rfl, S4.trans s5, e2, al2⟩
                · have nz2 : z ≠ ("rest" : Str) := fun c => nz (congrArg V.str c)
                  rw [rdS_no nz2, Option.toList_none, List.append_nil] at et
                  rw [← et]
                  exact ⟨_, _, rfl, S4.trans s5, e2, al2⟩
            | false =>
              refine ifB (fun _ => ?_) (fun c => by cases c)
              walk_at "go"
              intro p np
              generalize hU : upd H5 p _ = H6
              obtain ⟨s6, hp⟩ := new_of0 np hU
              refine q _ H6 ((S4.trans s5).trans s6) ?_
              rw [e, res_bad hd hs]
              exact .tup hp (.cons (.int _) (.cons (.str _) .nil))
          · obtain ⟨y1, y2, rfl, S, e, al⟩ := px
            rw [hl, List.take_length] at al
            have b1 := Nat.le_of_dvd (by decide) (lcmL_dvd (rd_bound al))
            have ef : resFrom ds.length (finD ds) 0 (ds.drop 0) = finD ds := by rw [e, hl, List.drop_length]; rfl
            rw [ef] at q
            unfold finD at q
            rw [hl, List.take_length]
            walk_at "go"
            refine ifD (fun gt => ?_) (fun le => ?_)
            · rw [if_pos (by omega)] at q
              walk_at "go"
              intro p np
              generalize hU : upd H2 p _ = H4
              obtain ⟨s4, hp⟩ := new_of0 np hU
              exact q _ H4 (S.trans s4) (.tup hp (.cons .non (.cons (.str _) .nil)))
            · rw [if_neg (by omega)] at q
              walk_at "go"
              exact q _ H2 S .non
      · walk_at "go"
        intro p np
        generalize hU : upd H p _ = H1
        obtain ⟨s1, hp⟩ := new_of0 np hU
        refine none_ (fun c => n1 (decide_eq_true ?_)) p H1 s1 hp
        omega
    | _ =>
      refine ifB (fun _ => ?_) (fun c => by cases c)
      walk_at "go"
      intro p np
      generalize hU : upd H p _ = H1
      obtain ⟨s1, hp⟩ := new_of0 np hU
      refine q _ H1 s1 ?_
      rw [resP_no rfl]
      exact .tup hp (.cons .non (.cons (.str _) .nil))
end
set_option pp.deepTerms false
set_option pp.deepTerms.threshold 5
section
variable {P : Program} {wd : World} {K : PySem.W.Frag} {mg : Str → Option Value} {base : Heap} (T : Tp K mg)
def spOdd : Sp := fun vs H Q _ => ∃ (w g c : Addr), vs = [.ref w] ∧ Dk w g c H ∧ ∀ x H', Go w g H H' → Dk w g c H' → Bt (10 ^ 30) 4000 4 w g H' x → Q x H'
theorem ok_odd : FnOk P wd K mg base CX0 3 T.a_odd T.d_odd ["_law_deck_here"] spOdd := by
  have G_draw : FnOk P wd K mg base CX0 1 T.a_draw T.d_draw ["_law_deck_here", "_law_many"] spDraw := ok_draw T
  have G_one : FnOk P wd K mg base CX0 2 T.a_one T.d_one ["_law_deck_here", "_law_items"] spPick := ok_pick T
  refine T.F_odd.ok sc_odd (fun vs H Q E h => ?_) (fun cdv A outer s H vs Q E hr h => ?_)
  · obtain ⟨w, g, c, rfl, _⟩ := h
    rfl
  · obtain ⟨w, g, c, rfl, W, q⟩ := h
    refine ⟨_, (pss_cons (ps_set (i := 1) sc_odd.nd rfl (Or.inl rfl) (pe_lst (pa_cons pe_non (pa_cons pe_bl (pa_cons pe_bl (pa_cons pe_int (pa_cons pe_int (pa_cons pe_int (pa_cons pe_int (pa_cons pe_int (pa_cons (pe_un un_neg pe_int) (pa_cons (pe_op op_pow pe_int pe_int) (pa_cons pe_str (pa_cons pe_str (pa_cons pe_str (pa_cons (pe_tup pa_nil) (pa_cons (pe_lst pa_nil) (pa_cons pe_dnewK (pa_cons (pe_tup (pa_cons pe_int pa_nil)) (pa_cons (pe_tup (pa_cons pe_bl pa_nil)) (pa_cons (pe_tup (pa_cons pe_non (pa_cons pe_int pa_nil))) (pa_cons (pe_lst (pa_cons pe_int pa_nil)) pa_nil))))))))))))))))))))))
      (pss_cons (ps_set (i := 1) sc_odd.nd rfl (Or.inl rfl) (pe_op op_cat (pv 1) (pe_lst (pa_cons (pe_tup (pa_cons pe_str (pa_cons pe_int (pa_cons pe_int pa_nil)))) (pa_cons (pe_tup (pa_cons pe_str (pa_cons pe_str pa_nil))) (pa_cons (pe_tup (pa_cons pe_str (pa_cons pe_int (pa_cons pe_int (pa_cons pe_int pa_nil))))) (pa_cons (pe_tup (pa_cons pe_str (pa_cons pe_int (pa_cons (pe_tup (pa_cons pe_int (pa_cons pe_int pa_nil))) pa_nil)))) (pa_cons (pe_disp (pps_cons pe_str pe_int pps_nil) rfl rfl (by simp) (by decide)) (pa_cons (pe_tup (pa_cons pe_str pa_nil)) (pa_cons pe_str pa_nil))))))))))
      (pss_one (ps_ret (pe_call G_one hr rfl T.g_one T.F_one.kp (b_one T) .nil pass0 (pa_cons (pv 0) (pa_cons (pv 1) pa_nil))))))), ?_⟩
    have Y : Lz (Dk w g c) (10 ^ 30) w g c H H [] := Lz.nil dok_l W
    walk_at "lay"
    obtain ⟨z, nd, ud, hd⟩ := Zd
    walk_at "go"
    refine ⟨[(Sum.inr ("add" : Str), .int 1)], rfl, by simp, ?_⟩
    rw [show mergeK [] [((Sum.inr ("add" : Str) : Key), V.int 1)] = [(Sum.inr ("add" : Str), V.int 1)] by simp [mergeK, putK]]
    generalize hV : upd _ p _ = HV
    replace Y := z.dict1 nd ud hV (W1 := 20) (bd_str "add" (by decide +kernel)) (Bt.int (by decide) (by decide))
    clear hV hd ud nd z
    walk_at "lay"
    have hb := Y.ls_bt (List.Mem.head _)
    have ha := Y.ls_ac (List.Mem.head _)
    refine ⟨w, g, c, _, _, rfl, Y.dk, ha, by simp, by simp, fun x H' mx s' W' => ?_⟩
    exact q x H' (Y.go.trans s') W' (((hb.mem mx).go Y.tups s').mono (Nat.le_refl _) (by decide) (by decide))
def spBent (n : Nat) : Sp := fun vs H Q _ => ∃ (w g c : Addr) (v : V) (deep : Nat) (B W D : Nat), vs = [.ref w, v, .int deep] ∧ Dk w g c H ∧ Bt B W D w g H v ∧ 10 ^ 30 ≤ B ∧ B + 4 < 10 ^ 38 ∧ W ≤ 100000 ∧ deep < n ∧
  ∀ x H', Go w g H H' → Dk w g c H' → Bt (B + 4) (3 * W + 4600) (D + 6) w g H' x → Q x H'
theorem no_bent {L : Nat} : FnOk P wd K mg base CX0 L T.a_bent T.d_bent ["_law_deck_here", "_law_value", "_law_deep"] (spBent 0) :=
  ⟨fun vs H Q E h => by obtain ⟨w, g, c, v, deep, B, W, D, _, _, _, _, _, _, h, _⟩ := h; exact absurd h (Nat.not_lt_zero _),
   fun A ou s H args us vs Q E _ _ _ _ h => by obtain ⟨w, g, c, v, deep, B, W, D, _, _, _, _, _, _, h, _⟩ := h; exact absurd h (Nat.not_lt_zero _)⟩
theorem bent_step (n : Nat) (G_bent : FnOk P wd K mg base CX0 (3 + n) T.a_bent T.d_bent ["_law_deck_here", "_law_value", "_law_deep"] (spBent n)) : FnOk P wd K mg base CX0 (3 + n + 1) T.a_bent T.d_bent ["_law_deck_here", "_law_value", "_law_deep"] (spBent (n + 1)) := by
  have G_draw : FnOk P wd K mg base CX0 1 T.a_draw T.d_draw ["_law_deck_here", "_law_many"] spDraw := ok_draw T
  have G_one : FnOk P wd K mg base CX0 2 T.a_one T.d_one ["_law_deck_here", "_law_items"] spPick := ok_pick T
  have G_odd : FnOk P wd K mg base CX0 3 T.a_odd T.d_odd ["_law_deck_here"] spOdd := ok_odd T
  refine T.F_bent.ok sc_bent (fun vs H Q E h => ?_) (fun cdv A outer s H vs Q E hr h => ?_)
  · obtain ⟨w, g, c, v, deep, B, W, D, rfl, _⟩ := h
    rfl
  · have hu4 : (cxOf CX0 P wd K mg base nm_bent "_law_bent" (defScope s_bent) T.a_bent cdv A outer s H E).A.units + 64 < cLine := hr.units
    obtain ⟨w, g, c, v, deep, B, W, D, rfl, Wk, ⟨d, t, bd⟩, b30, b38, wL, dn, q⟩ := h
    refine ⟨_, (C8.pss_cut (ps_if (PW.pt (pw_and (pt_val (pe_callB call_isi rfl T.n_isinstance (by decide +kernel) (pa_cons (pv 1) (pa_cons (pe_bltn (v := .ty "tuple") rfl T.n_tuple (by decide +kernel) rfl) pa_nil)))) (pw_and (pt_cmpR (op_neT0 hu4) (pv 1) (pe_tup pa_nil) (nomark _)) (pw_and (pt_cmpR op_gt (pv 2) pe_int (nomark _)) (pw_and1 (pt_cmpR op_gt (pe_call G_draw (hr.mono (by omega)) rfl T.g_draw T.F_draw.kp (b_draw T) .nil pass0 (pa_cons (pv 0) (pa_cons pe_int pa_nil))) pe_int (nomark _))))))) (pss_cons (ps_set (i := 3) sc_bent.nd rfl (Or.inl rfl) (pe_call G_draw (hr.mono (by omega)) rfl T.g_draw T.F_draw.kp (b_draw T) .nil pass0 (pa_cons (pv 0) (pa_cons (pe_callB call_len_seq rfl T.n_len PySem.boot_len (pa_cons (pv 1) pa_nil)) pa_nil))))
      (pss_one (ps_ret (pe_op op_catA (pe_op op_catA (pe_slice sl_tupA (pv 1) po_none (po_some (pv 3))) (pe_tup (pa_cons (pe_call G_bent hr rfl T.g_bent T.F_bent.kp (b_bent T) .nil pass0 (pa_cons (pv 0) (pa_cons (pe_ix ix_tup (pv 1) (pv 3) (fun _ _ => rfl)) (pa_cons (pe_op op_sub (pv 2) pe_int) pa_nil)))) pa_nil))) (pe_slice sl_tupA (pv 1) (po_some (pe_op op_add (pv 3) pe_int)) po_none))))) pss_nil)
      (pss_cons (ps_if (pt_val (pe_callB call_isi rfl T.n_isinstance (by decide +kernel) (pa_cons (pv 1) (pa_cons (pe_bltn (v := .ty "tuple") rfl T.n_tuple (by decide +kernel) rfl) pa_nil)))) (pss_cons (ps_par (i := 3) (j := 4) rfl sc_bent.nd rfl rfl (by decide) rfl rfl (pa_cons (pe_call G_draw (hr.mono (by omega)) rfl T.g_draw T.F_draw.kp (b_draw T) .nil pass0 (pa_cons (pv 0) (pa_cons (pe_op op_add (pe_callB call_len_seq rfl T.n_len PySem.boot_len (pa_cons (pv 1) pa_nil)) pe_int) pa_nil))) (pa_cons (pe_tup (pa_cons (pe_call G_odd (hr.mono (by omega)) rfl T.g_odd T.F_odd.kp (b_odd T) .nil pass0 (pa_cons (pv 0) pa_nil)) pa_nil)) pa_nil)) rfl)
      (pss_cons (ps_set (i := 5) sc_bent.nd rfl (Or.inl rfl) (pe_lst (pa_cons (pe_slice sl_tupA (pv 1) po_none (po_some (pe_un un_neg pe_int))) (pa_cons (pe_slice sl_tupA (pv 1) (po_some pe_int) po_none) (pa_cons (pe_op op_catA (pv 1) (pe_slice sl_tupA (pv 1) (po_some (pe_un un_neg pe_int)) po_none)) (pa_cons (pe_callTy call_list_of rfl T.n_list (by decide +kernel) (pa_cons (pv 1) pa_nil)) (pa_cons (pe_revT (pv 1)) (pa_cons (pe_op op_catA (pe_op op_catA (pe_slice sl_tupA (pv 1) po_none (po_some (pv 3))) (pv 4)) (pe_slice sl_tupA (pv 1) (po_some (pv 3)) po_none)) pa_nil))))))))
      (pss_one (ps_ret (pe_call G_one (hr.mono (by omega)) rfl T.g_one T.F_one.kp (b_one T) .nil pass0 (pa_cons (pv 0) (pa_cons (pe_op op_cat (pv 5) (pe_lst (pa_cons (pe_call G_odd (hr.mono (by omega)) rfl T.g_odd T.F_odd.kp (b_odd T) .nil pass0 (pa_cons (pv 0) pa_nil)) pa_nil))) pa_nil))))))) pss_nil)
      (pss_cons (ps_if (pt_val (pe_callB call_isi rfl T.n_isinstance (by decide +kernel) (pa_cons (pv 1) (pa_cons (pe_bltn (v := .ty "int") rfl T.n_int (by decide +kernel) rfl) pa_nil)))) (pss_cons (ps_set (i := 5) sc_bent.nd rfl (Or.inl rfl) (pe_lst (pa_cons (pe_op op_addX (pv 1) pe_int) (pa_cons (pe_op op_subX (pv 1) pe_int) (pa_cons (pe_op op_subX pe_int (pv 1)) (pa_cons (pe_op op_addX (pv 1) pe_int) (pa_cons (pe_cmpR op_eqX (pv 1) pe_int (nomark _)) (pa_cons (pe_callTy call_strX rfl T.n_str (by decide +kernel) (pa_cons (pv 1) pa_nil)) (pa_cons (pe_tup (pa_cons (pv 1) pa_nil)) pa_nil)))))))))
      (pss_one (ps_ret (pe_call G_one (hr.mono (by omega)) rfl T.g_one T.F_one.kp (b_one T) .nil pass0 (pa_cons (pv 0) (pa_cons (pe_op op_cat (pv 5) (pe_lst (pa_cons (pe_call G_odd (hr.mono (by omega)) rfl T.g_odd T.F_odd.kp (b_odd T) .nil pass0 (pa_cons (pv 0) pa_nil)) pa_nil))) pa_nil)))))) pss_nil)
      (pss_cons (ps_if (pt_val (pe_callB call_isi rfl T.n_isinstance (by decide +kernel) (pa_cons (pv 1) (pa_cons (pe_bltn (v := .ty "str") rfl T.n_str (by decide +kernel) rfl) pa_nil)))) (pss_one (ps_ret (pe_call G_one (hr.mono (by omega)) rfl T.g_one T.F_one.kp (b_one T) .nil pass0 (pa_cons (pv 0) (pa_cons (pe_lst (pa_cons (pe_op op_add_str (pv 1) pe_str) (pa_cons (pe_bm0 PySem.F.plainAttrs_str PySem.F.slot_str_upper PySem.F.type_str_upper G1.mt_upper (pv 1)) (pa_cons (pe_slice sl_str (pv 1) po_none (po_some (pe_un un_neg pe_int))) (pa_cons (pe_tup (pa_cons (pv 1) pa_nil)) (pa_cons pe_str (pa_cons pe_str (pa_cons (pe_call G_odd (hr.mono (by omega)) rfl T.g_odd T.F_odd.kp (b_odd T) .nil pass0 (pa_cons (pv 0) pa_nil)) pa_nil)))))))) pa_nil))))) pss_nil)
      (pss_one (ps_ret (pe_call G_odd (hr.mono (by omega)) rfl T.g_odd T.F_odd.kp (b_odd T) .nil pass0 (pa_cons (pv 0) pa_nil)))))))), ?_⟩
    obtain ⟨ty, h1, h2⟩ := t.isTup (K := K)
    have Tu : TupOk w g H := fun a xs h => ⟨(Wk.tup h).nw, (Wk.tup h).ng⟩
    refine ⟨fun σ H2 => σ = [some (.ref w), some v, some (.int deep), none, none, none] ∧ Go w g H H2 ∧ Dk w g c H2, ?_, fun σ H2 px => ?_⟩
    · walk_at "go"
      refine ⟨_, _, ty, _, _, rfl, .ty "tuple", h1, h2, ?_⟩
      cases t with
      | @tup a xs ds h ta =>
        refine ⟨_, rfl, ?_⟩
        refine ifB (fun _ => ?_) (fun c => by cases c)
        obtain ⟨d1, bl⟩ := Bt.tupE h ta bd
        have Y : Lz (Dk w g c) B w g c H H [.tp a xs W (D - 1)] := (Lz.nil dok_l Wk).add ⟨h, bl⟩
        have ll := bl.len
        walk_at "go"
        walk_at "new"
        refine ⟨a, _, xs, rfl, rfl, sqT_of (Y.tp_at (List.Mem.tail _ (List.Mem.head _))), sqT_of (Y.tp_at (List.Mem.head _)), ?_⟩
        refine ⟨_, rfl, ?_⟩
        by_cases hx : xs = []
        · rw [hx]
          exact ifB (fun c => by cases c) (fun _ => ifF ⟨rfl, Y.go, Y.dk⟩)
        · have hn : (!xs.isEmpty) = true := by
            cases xs with
            | nil => exact absurd rfl hx
            | cons _ _ => rfl
          have l0 : 0 < xs.length := by
            cases xs with
            | nil => exact absurd rfl hx
            | cons _ _ => simp
          refine ifB (fun _ => ?_) (fun c => by rw [hn] at c; cases c)
          walk_at "go"
          refine ifD (fun dp => ?_) (fun _ => ifF ⟨rfl, Y.go, Y.dk⟩)
          walk_at "go"
          refine ⟨w, g, c, _, rfl, Y.dk, by omega, by omega, fun e H3 s3 W3 e0 e1 => ?_⟩
          replace Y := Y.goes s3 W3
          walk_at "go"
          refine ifD (fun _ => ?_) (fun _ => ⟨rfl, Y.go, Y.dk⟩)
          walk_at "lay"
          refine ⟨w, g, c, _, rfl, Y.dk, by omega, by omega, fun at_ H4 s4 W4 at0 at1 => ?_⟩
          replace Y := Y.goes s4 W4
          obtain ⟨j, rfl⟩ : ∃ j : Nat, at_ = (j : Int) := ⟨at_.toNat, by omega⟩
          obtain ⟨x, hx2⟩ : ∃ x, xs[j]? = some x := ⟨_, List.getElem?_eq_getElem (by omega)⟩
          clear s3 s4 W3 W4
          walk_at "lay"
          obtain ⟨W1, W2, W3, b1, b2, b3, le⟩ := (Y.tp_bt (a := a) (List.Mem.tail _ (List.Mem.tail _ (List.Mem.head _)))).split hx2
          rw [← cutV_to] at b1
          rw [← cutV_from] at b3
          replace Y := Y.fine b1
          have T0 := Y.tups
          have g0 := Y.go
          have dI : ((deep : Nat) : Int) - 1 = ((deep - 1 : Nat) : Int) := by omega
          refine ⟨w, g, c, x, deep - 1, B, W2, D - 1, by rw [← dI]; rfl, Y.dk, b2, b30, b38, by omega, by omega, fun x3 H6 s6 W6 b6 => ?_⟩
          replace b3 := b3.go T0 s6
          replace Y := (((Y.goes s6 W6).up (Nat.le_add_right B 4)).addT b6).again
          have gA := g0.trans s6
          have T6 := Y.tups
          iterate 9 (walk_at "lay1")
          replace Y := Y.fine ((b3.mono (Nat.le_add_right B 4) (Nat.le_refl _) (Nat.le_refl _)).go T6 Y.go)
          walk_at "lay"
          refine q _ _ (gA.trans Y.go) Y.dk (((Y.get_tp (List.Mem.head _))).mono (Nat.le_refl _) ?_ ?_)
          · clear b30 q
            omega
          · clear b30 q
            omega
      | _ => exact ⟨_, rfl, ifF ⟨rfl, fun _ _ _ _ e => e, Wk⟩⟩
    · have Wk0 := Wk
      obtain ⟨rfl, S, Wk⟩ := px
      have t2 := t.go2 Tu S
      obtain ⟨ty, h1, h2⟩ := t2.isTup (K := K)
      have Y : Lz (Dk w g c) (B + 4) w g c H2 H2 [] := Lz.nil dok_l Wk
      have gB := S
      walk_at "go"
      refine ⟨_, _, ty, _, _, rfl, .ty "tuple", h1, h2, ?_⟩
      refine ⟨_, rfl, ?_⟩
      cases t2 with
      | @tup a xs ds h ta =>
        refine ifB (fun _ => ?_) (fun c => by cases c)
        obtain ⟨d1, bl⟩ := Bt.tupE h ta bd
        replace Y := Y.add (e := .tp a xs W (D - 1)) ⟨h, bl.mono (by omega) (Nat.le_refl _) (Nat.le_refl _)⟩
        have ll := bl.len
        walk_at "lay"
        refine ⟨w, g, c, _, rfl, Y.dk, by omega, by omega, fun at_ H4 s4 W4 at0 at1 => ?_⟩
        replace Y := Y.goes s4 W4
        clear s4 W4 h1 h2
        walk_at "lay"
        refine ⟨w, g, c, rfl, Y.dk, fun x1 HH sd Wd b1 => ?_⟩
        replace Y := (Y.goes sd Wd).addT (b1.mono (by omega) (Nat.le_refl _) (Nat.le_refl _))
        clear sd Wd
        walk_at "lay"
        refine ⟨w, g, c, rfl, Y.dk, fun x1 HH sd Wd b1 => ?_⟩
        replace Y := (Y.goes sd Wd).addT (b1.mono (by omega) (Nat.le_refl _) (Nat.le_refl _))
        clear sd Wd
        walk_at "lay"
        have ha := Y.ls_ac (List.Mem.head _)
        refine ⟨w, g, c, _, _, rfl, Y.dk, ha, by simp, by simp, fun x H' mx s' W' => ?_⟩
        suffices hA : BtA (B + 4) (3 * W + 4600) (D + 6) w g HH _ from q x H' ((gB.trans Y.go).trans s') W' ((hA x mx).go Y.tups s')
        clear q mx ha
        walk_at "bta"
      | int i =>
        refine ifB (fun c => by cases c) (fun _ => ?_)
        have iB : i.natAbs ≤ B := by have := bd.ok; simpa [Ok] using this
        clear h1 h2
        obtain ⟨ty3, h3, h4⟩ := (Th.int (w := w) (g := g) (H := H2) i).isInt (K := K)
        walk_at "go"
        refine ⟨_, _, ty3, _, _, rfl, .ty "int", h3, h4, ?_⟩
        refine ⟨_, rfl, ?_⟩
        refine ifB (fun _ => ?_) (fun c => by cases c)
        walk_at "go"
        refine Or.inl ?_
        refine ⟨i, 1, rfl, rfl, ?_⟩
        walk_at "go"
        refine Or.inl ?_
        refine ⟨i, 1, rfl, rfl, ?_⟩
        walk_at "go"
        refine Or.inl ?_
        refine ⟨0, i, rfl, rfl, ?_⟩
        walk_at "go"
        refine Or.inl ?_
        refine ⟨i, 4, rfl, rfl, ?_⟩
        walk_at "go"
        refine Or.inl ⟨rfl, ?_⟩
        walk_at "go"
        refine ⟨log_of (B := B) iB (by omega), ?_⟩
        walk_at "lay"
        refine ⟨w, g, c, rfl, Y.dk, fun x1 HH sd Wd b1 => ?_⟩
        replace Y := (Y.goes sd Wd).addT (b1.mono (by omega) (Nat.le_refl _) (Nat.le_refl _))
        clear sd Wd
        walk_at "lay"
        have ha := Y.ls_ac (List.Mem.head _)
        refine ⟨w, g, c, _, _, rfl, Y.dk, ha, by simp, by simp, fun x H' mx s' W' => ?_⟩
        suffices hA : BtA (B + 4) (3 * W + 4600) (D + 6) w g HH _ from q x H' ((gB.trans Y.go).trans s') W' ((hA x mx).go Y.tups s')
        clear q mx ha
        walk_at "bta"
      | bl b =>
        refine ifB (fun c => by cases c) (fun _ => ?_)
        clear h1 h2
        obtain ⟨ty3, h3, h4⟩ := (Th.bl (w := w) (g := g) (H := H2) b).isInt (K := K)
        walk_at "go"
        refine ⟨_, _, ty3, _, _, rfl, .ty "int", h3, h4, ?_⟩
        refine ⟨_, rfl, ?_⟩
        refine ifB (fun _ => ?_) (fun c => by cases c)
        walk_at "go"
        refine Or.inr ⟨b, 1, rfl, rfl, ?_⟩
        walk_at "go"
        refine Or.inr (Or.inl ⟨b, 1, rfl, rfl, ?_⟩)
        walk_at "go"
        refine Or.inr (Or.inr ⟨0, b, rfl, rfl, ?_⟩)
        walk_at "go"
        refine Or.inr ⟨b, 4, rfl, rfl, ?_⟩
        walk_at "go"
        refine Or.inr ⟨b, 1, rfl, rfl, ?_⟩
        walk_at "go"
        refine Or.inr ⟨b, rfl, ?_⟩
        walk_at "lay"
        refine ⟨w, g, c, rfl, Y.dk, fun x1 HH sd Wd b1 => ?_⟩
        replace Y := (Y.goes sd Wd).addT (b1.mono (by omega) (Nat.le_refl _) (Nat.le_refl _))
        clear sd Wd
        walk_at "lay"
        have ha := Y.ls_ac (List.Mem.head _)
        refine ⟨w, g, c, _, _, rfl, Y.dk, ha, by simp, by simp, fun x H' mx s' W' => ?_⟩
        suffices hA : BtA (B + 4) (3 * W + 4600) (D + 6) w g HH _ from q x H' ((gB.trans Y.go).trans s') W' ((hA x mx).go Y.tups s')
        clear q mx ha
        have hn : (if b = true then (1 : Int) else 0) = 0 ∨ (if b = true then (1 : Int) else 0) = 1 := by cases b <;> simp
        generalize (if b = true then (1 : Int) else 0) = bi at *
        walk_at "bta"
      | str x =>
        have ox : ∀ c ∈ x.cps.toList, c < 16 ^ 8 := by have := bd.ok; simpa [Ok] using this
        have lx : x.length ≤ W := bd.wt
        refine ifB (fun c => by cases c) (fun _ => ?_)
        clear h1 h2
        have t3 := t.go2 Tu S
        obtain ⟨ty3, h3, h4⟩ := t3.isInt (K := K)
        obtain ⟨ty4, h5, h6⟩ := t3.isStr (K := K)
        walk_at "go"
        refine ⟨_, _, ty3, _, _, rfl, .ty "int", h3, h4, ?_⟩
        refine ⟨_, rfl, ?_⟩
        refine ifB (fun c => by cases c) (fun _ => ?_)
        walk_at "go"
        refine ⟨_, _, ty4, _, _, rfl, .ty "str", h5, h6, ?_⟩
        refine ⟨_, rfl, ?_⟩
        refine ifB (fun _ => ?_) (fun c => by cases c)
        obtain ⟨l, rfl⟩ := any_C x
        have ct : Ct W l := ⟨by rw [C_len] at lx; exact lx, ox⟩
        have e32 : (Str.ofString " ") = C [32] := by decide +kernel
        rw [e32]
        walk_at "lay"
        have ll : l.length ≤ 100000 := Nat.le_trans ct.1 wL
        have c1 : Ct (W + 1) (l ++ [32]) := ct.app ⟨by simp, fun k hk => by rw [List.mem_singleton.mp hk]; decide⟩
        refine ⟨by rw [C_len, C_len]; exact szM (by simp; omega), ?_⟩
        rw [C_app]
        walk_at "lay"
        refine ⟨by rw [C_len]; exact szM (by omega), ?_⟩
        rw [C_cut]
        have c3 := ct.cut (HT.sIx l.length 0 none) (HT.sIx l.length l.length (some (-1)) - HT.sIx l.length 0 none)
        generalize (l.drop (HT.sIx l.length 0 none)).take (HT.sIx l.length l.length (some (-1)) - HT.sIx l.length 0 none) = l3 at *
        have bU : Bt (B + 4) (3 * W) 0 w g H2 (.str (Txt.upper (C l))) := Bt.upper ct.2 (by rw [C_len]; exact ct.1)
        replace Y := (((Y.addT bU).addT (c1.bt (w := w) (g := g) (H := H2) (B := B + 4))).addT (ct.bt (w := w) (g := g) (H := H2) (B := B + 4))).addT (c3.bt (w := w) (g := g) (H := H2) (B := B + 4))
        clear bU c1 ct c3 ox lx
        walk_at "lay"
        refine ⟨w, g, c, rfl, Y.dk, fun x1 HH sd Wd b1 => ?_⟩
        replace Y := (Y.goes sd Wd).addT (b1.mono (by omega) (Nat.le_refl _) (Nat.le_refl _))
        clear sd Wd
        walk_at "lay"
        have ha := Y.ls_ac (List.Mem.head _)
        refine ⟨w, g, c, _, _, rfl, Y.dk, ha, by simp, by simp, fun x H' mx s' W' => ?_⟩
        suffices hA : BtA (B + 4) (3 * W + 4600) (D + 6) w g HH _ from q x H' ((gB.trans Y.go).trans s') W' ((hA x mx).go Y.tups s')
        clear q mx ha
        walk_at "bta"
      | _ =>
        refine ifB (fun c => by cases c) (fun _ => ?_)
        clear h1 h2
        have t3 := t.go2 Tu S
        obtain ⟨ty3, h3, h4⟩ := t3.isInt (K := K)
        obtain ⟨ty4, h5, h6⟩ := t3.isStr (K := K)
        walk_at "go"
        refine ⟨_, _, ty3, _, _, rfl, .ty "int", h3, h4, ?_⟩
        refine ⟨_, rfl, ?_⟩
        refine ifB (fun c => by cases c) (fun _ => ?_)
        walk_at "go"
        refine ⟨_, _, ty4, _, _, rfl, .ty "str", h5, h6, ?_⟩
        refine ⟨_, rfl, ?_⟩
        refine ifB (fun c => by cases c) (fun _ => ?_)
        walk_at "go"
        refine ⟨w, g, c, rfl, Y.dk, fun x1 HH sd Wd b1 => ?_⟩
        exact q _ _ (gB.trans sd) Wd (b1.mono (by omega) (by clear b30; omega) (by clear b30; omega))
end
set_option pp.deepTerms false
set_option pp.deepTerms.threshold 5
theorem small30 {i : Int} (h : i.natAbs ≤ 1000) : i.natAbs ≤ 10 ^ 30 := Nat.le_trans h (by decide)
theorem b1038 : 10 ^ 30 < 10 ^ 38 := by decide
set_option hygiene false in
local macro_rules | `(tactic| walk_at "bt") => `(tactic| (refine Bt.int (small30 ?_) b1038; omega))
set_option hygiene false in
local macro_rules | `(tactic| walk_at "nla") => `(tactic| first
  | exact NlA.nil
  | (apply NlA.cons; (focus (apply Lz.ls_ac Y; walk_at "mem")); (focus walk_at "nma"); (focus simp); walk_at "nla"))
set_option hygiene false in
local macro_rules | `(tactic| walk_at "sha") => `(tactic| first
  | exact ShA.nil
  | (apply ShA.cons; (focus decide +kernel); walk_at "sha"))
set_option hygiene false in
local macro_rules | `(tactic| walk_at "wla") => `(tactic| first
  | exact WlA.nil
  | (apply WlA.cons; (focus (apply Lz.ls_ac Y; walk_at "mem")); (focus walk_at "sha"); (focus simp); (focus simp); walk_at "wla"))
section
variable {P : Program} {wd : World} {K : PySem.W.Frag} {mg : Str → Option Value} {base : Heap} (T : Tp K mg)
theorem bpa_ints {w g : Addr} {H : Hp} {ns : List Int} (h : ∀ n ∈ ns, n.natAbs ≤ 10 ^ 30) : BpA 127 0 w g H (ns.map V.int) := fun v hv => by
  obtain ⟨n, hn, rfl⟩ := List.mem_map.mp hv
  exact Bp.int (h n hn)
def spRest : Sp := fun vs H Q _ => ∃ (w g c : Addr) (m : Int), vs = [.ref w, .int m] ∧ Dk w g c H ∧ 0 < m ∧ m ≤ 100 ∧ ∀ x H', Go w g H H' → Dk w g c H' → Bp 3400 2 w g H' x → Q x H'
theorem ok_lrest : FnOk P wd K mg base CX0 2 T.a_lrest T.d_lrest ["_law_deck_here", "_law_many"] spRest := by
  have G_draw : FnOk P wd K mg base CX0 1 T.a_draw T.d_draw ["_law_deck_here", "_law_many"] spDraw := ok_draw T
  refine T.F_lrest.ok sc_lrest (fun vs H Q E h => ?_) (fun cdv A outer s H vs Q E hr h => ?_)
  · obtain ⟨w, g, c, m, rfl, _⟩ := h
    rfl
  · have hu4 : (cxOf CX0 P wd K mg base nm_lrest "_law_rest" (defScope s_lrest) T.a_lrest cdv A outer s H E).A.units + 64 < cLine := hr.units
    obtain ⟨w, g, c, m, rfl, W, m0, m1, q⟩ := h
    refine ⟨_, (pss_cons (ps_set (i := 2) sc_lrest.nd rfl (Or.inl rfl) (pe_op op_add pe_int (pe_call G_draw hr rfl T.g_draw T.F_draw.kp (b_draw T) .nil pass0 (pa_cons (pv 0) (pa_cons pe_int pa_nil)))))
      (pss_one (ps_ret (pe_tup (pa_cons pe_str (pa_cons (pv 2) (pa_cons (pe_callTy call_tuple_of rfl T.n_tuple (by decide +kernel) (pa_cons (pe_lc (own := [("_law_turn", 3)]) rfl sc_lrest.nd (pi_range1 rfl T.n_range (pa_cons (pv 2) pa_nil)) (blkOk_by (N := nm_lrest) (sc := defScope s_lrest) (by decide +kernel)) (fun _ _ _ _ _ => pg_name (i := 3) sc_lrest.nd rfl (Or.inl rfl)) (fun _ _ _ _ _ => pts_nil) (fun _ _ _ _ _ => (pe_call G_draw hr rfl T.g_draw T.F_draw.kp (b_draw T) .nil pass0 (pa_cons (pv 0) (pa_cons (pv 1) pa_nil))))) pa_nil)) pa_nil))))))), ?_⟩
    walk_at "go"
    refine ⟨w, g, c, _, rfl, W, by omega, by omega, fun d H1 s1 W1 d0 d1 => ?_⟩
    walk_at "go"
    intro D nD
    have f := W1.fresh nD
    refine lc_it walk_range (fun i H2 => ∃ ns : List Int, H2 D = some (.lst (ns.map V.int)) ∧ ns.length = i ∧ (∀ n ∈ ns, 0 ≤ n ∧ n < m) ∧ Go w g H1 H2 ∧ Dk w g c H2) ⟨[], upd_same, rfl, (fun _ h => by cases h), Go.of (same_new nD), W1.same (same_new nD)⟩
      (fun _ _ _ _ => trivial) (fun i x H2 H3 hi p y => ?_) (fun H2 p => ?_)
    · obtain ⟨ns, hD, hl, hn, S, W2⟩ := p
      obtain ⟨rfl, rfl⟩ := y
      walk_at "go"
      refine ⟨w, g, c, _, rfl, W2, by omega, by omega, fun e H9 s9 W9 e0 e1 => ?_⟩
      exact ⟨_, s9 _ _ f.1 f.2.1 hD, szl2 (by rw [List.length_map]; omega), ns ++ [e], by rw [upd_same, List.map_append]; rfl, by simp [hl], fun n h => (List.mem_append.mp h).elim (hn n) (fun h => by rw [List.mem_singleton.mp h]; exact ⟨e0, e1⟩), go_upd' (S.trans s9) nD, W9.upd f.1 f.2.1 f.2.2⟩
    · obtain ⟨ns, hD, hl, hn, S, W2⟩ := p
      walk_at "go"
      refine ⟨D, _, rfl, .inl ⟨sqL_of hD, fun p1 np1 => ?_⟩⟩
      generalize hU1 : upd H2 p1 _ = H3
      obtain ⟨s3, W3, ap1⟩ := new_ofL W2 np1 hU1
      walk_at "go"
      intro p2 np2
      generalize hU2 : upd H3 p2 _ = H4
      obtain ⟨s4, W4, ap2⟩ := new_ofL W3 np2 hU2
      have b1 : BpA 127 0 w g H4 (ns.map V.int) := bpa_ints fun n h => by
        have := hn n h
        have : n.natAbs ≤ 100 := by omega
        exact Nat.le_trans this (by decide)
      have b2 := b1.tup (s4 _ _ ap1.at_)
      rw [List.length_map] at b2
      have b3 : BpA 1100 1 w g H4 [.str (Str.ofString "rest"), .int (2 + d), .ref p1] := .cons ((Bp.str (by decide +kernel)).mono (by decide) (by decide)) (.cons ((Bp.int (by
        have : (2 + d).natAbs ≤ 10 := by omega
        exact Nat.le_trans this (by decide))).mono (by decide) (by decide)) (.cons (b2.mono (by omega) (by decide)) .nil))
      exact q _ H4 (((s1.trans S).trans (Go.of s3)).trans (Go.of s4)) W4 ((b3.tup ap2.at_).mono (show 3 * (1100 + 1) ≤ 3400 by decide) (by decide))
theorem nm_ints {lo hi : Int} : ∀ {xs : List V}, NmA lo hi xs → ∃ ns : List Int, xs = ns.map V.int ∧ ∀ n ∈ ns, lo ≤ n ∧ n ≤ hi
  | [], _ => ⟨[], rfl, fun _ h => by cases h⟩
  | x :: xs, h => by
    obtain ⟨ns, e, hn⟩ := nm_ints (xs := xs) fun v hv => h v (List.mem_cons_of_mem _ hv)
    obtain ⟨i, e1, e2⟩ := h x (List.mem_cons_self ..)
    refine ⟨i :: ns, by rw [e, e1]; rfl, fun n hn' => ?_⟩
    rcases List.mem_cons.mp hn' with rfl | h'
    · exact ⟨e2.1, by omega⟩
    · exact hn n h'
def spStepDrawn : Sp := fun vs H Q _ => ∃ (w g c l : Addr) (z : Str) (pl m : Int) (ns : List Int), vs = [.ref w, .str z, .int pl, .int m, .ref l] ∧ Dk w g c H ∧ Ac w g c H l (.lst (ns.map V.int)) ∧ (∀ n ∈ ns, 2 ≤ n ∧ n ≤ 6) ∧ ns.length ≤ 10 ∧ 0 ≤ pl ∧ pl < m ∧ m ≤ 6 ∧
  ∀ x H', Go w g H H' → Dk w g c H' → Bp 3400 2 w g H' x → Q x H'
theorem ok_step_drawn : FnOk P wd K mg base CX0 3 T.a_step_drawn T.d_step_drawn ["_law_deck_here", "_law_word", "_law_place", "_law_many", "_law_sizes"] spStepDrawn := by
  have G_draw : FnOk P wd K mg base CX0 1 T.a_draw T.d_draw ["_law_deck_here", "_law_many"] spDraw := ok_draw T
  have G_one : FnOk P wd K mg base CX0 2 T.a_one T.d_one ["_law_deck_here", "_law_items"] spPick := ok_pick T
  refine T.F_step_drawn.ok sc_step_drawn (fun vs H Q E h => ?_) (fun cdv A outer s H vs Q E hr h => ?_)
  · obtain ⟨w, g, c, l, z, pl, m, ns, rfl, _⟩ := h
    rfl
  · have hu4 : (cxOf CX0 P wd K mg base nm_step_drawn "_law_step_drawn" (defScope s_step_drawn) T.a_step_drawn cdv A outer s H E).A.units + 64 < cLine := hr.units
    obtain ⟨w, g, c, l, z, pl, m, ns, rfl, W, L, hn, hl, p0, p1, m6, q⟩ := h
    refine ⟨_, (pss_cons (ps_set (i := 5) sc_step_drawn.nd rfl (Or.inl rfl) (pe_lst (pa_cons (pe_call G_draw (hr.mono (by decide)) rfl T.g_draw T.F_draw.kp (b_draw T) .nil pass0 (pa_cons (pv 0) (pa_cons (pv 3) pa_nil))) (pa_cons (pv 2) (pa_cons (pe_op op_mod (pe_callTy call_int1 rfl T.n_int (by decide +kernel) (pa_cons (pe_op op_add (pv 2) pe_int) pa_nil)) (pv 3)) pa_nil)))))
      (pss_cons (ps_par3 (i := 6) (j := 7) (l := 8) rfl sc_step_drawn.nd rfl rfl rfl (by decide) (by decide) (by decide) rfl rfl rfl (pa_cons (pe_call G_one hr rfl T.g_one T.F_one.kp (b_one T) .nil pass0 (pa_cons (pv 0) (pa_cons (pv 5) pa_nil))) (pa_cons (pe_op op_add pe_int (pe_call G_draw (hr.mono (by decide)) rfl T.g_draw T.F_draw.kp (b_draw T) .nil pass0 (pa_cons (pv 0) (pa_cons pe_int pa_nil)))) (pa_cons (pe_call G_one hr rfl T.g_one T.F_one.kp (b_one T) .nil pass0 (pa_cons (pv 0) (pa_cons (pe_lst (pa_cons pe_int (pa_cons pe_int (pa_cons pe_int pa_nil)))) pa_nil))) pa_nil))) rfl)
      (pss_cons (ps_set (i := 9) sc_step_drawn.nd rfl (Or.inl rfl) (pe_op op_sub (pe_op op_sub (pv 3) pe_int) (pe_call G_draw (hr.mono (by decide)) rfl T.g_draw T.F_draw.kp (b_draw T) .nil pass0 (pa_cons (pv 0) (pa_cons (pe_callB (call_min2 rfl) rfl T.n_min (by decide +kernel) (pa_cons (pe_callTy call_int1 rfl T.n_int (by decide +kernel) (pa_cons (pv 3) pa_nil)) (pa_cons (pe_callTy call_int1 rfl T.n_int (by decide +kernel) (pa_cons (pv 8) pa_nil)) pa_nil))) pa_nil)))))
      (pss_cons (ps_if (pt_cmpR op_eq (pv 1) pe_str (nomark _)) (pss_one (ps_ret (pe_tup (pa_cons pe_str (pa_cons (pe_call G_one hr rfl T.g_one T.F_one.kp (b_one T) .nil pass0 (pa_cons (pv 0) (pa_cons (pe_lst (pa_cons pe_str (pa_cons pe_str pa_nil))) pa_nil))) pa_nil))))) pss_nil)
      (pss_cons (ps_if (pt_cmpR op_eq (pv 1) pe_str (nomark _)) (pss_one (ps_ret (pe_tup (pa_cons pe_str (pa_cons (pv 7) (pa_cons (pv 6) pa_nil)))))) pss_nil)
      (pss_cons (ps_if (PW.pt (pw_and (pt_cmpR op_eq (pv 1) pe_str (nomark _)) (pw_and1 (pt_cmpR (op_neD hu4) (pv 4) (pe_lst pa_nil) (nomark _))))) (pss_cons (ps_set (i := 10) sc_step_drawn.nd rfl (Or.inl rfl) (pe_call G_one hr rfl T.g_one T.F_one.kp (b_one T) .nil pass0 (pa_cons (pv 0) (pa_cons (pv 4) pa_nil))))
      (pss_one (ps_ret (pe_tup (pa_cons pe_str (pa_cons (pv 10) (pa_cons (pe_callTy call_tuple_of rfl T.n_tuple (by decide +kernel) (pa_cons (pe_lc (own := [("_law_turn", 11)]) rfl sc_step_drawn.nd (pi_range1 rfl T.n_range (pa_cons (pv 10) pa_nil)) (blkOk_by (N := nm_step_drawn) (sc := defScope s_step_drawn) (by decide +kernel)) (fun _ _ _ _ _ => pg_name (i := 11) sc_step_drawn.nd rfl (Or.inl rfl)) (fun _ _ _ _ _ => pts_nil) (fun _ _ _ _ _ => (pe_call G_draw (hr.mono (by decide)) rfl T.g_draw T.F_draw.kp (b_draw T) .nil pass0 (pa_cons (pv 0) (pa_cons (pv 3) pa_nil))))) pa_nil)) pa_nil))))))) pss_nil)
      (pss_one (ps_ret (pe_tup (pa_cons pe_str (pa_cons (pv 7) (pa_cons (pv 6) (pa_cons (pv 9) pa_nil))))))))))))), ?_⟩
    have Y : Lz (Dk w g c) (10 ^ 30) w g c H H [] := Lz.nil dok_l W
    walk_at "lay"
    refine ⟨w, g, c, _, rfl, Y.dk, by omega, by omega, fun d H1 s1 W1 d0 d1 => ?_⟩
    replace Y := Y.goes s1 W1
    clear s1 W1
    walk_at "lay"
    have u0 := Int.emod_nonneg (pl + 1) (show m ≠ 0 by omega)
    have u1 := Int.emod_lt_of_pos (pl + 1) (show 0 < m by omega)
    walk_at "lay"
    have ha := Y.ls_ac (List.Mem.head _)
    refine ⟨w, g, c, _, _, rfl, Y.dk, ha, by simp, by simp, fun x H2 mx s2 W2 => ?_⟩
    have hN := fun (hA : NmA 0 5 _) => hA x mx
    obtain ⟨to, rfl, to0, to1⟩ := hN (by walk_at "nma")
    clear hN mx ha
    replace Y := Y.goes s2 W2
    clear s2 W2
    walk_at "lay"
    refine ⟨w, g, c, _, rfl, Y.dk, by omega, by omega, fun k H3 s3 W3 k0 k1 => ?_⟩
    replace Y := Y.goes s3 W3
    clear s3 W3
    walk_at "lay"
    have ha := Y.ls_ac (List.Mem.head _)
    refine ⟨w, g, c, _, _, rfl, Y.dk, ha, by simp, by simp, fun x H4 mx s4 W4 => ?_⟩
    have hN := fun (hA : NmA 2 6 _) => hA x mx
    obtain ⟨la, rfl, la0, la1⟩ := hN (by walk_at "nma")
    clear hN mx ha
    replace Y := Y.goes s4 W4
    clear s4 W4
    walk_at "lay"
    have n0 : 0 < (if la < m then la else m) := by split <;> omega
    have n1 : (if la < m then la else m) ≤ m := by split <;> omega
    refine ⟨w, g, c, _, rfl, Y.dk, n0, by omega, fun ot H5 s5 W5 o0 o1 => ?_⟩
    replace Y := Y.goes s5 W5
    clear s5 W5
    replace o1 : ot < m := by omega
    clear n0 n1
    replace L := L.go Y.go
    replace Y := (Y.wipe)
    walk_at "lay"
    refine ifD (fun e => ?_) (fun ne => ?_)
    · walk_at "lay"
      have ha := Y.ls_ac (List.Mem.head _)
      refine ⟨w, g, c, _, _, rfl, Y.dk, ha, by simp, by simp, fun x H6 mx s6 W6 => ?_⟩
      replace Y := Y.goes s6 W6
      clear s6 W6 ha
      have bx : Bp 127 0 w g H6 x := by
        rcases List.mem_cons.mp mx with rfl | h
        · exact Bp.str (by decide +kernel)
        · rw [List.mem_singleton.mp h]
          exact Bp.str (by decide +kernel)
      walk_at "go"
      intro p np
      generalize hU : upd _ p _ = HH
      obtain ⟨s, Y', ap⟩ := Y.new np hU
      have b3 : BpA 1100 1 w g HH [.str (Str.ofString "end"), x] := .cons ((Bp.str (by decide +kernel)).mono (by decide) (by decide)) (.cons ((bx.go Y.tups (Go.of s)).mono (by decide) (by decide)) .nil)
      exact q _ HH Y'.go Y'.dk ((b3.tup ap.at_).mono (show 2 * (1100 + 1) ≤ 3400 by decide) (by decide))
    · walk_at "lay"
      refine ifD (fun e => ?_) (fun ne2 => ?_)
      · walk_at "go"
        intro p np
        generalize hU : upd _ p _ = HH
        obtain ⟨s, Y', ap⟩ := Y.new np hU
        have b3 : BpA 1100 1 w g HH [.str (Str.ofString "add"), .int (1 + k), .int to] := .cons ((Bp.str (by decide +kernel)).mono (by decide) (by decide)) (.cons ((Bp.int (small30 (by omega))).mono (by decide) (by decide)) (.cons ((Bp.int (small30 (by omega))).mono (by decide) (by decide)) .nil))
        exact q _ HH Y'.go Y'.dk ((b3.tup ap.at_).mono (show 3 * (1100 + 1) ≤ 3400 by decide) (by decide))
      · walk_at "go"
        have take : ∀ (H6 : Hp), Go w g H H6 → Dk w g c H6 → ∀ (p : Addr), H6 p = none → Q (.ref p) (upd H6 p (.tup [.str (Str.ofString "take"), .int (1 + k), .int to, .int (m - 1 - ot)])) := by
          intro H6 s6 W6 p np
          generalize hU : upd _ p _ = HH
          obtain ⟨s, W7, ap⟩ := new_ofL W6 np hU
          have b3 : BpA 800 1 w g HH [.str (Str.ofString "take"), .int (1 + k), .int to, .int (m - 1 - ot)] := .cons ((Bp.str (by decide +kernel)).mono (by decide) (by decide)) (.cons ((Bp.int (small30 (by omega))).mono (by decide) (by decide)) (.cons ((Bp.int (small30 (by omega))).mono (by decide) (by decide)) (.cons ((Bp.int (small30 (by omega))).mono (by decide) (by decide)) .nil)))
          exact q _ HH (s6.trans (Go.of s)) W7 ((b3.tup ap.at_).mono (show 4 * (800 + 1) ≤ 3400 by decide) (by decide))
        cases hz : decide (V.str z = V.str (Str.ofString "rest")) with
        | false =>
          refine ifB (fun c => by cases c) (fun _ => ?_)
          refine ifB (fun c => by cases c) (fun _ => ?_)
          walk_at "go"
          exact take _ Y.go Y.dk
        | true =>
          refine ifB (fun _ => ?_) (fun c => by cases c)
          walk_at "go"
          intro o no
          generalize hU : upd _ o _ = HH
          obtain ⟨s, Y', ao⟩ := Y.new no hU
          replace L := L.go (Go.of s)
          clear Y hU no
          rename Lz _ _ _ _ _ _ _ _ => Y
          walk_at "go"
          refine ⟨.list (ns.map PyData.int), .list [], .lst (sqL_of L.at_) (dpAll_ints _), .lst (sqL_of ao.at_) .nil, shaped_ints _, by rfl, ?_⟩
          refine ⟨_, rfl, ?_⟩
          rw [eqv_ints_nil]
          by_cases hx : ns = []
          · refine ifB (fun c => by rw [decide_eq_true hx] at c; cases c) (fun _ => ?_)
            walk_at "go"
            exact take _ Y.go Y.dk
          · refine ifB (fun _ => ?_) (fun c => by rw [decide_eq_false hx] at c; cases c)
            clear take
            have lp : 0 < ns.length := List.length_pos_iff.mpr hx
            walk_at "go"
            refine ⟨w, g, c, _, _, rfl, Y.dk, L, by rw [List.length_map]; exact lp, by rw [List.length_map]; omega, fun x H7 mx s7 W7 => ?_⟩
            obtain ⟨r, hr2, rfl⟩ := List.mem_map.mp mx
            have hr3 := hn r hr2
            replace Y := Y.goes s7 W7
            clear s7 W7 mx
            walk_at "go"
            intro D nD
            have f := Y.dk.fresh nD
            refine lc_it walk_range (fun i H2 => ∃ ns : List Int, H2 D = some (.lst (ns.map V.int)) ∧ ns.length = i ∧ (∀ n ∈ ns, 0 ≤ n ∧ n < m) ∧ Go w g H7 H2 ∧ Dk w g c H2) ⟨[], upd_same, rfl, (fun _ h => by cases h), Go.of (same_new nD), Y.dk.same (same_new nD)⟩
              (fun _ _ _ _ => trivial) (fun i x H2 H3 hi p y => ?_) (fun H2 p => ?_)
            · obtain ⟨ns, hD, hl, hn, S, W2⟩ := p
              obtain ⟨rfl, rfl⟩ := y
              walk_at "go"
              refine ⟨w, g, c, _, rfl, W2, by omega, by omega, fun e H9 s9 W9 e0 e1 => ?_⟩
              exact ⟨_, s9 _ _ f.1 f.2.1 hD, szl2 (by rw [List.length_map]; omega), ns ++ [e], by rw [upd_same, List.map_append]; rfl, by simp [hl], fun n h => (List.mem_append.mp h).elim (hn n) (fun h => by rw [List.mem_singleton.mp h]; exact ⟨e0, e1⟩), go_upd' (S.trans s9) nD, W9.upd f.1 f.2.1 f.2.2⟩
            · obtain ⟨ns, hD, hl, hn, S, W2⟩ := p
              walk_at "go"
              refine ⟨D, _, rfl, .inl ⟨sqL_of hD, fun p1 np1 => ?_⟩⟩
              generalize hU1 : upd H2 p1 _ = H3
              obtain ⟨s3, W3, ap1⟩ := new_ofL W2 np1 hU1
              walk_at "go"
              intro p2 np2
              generalize hU2 : upd H3 p2 _ = H4
              obtain ⟨s4, W4, ap2⟩ := new_ofL W3 np2 hU2
              have b1 : BpA 127 0 w g H4 (ns.map V.int) := bpa_ints fun n h => by
                have := hn n h
                have : n.natAbs ≤ 100 := by omega
                exact Nat.le_trans this (by decide)
              have b2 := b1.tup (s4 _ _ ap1.at_)
              rw [List.length_map] at b2
              have b3 : BpA 1100 1 w g H4 [.str (Str.ofString "rest"), .int r, .ref p1] := .cons ((Bp.str (by decide +kernel)).mono (by decide) (by decide)) (.cons ((Bp.int (small30 (by omega))).mono (by decide) (by decide)) (.cons (b2.mono (by omega) (by decide)) .nil))
              exact q _ H4 ((((Y.go).trans S).trans (Go.of s3)).trans (Go.of s4)) W4 ((b3.tup ap2.at_).mono (show 3 * (1100 + 1) ≤ 3400 by decide) (by decide))
theorem none_go {w g F : Addr} {H H' : Hp} (s : Go w g H H') (n1 : F ≠ w) (n2 : F ≠ g) (h : H' F = none) : H F = none := by
  cases e : H F with
  | none => rfl
  | some o => rw [s _ _ n1 n2 e] at h; cases h
theorem ne_ac {w g c F a : Addr} {H : Hp} {o u : HO} (x : Ac w g c H F o) (y : Ac w g c H a u) (n : o ≠ u) : a ≠ F := fun e => n (by
  have := x.at_.symm.trans (e ▸ y.at_)
  exact Option.some.inj this)
def spProg : Sp := fun vs H Q _ => ∃ (w g c : Addr), vs = [.ref w] ∧ Dk w g c H ∧ ∀ a xs H', Go w g H H' → Dk w g c H' → H' a = some (.tup xs) → BpA 3400 2 w g H' xs → 1 ≤ xs.length → xs.length ≤ 6 → Q (.ref a) H'
theorem ok_program : FnOk P wd K mg base CX0 4 T.a_program T.d_program ["_law_deck_here"] spProg := by
  have G_draw : FnOk P wd K mg base CX0 1 T.a_draw T.d_draw ["_law_deck_here", "_law_many"] spDraw := ok_draw T
  have G_one : FnOk P wd K mg base CX0 2 T.a_one T.d_one ["_law_deck_here", "_law_items"] spPick := ok_pick T
  have G_step_drawn : FnOk P wd K mg base CX0 3 T.a_step_drawn T.d_step_drawn ["_law_deck_here", "_law_word", "_law_place", "_law_many", "_law_sizes"] spStepDrawn := ok_step_drawn T
  refine T.F_program.ok sc_program (fun vs H Q E h => ?_) (fun cdv A outer s H vs Q E hr h => ?_)
  · obtain ⟨w, g, c, rfl, _⟩ := h
    rfl
  · have hu4 : (cxOf CX0 P wd K mg base nm_program "_law_program" (defScope s_program) T.a_program cdv A outer s H E).A.units + 64 < cLine := hr.units
    obtain ⟨w, g, c, rfl, W, q⟩ := h
    refine ⟨_, (pss_cons (ps_set (i := 1) sc_program.nd rfl (Or.inl rfl) (pe_call G_one (hr.mono (by decide)) rfl T.g_one T.F_one.kp (b_one T) .nil pass0 (pa_cons (pv 0) (pa_cons (pe_lst (pa_cons pe_int (pa_cons pe_int (pa_cons pe_int (pa_cons pe_int (pa_cons pe_int (pa_cons pe_int (pa_cons pe_int (pa_cons pe_int pa_nil))))))))) pa_nil))))
      (pss_cons (ps_set (i := 2) sc_program.nd rfl (Or.inl rfl) (pe_call G_one (hr.mono (by decide)) rfl T.g_one T.F_one.kp (b_one T) .nil pass0 (pa_cons (pv 0) (pa_cons (pe_lst (pa_cons (pe_lst pa_nil) (pa_cons (pe_lst (pa_cons pe_int pa_nil)) (pa_cons (pe_lst (pa_cons pe_int pa_nil)) (pa_cons (pe_lst (pa_cons pe_int (pa_cons pe_int pa_nil))) (pa_cons (pe_lst (pa_cons pe_int pa_nil)) (pa_cons (pe_lst (pa_cons pe_int pa_nil)) (pa_cons (pe_lst (pa_cons pe_int (pa_cons pe_int (pa_cons pe_int pa_nil)))) (pa_cons (pe_lst (pa_cons pe_int (pa_cons pe_int pa_nil))) pa_nil))))))))) pa_nil))))
      (pss_cons (ps_set (i := 3) sc_program.nd rfl (Or.inl rfl) (pe_lst (pa_cons (pe_lst (pa_cons pe_str (pa_cons pe_str (pa_cons pe_str (pa_cons pe_str (pa_cons pe_str pa_nil)))))) (pa_cons (pe_lst (pa_cons pe_str pa_nil)) (pa_cons (pe_lst (pa_cons pe_str (pa_cons pe_str (pa_cons pe_str pa_nil)))) (pa_cons (pe_lst (pa_cons pe_str (pa_cons pe_str (pa_cons pe_str pa_nil)))) pa_nil))))))
      (pss_cons (ps_par (i := 3) (j := 4) rfl sc_program.nd rfl rfl (by decide) rfl rfl (pa_cons (pe_call G_one (hr.mono (by decide)) rfl T.g_one T.F_one.kp (b_one T) .nil pass0 (pa_cons (pv 0) (pa_cons (pv 3) pa_nil))) (pa_cons (pe_lst pa_nil) pa_nil)) rfl)
      (pss_cons (ps_for PassesOwn.never rfl (pi_range1 rfl T.n_range (pa_cons (pv 1) pa_nil)) (pg_name (i := 5) sc_program.nd rfl (Or.inl rfl)) (pss_cons (ps_set (i := 6) sc_program.nd rfl (Or.inl rfl) (pe_call G_one (hr.mono (by decide)) rfl T.g_one T.F_one.kp (b_one T) .nil pass0 (pa_cons (pv 0) (pa_cons (pv 3) pa_nil))))
      (pss_cons (ps_expr (pe_bm PySem.F.plainAttrs_list PySem.F.slot_list_append PySem.F.type_list_append mt_append (pv 4) (pa_cons (pe_call G_step_drawn hr rfl T.g_step_drawn T.F_step_drawn.kp (b_step_drawn T) .nil pass0 (pa_cons (pv 0) (pa_cons (pv 6) (pa_cons (pv 5) (pa_cons (pv 1) (pa_cons (pv 2) pa_nil)))))) pa_nil)))
      (pss_one (ps_if (PW.pt (pw_and (pt_cmpR op_gt (pv 5) pe_int (nomark _)) (pw_and (pt_cmpR op_gt (pv 5) (pe_op op_sub (pv 1) pe_int) (nomark _)) (pw_and1 (pt_cmpR op_gt (pe_call G_draw (hr.mono (by decide)) rfl T.g_draw T.F_draw.kp (b_draw T) .nil pass0 (pa_cons (pv 0) (pa_cons pe_int pa_nil))) pe_int (nomark _)))))) (pss_one (ps_asg (pe_tup (pa_cons pe_str (pa_cons (pe_ix ix_list (pe_lst (pa_cons pe_str (pa_cons pe_str pa_nil))) (pe_op op_mod (pe_callTy call_int1 rfl T.n_int (by decide +kernel) (pa_cons (pv 5) pa_nil)) pe_int) (fun _ _ => rfl)) pa_nil))) (pg_sub (pv 4) (pe_un un_neg pe_int) set_list))) pss_nil)))))
      (pss_one (ps_ret (pe_callTy call_tuple_of rfl T.n_tuple (by decide +kernel) (pa_cons (pv 4) pa_nil))))))))), ?_⟩
    have Y : Lz (Dk w g c) (10 ^ 30) w g c H H [] := Lz.nil dok_l W
    walk_at "lay"
    have ha := Y.ls_ac (List.Mem.head _)
    refine ⟨w, g, c, _, _, rfl, Y.dk, ha, by simp, by simp, fun x H2 mx s2 W2 => ?_⟩
    have hN := fun (hA : NmA 1 6 _) => hA x mx
    obtain ⟨many, rfl, m0, m1⟩ := hN (by walk_at "nma")
    clear hN mx ha
    replace Y := (Y.goes s2 W2).wipe
    clear s2 W2
    walk_at "lay"
    have ha := Y.ls_ac (List.Mem.head _)
    refine ⟨w, g, c, _, _, rfl, Y.dk, ha, by simp, by simp, fun x H3 mx s3 W3 => ?_⟩
    have hN := fun (hA : NlA w g c HH 2 6 _) => hA x mx
    obtain ⟨lS, vS, rfl, aS, nS, kS⟩ := hN (by walk_at "nla")
    obtain ⟨zs, rfl, hzs⟩ := nm_ints nS
    rw [List.length_map] at kS
    clear hN mx ha nS
    replace aS := aS.go s3
    have gA := (Y.goes s3 W3).go
    replace Y := (Y.goes s3 W3).wipe.again
    clear s3 W3
    walk_at "lay"
    have ha := Y.ls_ac (List.Mem.head _)
    refine ⟨w, g, c, _, _, rfl, Y.dk, ha, by simp, by simp, fun x H4 mx s4 W4 => ?_⟩
    have hN := fun (hA : WlA w g c HH _) => hA x mx
    obtain ⟨lW, vW, rfl, aW, nW, kW0, kW⟩ := hN (by walk_at "wla")
    clear hN mx ha
    replace aW := aW.go s4
    replace aS := aS.go (Y.go.trans s4)
    have gB := gA.trans (Y.go.trans s4)
    clear Y gA s4
    walk_at "go"
    intro F nF
    generalize hU : upd H4 F _ = H5
    obtain ⟨s5, W5, aF⟩ := new_ofL W4 nF hU
    have nSF : lS ≠ F := ne_of_none aS.at_ nF
    have nWF : lW ≠ F := ne_of_none aW.at_ nF
    have nF0 : H F = none := none_go (gB) aF.nw aF.ng nF
    replace aS := aS.go (Go.of s5)
    replace aW := aW.go (Go.of s5)
    replace gB := gB.trans (Go.of s5)
    clear s5 hU nF W4
    walk_at "go"
    refine for_it walk_range (fun i σ H6 => ∃ (y5 y6 : Option V) (us : List V), σ = [some (.ref w), some (.int many), some (.ref lS), some (.ref lW), some (.ref F), y5, y6] ∧ Dk w g c H6 ∧ Ac w g c H6 lS (.lst (zs.map V.int)) ∧ Ac w g c H6 lW (.lst vW) ∧ Ac w g c H6 F (.lst us) ∧ us.length = i ∧ BpA 3400 2 w g H6 us ∧ Go w g H H6)
      ⟨_, _, _, rfl, W5, aS, aW, aF, rfl, BpA.nil, gB⟩ (fun _ _ _ _ _ => trivial) (fun i x σ H6 H7 hi pz y => ?_) (fun σ H6 pz => ?_)
    · clear W5 aS aW aF gB
      obtain ⟨y5, y6, us, rfl, W6, aS, aW, aF, hus, bu, gB⟩ := pz
      obtain ⟨rfl, rfl⟩ := y
      walk_at "go"
      refine ⟨w, g, c, lW, _, rfl, W6, aW, kW0, by omega, fun x H8 mx s8 W8 => ?_⟩
      obtain ⟨z, rfl, hz⟩ := nW x mx
      have T6 := (Lz.nil (B := 0) dok_l W6).tups
      replace bu := bu.go T6 s8
      replace aS := aS.go s8
      replace aW := aW.go s8
      replace aF := aF.go s8
      replace gB := gB.trans s8
      clear s8 W6 T6
      walk_at "go"
      refine ⟨Or.inl ⟨rfl, _, sqL_of aF.at_⟩, ?_⟩
      walk_at "go"
      refine ⟨w, g, c, lS, z, _, many, zs, rfl, W8, aS, hzs, kS, by omega, by omega, m1, fun x H9 s9 W9 bx => ?_⟩
      have T8 := (Lz.nil (B := 0) dok_l W8).tups
      replace bu := (bu.go T8 s9).snoc bx
      replace aS := aS.go s9
      replace aW := aW.go s9
      replace aF := aF.go s9
      replace gB := gB.trans s9
      clear s9 W8 T8 bx
      walk_at "go"
      refine ⟨F, _, _, rfl, rfl, aF.at_, szl2 (by omega), ?_⟩
      have kp : TupKeep H9 (upd H9 F (.lst (us ++ [x]))) := TupKeep.upd aF.at_ (fun xs e => by cases e)
      have gC := go_upd' (u := .lst (us ++ [x])) gB nF0
      have aS2 : Ac w g c (upd H9 F (.lst (us ++ [x]))) lS _ := aS.upd nSF
      have aW2 : Ac w g c (upd H9 F (.lst (us ++ [x]))) lW _ := aW.upd nWF
      have W10 := W9.upd (u := .lst (us ++ [x])) aF.nw aF.ng aF.nc
      have aF2 := aF.set (u := .lst (us ++ [x]))
      replace bu : BpA 3400 2 w g _ _ := bu.keep kp
      clear aS aW aF gB kp W9
      generalize upd H9 F (.lst (us ++ [x])) = H10 at *
      have lu : (us ++ [x]).length = i + 1 := by simp [hus]
      walk_at "go"
      refine ifB (fun _ => ?_) (fun _ => ifB (fun c => by cases c) (fun _ => ⟨_, _, _, rfl, W10, aS2, aW2, aF2, lu, bu, gC⟩))
      walk_at "go"
      refine ifB (fun _ => ?_) (fun _ => ifB (fun c => by cases c) (fun _ => ⟨_, _, _, rfl, W10, aS2, aW2, aF2, lu, bu, gC⟩))
      walk_at "go"
      refine ⟨w, g, c, _, rfl, W10, by omega, by omega, fun e H11 s11 W11 e0 e1 => ?_⟩
      have T10 := (Lz.nil (B := 0) dok_l W10).tups
      replace bu := bu.go T10 s11
      replace aS2 := aS2.go s11
      replace aW2 := aW2.go s11
      replace aF2 := aF2.go s11
      replace gC := gC.trans s11
      clear s11 W10 T10
      walk_at "go"
      refine ifD (fun _ => ?_) (fun _ => ⟨_, _, _, rfl, W11, aS2, aW2, aF2, lu, bu, gC⟩)
      walk_at "go"
      intro pl np
      generalize hU : upd H11 pl _ = H12
      obtain ⟨s12, W12, al⟩ := new_ofL W11 np hU
      have T11 := (Lz.nil (B := 0) dok_l W11).tups
      walk_at "go"
      have m0' := Int.emod_nonneg (0 + (i : Int)) (show (2 : Int) ≠ 0 by decide)
      have m1' := Int.emod_lt_of_pos (0 + (i : Int)) (show (0 : Int) < 2 by decide)
      have hy : ∃ y, [V.str (Str.ofString "yes"), V.str (Str.ofString "no")][((0 + (i : Int)) % 2).toNat]? = some (.str y) ∧ shortS y = true := by
        have hm : ((0 + (i : Int)) % 2).toNat = 0 ∨ ((0 + (i : Int)) % 2).toNat = 1 := by omega
        rcases hm with e | e
        · exact ⟨_, by rw [e]; rfl, by decide +kernel⟩
        · exact ⟨_, by rw [e]; rfl, by decide +kernel⟩
      obtain ⟨y, hy, sy⟩ := hy
      refine go_ixLi al.at_ (j := ((0 + (i : Int)) % 2).toNat) (by omega) hy ?_
      walk_at "go"
      intro pt npt
      generalize hU2 : upd H12 pt _ = H13
      obtain ⟨s13, W13, at13⟩ := new_ofL W12 npt hU2
      have S := s12.trans s13
      replace bu := bu.go T11 (Go.of S)
      replace aS2 := aS2.go (Go.of S)
      replace aW2 := aW2.go (Go.of S)
      replace aF2 := aF2.go (Go.of S)
      replace gC := gC.trans (Go.of S)
      have b3 : BpA 1100 1 w g H13 [.str (Str.ofString "end"), .str y] := .cons ((Bp.str (by decide +kernel)).mono (by decide) (by decide)) (.cons ((Bp.str sy).mono (by decide) (by decide)) .nil)
      have bt := (b3.tup at13.at_).mono (show 2 * (1100 + 1) ≤ 3400 by decide) (show 1 + 1 ≤ 2 by decide)
      clear b3 S s12 s13 al hy T11 hU hU2 np npt W12 W11
      walk_at "go"
      have ix1 : ixN (us ++ [x]).length (-1) = some i := by
        rw [lu]
        unfold ixN
        rw [if_neg (by omega), if_pos (by omega)]
        congr 1
        omega
      refine ⟨F, _, _, i, rfl, rfl, aF2.at_, ix1, ?_⟩
      have kp : TupKeep H13 (upd H13 F (.lst ((us ++ [x]).set i (.ref pt)))) := TupKeep.upd aF2.at_ (fun xs e => by cases e)
      refine ⟨_, _, _, rfl, W13.upd aF2.nw aF2.ng aF2.nc, aS2.upd nSF, aW2.upd nWF, aF2.set, by rw [List.length_set]; exact lu, fun v hv => ?_, go_upd' gC nF0⟩
      rcases List.mem_or_eq_of_mem_set hv with h | rfl
      · exact (bu v h).keep kp
      · exact bt.keep kp
    · obtain ⟨y5, y6, us, rfl, W6, aS, aW, aF, hus, bu, gB⟩ := pz
      walk_at "go"
      refine ⟨F, _, rfl, .inl ⟨sqL_of aF.at_, fun p1 np1 => ?_⟩⟩
      generalize hU1 : upd H6 p1 _ = H7
      obtain ⟨s7, W7, ap1⟩ := new_ofL W6 np1 hU1
      walk_at "go"
      exact q _ _ _ (gB.trans (Go.of s7)) W7 ap1.at_ (bu.go (Lz.nil (B := 0) dok_l W6).tups (Go.of s7)) (by omega) (by omega)
end
set_option pp.deepTerms false
set_option pp.deepTerms.threshold 5
set_option hygiene false in
local macro_rules | `(tactic| walk_at "bt") => `(tactic| (refine Bt.int (small30 ?_) b1038; omega))
set_option hygiene false in
local macro_rules | `(tactic| walk_at "nla") => `(tactic| first
  | exact NlA.nil
  | (apply NlA.cons; (focus (apply Lz.ls_ac Y; walk_at "mem")); (focus walk_at "nma"); (focus simp); walk_at "nla"))
set_option hygiene false in
local macro_rules | `(tactic| walk_at "sha") => `(tactic| first
  | exact ShA.nil
  | (apply ShA.cons; (focus decide +kernel); walk_at "sha"))
set_option hygiene false in
local macro_rules | `(tactic| walk_at "wla") => `(tactic| first
  | exact WlA.nil
  | (apply WlA.cons; (focus (apply Lz.ls_ac Y; walk_at "mem")); (focus walk_at "sha"); (focus simp); (focus simp); walk_at "wla"))
section
variable {P : Program} {wd : World} {K : PySem.W.Frag} {mg : Str → Option Value} {base : Heap} (T : Tp K mg)
def okR (ns : List Int) : Bool := decide (1 ≤ ns.length ∧ ns.length ≤ 5) && decide (ns.sum ≤ 5) && ns.all fun n => decide (1 ≤ n) && decide (n ≤ 5)
def RlA (w g c : Addr) (H : Hp) (vs : List V) : Prop := ∀ v ∈ vs, ∃ p ns, v = .ref p ∧ Ac w g c H p (.lst (ns.map V.int)) ∧ okR ns = true
theorem RlA.nil {w g c : Addr} {H : Hp} : RlA w g c H [] := fun _ h => by cases h
def unI : V → Int
  | .int i => i
  | _ => 0
theorem RlA.cons {w g c p : Addr} {H : Hp} {vs : List V} {xs : List V} (h : Ac w g c H p (.lst xs)) (e : xs = (xs.map unI).map V.int) (n : okR (xs.map unI) = true) (b : RlA w g c H vs) : RlA w g c H (.ref p :: vs) := fun u hu => by
  rcases List.mem_cons.mp hu with rfl | hu
  · exact ⟨p, _, rfl, e ▸ h, n⟩
  · exact b u hu
theorem okR_all {ns : List Int} (h : okR ns = true) : (1 ≤ ns.length ∧ ns.length ≤ 5) ∧ ns.sum ≤ 5 ∧ ∀ n ∈ ns, 1 ≤ n ∧ n ≤ 5 := by
  unfold okR at h
  rw [Bool.and_eq_true, Bool.and_eq_true, decide_eq_true_eq, decide_eq_true_eq, List.all_eq_true] at h
  refine ⟨h.1.1, h.1.2, fun n hn => ?_⟩
  have := h.2 n hn
  rw [Bool.and_eq_true, decide_eq_true_eq, decide_eq_true_eq] at this
  exact this
def sumT (ns : List Int) (i : Nat) : Int := (ns.take i).sum
theorem sumT_succ {ns : List Int} {i : Nat} {n : Int} (h : ns[i]? = some n) : sumT ns (i + 1) = sumT ns i + n := by
  unfold sumT
  rw [List.take_add_one, h]
  simp
theorem sumT_le {ns : List Int} (hn : ∀ n ∈ ns, 1 ≤ n ∧ n ≤ 5) (i : Nat) : sumT ns i ≤ ns.sum := by
  have e : ns.sum = (ns.take i).sum + (ns.drop i).sum := by rw [← List.sum_append, List.take_append_drop]
  have h : 0 ≤ (ns.drop i).sum := by
    have : ∀ l : List Int, (∀ n ∈ l, 1 ≤ n ∧ n ≤ 5) → 0 ≤ l.sum := fun l => by
      induction l with
      | nil => intro _; simp
      | cons a l ih =>
        intro h
        have h1 := h a (List.mem_cons_self ..)
        have h2 := ih fun n hn => h n (List.mem_cons_of_mem _ hn)
        rw [List.sum_cons]
        omega
    exact this _ fun n h => hn n (List.mem_of_mem_drop h)
  unfold sumT
  omega
structure Zf (w g c F L : Addr) (H0 H : Hp) (us vL : List V) : Prop where
  dk : Dk w g c H
  aF : Ac w g c H F (.lst us)
  aL : Ac w g c H L (.lst vL)
  bu : BpA 3400 2 w g H us
  go : Go w g H0 H
  nF : H0 F = none
  nLF : L ≠ F
section
variable {w g c F L p : Addr} {H0 H H' : Hp} {us vL : List V} {x : V} {o : HO}
theorem Zf.goes (z : Zf w g c F L H0 H us vL) (s : Go w g H H') (W : Dk w g c H') : Zf w g c F L H0 H' us vL :=
  ⟨W, z.aF.go s, z.aL.go s, z.bu.go (Lz.nil (B := 0) dok_l z.dk).tups s, z.go.trans s, z.nF, z.nLF⟩
theorem Zf.tups (z : Zf w g c F L H0 H us vL) : TupOk w g H := (Lz.nil (B := 0) dok_l z.dk).tups
theorem Zf.new (z : Zf w g c F L H0 H us vL) (np : H p = none) (hU : upd H p o = H') : Same H H' ∧ Zf w g c F L H0 H' us vL ∧ Ac w g c H' p o := by
  obtain ⟨s, W, a⟩ := new_ofL z.dk np hU
  exact ⟨s, z.goes (Go.of s) W, a⟩
theorem Zf.snoc (z : Zf w g c F L H0 H us vL) (bx : Bp 3400 2 w g H x) (hU : upd H F (.lst (us ++ [x])) = H') : Zf w g c F L H0 H' (us ++ [x]) vL := by
  subst hU
  exact ⟨z.dk.upd z.aF.nw z.aF.ng z.aF.nc, z.aF.set, z.aL.upd z.nLF, (z.bu.snoc bx).keep (TupKeep.upd z.aF.at_ fun xs e => by cases e), go_upd' z.go z.nF, z.nF, z.nLF⟩
end
set_option hygiene false in
local macro_rules | `(tactic| walk_at "rla") => `(tactic| first
  | exact RlA.nil
  | (apply RlA.cons; (focus (apply Lz.ls_ac Y; walk_at "mem")); (focus exact rfl); (focus decide +kernel); walk_at "rla"))
theorem ok_loops : FnOk P wd K mg base CX0 3 T.a_loops T.d_loops ["_law_deck_here"] spProg := by
  have G_draw : FnOk P wd K mg base CX0 1 T.a_draw T.d_draw ["_law_deck_here", "_law_many"] spDraw := ok_draw T
  have G_one : FnOk P wd K mg base CX0 2 T.a_one T.d_one ["_law_deck_here", "_law_items"] spPick := ok_pick T
  refine T.F_loops.ok sc_loops (fun vs H Q E h => ?_) (fun cdv A outer s H vs Q E hr h => ?_)
  · obtain ⟨w, g, c, rfl, _⟩ := h
    rfl
  · have hu4 : (cxOf CX0 P wd K mg base nm_loops "_law_loops" (defScope s_loops) T.a_loops cdv A outer s H E).A.units + 64 < cLine := hr.units
    obtain ⟨w, g, c, rfl, W, q⟩ := h
    refine ⟨_, (pss_cons (ps_set (i := 1) sc_loops.nd rfl (Or.inl rfl) (pe_lst pa_nil))
      (pss_cons (ps_set (i := 2) sc_loops.nd rfl (Or.inl rfl) (pe_lst (pa_cons (pe_lst (pa_cons pe_int (pa_cons pe_int (pa_cons pe_int (pa_cons pe_int (pa_cons pe_int pa_nil)))))) (pa_cons (pe_lst (pa_cons pe_int (pa_cons pe_int (pa_cons pe_int pa_nil)))) (pa_cons (pe_lst (pa_cons pe_int (pa_cons pe_int pa_nil))) (pa_cons (pe_lst (pa_cons pe_int (pa_cons pe_int pa_nil))) (pa_cons (pe_lst (pa_cons pe_int pa_nil)) (pa_cons (pe_lst (pa_cons pe_int (pa_cons pe_int (pa_cons pe_int (pa_cons pe_int pa_nil))))) (pa_cons (pe_lst (pa_cons pe_int (pa_cons pe_int pa_nil))) (pa_cons (pe_lst (pa_cons pe_int (pa_cons pe_int pa_nil))) (pa_cons (pe_lst (pa_cons pe_int pa_nil)) (pa_cons (pe_lst (pa_cons pe_int (pa_cons pe_int (pa_cons pe_int pa_nil)))) pa_nil))))))))))))
      (pss_cons (ps_for PassesOwn.never rfl (pi_list (pe_call G_one hr rfl T.g_one T.F_one.kp (b_one T) .nil pass0 (pa_cons (pv 0) (pa_cons (pv 2) pa_nil)))) (pg_name (i := 3) sc_loops.nd rfl (Or.inl rfl)) (pss_cons (ps_set (i := 4) sc_loops.nd rfl (Or.inl rfl) (pe_callB call_len_seq rfl T.n_len PySem.boot_len (pa_cons (pv 1) pa_nil)))
      (pss_one (ps_for PassesOwn.never rfl (pi_range1 rfl T.n_range (pa_cons (pv 3) pa_nil)) (pg_name (i := 5) sc_loops.nd rfl (Or.inl rfl)) (pss_cons (ps_set (i := 6) sc_loops.nd rfl (Or.inl rfl) (pe_call G_one hr rfl T.g_one T.F_one.kp (b_one T) .nil pass0 (pa_cons (pv 0) (pa_cons (pe_lst (pa_cons (pe_call G_draw (hr.mono (by decide)) rfl T.g_draw T.F_draw.kp (b_draw T) .nil pass0 (pa_cons (pv 0) (pa_cons pe_int pa_nil))) (pa_cons pe_int (pa_cons pe_int pa_nil)))) pa_nil))))
      (pss_one (ps_expr (pe_bm PySem.F.plainAttrs_list PySem.F.slot_list_append PySem.F.type_list_append mt_append (pv 1) (pa_cons (pe_tup (pa_cons pe_str (pa_cons (pe_op op_add pe_int (pe_call G_draw (hr.mono (by decide)) rfl T.g_draw T.F_draw.kp (b_draw T) .nil pass0 (pa_cons (pv 0) (pa_cons pe_int pa_nil)))) (pa_cons (pe_op op_add (pv 4) (pe_op op_mod (pe_callTy call_int1 rfl T.n_int (by decide +kernel) (pa_cons (pe_op op_add (pv 5) pe_int) pa_nil)) (pv 3))) (pa_cons (pv 6) pa_nil))))) pa_nil)))))))))
      (pss_cons (ps_par (i := 7) (j := 8) rfl sc_loops.nd rfl rfl (by decide) rfl rfl (pa_cons (pe_call G_one hr rfl T.g_one T.F_one.kp (b_one T) .nil pass0 (pa_cons (pv 0) (pa_cons (pe_lst (pa_cons pe_int (pa_cons pe_int (pa_cons pe_int (pa_cons pe_int (pa_cons pe_int pa_nil)))))) pa_nil))) (pa_cons (pe_tup (pa_cons pe_str (pa_cons pe_str pa_nil))) pa_nil)) rfl)
      (pss_cons (ps_set (i := 9) sc_loops.nd rfl (Or.inl rfl) (pe_tup (pa_cons pe_str (pa_cons (pv 7) (pa_cons (pe_callTy call_tuple_of rfl T.n_tuple (by decide +kernel) (pa_cons (pe_lc (own := [("_law_k", 5)]) rfl sc_loops.nd (pi_range1 rfl T.n_range (pa_cons (pv 7) pa_nil)) (blkOk_by (N := nm_loops) (sc := defScope s_loops) (by decide +kernel)) (fun _ _ _ _ _ => pg_name (i := 5) sc_loops.nd rfl (Or.inl rfl)) (fun _ _ _ _ _ => pts_nil) (fun _ _ _ _ _ => (pe_call G_draw (hr.mono (by decide)) rfl T.g_draw T.F_draw.kp (b_draw T) .nil pass0 (pa_cons (pv 0) (pa_cons pe_int pa_nil))))) pa_nil)) pa_nil)))))
      (pss_cons (ps_if (pt_cmpR op_eq (pe_callB call_len_seq rfl T.n_len PySem.boot_len (pa_cons (pv 1) pa_nil)) pe_int (nomark _)) (pss_one (ps_ret (pe_callTy call_tuple_of rfl T.n_tuple (by decide +kernel) (pa_cons (pe_op op_cat (pv 1) (pe_lst (pa_cons (pe_call G_one hr rfl T.g_one T.F_one.kp (b_one T) .nil pass0 (pa_cons (pv 0) (pa_cons (pe_lst (pa_cons (pv 9) (pa_cons (pe_tup (pa_cons pe_str (pa_cons pe_str pa_nil))) (pa_cons (pe_tup (pa_cons pe_str (pa_cons pe_str pa_nil))) pa_nil)))) pa_nil))) (pa_cons (pv 8) pa_nil)))) pa_nil)))) pss_nil)
      (pss_one (ps_ret (pe_callTy call_tuple_of rfl T.n_tuple (by decide +kernel) (pa_cons (pe_op op_cat (pv 1) (pe_lst (pa_cons (pe_call G_one hr rfl T.g_one T.F_one.kp (b_one T) .nil pass0 (pa_cons (pv 0) (pa_cons (pe_lst (pa_cons (pv 8) (pa_cons (pv 8) (pa_cons (pv 9) (pa_cons (pe_tup (pa_cons pe_str (pa_cons (pe_ifExp (pt_cmpR op_lt (pv 7) pe_int (nomark _)) (pe_op op_sub (pv 7) pe_int) pe_int) (pa_cons (pe_call G_draw (hr.mono (by decide)) rfl T.g_draw T.F_draw.kp (b_draw T) .nil pass0 (pa_cons (pv 0) (pa_cons pe_int pa_nil))) pa_nil)))) pa_nil))))) pa_nil))) pa_nil))) pa_nil)))))))))), ?_⟩
    walk_at "go"
    intro F nF
    generalize hU : upd H F _ = H1
    obtain ⟨s1, W1, aF⟩ := new_ofL W nF hU
    clear hU
    have Y : Lz (Dk w g c) (10 ^ 30) w g c H1 H1 [] := Lz.nil dok_l W1
    walk_at "lay"
    have ha := Y.ls_ac (List.Mem.head _)
    refine ⟨w, g, c, _, _, rfl, Y.dk, ha, by simp, by simp, fun x H3 mx s3 W3 => ?_⟩
    have hN := fun (hA : RlA w g c HH _) => hA x mx
    obtain ⟨L, ns, rfl, aL, hR⟩ := hN (by walk_at "rla")
    clear hN mx ha
    obtain ⟨r1, r2, r3⟩ := okR_all hR
    have nLF : L ≠ F := ne_ac ((aF.go Y.go).go s3) (aL.go s3) (fun e => by
      have := HO.lst.inj e
      have := congrArg List.length this
      rw [List.length_map] at this
      simp at this
      omega)
    have Z : Zf w g c F L H H3 [] (ns.map V.int) := ⟨W3, (aF.go Y.go).go s3, aL.go s3, BpA.nil, ((Go.of s1).trans Y.go).trans s3, nF, nLF⟩
    clear Y W3 aF aL s1 s3 W1 nF nLF
    clear hR
    walk_at "go"
    refine ⟨⟨_, sqL_of Z.aL.at_⟩, ?_⟩
    refine for_it (walk_list (xs := ns.map V.int)) (fun i σ H6 => ∃ (y2 y3 y4 y5 y6 : Option V) (us : List V), σ = [some (.ref w), some (.ref F), y2, y3, y4, y5, y6, none, none, none] ∧ Zf w g c F L H H6 us (ns.map V.int) ∧ (us.length : Int) = sumT ns i)
      ⟨_, _, _, _, _, _, rfl, Z, rfl⟩ (fun j σ H6 _ pz => ?_) (fun i x σ H6 H7 hi pz y => ?_) (fun σ H6 pz => ?_)
    · obtain ⟨_, _, _, _, _, _, _, hz, _⟩ := pz
      exact sqL_of hz.aL.at_
    · clear Z
      obtain ⟨y2, y3, y4, y5, y6, us, rfl, Z, hus⟩ := pz
      obtain ⟨rfl, hx⟩ := y
      rw [List.getElem?_map] at hx
      obtain ⟨n, hn, rfl⟩ := Option.map_eq_some_iff.mp hx
      have hn1 := r3 n (List.mem_of_getElem? hn)
      have hle := sumT_le r3 (i + 1)
      rw [sumT_succ hn] at hle
      have hF := Z.aF.at_
      walk_at "go"
      refine for_it walk_range (fun k σ H8 => ∃ (y5 y6 : Option V) (ts : List V), σ = [some (.ref w), some (.ref F), y2, some (.int n), some (.int us.length), y5, y6, none, none, none] ∧ Zf w g c F L H H8 ts (ns.map V.int) ∧ ts.length = us.length + k)
        ⟨_, _, _, rfl, Z, rfl⟩ (fun _ _ _ _ _ => trivial) (fun k x σ H8 H9 hk pz y => ?_) (fun σ H8 pz => ?_)
      · clear Z hF
        obtain ⟨y5, y6, ts, rfl, Z, hts⟩ := pz
        obtain ⟨rfl, rfl⟩ := y
        walk_at "go"
        refine ⟨w, g, c, _, rfl, Z.dk, by omega, by omega, fun e1 H10 s W e10 e11 => ?_⟩
        replace Z := Z.goes s W
        clear s W
        walk_at "go"
        intro pl np
        generalize hU : upd H10 pl _ = H11
        obtain ⟨s, Z', al⟩ := Z.new np hU
        clear Z hU np s
        rename Zf _ _ _ _ _ _ _ _ _ => Z
        walk_at "go"
        refine ⟨w, g, c, _, _, rfl, Z.dk, al, by simp, by simp, fun x H12 mx s W => ?_⟩
        have hN := fun (hA : NmA 0 5 _) => hA x mx
        obtain ⟨ot, rfl, ot0, ot1⟩ := hN (by walk_at "nma")
        clear hN mx al
        replace Z := Z.goes s W
        clear s W
        have hF := Z.aF.at_
        walk_at "go"
        refine ⟨Or.inl ⟨rfl, _, sqL_of Z.aF.at_⟩, ?_⟩
        walk_at "go"
        refine ⟨w, g, c, _, rfl, Z.dk, by omega, by omega, fun e2 H13 s W e20 e21 => ?_⟩
        replace Z := Z.goes s W
        clear s W hF
        have u0 := Int.emod_nonneg (0 + (k : Int) + 1) (show n ≠ 0 by omega)
        have u1 := Int.emod_lt_of_pos (0 + (k : Int) + 1) (show 0 < n by omega)
        walk_at "go"
        intro pt np
        generalize hU : upd H13 pt _ = H14
        obtain ⟨s, Z', at14⟩ := Z.new np hU
        clear Z hU np s
        rename Zf _ _ _ _ _ _ _ _ _ => Z
        have b3 : BpA 800 1 w g H14 [.str (Str.ofString "take"), .int (1 + e2), .int ((us.length : Int) + (0 + (k : Int) + 1) % n), .int ot] := .cons ((Bp.str (by decide +kernel)).mono (by decide) (by decide)) (.cons ((Bp.int (small30 (by omega))).mono (by decide) (by decide)) (.cons ((Bp.int (small30 (by omega))).mono (by decide) (by decide)) (.cons ((Bp.int (small30 (by omega))).mono (by decide) (by decide)) .nil)))
        have bt := (b3.tup at14.at_).mono (show 4 * (800 + 1) ≤ 3400 by decide) (show 1 + 1 ≤ 2 by decide)
        clear b3 at14
        walk_at "go"
        refine ⟨F, _, _, rfl, rfl, Z.aF.at_, szl2 (by omega), ?_⟩
        generalize hU : upd H14 F _ = H15
        replace Z := Z.snoc bt hU
        clear hU bt
        walk_at "go"
        exact ⟨_, _, _, rfl, Z, by rw [List.length_append, hts]; rfl⟩
      · clear Z hF
        obtain ⟨y5, y6, ts, rfl, Z, hts⟩ := pz
        exact ⟨_, _, _, _, _, _, rfl, Z, by rw [sumT_succ hn, hts]; omega⟩
    · clear Z
      obtain ⟨y2, y3, y4, y5, y6, us, rfl, Z, hus⟩ := pz
      rw [List.length_map] at hus
      have hle := sumT_le r3 ns.length
      clear r3
      walk_at "go"
      intro pl np
      generalize hU : upd H6 pl _ = H7
      obtain ⟨s, Z', al⟩ := Z.new np hU
      clear Z hU np s
      rename Zf _ _ _ _ _ _ _ _ _ => Z
      walk_at "go"
      refine ⟨w, g, c, _, _, rfl, Z.dk, al, by simp, by simp, fun x H8 mx s W => ?_⟩
      have hN := fun (hA : NmA 2 6 _) => hA x mx
      obtain ⟨m, rfl, m0, m1⟩ := hN (by walk_at "nma")
      clear hN mx al
      replace Z := Z.goes s W
      clear s W
      walk_at "go"
      intro pE np
      generalize hU : upd H8 pE _ = H9
      obtain ⟨s, Z', aE⟩ := Z.new np hU
      clear Z hU np s
      rename Zf _ _ _ _ _ _ _ _ _ => Z
      have b3 : BpA 1100 1 w g H9 [.str (Str.ofString "end"), .str (Str.ofString "yes")] := .cons ((Bp.str (by decide +kernel)).mono (by decide) (by decide)) (.cons ((Bp.str (by decide +kernel)).mono (by decide) (by decide)) .nil)
      have bE := (b3.tup aE.at_).mono (show 2 * (1100 + 1) ≤ 3400 by decide) (show 1 + 1 ≤ 2 by decide)
      clear b3 aE
      walk_at "go"
      intro D nD
      have f := Z.dk.fresh nD
      refine lc_it walk_range (fun i H2 => ∃ ns : List Int, H2 D = some (.lst (ns.map V.int)) ∧ ns.length = i ∧ (∀ n ∈ ns, 0 ≤ n ∧ n < 6) ∧ Go w g H9 H2 ∧ Dk w g c H2) ⟨[], upd_same, rfl, (fun _ h => by cases h), Go.of (same_new nD), Z.dk.same (same_new nD)⟩
        (fun _ _ _ _ => trivial) (fun i x H2 H3 hi p y => ?_) (fun H2 p => ?_)
      · obtain ⟨ns, hD, hl, hn, S, W2⟩ := p
        obtain ⟨rfl, rfl⟩ := y
        walk_at "go"
        refine ⟨w, g, c, _, rfl, W2, by omega, by omega, fun e H9 s9 W9 e0 e1 => ?_⟩
        exact ⟨_, s9 _ _ f.1 f.2.1 hD, szl2 (by rw [List.length_map]; omega), ns ++ [e], by rw [upd_same, List.map_append]; rfl, by simp [hl], fun n h => (List.mem_append.mp h).elim (hn n) (fun h => by rw [List.mem_singleton.mp h]; exact ⟨e0, e1⟩), go_upd' (S.trans s9) nD, W9.upd f.1 f.2.1 f.2.2⟩
      · obtain ⟨rs, hD, hl, hn, S, W2⟩ := p
        replace bE := bE.go Z.tups S
        replace Z := Z.goes S W2
        clear S W2
        walk_at "go"
        refine ⟨D, _, rfl, .inl ⟨sqL_of hD, fun p1 np1 => ?_⟩⟩
        generalize hU1 : upd H2 p1 _ = H3
        obtain ⟨s, Z', ap1⟩ := Z.new np1 hU1
        replace bE := bE.go Z.tups (Go.of s)
        clear Z hU1 np1 s hD nD f
        rename Zf _ _ _ _ _ _ _ _ _ => Z
        walk_at "go"
        intro p2 np2
        generalize hU2 : upd H3 p2 _ = H4
        obtain ⟨s, Z', ap2⟩ := Z.new np2 hU2
        replace bE := bE.go Z.tups (Go.of s)
        replace ap1 := ap1.same s
        clear Z hU2 np2 s
        rename Zf _ _ _ _ _ _ _ _ _ => Z
        have b1 : BpA 127 0 w g H4 (rs.map V.int) := bpa_ints fun n h => by
          have := hn n h
          have : n.natAbs ≤ 100 := by omega
          exact Nat.le_trans this (by decide)
        have b2 := b1.tup ap1.at_
        rw [List.length_map] at b2
        have b3 : BpA 1100 1 w g H4 [.str (Str.ofString "rest"), .int m, .ref p1] := .cons ((Bp.str (by decide +kernel)).mono (by decide) (by decide)) (.cons ((Bp.int (small30 (by omega))).mono (by decide) (by decide)) (.cons (b2.mono (by omega) (by decide)) .nil))
        have bR := (b3.tup ap2.at_).mono (show 3 * (1100 + 1) ≤ 3400 by decide) (show 1 + 1 ≤ 2 by decide)
        clear b1 b2 b3 ap1 ap2 hn
        have hF := Z.aF.at_
        walk_at "go"
        refine ifD (fun e4 => ?_) (fun n4 => ?_)
        · replace e4 := V.int.inj e4
          walk_at "go"
          intro pa np
          generalize hU : upd H4 pa _ = H5
          obtain ⟨s, Z', aa⟩ := Z.new np hU
          replace bE := bE.go Z.tups (Go.of s)
          replace bR := bR.go Z.tups (Go.of s)
          clear Z hU np s
          rename Zf _ _ _ _ _ _ _ _ _ => Z
          have b3 : BpA 1100 1 w g H5 [.str (Str.ofString "end"), .str (Str.ofString "no")] := .cons ((Bp.str (by decide +kernel)).mono (by decide) (by decide)) (.cons ((Bp.str (by decide +kernel)).mono (by decide) (by decide)) .nil)
          have bN := (b3.tup aa.at_).mono (show 2 * (1100 + 1) ≤ 3400 by decide) (show 1 + 1 ≤ 2 by decide)
          clear b3 aa
          walk_at "go"
          intro pb np
          generalize hU : upd H5 pb _ = H6
          obtain ⟨s, Z', ab⟩ := Z.new np hU
          replace bE := bE.go Z.tups (Go.of s)
          replace bR := bR.go Z.tups (Go.of s)
          replace bN := bN.go Z.tups (Go.of s)
          clear Z hU np s
          rename Zf _ _ _ _ _ _ _ _ _ => Z
          have b3 : BpA 1100 1 w g H6 [.str (Str.ofString "end"), .str (Str.ofString "no")] := .cons ((Bp.str (by decide +kernel)).mono (by decide) (by decide)) (.cons ((Bp.str (by decide +kernel)).mono (by decide) (by decide)) .nil)
          have bM := (b3.tup ab.at_).mono (show 2 * (1100 + 1) ≤ 3400 by decide) (show 1 + 1 ≤ 2 by decide)
          clear b3 ab
          walk_at "go"
          intro pL np
          generalize hU : upd H6 pL _ = HL
          obtain ⟨s, Z', aL⟩ := Z.new np hU
          replace bE := bE.go Z.tups (Go.of s)
          replace bR := bR.go Z.tups (Go.of s)
          replace bN := bN.go Z.tups (Go.of s)
          replace bM := bM.go Z.tups (Go.of s)
          clear Z hU np s
          rename Zf _ _ _ _ _ _ _ _ _ => Z
          have bA : BpA 3400 2 w g HL _ := .cons bR (.cons bN (.cons bM (.nil)))
          walk_at "go"
          refine ⟨w, g, c, _, _, rfl, Z.dk, aL, by simp, by simp, fun x HM mx s W => ?_⟩
          have bx := (bA x mx).go Z.tups s
          replace bE := bE.go Z.tups s
          replace Z := Z.goes s W
          clear s W mx aL bA
          walk_at "go"
          intro pM np
          generalize hU : upd HM pM _ = HN
          obtain ⟨s, Z', aM⟩ := Z.new np hU
          replace bE := bE.go Z.tups (Go.of s)
          replace bx := bx.go Z.tups (Go.of s)
          clear Z hU np s
          rename Zf _ _ _ _ _ _ _ _ _ => Z
          refine ⟨F, pM, _, _, rfl, rfl, Z.aF.at_, aM.at_, szl3 (by simp only [List.length_cons, List.length_nil]; omega), ?_⟩
          intro pC np
          generalize hU : upd HN pC _ = HO
          obtain ⟨s, Z', aC⟩ := Z.new np hU
          replace bE := bE.go Z.tups (Go.of s)
          replace bx := bx.go Z.tups (Go.of s)
          clear Z hU np s
          rename Zf _ _ _ _ _ _ _ _ _ => Z
          walk_at "go"
          refine ⟨pC, _, rfl, .inl ⟨sqL_of aC.at_, fun pT np => ?_⟩⟩
          generalize hU : upd HO pT _ = HP
          obtain ⟨s, Z', aT⟩ := Z.new np hU
          replace bE := bE.go Z.tups (Go.of s)
          replace bx := bx.go Z.tups (Go.of s)
          clear Z hU np s
          rename Zf _ _ _ _ _ _ _ _ _ => Z
          walk_at "go"
          have bZ : BpA 3400 2 w g HP _ := fun v hv => (List.mem_append.mp hv).elim (Z.bu v) (((BpA.nil.snoc bx).snoc bE : BpA 3400 2 w g HP _) v)
          exact q _ _ _ Z.go Z.dk aT.at_ bZ (by simp only [List.length_append, List.length_cons, List.length_nil]; omega) (by simp only [List.length_append, List.length_cons, List.length_nil]; omega)
        · walk_at "go"
          refine ifD (fun _ => ?_) (fun _ => ?_)
          · walk_at "go"
            refine ⟨w, g, c, _, rfl, Z.dk, by omega, by omega, fun e HA s W e0 e1 => ?_⟩
            replace bE := bE.go Z.tups s
            replace bR := bR.go Z.tups s
            replace Z := Z.goes s W
            clear s W
            walk_at "go"
            intro pa np
            generalize hU : upd HA pa _ = HB
            obtain ⟨s, Z', aa⟩ := Z.new np hU
            replace bE := bE.go Z.tups (Go.of s)
            replace bR := bR.go Z.tups (Go.of s)
            clear Z hU np s
            rename Zf _ _ _ _ _ _ _ _ _ => Z
            have b3 : BpA 1100 1 w g HB [.str (Str.ofString "add"), .int (m - 1), .int e] := .cons ((Bp.str (by decide +kernel)).mono (by decide) (by decide)) (.cons ((Bp.int (small30 (by omega))).mono (by decide) (by decide)) (.cons ((Bp.int (small30 (by omega))).mono (by decide) (by decide)) .nil))
            have bN := (b3.tup aa.at_).mono (show 3 * (1100 + 1) ≤ 3400 by decide) (show 1 + 1 ≤ 2 by decide)
            clear b3 aa
            walk_at "go"
            intro pL np
            generalize hU : upd HB pL _ = HL
            obtain ⟨s, Z', aL⟩ := Z.new np hU
            replace bE := bE.go Z.tups (Go.of s)
            replace bR := bR.go Z.tups (Go.of s)
            replace bN := bN.go Z.tups (Go.of s)
            clear Z hU np s
            rename Zf _ _ _ _ _ _ _ _ _ => Z
            have bA : BpA 3400 2 w g HL _ := .cons bE (.cons bE (.cons bR (.cons bN (.nil))))
            walk_at "go"
            refine ⟨w, g, c, _, _, rfl, Z.dk, aL, by simp, by simp, fun x HM mx s W => ?_⟩
            have bx := (bA x mx).go Z.tups s
            replace bE := bE.go Z.tups s
            replace Z := Z.goes s W
            clear s W mx aL bA
            walk_at "go"
            intro pM np
            generalize hU : upd HM pM _ = HN
            obtain ⟨s, Z', aM⟩ := Z.new np hU
            replace bE := bE.go Z.tups (Go.of s)
            replace bx := bx.go Z.tups (Go.of s)
            clear Z hU np s
            rename Zf _ _ _ _ _ _ _ _ _ => Z
            refine ⟨F, pM, _, _, rfl, rfl, Z.aF.at_, aM.at_, szl3 (by simp only [List.length_cons, List.length_nil]; omega), ?_⟩
            intro pC np
            generalize hU : upd HN pC _ = HO
            obtain ⟨s, Z', aC⟩ := Z.new np hU
            replace bE := bE.go Z.tups (Go.of s)
            replace bx := bx.go Z.tups (Go.of s)
            clear Z hU np s
            rename Zf _ _ _ _ _ _ _ _ _ => Z
            walk_at "go"
            refine ⟨pC, _, rfl, .inl ⟨sqL_of aC.at_, fun pT np => ?_⟩⟩
            generalize hU : upd HO pT _ = HP
            obtain ⟨s, Z', aT⟩ := Z.new np hU
            replace bE := bE.go Z.tups (Go.of s)
            replace bx := bx.go Z.tups (Go.of s)
            clear Z hU np s
            rename Zf _ _ _ _ _ _ _ _ _ => Z
            walk_at "go"
            have bZ : BpA 3400 2 w g HP _ := fun v hv => (List.mem_append.mp hv).elim (Z.bu v) ((BpA.nil.snoc bx : BpA 3400 2 w g HP _) v)
            exact q _ _ _ Z.go Z.dk aT.at_ bZ (by simp only [List.length_append, List.length_cons, List.length_nil]; omega) (by simp only [List.length_append, List.length_cons, List.length_nil]; omega)
          · walk_at "go"
            refine ⟨w, g, c, _, rfl, Z.dk, by omega, by omega, fun e HA s W e0 e1 => ?_⟩
            replace bE := bE.go Z.tups s
            replace bR := bR.go Z.tups s
            replace Z := Z.goes s W
            clear s W
            walk_at "go"
            intro pa np
            generalize hU : upd HA pa _ = HB
            obtain ⟨s, Z', aa⟩ := Z.new np hU
            replace bE := bE.go Z.tups (Go.of s)
            replace bR := bR.go Z.tups (Go.of s)
            clear Z hU np s
            rename Zf _ _ _ _ _ _ _ _ _ => Z
            have b3 : BpA 1100 1 w g HB [.str (Str.ofString "add"), .int (1), .int e] := .cons ((Bp.str (by decide +kernel)).mono (by decide) (by decide)) (.cons ((Bp.int (small30 (by omega))).mono (by decide) (by decide)) (.cons ((Bp.int (small30 (by omega))).mono (by decide) (by decide)) .nil))
            have bN := (b3.tup aa.at_).mono (show 3 * (1100 + 1) ≤ 3400 by decide) (show 1 + 1 ≤ 2 by decide)
            clear b3 aa
            walk_at "go"
            intro pL np
            generalize hU : upd HB pL _ = HL
            obtain ⟨s, Z', aL⟩ := Z.new np hU
            replace bE := bE.go Z.tups (Go.of s)
            replace bR := bR.go Z.tups (Go.of s)
            replace bN := bN.go Z.tups (Go.of s)
            clear Z hU np s
            rename Zf _ _ _ _ _ _ _ _ _ => Z
            have bA : BpA 3400 2 w g HL _ := .cons bE (.cons bE (.cons bR (.cons bN (.nil))))
            walk_at "go"
            refine ⟨w, g, c, _, _, rfl, Z.dk, aL, by simp, by simp, fun x HM mx s W => ?_⟩
            have bx := (bA x mx).go Z.tups s
            replace bE := bE.go Z.tups s
            replace Z := Z.goes s W
            clear s W mx aL bA
            walk_at "go"
            intro pM np
            generalize hU : upd HM pM _ = HN
            obtain ⟨s, Z', aM⟩ := Z.new np hU
            replace bE := bE.go Z.tups (Go.of s)
            replace bx := bx.go Z.tups (Go.of s)
            clear Z hU np s
            rename Zf _ _ _ _ _ _ _ _ _ => Z
            refine ⟨F, pM, _, _, rfl, rfl, Z.aF.at_, aM.at_, szl3 (by simp only [List.length_cons, List.length_nil]; omega), ?_⟩
            intro pC np
            generalize hU : upd HN pC _ = HO
            obtain ⟨s, Z', aC⟩ := Z.new np hU
            replace bE := bE.go Z.tups (Go.of s)
            replace bx := bx.go Z.tups (Go.of s)
            clear Z hU np s
            rename Zf _ _ _ _ _ _ _ _ _ => Z
            walk_at "go"
            refine ⟨pC, _, rfl, .inl ⟨sqL_of aC.at_, fun pT np => ?_⟩⟩
            generalize hU : upd HO pT _ = HP
            obtain ⟨s, Z', aT⟩ := Z.new np hU
            replace bE := bE.go Z.tups (Go.of s)
            replace bx := bx.go Z.tups (Go.of s)
            clear Z hU np s
            rename Zf _ _ _ _ _ _ _ _ _ => Z
            walk_at "go"
            have bZ : BpA 3400 2 w g HP _ := fun v hv => (List.mem_append.mp hv).elim (Z.bu v) ((BpA.nil.snoc bx : BpA 3400 2 w g HP _) v)
            exact q _ _ _ Z.go Z.dk aT.at_ bZ (by simp only [List.length_append, List.length_cons, List.length_nil]; omega) (by simp only [List.length_append, List.length_cons, List.length_nil]; omega)
def spProg4 : Sp := spProg
theorem ok_lany : FnOk P wd K mg base CX0 5 T.a_lany T.d_lany ["_law_deck_here"] spProg := by
  have G_draw : FnOk P wd K mg base CX0 1 T.a_draw T.d_draw ["_law_deck_here", "_law_many"] spDraw := ok_draw T
  have G_program : FnOk P wd K mg base CX0 4 T.a_program T.d_program ["_law_deck_here"] spProg := ok_program T
  have G_loops : FnOk P wd K mg base CX0 3 T.a_loops T.d_loops ["_law_deck_here"] spProg := ok_loops T
  refine T.F_lany.ok sc_lany (fun vs H Q E h => ?_) (fun cdv A outer s H vs Q E hr h => ?_)
  · obtain ⟨w, g, c, rfl, _⟩ := h
    rfl
  · obtain ⟨w, g, c, rfl, W, q⟩ := h
    refine ⟨_, (pss_one (ps_ret (pe_ifExp (pt_cmpR op_eq (pe_call G_draw (hr.mono (by decide)) rfl T.g_draw T.F_draw.kp (b_draw T) .nil pass0 (pa_cons (pv 0) (pa_cons pe_int pa_nil))) pe_int (nomark _)) (pe_call G_loops (hr.mono (by decide)) rfl T.g_loops T.F_loops.kp (b_loops T) .nil pass0 (pa_cons (pv 0) pa_nil)) (pe_call G_program hr rfl T.g_program T.F_program.kp (b_program T) .nil pass0 (pa_cons (pv 0) pa_nil))))), ?_⟩
    walk_at "go"
    refine ⟨w, g, c, _, rfl, W, by omega, by omega, fun e H1 s1 W1 e0 e1 => ?_⟩
    walk_at "go"
    refine ifD (fun _ => ?_) (fun _ => ?_)
    · walk_at "go"
      refine ⟨w, g, c, rfl, W1, fun a xs H2 s2 W2 => ?_⟩
      exact q a xs H2 (s1.trans s2) W2
    · walk_at "go"
      refine ⟨w, g, c, rfl, W1, fun a xs H2 s2 W2 => ?_⟩
      exact q a xs H2 (s1.trans s2) W2
end
set_option pp.deepTerms false
set_option pp.deepTerms.threshold 5
section
variable {P : Program} {wd : World} {K : PySem.W.Frag} {mg : Str → Option Value} {base : Heap} (T : Tp K mg)
def spNo : Sp := fun _ _ _ _ => False
theorem ok_no {L : Nat} {a : Addr} {d : FuncData} {ps : List Str} : FnOk P wd K mg base CX0 L a d ps spNo :=
  ⟨fun vs H Q E h => h.elim, fun A ou s H args us vs Q E _ _ _ _ h => h.elim⟩
def answ : List Str := [("yes" : Str), ("no" : Str), ("never" : Str)]
def noneD : PyData → Bool
  | .none => true
  | _ => false
theorem res_cases (m : Int) {f : PyData} (hf : f = .none ∨ ∃ e, f = .tuple e) : ∀ (i : Nat) (ds : List PyData), resFrom m f i ds = .none ∨ ∃ e, resFrom m f i ds = .tuple e
  | _, [] => hf
  | i, d :: ds => by
    show (if stepD m d = true then resFrom m f (i + 1) ds else .tuple [.int (i : Nat), .str ("step" : Str)]) = _ ∨ _
    by_cases h : stepD m d = true
    · rw [if_pos h]
      have := res_cases m hf (i + 1) ds
      rcases this with e | ⟨e, h2⟩
      · exact .inl e
      · exact .inr ⟨e, by show (if stepD m d = true then resFrom m f (i + 1) ds else _) = _; rw [if_pos h]; exact h2⟩
    · exact .inr ⟨_, by show (if stepD m d = true then resFrom m f (i + 1) ds else _) = _; rw [if_neg h]⟩
theorem resP_cases (d : PyData) : resP d = .none ∨ ∃ e, resP d = .tuple e := by
  unfold resP
  split
  · split
    · refine res_cases _ ?_ _ _
      unfold finD
      split
      · exact .inr ⟨_, rfl⟩
      · exact .inl rfl
    · exact .inr ⟨_, rfl⟩
  · exact .inr ⟨_, rfl⟩
theorem none_res {w g : Addr} {H : Hp} {x : V} {d : PyData} (t : Th w g H x (resP d)) : decide (x = .non) = noneD (resP d) := by
  rcases resP_cases d with e | ⟨e, h⟩
  · rw [e] at t ⊢
    cases t
    rfl
  · rw [h] at t ⊢
    cases t
    rfl
def fitsD (d dx : PyData) : Bool := noneD (resP d) && answ.any (isSD dx)
def spFits : Sp := fun vs H Q _ => ∃ (w g : Addr) (v x : V) (d dx : PyData), vs = [.str (Str.ofString "program"), v, x] ∧ Th w g H v d ∧ d.weight ≤ 300000 ∧ Th w g H x dx ∧ ∀ H', Same H H' → Q (.bl (fitsD d dx)) H'
theorem ok_fits_two : FnOk P wd K mg base CX0 5 T.a_fits_two T.d_fits_two ["kind", "item", "other"] spFits := by
  have G_book_error : FnOk P wd K mg base CX0 1 T.a_book_error T.d_book_error ["value"] spNo := ok_no
  have G_rule_error : FnOk P wd K mg base CX0 1 T.a_rule_error T.d_rule_error ["value"] spNo := ok_no
  have G_saying_error : FnOk P wd K mg base CX0 4 T.a_saying_error T.d_saying_error ["value"] spNo := ok_no
  have G_is_over : FnOk P wd K mg base CX0 1 T.a_is_over T.d_is_over ["saying", "many"] spNo := ok_no
  have G_is_whole : FnOk P wd K mg base CX0 1 T.a_is_whole T.d_is_whole ["value", "low", "high"] spWhole := ok_is_whole T
  have G_program_error : FnOk P wd K mg base CX0 4 T.a_program_error T.d_program_error ["value"] spPErr := ok_program_error T
  refine T.F_fits_two.ok sc_fits_two (fun vs H Q E h => ?_) (fun cdv A outer s H vs Q E hr h => ?_)
  · obtain ⟨w, g, v, x, d, dx, rfl, _⟩ := h
    rfl
  · have hu4 : (cxOf CX0 P wd K mg base nm_fits_two "_fits_two" (defScope s_fits_two) T.a_fits_two cdv A outer s H E).A.units + 64 < cLine := hr.units
    obtain ⟨w, g, v, x, d, dx, rfl, t, wt, tx, q⟩ := h
    refine ⟨_, (pss_cons (ps_if (pt_cmpR op_eq (pv 0) pe_str (nomark _)) (pss_one (ps_ret (pe_and (pe_cmpR op_isN (pe_call G_book_error (hr.mono (by decide)) rfl T.g_book_error T.F_book_error.kp (b_book_error T) .nil pass0 (pa_cons (pv 1) pa_nil)) pe_non (nomark _)) (pe_one (pe_call G_is_whole (hr.mono (by decide)) rfl T.g_is_whole T.F_is_whole.kp (b_is_whole T) .nil pass0 (pa_cons (pv 2) (pa_cons pe_int (pa_cons (pe_op op_sub (pe_ix ix_tup (pv 1) pe_int (fun _ _ => rfl)) pe_int) pa_nil)))))))) pss_nil)
      (pss_cons (ps_if (pt_cmpR op_eq (pv 0) pe_str (nomark _)) (pss_one (ps_ret (pe_and (pe_cmpR op_isN (pe_call G_program_error hr rfl T.g_program_error T.F_program_error.kp (b_program_error T) .nil pass0 (pa_cons (pv 1) pa_nil)) pe_non (nomark _)) (pe_one (pe_cmpR (op_inSX (K := K) rfl hu4) (pv 2) (pe_glob (v := .ref T.a__ANSWERS) rfl T.m__ANSWERS rfl) (by rfl)))))) pss_nil)
      (pss_cons (ps_if (pt_cmpR op_eq (pv 0) pe_str (nomark _)) (pss_one (ps_ret (pe_and (pe_cmpR op_isN (pe_call G_rule_error (hr.mono (by decide)) rfl T.g_rule_error T.F_rule_error.kp (b_rule_error T) .nil pass0 (pa_cons (pv 1) pa_nil)) pe_non (nomark _)) (pe_one (pe_call G_is_whole (hr.mono (by decide)) rfl T.g_is_whole T.F_is_whole.kp (b_is_whole T) .nil pass0 (pa_cons (pv 2) (pa_cons pe_int (pa_cons (pe_op op_sub (pe_ix ix_tup (pv 1) pe_int (fun _ _ => rfl)) pe_int) pa_nil)))))))) pss_nil)
      (pss_cons (ps_if (PW.pt (pw_or (pt_not (pt_val (pe_callB call_isi rfl T.n_isinstance (by decide +kernel) (pa_cons (pv 2) (pa_cons (pe_bltn (v := .ty "tuple") rfl T.n_tuple (by decide +kernel) rfl) pa_nil))))) (pw_or1 (pt_not (pt_chain op_le op_le pe_int (pe_callB call_len_seq rfl T.n_len PySem.boot_len (pa_cons (pv 2) pa_nil)) (pe_glob (v := .int 3) rfl T.m__MOST_INNER ⟨_, rfl⟩)))))) (pss_one (ps_ret pe_bl)) pss_nil)
      (pss_one (ps_ret (pe_and (pe_cmpR op_isN (pe_call G_saying_error hr rfl T.g_saying_error T.F_saying_error.kp (b_saying_error T) .nil pass0 (pa_cons (pv 1) pa_nil)) pe_non (nomark _)) (pe_one (pe_call G_is_over (hr.mono (by decide)) rfl T.g_is_over T.F_is_over.kp (b_is_over T) .nil pass0 (pa_cons (pv 1) (pa_cons (pe_callB call_len_seq rfl T.n_len PySem.boot_len (pa_cons (pv 2) pa_nil)) pa_nil))))))))))), ?_⟩
    walk_at "go"
    refine ⟨w, g, v, d, rfl, t, wt, fun y H1 s1 ty => ?_⟩
    have e1 := none_res ty
    walk_at "go"
    refine ifB (fun c => ?_) (fun c => ?_)
    · walk_at "go"
      refine ⟨w, g, dx, T.a__ANSWERS, answ, rfl, .inr T.q__ANSWERS, tx.same2 s1, ?_⟩
      have q1 := q H1 s1
      unfold fitsD at q1
      rw [← e1, c] at q1
      exact q1
    · have q1 := q H1 s1
      unfold fitsD at q1
      rw [← e1, c] at q1
      exact q1
def IB : List (Str × Int) := [(("table" : Str), 1), (("watches" : Str), 1), (("coins" : Str), 1), (("web" : Str), 1), (("game" : Str), 1), (("book" : Str), 2), (("program" : Str), 2), (("row" : Str), 2), (("saying" : Str), 2)]
def spWrong : Sp := fun vs H Q _ => ∃ (w g a b : Addr) (v x : V) (d dx : PyData), vs = [.ref a, .ref b] ∧ H a = some (.tup []) ∧ H b = some (.tup [.str (Str.ofString "program"), v, x]) ∧ Th w g H v d ∧ d.weight ≤ 300000 ∧ Th w g H x dx ∧
  ∀ H', Same H H' → Q (if fitsD d dx = true then .non else .str (Str.ofString "program")) H'
theorem ok_wrong_word (hwd : wd.params = T.pr) : FnOk P wd K mg base CX0 6 T.a_wrong_word T.d_wrong_word ["path", "thing"] spWrong := by
  have G_fits_one : FnOk P wd K mg base CX0 5 T.a_fits_one T.d_fits_one ["kind", "item"] spNo := ok_no
  have G_fits_two : FnOk P wd K mg base CX0 5 T.a_fits_two T.d_fits_two ["kind", "item", "other"] spFits := ok_fits_two T
  refine T.F_wrong_word.ok sc_wrong_word (fun vs H Q E h => ?_) (fun cdv A outer s H vs Q E hr h => ?_)
  · obtain ⟨w, g, a, b, v, x, d, dx, rfl, _⟩ := h
    rfl
  · have hu4 : (cxOf CX0 P wd K mg base nm_wrong_word "_wrong_word" (defScope s_wrong_word) T.a_wrong_word cdv A outer s H E).A.units + 64 < cLine := hr.units
    obtain ⟨w, g, a, b, v, x, d, dx, rfl, ha, hb, t, wt, tx, q⟩ := h
    refine ⟨_, (pss_cons (ps_if (pt_cmpR op_gt (pe_callB call_len_seq rfl T.n_len PySem.boot_len (pa_cons (pv 0) pa_nil)) (pe_glob (v := .int 2) rfl T.m__MOST_PATH ⟨_, rfl⟩) (nomark _)) (pss_one (ps_ret pe_str)) pss_nil)
      (pss_cons (ps_if (PW.pt (pw_or (pt_not (pt_val (pe_callB call_isi rfl T.n_isinstance (by decide +kernel) (pa_cons (pv 1) (pa_cons (pe_bltn (v := .ty "tuple") rfl T.n_tuple (by decide +kernel) rfl) pa_nil))))) (pw_or (pt_cmpR op_eq (pe_callB call_len_seq rfl T.n_len PySem.boot_len (pa_cons (pv 1) pa_nil)) pe_int (nomark _)) (pw_or1 (pt_not (pt_val (pe_callB call_isi rfl T.n_isinstance (by decide +kernel) (pa_cons (pe_ix ix_tup (pv 1) pe_int (fun _ _ => rfl)) (pa_cons (pe_bltn (v := .ty "str") rfl T.n_str (by decide +kernel) rfl) pa_nil))))))))) (pss_one (ps_ret pe_str)) pss_nil)
      (pss_cons (ps_set (i := 2) sc_wrong_word.nd rfl (Or.inl rfl) (pe_ix ix_tup (pv 1) pe_int (fun _ _ => rfl)))
      (pss_cons (ps_if (PW.pt (pw_or (pt_cmpR (op_notIn_kd (T.D__ITEMS_BEHIND _ hwd)) (pv 2) (pe_glob (v := .ref T.a__ITEMS_BEHIND) rfl T.m__ITEMS_BEHIND rfl) (by rfl)) (pw_or1 (pt_cmpR op_ne (pe_callB call_len_seq rfl T.n_len PySem.boot_len (pa_cons (pv 1) pa_nil)) (pe_op op_add (pe_ix ix_kdict (pe_glob (v := .ref T.a__ITEMS_BEHIND) rfl T.m__ITEMS_BEHIND rfl) (pv 2) (fun _ _ => rfl)) pe_int) (nomark _))))) (pss_one (ps_ret pe_str)) pss_nil)
      (pss_cons (ps_set (i := 3) sc_wrong_word.nd rfl (Or.inl rfl) (pe_ifExp (pt_cmpR op_eq (pe_callB call_len_seq rfl T.n_len PySem.boot_len (pa_cons (pv 1) pa_nil)) pe_int (nomark _)) (pe_call G_fits_one hr rfl T.g_fits_one T.F_fits_one.kp (b_fits_one T) .nil pass0 (pa_cons (pv 2) (pa_cons (pe_ix ix_tup (pv 1) pe_int (fun _ _ => rfl)) pa_nil))) (pe_call G_fits_two hr rfl T.g_fits_two T.F_fits_two.kp (b_fits_two T) .nil pass0 (pa_cons (pv 2) (pa_cons (pe_ix ix_tup (pv 1) pe_int (fun _ _ => rfl)) (pa_cons (pe_ix ix_tup (pv 1) pe_int (fun _ _ => rfl)) pa_nil))))))
      (pss_one (ps_ret (pe_ifExp (pt_val (pv 3)) pe_non (pv 2))))))))), ?_⟩
    obtain ⟨r, hr1, hr2⟩ := T.L__ITEMS_BEHIND (Str.ofString "program")
    replace hr2 : match IB.lookup (Str.ofString "program") with | none => r = none | some k => ∃ t, r = some (.int k t) := hr2
    rw [show IB.lookup (Str.ofString "program") = some 2 by decide +kernel] at hr2
    obtain ⟨t0, rfl⟩ := hr2
    have hK := T.D__ITEMS_BEHIND wd hwd
    have tT : Th w g H (.ref b) (.tuple [.str (Str.ofString "program"), d, dx]) := .tup hb (.cons (.str _) (.cons t (.cons tx .nil)))
    obtain ⟨ty, h1, h2⟩ := tT.isTup (K := K)
    obtain ⟨ty3, h3, h4⟩ := (Th.str (w := w) (g := g) (H := H) (Str.ofString "program")).isStr (K := K)
    walk_at "go"
    refine ⟨_, _, ty, _, _, rfl, .ty "tuple", h1, h2, ?_⟩
    refine ⟨_, rfl, ?_⟩
    refine ifB (fun c => by cases c) (fun _ => ?_)
    walk_at "go"
    refine ⟨_, _, ty3, _, _, rfl, .ty "str", h3, h4, ?_⟩
    refine ⟨_, rfl, ?_⟩
    refine ifB (fun c => by cases c) (fun _ => ?_)
    walk_at "go"
    refine ⟨_, _, rfl, rfl, hr1, ?_⟩
    refine ⟨_, rfl, ?_⟩
    refine ifB (fun c => by cases c) (fun _ => ?_)
    walk_at "go"
    refine ⟨T.a__ITEMS_BEHIND, _, .int 2, rfl, rfl, ⟨T.es__ITEMS_BEHIND, T.n__ITEMS_BEHIND, _, hK.at_, hK.lit, hr1, ⟨t0, rfl⟩⟩, ?_⟩
    walk_at "go"
    refine ⟨w, g, v, x, d, dx, rfl, t, wt, tx, fun H1 s1 => ?_⟩
    have q1 := q H1 s1
    cases hf : fitsD d dx with
    | true =>
      rw [hf, if_pos rfl] at q1
      walk_at "go"
      exact q1
    | false =>
      rw [hf, if_neg (by decide)] at q1
      walk_at "go"
      exact q1
theorem op_catAK {X : Cx} {K : PySem.W.Frag} (hK : X.K = K) : OpR X (binaryOp .Add) (rCatA K) := by
  subst hK
  exact op_catA
def mkD (d dx : PyData) : PyData := if fitsD d dx = true then .none else .tuple [.tuple [], .str (Str.ofString "program")]
def spMak : Sp := fun vs H Q _ => ∃ (w g b : Addr) (v x : V) (d dx : PyData), vs = [.ref b] ∧ H b = some (.tup [.str (Str.ofString "program"), v, x]) ∧ Th w g H v d ∧ d.weight ≤ 300000 ∧ Th w g H x dx ∧
  ∀ y H', Same H H' → Th w g H' y (mkD d dx) → Q y H'
theorem ok_maker_error (hwd : wd.params = T.pr) : FnOk P wd K mg base CX0 7 T.a_maker_error T.d_maker_error ["value"] spMak := by
  have G_wrong_word : FnOk P wd K mg base CX0 6 T.a_wrong_word T.d_wrong_word ["path", "thing"] spWrong := ok_wrong_word T hwd
  refine T.F_maker_error.ok sc_maker_error (fun vs H Q E h => ?_) (fun cdv A outer s H vs Q E hr h => ?_)
  · obtain ⟨w, g, b, v, x, d, dx, rfl, _⟩ := h
    rfl
  · have hu4 : (cxOf CX0 P wd K mg base nm_maker_error "maker_error" (defScope s_maker_error) T.a_maker_error cdv A outer s H E).A.units + 64 < cLine := hr.units
    obtain ⟨w, g, b, v, x, d, dx, rfl, hb, t, wt, tx, q⟩ := h
    refine ⟨_, (pss_cons (ps_set (i := 1) sc_maker_error.nd rfl (Or.inl rfl) (pe_lst (pa_cons (pe_tup (pa_cons (pe_tup pa_nil) (pa_cons (pv 0) pa_nil))) pa_nil)))
      (pss_cons (ps_set (i := 2) sc_maker_error.nd rfl (Or.inl rfl) pe_int)
      (pss_cons (ps_while PassesOwn.never (pt_truth (pv 1) (by intro _; rfl)) (pss_cons (ps_asg (pe_bm0 PySem.F.plainAttrs_list PySem.F.slot_list_pop PySem.F.type_list_pop mt_pop (pv 1)) (pg_tup rfl (pgs_cons (pg_name (i := 3) sc_maker_error.nd rfl (Or.inr rfl)) (pgs_cons (pg_name (i := 4) sc_maker_error.nd rfl (Or.inl rfl)) pgs_nil))))
      (pss_cons (ps_aug (i := 2) sc_maker_error.nd rfl (Or.inl rfl) pe_int ip_add)
      (pss_cons (ps_set (i := 5) sc_maker_error.nd rfl (Or.inl rfl) (pe_ifExp (pt_cmpR op_gt (pv 2) (pe_glob (v := .int 9) rfl T.m__MOST_MAKERS ⟨_, rfl⟩) (nomark _)) pe_str (pe_call G_wrong_word hr rfl T.g_wrong_word T.F_wrong_word.kp (b_wrong_word T) .nil pass0 (pa_cons (pv 3) (pa_cons (pv 4) pa_nil)))))
      (pss_cons (ps_if (pt_cmpR op_notN (pv 5) pe_non (nomark _)) (pss_one (ps_ret (pe_tup (pa_cons (pv 3) (pa_cons (pv 5) pa_nil))))) pss_nil)
      (pss_one (ps_if (pt_cmpR op_eq (pe_ix ix_tup (pv 4) pe_int (fun _ _ => rfl)) pe_str (nomark _)) (pss_cons (ps_setLc (i := 6) (own := [("place", 7), ("part", 8)]) (g := gTup K 2 (gCons (gName 7) (gCons (gName 8) gNil))) rfl sc_maker_error.nd rfl rfl (sw_true rfl rfl rfl (by decide +kernel)) (pi_enum rfl T.n_enumerate (pa_cons (pe_ix (ix_tupK (K := K) rfl) (pv 4) pe_int (fun _ _ => rfl)) pa_nil)) (blkOk_by (N := nm_maker_error) (sc := defScope s_maker_error) (by decide +kernel)) (fun _ _ _ _ _ => pg_tup rfl (pgs_cons (pg_name (i := 7) sc_maker_error.nd rfl (Or.inl rfl) (Or.inr rfl)) (pgs_cons (pg_name (i := 8) sc_maker_error.nd rfl (Or.inl rfl) (Or.inr rfl)) pgs_nil))) (fun _ _ _ _ _ => pts_nil) (fun _ _ _ _ _ => (pe_tup (pa_cons (pe_op (op_catAK (K := K) rfl) (pv 3) (pe_tup (pa_cons (pv 7) pa_nil))) (pa_cons (pv 8) pa_nil)))))
      (pss_one (ps_set (i := 1) sc_maker_error.nd rfl (Or.inl rfl) (pe_op op_cat (pv 1) (pe_revL (pv 6)))))) pss_nil)))))))
      (pss_one (ps_ret pe_non))))), ?_⟩
    walk_at "go"
    intro p1 np1
    generalize hU1 : upd H p1 _ = H1
    obtain ⟨s1, a1⟩ := new_of0 np1 hU1
    walk_at "go"
    intro p2 np2
    generalize hU2 : upd H1 p2 _ = H2
    obtain ⟨s2, a2⟩ := new_of0 np2 hU2
    walk_at "go"
    intro LW np3
    generalize hU3 : upd H2 LW _ = H3
    obtain ⟨s3, aW⟩ := new_of0 np3 hU3
    have nW : H LW = none := by
      cases e : H LW with
      | none => rfl
      | some o => rw [s2 _ _ (s1 _ _ e)] at np3; cases np3
    have S := (s1.trans s2).trans s3
    have n1 : p1 ≠ LW := ne_of_none (s2 _ _ a1) np3
    have n2 : p2 ≠ LW := ne_of_none a2 np3
    replace a1 := s3 _ _ (s2 _ _ a1)
    replace a2 := s3 _ _ a2
    clear hU1 hU2 hU3 np1 np2 s1 s2 s3
    walk_at "go"
    refine ⟨fun m σ H' => (m = 1 ∧ σ = [some (.ref b), some (.ref LW), some (.int 0), none, none, none, none, none, none] ∧ H' = H3) ∨ (m = 0 ∧ ∃ (y2 y3 y4 y5 y6 y7 y8 : Option V), σ = [some (.ref b), some (.ref LW), y2, y3, y4, y5, y6, y7, y8] ∧ H' LW = some (.lst []) ∧ Same H H' ∧ fitsD d dx = true), ⟨1, .inl ⟨rfl, rfl, rfl⟩⟩, fun m σ H4 pz => ?_⟩
    rcases pz with ⟨rfl, rfl, rfl⟩ | ⟨rfl, y2, y3, y4, y5, y6, y7, y8, rfl, aW, S, hf⟩
    · walk_at "go"
      refine ⟨true, .inl ⟨_, sqL_of aW, rfl⟩, ?_⟩
      refine ifB (fun _ => ?_) (fun c => by cases c)
      refine ⟨fun σ H' => ∃ (y2 y3 y4 y5 y6 y7 y8 : Option V), σ = [some (.ref b), some (.ref LW), y2, y3, y4, y5, y6, y7, y8] ∧ H' LW = some (.lst []) ∧ Same H H' ∧ fitsD d dx = true, fun σ' H' pz => ⟨0, by decide, .inr ⟨rfl, pz⟩⟩, ?_⟩
      walk_at "go"
      refine ⟨Or.inl ⟨rfl, _, sqL_of aW⟩, ?_⟩
      refine ⟨LW, [.ref p2], .ref p2, rfl, rfl, aW, by simp, ?_⟩
      have S4 : Same H (upd H4 LW (.lst [])) := same_mut S nW
      have b1 : (upd H4 LW (.lst [])) p1 = some (.tup []) := (upd_ne n1).trans a1
      have b2 : (upd H4 LW (.lst [])) p2 = some (.tup [.ref p1, .ref b]) := (upd_ne n2).trans a2
      have bW : (upd H4 LW (.lst [])) LW = some (.lst []) := upd_same
      show gTup _ _ _ (V.ref p2) _ (upd H4 LW (.lst [])) _
      generalize upd H4 LW (.lst []) = H5 at *
      have hb5 := S4 _ _ hb
      walk_at "go"
      refine ⟨w, g, p1, b, v, x, d, dx, rfl, b1, hb5, t.same2 S4, wt, tx.same2 S4, fun H6 s6 => ?_⟩
      replace b1 := s6 _ _ b1
      replace hb5 := s6 _ _ hb5
      replace bW := s6 _ _ bW
      have S6 := S4.trans s6
      clear S4 s6 b2 aW a1 a2 S
      cases hf : fitsD d dx with
      | true =>
        rw [if_pos rfl]
        walk_at "go"
        exact ⟨_, _, _, _, _, _, _, rfl, bW, S6, rfl⟩
      | false =>
        rw [if_neg (by decide)]
        walk_at "go"
        intro p7 np7
        generalize hU : upd H6 p7 _ = H7
        obtain ⟨s7, a7⟩ := new_of0 np7 hU
        refine q _ H7 (S6.trans s7) ?_
        unfold mkD
        rw [hf, if_neg (by decide)]
        exact .tup a7 (.cons (.tup (s7 _ _ b1) .nil) (.cons (.str _) .nil))
    · walk_at "go"
      refine ⟨false, .inl ⟨_, sqL_of aW, rfl⟩, ?_⟩
      refine ifB (fun c => by cases c) (fun _ => ?_)
      walk_at "go"
      exact q _ _ S (by unfold mkD; rw [if_pos hf]; exact .non)
end
set_option pp.deepTerms false
set_option pp.deepTerms.threshold 5
section
variable {P : Program} {wd : World} {K : PySem.W.Frag} {mg : Str → Option Value} {base : Heap} (T : Tp K mg)
theorem ok_bent : ∀ n, FnOk P wd K mg base CX0 (3 + n) T.a_bent T.d_bent ["_law_deck_here", "_law_value", "_law_deep"] (spBent n)
  | 0 => no_bent T
  | n + 1 => bent_step T n (ok_bent n)
theorem kb_program_error_value : KBinds K T.d_program_error ["value"] ["value"] oneW oneW := by
  obtain ⟨oc, od, kV, doc, pm, an, cdv, ct, osl, e, lk, hcd⟩ := T.F_program_error.ex
  rw [e]
  exact kbinds_one fun a => rfl
/-! a thing that was made while D was locked does not pass through D -/
section
variable {w g D : Addr} {H H' : Hp} {od : Obj} {u o : HO}
mutual
theorem Th.frz (h : H D = some (.frz od u)) : ∀ {v : V} {d : PyData}, Th w g H v d → Th w g (upd H D o) v d
  | _, _, .non => .non
  | _, _, .bl b => .bl b
  | _, _, .int i => .int i
  | _, _, .str x => .str x
  | _, _, .lst n1 n2 e t => .lst n1 n2 ((upd_ne (fun q => by rw [q, h] at e; cases e)).trans e) (ThAll.frz h t)
  | _, _, .tup e t => .tup ((upd_ne (fun q => by rw [q, h] at e; cases e)).trans e) (ThAll.frz h t)
  | _, _, .dct n1 n2 e t => .dct n1 n2 ((upd_ne (fun q => by rw [q, h] at e; cases e)).trans e) (ThKv.frz h t)
theorem ThAll.frz (h : H D = some (.frz od u)) : ∀ {vs : List V} {ds : List PyData}, ThAll w g H vs ds → ThAll w g (upd H D o) vs ds
  | _, _, .nil => .nil
  | _, _, .cons t ts => .cons (Th.frz h t) (ThAll.frz h ts)
theorem ThKv.frz (h : H D = some (.frz od u)) : ∀ {vs : List (Key × V)} {ds : List (PyData × PyData)}, ThKv w g H vs ds → ThKv w g (upd H D o) vs ds
  | _, _, .nil => .nil
  | _, _, .cons t ts => .cons (Th.frz h t) (ThKv.frz h ts)
end
theorem go_lock {f : HO} (n1 : D ≠ w) (n2 : D ≠ g) (s : Go w g (upd H D f) H') : Go w g (upd H D o) (upd H' D o) := fun a x h1 h2 e => by
  by_cases q : a = D
  · subst q
    rw [upd_same] at e ⊢
    exact e
  · rw [upd_ne q] at e ⊢
    exact s a x h1 h2 (by rw [upd_ne q]; exact e)
theorem go_both (n1 : D ≠ w) (n2 : D ≠ g) (s : Go w g H H') : Go w g (upd H D o) (upd H' D o) := fun a x h1 h2 e => by
  by_cases q : a = D
  · subst q
    rw [upd_same] at e ⊢
    exact e
  · rw [upd_ne q] at e ⊢
    exact s a x h1 h2 e
theorem upd_self (h : H D = some o) : upd H D o = H := by
  funext a
  by_cases q : a = D
  · rw [q, upd_same, h]
  · rw [upd_ne q]
end
/-- what a list that is being built at D holds -/
structure Lk (B W Dp : Nat) (w g c D : Addr) (H : Hp) (us : List V) : Prop where
  dk : Dk w g c H
  aD : Ac w g c H D (.lst us)
  bu : ∀ o, BtA B W Dp w g (upd H D o) us
section
variable {B W Dp : Nat} {w g c D p : Addr} {H H' : Hp} {us : List V} {v : V} {o : HO}
theorem Lk.new (W0 : Dk w g c H) (nD : H D = none) : Lk B W Dp w g c D (upd H D (.lst [])) [] :=
  have f := W0.fresh nD
  ⟨W0.same (same_new nD), ⟨f.1, f.2.1, f.2.2, upd_same⟩, fun _ _ h => by cases h⟩
theorem Lk.tupsU (z : Lk B W Dp w g c D H us) : TupOk w g (upd H D o) := (Lz.nil (B := 0) dok_l (z.dk.upd z.aD.nw z.aD.ng z.aD.nc)).tups
theorem Lk.goes (z : Lk B W Dp w g c D H us) (s : Go w g H H') (W' : Dk w g c H') : Lk B W Dp w g c D H' us :=
  ⟨W', z.aD.go s, fun o v hv => (z.bu o v hv).go z.tupsU (go_both z.aD.nw z.aD.ng s)⟩
theorem Lk.snoc (z : Lk B W Dp w g c D H us) (b : ∀ o, Bt B W Dp w g (upd H D o) v) : Lk B W Dp w g c D (upd H D (.lst (us ++ [v]))) (us ++ [v]) :=
  ⟨z.dk.upd z.aD.nw z.aD.ng z.aD.nc, z.aD.set, fun o u hu => by
    rw [upd_twice]
    rcases List.mem_append.mp hu with h | h
    · exact z.bu o u h
    · rw [List.mem_singleton.mp h]
      exact b o⟩
theorem Lk.frz (z : Lk B W Dp w g c D H us) (f : HO) : Dk w g c (upd H D f) := z.dk.upd z.aD.nw z.aD.ng z.aD.nc
/-- a call under the lock -/
theorem Lk.call {od : Obj} (z : Lk B W Dp w g c D H us) (s : Go w g (upd H D (.frz od (.lst us))) H') (W' : Dk w g c H') (b : Bt B W Dp w g H' v) :
    H' D = some (.frz od (.lst us)) ∧ Lk B W Dp w g c D (upd H' D (.lst us)) us ∧ ∀ o, Bt B W Dp w g (upd (upd H' D (.lst us)) D o) v := by
  have e : H' D = some (.frz od (.lst us)) := s D _ z.aD.nw z.aD.ng upd_same
  refine ⟨e, ⟨W'.upd z.aD.nw z.aD.ng z.aD.nc, ⟨z.aD.nw, z.aD.ng, z.aD.nc, upd_same⟩, fun o u hu => ?_⟩, fun o => ?_⟩
  · rw [upd_twice]
    exact (z.bu o u hu).go z.tupsU (go_lock z.aD.nw z.aD.ng s)
  · rw [upd_twice]
    obtain ⟨d, t, bd⟩ := b
    exact ⟨d, Th.frz e t, bd⟩
theorem Lk.done (z : Lk B W Dp w g c D H us) : BtA B W Dp w g H us := fun v hv => by
  have := z.bu (.lst us) v hv
  rw [upd_self z.aD.at_] at this
  exact this
end
theorem call_len_seqK {X : Cx} {K : PySem.W.Frag} (hK : X.K = K) : CallR X (.builtin "len") (fun xs H Q => ∃ p ys, xs = [.ref p] ∧ (SqL K H p ys ∨ SqT K H p ys) ∧ Q (.int ys.length) H) := by
  subst hK
  exact call_len_seq
theorem bpa_btl {W Dp : Nat} {w g : Addr} {H : Hp} {vs : List V} (b : BpA W Dp w g H vs) : BtL (10 ^ 31) (vs.length * (W + 1)) Dp w g H vs := by
  obtain ⟨ds, t, bd, _⟩ := b.all
  exact ⟨ds, t, bd.mono (by decide) (Nat.le_refl _) (Nat.le_refl _)⟩
theorem bta_btl {B W Dp : Nat} {w g : Addr} {H : Hp} : ∀ {vs : List V}, BtA B W Dp w g H vs → BtL B (vs.length * (W + 1)) Dp w g H vs
  | [], _ => BtL.nil.mono (Nat.le_refl _) (Nat.zero_le _) (Nat.zero_le _)
  | v :: vs, h => (BtL.cons (h v (List.mem_cons_self ..)) (bta_btl fun u hu => h u (List.mem_cons_of_mem _ hu))).mono (Nat.le_refl _) (by rw [List.length_cons, Nat.succ_mul]; omega) (by omega)
theorem packV {B W D : Nat} {w g c p : Addr} {H : Hp} {vs : List V} (a : Ac w g c H p (.lst vs)) (b : BtA B W D w g H vs) : ∃ us, Ac w g c H p (.lst us) ∧ BtA B W D w g H us := ⟨vs, a, b⟩
theorem bd_tw {a b : PyData} {W1 W2 D1 D2 : Nat} (x : Bd (10 ^ 30) W1 D1 a) (y : Bd (10 ^ 30) W2 D2 b) (h1 : W1 ≤ 127) (h2 : W2 ≤ 127) (h3 : D1 ≤ 1) (h4 : D2 ≤ 1) : Bd (10 ^ 30) 300 2 (.tuple [a, b]) :=
  (((BdL.one (x.mono (Nat.le_refl _) h1 h3)).app (BdL.one (y.mono (Nat.le_refl _) h2 h4))).tup).mono (Nat.le_refl _) (by decide) (by decide)
theorem bd_str' (s : String) (h : (Str.ofString s).length ≤ 20) : Bd (10 ^ 30) 20 0 (.str (Str.ofString s)) := bd_str s h
theorem bd_from {m : Int} {f : PyData} (hf : Bd (10 ^ 30) 300 2 f) : ∀ (ds : List PyData) (i : Nat), i + ds.length ≤ 6 → Bd (10 ^ 30) 300 2 (resFrom m f i ds)
  | [], _, _ => hf
  | d :: ds, i, h => by
    rw [List.length_cons] at h
    show Bd _ _ _ (if stepD m d = true then resFrom m f (i + 1) ds else .tuple [.int (i : Nat), .str ("step" : Str)])
    by_cases hs : stepD m d = true
    · rw [if_pos hs]
      exact bd_from hf ds (i + 1) (by omega)
    · rw [if_neg hs]
      exact bd_tw (bd_int (Nat.le_trans (show ((i : Nat) : Int).natAbs ≤ 1000 by omega) (by decide)) (by decide)) (bd_str' "step" (by decide +kernel)) (by decide) (by decide) (by decide) (by decide)
theorem bd_res (d : PyData) : Bd (10 ^ 30) 300 2 (resP d) := by
  have n : Bd (10 ^ 30) 300 2 .none := (bd_non (B := 10 ^ 30)).mono (Nat.le_refl _) (by decide) (by decide)
  have pr : Bd (10 ^ 30) 300 2 (.tuple [.none, .str ("program" : Str)]) := bd_tw (bd_non (B := 10 ^ 30)) (bd_str' "program" (by decide +kernel)) (by decide) (by decide) (by decide) (by decide)
  unfold resP
  split
  · split
    · rename_i h
      refine bd_from ?_ _ _ (by omega)
      unfold finD
      split
      · exact bd_tw (bd_non (B := 10 ^ 30)) (bd_str' "rests" (by decide +kernel)) (by decide) (by decide) (by decide) (by decide)
      · exact n
    · exact pr
  · exact pr
theorem bd_mk (d dx : PyData) : Bd (10 ^ 30) 300 2 (mkD d dx) := by
  unfold mkD
  split
  · exact (bd_non (B := 10 ^ 30)).mono (Nat.le_refl _) (by decide) (by decide)
  · have e : Bd (10 ^ 30) 0 1 (.tuple []) := ⟨by simp [Ok, OkAll], by decide, by decide⟩
    exact bd_tw e (bd_str' "program" (by decide +kernel)) (by decide) (by decide) (by decide) (by decide)
inductive RtA (w g : Addr) (H : Hp) : List V → List PyData → Prop
  | nil : RtA w g H [] []
  | cons {v : V} {d e : PyData} {vs : List V} {es : List PyData} : Th w g H v d → d.weight ≤ 300000 → resP d = e → RtA w g H vs es → RtA w g H (v :: vs) (e :: es)
theorem RtA.len {w g : Addr} {H : Hp} {vs : List V} {es : List PyData} (t : RtA w g H vs es) : vs.length = es.length := by
  induction t with
  | nil => rfl
  | cons _ _ _ _ ih => rw [List.length_cons, List.length_cons, ih]
theorem RtA.get {w g : Addr} {H : Hp} {vs : List V} {es : List PyData} (t : RtA w g H vs es) : ∀ {i : Nat} {v : V}, vs[i]? = some v → ∃ d e, es[i]? = some e ∧ Th w g H v d ∧ d.weight ≤ 300000 ∧ resP d = e := by
  induction t with
  | nil => intro i v h; simp at h
  | cons a b c _ ih =>
    intro i v h
    cases i with
    | zero => simp at h; subst h; exact ⟨_, _, rfl, a, b, c⟩
    | succ i => exact ih (i := i) (by simpa using h)
theorem th_fin {w g : Addr} {H : Hp} {vs : List V} {ds : List PyData} {v : V} {d : PyData} (t : ThAll w g H vs ds) (u : Th w g H v d) : ThAll w g H (vs ++ [v]) (ds ++ [d]) := t.append (.cons u .nil)
theorem lst_th {D : Hp → Prop} {B W Dp : Nat} {w g c a : Addr} {H0 H : Hp} {es : List En} {xs : List V} {ds : List PyData} (y : Lz D B w g c H0 H es) (h : .ls a xs W Dp ∈ es) (t : ThAll w g H xs ds) : Th w g H (.ref a) (.list ds) :=
  .lst (y.ls_ac h).nw (y.ls_ac h).ng (y.ls_at h) t
def dueL : List PyData := [.tuple [.none, .str (Str.ofString "program")], .tuple [.int 0, .str (Str.ofString "step")], .tuple [.int 0, .str (Str.ofString "step")], .tuple [.none, .str (Str.ofString "rests")], .none]
set_option hygiene false in
local macro_rules | `(tactic| walk_at "th1") => `(tactic| first
  | exact Th.str _
  | exact Th.int _
  | exact Th.bl _
  | exact Th.non
  | (apply Th.tup; (focus (apply Lz.tp_at Y; walk_at "mem")); walk_at "tha"))
set_option hygiene false in
local macro_rules | `(tactic| walk_at "tha") => `(tactic| first
  | exact ThAll.nil
  | (apply ThAll.cons; (focus walk_at "th1"); walk_at "tha"))
set_option hygiene false in
local macro_rules | `(tactic| walk_at "rta") => `(tactic| first
  | exact RtA.nil
  | (apply RtA.cons; (focus walk_at "th1"); (focus decide +kernel); (focus exact rfl); walk_at "rta"))
theorem RtA.bd {w g : Addr} {H : Hp} {vs : List V} {es : List PyData} (t : RtA w g H vs es) : BdL (10 ^ 30) (es.length * 301) 2 es := by
  induction t with
  | nil => exact ⟨fun _ h => (by cases h), Nat.le_refl _, fun _ h => (by cases h)⟩
  | @cons v d e vs es a b c _ ih =>
    subst c
    exact ((BdL.one (bd_res d)).app ih).mono (Nat.le_refl _) (by rw [List.length_cons]; omega) (Nat.le_refl _)
theorem puA_take : ∀ {ds : List PyData} (i : Nat), PuA ds → PuA (ds.take i)
  | _, 0, _ => by simp [PuA]
  | [], _ + 1, _ => by simp [PuA]
  | d :: ds, i + 1, h => by
    simp only [PuA] at h
    rw [List.take_succ_cons]
    simp only [PuA]
    exact ⟨h.1, puA_take i h.2⟩
theorem pu_due : PuA dueL := by simp [dueL, PuA, Pu]
theorem pk {A : Prop} {K : PySem.W.Frag} {Dd : Hp → Prop} {B W Dp : Nat} {w g c a : Addr} {H0 H : Hp} {es : List En} {xs : List V} {ds : List PyData} (y : Lz Dd B w g c H0 H es) (h : .ls a xs W Dp ∈ es) (r : RtA w g H xs ds)
    (k : ∀ us, Ac w g c H a (.lst us) → RtA w g H us ds → (∃ xs, SqL K H a xs) ∧ A) : (∃ xs, SqL K H a xs) ∧ A := k xs (y.ls_ac h) r
def spLaw (K : PySem.W.Frag) : Sp := fun vs H Q _ => ∃ (a : Addr) (ns : List Int), vs = [.ref a] ∧ SqL K H a (ns.map V.int) ∧ ns.length ≤ 63 ∧ ∀ H', Q (.bl true) H'
theorem ok_law (hsy : HasSys base) (hwd : wd.params = T.pr) : FnG P wd K mg base 11 T.a_law T.d_law ["_law_script"] (spLaw K) := by
  have G_deck : FnOk P wd K mg base CX0 1 T.a_deck T.d_deck ["_law_script"] (spDeck K) := ok_deck T
  have G_draw : FnOk P wd K mg base CX0 1 T.a_draw T.d_draw ["_law_deck_here", "_law_many"] spDraw := ok_draw T
  have G_one : FnOk P wd K mg base CX0 2 T.a_one T.d_one ["_law_deck_here", "_law_items"] spPick := ok_pick T
  have G_lany : FnOk P wd K mg base CX0 5 T.a_lany T.d_lany ["_law_deck_here"] spProg := ok_lany T
  have G_lrest : FnOk P wd K mg base CX0 2 T.a_lrest T.d_lrest ["_law_deck_here", "_law_many"] spRest := ok_lrest T
  have G_odd : FnOk P wd K mg base CX0 3 T.a_odd T.d_odd ["_law_deck_here"] spOdd := ok_odd T
  have G_bent : FnOk P wd K mg base CX0 10 T.a_bent T.d_bent ["_law_deck_here", "_law_value", "_law_deep"] (spBent 7) := ok_bent T 7
  have G_error : FnOk P wd K mg base CX0 4 T.a_error T.d_error ["_law_value"] spPErr := ok_error T
  have G_program_error : FnOk P wd K mg base CX0 4 T.a_program_error T.d_program_error ["value"] spPErr := ok_program_error T
  have G_maker_error : FnOk P wd K mg base CX0 7 T.a_maker_error T.d_maker_error ["value"] spMak := ok_maker_error T hwd
  refine fnG_of T.F_law sc_law (fun vs H Q E h => ?_) (fun cdv A ou s H vs Q E hgd0 hr h => ?_)
  · obtain ⟨a, ns, rfl, _⟩ := h
    rfl
  · have hgd : (cxOf CX0 P wd K mg base nm_law "law" (defScope s_law) T.a_law cdv A ou s H E).nox.A.guards = some [] := hgd0
    have hu4 : (cxOf CX0 P wd K mg base nm_law "law" (defScope s_law) T.a_law cdv A ou s H E).nox.A.units + 64 < cLine := hr.units
    obtain ⟨a, ns, rfl, hS, hl, q⟩ := h
    refine ⟨_, (pss_cons (ps_set (i := 1) sc_law.nd rfl (Or.inr rfl) (pe_call G_deck (hr.mono (by decide)) rfl T.g_deck T.F_deck.kp (b_deck T) .nil pass0 (pa_cons (pv 0) pa_nil)))
      (pss_cons (ps_for PassesOwn.never rfl (pi_range1 rfl T.n_range (pa_cons pe_int pa_nil)) (pg_name (i := 2) sc_law.nd rfl (Or.inl rfl)) (pss_cons (ps_asg (pe_tup (pa_cons (pe_call G_lany (hr.mono (by decide)) rfl T.g_lany T.F_lany.kp (b_lany T) .nil pass0 (pa_cons (pv 1) pa_nil)) (pa_cons (pe_op op_repA (pe_tup (pa_cons (pe_tup (pa_cons pe_str (pa_cons pe_str pa_nil))) pa_nil)) pe_int) pa_nil))) (pg_tup rfl (pgs_cons (pg_name (i := 3) sc_law.nd rfl (Or.inr rfl)) (pgs_cons (pg_name (i := 4) sc_law.nd rfl (Or.inl rfl)) pgs_nil))))
      (pss_cons (ps_asg (pe_tup (pa_cons (pe_call G_draw (hr.mono (by decide)) rfl T.g_draw T.F_draw.kp (b_draw T) .nil pass0 (pa_cons (pv 1) (pa_cons pe_int pa_nil))) (pa_cons (pe_op op_add pe_int (pe_call G_draw (hr.mono (by decide)) rfl T.g_draw T.F_draw.kp (b_draw T) .nil pass0 (pa_cons (pv 1) (pa_cons pe_int pa_nil)))) pa_nil))) (pg_tup rfl (pgs_cons (pg_name (i := 5) sc_law.nd rfl (Or.inl rfl)) (pgs_cons (pg_name (i := 6) sc_law.nd rfl (Or.inr rfl)) pgs_nil))))
      (pss_cons (ps_set (i := 7) sc_law.nd rfl (Or.inl rfl) (pe_callTy call_tuple_of rfl T.n_tuple (by decide +kernel) (pa_cons (pe_lc (own := [("_law_step", 17)]) rfl sc_law.nd (pi_tup (pv 3)) (blkOk_by (N := nm_law) (sc := defScope s_law) (by decide +kernel)) (fun _ _ _ _ _ => pg_name (i := 17) sc_law.nd rfl (Or.inl rfl)) (fun _ _ _ _ _ => pts_nil) (fun _ _ _ _ _ => (pe_ifExp (pt_cmpR op_eq (pe_call G_draw (hr.mono (by decide)) rfl T.g_draw T.F_draw.kp (b_draw T) .nil pass0 (pa_cons (pv 1) (pa_cons (pv 6) pa_nil))) pe_int (nomark _)) (pe_call G_lrest (hr.mono (by decide)) rfl T.g_lrest T.F_lrest.kp (b_lrest T) .nil pass0 (pa_cons (pv 1) (pa_cons (pe_callB (call_len_seqK (K := K) rfl) rfl T.n_len PySem.boot_len (pa_cons (pv 3) pa_nil)) pa_nil))) (pv 17)))) pa_nil)))
      (pss_cons (ps_set (i := 8) sc_law.nd rfl (Or.inl rfl) (pe_callTy call_tuple_of rfl T.n_tuple (by decide +kernel) (pa_cons (pe_lc (own := [("_law_step", 17)]) rfl sc_law.nd (pi_tup (pv 7)) (blkOk_by (N := nm_law) (sc := defScope s_law) (by decide +kernel)) (fun _ _ _ _ _ => pg_name (i := 17) sc_law.nd rfl (Or.inl rfl)) (fun _ _ _ _ _ => pts_nil) (fun _ _ _ _ _ => (pe_ifExp (pt_cmpR op_eq (pe_call G_draw (hr.mono (by decide)) rfl T.g_draw T.F_draw.kp (b_draw T) .nil pass0 (pa_cons (pv 1) (pa_cons pe_int pa_nil))) pe_int (nomark _)) (pe_lock (pe_call G_bent hr rfl T.g_bent T.F_bent.kp (b_bent T) .nil pass0 (pa_cons (pv 1) (pa_cons (pv 17) (pa_cons pe_int pa_nil))))) (pv 17)))) pa_nil)))
      (pss_cons (ps_set (i := 9) sc_law.nd rfl (Or.inl rfl) (pe_lst (pa_cons (pv 3) (pa_cons (pe_callTy call_list_of rfl T.n_list (by decide +kernel) (pa_cons (pv 3) pa_nil)) (pa_cons (pe_slice sl_tupA (pe_op op_catA (pv 3) (pv 4)) po_none (po_some (pe_op op_add pe_int (pv 5)))) (pa_cons (pv 7) (pa_cons (pv 8) (pa_cons (pe_call G_odd (hr.mono (by decide)) rfl T.g_odd T.F_odd.kp (b_odd T) .nil pass0 (pa_cons (pv 1) pa_nil)) pa_nil))))))))
      (pss_cons (ps_set (i := 9) sc_law.nd rfl (Or.inl rfl) (pe_op op_cat (pe_op op_cat (pv 9) (pe_lc (own := [("_law_k", 18)]) rfl sc_law.nd (pi_range1 rfl T.n_range (pa_cons pe_int pa_nil)) (blkOk_by (N := nm_law) (sc := defScope s_law) (by decide +kernel)) (fun _ _ _ _ _ => pg_name (i := 18) sc_law.nd rfl (Or.inl rfl)) (fun _ _ _ _ _ => pts_nil) (fun _ _ _ _ _ => (pe_lock (pe_call G_bent hr rfl T.g_bent T.F_bent.kp (b_bent T) .nil pass0 (pa_cons (pv 1) (pa_cons (pv 3) (pa_cons pe_int pa_nil)))))))) (pe_lst (pa_cons (pe_call G_bent hr rfl T.g_bent T.F_bent.kp (b_bent T) .nil pass0 (pa_cons (pv 1) (pa_cons (pv 7) (pa_cons pe_int pa_nil)))) pa_nil))))
      (pss_one (ps_for PassesOwn.never rfl (pi_list (pv 9)) (pg_name (i := 10) sc_law.nd rfl (Or.inl rfl)) (pss_cons (ps_par (i := 11) (j := 12) rfl sc_law.nd rfl rfl (by decide) rfl rfl (pa_cons (pe_call G_error (hr.mono (by decide)) rfl T.g_error T.F_error.kp (b_error T) .nil pass0 (pa_cons (pv 10) pa_nil)) (pa_cons (pe_callB (call_reprT hsy hgd hu4) rfl T.n_repr (by decide +kernel) (pa_cons (pv 10) pa_nil)) pa_nil)) rfl)
      (pss_cons (ps_if (pt_cmpR op_ne (pe_callB (call_reprT hsy hgd hu4) rfl T.n_repr (by decide +kernel) (pa_cons (pe_lst (pa_cons (pe_call G_program_error (hr.mono (by decide)) rfl T.g_program_error T.F_program_error.kp (b_program_error T) .nil pass0 (pa_cons (pv 10) pa_nil)) (pa_cons (pe_callK0 G_program_error (hr.mono (by decide)) rfl T.g_program_error T.F_program_error.kp (kb_program_error_value T) pass0 (pk_cons (pv 10) pk_nil)) pa_nil))) pa_nil)) (pe_callB (call_reprT hsy hgd hu4) rfl T.n_repr (by decide +kernel) (pa_cons (pe_lst (pa_cons (pv 11) (pa_cons (pv 11) pa_nil))) pa_nil)) (nomark _)) (pss_one (ps_ret pe_bl)) pss_nil)
      (pss_cons (ps_set (i := 13) sc_law.nd rfl (Or.inl rfl) (pe_call G_one (hr.mono (by decide)) rfl T.g_one T.F_one.kp (b_one T) .nil pass0 (pa_cons (pv 1) (pa_cons (pe_lst (pa_cons pe_str (pa_cons pe_str (pa_cons pe_str (pa_cons pe_str (pa_cons pe_str (pa_cons pe_str (pa_cons pe_str (pa_cons pe_str (pa_cons pe_int (pa_cons pe_non (pa_cons (pe_tup (pa_cons pe_str pa_nil)) pa_nil)))))))))))) pa_nil))))
      (pss_cons (ps_set (i := 14) sc_law.nd rfl (Or.inl rfl) (pe_and (pe_cmpR op_isN (pv 11) pe_non (nomark _)) (pe_one (pe_cmpR (op_inSX (K := K) rfl hu4) (pv 13) (pe_tup (pa_cons pe_str (pa_cons pe_str (pa_cons pe_str pa_nil)))) (by rfl)))))
      (pss_cons (ps_set (i := 15) sc_law.nd rfl (Or.inl rfl) (pe_call G_maker_error (hr.mono (by decide)) rfl T.g_maker_error T.F_maker_error.kp (b_maker_error T) .nil pass0 (pa_cons (pe_tup (pa_cons pe_str (pa_cons (pv 10) (pa_cons (pv 13) pa_nil)))) pa_nil)))
      (pss_one (ps_if (PW.pt (pw_or (pt_cmpR op_ne (pe_callB (call_reprT hsy hgd hu4) rfl T.n_repr (by decide +kernel) (pa_cons (pv 15) pa_nil)) (pe_callB (call_reprT hsy hgd hu4) rfl T.n_repr (by decide +kernel) (pa_cons (pe_ifExp (pt_val (pv 14)) pe_non (pe_tup (pa_cons (pe_tup pa_nil) (pa_cons pe_str pa_nil)))) pa_nil)) (nomark _)) (pw_or1 (pt_cmpR op_ne (pe_callB (call_reprT hsy hgd hu4) rfl T.n_repr (by decide +kernel) (pa_cons (pv 10) pa_nil)) (pv 12) (nomark _))))) (pss_one (ps_ret pe_bl)) pss_nil))))))))))))))))
      (pss_cons (ps_set (i := 16) sc_law.nd rfl (Or.inl rfl) (pe_lst (pa_cons (pe_tup pa_nil) (pa_cons (pe_tup (pa_cons pe_str (pa_cons pe_str pa_nil))) (pa_cons (pe_tup (pa_cons (pe_tup (pa_cons pe_str (pa_cons pe_int (pa_cons pe_int pa_nil)))) pa_nil)) (pa_cons (pe_tup (pa_cons (pe_tup (pa_cons pe_str (pa_cons pe_int (pa_cons (pe_op op_repA (pe_tup (pa_cons pe_int pa_nil)) pe_int) pa_nil)))) (pa_cons (pe_tup (pa_cons pe_str (pa_cons pe_int (pa_cons (pe_op op_repA (pe_tup (pa_cons pe_int pa_nil)) pe_int) pa_nil)))) pa_nil))) (pa_cons (pe_tup (pa_cons (pe_tup (pa_cons pe_str (pa_cons pe_str pa_nil))) pa_nil)) pa_nil)))))))
      (pss_cons (ps_set (i := 11) sc_law.nd rfl (Or.inl rfl) (pe_lst (pa_cons (pe_tup (pa_cons pe_non (pa_cons pe_str pa_nil))) (pa_cons (pe_tup (pa_cons pe_int (pa_cons pe_str pa_nil))) (pa_cons (pe_tup (pa_cons pe_int (pa_cons pe_str pa_nil))) (pa_cons (pe_tup (pa_cons pe_non (pa_cons pe_str pa_nil))) (pa_cons pe_non pa_nil)))))))
      (pss_one (ps_ret (pe_cmpR op_eq (pe_callB (call_reprT hsy hgd hu4) rfl T.n_repr (by decide +kernel) (pa_cons (pe_lc (own := [("_law_value", 10)]) rfl sc_law.nd (pi_list (pv 16)) (blkOk_by (N := nm_law) (sc := defScope s_law) (by decide +kernel)) (fun _ _ _ _ _ => pg_name (i := 10) sc_law.nd rfl (Or.inl rfl)) (fun _ _ _ _ _ => pts_nil) (fun _ _ _ _ _ => (pe_call G_program_error (hr.mono (by decide)) rfl T.g_program_error T.F_program_error.kp (b_program_error T) .nil pass0 (pa_cons (pv 10) pa_nil)))) pa_nil)) (pe_callB (call_reprT hsy hgd hu4) rfl T.n_repr (by decide +kernel) (pa_cons (pv 11) pa_nil)) (nomark _)))))))), ?_⟩
    walk_at "go"
    refine ⟨a, ns, rfl, hS, hl, fun w g c H1 s1 W1 => ?_⟩
    walk_at "go"
    refine for_it walk_range (fun i σ H3 => ∃ (y2 y3 y4 y5 y6 y7 y8 y9 y10 y11 y12 y13 y14 y15 : Option V), σ = [some (.ref a), some (.ref w), y2, y3, y4, y5, y6, y7, y8, y9, y10, y11, y12, y13, y14, y15, none, none, none] ∧ Dk w g c H3)
      ⟨_, _, _, _, _, _, _, _, _, _, _, _, _, _, rfl, W1⟩ (fun _ _ _ _ _ => trivial) (fun i x σ H3 H4 hi pz y => ?_) (fun σ H3 pz => ?_)
    · obtain ⟨y2, y3, y4, y5, y6, y7, y8, y9, y10, y11, y12, y13, y14, y15, rfl, W3⟩ := pz
      obtain ⟨rfl, rfl⟩ := y
      clear W1 s1 hS q
      walk_at "go"
      refine ⟨w, g, c, rfl, W3, fun pP ps H5 s5 W5 hP bP lP0 lP1 => ?_⟩
      have bPt := bP.tup hP
      have Y : Lz (Dk w g c) (10 ^ 31) w g c H5 H5 [.tp pP ps (ps.length * 3401) 2] := (Lz.nil dok_l W5).add ⟨hP, bpa_btl bP⟩
      clear W3 s5
      walk_at "lay"
      refine ⟨w, g, c, _, rfl, Y.dk, by omega, by omega, fun so H6 s6 W6 so0 so1 => ?_⟩
      replace Y := Y.goes s6 W6
      clear s6 W6
      walk_at "lay"
      refine ⟨w, g, c, _, rfl, Y.dk, by omega, by omega, fun wi H7 s7 W7 wi0 wi1 => ?_⟩
      replace Y := Y.goes s7 W7
      clear s7 W7
      walk_at "lay"
      have T5 := (Lz.nil (B := 0) dok_l W5).tups
      replace bP := bP.go T5 Y.go
      replace hP := Y.go _ _ (T5 _ _ hP).1 (T5 _ _ hP).2 hP
      replace Y := Y.again
      clear T5
      refine ⟨⟨_, sqT_of hP⟩, fun D nD => ?_⟩
      have f := Y.dk.fresh nD
      have T7 := Y.tups
      refine lc_it walk_tup (fun i H2 => ∃ us : List V, H2 D = some (.lst us) ∧ us.length = i ∧ BpA 3400 2 w g H2 us ∧ Go w g HH H2 ∧ Dk w g c H2) ⟨[], upd_same, rfl, BpA.nil, Go.of (same_new nD), Y.dk.same (same_new nD)⟩
        (fun i H2 _ p => sqT_of (p.choose_spec.2.2.2.1 _ _ (T7 _ _ hP).1 (T7 _ _ hP).2 hP)) (fun i x H2 H3 hi p y => ?_) (fun H2 p => ?_)
      · obtain ⟨us, hD, hus, bu, S, W2⟩ := p
        obtain ⟨rfl, hx⟩ := y
        have bx := (bP.go T7 S) x (List.mem_of_getElem? hx)
        have hP2 := S _ _ (T7 _ _ hP).1 (T7 _ _ hP).2 hP
        walk_at "go"
        refine ⟨w, g, c, _, rfl, W2, by omega, by omega, fun e H9 s9 W9 e0 e1 => ?_⟩
        have T2 := (Lz.nil (B := 0) dok_l W2).tups
        replace bu := bu.go T2 s9
        replace bx := bx.go T2 s9
        replace hP2 := s9 _ _ (T2 _ _ hP2).1 (T2 _ _ hP2).2 hP2
        replace hD := s9 _ _ f.1 f.2.1 hD
        replace S := S.trans s9
        clear s9 W2 T2
        have nxt : ∀ (x : V) (H8 : Hp), Bp 3400 2 w g H8 x → BpA 3400 2 w g H8 us → H8 D = some (.lst us) → Go w g HH H8 → Dk w g c H8 → ∃ acc, H8 D = some (.lst acc) ∧ acc.length < sizeLine ∧ ∃ us : List V, (upd H8 D (.lst (acc ++ [x]))) D = some (.lst us) ∧ us.length = i + 1 ∧ BpA 3400 2 w g (upd H8 D (.lst (acc ++ [x]))) us ∧ Go w g HH (upd H8 D (.lst (acc ++ [x]))) ∧ Dk w g c (upd H8 D (.lst (acc ++ [x]))) := fun x H8 bx bu hD S W => by
          refine ⟨us, hD, szl2 (by omega), us ++ [x], upd_same, by simp [hus], (bu.snoc bx).keep (TupKeep.upd hD fun xs e => by cases e), go_upd' S nD, W.upd f.1 f.2.1 f.2.2⟩
        walk_at "go"
        refine ifD (fun _ => ?_) (fun _ => ?_)
        · walk_at "go"
          refine ⟨w, g, c, _, rfl, W9, by omega, by omega, fun x2 H8 s8 W8 bx2 => ?_⟩
          have T9 := (Lz.nil (B := 0) dok_l W9).tups
          exact nxt x2 H8 bx2 (bu.go T9 s8) (s8 _ _ f.1 f.2.1 hD) (S.trans s8) W8
        · walk_at "go"
          exact nxt x H9 bx bu hD S W9
      · obtain ⟨rs, hD, hus, bR, S, W2⟩ := p
        replace bP := bP.go T7 S
        replace hP := S _ _ (T7 _ _ hP).1 (T7 _ _ hP).2 hP
        replace Y := Y.goes S W2
        clear S W2
        walk_at "go"
        refine ⟨D, _, rfl, .inl ⟨sqL_of hD, fun pR np1 => ?_⟩⟩
        generalize hU1 : upd H2 pR _ = H3
        obtain ⟨s3, Y', hR⟩ := Y.new np1 hU1
        have T2 := Y.tups
        replace bP := bP.go T2 (Go.of s3)
        replace bR := bR.go T2 (Go.of s3)
        replace hP := s3 _ _ hP
        clear Y hU1 np1 hD nD f T7 T2 s3
        rename Lz _ _ _ _ _ _ _ _ => Y
        replace Y := Y.add (e := .tp pR rs (rs.length * 3401) 2) ⟨hR.at_, bpa_btl bR⟩
        replace hR := hR.at_
        walk_at "go"
        refine ⟨⟨_, sqT_of hR⟩, fun D nD => ?_⟩
        have T3 := Y.tups
        refine lc_it walk_tup (fun i H5 => ∃ us : List V, Lk (10 ^ 31) 15000 8 w g c D H5 us ∧ us.length = i ∧ Go w g H3 H5) ⟨[], Lk.new Y.dk nD, rfl, Go.of (same_new nD)⟩
          (fun i H2 _ p => sqT_of (p.choose_spec.2.2 _ _ (T3 _ _ hR).1 (T3 _ _ hR).2 hR)) (fun i x H2 H5 hi p y => ?_) (fun H5 p => ?_)
        · obtain ⟨us, Z, hus2, S⟩ := p
          obtain ⟨rfl, hx⟩ := y
          have bx := (bR.go T3 S) x (List.mem_of_getElem? hx)
          walk_at "go"
          refine ⟨w, g, c, _, rfl, Z.dk, by omega, by omega, fun e H9 s9 W9 e0 e1 => ?_⟩
          replace bx := bx.go (Lz.nil (B := 0) dok_l Z.dk).tups s9
          replace Z := Z.goes s9 W9
          replace S := S.trans s9
          clear s9 W9
          walk_at "go"
          refine ifD (fun _ => ?_) (fun _ => ?_)
          · walk_at "go"
            refine ⟨D, .lst us, Z.aD.at_, by first | trivial | rfl | decide, fun od => ?_⟩
            walk_at "go"
            refine ⟨w, g, c, x, 2, 10 ^ 30, 3400, 2, rfl, Z.frz _, (bx.keep (TupKeep.upd Z.aD.at_ fun xs e => by cases e)).bt, Nat.le_refl _, by decide, by decide, by decide, fun v H10 s W b => ?_⟩
            obtain ⟨e2, Z2, b2⟩ := Z.call s W (b.mono (by decide) (by decide) (by decide))
            refine ⟨e2, us, Z2.aD.at_, szl2 (by omega), us ++ [v], Z2.snoc b2, by simp [hus2], ?_⟩
            refine go_upd' ?_ nD
            have := go_lock (o := .lst us) Z.aD.nw Z.aD.ng s
            rw [upd_self Z.aD.at_] at this
            exact S.trans this
          · walk_at "go"
            exact ⟨us, Z.aD.at_, szl2 (by omega), us ++ [x], Z.snoc (fun o => (bx.keep (TupKeep.upd Z.aD.at_ fun xs e => by cases e)).bt.mono (by decide) (by decide) (by decide)), by simp [hus2], go_upd' S nD⟩
        · obtain ⟨us, Z, hus2, S⟩ := p
          have bS := Z.done
          replace bP := bP.go T3 S
          replace bR := bR.go T3 S
          replace hP := S _ _ (T3 _ _ hP).1 (T3 _ _ hP).2 hP
          replace hR := S _ _ (T3 _ _ hR).1 (T3 _ _ hR).2 hR
          replace Y := Y.goes S Z.dk
          have hD := Z.aD.at_
          clear S Z T3
          walk_at "go"
          refine ⟨D, _, rfl, .inl ⟨sqL_of hD, fun pS np1 => ?_⟩⟩
          generalize hU1 : upd H5 pS _ = H6
          obtain ⟨s3, Y', hS⟩ := Y.new np1 hU1
          have T2 := Y.tups
          replace bP := bP.go T2 (Go.of s3)
          replace bR := bR.go T2 (Go.of s3)
          replace bS := bS.go T2 (Go.of s3)
          replace hP := s3 _ _ hP
          replace hR := s3 _ _ hR
          clear Y hU1 np1 hD nD T2 s3
          rename Lz _ _ _ _ _ _ _ _ => Y
          replace Y := Y.add (e := .tp pS us (us.length * 15001) 8) ⟨hS.at_, bta_btl bS⟩
          replace Y := Y.again
          have T6 := Y.tups
          walk_at "lay"
          refine ⟨w, g, c, rfl, Y.dk, fun x1 HO1 sd Wd b1 => ?_⟩
          replace Y := (Y.goes sd Wd).addT (b1.mono (by decide) (Nat.le_refl _) (Nat.le_refl _))
          clear sd Wd
          walk_at "go"
          walk_at "new"
          walk_at "go"
          replace bP := bP.go T6 Y.go
          replace bR := bR.go T6 Y.go
          replace hP := Y.go _ _ (T6 _ _ hP).1 (T6 _ _ hP).2 hP
          replace hR := Y.go _ _ (T6 _ _ hR).1 (T6 _ _ hR).2 hR
          clear T6 bPt bS
          have bp3 := (bP.tup hP).mono (show ps.length * (3400 + 1) ≤ 21000 by omega) (show 2 + 1 ≤ 3 by decide)
          have br3 := (bR.tup hR).mono (show rs.length * (3400 + 1) ≤ 21000 by omega) (show 2 + 1 ≤ 3 by decide)
          clear bP bR hP hR
          intro D nD
          have T3 := Y.tups
          refine lc_it walk_range (fun i H5 => ∃ us : List V, Lk (10 ^ 31) 68000 10 w g c D H5 us ∧ us.length = i ∧ Go w g HH H5) ⟨[], Lk.new Y.dk nD, rfl, Go.of (same_new nD)⟩
            (fun _ _ _ _ => trivial) (fun i x H2 H5 hi p y => ?_) (fun H5 p => ?_)
          · obtain ⟨us, Z, hus2, S⟩ := p
            obtain ⟨rfl, rfl⟩ := y
            have bx := bp3.go T3 S
            walk_at "go"
            refine ⟨D, .lst us, Z.aD.at_, trivial, fun od => ?_⟩
            walk_at "go"
            refine ⟨w, g, c, .ref pP, 3, 10 ^ 30, 21000, 3, rfl, Z.frz _, (bx.keep (TupKeep.upd Z.aD.at_ fun xs e => by cases e)).bt, Nat.le_refl _, by decide, by decide, by decide, fun v H10 s W b => ?_⟩
            obtain ⟨e2, Z2, b2⟩ := Z.call s W (b.mono (by decide) (by decide) (by decide))
            refine ⟨e2, us, Z2.aD.at_, szl2 (by omega), us ++ [v], Z2.snoc b2, by simp [hus2], ?_⟩
            refine go_upd' ?_ nD
            have := go_lock (o := .lst us) Z.aD.nw Z.aD.ng s
            rw [upd_self Z.aD.at_] at this
            exact S.trans this
          · obtain ⟨bs, Z, hbs, S⟩ := p
            replace bp3 := bp3.go T3 S
            replace br3 := br3.go T3 S
            replace Y := (Y.goes S Z.dk).add (e := .ls D bs (bs.length * 68001) 10) ⟨Z.aD, bta_btl Z.done⟩
            have bB := Z.done
            clear Z S T3 nD
            replace Y := Y.again
            have T5 := Y.tups
            walk_at "lay"
            replace bB := bB.go T5 Y.go
            replace br3 := br3.go T5 Y.go
            clear T5
            replace Y := Y.again
            have T5 := Y.tups
            refine ⟨w, g, c, .ref pR, 3, 10 ^ 30, 21000, 3, rfl, Y.dk, br3.bt, Nat.le_refl _, by decide, by decide, by decide, fun x2 H10 s W b2 => ?_⟩
            replace Y := (Y.goes s W).addT (b2.mono (by decide) (Nat.le_refl _) (Nat.le_refl _))
            clear s W
            walk_at "lay"
            have bB2 := (bB.go T5 Y.go).mono (show 10 ^ 31 ≤ 10 ^ 31 from Nat.le_refl _) (show 68000 ≤ 100000 by decide) (show 10 ≤ 12 by decide)
            have aV := Y.ls_ac (List.Mem.head _)
            have W8 := Y.dk
            obtain ⟨vs, aV, bV⟩ := packV aV (BtA.app (BtA.app (show BtA (10 ^ 31) 100000 12 w g HH _ by walk_at "bta") bB2) (show BtA (10 ^ 31) 100000 12 w g HH _ by walk_at "bta"))
            clear bB2 bB br3 bp3 Y T5
            refine ⟨⟨_, sqL_of aV.at_⟩, ?_⟩
            refine for_it (walk_list (xs := vs)) (fun j σ H20 => ∃ (y2 y3 y4 y5 y6 y7 y8 y9 y10 y11 y12 y13 y14 y15 : Option V), σ = [some (.ref a), some (.ref w), y2, y3, y4, y5, y6, y7, y8, y9, y10, y11, y12, y13, y14, y15, none, none, none] ∧ Dk w g c H20 ∧ Ac w g c H20 p (.lst vs) ∧ BtA (10 ^ 31) 100000 12 w g H20 vs)
              ⟨_, _, _, _, _, _, _, _, _, _, _, _, _, _, rfl, W8, aV, bV⟩ (fun j σ H20 _ pz => ?_) (fun j x σ H20 H21 hj pz y => ?_) (fun σ H20 pz => ?_)
            · obtain ⟨_, _, _, _, _, _, _, _, _, _, _, _, _, _, _, _, hz, _⟩ := pz
              exact sqL_of hz.at_
            · clear W8 aV bV
              obtain ⟨y2, y3, y4, y5, y6, y7, y8, y9, y10, y11, y12, y13, y14, y15, rfl, W8, aV, bV⟩ := pz
              obtain ⟨rfl, hx⟩ := y
              obtain ⟨d, td, bd⟩ := bV x (List.mem_of_getElem? hx)
              have wt : d.weight ≤ 300000 := Nat.le_trans bd.wt (by decide)
              clear hj hx
              walk_at "go"
              refine ⟨w, g, x, d, rfl, td, wt, fun du H22 s22 tu => ?_⟩
              replace td := td.same2 s22
              have bS := bd_res d
              have bS2 := ((BdL.one bS).app (BdL.one bS)).lst
              walk_at "go"
              refine repr_val td.toD bd.ok (by decide) (Nat.le_trans bd.wt (by decide)) (Nat.le_trans bd.dp (by decide)) ?_
              walk_at "go"
              refine ⟨w, g, x, d, rfl, td, wt, fun r1 H23 s23 t1 => ?_⟩
              replace td := td.same2 s23
              replace tu := tu.same2 s23
              walk_at "go"
              refine ⟨w, g, x, d, rfl, td, wt, fun r2 H24 s24 t2 => ?_⟩
              replace td := td.same2 s24
              replace tu := tu.same2 s24
              replace t1 := t1.same2 s24
              walk_at "go"
              intro o1 no1
              generalize hU1 : upd H24 o1 _ = H25
              obtain ⟨s25, ho1⟩ := new_of0 no1 hU1
              replace td := td.same2 s25
              replace tu := tu.same2 s25
              replace t1 := t1.same2 s25
              replace t2 := t2.same2 s25
              walk_at "go"
              refine repr_val (d := .list ([resP d] ++ [resP d])) (.lst (sqL_of ho1) (ThAll.toD (.cons t1 (.cons t2 .nil)))) bS2.ok (by decide) (Nat.le_trans bS2.wt (by decide)) (Nat.le_trans bS2.dp (by decide)) ?_
              walk_at "go"
              intro o2 no2
              generalize hU2 : upd H25 o2 _ = H26
              obtain ⟨s26, ho2⟩ := new_of0 no2 hU2
              replace td := td.same2 s26
              replace tu := tu.same2 s26
              refine repr_val (d := .list ([resP d] ++ [resP d])) (.lst (sqL_of ho2) (ThAll.toD (.cons tu (.cons tu .nil)))) bS2.ok (by decide) (Nat.le_trans bS2.wt (by decide)) (Nat.le_trans bS2.dp (by decide)) ?_
              walk_at "go"
              refine ifDn (fun c => absurd rfl c) (fun _ => ?_)
              have S := (((s22.trans s23).trans s24).trans s25).trans s26
              have T20 := (Lz.nil (B := 0) dok_l W8).tups
              replace aV := aV.same S
              replace bV := bV.go T20 (Go.of S)
              replace W8 := W8.same S
              clear s22 s23 s24 s25 s26 ho1 ho2 hU1 hU2 no1 no2 t1 t2 S T20 bS2
              have Y : Lz (Dk w g c) (10 ^ 31) w g c H26 H26 [] := Lz.nil dok_l W8
              have T26 := Y.tups
              walk_at "lay"
              have ha := Y.ls_ac (List.Mem.head _)
              refine ⟨w, g, c, _, _, rfl, Y.dk, ha, by simp, by simp, fun xw H27 mx s27 W27 => ?_⟩
              have hN := fun (hA : BtA (10 ^ 31) 200 2 w g HH _) => (hA xw mx).go Y.tups s27
              obtain ⟨dx, tw, bw⟩ := hN (by walk_at "bta")
              have S := Y.go.trans s27
              clear hN mx ha s27 Y W8
              replace td := td.go2 T26 S
              replace tu := tu.go2 T26 S
              replace aV := aV.go S
              replace bV := bV.go T26 S
              clear S T26
              have e1 := none_res tu
              walk_at "go"
              refine ifB (fun c1 => ?_) (fun c1 => ?_)
              · walk_at "go"
                intro pt npt
                generalize hU : upd _ pt _ = H28
                obtain ⟨s28, _, at28⟩ := new_ofL W27 npt hU
                clear hU npt
                replace td := td.same2 s28
                replace tw := tw.same2 s28
                replace aV := aV.same s28
                replace bV := bV.go (Lz.nil (B := 0) dok_l W27).tups (Go.of s28)
                replace W27 := W27.same s28
                refine ⟨w, g, dx, pt, answ, rfl, sqT_of at28.at_, tw, ?_⟩
                clear s28 at28
                have hf : fitsD d dx = answ.any (isSD dx) := by
                  unfold fitsD
                  rw [← e1, c1]
                  rfl
                generalize answ.any (isSD dx) = rv at *
                cases rv with
                | true =>
                  walk_at "go"
                  intro pm npm
                  generalize hU : upd _ pm _ = H29
                  obtain ⟨s29, _, am⟩ := new_ofL W27 npm hU
                  clear hU npm
                  replace td := td.same2 s29
                  replace tw := tw.same2 s29
                  replace aV := aV.same s29
                  replace bV := bV.go (Lz.nil (B := 0) dok_l W27).tups (Go.of s29)
                  replace W27 := W27.same s29
                  clear s29
                  walk_at "go"
                  refine ⟨w, g, pm, x, xw, d, dx, rfl, am.at_, td, wt, tw, fun y H30 s30 ty => ?_⟩
                  replace td := td.same2 s30
                  replace tw := tw.same2 s30
                  replace aV := aV.same s30
                  replace bV := bV.go (Lz.nil (B := 0) dok_l W27).tups (Go.of s30)
                  replace W27 := W27.same s30
                  clear s30 am
                  have bM := bd_mk d dx
                  have em : mkD d dx = .none := by unfold mkD; rw [if_pos hf]
                  generalize mkD d dx = M at ty bM em
                  walk_at "go"
                  refine repr_val ty.toD bM.ok (by decide) (Nat.le_trans bM.wt (by decide)) (Nat.le_trans bM.dp (by decide)) ?_
                  walk_at "go"
                  refine ifB (fun _ => ?_) (fun c => by cases c)
                  walk_at "go"
                  have tE : Th w g H30 .non M := by rw [em]; exact .non
                  refine repr_val tE.toD bM.ok (by decide) (Nat.le_trans bM.wt (by decide)) (Nat.le_trans bM.dp (by decide)) ?_
                  walk_at "go"
                  refine ifDn (fun c => absurd rfl c) (fun _ => ?_)
                  walk_at "go"
                  refine repr_val td.toD bd.ok (by decide) (Nat.le_trans bd.wt (by decide)) (Nat.le_trans bd.dp (by decide)) ?_
                  walk_at "go"
                  refine ifDn (fun c => absurd rfl c) (fun _ => ?_)
                  exact ⟨_, _, _, _, _, _, _, _, _, _, _, _, _, _, rfl, W27, aV, bV⟩
                | false =>
                  walk_at "go"
                  intro pm npm
                  generalize hU : upd _ pm _ = H29
                  obtain ⟨s29, _, am⟩ := new_ofL W27 npm hU
                  clear hU npm
                  replace td := td.same2 s29
                  replace tw := tw.same2 s29
                  replace aV := aV.same s29
                  replace bV := bV.go (Lz.nil (B := 0) dok_l W27).tups (Go.of s29)
                  replace W27 := W27.same s29
                  clear s29
                  walk_at "go"
                  refine ⟨w, g, pm, x, xw, d, dx, rfl, am.at_, td, wt, tw, fun y H30 s30 ty => ?_⟩
                  replace td := td.same2 s30
                  replace tw := tw.same2 s30
                  replace aV := aV.same s30
                  replace bV := bV.go (Lz.nil (B := 0) dok_l W27).tups (Go.of s30)
                  replace W27 := W27.same s30
                  clear s30 am
                  have bM := bd_mk d dx
                  have em : mkD d dx = .tuple [.tuple [], .str (Str.ofString "program")] := by unfold mkD; rw [hf]; rfl
                  generalize mkD d dx = M at ty bM em
                  walk_at "go"
                  refine repr_val ty.toD bM.ok (by decide) (Nat.le_trans bM.wt (by decide)) (Nat.le_trans bM.dp (by decide)) ?_
                  walk_at "go"
                  intro pa np
                  generalize hU : upd _ pa _ = H31
                  obtain ⟨sN, _, aa⟩ := new_ofL W27 np hU
                  clear hU np
                  replace td := td.same2 sN
                  replace aV := aV.same sN
                  replace bV := bV.go (Lz.nil (B := 0) dok_l W27).tups (Go.of sN)
                  replace W27 := W27.same sN
                  clear sN
                  walk_at "go"
                  intro pb np
                  generalize hU : upd _ pb _ = H32
                  obtain ⟨sN, _, ab⟩ := new_ofL W27 np hU
                  clear hU np
                  replace td := td.same2 sN
                  replace aV := aV.same sN
                  replace bV := bV.go (Lz.nil (B := 0) dok_l W27).tups (Go.of sN)
                  replace W27 := W27.same sN
                  replace aa := aa.same sN
                  clear sN
                  walk_at "go"
                  have tE : Th w g H32 (.ref pb) M := by rw [em]; exact .tup ab.at_ (.cons (.tup aa.at_ .nil) (.cons (.str _) .nil))
                  refine repr_val tE.toD bM.ok (by decide) (Nat.le_trans bM.wt (by decide)) (Nat.le_trans bM.dp (by decide)) ?_
                  walk_at "go"
                  refine ifDn (fun c => absurd rfl c) (fun _ => ?_)
                  walk_at "go"
                  refine repr_val td.toD bd.ok (by decide) (Nat.le_trans bd.wt (by decide)) (Nat.le_trans bd.dp (by decide)) ?_
                  walk_at "go"
                  refine ifDn (fun c => absurd rfl c) (fun _ => ?_)
                  exact ⟨_, _, _, _, _, _, _, _, _, _, _, _, _, _, rfl, W27, aV, bV⟩
              · have hf : fitsD d dx = false := by
                  unfold fitsD
                  rw [← e1, c1]
                  rfl
                walk_at "go"
                intro pm npm
                generalize hU : upd _ pm _ = H29
                obtain ⟨s29, _, am⟩ := new_ofL W27 npm hU
                clear hU npm
                replace td := td.same2 s29
                replace tw := tw.same2 s29
                replace aV := aV.same s29
                replace bV := bV.go (Lz.nil (B := 0) dok_l W27).tups (Go.of s29)
                replace W27 := W27.same s29
                clear s29
                walk_at "go"
                refine ⟨w, g, pm, x, xw, d, dx, rfl, am.at_, td, wt, tw, fun y H30 s30 ty => ?_⟩
                replace td := td.same2 s30
                replace tw := tw.same2 s30
                replace aV := aV.same s30
                replace bV := bV.go (Lz.nil (B := 0) dok_l W27).tups (Go.of s30)
                replace W27 := W27.same s30
                clear s30 am
                have bM := bd_mk d dx
                have em : mkD d dx = .tuple [.tuple [], .str (Str.ofString "program")] := by unfold mkD; rw [hf]; rfl
                generalize mkD d dx = M at ty bM em
                walk_at "go"
                refine repr_val ty.toD bM.ok (by decide) (Nat.le_trans bM.wt (by decide)) (Nat.le_trans bM.dp (by decide)) ?_
                walk_at "go"
                intro pa np
                generalize hU : upd _ pa _ = H31
                obtain ⟨sN, _, aa⟩ := new_ofL W27 np hU
                clear hU np
                replace td := td.same2 sN
                replace aV := aV.same sN
                replace bV := bV.go (Lz.nil (B := 0) dok_l W27).tups (Go.of sN)
                replace W27 := W27.same sN
                clear sN
                walk_at "go"
                intro pb np
                generalize hU : upd _ pb _ = H32
                obtain ⟨sN, _, ab⟩ := new_ofL W27 np hU
                clear hU np
                replace td := td.same2 sN
                replace aV := aV.same sN
                replace bV := bV.go (Lz.nil (B := 0) dok_l W27).tups (Go.of sN)
                replace W27 := W27.same sN
                replace aa := aa.same sN
                clear sN
                walk_at "go"
                have tE : Th w g H32 (.ref pb) M := by rw [em]; exact .tup ab.at_ (.cons (.tup aa.at_ .nil) (.cons (.str _) .nil))
                refine repr_val tE.toD bM.ok (by decide) (Nat.le_trans bM.wt (by decide)) (Nat.le_trans bM.dp (by decide)) ?_
                walk_at "go"
                refine ifDn (fun c => absurd rfl c) (fun _ => ?_)
                walk_at "go"
                refine repr_val td.toD bd.ok (by decide) (Nat.le_trans bd.wt (by decide)) (Nat.le_trans bd.dp (by decide)) ?_
                walk_at "go"
                refine ifDn (fun c => absurd rfl c) (fun _ => ?_)
                exact ⟨_, _, _, _, _, _, _, _, _, _, _, _, _, _, rfl, W27, aV, bV⟩
            · clear W8 aV bV
              obtain ⟨y2, y3, y4, y5, y6, y7, y8, y9, y10, y11, y12, y13, y14, y15, rfl, W8, _⟩ := pz
              exact ⟨_, _, _, _, _, _, _, _, _, _, _, _, _, _, rfl, W8⟩
    · obtain ⟨y2, y3, y4, y5, y6, y7, y8, y9, y10, y11, y12, y13, y14, y15, rfl, W3⟩ := pz
      clear W1 s1 hS
      have Y : Lz (Dk w g c) (10 ^ 30) w g c H3 H3 [] := Lz.nil dok_l W3
      walk_at "lay"
      have tDue : Th w g HH (.ref p) (.list dueL) := by
        apply lst_th Y (List.Mem.head _)
        unfold dueL
        walk_at "tha"
      apply pk Y (ds := dueL)
      · walk_at "mem"
      · unfold dueL
        walk_at "rta"
      intro us aF rF
      have bL := rF.bd.lst
      have W4 := Y.dk
      clear Y
      refine ⟨⟨_, sqL_of aF.at_⟩, fun D nD => ?_⟩
      have f := W4.fresh nD
      refine lc_it (walk_list (xs := us)) (fun i H5 => ∃ rs : List V, H5 D = some (.lst rs) ∧ rs.length = i ∧ ThAll w g H5 rs (dueL.take i) ∧ Same HH H5) ⟨[], upd_same, rfl, .nil, same_new nD⟩
        (fun i H5 _ p => sqL_of (p.choose_spec.2.2.2 _ _ aF.at_)) (fun i x H5 H6 hi p y => ?_) (fun H5 p => ?_)
      · obtain ⟨rs, hD, hrs, tr, S⟩ := p
        obtain ⟨rfl, hx⟩ := y
        obtain ⟨d, e, he, td, wt, hr2⟩ := rF.get hx
        have l5 : us.length = 5 := rF.len
        walk_at "go"
        refine ⟨w, g, x, d, rfl, td.same2 S, wt, fun v H7 s7 tv => ?_⟩
        rw [hr2] at tv
        have tn := th_fin (tr.same2 s7) tv
        have et : dueL.take i ++ [e] = dueL.take (i + 1) := by rw [List.take_add_one, he]; rfl
        rw [et] at tn
        have hD7 := s7 _ _ hD
        refine ⟨rs, hD7, szl2 (by omega), rs ++ [v], upd_same, by simp [hrs], tn.pu (TupKeep.upd hD7 fun xs e => by cases e) (puA_take _ pu_due), same_mut (S.trans s7) nD⟩
      · obtain ⟨rs, hD, hrs, tr, S⟩ := p
        rw [rF.len, List.take_length] at tr
        have tL : Th w g H5 (.ref D) (.list dueL) := .lst f.1 f.2.1 hD tr
        replace tDue := tDue.same2 S
        have hE : dueL.length = 5 := rfl
        generalize dueL = E at *
        walk_at "go"
        refine repr_val tL.toD bL.ok (by decide) (Nat.le_trans bL.wt (by rw [hE]; decide)) (Nat.le_trans bL.dp (by decide)) ?_
        walk_at "go"
        refine repr_val tDue.toD bL.ok (by decide) (Nat.le_trans bL.wt (by rw [hE]; decide)) (Nat.le_trans bL.dp (by decide)) ?_
        walk_at "go"
        show Q (.bl (decide _)) H5
        rw [decide_eq_true rfl]
        exact q _
end
theorem all_mk {l : PySem.W.OpenLaw} {w : World} {K : PySem.W.Frag} {h : Heap} {mg : Str → Option Value} {fa : Addr} (X : K.In h) (G : h.Ns mainGlobals mg) (hfa : mg "law" = some (.ref fa))
    {f_is_whole : Addr} {od_is_whole an_is_whole : Option Addr} {sl_is_whole : Array (Option Value)} {oc_is_whole kV_is_whole dc_is_whole pm_is_whole cd_is_whole ct_is_whole : Value}
    {f_least_multiple : Addr} {od_least_multiple an_least_multiple : Option Addr} {sl_least_multiple : Array (Option Value)} {oc_least_multiple kV_least_multiple dc_least_multiple pm_least_multiple cd_least_multiple ct_least_multiple : Value}
    {f_program_error : Addr} {od_program_error an_program_error : Option Addr} {sl_program_error : Array (Option Value)} {oc_program_error kV_program_error dc_program_error pm_program_error cd_program_error ct_program_error : Value}
    {f_is_step : Addr} {od_is_step an_is_step : Option Addr} {sl_is_step : Array (Option Value)} {oc_is_step kV_is_step dc_is_step pm_is_step cd_is_step ct_is_step : Value}
    {f_is_count_and_places : Addr} {od_is_count_and_places an_is_count_and_places : Option Addr} {sl_is_count_and_places : Array (Option Value)} {oc_is_count_and_places kV_is_count_and_places dc_is_count_and_places pm_is_count_and_places cd_is_count_and_places ct_is_count_and_places : Value}
    {f_are_places : Addr} {od_are_places an_are_places : Option Addr} {sl_are_places : Array (Option Value)} {oc_are_places kV_are_places dc_are_places pm_are_places cd_are_places ct_are_places : Value}
    {f_round_number : Addr} {od_round_number an_round_number : Option Addr} {sl_round_number : Array (Option Value)} {oc_round_number kV_round_number dc_round_number pm_round_number cd_round_number ct_round_number : Value}
    {f_book_error : Addr} {od_book_error an_book_error : Option Addr} {sl_book_error : Array (Option Value)} {oc_book_error kV_book_error dc_book_error pm_book_error cd_book_error ct_book_error : Value}
    {f_rule_error : Addr} {od_rule_error an_rule_error : Option Addr} {sl_rule_error : Array (Option Value)} {oc_rule_error kV_rule_error dc_rule_error pm_rule_error cd_rule_error ct_rule_error : Value}
    {f_saying_error : Addr} {od_saying_error an_saying_error : Option Addr} {sl_saying_error : Array (Option Value)} {oc_saying_error kV_saying_error dc_saying_error pm_saying_error cd_saying_error ct_saying_error : Value}
    {f_is_over : Addr} {od_is_over an_is_over : Option Addr} {sl_is_over : Array (Option Value)} {oc_is_over kV_is_over dc_is_over pm_is_over cd_is_over ct_is_over : Value}
    {f_maker_error : Addr} {od_maker_error an_maker_error : Option Addr} {sl_maker_error : Array (Option Value)} {oc_maker_error kV_maker_error dc_maker_error pm_maker_error cd_maker_error ct_maker_error : Value}
    {f_wrong_word : Addr} {od_wrong_word an_wrong_word : Option Addr} {sl_wrong_word : Array (Option Value)} {oc_wrong_word kV_wrong_word dc_wrong_word pm_wrong_word cd_wrong_word ct_wrong_word : Value}
    {f_fits_one : Addr} {od_fits_one an_fits_one : Option Addr} {sl_fits_one : Array (Option Value)} {oc_fits_one kV_fits_one dc_fits_one pm_fits_one cd_fits_one ct_fits_one : Value}
    {f_fits_two : Addr} {od_fits_two an_fits_two : Option Addr} {sl_fits_two : Array (Option Value)} {oc_fits_two kV_fits_two dc_fits_two pm_fits_two cd_fits_two ct_fits_two : Value}
    {f_deck : Addr} {od_deck an_deck : Option Addr} {sl_deck : Array (Option Value)} {oc_deck kV_deck dc_deck pm_deck cd_deck ct_deck : Value}
    {f_draw : Addr} {od_draw an_draw : Option Addr} {sl_draw : Array (Option Value)} {oc_draw kV_draw dc_draw pm_draw cd_draw ct_draw : Value}
    {f_one : Addr} {od_one an_one : Option Addr} {sl_one : Array (Option Value)} {oc_one kV_one dc_one pm_one cd_one ct_one : Value}
    {f_step_drawn : Addr} {od_step_drawn an_step_drawn : Option Addr} {sl_step_drawn : Array (Option Value)} {oc_step_drawn kV_step_drawn dc_step_drawn pm_step_drawn cd_step_drawn ct_step_drawn : Value}
    {f_program : Addr} {od_program an_program : Option Addr} {sl_program : Array (Option Value)} {oc_program kV_program dc_program pm_program cd_program ct_program : Value}
    {f_loops : Addr} {od_loops an_loops : Option Addr} {sl_loops : Array (Option Value)} {oc_loops kV_loops dc_loops pm_loops cd_loops ct_loops : Value}
    {f_lany : Addr} {od_lany an_lany : Option Addr} {sl_lany : Array (Option Value)} {oc_lany kV_lany dc_lany pm_lany cd_lany ct_lany : Value}
    {f_lis_whole : Addr} {od_lis_whole an_lis_whole : Option Addr} {sl_lis_whole : Array (Option Value)} {oc_lis_whole kV_lis_whole dc_lis_whole pm_lis_whole cd_lis_whole ct_lis_whole : Value}
    {f_lare_places : Addr} {od_lare_places an_lare_places : Option Addr} {sl_lare_places : Array (Option Value)} {oc_lare_places kV_lare_places dc_lare_places pm_lare_places cd_lare_places ct_lare_places : Value}
    {f_lis_step : Addr} {od_lis_step an_lis_step : Option Addr} {sl_lis_step : Array (Option Value)} {oc_lis_step kV_lis_step dc_lis_step pm_lis_step cd_lis_step ct_lis_step : Value}
    {f_common : Addr} {od_common an_common : Option Addr} {sl_common : Array (Option Value)} {oc_common kV_common dc_common pm_common cd_common ct_common : Value}
    {f_odd : Addr} {od_odd an_odd : Option Addr} {sl_odd : Array (Option Value)} {oc_odd kV_odd dc_odd pm_odd cd_odd ct_odd : Value}
    {f_bent : Addr} {od_bent an_bent : Option Addr} {sl_bent : Array (Option Value)} {oc_bent kV_bent dc_bent pm_bent cd_bent ct_bent : Value}
    {f_lrest : Addr} {od_lrest an_lrest : Option Addr} {sl_lrest : Array (Option Value)} {oc_lrest kV_lrest dc_lrest pm_lrest cd_lrest ct_lrest : Value}
    {f_error : Addr} {od_error an_error : Option Addr} {sl_error : Array (Option Value)} {oc_error kV_error dc_error pm_error cd_error ct_error : Value}
    {f_law : Addr} {od_law an_law : Option Addr} {sl_law : Array (Option Value)} {oc_law kV_law dc_law pm_law cd_law ct_law : Value}
    (a_is_whole : PySem.W.nsIn K mainGlobals "is_whole" = some (some (.ref f_is_whole)))
    (l_is_whole : K.lookup f_is_whole = some ⟨oc_is_whole, od_is_whole, .func (PySem.W.fnOf "is_whole" "is_whole" (defArgs s_is_whole) (defBody s_is_whole) (defScope s_is_whole) .none kV_is_whole dc_is_whole pm_is_whole an_is_whole cd_is_whole ct_is_whole), sl_is_whole⟩)
    (c_is_whole : PySem.W.codeIn K cd_is_whole "is_whole" = true) (k_is_whole : PySem.W.keepIn K (.ref f_is_whole) = true)
    (a_least_multiple : PySem.W.nsIn K mainGlobals "least_multiple" = some (some (.ref f_least_multiple)))
    (l_least_multiple : K.lookup f_least_multiple = some ⟨oc_least_multiple, od_least_multiple, .func (PySem.W.fnOf "least_multiple" "least_multiple" (defArgs s_least_multiple) (defBody s_least_multiple) (defScope s_least_multiple) .none kV_least_multiple dc_least_multiple pm_least_multiple an_least_multiple cd_least_multiple ct_least_multiple), sl_least_multiple⟩)
    (c_least_multiple : PySem.W.codeIn K cd_least_multiple "least_multiple" = true) (k_least_multiple : PySem.W.keepIn K (.ref f_least_multiple) = true)
    (a_program_error : PySem.W.nsIn K mainGlobals "program_error" = some (some (.ref f_program_error)))
    (l_program_error : K.lookup f_program_error = some ⟨oc_program_error, od_program_error, .func (PySem.W.fnOf "program_error" "program_error" (defArgs s_program_error) (defBody s_program_error) (defScope s_program_error) .none kV_program_error dc_program_error pm_program_error an_program_error cd_program_error ct_program_error), sl_program_error⟩)
    (c_program_error : PySem.W.codeIn K cd_program_error "program_error" = true) (k_program_error : PySem.W.keepIn K (.ref f_program_error) = true)
    (a_is_step : PySem.W.nsIn K mainGlobals "_is_step" = some (some (.ref f_is_step)))
    (l_is_step : K.lookup f_is_step = some ⟨oc_is_step, od_is_step, .func (PySem.W.fnOf "_is_step" "_is_step" (defArgs s_is_step) (defBody s_is_step) (defScope s_is_step) .none kV_is_step dc_is_step pm_is_step an_is_step cd_is_step ct_is_step), sl_is_step⟩)
    (c_is_step : PySem.W.codeIn K cd_is_step "_is_step" = true) (k_is_step : PySem.W.keepIn K (.ref f_is_step) = true)
    (a_is_count_and_places : PySem.W.nsIn K mainGlobals "_is_count_and_places" = some (some (.ref f_is_count_and_places)))
    (l_is_count_and_places : K.lookup f_is_count_and_places = some ⟨oc_is_count_and_places, od_is_count_and_places, .func (PySem.W.fnOf "_is_count_and_places" "_is_count_and_places" (defArgs s_is_count_and_places) (defBody s_is_count_and_places) (defScope s_is_count_and_places) .none kV_is_count_and_places dc_is_count_and_places pm_is_count_and_places an_is_count_and_places cd_is_count_and_places ct_is_count_and_places), sl_is_count_and_places⟩)
    (c_is_count_and_places : PySem.W.codeIn K cd_is_count_and_places "_is_count_and_places" = true) (k_is_count_and_places : PySem.W.keepIn K (.ref f_is_count_and_places) = true)
    (a_are_places : PySem.W.nsIn K mainGlobals "_are_places" = some (some (.ref f_are_places)))
    (l_are_places : K.lookup f_are_places = some ⟨oc_are_places, od_are_places, .func (PySem.W.fnOf "_are_places" "_are_places" (defArgs s_are_places) (defBody s_are_places) (defScope s_are_places) .none kV_are_places dc_are_places pm_are_places an_are_places cd_are_places ct_are_places), sl_are_places⟩)
    (c_are_places : PySem.W.codeIn K cd_are_places "_are_places" = true) (k_are_places : PySem.W.keepIn K (.ref f_are_places) = true)
    (a_round_number : PySem.W.nsIn K mainGlobals "round_number" = some (some (.ref f_round_number)))
    (l_round_number : K.lookup f_round_number = some ⟨oc_round_number, od_round_number, .func (PySem.W.fnOf "round_number" "round_number" (defArgs s_round_number) (defBody s_round_number) (defScope s_round_number) .none kV_round_number dc_round_number pm_round_number an_round_number cd_round_number ct_round_number), sl_round_number⟩)
    (c_round_number : PySem.W.codeIn K cd_round_number "round_number" = true) (k_round_number : PySem.W.keepIn K (.ref f_round_number) = true)
    (a_book_error : PySem.W.nsIn K mainGlobals "book_error" = some (some (.ref f_book_error)))
    (l_book_error : K.lookup f_book_error = some ⟨oc_book_error, od_book_error, .func (PySem.W.fnOf "book_error" "book_error" (defArgs s_book_error) (defBody s_book_error) (defScope s_book_error) .none kV_book_error dc_book_error pm_book_error an_book_error cd_book_error ct_book_error), sl_book_error⟩)
    (c_book_error : PySem.W.codeIn K cd_book_error "book_error" = true) (k_book_error : PySem.W.keepIn K (.ref f_book_error) = true)
    (a_rule_error : PySem.W.nsIn K mainGlobals "rule_error" = some (some (.ref f_rule_error)))
    (l_rule_error : K.lookup f_rule_error = some ⟨oc_rule_error, od_rule_error, .func (PySem.W.fnOf "rule_error" "rule_error" (defArgs s_rule_error) (defBody s_rule_error) (defScope s_rule_error) .none kV_rule_error dc_rule_error pm_rule_error an_rule_error cd_rule_error ct_rule_error), sl_rule_error⟩)
    (c_rule_error : PySem.W.codeIn K cd_rule_error "rule_error" = true) (k_rule_error : PySem.W.keepIn K (.ref f_rule_error) = true)
    (a_saying_error : PySem.W.nsIn K mainGlobals "saying_error" = some (some (.ref f_saying_error)))
    (l_saying_error : K.lookup f_saying_error = some ⟨oc_saying_error, od_saying_error, .func (PySem.W.fnOf "saying_error" "saying_error" (defArgs s_saying_error) (defBody s_saying_error) (defScope s_saying_error) .none kV_saying_error dc_saying_error pm_saying_error an_saying_error cd_saying_error ct_saying_error), sl_saying_error⟩)
    (c_saying_error : PySem.W.codeIn K cd_saying_error "saying_error" = true) (k_saying_error : PySem.W.keepIn K (.ref f_saying_error) = true)
    (a_is_over : PySem.W.nsIn K mainGlobals "is_over" = some (some (.ref f_is_over)))
    (l_is_over : K.lookup f_is_over = some ⟨oc_is_over, od_is_over, .func (PySem.W.fnOf "is_over" "is_over" (defArgs s_is_over) (defBody s_is_over) (defScope s_is_over) .none kV_is_over dc_is_over pm_is_over an_is_over cd_is_over ct_is_over), sl_is_over⟩)
    (c_is_over : PySem.W.codeIn K cd_is_over "is_over" = true) (k_is_over : PySem.W.keepIn K (.ref f_is_over) = true)
    (a_maker_error : PySem.W.nsIn K mainGlobals "maker_error" = some (some (.ref f_maker_error)))
    (l_maker_error : K.lookup f_maker_error = some ⟨oc_maker_error, od_maker_error, .func (PySem.W.fnOf "maker_error" "maker_error" (defArgs s_maker_error) (defBody s_maker_error) (defScope s_maker_error) .none kV_maker_error dc_maker_error pm_maker_error an_maker_error cd_maker_error ct_maker_error), sl_maker_error⟩)
    (c_maker_error : PySem.W.codeIn K cd_maker_error "maker_error" = true) (k_maker_error : PySem.W.keepIn K (.ref f_maker_error) = true)
    (a_wrong_word : PySem.W.nsIn K mainGlobals "_wrong_word" = some (some (.ref f_wrong_word)))
    (l_wrong_word : K.lookup f_wrong_word = some ⟨oc_wrong_word, od_wrong_word, .func (PySem.W.fnOf "_wrong_word" "_wrong_word" (defArgs s_wrong_word) (defBody s_wrong_word) (defScope s_wrong_word) .none kV_wrong_word dc_wrong_word pm_wrong_word an_wrong_word cd_wrong_word ct_wrong_word), sl_wrong_word⟩)
    (c_wrong_word : PySem.W.codeIn K cd_wrong_word "_wrong_word" = true) (k_wrong_word : PySem.W.keepIn K (.ref f_wrong_word) = true)
    (a_fits_one : PySem.W.nsIn K mainGlobals "_fits_one" = some (some (.ref f_fits_one)))
    (l_fits_one : K.lookup f_fits_one = some ⟨oc_fits_one, od_fits_one, .func (PySem.W.fnOf "_fits_one" "_fits_one" (defArgs s_fits_one) (defBody s_fits_one) (defScope s_fits_one) .none kV_fits_one dc_fits_one pm_fits_one an_fits_one cd_fits_one ct_fits_one), sl_fits_one⟩)
    (c_fits_one : PySem.W.codeIn K cd_fits_one "_fits_one" = true) (k_fits_one : PySem.W.keepIn K (.ref f_fits_one) = true)
    (a_fits_two : PySem.W.nsIn K mainGlobals "_fits_two" = some (some (.ref f_fits_two)))
    (l_fits_two : K.lookup f_fits_two = some ⟨oc_fits_two, od_fits_two, .func (PySem.W.fnOf "_fits_two" "_fits_two" (defArgs s_fits_two) (defBody s_fits_two) (defScope s_fits_two) .none kV_fits_two dc_fits_two pm_fits_two an_fits_two cd_fits_two ct_fits_two), sl_fits_two⟩)
    (c_fits_two : PySem.W.codeIn K cd_fits_two "_fits_two" = true) (k_fits_two : PySem.W.keepIn K (.ref f_fits_two) = true)
    (a_deck : PySem.W.nsIn K mainGlobals "_law_deck" = some (some (.ref f_deck)))
    (l_deck : K.lookup f_deck = some ⟨oc_deck, od_deck, .func (PySem.W.fnOf "_law_deck" "_law_deck" (defArgs s_deck) (defBody s_deck) (defScope s_deck) .none kV_deck dc_deck pm_deck an_deck cd_deck ct_deck), sl_deck⟩)
    (c_deck : PySem.W.codeIn K cd_deck "_law_deck" = true) (k_deck : PySem.W.keepIn K (.ref f_deck) = true)
    (a_draw : PySem.W.nsIn K mainGlobals "_law_draw" = some (some (.ref f_draw)))
    (l_draw : K.lookup f_draw = some ⟨oc_draw, od_draw, .func (PySem.W.fnOf "_law_draw" "_law_draw" (defArgs s_draw) (defBody s_draw) (defScope s_draw) .none kV_draw dc_draw pm_draw an_draw cd_draw ct_draw), sl_draw⟩)
    (c_draw : PySem.W.codeIn K cd_draw "_law_draw" = true) (k_draw : PySem.W.keepIn K (.ref f_draw) = true)
    (a_one : PySem.W.nsIn K mainGlobals "_law_one" = some (some (.ref f_one)))
    (l_one : K.lookup f_one = some ⟨oc_one, od_one, .func (PySem.W.fnOf "_law_one" "_law_one" (defArgs s_one) (defBody s_one) (defScope s_one) .none kV_one dc_one pm_one an_one cd_one ct_one), sl_one⟩)
    (c_one : PySem.W.codeIn K cd_one "_law_one" = true) (k_one : PySem.W.keepIn K (.ref f_one) = true)
    (a_step_drawn : PySem.W.nsIn K mainGlobals "_law_step_drawn" = some (some (.ref f_step_drawn)))
    (l_step_drawn : K.lookup f_step_drawn = some ⟨oc_step_drawn, od_step_drawn, .func (PySem.W.fnOf "_law_step_drawn" "_law_step_drawn" (defArgs s_step_drawn) (defBody s_step_drawn) (defScope s_step_drawn) .none kV_step_drawn dc_step_drawn pm_step_drawn an_step_drawn cd_step_drawn ct_step_drawn), sl_step_drawn⟩)
    (c_step_drawn : PySem.W.codeIn K cd_step_drawn "_law_step_drawn" = true) (k_step_drawn : PySem.W.keepIn K (.ref f_step_drawn) = true)
    (a_program : PySem.W.nsIn K mainGlobals "_law_program" = some (some (.ref f_program)))
    (l_program : K.lookup f_program = some ⟨oc_program, od_program, .func (PySem.W.fnOf "_law_program" "_law_program" (defArgs s_program) (defBody s_program) (defScope s_program) .none kV_program dc_program pm_program an_program cd_program ct_program), sl_program⟩)
    (c_program : PySem.W.codeIn K cd_program "_law_program" = true) (k_program : PySem.W.keepIn K (.ref f_program) = true)
    (a_loops : PySem.W.nsIn K mainGlobals "_law_loops" = some (some (.ref f_loops)))
    (l_loops : K.lookup f_loops = some ⟨oc_loops, od_loops, .func (PySem.W.fnOf "_law_loops" "_law_loops" (defArgs s_loops) (defBody s_loops) (defScope s_loops) .none kV_loops dc_loops pm_loops an_loops cd_loops ct_loops), sl_loops⟩)
    (c_loops : PySem.W.codeIn K cd_loops "_law_loops" = true) (k_loops : PySem.W.keepIn K (.ref f_loops) = true)
    (a_lany : PySem.W.nsIn K mainGlobals "_law_any" = some (some (.ref f_lany)))
    (l_lany : K.lookup f_lany = some ⟨oc_lany, od_lany, .func (PySem.W.fnOf "_law_any" "_law_any" (defArgs s_lany) (defBody s_lany) (defScope s_lany) .none kV_lany dc_lany pm_lany an_lany cd_lany ct_lany), sl_lany⟩)
    (c_lany : PySem.W.codeIn K cd_lany "_law_any" = true) (k_lany : PySem.W.keepIn K (.ref f_lany) = true)
    (a_lis_whole : PySem.W.nsIn K mainGlobals "_law_is_whole" = some (some (.ref f_lis_whole)))
    (l_lis_whole : K.lookup f_lis_whole = some ⟨oc_lis_whole, od_lis_whole, .func (PySem.W.fnOf "_law_is_whole" "_law_is_whole" (defArgs s_lis_whole) (defBody s_lis_whole) (defScope s_lis_whole) .none kV_lis_whole dc_lis_whole pm_lis_whole an_lis_whole cd_lis_whole ct_lis_whole), sl_lis_whole⟩)
    (c_lis_whole : PySem.W.codeIn K cd_lis_whole "_law_is_whole" = true) (k_lis_whole : PySem.W.keepIn K (.ref f_lis_whole) = true)
    (a_lare_places : PySem.W.nsIn K mainGlobals "_law_are_places" = some (some (.ref f_lare_places)))
    (l_lare_places : K.lookup f_lare_places = some ⟨oc_lare_places, od_lare_places, .func (PySem.W.fnOf "_law_are_places" "_law_are_places" (defArgs s_lare_places) (defBody s_lare_places) (defScope s_lare_places) .none kV_lare_places dc_lare_places pm_lare_places an_lare_places cd_lare_places ct_lare_places), sl_lare_places⟩)
    (c_lare_places : PySem.W.codeIn K cd_lare_places "_law_are_places" = true) (k_lare_places : PySem.W.keepIn K (.ref f_lare_places) = true)
    (a_lis_step : PySem.W.nsIn K mainGlobals "_law_is_step" = some (some (.ref f_lis_step)))
    (l_lis_step : K.lookup f_lis_step = some ⟨oc_lis_step, od_lis_step, .func (PySem.W.fnOf "_law_is_step" "_law_is_step" (defArgs s_lis_step) (defBody s_lis_step) (defScope s_lis_step) .none kV_lis_step dc_lis_step pm_lis_step an_lis_step cd_lis_step ct_lis_step), sl_lis_step⟩)
    (c_lis_step : PySem.W.codeIn K cd_lis_step "_law_is_step" = true) (k_lis_step : PySem.W.keepIn K (.ref f_lis_step) = true)
    (a_common : PySem.W.nsIn K mainGlobals "_law_common" = some (some (.ref f_common)))
    (l_common : K.lookup f_common = some ⟨oc_common, od_common, .func (PySem.W.fnOf "_law_common" "_law_common" (defArgs s_common) (defBody s_common) (defScope s_common) .none kV_common dc_common pm_common an_common cd_common ct_common), sl_common⟩)
    (c_common : PySem.W.codeIn K cd_common "_law_common" = true) (k_common : PySem.W.keepIn K (.ref f_common) = true)
    (a_odd : PySem.W.nsIn K mainGlobals "_law_odd" = some (some (.ref f_odd)))
    (l_odd : K.lookup f_odd = some ⟨oc_odd, od_odd, .func (PySem.W.fnOf "_law_odd" "_law_odd" (defArgs s_odd) (defBody s_odd) (defScope s_odd) .none kV_odd dc_odd pm_odd an_odd cd_odd ct_odd), sl_odd⟩)
    (c_odd : PySem.W.codeIn K cd_odd "_law_odd" = true) (k_odd : PySem.W.keepIn K (.ref f_odd) = true)
    (a_bent : PySem.W.nsIn K mainGlobals "_law_bent" = some (some (.ref f_bent)))
    (l_bent : K.lookup f_bent = some ⟨oc_bent, od_bent, .func (PySem.W.fnOf "_law_bent" "_law_bent" (defArgs s_bent) (defBody s_bent) (defScope s_bent) .none kV_bent dc_bent pm_bent an_bent cd_bent ct_bent), sl_bent⟩)
    (c_bent : PySem.W.codeIn K cd_bent "_law_bent" = true) (k_bent : PySem.W.keepIn K (.ref f_bent) = true)
    (a_lrest : PySem.W.nsIn K mainGlobals "_law_rest" = some (some (.ref f_lrest)))
    (l_lrest : K.lookup f_lrest = some ⟨oc_lrest, od_lrest, .func (PySem.W.fnOf "_law_rest" "_law_rest" (defArgs s_lrest) (defBody s_lrest) (defScope s_lrest) .none kV_lrest dc_lrest pm_lrest an_lrest cd_lrest ct_lrest), sl_lrest⟩)
    (c_lrest : PySem.W.codeIn K cd_lrest "_law_rest" = true) (k_lrest : PySem.W.keepIn K (.ref f_lrest) = true)
    (a_error : PySem.W.nsIn K mainGlobals "_law_error" = some (some (.ref f_error)))
    (l_error : K.lookup f_error = some ⟨oc_error, od_error, .func (PySem.W.fnOf "_law_error" "_law_error" (defArgs s_error) (defBody s_error) (defScope s_error) .none kV_error dc_error pm_error an_error cd_error ct_error), sl_error⟩)
    (c_error : PySem.W.codeIn K cd_error "_law_error" = true) (k_error : PySem.W.keepIn K (.ref f_error) = true)
    (a_law : PySem.W.nsIn K mainGlobals "law" = some (some (.ref f_law)))
    (l_law : K.lookup f_law = some ⟨oc_law, od_law, .func (PySem.W.fnOf "law" "law" (defArgs s_law) (defBody s_law) (defScope s_law) .none kV_law dc_law pm_law an_law cd_law ct_law), sl_law⟩)
    (c_law : PySem.W.codeIn K cd_law "law" = true) (k_law : PySem.W.keepIn K (.ref f_law) = true)
    (z_all : PySem.W.nsIn K mainGlobals "all" = some none)
    (z_bool : PySem.W.nsIn K mainGlobals "bool" = some none)
    (z_enumerate : PySem.W.nsIn K mainGlobals "enumerate" = some none)
    (z_int : PySem.W.nsIn K mainGlobals "int" = some none)
    (z_isinstance : PySem.W.nsIn K mainGlobals "isinstance" = some none)
    (z_len : PySem.W.nsIn K mainGlobals "len" = some none)
    (z_list : PySem.W.nsIn K mainGlobals "list" = some none)
    (z_max : PySem.W.nsIn K mainGlobals "max" = some none)
    (z_min : PySem.W.nsIn K mainGlobals "min" = some none)
    (z_range : PySem.W.nsIn K mainGlobals "range" = some none)
    (z_repr : PySem.W.nsIn K mainGlobals "repr" = some none)
    (z_sorted : PySem.W.nsIn K mainGlobals "sorted" = some none)
    (z_str : PySem.W.nsIn K mainGlobals "str" = some none)
    (z_sum : PySem.W.nsIn K mainGlobals "sum" = some none)
    (z_tuple : PySem.W.nsIn K mainGlobals "tuple" = some none)
    (z_zip : PySem.W.nsIn K mainGlobals "zip" = some none)
    {f__ITEMS_BEHIND : Addr} {e__ITEMS_BEHIND : Array DictEntry} {n__ITEMS_BEHIND : Nat} (a__ITEMS_BEHIND : PySem.W.nsIn K mainGlobals "_ITEMS_BEHIND" = some (some (.ref f__ITEMS_BEHIND)))
    (l__ITEMS_BEHIND : K.lookup f__ITEMS_BEHIND = some { cls := .type "dict", data := .dict e__ITEMS_BEHIND n__ITEMS_BEHIND })
    (t__ITEMS_BEHIND : PySem.W.KeysLit w.params e__ITEMS_BEHIND.toList) (w__ITEMS_BEHIND : (f__ITEMS_BEHIND == sysModules) = false)
    (y__ITEMS_BEHIND : ∀ z, ∃ r, lookE e__ITEMS_BEHIND z = some r ∧ dvOk [(("table" : Str), 1), (("watches" : Str), 1), (("coins" : Str), 1), (("web" : Str), 1), (("game" : Str), 1), (("book" : Str), 2), (("program" : Str), 2), (("row" : Str), 2), (("saying" : Str), 2)] z r)
    {f__ANSWERS : Addr} {i__ANSWERS : Array Value} {n__ANSWERS : Nat} (a__ANSWERS : PySem.W.nsIn K mainGlobals "_ANSWERS" = some (some (.ref f__ANSWERS)))
    (l__ANSWERS : K.lookup f__ANSWERS = some { cls := .type "tuple", data := .seq i__ANSWERS n__ANSWERS })
    (v__ANSWERS : i__ANSWERS.size ≤ sizeLine ∧ Vals [V.str ("yes" : Str), V.str ("no" : Str), V.str ("never" : Str)] i__ANSWERS.toList)
    (m_lcm : PySem.W.nsIn K mainGlobals "lcm" = some (some (.builtin "math.lcm")))
    {t_MAX_PLACES : Tok} (m_MAX_PLACES : PySem.W.nsIn K mainGlobals "MAX_PLACES" = some (some (.int 6 t_MAX_PLACES)))
    {t_MAX_STEP : Tok} (m_MAX_STEP : PySem.W.nsIn K mainGlobals "MAX_STEP" = some (some (.int 4 t_MAX_STEP)))
    {t_MAX_ROUND : Tok} (m_MAX_ROUND : PySem.W.nsIn K mainGlobals "MAX_ROUND" = some (some (.int 6 t_MAX_ROUND)))
    {t__MOST_MAKERS : Tok} (m__MOST_MAKERS : PySem.W.nsIn K mainGlobals "_MOST_MAKERS" = some (some (.int 9 t__MOST_MAKERS)))
    {t__MOST_PATH : Tok} (m__MOST_PATH : PySem.W.nsIn K mainGlobals "_MOST_PATH" = some (some (.int 2 t__MOST_PATH)))
    {t__MOST_INNER : Tok} (m__MOST_INNER : PySem.W.nsIn K mainGlobals "_MOST_INNER" = some (some (.int 3 t__MOST_INNER)))
    : ∃ fd : FuncData, (∀ (s : Shared) (v : Value), BindsTo s fd ⟨[v], []⟩ [("_law_script", v)]) ∧ ∀ base : Heap, K.In base → base.Ns mainGlobals mg → HasSys base → FnG l.prog w K mg base 11 fa fd ["_law_script"] (spLaw K) := by
  have e := hfa.symm.trans (PySem.W.mg_of X G a_law)
  cases e
  let T : Tp K mg := {
    a_is_whole := f_is_whole, d_is_whole := _, F_is_whole := fun_mk (st := s_is_whole) l_is_whole c_is_whole k_is_whole, g_is_whole := PySem.W.mg_of X G a_is_whole,
    a_least_multiple := f_least_multiple, d_least_multiple := _, F_least_multiple := fun_mk (st := s_least_multiple) l_least_multiple c_least_multiple k_least_multiple, g_least_multiple := PySem.W.mg_of X G a_least_multiple,
    a_program_error := f_program_error, d_program_error := _, F_program_error := fun_mk (st := s_program_error) l_program_error c_program_error k_program_error, g_program_error := PySem.W.mg_of X G a_program_error,
    a_is_step := f_is_step, d_is_step := _, F_is_step := fun_mk (st := s_is_step) l_is_step c_is_step k_is_step, g_is_step := PySem.W.mg_of X G a_is_step,
    a_is_count_and_places := f_is_count_and_places, d_is_count_and_places := _, F_is_count_and_places := fun_mk (st := s_is_count_and_places) l_is_count_and_places c_is_count_and_places k_is_count_and_places, g_is_count_and_places := PySem.W.mg_of X G a_is_count_and_places,
    a_are_places := f_are_places, d_are_places := _, F_are_places := fun_mk (st := s_are_places) l_are_places c_are_places k_are_places, g_are_places := PySem.W.mg_of X G a_are_places,
    a_round_number := f_round_number, d_round_number := _, F_round_number := fun_mk (st := s_round_number) l_round_number c_round_number k_round_number, g_round_number := PySem.W.mg_of X G a_round_number,
    a_book_error := f_book_error, d_book_error := _, F_book_error := fun_mk (st := s_book_error) l_book_error c_book_error k_book_error, g_book_error := PySem.W.mg_of X G a_book_error,
    a_rule_error := f_rule_error, d_rule_error := _, F_rule_error := fun_mk (st := s_rule_error) l_rule_error c_rule_error k_rule_error, g_rule_error := PySem.W.mg_of X G a_rule_error,
    a_saying_error := f_saying_error, d_saying_error := _, F_saying_error := fun_mk (st := s_saying_error) l_saying_error c_saying_error k_saying_error, g_saying_error := PySem.W.mg_of X G a_saying_error,
    a_is_over := f_is_over, d_is_over := _, F_is_over := fun_mk (st := s_is_over) l_is_over c_is_over k_is_over, g_is_over := PySem.W.mg_of X G a_is_over,
    a_maker_error := f_maker_error, d_maker_error := _, F_maker_error := fun_mk (st := s_maker_error) l_maker_error c_maker_error k_maker_error, g_maker_error := PySem.W.mg_of X G a_maker_error,
    a_wrong_word := f_wrong_word, d_wrong_word := _, F_wrong_word := fun_mk (st := s_wrong_word) l_wrong_word c_wrong_word k_wrong_word, g_wrong_word := PySem.W.mg_of X G a_wrong_word,
    a_fits_one := f_fits_one, d_fits_one := _, F_fits_one := fun_mk (st := s_fits_one) l_fits_one c_fits_one k_fits_one, g_fits_one := PySem.W.mg_of X G a_fits_one,
    a_fits_two := f_fits_two, d_fits_two := _, F_fits_two := fun_mk (st := s_fits_two) l_fits_two c_fits_two k_fits_two, g_fits_two := PySem.W.mg_of X G a_fits_two,
    a_deck := f_deck, d_deck := _, F_deck := fun_mk (st := s_deck) l_deck c_deck k_deck, g_deck := PySem.W.mg_of X G a_deck,
    a_draw := f_draw, d_draw := _, F_draw := fun_mk (st := s_draw) l_draw c_draw k_draw, g_draw := PySem.W.mg_of X G a_draw,
    a_one := f_one, d_one := _, F_one := fun_mk (st := s_one) l_one c_one k_one, g_one := PySem.W.mg_of X G a_one,
    a_step_drawn := f_step_drawn, d_step_drawn := _, F_step_drawn := fun_mk (st := s_step_drawn) l_step_drawn c_step_drawn k_step_drawn, g_step_drawn := PySem.W.mg_of X G a_step_drawn,
    a_program := f_program, d_program := _, F_program := fun_mk (st := s_program) l_program c_program k_program, g_program := PySem.W.mg_of X G a_program,
    a_loops := f_loops, d_loops := _, F_loops := fun_mk (st := s_loops) l_loops c_loops k_loops, g_loops := PySem.W.mg_of X G a_loops,
    a_lany := f_lany, d_lany := _, F_lany := fun_mk (st := s_lany) l_lany c_lany k_lany, g_lany := PySem.W.mg_of X G a_lany,
    a_lis_whole := f_lis_whole, d_lis_whole := _, F_lis_whole := fun_mk (st := s_lis_whole) l_lis_whole c_lis_whole k_lis_whole, g_lis_whole := PySem.W.mg_of X G a_lis_whole,
    a_lare_places := f_lare_places, d_lare_places := _, F_lare_places := fun_mk (st := s_lare_places) l_lare_places c_lare_places k_lare_places, g_lare_places := PySem.W.mg_of X G a_lare_places,
    a_lis_step := f_lis_step, d_lis_step := _, F_lis_step := fun_mk (st := s_lis_step) l_lis_step c_lis_step k_lis_step, g_lis_step := PySem.W.mg_of X G a_lis_step,
    a_common := f_common, d_common := _, F_common := fun_mk (st := s_common) l_common c_common k_common, g_common := PySem.W.mg_of X G a_common,
    a_odd := f_odd, d_odd := _, F_odd := fun_mk (st := s_odd) l_odd c_odd k_odd, g_odd := PySem.W.mg_of X G a_odd,
    a_bent := f_bent, d_bent := _, F_bent := fun_mk (st := s_bent) l_bent c_bent k_bent, g_bent := PySem.W.mg_of X G a_bent,
    a_lrest := f_lrest, d_lrest := _, F_lrest := fun_mk (st := s_lrest) l_lrest c_lrest k_lrest, g_lrest := PySem.W.mg_of X G a_lrest,
    a_error := f_error, d_error := _, F_error := fun_mk (st := s_error) l_error c_error k_error, g_error := PySem.W.mg_of X G a_error,
    a_law := fa, d_law := _, F_law := fun_mk (st := s_law) l_law c_law k_law, g_law := PySem.W.mg_of X G a_law,
    n_all := PySem.W.mg_none_of X G z_all,
    n_bool := PySem.W.mg_none_of X G z_bool,
    n_enumerate := PySem.W.mg_none_of X G z_enumerate,
    n_int := PySem.W.mg_none_of X G z_int,
    n_isinstance := PySem.W.mg_none_of X G z_isinstance,
    n_len := PySem.W.mg_none_of X G z_len,
    n_list := PySem.W.mg_none_of X G z_list,
    n_max := PySem.W.mg_none_of X G z_max,
    n_min := PySem.W.mg_none_of X G z_min,
    n_range := PySem.W.mg_none_of X G z_range,
    n_repr := PySem.W.mg_none_of X G z_repr,
    n_sorted := PySem.W.mg_none_of X G z_sorted,
    n_str := PySem.W.mg_none_of X G z_str,
    n_sum := PySem.W.mg_none_of X G z_sum,
    n_tuple := PySem.W.mg_none_of X G z_tuple,
    n_zip := PySem.W.mg_none_of X G z_zip,
    pr := w.params,
    a__ITEMS_BEHIND := f__ITEMS_BEHIND, es__ITEMS_BEHIND := e__ITEMS_BEHIND, n__ITEMS_BEHIND := n__ITEMS_BEHIND, m__ITEMS_BEHIND := PySem.W.mg_of X G a__ITEMS_BEHIND, D__ITEMS_BEHIND := fun wd e => ⟨l__ITEMS_BEHIND, e ▸ t__ITEMS_BEHIND, w__ITEMS_BEHIND⟩, L__ITEMS_BEHIND := fun z => (ns_look l__ITEMS_BEHIND z).symm ▸ y__ITEMS_BEHIND z,
    a__ANSWERS := f__ANSWERS, m__ANSWERS := PySem.W.mg_of X G a__ANSWERS, q__ANSWERS := ⟨_, _, _, l__ANSWERS, rfl, rfl, v__ANSWERS.1, v__ANSWERS.2⟩,
    m_lcm := PySem.W.mg_of X G m_lcm,
    k_MAX_PLACES := t_MAX_PLACES, m_MAX_PLACES := PySem.W.mg_of X G m_MAX_PLACES,
    k_MAX_STEP := t_MAX_STEP, m_MAX_STEP := PySem.W.mg_of X G m_MAX_STEP,
    k_MAX_ROUND := t_MAX_ROUND, m_MAX_ROUND := PySem.W.mg_of X G m_MAX_ROUND,
    k__MOST_MAKERS := t__MOST_MAKERS, m__MOST_MAKERS := PySem.W.mg_of X G m__MOST_MAKERS,
    k__MOST_PATH := t__MOST_PATH, m__MOST_PATH := PySem.W.mg_of X G m__MOST_PATH,
    k__MOST_INNER := t__MOST_INNER, m__MOST_INNER := PySem.W.mg_of X G m__MOST_INNER }
  exact ⟨T.d_law, fun s v => .of_eq rfl, fun base _ _ hsy => ok_law T hsy rfl⟩
end G51
open PySem PySem.W PyProof.Rows
set_option maxHeartbeats 0 in
theorem PySem.Challenge.cw_leastmakers_k51_programs_judged_holds : PySem.Challenge.rw_leastmakers_k51_programs_judged.Holds := by
  w_on; o_law; k_head; (case hw => w_witness2)
  k_fill
  refine G1.walkGS (l := PySem.Challenge.rw_leastmakers_k51_programs_judged) (n := 63) (k := 11) (x := "_law_script") (sp := fun K => G51.spLaw K) (by decide +kernel) rfl (by decide) rfl ⟨rfl, by decide, by decide⟩ (fun w h Y => PySem.W.kIn_of Y) ?F (fun K H a ns hl _ hS => ⟨a, ns, rfl, hS, hl, fun _ => rfl⟩)
  case F =>
    intro w mg fa h KX G hmg
    refine' G51.all_mk KX G hmg ?a_is_whole ?l_is_whole ?c_is_whole ?k_is_whole ?a_least_multiple ?l_least_multiple ?c_least_multiple ?k_least_multiple ?a_program_error ?l_program_error ?c_program_error ?k_program_error ?a_is_step ?l_is_step ?c_is_step ?k_is_step ?a_is_count_and_places ?l_is_count_and_places ?c_is_count_and_places ?k_is_count_and_places ?a_are_places ?l_are_places ?c_are_places ?k_are_places ?a_round_number ?l_round_number ?c_round_number ?k_round_number ?a_book_error ?l_book_error ?c_book_error ?k_book_error ?a_rule_error ?l_rule_error ?c_rule_error ?k_rule_error ?a_saying_error ?l_saying_error ?c_saying_error ?k_saying_error ?a_is_over ?l_is_over ?c_is_over ?k_is_over ?a_maker_error ?l_maker_error ?c_maker_error ?k_maker_error ?a_wrong_word ?l_wrong_word ?c_wrong_word ?k_wrong_word ?a_fits_one ?l_fits_one ?c_fits_one ?k_fits_one ?a_fits_two ?l_fits_two ?c_fits_two ?k_fits_two ?a_deck ?l_deck ?c_deck ?k_deck ?a_draw ?l_draw ?c_draw ?k_draw ?a_one ?l_one ?c_one ?k_one ?a_step_drawn ?l_step_drawn ?c_step_drawn ?k_step_drawn ?a_program ?l_program ?c_program ?k_program ?a_loops ?l_loops ?c_loops ?k_loops ?a_lany ?l_lany ?c_lany ?k_lany ?a_lis_whole ?l_lis_whole ?c_lis_whole ?k_lis_whole ?a_lare_places ?l_lare_places ?c_lare_places ?k_lare_places ?a_lis_step ?l_lis_step ?c_lis_step ?k_lis_step ?a_common ?l_common ?c_common ?k_common ?a_odd ?l_odd ?c_odd ?k_odd ?a_bent ?l_bent ?c_bent ?k_bent ?a_lrest ?l_lrest ?c_lrest ?k_lrest ?a_error ?l_error ?c_error ?k_error ?a_law ?l_law ?c_law ?k_law ?z_all ?z_bool ?z_enumerate ?z_int ?z_isinstance ?z_len ?z_list ?z_max ?z_min ?z_range ?z_repr ?z_sorted ?z_str ?z_sum ?z_tuple ?z_zip ?a__ITEMS_BEHIND ?l__ITEMS_BEHIND ?t__ITEMS_BEHIND ?w__ITEMS_BEHIND ?y__ITEMS_BEHIND ?a__ANSWERS ?l__ANSWERS ?v__ANSWERS ?m_lcm ?m_MAX_PLACES ?m_MAX_STEP ?m_MAX_ROUND ?m__MOST_MAKERS ?m__MOST_PATH ?m__MOST_INNER
    (case a_is_whole => k_is); (case l_is_whole => k_is); (case c_is_whole => k_is); (case k_is_whole => k_is); (case a_least_multiple => k_is); (case l_least_multiple => k_is)
    (case c_least_multiple => k_is); (case k_least_multiple => k_is); (case a_program_error => k_is); (case l_program_error => k_is); (case c_program_error => k_is); (case k_program_error => k_is)
    (case a_is_step => k_is); (case l_is_step => k_is); (case c_is_step => k_is); (case k_is_step => k_is); (case a_is_count_and_places => k_is); (case l_is_count_and_places => k_is)
    (case c_is_count_and_places => k_is); (case k_is_count_and_places => k_is); (case a_are_places => k_is); (case l_are_places => k_is); (case c_are_places => k_is); (case k_are_places => k_is)
    (case a_round_number => k_is); (case l_round_number => k_is); (case c_round_number => k_is); (case k_round_number => k_is); (case a_book_error => k_is); (case l_book_error => k_is)
    (case c_book_error => k_is); (case k_book_error => k_is); (case a_rule_error => k_is); (case l_rule_error => k_is); (case c_rule_error => k_is); (case k_rule_error => k_is)
    (case a_saying_error => k_is); (case l_saying_error => k_is); (case c_saying_error => k_is); (case k_saying_error => k_is); (case a_is_over => k_is); (case l_is_over => k_is)
    (case c_is_over => k_is); (case k_is_over => k_is); (case a_maker_error => k_is); (case l_maker_error => k_is); (case c_maker_error => k_is); (case k_maker_error => k_is)
    (case a_wrong_word => k_is); (case l_wrong_word => k_is); (case c_wrong_word => k_is); (case k_wrong_word => k_is); (case a_fits_one => k_is); (case l_fits_one => k_is)
    (case c_fits_one => k_is); (case k_fits_one => k_is); (case a_fits_two => k_is); (case l_fits_two => k_is); (case c_fits_two => k_is); (case k_fits_two => k_is)
    (case a_deck => k_is); (case l_deck => k_is); (case c_deck => k_is); (case k_deck => k_is); (case a_draw => k_is); (case l_draw => k_is)
    (case c_draw => k_is); (case k_draw => k_is); (case a_one => k_is); (case l_one => k_is); (case c_one => k_is); (case k_one => k_is)
    (case a_step_drawn => k_is); (case l_step_drawn => k_is); (case c_step_drawn => k_is); (case k_step_drawn => k_is); (case a_program => k_is); (case l_program => k_is)
    (case c_program => k_is); (case k_program => k_is); (case a_loops => k_is); (case l_loops => k_is); (case c_loops => k_is); (case k_loops => k_is)
    (case a_lany => k_is); (case l_lany => k_is); (case c_lany => k_is); (case k_lany => k_is); (case a_lis_whole => k_is); (case l_lis_whole => k_is)
    (case c_lis_whole => k_is); (case k_lis_whole => k_is); (case a_lare_places => k_is); (case l_lare_places => k_is); (case c_lare_places => k_is); (case k_lare_places => k_is)
    (case a_lis_step => k_is); (case l_lis_step => k_is); (case c_lis_step => k_is); (case k_lis_step => k_is); (case a_common => k_is); (case l_common => k_is)
    (case c_common => k_is); (case k_common => k_is); (case a_odd => k_is); (case l_odd => k_is); (case c_odd => k_is); (case k_odd => k_is)
    (case a_bent => k_is); (case l_bent => k_is); (case c_bent => k_is); (case k_bent => k_is); (case a_lrest => k_is); (case l_lrest => k_is)
    (case c_lrest => k_is); (case k_lrest => k_is); (case a_error => k_is); (case l_error => k_is); (case c_error => k_is); (case k_error => k_is)
    (case a_law => k_is); (case l_law => k_is); (case c_law => k_is); (case k_law => k_is); (case z_all => k_is); (case z_bool => k_is)
    (case z_enumerate => k_is); (case z_int => k_is); (case z_isinstance => k_is); (case z_len => k_is); (case z_list => k_is); (case z_max => k_is)
    (case z_min => k_is); (case z_range => k_is); (case z_repr => k_is); (case z_sorted => k_is); (case z_str => k_is); (case z_sum => k_is)
    (case z_tuple => k_is); (case z_zip => k_is); (case a__ITEMS_BEHIND => k_is); (case l__ITEMS_BEHIND => k_is); (case a__ANSWERS => k_is); (case l__ANSWERS => k_is)
    (case m_lcm => k_is); (case m_MAX_PLACES => k_is); (case m_MAX_STEP => k_is); (case m_MAX_ROUND => k_is); (case m__MOST_MAKERS => k_is); (case m__MOST_PATH => k_is)
    (case m__MOST_INNER => k_is)
    (case w__ITEMS_BEHIND => rfl); (case t__ITEMS_BEHIND => (unfold PySem.W.KeysLit; repeat (first | exact trivial | refine ⟨⟨_, _, rfl, rfl⟩, ?_⟩))); (case y__ITEMS_BEHIND => (exact G1.look_match (by repeat (first | exact trivial | refine ⟨⟨_, rfl⟩, ⟨_, rfl⟩, ?_⟩))))
    (case v__ANSWERS => exact ⟨by decide, by repeat (first | exact .nil | refine .cons ⟨_, rfl⟩ ?_)⟩)
