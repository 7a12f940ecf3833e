import PyProof.Rows.All
import Wide.All
import OpenK.AllK
import Wide.FinOn
import HandS.ForMost
import HandS.StrMore
import HandS.Wide
import HandS.IsInst
import HandS.Codes
import HandS.Conv
import HandS.Style
import HandS.Ends
import KE.GoesNew
import HandS.ForDict
import HandS.TupAny
import HandS.TupMul
import PyProof.NeKinds
import HandS.Words
import KE.GoesZip
import HandS.Zip
import HandS.Walk
import HandS.Dict
import PyProof.Rows.RegReprOcc
import PyProof.Rows.StrStrike
import PyProof.FitsInt
import PyProof.ReprLen
import PyProof.Rows.IntBool
import PyProof.CallStr
import HandS.TupLe
import HandS.More
import PyProof.Rows.EqBoolInt
import HandS.Gcd
import KE.KMathGC
import PyProof.EqKinds
import HandS.JoinGen
import PyProof.StrCaseBound
import PyProof.Rows.StrFit
import PyProof.ListStr
import PyProof.TupleOfStr
import HandS.SortInts
import HandS.TupLen
import KE.BitLaws
import KE.OsArith
import PySem.Challenge.RW_leastmakers_k60_lost_numbers_and_worths
set_option Elab.async false
set_option linter.all false
set_option maxRecDepth 100000
set_option maxHeartbeats 8000000
/-! repr of whole data, and promises of defs that call it -/
namespace G1
open PySem PySem.Spec PyProof.Rows L2

/-- a promise of a def where no repr is under way around the call -/
structure FnG (P : Program) (w : World) (K : PySem.W.Frag) (mg : Str → Option Value) (base : Heap) (k : Nat) (f : Addr) (fd : FuncData) (ps : List Str) (sp : Sp) : Prop where
  cnt : ∀ vs H Q E, sp vs H Q E → vs.length = ps.length
  go : ∀ (A : Around) (ou : List Env) (s : Shared) (H : Hp) (ar : Args) (us : List Value) (vs : List V) (Q : VK) (E : XK), A.guards = some [] → Room k A →
    Env0 P w K mg base A ou s H → BindsTo s fd ar (ps.zip us) → Vals vs us → sp vs H Q E →
    codeAny (model P w) A (.call (.ref f) ar) (CR CX0 ou P w H s Q E) s

theorem FnG.of {P : Program} {w : World} {K : PySem.W.Frag} {mg : Str → Option Value} {base : Heap} {k : Nat} {f : Addr} {fd : FuncData} {ps : List Str} {sp : Sp}
    (F : FnOk P w K mg base CX0 k f fd ps sp) : FnG P w K mg base k f fd ps sp :=
  ⟨F.len, fun A ou s H ar us vs Q E _ hr he hb hv hs => F.run A ou s H ar us vs Q E hr he hb hv hs⟩

section
variable {P : Program} {w : World} {K : PySem.W.Frag} {mg : Str → Option Value} {base : Heap}
theorem fnG_of {x qual : Str} {st : Stmt} {f : Addr} {fd : FuncData} {N ps : List Str} {k : Nat} {sp : Sp} (F : Fun K x qual st f fd) (S : FnScope N ps (defScope st))
    (cnt : ∀ vs H Q E, sp vs H Q E → vs.length = ps.length)
    (body : ∀ (cdv : Value) (A : Around) (ou : List Env) (s : Shared) (H : Hp) (vs : List V) (Q : VK) (E : XK), A.guards = some [] →
      Room k (A.deeper (envOfC qual (defScope st) s.heap.objs.size f cdv)) → sp vs H Q E →
      ∃ t, PSs (cxOf CX0 P w K mg base N qual (defScope st) f cdv A ou s H E).nox (defBody st) t ∧
        t { nx := fun _ H' => Q .non H', rt := Q } (start N vs) H) :
    FnG P w K mg base (k + 1) f fd ps sp := by
  obtain ⟨oc, od, kV, doc, pm, an, cdv, ct, osl, rfl, lk, hcd⟩ := F.ex
  refine ⟨cnt, fun A ou s H ar us vs Q E hgd hr e0 hb rv hsp => ?_⟩
  have inK : K.In s.heap := e0.mod.kin.keeps fun b o e => (e0.bs b o e).1
  have hlim : s.heap.NoLimit := e0.mod.nolimit.keeps fun b o e => (e0.bs b o e).1
  have kinds : ∀ y ∈ ps.zip us, (defScope st).names.lookup y.1 = some .local ∨
      ((defScope st).names.lookup y.1 = some .cell ∧ ((cellsFrom (s.heap.objs.size + 1) (defScope st).names []).lookup y.1).isSome = true) := by
    intro y hy
    cases S.par y.1 (List.of_mem_zip hy).1 with
    | inl q => exact Or.inl q
    | inr q => exact Or.inr ⟨q, PySem.W.cellsFrom_some _ _ _ (Or.inl q)⟩
  refine codeAny_call_function hr.depth (inK _ _ lk) rfl S.co S.gen rfl (PySem.W.codeRec_of inK hcd) (hb _ _ _ _ ?_)
  refine wpAny_newFunctionEnv_cells S.kind kinds fun env he s1 x => ?_
  subst he
  refine And.intro (hlim.keeps x.toInCall.keep) (codeAny_func ?_)
  obtain ⟨t, ht0, hq⟩ := body cdv A ou s H vs Q E hgd (hr.deeper _) hsp
  have ht := ht0.nox
  have J0 := inv_start (CX := CX0) S hr.hd e0 (cnt _ _ _ _ hsp) rv x (E := E)
  refine wpAny_mono (ht.run [] s1 (start N vs) H _ J0 hq) ?_ (fun e s' hs => hs)
  intro fl s' hs
  cases fl with
  | ret u =>
    obtain ⟨v, σ', H', J, r1, q⟩ := hs
    exact ⟨v, H', J.os, J.bare, J.base, J.hok, r1, q⟩
  | next =>
    obtain ⟨σ', H', J, q⟩ := hs
    exact ⟨V.non, H', J.os, J.bare, J.base, J.hok, rfl, q⟩
  | brk => exact hs.choose_spec.choose_spec.2.elim
  | cont => exact hs.choose_spec.choose_spec.2.elim
end

section
variable {X : Cx} {k : Nat} {f : Addr} {fd : FuncData} {ps ks : List Str} {sp : Sp} {dvs : List V} {ds : List Value} {E : XK} {x : Str} {p pos : Pos} {e : Expr} {es : List Expr} {t : TA}
/-- f(e, ..) of such a def -/
theorem pe_callGd (F : FnG X.prog X.w X.K X.mg X.base k f fd ps sp) (hgd : X.A.guards = some []) (hr : Room k X.A) (hg : Gl X x) (hm : X.mg x = some (.ref f)) (hk : PySem.W.keepIn X.K (.ref f) = true)
    (hb : Binds X.K fd ps []) (ha : PA X (e :: es) t) (hdb : (x == ("__debug__" : Str)) = false := by decide)
    (he : starEach (e :: es) X.env = (false, eval e X.env) :: starEach es X.env := by rfl) (hpl : (backTo pos (starEach es X.env)).any (·.1) = false := by rfl) :
    PE X (.Call (.Name x p) (e :: es) [] pos) (fun σ H Q => t σ H fun vs H1 => sp vs H1 Q E) := by
  refine ⟨fun pins s σ H Q I h => wpAny_Call_Name_kw (ld_glob I hg hm ?_ hdb)⟩
  refine PySem.W.callWith_K (h₀ := X.base) I.ok.mod.kin hk (thn (ha.run pos pins s σ H _ I h) ?_) he hpl
  intro us s1 hus
  obtain ⟨vs, H1, I1, r, q⟩ := hus
  refine ⟨I1.kIn, ?_⟩
  have hl : (us ++ []).length = ps.length := by rw [List.append_nil, ← r.length]; exact F.cnt _ _ _ _ q
  have hbt := hb s1 us I1.kIn hl
  rw [List.append_nil] at hbt
  refine wpAny_call (codeAny_mono (F.go X.A X.stack s1 H1 ⟨us, []⟩ us vs Q E hgd hr I1.env0 hbt r q) ?_)
  intro rr s' hq
  cases rr with
  | error ev => exact hq.elim
  | ok fl =>
    cases fl with
    | ret u => exact I1.after hq
    | next => exact hq.elim
    | brk => exact hq.elim
    | cont => exact hq.elim

/-- repr of a list or a tuple of plain data -/
def rRepr (K : PySem.W.Frag) : List V → Hp → VK → Prop := fun xs H Q => ∃ (a : Addr) (d : PyData), xs = [.ref a] ∧ Dp K H (.ref a) d ∧ d.showable = true ∧ d.hasDict = false ∧ d.depth ≤ 60 ∧
  d.shown.length ≤ sizeLine ∧ Q (.str d.shown) H
theorem call_reprD (hgd : X.A.guards = some []) (hu : X.A.units + 64 < cLine) : CallR X (.builtin "repr") (rRepr X.K) := by
  intro pins s σ H xs us Q I r h
  obtain ⟨a, d, rfl, hd, hs, hnd, hdp, hz, q⟩ := h
  obtain ⟨u, rfl, ru⟩ := vals1 r
  obtain rfl : u = Value.ref a := ru
  obtain ⟨as, r1⟩ := Dp.reads I d (.ref a) (.ref a) hd rfl
  refine repr_of_reads' r1 hs (fun z => by rw [hnd] at z; cases z) hgd (by omega) (fun _ _ e => e) (fun h' tu tk hk => ?_) hz
  refine ⟨.str d.shown, H, ?_, ⟨tu, rfl⟩, q⟩
  exact I.kept (t' := tk) hk
/-- x * n of a text -/
def rMulS : R2 := fun x y H Q => ∃ (z : Str) (n : Int), x = .str z ∧ y = .int n ∧ 0 ≤ n ∧ n < 2 ^ 30 ∧ z.length * n.toNat ≤ 1000000 ∧ Q (.str (Txt.mul z n)) H
end
end G1
/-! the end of a row whose law calls repr -/
namespace G1
open PySem PySem.Spec PyProof.Rows L2

theorem enterG {P : Program} {w : World} {K : PySem.W.Frag} {mg mb : Str → Option Value} {k : Nat} {fa a : Addr} {fd : FuncData} {x : Str} {sp : Sp} {s₁ : Shared} {vs : List Value} {ns : List Int}
    (inK : K.In s₁.heap) (hns : s₁.heap.Ns mainGlobals mg) (hbn : s₁.heap.Ns builtinsNs mb) (hbb : ∀ x : Str, x ≠ "__name__" → mb x = bootBuiltins x) (hlim : s₁.heap.NoLimit) (hg0 : s₁.gens = #[])
    (ha : s₁.heap.get? a = some { cls := .type "list", data := .seq vs.toArray }) (hi : IntsAre vs ns) (hl : ns.length ≤ sizeLine) (hr : Room k callerA)
    (F : ∀ base : Heap, K.In base → base.Ns mainGlobals mg → FnG P w K mg base k fa fd [x] sp)
    (hbind : ∀ (s : Shared) (u : Value), BindsTo s fd ⟨[u], []⟩ [(x, u)])
    (hsp : ∀ H : Hp, Only H → SqL K H a (ns.map V.int) → sp [.ref a] H (fun v _ => v = .bl true) fun _ _ _ => False) :
    codeAny (model P w) callerA (.call (.ref fa) ⟨[.ref a], []⟩)
      (fun r s' => r = .ok (.ret (.bool true)) ∧ OldK s₁.heap s'.heap ∧ s'.os = s₁.os ∧ AllBare s'.gens) s₁ := by
  have rv := vals_ints hi
  have lv := hi.length
  suffices core : ∀ H : Hp, Only H → SqL K H a (ns.map V.int) → HOk P w H s₁.heap → (∀ b, H b ≠ none → b = a ∧ K.lookup a = none) →
      codeAny (model P w) callerA (.call (.ref fa) ⟨[.ref a], []⟩)
        (fun r s' => r = .ok (.ret (.bool true)) ∧ OldK s₁.heap s'.heap ∧ s'.os = s₁.os ∧ AllBare s'.gens) s₁ by
    by_cases hk : K.lookup a = none
    · refine core (fun b => if b = a then some (.frz { cls := .type "list", data := .seq vs.toArray } (.lst (ns.map V.int))) else none) ?_ (Or.inl (Or.inr ⟨_, if_pos rfl⟩)) ?_ ?_
      · intro b
        by_cases hb : b = a
        · exact Or.inr ⟨_, _, if_pos hb⟩
        · exact Or.inl (if_neg hb)
      · intro b u z
        dsimp only at z
        by_cases hb : b = a
        · rw [if_pos hb] at z
          cases z
          subst hb
          exact ⟨ha, by rw [List.length_map]; exact hl, vs, _, rv, ha⟩
        · rw [if_neg hb] at z
          cases z
      · intro b z
        by_cases hb : b = a
        · exact ⟨hb, hk⟩
        · exact absurd (if_neg hb) z
    · obtain ⟨o, ho⟩ := Option.ne_none_iff_exists'.mp hk
      have e := inK a o ho
      rw [ha] at e
      cases e
      exact core (fun _ => none) (fun _ => Or.inl rfl) (Or.inr ⟨_, vs.toArray, _, ho, rfl, rfl, rfl, by rw [List.size_toArray, lv]; exact hl, by simpa using rv⟩)
        (fun b u z => by cases z) (fun b z => absurd rfl z)
  intro H hO hS hok hA
  have untr : ∀ {b : Addr} {o : Obj} {es : Array DictEntry} {ep : Nat}, s₁.heap.get? b = some o → o.data = .dict es ep → H b = none := by
    intro b o es ep e d
    by_cases q : H b = none
    · exact q
    · obtain ⟨rfl, _⟩ := hA b q
      rw [ha] at e
      cases e
      exact nomatch d
  have tohid : ∀ {b : Addr} {m : Str → Option Value}, s₁.heap.Ns b m → (hidT s₁.heap H).Ns b m := by
    rintro b m ⟨o, es, ep, e, d, r⟩
    exact ⟨o, es, ep, hidT_get e (untr e d), d, r⟩
  have hKb : K.In (hidT s₁.heap H) := by
    intro b o e
    refine hidT_get (inK b o e) ?_
    by_cases q : H b = none
    · exact q
    · obtain ⟨rfl, z⟩ := hA b q
      rw [z] at e
      cases e
  obtain ⟨mc, l1, l2⟩ := hlim
  have hM : Mod K mg (hidT s₁.heap H) := ⟨hKb, tohid hns, ⟨mb, tohid hbn, hbb⟩, ⟨mc, tohid l1, l2⟩⟩
  have e0 : Env0 P w K mg (hidT s₁.heap H) callerA [] s₁ H :=
    ⟨rfl, hM, fun b o e => of_hidT e, Nat.le_of_eq (hidT_size _ _), trivial, fun b hb => (List.not_mem_nil hb).elim, hok, .of_eq hg0⟩
  refine codeAny_mono ((F _ hKb (tohid hns)).go callerA [] s₁ H ⟨[.ref a], []⟩ [.ref a] [.ref a] _ _ rfl hr e0 (hbind s₁ (.ref a)) (.cons rfl .nil) (hsp H hO hS)) ?_
  intro r s' h
  cases r with
  | error e => exact h.elim
  | ok fl =>
    cases fl with
    | next => exact h.elim
    | brk => exact h.elim
    | cont => exact h.elim
    | ret u =>
      obtain ⟨v, H', os, bare, un, hok', r', q⟩ := h
      subst q
      obtain rfl : u = Value.bool true := r'
      refine ⟨rfl, OldK.of_keep (fun b o e => ?_), os, bare⟩
      rcases hO b with z | ⟨ob, xs, z⟩
      · exact un.keep b o e z (fun y => (List.not_mem_nil y).elim) List.not_mem_nil
      · obtain ⟨e1, _⟩ := hok b _ z
        obtain ⟨e2, _⟩ := hok' b _ (un.frzs b ob _ z)
        rw [e] at e1
        cases e1
        exact e2

theorem walkG {l : PySem.W.OpenLaw} {n k : Nat} {q : Program} {loose : List Str} {XP : (Str → Option Value) → Heap → Prop} {YP : World → Heap → Prop} {d : DefRec} {K : Params → PySem.W.Frag} {sp : PySem.W.Frag → Sp} {x : Str}
    (hn : l.most = some n) (hn2 : n ≤ sizeLine) (hdf : d.params.defaults = []) (hr : Room k callerA)
    (hY : ∀ (w : World) (h : Heap), YP w h → (K w.params).In h)
    (F : ∀ (w : World) (mg : Str → Option Value) (fa : Addr) (h : Heap), (K w.params).In h → h.Ns mainGlobals mg → mg d.name = some (.ref fa) →
      ∃ fd : FuncData, (∀ (s : Shared) (u : Value), BindsTo s fd ⟨[u], []⟩ [(x, u)]) ∧
        ∀ base : Heap, (K w.params).In base → base.Ns mainGlobals mg → FnG l.prog w (K w.params) mg base k fa fd [x] (sp (K w.params)))
    (hsp : ∀ (K : PySem.W.Frag) (H : Hp) (a : Addr) (ns : List Int), ns.length ≤ n → Only H → SqL K H a (ns.map V.int) → sp K [.ref a] H (fun v _ => v = .bl true) fun _ _ _ => False) :
    PySem.W.WalkO q loose XP YP l.row.toRowW d [] (fun f vs => PySem.call f vs) := by
  refine Att.attach_call hn hdf ?_
  intro w s₀ s₁ mg mb fa o pm cd doc a vs ns G Y ho hd hcd hmg hobj hints hlen hg0
  have inK := hY w _ Y
  obtain ⟨fd, hb, hF⟩ := F w mg fa _ inK G.T.g hmg
  exact enterG inK G.T.g G.T.b G.T.builtins G.T.nolimit hg0 hobj hints (Nat.le_trans hlen hn2) hr hF hb (fun H hO hS => hsp _ H a ns hlen hO hS)
end G1
/-! texts of the signs 0 and 1, as lists of bools -/
namespace G1
open PySem PySem.Spec PyProof.Rows L2

def cB (b : Bool) : Nat := if b then 49 else 48
def B (l : List Bool) : Str := SX.S (l.map cB)
theorem cB_inj {a b : Bool} (h : cB a = cB b) : a = b := by
  cases a <;> cases b <;> first | rfl | (exact absurd h (by decide))
theorem map_cB_inj : ∀ {l m : List Bool}, l.map cB = m.map cB → l = m
  | [], [], _ => rfl
  | [], _ :: _, h => by cases h
  | _ :: _, [], h => by cases h
  | a :: l, b :: m, h => by
    rw [List.map_cons, List.map_cons] at h
    injection h with h1 h2
    rw [cB_inj h1, map_cB_inj h2]
theorem B_inj {l m : List Bool} (h : B l = B m) : l = m := map_cB_inj (SX.S_inj h)
theorem B_dec (l m : List Bool) : decide (V.str (B l) = V.str (B m)) = decide (l = m) := by
  by_cases h : l = m
  · rw [h, decide_eq_true rfl, decide_eq_true rfl]
  · rw [decide_eq_false h, decide_eq_false fun e => h (B_inj (V.str.inj e))]
theorem B_len (l : List Bool) : (B l).length = l.length := by
  unfold B
  rw [SX.S_len, List.length_map]
theorem B_cps (l : List Bool) : (B l).cps.toList = l.map cB := rfl
theorem B_app (l m : List Bool) : B l ++ B m = B (l ++ m) := by
  unfold B
  rw [SX.S_cat, List.map_append]
theorem B_nil : ("" : Str) = B [] := by decide +kernel
theorem B_0 : ("0" : Str) = B [false] := by decide +kernel
theorem B_1 : ("1" : Str) = B [true] := by decide +kernel
theorem B_one (b : Bool) : (⟨#[cB b]⟩ : Str) = B [b] := by cases b <;> decide +kernel
theorem B_str0 : (Str.ofString (toString (0 : Int))) = B [false] := by decide +kernel
theorem B_str1 : (Str.ofString (toString (1 : Int))) = B [true] := by decide +kernel
theorem B_str (i : Int) (h0 : 0 ≤ i) (h2 : i < 2) : (Str.ofString (toString i)) = B [decide (i = 1)] := by
  have h : i = 0 ∨ i = 1 := by omega
  rcases h with rfl | rfl
  · exact B_str0
  · exact B_str1

/-! ### slices -/
theorem B_cut (l : List Bool) (lo hi : Option Int) : cutS (B l) lo hi = B ((l.drop (HT.sIx l.length 0 lo)).take (HT.sIx l.length l.length hi - HT.sIx l.length 0 lo)) := by
  unfold cutS B
  rw [SX.S_len, List.length_map, ← List.map_drop, ← List.map_take]
theorem sIx_of (n d : Nat) {i : Int} (h : 0 ≤ i) : HT.sIx n d (some i) = min i.toNat n := by
  show (if i < 0 then (i + (n : Int)).toNat else min i.toNat n) = _
  rw [if_neg (by omega)]
theorem B_to (l : List Bool) {j : Int} (h : 0 ≤ j) : cutS (B l) none (some j) = B (l.take j.toNat) := by
  rw [B_cut, sIx_of _ _ h]
  show B ((l.drop 0).take (min j.toNat l.length - 0)) = _
  rw [List.drop_zero, Nat.sub_zero, ← List.take_eq_take_min]
theorem B_from (l : List Bool) {i : Int} (h : 0 ≤ i) : cutS (B l) (some i) none = B (l.drop i.toNat) := by
  rw [B_cut, sIx_of _ _ h]
  show B ((l.drop (min i.toNat l.length)).take (l.length - min i.toNat l.length)) = _
  rw [List.take_of_length_le (by rw [List.length_drop]; omega)]
  by_cases hi : i.toNat ≤ l.length
  · rw [Nat.min_eq_left hi]
  · rw [Nat.min_eq_right (by omega), List.drop_length, List.drop_of_length_le (by omega)]
theorem B_mid (l : List Bool) {i j : Int} (h : 0 ≤ i) (hj : 0 ≤ j) : cutS (B l) (some i) (some j) = B ((l.take j.toNat).drop i.toNat) := by
  rw [B_cut, sIx_of _ _ h, sIx_of _ _ hj]
  congr 1
  apply List.ext_getElem?
  intro k
  rw [List.getElem?_take, List.getElem?_drop, List.getElem?_drop, List.getElem?_take]
  by_cases hi : i.toNat ≤ l.length
  · rw [Nat.min_eq_left hi]
    by_cases hj2 : j.toNat ≤ l.length
    · rw [Nat.min_eq_left hj2]
      by_cases h3 : k < j.toNat - i.toNat
      · rw [if_pos h3, if_pos (by omega)]
      · rw [if_neg h3, if_neg (by omega)]
    · rw [Nat.min_eq_right (by omega)]
      by_cases h3 : k < l.length - i.toNat
      · rw [if_pos h3, if_pos (by omega)]
      · rw [if_neg h3]
        split
        · exact (List.getElem?_eq_none (by omega)).symm
        · rfl
  · have hm : min i.toNat l.length = l.length := Nat.min_eq_right (Nat.le_of_lt (Nat.lt_of_not_le hi))
    rw [hm, List.getElem?_eq_none (by omega), List.getElem?_eq_none (by omega)]
    split <;> split <;> rfl

/-! ### signs -/
theorem B_at (l : List Bool) {i : Int} {k : Nat} {b : Bool} (hi : i = (k : Int)) (h : l[k]? = some b) : atI (B l).cps.toList i = some (cB b) := by
  subst hi
  refine atI_nat ?_
  rw [B_cps, List.getElem?_map, h]
  rfl
theorem B_atNeg (l : List Bool) {i : Int} {k : Nat} {b : Bool} (hi : i = -1 - (k : Int)) (hk : k < l.length) (h : l[l.length - 1 - k]? = some b) : atI (B l).cps.toList i = some (cB b) := by
  unfold atI ixN
  have e1 : (B l).cps.toList.length = l.length := by rw [B_cps, List.length_map]
  rw [e1, if_neg (by omega), if_pos (by omega)]
  show (B l).cps.toList[(i + (l.length : Int)).toNat]? = _
  rw [show (i + (l.length : Int)).toNat = l.length - 1 - k by omega, B_cps, List.getElem?_map, h]
  rfl

/-! ### many times -/
def rep (n : Nat) (l : List Bool) : List Bool := (List.replicate n l).flatten
theorem rep_zero (l : List Bool) : rep 0 l = [] := rfl
theorem rep_succ (n : Nat) (l : List Bool) : rep (n + 1) l = l ++ rep n l := by
  unfold rep
  rw [List.replicate_succ, List.flatten_cons]
theorem rep_length (n : Nat) (l : List Bool) : (rep n l).length = n * l.length := by
  induction n with
  | zero => rw [rep_zero, Nat.zero_mul]; rfl
  | succ n ih => rw [rep_succ, List.length_append, ih, Nat.succ_mul, Nat.add_comm]
theorem rep_get (n : Nat) (l : List Bool) (i : Nat) (h : i < n * l.length) : (rep n l)[i]? = l[i % l.length]? := by
  induction n generalizing i with
  | zero => rw [Nat.zero_mul] at h; omega
  | succ n ih =>
    rw [rep_succ]
    by_cases hi : i < l.length
    · rw [List.getElem?_append_left hi, Nat.mod_eq_of_lt hi]
    · have h1 : l.length ≤ i := by omega
      rw [List.getElem?_append_right h1, ih (i - l.length) (by rw [Nat.succ_mul] at h; omega), ← Nat.mod_eq_sub_mod h1]
theorem foldl_app (c : Array Nat) : ∀ (n : Nat) (acc : Array Nat), ((List.replicate n c).foldl (· ++ ·) acc).toList = acc.toList ++ (List.replicate n c.toList).flatten
  | 0, acc => by simp
  | n + 1, acc => by
    rw [List.replicate_succ, List.foldl_cons, foldl_app c n, List.replicate_succ, List.flatten_cons, Array.toList_append, List.append_assoc]
theorem map_rep (n : Nat) (l : List Bool) : (rep n l).map cB = (List.replicate n (l.map cB)).flatten := by
  induction n with
  | zero => rfl
  | succ n ih => rw [rep_succ, List.map_append, ih, List.replicate_succ, List.flatten_cons]
theorem B_mul (l : List Bool) {n : Int} (h : 0 ≤ n) : Txt.mul (B l) n = B (rep n.toNat l) := by
  unfold Txt.mul
  by_cases h1 : n < 1
  · rw [if_pos h1, show n.toNat = 0 by omega, rep_zero]
    rfl
  · rw [if_neg h1]
    by_cases h2 : (n == 1 || (B l).length == 0) = true
    · rw [if_pos h2]
      rw [Bool.or_eq_true, beq_iff_eq, beq_iff_eq, B_len] at h2
      rcases h2 with h2 | h2
      · subst h2
        show B l = B (rep 1 l)
        rw [rep_succ, rep_zero, List.append_nil]
      · rw [List.length_eq_zero_iff] at h2
        subst h2
        congr 1
        have := rep_length n.toNat []
        rw [List.length_nil, Nat.mul_zero, List.length_eq_zero_iff] at this
        exact this.symm
    · rw [if_neg h2]
      unfold B
      rw [map_rep]
      refine TL.ext_tl ?_
      show (List.foldl (· ++ ·) #[] (List.replicate n.toNat (SX.S (l.map cB)).cps)).toList = _
      rw [foldl_app]
      simp [TL.tl]

/-! ### joined -/
theorem join_nil (ls : List (List Bool)) : Txt.join (B []) (ls.map B) = B ls.flatten := by
  have e : ls.map B = (ls.map (List.map cB)).map SX.S := by rw [List.map_map]; rfl
  rw [e]
  show Txt.join (SX.S []) _ = _
  rw [SX.join_S]
  unfold B
  congr 1
  have key : ∀ ms : List (List Nat), TL.joinL [] ms = ms.flatten := by
    intro ms
    induction ms with
    | nil => rfl
    | cons m ms ih =>
      cases ms with
      | nil => simp [TL.joinL]
      | cons k ks =>
        rw [List.flatten_cons, ← ih]
        simp [TL.joinL]
  rw [key, ← List.map_flatten]
end G1
namespace G1
open PySem PySem.Spec PyProof.Rows L2
section
variable {X : Cx}
theorem tooLong_no {n : Nat} (h : n ≤ 1000000) : Builtin.Str.tooLong n = false := by
  unfold Builtin.Str.tooLong
  rw [decide_eq_false_iff_not]
  exact Nat.not_lt.mpr (Nat.le_trans h (by decide))
theorem op_mulS : OpR X (binaryOp .Mult) rMulS := by
  intro pins s σ H x y v u Q I rx ry h
  obtain ⟨z, n, rfl, rfl, h0, h1, h2, q⟩ := h
  obtain ⟨t, rfl⟩ := rx
  obtain ⟨t2, rfl⟩ := ry
  have hb : z.length = 0 ∨ n.toNat = 0 ∨ (z.length ≤ 1000000) := by
    rcases Nat.eq_zero_or_pos z.length with e | e
    · exact .inl e
    · rcases Nat.eq_zero_or_pos n.toNat with e2 | e2
      · exact .inr (.inl e2)
      · refine .inr (.inr (Nat.le_trans ?_ h2))
        exact Nat.le_mul_of_pos_right _ e2
  refine PySem.SB.mul ⟨?_, fun a b c => ?_, fun a b => tooLong_no h2⟩ fun t' k => ⟨.str (Txt.mul z n), H, I.tok _, ⟨_, rfl⟩, q⟩
  · rw [Bool.or_eq_false_iff]
    exact ⟨decide_eq_false (by omega), decide_eq_false (by omega)⟩
  · rw [Bool.or_eq_false_iff] at b
    have hz : z.length ≠ 0 := by
      have := b.2
      simpa using this
    have hz2 : (z.length : Int) ≤ 1000000 := by omega
    have h3 : (2 ^ 63 - 1 : Int) / n ≥ 1000000 := by
      apply Int.le_ediv_of_mul_le (by omega)
      omega
    omega
end
theorem szM {n : Nat} (h : n ≤ 1000000) : n ≤ sizeLine := Nat.le_trans h (by decide)
end G1
namespace G1
open PySem PySem.Spec PyProof.Rows L2
theorem B_last (l : List Bool) : cutS (B l) (some (-1)) none = B (l.drop (l.length - 1)) := by
  rw [B_cut]
  have e : HT.sIx l.length 0 (some (-1)) = l.length - 1 := by
    show (if (-1 : Int) < 0 then (-1 + (l.length : Int)).toNat else min (-1 : Int).toNat l.length) = _
    rw [if_pos (by decide)]
    omega
  rw [e]
  show B ((l.drop (l.length - 1)).take (l.length - (l.length - 1))) = _
  rw [List.take_of_length_le (by rw [List.length_drop]; omega)]
theorem B_init (l : List Bool) : cutS (B l) none (some (-1)) = B (l.take (l.length - 1)) := by
  rw [B_cut]
  have e : HT.sIx l.length l.length (some (-1)) = l.length - 1 := by
    show (if (-1 : Int) < 0 then (-1 + (l.length : Int)).toNat else min (-1 : Int).toNat l.length) = _
    rw [if_pos (by decide)]
    omega
  rw [e]
  show B ((l.drop 0).take (l.length - 1 - 0)) = _
  rw [List.drop_zero, Nat.sub_zero]
end G1
/-! calls by keywords alone; repr of a truth -/
namespace G1
open PySem PySem.Spec PyProof.Rows L2
section
variable {X : Cx} {CX : CXT} {k : Nat} {f : Addr} {fd : FuncData} {ps ks : List Str} {sp : Sp} {E : XK} {x : Str} {p pos : Pos} {kws : List Keyword} {tk : TA}
variable {g : List Value → List Value → List Value} {gV : List V → List V → List V}
/-- f(k = v, ..) -/
theorem pe_callK0 (F : FnOk X.prog X.w X.K X.mg X.base CX k f fd ps sp) (hr : Room k X.A) (hg : Gl X x) (hm : X.mg x = some (.ref f)) (hk : PySem.W.keepIn X.K (.ref f) = true) (hb : KBinds X.K fd ps ks g gV) (hx : Passes CX X E)
    (hkw : PK X kws tk) (hall : (backToKw pos (keywordEach kws X.env)).all (·.1.isSome) = true := by rfl) (hks : (backToKw pos (keywordEach kws X.env)).filterMap (·.1) = ks := by rfl)
    (hdb : (x == ("__debug__" : Str)) = false := by decide)
    (hpl : ((backTo pos (starEach [] X.env)).any (·.1) || (backToKw pos (keywordEach kws X.env)).any (·.1.isNone)) = false := by rfl) :
    PE X (.Call (.Name x p) [] kws pos) (fun σ H Q => tk σ H fun zs H1 => sp (gV [] zs) H1 Q E) := by
  refine ⟨fun pins s σ H Q I h => wpAny_Call_Name_kw (ld_glob I hg hm ?_ hdb)⟩
  refine PySem.W.callWith_KW0 (h₀ := X.base) I.ok.mod.kin hk hall (thn (hkw.run pos pins s σ H _ I h) ?_) hpl
  intro ws s2 hws
  obtain ⟨zs, H2, I2, rz, q2⟩ := hws
  refine ⟨I2.kIn, ?_⟩
  rw [hks]
  exact run_fnk (us := []) (vs := []) F hr hb hx I2 .nil rz q2
end
/-- two keywords, the second parameter's first -/
def swapW {α : Type} : List α → List α → List α
  | [], a :: b :: _ => [b, a]
  | _, _ => []
theorem kbinds_swap {K : PySem.W.Frag} {fd : FuncData} {p0 p1 : Str}
    (h : ∀ a b : Value, bindArgs fd ⟨[], [(p1, a), (p0, b)]⟩ = pure [(p0, b), (p1, a)]) : KBinds K fd [p0, p1] [p1, p0] swapW swapW := by
  refine ⟨fun s us ws _ hl => ?_, fun {vs us zs ws} r1 r2 => ?_⟩
  · cases us with
    | cons u us => cases hl
    | nil =>
      cases ws with
      | nil => cases hl
      | cons a ws =>
        cases ws with
        | nil => cases hl
        | cons b ws => exact .of_eq (h a b)
  · cases r1 with
    | cons q t => exact .nil
    | nil =>
      cases r2 with
      | nil => exact .nil
      | cons q1 t1 =>
        cases t1 with
        | nil => exact .nil
        | cons q2 t2 => exact .cons q2 (.cons q1 .nil)
section
variable {X : Cx}
theorem call_reprB : CallR X (.builtin "repr") (fun xs H Q => ∃ b : Bool, xs = [.bl b] ∧ Q (.str (if b then "True" else "False")) H) := by
  intro pins s σ H xs us Q I r h
  obtain ⟨b, rfl, q⟩ := h
  obtain ⟨u, rfl, ru⟩ := vals1 r
  obtain rfl : u = Value.bool b := ru
  exact PySem.P.repr_of_bool ⟨.str _, H, I.tok _, ⟨_, rfl⟩, q⟩
end
end G1
namespace G1
open PySem PySem.Spec PyProof.Rows L2
/-- one keyword -/
def oneW {α : Type} : List α → List α → List α
  | [], a :: _ => [a]
  | _, _ => []
theorem kbinds_one {K : PySem.W.Frag} {fd : FuncData} {p0 : Str} (h : ∀ a : Value, bindArgs fd ⟨[], [(p0, a)]⟩ = pure [(p0, a)]) : KBinds K fd [p0] [p0] oneW oneW := by
  refine ⟨fun s us ws _ hl => ?_, fun {vs us zs ws} r1 r2 => ?_⟩
  · cases us with
    | cons u us => cases hl
    | nil =>
      cases ws with
      | nil => cases hl
      | cons a ws => exact .of_eq (h a)
  · cases r1 with
    | cons q t => exact .nil
    | nil =>
      cases r2 with
      | nil => exact .nil
      | cons q1 t1 => exact .cons q1 .nil
/-- a value by a word: what follows is shown once -/
theorem pe_cut {X : Cx} {e : Expr} {t : TE} (h : PE X e t) : PE X e (fun σ H Q => ∃ M : V → Hp → Prop, t σ H M ∧ ∀ v H', M v H' → Q v H') := by
  refine ⟨fun pins s σ H Q I hq => ?_⟩
  obtain ⟨M, h1, h2⟩ := hq
  refine thn (h.run pins s σ H M I h1) ?_
  intro u s1 hu
  obtain ⟨v, H1, I1, r1, q1⟩ := hu
  exact ⟨v, H1, I1, r1, h2 v H1 q1⟩
end G1
namespace G1
open PySem PySem.Spec PyProof.Rows L2
theorem cB_small (b : Bool) : cB b < 16 ^ 8 := by cases b <;> decide
theorem leaf_B (l : List Bool) : PyData.leavesShort 8 (.str (B l)) = true := by
  simp only [PyData.leavesShort, List.all_eq_true, decide_eq_true_eq]
  intro c hc
  rw [B_cps] at hc
  obtain ⟨b, _, rfl⟩ := List.mem_map.mp hc
  exact cB_small b
theorem w_B (l : List Bool) : PyData.weight (.str (B l)) = l.length := by
  simp only [PyData.weight]
  exact B_len l
/-- repr of one object, read as data that is not great -/
theorem go_repr {K : PySem.W.Frag} {H : Hp} {R : PyData → Prop} {a : Addr} (d : PyData) (hd : Dp K H (.ref a) d) (h1 : d.showable = true) (h2 : d.hasDict = false) (h3 : d.depth ≤ 60) (h4 : d.leavesShort 8 = true) (h5 : d.weight ≤ 2 ^ 20) (q : R d) :
    ∃ (a' : Addr) (d' : PyData), [V.ref a] = [V.ref a'] ∧ Dp K H (.ref a') d' ∧ d'.showable = true ∧ d'.hasDict = false ∧ d'.depth ≤ 60 ∧ d'.shown.length ≤ sizeLine ∧ R d' :=
  ⟨a, d, rfl, hd, h1, h2, h3, PyData.shown_fits (Nat.le_refl _) (by decide) h4 h5, q⟩
theorem str_refl (z : Str) : decide (V.str z = V.str z) = true := decide_eq_true rfl
end G1
namespace G1
open PySem PySem.Spec PyProof.Rows L2
/-- the data of a table, of lists of texts and of truths -/
def dTab (h t : List Bool) : PyData := .tuple [.str (B h), .str (B t)]
theorem dp_tab {K : PySem.W.Frag} {H : Hp} {p : Addr} {h t : List Bool} (e : H p = some (.tup [.str (B h), .str (B t)])) : Dp K H (.ref p) (dTab h t) :=
  .tup (.inl (.inl e)) (.cons (.str _) (.cons (.str _) .nil))
def dStrs (ls : List (List Bool)) : PyData := .list (ls.map fun l => .str (B l))
def dBools (bs : List Bool) : PyData := .list (bs.map PyData.bool)
theorem dpAll_strs {K : PySem.W.Frag} {H : Hp} : ∀ ls : List (List Bool), DpAll K H (ls.map fun l => V.str (B l)) (ls.map fun l => .str (B l))
  | [] => .nil
  | l :: ls => .cons (.str _) (dpAll_strs ls)
theorem dpAll_bools {K : PySem.W.Frag} {H : Hp} : ∀ bs : List Bool, DpAll K H (bs.map V.bl) (bs.map PyData.bool)
  | [] => .nil
  | b :: bs => .cons (.bl _) (dpAll_bools bs)
/-- repr of a table -/
theorem repr_tab {K : PySem.W.Frag} {H : Hp} {R : PyData → Prop} {a : Addr} {h t : List Bool} (e : H a = some (.tup [.str (B h), .str (B t)])) (h1 : h.length ≤ 5000) (t1 : t.length ≤ 5000) (q : R (dTab h t)) :
    ∃ (a' : Addr) (d' : PyData), [V.ref a] = [V.ref a'] ∧ Dp K H (.ref a') d' ∧ d'.showable = true ∧ d'.hasDict = false ∧ d'.depth ≤ 60 ∧ d'.shown.length ≤ sizeLine ∧ R d' := by
  refine go_repr (dTab h t) (dp_tab e) ?_ ?_ ?_ ?_ ?_ q
  · simp [dTab, PyData.showable, PyData.showableAll]
  · simp [dTab, PyData.hasDict, PyData.hasDictAll]
  · simp [dTab, PyData.depth, PyData.depthAll]
  · simp only [dTab, PyData.leavesShort, PyData.leavesShortAll, Bool.and_eq_true]
    exact ⟨leaf_B h, leaf_B t, trivial⟩
  · simp only [dTab, PyData.weight, PyData.weightAll]
    have e1 := w_B h
    have e2 := w_B t
    simp only [PyData.weight] at e1 e2
    omega
/-- repr of three texts -/
theorem repr_s3 {K : PySem.W.Frag} {H : Hp} {R : PyData → Prop} {a : Addr} {x y z : List Bool} (e : H a = some (.lst [.str (B x), .str (B y), .str (B z)])) (h1 : x.length ≤ 100000) (h2 : y.length ≤ 100000) (h3 : z.length ≤ 100000) (q : R (dStrs [x, y, z])) :
    ∃ (a' : Addr) (d' : PyData), [V.ref a] = [V.ref a'] ∧ Dp K H (.ref a') d' ∧ d'.showable = true ∧ d'.hasDict = false ∧ d'.depth ≤ 60 ∧ d'.shown.length ≤ sizeLine ∧ R d' := by
  refine go_repr (dStrs [x, y, z]) (.lst (.inl (.inl e)) (dpAll_strs [x, y, z])) ?_ ?_ ?_ ?_ ?_ q
  · simp [dStrs, PyData.showable, PyData.showableAll]
  · simp [dStrs, PyData.hasDict, PyData.hasDictAll]
  · simp [dStrs, PyData.depth, PyData.depthAll]
  · simp only [dStrs, List.map_cons, List.map_nil, PyData.leavesShort, PyData.leavesShortAll, Bool.and_eq_true]
    exact ⟨leaf_B x, leaf_B y, leaf_B z, trivial⟩
  · simp only [dStrs, List.map_cons, List.map_nil, PyData.weight, PyData.weightAll]
    have e1 := w_B x
    have e2 := w_B y
    have e3 := w_B z
    simp only [PyData.weight] at e1 e2 e3
    omega
theorem bools_ok : ∀ bs : List Bool, PyData.showableAll (bs.map PyData.bool) = true ∧ PyData.hasDictAll (bs.map PyData.bool) = false ∧ PyData.depthAll (bs.map PyData.bool) = 0 ∧ PyData.leavesShortAll 8 (bs.map PyData.bool) = true ∧ PyData.weightAll (bs.map PyData.bool) ≤ 2 * bs.length
  | [] => by simp [PyData.showableAll, PyData.hasDictAll, PyData.depthAll, PyData.leavesShortAll, PyData.weightAll]
  | b :: bs => by
    obtain ⟨h1, h2, h3, h4, h5⟩ := bools_ok bs
    simp [PyData.showableAll, PyData.hasDictAll, PyData.depthAll, PyData.leavesShortAll, PyData.weightAll, PyData.showable, PyData.hasDict, PyData.depth, PyData.leavesShort, PyData.weight, h1, h2, h3, h4]
    omega
/-- repr of truths -/
theorem repr_bs {K : PySem.W.Frag} {H : Hp} {R : PyData → Prop} {a : Addr} (bs : List Bool) {xs : List V} (e : H a = some (.lst xs)) (ex : xs = bs.map V.bl) (hl : bs.length ≤ 1000) (q : R (dBools bs)) :
    ∃ (a' : Addr) (d' : PyData), [V.ref a] = [V.ref a'] ∧ Dp K H (.ref a') d' ∧ d'.showable = true ∧ d'.hasDict = false ∧ d'.depth ≤ 60 ∧ d'.shown.length ≤ sizeLine ∧ R d' := by
  subst ex
  obtain ⟨h1, h2, h3, h4, h5⟩ := bools_ok bs
  refine go_repr (dBools bs) (.lst (.inl (.inl e)) (dpAll_bools bs)) ?_ ?_ ?_ ?_ ?_ q
  · simp only [dBools, PyData.showable]; exact h1
  · simp only [dBools, PyData.hasDict]; exact h2
  · simp only [dBools, PyData.depth, h3]; omega
  · simp only [dBools, PyData.leavesShort]; exact h4
  · simp only [dBools, PyData.weight]; omega
end G1
namespace G1
open PySem PySem.Spec PyProof.Rows L2
def dMix (a b c : Bool) (x : List Bool) : PyData := .list [.bool a, .bool b, .bool c, .str (B x)]
theorem repr_mix {K : PySem.W.Frag} {H : Hp} {R : PyData → Prop} {p : Addr} {a b c : Bool} {x : List Bool} (e : H p = some (.lst [.bl a, .bl b, .bl c, .str (B x)])) (h1 : x.length ≤ 100000) (q : R (dMix a b c x)) :
    ∃ (a' : Addr) (d' : PyData), [V.ref p] = [V.ref a'] ∧ Dp K H (.ref a') d' ∧ d'.showable = true ∧ d'.hasDict = false ∧ d'.depth ≤ 60 ∧ d'.shown.length ≤ sizeLine ∧ R d' := by
  refine go_repr (dMix a b c x) (.lst (.inl (.inl e)) (.cons (.bl _) (.cons (.bl _) (.cons (.bl _) (.cons (.str _) .nil))))) ?_ ?_ ?_ ?_ ?_ q
  · simp [dMix, PyData.showable, PyData.showableAll]
  · simp [dMix, PyData.hasDict, PyData.hasDictAll]
  · simp [dMix, PyData.depth, PyData.depthAll]
  · simp only [dMix, PyData.leavesShort, PyData.leavesShortAll, Bool.and_eq_true]
    exact ⟨trivial, trivial, trivial, leaf_B x, trivial⟩
  · simp only [dMix, PyData.weight, PyData.weightAll]
    have e1 := w_B x
    simp only [PyData.weight] at e1
    omega
theorem L_01 : Str.ofString "01" = B [false, true] := by decide +kernel
theorem L_001 : Str.ofString "001" = B [false, false, true] := by decide +kernel
theorem L_1000 : Str.ofString "1000" = B [true, false, false, false] := by decide +kernel
end G1
namespace G1
open PySem PySem.Spec PyProof.Rows L2
/-- data that may stand in a list that is shown -/
structure Small (d : PyData) : Prop where
  sh : d.showable = true
  nd : d.hasDict = false
  dp : d.depth ≤ 20
  lv : d.leavesShort 8 = true
  wt : d.weight ≤ 20000
theorem small_bool (b : Bool) : Small (.bool b) := ⟨rfl, rfl, by simp [PyData.depth], rfl, by simp [PyData.weight]⟩
theorem small_none : Small .none := ⟨rfl, rfl, by simp [PyData.depth], rfl, by simp [PyData.weight]⟩
theorem small_B {l : List Bool} (h : l.length ≤ 20000) : Small (.str (B l)) := by
  refine ⟨rfl, rfl, by simp [PyData.depth], leaf_B l, ?_⟩
  rw [w_B]; exact h
theorem small_tab {h t : List Bool} (h1 : h.length ≤ 5000) (t1 : t.length ≤ 5000) : Small (dTab h t) := by
  refine ⟨?_, ?_, ?_, ?_, ?_⟩
  · simp [dTab, PyData.showable, PyData.showableAll]
  · simp [dTab, PyData.hasDict, PyData.hasDictAll]
  · simp [dTab, PyData.depth, PyData.depthAll]
  · simp only [dTab, PyData.leavesShort, PyData.leavesShortAll, Bool.and_eq_true]
    exact ⟨leaf_B h, leaf_B t, trivial⟩
  · simp only [dTab, PyData.weight, PyData.weightAll]
    have e1 := w_B h
    have e2 := w_B t
    simp only [PyData.weight] at e1 e2
    omega
theorem small_all : ∀ ds : List PyData, (∀ d ∈ ds, Small d) → PyData.showableAll ds = true ∧ PyData.hasDictAll ds = false ∧ PyData.depthAll ds ≤ 20 ∧ PyData.leavesShortAll 8 ds = true ∧ PyData.weightAll ds ≤ 20001 * ds.length
  | [], _ => by simp [PyData.showableAll, PyData.hasDictAll, PyData.depthAll, PyData.leavesShortAll, PyData.weightAll]
  | d :: ds, h => by
    obtain ⟨h1, h2, h3, h4, h5⟩ := small_all ds fun e he => h e (List.mem_cons_of_mem _ he)
    have s := h d List.mem_cons_self
    refine ⟨?_, ?_, ?_, ?_, ?_⟩
    · simp [PyData.showableAll, h1, s.sh]
    · simp [PyData.hasDictAll, h2, s.nd]
    · have := s.dp
      simp only [PyData.depthAll]
      omega
    · simp [PyData.leavesShortAll, h4, s.lv]
    · have := s.wt
      simp only [PyData.weightAll, List.length_cons]
      omega
/-- repr of a list of such -/
theorem repr_items {K : PySem.W.Frag} {H : Hp} {R : PyData → Prop} {a : Addr} {xs : List V} (ds : List PyData) (e : H a = some (.lst xs)) (hd : DpAll K H xs ds) (hs : ∀ d ∈ ds, Small d) (hl : ds.length ≤ 40) (q : R (.list ds)) :
    ∃ (a' : Addr) (d' : PyData), [V.ref a] = [V.ref a'] ∧ Dp K H (.ref a') d' ∧ d'.showable = true ∧ d'.hasDict = false ∧ d'.depth ≤ 60 ∧ d'.shown.length ≤ sizeLine ∧ R d' := by
  obtain ⟨h1, h2, h3, h4, h5⟩ := small_all ds hs
  refine go_repr (.list ds) (.lst (.inl (.inl e)) hd) ?_ ?_ ?_ ?_ ?_ q
  · simp only [PyData.showable]; exact h1
  · simp only [PyData.hasDict]; exact h2
  · simp only [PyData.depth]; omega
  · simp only [PyData.leavesShort]; exact h4
  · simp only [PyData.weight]
    have : 20001 * ds.length ≤ 20001 * 40 := Nat.mul_le_mul_left _ hl
    omega
theorem eqv_tab (a b c d : List Bool) : PyData.eqv (dTab a b) (dTab c d) = decide (a = c ∧ b = d) := by
  have e : ∀ x y : List Bool, (B x == B y) = decide (x = y) := fun x y => by
    by_cases h : x = y
    · subst h; simp
    · rw [decide_eq_false h]
      exact beq_eq_false_iff_ne.mpr fun z => h (B_inj z)
  have e2 : PyData.eqv (dTab a b) (dTab c d) = ((B a == B c) && ((B b == B d) && true)) := by simp only [dTab, PyData.eqv, PyData.eqvAll]
  rw [e2, e, e, Bool.and_true, Bool.decide_and]
theorem shaped_tab (h t : List Bool) : SeqAt.shaped (dTab h t) = true := by
  have l : ∀ x : List Bool, PyData.canLay0 (.str (B x)) = true := fun x => by
    simp only [PyData.canLay0, PyData.strOk]
    rw [Array.all_eq_true_iff_forall_mem]
    intro c hc
    have hc2 : c ∈ (B x).cps.toList := Array.mem_toList_iff.mpr hc
    rw [B_cps] at hc2
    obtain ⟨b, _, rfl⟩ := List.mem_map.mp hc2
    cases b <;> decide
  show (PyData.canLay0 (dTab h t) && decide (PyData.depth (dTab h t) ≤ 64)) = true
  rw [Bool.and_eq_true]
  refine ⟨?_, decide_eq_true ?_⟩
  · simp only [dTab, PyData.canLay0, PyData.canLayAll0, Bool.and_eq_true]
    exact ⟨l h, l t, trivial⟩
  · simp [dTab, PyData.depth, PyData.depthAll]
end G1
/-! what draws come from: a list of two lists and a count, changed by each draw; all else stands -/
namespace G1
open PySem PySem.Spec PyProof.Rows L2

/-- the well at w, its great cells at g -/
def WellAt (w g : Addr) (H : Hp) : Prop := ∃ (c : Addr) (gs cs : List Int) (k : Int), w ≠ g ∧ c ≠ g ∧ c ≠ w ∧ H w = some (.lst [.ref g, .ref c, .int k]) ∧
  H g = some (.lst (gs.map V.int)) ∧ H c = some (.lst (cs.map V.int)) ∧ 0 < cs.length ∧ gs.length ≤ 1000 ∧ cs.length ≤ 1000
/-- H' is as H but for the well -/
def Go (w g : Addr) (H H' : Hp) : Prop := ∀ a o, a ≠ w → a ≠ g → H a = some o → H' a = some o
theorem Go.refl {w g : Addr} {H : Hp} : Go w g H H := fun _ _ _ _ h => h
theorem Go.trans {w g : Addr} {H H1 H2 : Hp} (a : Go w g H H1) (b : Go w g H1 H2) : Go w g H H2 := fun x o h1 h2 h => b x o h1 h2 (a x o h1 h2 h)
theorem Go.of {w g : Addr} {H H' : Hp} (h : Same H H') : Go w g H H' := fun x o _ _ e => h x o e
/-- o stands at a, apart from the well -/
structure At (w g : Addr) (H : Hp) (a : Addr) (o : HO) : Prop where
  nw : a ≠ w
  ng : a ≠ g
  at_ : H a = some o
theorem At.go {w g : Addr} {H H' : Hp} {a : Addr} {o : HO} (x : At w g H a o) (s : Go w g H H') : At w g H' a o := ⟨x.nw, x.ng, s a o x.nw x.ng x.at_⟩
theorem same_new {H : Hp} {p : Addr} {o : HO} (h : H p = none) : Same H (upd H p o) := fun b x e => by
  rw [upd_ne (ne_of_none e h)]
  exact e
theorem Same.rfl' {H : Hp} : Same H H := fun _ _ h => h
theorem WellAt.same {w g : Addr} {H H' : Hp} (W : WellAt w g H) (s : Same H H') : WellAt w g H' := by
  obtain ⟨c, gs, cs, k, h1, h2, h3, h4, h5, h6, h7⟩ := W
  exact ⟨c, gs, cs, k, h1, h2, h3, s _ _ h4, s _ _ h5, s _ _ h6, h7⟩
theorem WellAt.fresh {w g p : Addr} {H : Hp} (W : WellAt w g H) (h : H p = none) : p ≠ w ∧ p ≠ g := by
  obtain ⟨c, gs, cs, k, h1, h2, h3, h4, h5, h6, h7⟩ := W
  exact ⟨(ne_of_none h4 h).symm, (ne_of_none h5 h).symm⟩
/-- a new object beside the well -/
theorem new_w {w g : Addr} {H : Hp} {o : HO} {Q : VK} (W : WellAt w g H)
    (h : ∀ p H', H p = none → Same H H' → WellAt w g H' → At w g H' p o → Q (.ref p) H') : ∀ p, H p = none → Q (.ref p) (upd H p o) := fun p hp =>
  h p _ hp (same_new hp) (W.same (same_new hp)) ⟨(W.fresh hp).1, (W.fresh hp).2, upd_same⟩
/-- a new object -/
theorem new_s {H : Hp} {o : HO} {Q : VK} (h : ∀ p H', H p = none → Same H H' → H' p = some o → Q (.ref p) H') : ∀ p, H p = none → Q (.ref p) (upd H p o) :=
  fun p hp => h p _ hp (same_new hp) upd_same
theorem new_of {w g p : Addr} {H H' : Hp} {o : HO} (W : WellAt w g H) (hp : H p = none) (e : upd H p o = H') : Same H H' ∧ WellAt w g H' ∧ At w g H' p o := by
  subst e
  exact ⟨same_new hp, W.same (same_new hp), (W.fresh hp).1, (W.fresh hp).2, upd_same⟩
theorem new_of0 {p : Addr} {H H' : Hp} {o : HO} (hp : H p = none) (e : upd H p o = H') : Same H H' ∧ H' p = some o := by
  subst e
  exact ⟨same_new hp, upd_same⟩
theorem same_mut {H H1 : Hp} {D : Addr} {o : HO} (s : Same H H1) (h : H D = none) : Same H (upd H1 D o) := fun b x e => by
  rw [upd_ne (ne_of_none e h)]
  exact s _ _ e
theorem szl {n : Nat} (h : n ≤ 1000) : n ≤ sizeLine := Nat.le_trans h (by decide)
theorem At.sqL {K : PySem.W.Frag} {w g : Addr} {H : Hp} {a : Addr} {xs : List V} (x : At w g H a (.lst xs)) : SqL K H a xs := .inl (.inl x.at_)
theorem At.sqT {K : PySem.W.Frag} {w g : Addr} {H : Hp} {a : Addr} {xs : List V} (x : At w g H a (.tup xs)) : SqT K H a xs := .inl (.inl x.at_)
theorem sqL_of {K : PySem.W.Frag} {H : Hp} {a : Addr} {xs : List V} (h : H a = some (.lst xs)) : SqL K H a xs := .inl (.inl h)
theorem sqT_of {K : PySem.W.Frag} {H : Hp} {a : Addr} {xs : List V} (h : H a = some (.tup xs)) : SqT K H a xs := .inl (.inl h)
/-- a tuple stands apart from the well -/
theorem WellAt.tup {w g a : Addr} {H : Hp} {xs : List V} (W : WellAt w g H) (h : H a = some (.tup xs)) : At w g H a (.tup xs) := by
  obtain ⟨c, gs, cs, k, h1, h2, h3, h4, h5, h6, h7⟩ := W
  exact ⟨ne_of h h4 (by intro z; cases z), ne_of h h5 (by intro z; cases z), h⟩
end G1
namespace G1
open PySem PySem.Spec PyProof.Rows L2
theorem ifT {A B : Prop} (h : A) : if true = true then A else B := by rw [if_pos rfl]; exact h
theorem ifF {A B : Prop} (h : B) : if false = true then A else B := by rw [if_neg Bool.false_ne_true]; exact h
theorem ifD {c : Prop} [Decidable c] {A B : Prop} (h1 : c → A) (h2 : ¬ c → B) : if decide c = true then A else B := by
  by_cases h : c
  · rw [decide_eq_true h]
    exact ifT (h1 h)
  · rw [decide_eq_false h]
    exact ifF (h2 h)
theorem ifDn {c : Prop} [Decidable c] {A B : Prop} (h1 : ¬ c → A) (h2 : c → B) : if (!decide c) = true then A else B := by
  by_cases h : c
  · rw [decide_eq_true h]
    exact ifF (h2 h)
  · rw [decide_eq_false h]
    exact ifT (h1 h)
theorem ifB {b : Bool} {A B : Prop} (h1 : b = true → A) (h2 : b = false → B) : if b = true then A else B := by
  cases b with
  | true => exact ifT (h1 rfl)
  | false => exact ifF (h2 rfl)
end G1
namespace G1
open PySem PySem.Spec PyProof.Rows L2
theorem dpAll_ints {K : PySem.W.Frag} {H : Hp} : ∀ ns : List Int, DpAll K H (ns.map V.int) (ns.map PyData.int)
  | [] => .nil
  | n :: ns => .cons (.int n) (dpAll_ints ns)
theorem lay_ints : ∀ ns : List Int, PyData.canLayAll0 (ns.map PyData.int) = true
  | [] => by simp [PyData.canLayAll0]
  | n :: ns => by simp [PyData.canLayAll0, PyData.canLay0, lay_ints ns]
theorem depth_ints : ∀ ns : List Int, PyData.depthAll (ns.map PyData.int) = 0
  | [] => by simp [PyData.depthAll]
  | n :: ns => by simp [PyData.depthAll, PyData.depth, depth_ints ns]
theorem shaped_ints (ns : List Int) : SeqAt.shaped (.list (ns.map PyData.int)) = true := by
  show (PyData.canLay0 (.list (ns.map PyData.int)) && decide (PyData.depth (.list (ns.map PyData.int)) ≤ 64)) = true
  rw [Bool.and_eq_true]
  refine ⟨by simp only [PyData.canLay0]; exact lay_ints ns, decide_eq_true ?_⟩
  simp only [PyData.depth, depth_ints]
  omega
theorem eqv_ints_nil (ns : List Int) : PyData.eqv (.list (ns.map PyData.int)) (.list []) = decide (ns = []) := by
  cases ns with
  | nil => simp [PyData.eqv, PyData.eqvAll]
  | cons n ns => simp [PyData.eqv, PyData.eqvAll]
end G1

namespace G1
open PySem PySem.Spec PyProof.Rows L2
theorem ix_zero {n : Nat} (h : 0 < n) : ixN n 0 = some 0 := by
  unfold ixN
  rw [if_pos (by omega), if_pos (by omega)]
  rfl
theorem ix_at {n j : Nat} {i : Int} (e : i = (j : Int)) (h : j < n) : ixN n i = some j := by
  subst e
  unfold ixN
  rw [if_pos (by omega), if_pos (by omega)]
  rfl
end G1

namespace G1
open PySem PySem.Spec PyProof.Rows L2
theorem seq_zero (n : Nat) : seqIndex? 0 (n + 1) = some 0 := by
  unfold seqIndex?
  simp
end G1

namespace G1
open PySem PySem.Spec PyProof.Rows L2
section
variable {K : PySem.W.Frag} {H : Hp} {Q : VK} {p : Addr} {xs : List V} {v : V}
theorem go_ixL {R : V → Prop} {j : Nat} (hs : H p = some (.lst xs)) (hj : xs[j]? = some v) (q : R v) :
    ∃ p' xs' i' v', V.ref p = V.ref p' ∧ V.int (j : Int) = V.int i' ∧ SqL K H p' xs' ∧ atI xs' i' = some v' ∧ R v' :=
  ⟨p, xs, _, v, rfl, rfl, sqL_of hs, atI_nat hj, q⟩
theorem go_ixLi {R : V → Prop} {i : Int} {j : Nat} (hs : H p = some (.lst xs)) (e : i = (j : Int)) (hj : xs[j]? = some v) (q : R v) :
    ∃ p' xs' i' v', V.ref p = V.ref p' ∧ V.int i = V.int i' ∧ SqL K H p' xs' ∧ atI xs' i' = some v' ∧ R v' := by
  subst e
  exact ⟨p, xs, _, v, rfl, rfl, sqL_of hs, atI_nat hj, q⟩
theorem go_ixT {R : V → Prop} {j : Nat} (hs : H p = some (.tup xs)) (hj : xs[j]? = some v) (q : R v) :
    ∃ p' xs' i' v', V.ref p = V.ref p' ∧ V.int (j : Int) = V.int i' ∧ SqT K H p' xs' ∧ atI xs' i' = some v' ∧ R v' :=
  ⟨p, xs, _, v, rfl, rfl, sqT_of hs, atI_nat hj, q⟩
theorem go_ixLast {R : V → Prop} (hs : H p = some (.lst xs)) (hj : xs[xs.length - 1]? = some v) (q : R v) :
    ∃ p' xs' i' v', V.ref p = V.ref p' ∧ V.int (-1) = V.int i' ∧ SqL K H p' xs' ∧ atI xs' i' = some v' ∧ R v' := by
  refine ⟨p, xs, _, v, rfl, rfl, sqL_of hs, ?_, q⟩
  have hl : 0 < xs.length := by
    cases xs with
    | nil => simp at hj
    | cons a l => simp
  unfold atI ixN
  rw [if_neg (by omega), if_pos (by omega)]
  show xs[(-1 + (xs.length : Int)).toNat]? = _
  rw [show (-1 + (xs.length : Int)).toNat = xs.length - 1 by omega]
  exact hj
theorem go_tup {R : List V → Prop} (hs : H p = some (.tup xs)) (q : R xs) : ∃ a ys, V.ref p = V.ref a ∧ SqT K H a ys ∧ R ys := ⟨p, xs, rfl, sqT_of hs, q⟩
theorem go_unl {R : List V → Prop} (hs : H p = some (.lst xs)) (q : R xs) : ∃ a ys, V.ref p = V.ref a ∧ SqL K H a ys ∧ R ys := ⟨p, xs, rfl, sqL_of hs, q⟩
theorem go_lenL {R : List V → Prop} (hs : H p = some (.lst xs)) (q : R xs) : ∃ p' ys, [V.ref p] = [V.ref p'] ∧ (SqL K H p' ys ∨ SqT K H p' ys) ∧ R ys :=
  ⟨p, xs, rfl, Or.inl (sqL_of hs), q⟩
end
end G1

namespace G1
open PySem PySem.Spec PyProof.Rows L2
section
variable {l m : List Bool}
/-- len of a text of two signs -/
theorem go_lenS {R : Str → Prop} (h : l.length ≤ 1000000) (q : R (B l)) : ∃ z, [V.str (B l)] = [V.str z] ∧ z.length ≤ sizeLine ∧ R z :=
  ⟨B l, rfl, by rw [B_len]; exact szM h, q⟩
theorem go_addS {R : Str → Str → Prop} (h : l.length + m.length ≤ 1000000) (q : R (B l) (B m)) : ∃ i j, V.str (B l) = V.str i ∧ V.str (B m) = V.str j ∧ i.length + j.length ≤ sizeLine ∧ R i j :=
  ⟨B l, B m, rfl, rfl, by rw [B_len, B_len]; exact szM h, q⟩
theorem go_mulS {R : Str → Int → Prop} {n : Int} (h : 0 ≤ n ∧ n < 2 ^ 30) (h2 : l.length * n.toNat ≤ 1000000) (q : R (B l) n) :
    ∃ z k, V.str (B l) = V.str z ∧ V.int n = V.int k ∧ 0 ≤ k ∧ k < 2 ^ 30 ∧ z.length * k.toNat ≤ 1000000 ∧ R z k :=
  ⟨B l, n, rfl, rfl, h.1, h.2, by rw [B_len]; exact h2, q⟩
theorem go_sl {R : Str → Prop} (h : l.length ≤ 1000000) (q : R (B l)) : ∃ z, V.str (B l) = V.str z ∧ z.length ≤ sizeLine ∧ R z :=
  ⟨B l, rfl, by rw [B_len]; exact szM h, q⟩
theorem go_ixS {R : Nat → Prop} {i : Int} {k : Nat} {b : Bool} (hi : i = (k : Int)) (h : l.length ≤ 1000000) (hk : l[k]? = some b) (q : R (cB b)) :
    ∃ z i' c, V.str (B l) = V.str z ∧ V.int i = V.int i' ∧ z.length ≤ sizeLine ∧ atI z.cps.toList i' = some c ∧ R c :=
  ⟨B l, i, _, rfl, rfl, by rw [B_len]; exact szM h, B_at l hi hk, q⟩
theorem go_ixSn {R : Nat → Prop} {i : Int} {k : Nat} {b : Bool} (hi : i = -1 - (k : Int)) (h : l.length ≤ 1000000) (hl : k < l.length) (hk : l[l.length - 1 - k]? = some b) (q : R (cB b)) :
    ∃ z i' c, V.str (B l) = V.str z ∧ V.int i = V.int i' ∧ z.length ≤ sizeLine ∧ atI z.cps.toList i' = some c ∧ R c :=
  ⟨B l, i, _, rfl, rfl, by rw [B_len]; exact szM h, B_atNeg l hi hl hk, q⟩
end
end G1
namespace G1
open PySem PySem.Spec PyProof.Rows L2
theorem log_small {i : Int} (h0 : 0 ≤ i) (h1 : i < 2 ^ 64) : i.natAbs.log2 < 1920 := by
  have h : i.natAbs < 2 ^ 64 := by omega
  by_cases hz : i.natAbs = 0
  · rw [hz]; decide
  · exact Nat.lt_of_lt_of_le ((Nat.log2_lt hz).mpr h) (by decide)
theorem go_bit {R : Int → Prop} {i : Int} (h : 0 ≤ i ∧ i < 2) (q : R i) : ∃ k, [V.int i] = [V.int k] ∧ k.natAbs.log2 < 1920 ∧ R k :=
  ⟨i, rfl, log_small h.1 (by omega), q⟩
theorem flat_one : ∀ bs : List Bool, (bs.map fun b => [b]).flatten = bs
  | [] => rfl
  | b :: bs => by rw [List.map_cons, List.flatten_cons, flat_one bs]; rfl
theorem len_one : ∀ bs : List Bool, ((bs.map fun b => B [b]).map (·.length)).sum = bs.length
  | [] => rfl
  | b :: bs => by
    rw [List.map_cons, List.map_cons, List.sum_cons, len_one bs, B_len, List.length_cons, List.length_cons, List.length_nil]
    omega
theorem go_join {K : PySem.W.Frag} {H : Hp} {R : Str → List Str → Prop} {D : Addr} {bs : List Bool} (hD : H D = some (.lst (bs.map fun b => V.str (B [b])))) (hl : bs.length ≤ 1000000) (q : R (B []) (bs.map fun b => B [b])) :
    ∃ a p ys, V.str (B []) = V.str a ∧ [V.ref D] = [V.ref p] ∧ (SqL K H p (List.map V.str ys) ∨ SqT K H p (List.map V.str ys)) ∧ (List.map (fun x => x.length) ys).sum + ys.length * a.length ≤ 16777216 ∧ R a ys := by
  refine ⟨B [], D, bs.map fun b => B [b], rfl, rfl, Or.inl ?_, ?_, q⟩
  · rw [List.map_map]
    exact sqL_of hD
  · rw [len_one, B_len]
    simp
    omega
theorem joined (bs : List Bool) : Txt.join (B []) (bs.map fun b => B [b]) = B bs := by
  have e : (bs.map fun b => B [b]) = (bs.map fun b => [b]).map B := by rw [List.map_map]; rfl
  rw [e, join_nil, flat_one]
end G1
namespace G1
open PySem PySem.Spec PyProof.Rows L2
theorem go_in {K : PySem.W.Frag} {H : Hp} {R : Bool → Prop} {p : Addr} {x : Int} {ys : List Int} {xs : List V} (hs : H p = some (.tup xs)) (e : xs = ys.map V.int) (q : ∀ b, R b) :
    ∃ p' zs, V.ref p = V.ref p' ∧ (SqL K H p' zs ∨ SqT K H p' zs) ∧ flatV (.int x) = true ∧ zs.all flatV = true ∧ R (inV (.int x) zs) := by
  refine ⟨p, xs, rfl, Or.inr (sqT_of hs), rfl, ?_, q _⟩
  subst e
  rw [List.all_eq_true]
  intro v hv
  obtain ⟨i, _, rfl⟩ := List.mem_map.mp hv
  rfl
theorem mul_le {a b n m : Nat} (h1 : a ≤ n) (h2 : b ≤ m) (h : n * m ≤ 1000000) : a * b ≤ 1000000 := Nat.le_trans (Nat.mul_le_mul h1 h2) h
end G1
/-! rows of signs: a head and then a turn again and again; least forms (plain Lean) -/
namespace Row
/-- the sign of a number -/
def sg (h t : List Bool) (n : Nat) : Bool := if n < h.length then h.getD n false else t.getD ((n - h.length) % t.length) false
/-- so many signs of a row from a place on -/
def rng (r : Nat → Bool) (a n : Nat) : List Bool := (List.range n).map fun i => r (a + i)
theorem rng_len (r : Nat → Bool) (a n : Nat) : (rng r a n).length = n := by unfold rng; rw [List.length_map, List.length_range]
theorem rng_get (r : Nat → Bool) (a n i : Nat) (h : i < n) : (rng r a n)[i]? = some (r (a + i)) := by
  unfold rng
  rw [List.getElem?_map, List.getElem?_range h]
  rfl
theorem rng_getD (r : Nat → Bool) (a n i : Nat) (h : i < n) : (rng r a n).getD i false = r (a + i) := by
  rw [List.getD_eq_getElem?_getD, rng_get r a n i h]
  rfl
theorem ext_rng {l : List Bool} {r : Nat → Bool} {a n : Nat} (hl : l.length = n) (h : ∀ i, i < n → l[i]? = some (r (a + i))) : l = rng r a n := by
  apply List.ext_getElem?
  intro i
  by_cases hi : i < n
  · rw [h i hi, rng_get r a n i hi]
  · rw [List.getElem?_eq_none (by omega), List.getElem?_eq_none (by rw [rng_len]; omega)]
theorem getD_some {l : List Bool} {i : Nat} (h : i < l.length) : l[i]? = some (l.getD i false) := by
  rw [List.getD_eq_getElem?_getD, List.getElem?_eq_getElem h]
  rfl
theorem sg_head {h t : List Bool} {n : Nat} (hn : n < h.length) : sg h t n = h.getD n false := by unfold sg; rw [if_pos hn]
theorem sg_turn {h t : List Bool} {n : Nat} (hn : h.length ≤ n) : sg h t n = t.getD ((n - h.length) % t.length) false := by unfold sg; rw [if_neg (by omega)]
/-- far numbers as those nearer by a multiple of the turn -/
theorem sg_back {h t : List Bool} (n k : Nat) (hk : h.length + k * t.length ≤ n) : sg h t (n - k * t.length) = sg h t n := by
  rw [sg_turn (by omega), sg_turn (by omega)]
  congr 1
  rw [show n - k * t.length - h.length = (n - h.length) - k * t.length by omega]
  have e : n - h.length = ((n - h.length) - k * t.length) + k * t.length := by omega
  rw [e, Nat.add_mul_mod_self_right]
  congr 1
  omega

/-! ### turns that come round -/
/-- turned on by k the turn is the same -/
def Rot (t : List Bool) (k : Nat) : Prop := ∀ i, i < t.length → t.getD i false = t.getD ((i + k) % t.length) false
theorem Rot.any {t : List Bool} {k : Nat} (h : Rot t k) (ht : 0 < t.length) (i : Nat) : t.getD (i % t.length) false = t.getD ((i + k) % t.length) false := by
  have := h (i % t.length) (Nat.mod_lt _ ht)
  rw [this, Nat.mod_add_mod]
theorem Rot.mul {t : List Bool} {k : Nat} (h : Rot t k) (ht : 0 < t.length) (m : Nat) : Rot t (m * k) := by
  induction m with
  | zero =>
    intro i hi
    rw [Nat.zero_mul, Nat.add_zero, Nat.mod_eq_of_lt hi]
  | succ m ih =>
    intro i hi
    rw [ih i hi, h.any ht]
    congr 1
    rw [Nat.succ_mul]
    congr 1
    omega
theorem rot_len (t : List Bool) : Rot t t.length := by
  intro i hi
  rw [Nat.add_mod_right, Nat.mod_eq_of_lt hi]
/-- the least way by which the turn is turned on into itself -/
structure IsPer (t : List Bool) (s : Nat) : Prop where
  pos : 1 ≤ s
  le : s ≤ t.length
  rot : Rot t s
  least : ∀ k, 1 ≤ k → k < s → ¬ Rot t k
theorem IsPer.uniq {t : List Bool} {s s' : Nat} (a : IsPer t s) (b : IsPer t s') : s = s' := by
  rcases Nat.lt_trichotomy s s' with h | h | h
  · exact absurd a.rot (b.least s a.pos h)
  · exact h
  · exact absurd b.rot (a.least s' b.pos h)
theorem IsPer.dvd {t : List Bool} {s : Nat} (a : IsPer t s) : t.length % s = 0 := by
  have ht : 0 < t.length := Nat.lt_of_lt_of_le a.pos a.le
  by_cases h : t.length % s = 0
  · exact h
  · exfalso
    have hlt := Nat.mod_lt t.length (show 0 < s from a.pos)
    refine a.least (t.length % s) (by omega) hlt ?_
    -- T = q s + r, turned on by T and back by q s
    intro i hi
    have hq := (a.rot.mul ht (t.length / s)).any ht (i + t.length % s)
    rw [hq]
    have e : i + t.length % s + t.length / s * s = i + t.length := by
      have := Nat.mod_add_div t.length s
      rw [Nat.mul_comm] at this
      omega
    rw [e, Nat.add_mod_right, Nat.mod_eq_of_lt hi]

/-- where the turn begins, if it is s signs long -/
structure IsBeg (h t : List Bool) (s m : Nat) : Prop where
  le : m ≤ h.length
  same : ∀ n, m ≤ n → n < h.length → sg h t n = sg h t (n + s)
  least : m = 0 ∨ sg h t (m - 1) ≠ sg h t (m - 1 + s)
theorem IsBeg.uniq {h t : List Bool} {s m m' : Nat} (a : IsBeg h t s m) (b : IsBeg h t s m') : m = m' := by
  have key : ∀ {m m' : Nat}, IsBeg h t s m → IsBeg h t s m' → ¬ m < m' := by
    intro m m' a b hlt
    rcases b.least with e | e
    · omega
    · exact e (a.same (m' - 1) (by omega) (by have := b.le; omega))
  have k1 := key a b
  have k2 := key b a
  omega
/-- behind the head the row goes on by the turn -/
theorem sg_rot {h t : List Bool} {s : Nat} (ht : 0 < t.length) (r : Rot t s) {n : Nat} (hn : h.length ≤ n) : sg h t n = sg h t (n + s) := by
  rw [sg_turn hn, sg_turn (by omega), r.any ht]
  congr 2
  omega
theorem IsBeg.from {h t : List Bool} {s m : Nat} (a : IsBeg h t s m) (p : IsPer t s) {n : Nat} (hn : m ≤ n) : sg h t n = sg h t (n + s) := by
  by_cases hh : n < h.length
  · exact a.same n hn hh
  · exact sg_rot (Nat.lt_of_lt_of_le p.pos p.le) p.rot (by omega)
theorem IsBeg.mul {h t : List Bool} {s m : Nat} (a : IsBeg h t s m) (p : IsPer t s) {n : Nat} (hn : m ≤ n) (k : Nat) : sg h t n = sg h t (n + k * s) := by
  induction k with
  | zero => rw [Nat.zero_mul, Nat.add_zero]
  | succ k ih =>
    rw [ih, a.from p (by omega), Nat.succ_mul]
    congr 1
    omega
/-- the least form tells the same -/
theorem sg_least {h t : List Bool} {s m : Nat} (a : IsBeg h t s m) (p : IsPer t s) (n : Nat) : sg (rng (sg h t) 0 m) (rng (sg h t) m s) n = sg h t n := by
  by_cases hn : n < m
  · rw [sg_head (by rw [rng_len]; exact hn), rng_getD _ _ _ _ hn, Nat.zero_add]
  · rw [sg_turn (by rw [rng_len]; omega), rng_len, rng_len, rng_getD _ _ _ _ (Nat.mod_lt _ p.pos)]
    have h1 := a.mul p (n := m + (n - m) % s) (by omega) ((n - m) / s)
    rw [h1]
    congr 1
    have := Nat.mod_add_div (n - m) s
    rw [Nat.mul_comm] at this
    omega
end Row
/-! the two ways to a least form: by parts of the turn and the head gone backwards; by turning on and by halving -/
namespace Row
open G1
theorem per_exists {t : List Bool} (ht : 0 < t.length) : ∃ s, IsPer t s := by
  have key : ∀ n, (∃ k, 1 ≤ k ∧ k ≤ n ∧ Rot t k) → ∃ s, 1 ≤ s ∧ s ≤ n ∧ Rot t s ∧ ∀ k, 1 ≤ k → k < s → ¬ Rot t k := by
    intro n
    induction n with
    | zero => rintro ⟨k, h1, h2, _⟩; omega
    | succ n ih =>
      rintro ⟨k, h1, h2, h3⟩
      by_cases h : ∃ k, 1 ≤ k ∧ k ≤ n ∧ Rot t k
      · obtain ⟨s, a, b, c, d⟩ := ih h
        exact ⟨s, a, by omega, c, d⟩
      · refine ⟨k, h1, h2, h3, fun j j1 j2 j3 => h ⟨j, j1, by omega, j3⟩⟩
  obtain ⟨s, a, b, c, d⟩ := key t.length ⟨t.length, ht, Nat.le_refl _, rot_len t⟩
  exact ⟨s, a, b, c, d⟩
theorem rot_part {t : List Bool} {s : Nat} (hs : 1 ≤ s) (hd : t.length % s = 0) (ht : 0 < t.length) (r : Rot t s) (i : Nat) (hi : i < t.length) : t.getD i false = t.getD (i % s) false := by
  have h := (r.mul ht (i / s)) (i % s) (Nat.lt_of_le_of_lt (Nat.mod_le _ _) hi)
  rw [h]
  congr 1
  have := Nat.mod_add_div i s
  rw [Nat.mul_comm] at this
  rw [this, Nat.mod_eq_of_lt hi]
theorem part_get {t : List Bool} {s : Nat} (hs : 1 ≤ s) (hl : s ≤ t.length) (hd : t.length % s = 0) (i : Nat) (hi : i < t.length) : (rep (t.length / s) (t.take s))[i]? = some (t.getD (i % s) false) := by
  have e : (t.take s).length = s := by rw [List.length_take]; omega
  have e2 : t.length / s * s = t.length := by
    have := Nat.mod_add_div t.length s
    rw [Nat.mul_comm] at this
    omega
  have hm := Nat.mod_lt i (show 0 < s from hs)
  rw [rep_get _ _ _ (by rw [e, e2]; exact hi), e, List.getElem?_take, if_pos hm]
  exact getD_some (by omega)
theorem rep_iff {t : List Bool} {s : Nat} (hs : 1 ≤ s) (hl : s ≤ t.length) (hd : t.length % s = 0) : rep (t.length / s) (t.take s) = t ↔ Rot t s := by
  have ht : 0 < t.length := by omega
  have e : (t.take s).length = s := by rw [List.length_take]; omega
  have e2 : t.length / s * s = t.length := by
    have := Nat.mod_add_div t.length s
    rw [Nat.mul_comm] at this
    omega
  constructor
  · intro h i hi
    have k1 : ∀ i, i < t.length → t.getD i false = t.getD (i % s) false := by
      intro i hi
      have h1 := part_get hs hl hd i hi
      rw [h, getD_some hi] at h1
      exact Option.some.inj h1
    rw [k1 i hi, k1 _ (Nat.mod_lt _ ht)]
    congr 1
    obtain ⟨q, hq⟩ : ∃ q, t.length = s * q := ⟨t.length / s, by rw [Nat.mul_comm]; exact e2.symm⟩
    rw [hq, Nat.mod_mul_right_mod, Nat.add_mod_right]
  · intro r
    apply List.ext_getElem?
    intro i
    by_cases hi : i < t.length
    · rw [part_get hs hl hd i hi, getD_some hi, rot_part hs hd ht r i hi]
    · rw [List.getElem?_eq_none (by rw [rep_length, e, e2]; omega), List.getElem?_eq_none (by omega)]

/-! ### the head gone backwards -/
/-- so many of the last signs of the head are as the turn u, gone backwards, has them, and no more -/
structure Alike (h u : List Bool) (a : Nat) : Prop where
  le : a ≤ h.length
  same : ∀ j, j < a → h.getD (h.length - 1 - j) false = u.getD (u.length - 1 - j % u.length) false
  last : a = h.length ∨ h.getD (h.length - 1 - a) false ≠ u.getD (u.length - 1 - a % u.length) false
/-- the row of u, begun anywhere -/
def gg (h u : List Bool) (n : Nat) : Bool := u.getD ((n + h.length * u.length - h.length) % u.length) false
theorem sub_mod_id {s j A : Nat} (hs : 0 < s) (hj : j < A) : (A * s - 1 - j) % s = s - 1 - j % s := by
  have hm := Nat.mod_lt j hs
  have h1 := Nat.mod_add_div j s
  have hq : j / s < A := Nat.lt_of_le_of_lt (Nat.div_le_self j s) hj
  obtain ⟨c, hc⟩ : ∃ c, A = j / s + 1 + c := ⟨A - j / s - 1, by omega⟩
  have e : A * s - 1 - j = (s - 1 - j % s) + s * c := by
    rw [hc, Nat.add_mul, Nat.add_mul, Nat.one_mul, Nat.mul_comm c s, Nat.mul_comm (j / s) s]
    omega
  rw [e, Nat.add_mul_mod_self_left, Nat.mod_eq_of_lt (by omega)]
theorem mul_ge {A s : Nat} (hs : 0 < s) : A ≤ A * s := Nat.le_mul_of_pos_right A hs
theorem gg_head {h u : List Bool} {j : Nat} (hu : 0 < u.length) (hj : j < h.length) : gg h u (h.length - 1 - j) = u.getD (u.length - 1 - j % u.length) false := by
  unfold gg
  congr 1
  rw [← sub_mod_id hu hj]
  congr 1
  have := mul_ge (A := h.length) hu
  omega
theorem gg_add {h u : List Bool} (hu : 0 < u.length) (n : Nat) : gg h u (n + u.length) = gg h u n := by
  unfold gg
  congr 1
  have := mul_ge (A := h.length) hu
  rw [show n + u.length + h.length * u.length - h.length = (n + h.length * u.length - h.length) + u.length by omega, Nat.add_mod_right]
section
variable {h t : List Bool} {s a : Nat}
theorem take_len (p : IsPer t s) : (t.take s).length = s := by rw [List.length_take]; exact Nat.min_eq_left p.le
theorem take_getD {i : Nat} (hi : i < s) : (t.take s).getD i false = t.getD i false := by
  rw [List.getD_eq_getElem?_getD, List.getD_eq_getElem?_getD, List.getElem?_take, if_pos hi]
theorem sg_gg (p : IsPer t s) (x : Alike h (t.take s) a) {n : Nat} (hn : h.length - a ≤ n) : sg h t n = gg h (t.take s) n := by
  have hu : 0 < (t.take s).length := by rw [take_len p]; exact p.pos
  have ht : 0 < t.length := Nat.lt_of_lt_of_le p.pos p.le
  by_cases hh : n < h.length
  · obtain ⟨j, hj⟩ : ∃ j, n = h.length - 1 - j ∧ j < h.length := ⟨h.length - 1 - n, by omega, by omega⟩
    obtain ⟨rfl, hj2⟩ := hj
    rw [sg_head hh, gg_head hu hj2, x.same j (by omega)]
  · rw [sg_turn (by omega)]
    unfold gg
    rw [take_len p]
    rw [take_getD (Nat.mod_lt _ p.pos)]
    rw [rot_part p.pos p.dvd ht p.rot _ (Nat.mod_lt _ ht)]
    congr 1
    obtain ⟨q, hq⟩ : ∃ q, t.length = s * q := ⟨t.length / s, by
      have := Nat.mod_add_div t.length s
      have hd := p.dvd
      omega⟩
    rw [hq, Nat.mod_mul_right_mod]
    have hge := mul_ge (A := h.length) p.pos
    rw [show n + h.length * s - h.length = (n - h.length) + h.length * s by omega, Nat.add_mul_mod_self_right]
theorem beg_of (p : IsPer t s) (x : Alike h (t.take s) a) : IsBeg h t s (h.length - a) := by
  have hu : 0 < (t.take s).length := by rw [take_len p]; exact p.pos
  have hle := x.le
  refine ⟨Nat.sub_le _ _, fun n h1 h2 => ?_, ?_⟩
  · rw [sg_gg p x h1, sg_gg p x (by omega)]
    have := gg_add (h := h) hu n
    rw [take_len p] at this
    exact this.symm
  · rcases x.last with e | e
    · exact .inl (by omega)
    · by_cases h0 : a = h.length
      · exact .inl (by omega)
      · refine .inr fun z => e ?_
        have ha : a < h.length := by omega
        rw [sg_head (by omega), sg_gg p x (n := h.length - a - 1 + s) (by have := p.pos; omega)] at z
        have g1 := gg_add (h := h) hu (h.length - a - 1)
        rw [take_len p] at g1
        rw [g1, show h.length - a - 1 = h.length - 1 - a by omega, gg_head hu ha] at z
        exact z
theorem win_of (p : IsPer t s) (x : Alike h (t.take s) a) :
    (t.take s).drop (s - a % s) ++ (t.take s).take (s - a % s) = rng (sg h t) (h.length - a) s := by
  have hl := take_len p
  have hle := x.le
  have hm := Nat.mod_lt a p.pos
  have hg : ∀ i, i < s → sg h t (h.length - a + i) = gg h (t.take s) (h.length - a + i) := fun i _ => sg_gg p x (by omega)
  unfold gg at hg
  rw [hl] at hg
  have hge := mul_ge (A := h.length) p.pos
  have ha := Nat.mod_add_div a s
  have hq : a / s ≤ h.length := Nat.le_trans (Nat.div_le_self a s) hle
  have hqs : a / s ≤ s * (a / s) := by
    rw [Nat.mul_comm]
    exact mul_ge p.pos
  obtain ⟨c, hc⟩ : ∃ c, h.length = a / s + c := ⟨h.length - a / s, by omega⟩
  have e0 : h.length * s = s * (a / s) + s * c := by
    conv => lhs; rw [hc]
    rw [Nat.add_mul, Nat.mul_comm (a / s) s, Nat.mul_comm c s]
  generalize hlu : t.take s = u at *
  generalize a / s = q at *
  generalize a % s = ρ at *
  generalize h.length * s = A at *
  refine ext_rng (by rw [List.length_append, List.length_drop, List.length_take, hl]; omega) fun i hi => ?_
  rw [hg i hi]
  have e1 : h.length - a + i + A - h.length = s * c + i - ρ := by omega
  rw [e1]
  by_cases h1 : i < ρ
  · rw [List.getElem?_append_left (by rw [List.length_drop, hl]; omega), List.getElem?_drop, getD_some (by rw [hl]; omega)]
    congr 2
    have hc0 : c ≠ 0 := by
      rintro rfl
      rw [Nat.mul_zero] at e0
      omega
    obtain ⟨d, rfl⟩ : ∃ d, c = d + 1 := ⟨c - 1, by omega⟩
    have e5 : s * (d + 1) = s * d + s := Nat.mul_succ s d
    rw [show s * (d + 1) + i - ρ = (s - ρ + i) + s * d by omega, Nat.add_mul_mod_self_left, Nat.mod_eq_of_lt (by omega)]
  · rw [List.getElem?_append_right (by rw [List.length_drop, hl]; omega), List.length_drop, hl, List.getElem?_take, if_pos (by omega), getD_some (by rw [hl]; omega)]
    congr 2
    rw [show s * c + i - ρ = (i - ρ) + s * c by omega, Nat.add_mul_mod_self_left, Nat.mod_eq_of_lt (by omega)]
    omega
theorem head_of (hm : a ≤ h.length) : h.take (h.length - a) = rng (sg h t) 0 (h.length - a) := by
  refine ext_rng (by rw [List.length_take]; omega) fun i hi => ?_
  rw [List.getElem?_take, if_pos hi, Nat.zero_add, sg_head (by omega), getD_some (by omega)]
end
end Row
/-! str.find from a place; the least form by turning on and by halving -/
namespace Row
open G1 PySem PySem.StrLaws PySem.Builtin PySem.Builtin.Str
theorem occ_full (s sub : Str) (hi : Nat) : ∀ (l : List Nat) (st : Array Nat × Nat), 1 ≤ st.fst.size → (forIn l st (occBody s sub hi 1)).run.fst = st.fst
  | [], st, h => rfl
  | a :: l, st, h => by
    rw [List.forIn_cons]
    unfold occBody
    rw [if_neg (fun c => by have := c.1.1.1; omega)]
    exact occ_full s sub hi l _ h
theorem occ_first (s sub : Str) (hi : Nat) : ∀ (n lo free k : Nat), free ≤ lo → lo ≤ k → k < lo + n → (k + sub.length ≤ hi ∧ subAt s sub k = true) →
    (∀ j, lo ≤ j → j < k → ¬ (j + sub.length ≤ hi ∧ subAt s sub j = true)) →
    (forIn (List.range' lo n) ((#[] : Array Nat), free) (occBody s sub hi 1)).run.fst.toList = [k]
  | 0, lo, free, k, _, h1, h2, _, _ => by omega
  | n + 1, lo, free, k, hf, h1, h2, hm, hl => by
    rw [List.range'_succ, List.forIn_cons]
    unfold occBody
    by_cases hk : k = lo
    · subst hk
      have c1 : ((((#[] : Array Nat), free).fst.size < 1 ∧ ((#[] : Array Nat), free).snd ≤ k) ∧ k + sub.length ≤ hi) ∧ subAt s sub k = true := ⟨⟨⟨by simp, hf⟩, hm.1⟩, hm.2⟩
      rw [if_pos c1]
      have h3 := occ_full s sub hi (List.range' (k + 1) n) (((#[] : Array Nat)).push k, k + sub.length) (by simp)
      have h4 : (forIn (List.range' (k + 1) n) (((#[] : Array Nat)).push k, k + sub.length) (occBody s sub hi 1)).run.fst.toList = [k] := by rw [h3]; rfl
      exact h4
    · have c2 : ¬ (((((#[] : Array Nat), free).fst.size < 1 ∧ ((#[] : Array Nat), free).snd ≤ lo) ∧ lo + sub.length ≤ hi) ∧ subAt s sub lo = true) := fun c => hl lo (Nat.le_refl _) (by omega) ⟨c.1.2, c.2⟩
      rw [if_neg c2]
      exact occ_first s sub hi n (lo + 1) free k (by omega) (by omega) (by omega) hm fun j j1 j2 => hl j (by omega) j2
theorem subAt_B (x y : List Bool) (k : Nat) : subAt (B x) (B y) k = true ↔ (x.drop k).take y.length = y := by
  rw [subAt_eq]
  rw [B_len, B_cps, B_cps, beq_iff_eq, ← List.map_drop, ← List.map_take]
  exact ⟨map_cB_inj, fun h => by rw [h]⟩
theorem find3_of {x y : List Bool} {s : Nat} (h1 : 1 ≤ s) (hs : s + y.length ≤ x.length) (hm : (x.drop s).take y.length = y) (hl : ∀ k, 1 ≤ k → k < s → (x.drop k).take y.length ≠ y) :
    Txt.find3 (B x) (B y) 1 = (s : Int) := by
  unfold Txt.find3
  have e : occurrences (B x) (B y) (fromIndex (B x).length 1) (B x).length 1 = [s] := by
    rw [occ_eq]
    have e1 : fromIndex (B x).length 1 = 1 := rfl
    rw [e1]
    refine occ_first (B x) (B y) (B x).length _ 1 1 s (Nat.le_refl _) h1 (by rw [B_len]; omega) ⟨by rw [B_len, B_len]; exact hs, (subAt_B x y s).mpr hm⟩ fun j j1 j2 c => ?_
    exact hl j j1 j2 ((subAt_B x y j).mp c.2)
  rw [e]
theorem twice_get {t : List Bool} {k : Nat} (hk : k ≤ t.length) {i : Nat} (hi : i < t.length) : (((t ++ t).drop k).take t.length)[i]? = some (t.getD ((i + k) % t.length) false) := by
  rw [List.getElem?_take, if_pos hi, List.getElem?_drop]
  by_cases h : k + i < t.length
  · rw [List.getElem?_append_left h, getD_some h, Nat.add_comm i k, Nat.mod_eq_of_lt h]
  · rw [List.getElem?_append_right (by omega), getD_some (by omega), Nat.add_comm i k]
    congr 2
    rw [Nat.mod_eq_sub_mod (by omega), Nat.mod_eq_of_lt (by omega)]
theorem twice_rot {t : List Bool} {k : Nat} (hk : k ≤ t.length) : ((t ++ t).drop k).take t.length = t ↔ Rot t k := by
  constructor
  · intro h i hi
    have h1 := twice_get hk hi
    rw [h, getD_some hi] at h1
    exact Option.some.inj h1
  · intro r
    apply List.ext_getElem?
    intro i
    by_cases hi : i < t.length
    · rw [twice_get hk hi, getD_some hi, r i hi]
    · rw [List.getElem?_eq_none (by rw [List.length_take, List.length_drop, List.length_append]; omega), List.getElem?_eq_none (by omega)]
/-- (t + t).find(t, 1) -/
theorem find_per {t : List Bool} {s : Nat} (p : IsPer t s) : Txt.find3 (B (t ++ t)) (B t) 1 = (s : Int) := by
  have hle := p.le
  refine find3_of p.pos (by rw [List.length_append]; omega) ((twice_rot hle).mpr p.rot) fun k k1 k2 h => ?_
  exact p.least k k1 k2 ((twice_rot (by omega)).mp h)

/-! ### halving -/
/-- the row of a head and its turn twice -/
theorem row2_get {h t : List Bool} {i : Nat} (hi : i < h.length + t.length + t.length) : (h ++ t ++ t)[i]? = some (sg h t i) := by
  by_cases h1 : i < h.length
  · rw [List.append_assoc, List.getElem?_append_left h1, sg_head h1, getD_some h1]
  · rw [sg_turn (by omega), List.append_assoc, List.getElem?_append_right (by omega)]
    have ht : 0 < t.length := by omega
    by_cases h2 : i - h.length < t.length
    · rw [List.getElem?_append_left h2, getD_some h2, Nat.mod_eq_of_lt h2]
    · rw [List.getElem?_append_right (by omega), getD_some (by omega)]
      congr 2
      rw [Nat.mod_eq_sub_mod (by omega), Nat.mod_eq_of_lt (by omega)]
/-- what a turn of the halving asks -/
theorem half_iff {h t : List Bool} {s m : Nat} (hs : s ≤ t.length) (hm : m ≤ h.length) :
    ((h ++ t ++ t).take h.length).drop m = ((h ++ t ++ t).take (h.length + s)).drop (m + s) ↔ ∀ n, m ≤ n → n < h.length → sg h t n = sg h t (n + s) := by
  constructor
  · intro e n h1 h2
    have e2 := congrArg (fun l => l[n - m]?) e
    simp only [List.getElem?_drop, List.getElem?_take] at e2
    rw [if_pos (by omega), if_pos (by omega), row2_get (by omega), row2_get (by omega)] at e2
    have e3 := Option.some.inj e2
    rw [show m + (n - m) = n by omega, show m + s + (n - m) = n + s by omega] at e3
    exact e3
  · intro a
    apply List.ext_getElem?
    intro i
    rw [List.getElem?_drop, List.getElem?_drop, List.getElem?_take, List.getElem?_take]
    by_cases h1 : m + i < h.length
    · rw [if_pos h1, if_pos (by omega), row2_get (by omega), row2_get (by omega), a (m + i) (by omega) h1]
      congr 2
      omega
    · rw [if_neg h1, if_neg (by omega)]
/-- between low and high the place lies -/
structure Half (h t : List Bool) (s lo hi : Nat) : Prop where
  le : lo ≤ hi
  top : hi ≤ h.length
  same : ∀ n, hi ≤ n → n < h.length → sg h t n = sg h t (n + s)
  low : ∀ m, m < lo → ∃ n, m ≤ n ∧ n < h.length ∧ sg h t n ≠ sg h t (n + s)
theorem Half.beg {h t : List Bool} {s lo hi : Nat} (x : Half h t s lo hi) (e : lo = hi) : IsBeg h t s hi := by
  subst e
  refine ⟨x.top, x.same, ?_⟩
  rcases Nat.eq_zero_or_pos lo with z | z
  · exact .inl z
  · refine .inr fun c => ?_
    obtain ⟨n, h1, h2, h3⟩ := x.low (lo - 1) (by omega)
    by_cases e : n = lo - 1
    · subst e
      exact h3 c
    · exact h3 (x.same n (by omega) h2)
theorem beg_exists {h t : List Bool} {s : Nat} : ∃ m, IsBeg h t s m := by
  have key : ∀ d, d ≤ h.length → (∀ n, h.length - d ≤ n → n < h.length → sg h t n = sg h t (n + s)) → ∃ m, IsBeg h t s m := by
    intro d
    induction hk : h.length - d generalizing d with
    | zero => exact fun h1 h2 => ⟨0, Nat.zero_le _, fun n a b => h2 n a b, .inl rfl⟩
    | succ k ih =>
      intro h1 h2
      by_cases c : sg h t k = sg h t (k + s)
      · refine ih (d + 1) (by omega) (by omega) fun n a b => ?_
        by_cases e : n = k
        · subst e; exact c
        · exact h2 n (by omega) b
      · exact ⟨k + 1, by omega, h2, .inr c⟩
  exact key 0 (Nat.zero_le _) fun n a b => by omega
theorem rng_take {h t : List Bool} {m : Nat} (hm : m ≤ h.length + t.length + t.length) : (h ++ t ++ t).take m = rng (sg h t) 0 m := by
  refine ext_rng (by rw [List.length_take, List.length_append, List.length_append]; omega) fun i hi => ?_
  rw [List.getElem?_take, if_pos hi, row2_get (by omega), Nat.zero_add]
theorem rng_mid {h t : List Bool} {m s : Nat} (hm : m + s ≤ h.length + t.length + t.length) : ((h ++ t ++ t).take (m + s)).drop m = rng (sg h t) m s := by
  refine ext_rng (by rw [List.length_drop, List.length_take, List.length_append, List.length_append]; omega) fun i hi => ?_
  rw [List.getElem?_drop, List.getElem?_take, if_pos (by omega), row2_get (by omega)]
/-- the first so many signs -/
theorem row_take {h t : List Bool} {k m : Nat} (ht : 0 < t.length) (hm : m ≤ h.length + k * t.length) : (h ++ rep k t).take m = rng (sg h t) 0 m := by
  refine ext_rng (by rw [List.length_take, List.length_append, rep_length]; omega) fun i hi => ?_
  rw [List.getElem?_take, if_pos hi, Nat.zero_add]
  by_cases h1 : i < h.length
  · rw [List.getElem?_append_left h1, sg_head h1, getD_some h1]
  · rw [List.getElem?_append_right (by omega), rep_get _ _ _ (by omega), sg_turn (by omega), getD_some (Nat.mod_lt _ ht)]
end Row
namespace Row
theorem less_ok {h t : List Bool} {n : Int} (n0 : 0 ≤ n) (t0 : 0 < t.length) :
    0 ≤ n - (if n - (h.length : Int) > 0 then n - (h.length : Int) else 0) / (t.length : Int) * (t.length : Int) ∧
    sg h t (n - (if n - (h.length : Int) > 0 then n - (h.length : Int) else 0) / (t.length : Int) * (t.length : Int)).toNat = sg h t n.toNat := by
  by_cases hn : n - (h.length : Int) > 0
  · rw [if_pos hn]
    obtain ⟨k, hk⟩ : ∃ k, k = (n.toNat - h.length) / t.length := ⟨_, rfl⟩
    have e : (n - (h.length : Int)) / (t.length : Int) = (k : Int) := by
      rw [hk, Int.natCast_ediv]
      congr 1
      omega
    have hm := Nat.div_mul_le_self (n.toNat - h.length) t.length
    rw [← hk] at hm
    rw [e]
    have hc : (k : Int) * (t.length : Int) = ((k * t.length : Nat) : Int) := (Int.natCast_mul _ _).symm
    rw [hc]
    refine ⟨by omega, ?_⟩
    have e2 : (n - ((k * t.length : Nat) : Int)).toNat = n.toNat - k * t.length := by omega
    rw [e2]
    exact sg_back _ _ (by omega)
  · rw [if_neg hn]
    have e : (0 : Int) / (t.length : Int) * (t.length : Int) = 0 := by rw [Int.zero_ediv, Int.zero_mul]
    rw [e, Int.sub_zero]
    exact ⟨n0, rfl⟩
end Row
/-! least tables written otherwise -/
namespace Row
open G1
theorem row_mid {h t : List Bool} {k m s : Nat} (ht : 0 < t.length) (hm : m + s ≤ h.length + k * t.length) : ((h ++ rep k t).take (m + s)).drop m = rng (sg h t) m s := by
  rw [row_take ht hm]
  refine ext_rng (by rw [List.length_drop, rng_len]; omega) fun i hi => ?_
  rw [List.getElem?_drop, rng_get _ _ _ _ (by omega), Nat.zero_add]
/-- the turn can't be shortened, the head does not go on by it -/
structure Prim (h u : List Bool) : Prop where
  per : IsPer u u.length
  last : h.length = 0 ∨ h.getD (h.length - 1) false ≠ u.getD (u.length - 1) false
theorem Prim.pos {h u : List Bool} (x : Prim h u) : 0 < u.length := x.per.pos
theorem Prim.beg {h u : List Bool} (x : Prim h u) : IsBeg h u u.length h.length := by
  refine ⟨Nat.le_refl _, fun n a b => by omega, ?_⟩
  rcases x.last with e | e
  · exact .inl e
  · by_cases h0 : h.length = 0
    · exact .inl h0
    · refine .inr fun z => e ?_
      have hp := x.pos
      rw [sg_head (by omega), sg_turn (by omega), show h.length - 1 + u.length - h.length = u.length - 1 by omega, Nat.mod_eq_of_lt (by omega)] at z
      exact z
theorem Prim.head {h u : List Bool} : rng (sg h u) 0 h.length = h :=
  (ext_rng (a := 0) rfl fun i hi => by rw [Nat.zero_add, sg_head hi, getD_some hi]).symm
theorem Prim.turn {h u : List Bool} : rng (sg h u) h.length u.length = u :=
  (ext_rng (a := h.length) rfl fun i hi => by rw [sg_turn (by omega), show h.length + i - h.length = i by omega, Nat.mod_eq_of_lt hi, getD_some hi]).symm
theorem rep_getD {l : List Bool} {k i : Nat} (hi : i < k * l.length) (hl : 0 < l.length) : (rep k l).getD i false = l.getD (i % l.length) false := by
  rw [List.getD_eq_getElem?_getD, rep_get _ _ _ hi, List.getD_eq_getElem?_getD]
section
variable {h u : List Bool} {M k : Nat}
/-- a sign of the turn that is turned on and repeated -/
theorem wr_getD (hu : 0 < u.length) {i : Nat} (hi : i < k * u.length) : (rep k (rng (sg h u) M u.length)).getD i false = sg h u (M + i % u.length) := by
  rw [rep_getD (by rw [rng_len]; exact hi) (by rw [rng_len]; exact hu), rng_len, rng_getD _ _ _ _ (Nat.mod_lt _ hu)]
theorem wr_len : (rep k (rng (sg h u) M u.length)).length = k * u.length := by rw [rep_length, rng_len]
theorem sg_mul (hu : 0 < u.length) {n j : Nat} (hn : h.length ≤ n) : sg h u (n + u.length * j) = sg h u n := by
  rw [sg_turn (by omega), sg_turn hn, show n + u.length * j - h.length = (n - h.length) + u.length * j by omega, Nat.add_mul_mod_self_left]
theorem sg_mod (hu : 0 < u.length) (hM : h.length ≤ M) (i : Nat) : sg h u (M + i % u.length) = sg h u (M + i) := by
  have e : M + i = (M + i % u.length) + u.length * (i / u.length) := by
    have := Nat.mod_add_div i u.length
    omega
  rw [e, sg_mul hu (by omega)]
theorem wr_sg (hu : 0 < u.length) (hM : h.length ≤ M) (hk : 1 ≤ k) : sg (rng (sg h u) 0 M) (rep k (rng (sg h u) M u.length)) = sg h u := by
  funext n
  have hkl : 0 < k * u.length := Nat.mul_pos hk hu
  by_cases hn : n < M
  · rw [sg_head (by rw [rng_len]; exact hn), rng_getD _ _ _ _ hn, Nat.zero_add]
  · rw [sg_turn (by rw [rng_len]; omega), rng_len, wr_len, wr_getD hu (Nat.mod_lt _ hkl), Nat.mul_comm, Nat.mod_mul_right_mod, sg_mod hu hM]
    congr 1
    omega
theorem wr_per (x : IsPer u u.length) (hM : h.length ≤ M) (hk : 1 ≤ k) : IsPer (rep k (rng (sg h u) M u.length)) u.length := by
  have hu : 0 < u.length := x.pos
  have hkl : u.length ≤ k * u.length := Nat.le_mul_of_pos_left _ hk
  refine ⟨hu, by rw [wr_len]; exact hkl, fun i hi => ?_, fun j j1 j2 r => ?_⟩
  · rw [wr_len] at hi ⊢
    rw [wr_getD hu hi, wr_getD hu (Nat.mod_lt _ (by omega)), Nat.mul_comm, Nat.mod_mul_right_mod, Nat.add_mod_right]
  · refine x.least j j1 j2 fun i hi => ?_
    -- the place in the repeated turn that stands for i
    obtain ⟨a, ha⟩ : ∃ a, a = (i + u.length - (M - h.length) % u.length) % u.length := ⟨_, rfl⟩
    have al : a < u.length := by rw [ha]; exact Nat.mod_lt _ hu
    have hb := Nat.mod_lt (M - h.length) hu
    have e2 : ((M - h.length) + a) % u.length = i := by
      have hd := Nat.mod_add_div (M - h.length) u.length
      rw [ha, Nat.add_mod_mod]
      rw [show M - h.length + (i + u.length - (M - h.length) % u.length) = (i + u.length) + u.length * ((M - h.length) / u.length) by omega]
      rw [Nat.add_mul_mod_self_left, Nat.add_mod_right, Nat.mod_eq_of_lt hi]
    have key : ∀ c, sg h u (M + (a + c)) = u.getD ((i + c) % u.length) false := fun c => by
      rw [sg_turn (by omega)]
      congr 1
      rw [show M + (a + c) - h.length = ((M - h.length) + a) + c by omega, ← Nat.mod_add_mod, e2]
    have r2 := r a (by rw [wr_len]; omega)
    rw [wr_len, wr_getD hu (by omega), wr_getD hu (Nat.mod_lt _ (by omega)), Nat.mul_comm k, Nat.mod_mul_right_mod, sg_mod hu hM, sg_mod hu hM] at r2
    have k0 := key 0
    rw [Nat.add_zero, Nat.add_zero, Nat.mod_eq_of_lt hi] at k0
    rw [← k0, r2, key j]
theorem wr_beg (x : Prim h u) (hM : h.length ≤ M) (hk : 1 ≤ k) : IsBeg (rng (sg h u) 0 M) (rep k (rng (sg h u) M u.length)) u.length h.length := by
  have e := wr_sg (k := k) x.pos hM hk
  refine ⟨by rw [rng_len]; exact hM, fun n a b => ?_, ?_⟩
  · rw [e]
    exact sg_rot x.pos (rot_len u) a
  · rw [e]
    exact x.beg.least
end
/-- the part of a turn by which it goes can't be shortened -/
theorem part_per {t : List Bool} {s : Nat} (p : IsPer t s) : IsPer (t.take s) (t.take s).length := by
  have hl := take_len p
  have hs : 0 < s := p.pos
  have ht : 0 < t.length := Nat.lt_of_lt_of_le p.pos p.le
  refine ⟨by omega, Nat.le_refl _, rot_len _, fun j j1 j2 r => ?_⟩
  rw [hl] at j2
  refine p.least j j1 j2 fun i hi => ?_
  rw [rot_part p.pos p.dvd ht p.rot i hi, rot_part p.pos p.dvd ht p.rot _ (Nat.mod_lt _ ht)]
  obtain ⟨q, hq⟩ : ∃ q, t.length = s * q := ⟨t.length / s, by
    have := Nat.mod_add_div t.length s
    have hd := p.dvd
    omega⟩
  rw [hq, Nat.mod_mul_right_mod]
  have h1 := r (i % s) (by rw [hl]; exact Nat.mod_lt _ hs)
  rw [hl, take_getD (Nat.mod_lt _ hs), take_getD (Nat.mod_lt _ hs), Nat.mod_add_mod] at h1
  exact h1
end Row
/-! two tables: one set, and where they part -/
namespace Row
open G1
theorem sg_per {h t : List Bool} (ht : 0 < t.length) {n : Nat} (hn : h.length ≤ n) : sg h t (n + t.length) = sg h t n := (sg_rot ht (rot_len t) hn).symm
/-- going on by k from some place on -/
def Goes (f : Nat → Bool) (N k : Nat) : Prop := ∀ n, N ≤ n → f n = f (n + k)
theorem goes_mul {f : Nat → Bool} {N k : Nat} (g : Goes f N k) (j : Nat) {n : Nat} (hn : N ≤ n) : f n = f (n + j * k) := by
  induction j with
  | zero => rw [Nat.zero_mul, Nat.add_zero]
  | succ j ih => rw [ih, g (n + j * k) (by omega), Nat.succ_mul, Nat.add_assoc]
theorem Goes.down {f : Nat → Bool} {N M k p : Nat} (g : Goes f N k) (hp : 0 < p) (q : Goes f M p) : Goes f M k := by
  intro n hn
  have e1 := goes_mul q N hn
  have e2 := goes_mul q N (n := n + k) (by omega)
  have hNp : N ≤ N * p := Nat.le_mul_of_pos_right _ hp
  rw [e1, e2, g (n + N * p) (by omega)]
  congr 1
  omega
theorem goes_sg {h t : List Bool} (ht : 0 < t.length) {N : Nat} (hN : h.length ≤ N) : Goes (sg h t) N t.length := fun n hn => (sg_per ht (by omega)).symm
theorem rot_iff {h t : List Bool} {k N : Nat} (ht : 0 < t.length) (hN : h.length ≤ N) : Rot t k ↔ Goes (sg h t) N k := by
  constructor
  · intro r n hn
    exact sg_rot ht r (by omega)
  · intro g i hi
    have g2 : Goes (sg h t) h.length k := Goes.down g ht (goes_sg ht (Nat.le_refl _))
    have e := g2 (h.length + i) (by omega)
    rw [sg_turn (by omega), sg_turn (by omega)] at e
    rw [show h.length + i - h.length = i by omega, Nat.mod_eq_of_lt hi, show h.length + i + k - h.length = i + k by omega] at e
    exact e
section
variable {h t h' t' : List Bool} {s s' m m' : Nat}
theorem per_uniq (e : sg h t = sg h' t') (a : IsPer t s) (b : IsPer t' s') : s = s' := by
  have ht : 0 < t.length := Nat.lt_of_lt_of_le a.pos a.le
  have ht' : 0 < t'.length := Nat.lt_of_lt_of_le b.pos b.le
  have key : ∀ k, Rot t k ↔ Rot t' k := fun k => by
    rw [rot_iff (h := h) (N := h.length + h'.length) ht (by omega), rot_iff (h := h') (N := h.length + h'.length) ht' (by omega), e]
  rcases Nat.lt_trichotomy s s' with c | c | c
  · exact absurd ((key s).mp a.rot) (b.least s a.pos c)
  · exact c
  · exact absurd ((key s').mpr b.rot) (a.least s' b.pos c)
theorem beg_uniq (e : sg h t = sg h' t') (a : IsPer t s) (x : IsBeg h t s m) (b : IsPer t' s) (y : IsBeg h' t' s m') : m = m' := by
  rcases Nat.lt_trichotomy m m' with c | c | c
  · rcases y.least with z | z
    · omega
    · have := x.from a (n := m' - 1) (by omega)
      rw [e] at this
      exact absurd this z
  · exact c
  · rcases x.least with z | z
    · omega
    · have := y.from b (n := m - 1) (by omega)
      rw [← e] at this
      exact absurd this z
/-- one set has one least table -/
theorem least_eq (a : IsPer t s) (x : IsBeg h t s m) (b : IsPer t' s') (y : IsBeg h' t' s' m') :
    (rng (sg h t) 0 m = rng (sg h' t') 0 m' ∧ rng (sg h t) m s = rng (sg h' t') m' s') ↔ sg h t = sg h' t' := by
  constructor
  · rintro ⟨e1, e2⟩
    funext n
    rw [← sg_least x a n, ← sg_least y b n, e1, e2]
  · intro e
    obtain rfl := per_uniq e a b
    obtain rfl := beg_uniq e a x b y
    rw [e]
    exact ⟨rfl, rfl⟩
end
theorem split_at {N p n : Nat} (hn : N ≤ n) (hp : 0 < p) : ∃ r j, r < p ∧ n = (N + r) + j * p := by
  refine ⟨(n - N) % p, (n - N) / p, Nat.mod_lt _ hp, ?_⟩
  have e := Nat.mod_add_div (n - N) p
  rw [Nat.mul_comm] at e
  omega
/-- as far as two rows can differ -/
theorem rows_same {f g : Nat → Bool} {N p q : Nat} (hp : 0 < p) (hq : 0 < q) (a : Goes f N p) (b : Goes g N q) (h : ∀ n, n < N + p + q → f n = g n) : f = g := by
  have key : Goes f N q := by
    intro n hn
    obtain ⟨r, j, hr, rfl⟩ := split_at hn hp
    have e1 := goes_mul a j (n := N + r) (by omega)
    have e2 := goes_mul a j (n := N + r + q) (by omega)
    rw [← e1, show N + r + j * p + q = N + r + q + j * p by omega, ← e2, h (N + r) (by omega), b (N + r) (by omega), h (N + r + q) (by omega)]
  funext n
  by_cases hn : n < N
  · exact h n (by omega)
  · obtain ⟨r, j, hr, rfl⟩ := split_at (Nat.le_of_not_lt hn) hq
    rw [← goes_mul key j (by omega), ← goes_mul b j (by omega)]
    exact h _ (by omega)
theorem sg_same {h t h' t' : List Bool} {N : Nat} (ht : 0 < t.length) (ht' : 0 < t'.length) (h1 : h.length ≤ N) (h2 : h'.length ≤ N)
    (e : ∀ n, n < N + t.length + t'.length → sg h t n = sg h' t' n) : sg h t = sg h' t' :=
  rows_same ht ht' (goes_sg ht h1) (goes_sg ht' h2) e
theorem rng_eq {f g : Nat → Bool} {n : Nat} : rng f 0 n = rng g 0 n ↔ ∀ i, i < n → f i = g i := by
  constructor
  · intro e i hi
    have e1 := rng_getD f 0 n i hi
    have e2 := rng_getD g 0 n i hi
    rw [Nat.zero_add] at e1 e2
    rw [← e1, ← e2, e]
  · intro e
    refine ext_rng (rng_len _ _ _) fun i hi => ?_
    rw [rng_get _ _ _ _ hi, Nat.zero_add, e i hi]
theorem rng_take_rng (f : Nat → Bool) {k n : Nat} (hk : k ≤ n) : (rng f 0 n).take k = rng f 0 k := by
  refine ext_rng (by rw [List.length_take, rng_len]; omega) fun i hi => ?_
  rw [List.getElem?_take, if_pos hi, rng_get _ _ _ _ (by omega)]
/-- the least number at which both differ -/
structure Parts (f g : Nat → Bool) (d : Nat) : Prop where
  ne : f d ≠ g d
  low : ∀ n, n < d → f n = g n
theorem Parts.uniq {f g : Nat → Bool} {d d' : Nat} (a : Parts f g d) (b : Parts f g d') : d = d' := by
  rcases Nat.lt_trichotomy d d' with c | c | c
  · exact absurd (b.low d c) a.ne
  · exact c
  · exact absurd (a.low d' c) b.ne
theorem Parts.symm {f g : Nat → Bool} {d : Nat} (a : Parts f g d) : Parts g f d := ⟨fun z => a.ne z.symm, fun n hn => (a.low n hn).symm⟩
theorem parts_exists {f g : Nat → Bool} {n : Nat} (h : ¬ ∀ i, i < n → f i = g i) : ∃ d, d < n ∧ Parts f g d := by
  induction n with
  | zero => exact absurd (fun i hi => absurd hi (Nat.not_lt_zero _)) h
  | succ n ih =>
    by_cases c : ∀ i, i < n → f i = g i
    · refine ⟨n, Nat.lt_succ_self _, fun z => h fun i hi => ?_, c⟩
      by_cases e : i = n
      · subst e; exact z
      · exact c i (by omega)
    · obtain ⟨d, h1, h2⟩ := ih c
      exact ⟨d, by omega, h2⟩
end Row
/-! texts of any signs, as lists of codes -/
namespace G1
open PySem PySem.Spec PyProof.Rows L2
def C (l : List Nat) : Str := SX.S l
theorem C_inj {l m : List Nat} (h : C l = C m) : l = m := SX.S_inj h
theorem C_dec (l m : List Nat) : decide (V.str (C l) = V.str (C m)) = decide (l = m) := by
  by_cases h : l = m
  · rw [h, decide_eq_true rfl, decide_eq_true rfl]
  · rw [decide_eq_false h, decide_eq_false fun e => h (C_inj (V.str.inj e))]
theorem C_len (l : List Nat) : (C l).length = l.length := SX.S_len l
theorem C_cps (l : List Nat) : (C l).cps.toList = l := rfl
theorem C_app (l m : List Nat) : C l ++ C m = C (l ++ m) := SX.S_cat l m
theorem C_one (c : Nat) : (⟨#[c]⟩ : Str) = C [c] := rfl
theorem C_cut (l : List Nat) (lo hi : Option Int) : cutS (C l) lo hi = C ((l.drop (HT.sIx l.length 0 lo)).take (HT.sIx l.length l.length hi - HT.sIx l.length 0 lo)) := by
  unfold cutS C
  rw [SX.S_len]
theorem C_to (l : List Nat) {j : Int} (h : 0 ≤ j) : cutS (C l) none (some j) = C (l.take j.toNat) := by
  rw [C_cut, sIx_of _ _ h]
  show C ((l.drop 0).take (min j.toNat l.length - 0)) = _
  rw [List.drop_zero, Nat.sub_zero, ← List.take_eq_take_min]
theorem C_from (l : List Nat) {i : Int} (h : 0 ≤ i) : cutS (C l) (some i) none = C (l.drop i.toNat) := by
  rw [C_cut, sIx_of _ _ h]
  show C ((l.drop (min i.toNat l.length)).take (l.length - min i.toNat l.length)) = _
  rw [List.take_of_length_le (by rw [List.length_drop]; omega)]
  by_cases hi : i.toNat ≤ l.length
  · rw [Nat.min_eq_left hi]
  · rw [Nat.min_eq_right (by omega), List.drop_length, List.drop_of_length_le (by omega)]
theorem C_mid (l : List Nat) {i j : Int} (h : 0 ≤ i) (hj : 0 ≤ j) : cutS (C l) (some i) (some j) = C ((l.take j.toNat).drop i.toNat) := by
  rw [C_cut, sIx_of _ _ h, sIx_of _ _ hj]
  congr 1
  apply List.ext_getElem?
  intro k
  rw [List.getElem?_take, List.getElem?_drop, List.getElem?_drop, List.getElem?_take]
  by_cases hi : i.toNat ≤ l.length
  · rw [Nat.min_eq_left hi]
    by_cases hj2 : j.toNat ≤ l.length
    · rw [Nat.min_eq_left hj2]
      by_cases h3 : k < j.toNat - i.toNat
      · rw [if_pos h3, if_pos (by omega)]
      · rw [if_neg h3, if_neg (by omega)]
    · rw [Nat.min_eq_right (by omega)]
      by_cases h3 : k < l.length - i.toNat
      · rw [if_pos h3, if_pos (by omega)]
      · rw [if_neg h3]
        split
        · exact (List.getElem?_eq_none (by omega)).symm
        · rfl
  · have hm : min i.toNat l.length = l.length := Nat.min_eq_right (Nat.le_of_lt (Nat.lt_of_not_le hi))
    rw [hm, List.getElem?_eq_none (by omega), List.getElem?_eq_none (by omega)]
    split <;> split <;> rfl
theorem C_at (l : List Nat) {i : Int} {k : Nat} {b : Nat} (hi : i = (k : Int)) (h : l[k]? = some b) : atI (C l).cps.toList i = some b := by
  subst hi
  exact atI_nat h
def repN (n : Nat) (l : List Nat) : List Nat := (List.replicate n l).flatten
theorem repN_zero (l : List Nat) : repN 0 l = [] := rfl
theorem repN_succ (n : Nat) (l : List Nat) : repN (n + 1) l = l ++ repN n l := by
  unfold repN
  rw [List.replicate_succ, List.flatten_cons]
theorem repN_length (n : Nat) (l : List Nat) : (repN n l).length = n * l.length := by
  induction n with
  | zero => rw [repN_zero, Nat.zero_mul]; rfl
  | succ n ih => rw [repN_succ, List.length_append, ih, Nat.succ_mul, Nat.add_comm]
theorem repN_get (n : Nat) (l : List Nat) (i : Nat) (h : i < n * l.length) : (repN n l)[i]? = l[i % l.length]? := by
  induction n generalizing i with
  | zero => rw [Nat.zero_mul] at h; omega
  | succ n ih =>
    rw [repN_succ]
    by_cases hi : i < l.length
    · rw [List.getElem?_append_left hi, Nat.mod_eq_of_lt hi]
    · have h1 : l.length ≤ i := by omega
      rw [List.getElem?_append_right h1, ih (i - l.length) (by rw [Nat.succ_mul] at h; omega), ← Nat.mod_eq_sub_mod h1]
theorem C_mul (l : List Nat) {n : Int} (h : 0 ≤ n) : Txt.mul (C l) n = C (repN n.toNat l) := by
  unfold Txt.mul
  by_cases h1 : n < 1
  · rw [if_pos h1, show n.toNat = 0 by omega, repN_zero]
    rfl
  · rw [if_neg h1]
    by_cases h2 : (n == 1 || (C l).length == 0) = true
    · rw [if_pos h2]
      rw [Bool.or_eq_true, beq_iff_eq, beq_iff_eq, C_len] at h2
      rcases h2 with h2 | h2
      · subst h2
        show C l = C (repN 1 l)
        rw [repN_succ, repN_zero, List.append_nil]
      · rw [List.length_eq_zero_iff] at h2
        subst h2
        congr 1
        have := repN_length n.toNat []
        rw [List.length_nil, Nat.mul_zero, List.length_eq_zero_iff] at this
        exact this.symm
    · rw [if_neg h2]
      unfold C repN
      refine TL.ext_tl ?_
      show (List.foldl (· ++ ·) #[] (List.replicate n.toNat (SX.S l).cps)).toList = _
      rw [foldl_app]
      simp [TL.tl]
theorem joinC (ls : List (List Nat)) : Txt.join (B []) (ls.map C) = C ls.flatten := by
  show Txt.join (SX.S []) (ls.map SX.S) = _
  rw [SX.join_S]
  unfold C
  congr 1
  have key : ∀ ms : List (List Nat), TL.joinL [] ms = ms.flatten := by
    intro ms
    induction ms with
    | nil => rfl
    | cons m ms ih =>
      cases ms with
      | nil => simp [TL.joinL]
      | cons k ks =>
        rw [List.flatten_cons, ← ih]
        simp [TL.joinL]
  exact key _
theorem C_dig (i : Nat) (h : i < 10) : (Str.ofString (toString (i : Int))) = C [48 + i] := by
  have : i = 0 ∨ i = 1 ∨ i = 2 ∨ i = 3 ∨ i = 4 ∨ i = 5 ∨ i = 6 ∨ i = 7 ∨ i = 8 ∨ i = 9 := by omega
  rcases this with rfl | rfl | rfl | rfl | rfl | rfl | rfl | rfl | rfl | rfl <;> decide +kernel
/-- join of single signs -/
theorem go_joinC {K : PySem.W.Frag} {H : Hp} {R : Str → List Str → Prop} {D : Addr} {bs : List Nat} (hD : H D = some (.lst (bs.map fun b => V.str (C [b])))) (hl : bs.length ≤ 1000000) (q : R (B []) (bs.map fun b => C [b])) :
    ∃ a p ys, V.str (B []) = V.str a ∧ [V.ref D] = [V.ref p] ∧ (SqL K H p (List.map V.str ys) ∨ SqT K H p (List.map V.str ys)) ∧ (List.map (fun x => x.length) ys).sum + ys.length * a.length ≤ 16777216 ∧ R a ys := by
  have ln : ∀ bs : List Nat, ((bs.map fun b => C [b]).map (·.length)).sum = bs.length := by
    intro bs
    induction bs with
    | nil => rfl
    | cons b bs ih =>
      rw [List.map_cons, List.map_cons, List.sum_cons, ih, C_len, List.length_cons, List.length_cons, List.length_nil]
      omega
  refine ⟨B [], D, bs.map fun b => C [b], rfl, rfl, Or.inl ?_, ?_, q⟩
  · rw [List.map_map]
    exact sqL_of hD
  · rw [ln, B_len]
    simp
    omega
theorem joinedC (bs : List Nat) : Txt.join (B []) (bs.map fun b => C [b]) = C bs := by
  have e : (bs.map fun b => C [b]) = (bs.map fun b => [b]).map C := by rw [List.map_map]; rfl
  rw [e, joinC]
  congr 1
  induction bs with
  | nil => rfl
  | cons b bs ih => rw [List.map_cons, List.flatten_cons, ih (by rw [List.map_map]; rfl)]; rfl
theorem go_lenT {K : PySem.W.Frag} {H : Hp} {p : Addr} {xs : List V} {R : List V → Prop} (hs : H p = some (.tup xs)) (q : R xs) : ∃ p' ys, [V.ref p] = [V.ref p'] ∧ (SqL K H p' ys ∨ SqT K H p' ys) ∧ R ys :=
  ⟨p, xs, rfl, Or.inr (sqT_of hs), q⟩
section
variable {l m : List Nat}
theorem goC_sl {R : Str → Prop} (h : l.length ≤ 1000000) (q : R (C l)) : ∃ z, V.str (C l) = V.str z ∧ z.length ≤ sizeLine ∧ R z :=
  ⟨C l, rfl, by rw [C_len]; exact szM h, q⟩
theorem goC_mulS {R : Str → Int → Prop} {n : Int} (h : 0 ≤ n ∧ n < 2 ^ 30) (h2 : l.length * n.toNat ≤ 1000000) (q : R (C l) n) :
    ∃ z k, V.str (C l) = V.str z ∧ V.int n = V.int k ∧ 0 ≤ k ∧ k < 2 ^ 30 ∧ z.length * k.toNat ≤ 1000000 ∧ R z k :=
  ⟨C l, n, rfl, rfl, h.1, h.2, by rw [C_len]; exact h2, q⟩
theorem goC_ixS {R : Nat → Prop} {i : Int} {k : Nat} {b : Nat} (hi : i = (k : Int)) (h : l.length ≤ 1000000) (hk : l[k]? = some b) (q : R b) :
    ∃ z i' c, V.str (C l) = V.str z ∧ V.int i = V.int i' ∧ z.length ≤ sizeLine ∧ atI z.cps.toList i' = some c ∧ R c :=
  ⟨C l, i, _, rfl, rfl, by rw [C_len]; exact szM h, C_at l hi hk, q⟩
end
end G1
/-! for i, c in enumerate(text) -/
namespace G1
open PySem PySem.Spec PyProof.Rows L2
/-- the signs of x, each in a new pair with its place -/
def Ites (x : Str) : It :=
  ⟨fun i _ => i < x.cps.size, fun i H v H' => ∃ T c, v = .ref T ∧ H T = none ∧ x.cps[i]? = some c ∧ H' = upd H T (.tup [.int (i : Nat), .str ⟨#[c]⟩]), fun i _ => i = x.cps.size⟩
theorem turn_enumS {P : Program} {w : World} {K : PySem.W.Frag} {elts : List Expr} {kk : Nat} {tpos : Pos} (x : Str) (t : Tok) (e it : Addr) (hne : e ≠ it) :
    Turn P w K (.Tuple elts kk tpos) (Ites x) [e, it] e (fun i h => (∃ old, IsEnum h e it (0 + (i : Int)) old) ∧ h.IsStrIter it (strIterType x) x t i) where
  mem := by simp
  obj := fun i h st b hb => by
    obtain ⟨⟨old, he⟩, ⟨o, ho, hc, hd⟩⟩ := st
    rcases (by simpa using hb : b = e ∨ b = it) with rfl | rfl
    · exact ⟨_, he, fun v z => nomatch z⟩
    · refine ⟨o, ho, fun v z => ?_⟩
      rw [hd] at z
      cases z
  keep := fun i h h' st k => by
    obtain ⟨⟨old, he⟩, o, ho, r⟩ := st
    exact ⟨⟨old, k e (by simp) _ he⟩, o, k it (by simp) o ho, r⟩
  item := by
    intro X hX hW hKK calm i pins s σ H E I away st hg
    subst hX hW hKK
    have D := Draws.text (prog := X.prog) (w := X.w) (A := X.A.in1) (I.ok.hd calm) it x t
    have W := GoesN.enumFrom (elts := elts) (x1 := kk) (pos := tpos) 0 D e hne (by simpa using hne) (by simp)
    refine W.goes i s _ E hg st fun v h' tk hY st' hk htk => ?_
    obtain ⟨T, t', y, ev, hT, ⟨c, u, hcx, ey⟩, hO⟩ := hY
    subst ev ey
    obtain ⟨o, ho, hoc, n, hod⟩ := hO
    have new : ObjOk X.prog X.w (upd H T (.tup [.int (i : Nat), .str ⟨#[c]⟩])) h' T (.tup [.int (i : Nat), .str ⟨#[c]⟩]) :=
      ⟨by show 2 ≤ sizeLine; decide, [.int (0 + (i : Int)) t', .str ⟨#[c]⟩ u], .cons ⟨t', by rw [Int.zero_add]⟩ (.cons ⟨u, rfl⟩ .nil), ⟨o, ho, hoc, n, hod⟩⟩
    have I1 : Inv X pins σ (upd H T (.tup [.int (i : Nat), .str ⟨#[c]⟩])) { s with heap := h', toks := tk } :=
      I.turnedNew (ch := [e, it]) hk away hT new
    refine ⟨.ref T, _, I1, rfl, ⟨T, c, rfl, I.hok.fresh hT, hcx, rfl⟩, st', fun b hb => ?_⟩
    have hb' : b < s.heap.objs.size := by
      obtain ⟨⟨old, he⟩, o2, ho2, _⟩ := st
      rcases (by simpa using hb : b = e ∨ b = it) with rfl | rfl
      · exact Heap.lt_size he
      · exact Heap.lt_size ho2
    rw [upd_ne (Nat.ne_of_lt (Nat.lt_of_lt_of_le hb' hT))]
    exact (away b hb).1
  done := by
    intro X hX hW hKK calm i pins s σ H E I away st hg
    subst hX hW hKK
    replace hg : i = x.cps.size := hg
    subst hg
    have D := Draws.text (prog := X.prog) (w := X.w) (A := X.A.in1) (I.ok.hd calm) it x t
    have W := GoesN.enumFrom (elts := elts) (x1 := kk) (pos := tpos) 0 D e hne (by simpa using hne) (by simp)
    refine W.stops s _ E st fun h' tk hk htk => ?_
    exact I.turnedL (t' := tk) (ch := [e, it]) hk away
  self := fun A i s Q E st q => wpAny_pyIter_enum st.1.choose_spec q
def iEnumS (ta : TA) : TI := fun σ H R => ta σ H fun vs H1 => ∃ x, vs = [.str x] ∧ R (Ites x) H1
theorem pi_enumS {X : Cx} {e : Expr} {ta : TA} {p pos tpos : Pos} {elts : List Expr} {kk : Nat} (hg : Gl X "enumerate") (hm : X.mg "enumerate" = none) (ha : PA X [e] ta) (hs : starEach [e] X.env = [(false, eval e X.env)] := by rfl) :
    PI X (.Tuple elts kk tpos) (.Call (.Name "enumerate" p) [e] [] pos) (iEnumS ta) := by
  refine ⟨fun pn s σ H R Iv told => Call_ (ld_blt Iv hg hm boot_enumerate (PyProof.Rows.callWith_type1 (thn (ha.run pos pn s σ H _ Iv told) ?_) hs rfl))⟩
  rintro us s1 ⟨vs, H1, I1, r1, x, rfl, q⟩
  cases r1 with
  | cons r rr =>
    cases rr
    obtain ⟨t, rfl⟩ := r
    refine call_enumerate_str fun h' he hit hsz hk => wpAny_pyIter_enum he ?_
    refine ⟨s1.heap.objs.size + 1, [s1.heap.objs.size + 1, s1.heap.objs.size], _, _, H1, rfl, I1.kept (t' := s1.toks) hk, turn_enumS x t (s1.heap.objs.size + 1) s1.heap.objs.size (Nat.succ_ne_self _), ⟨⟨.none, he⟩, hit⟩, fun b hb => ?_, q⟩
    have up : s1.heap.objs.size ≤ b := by
      rcases (by simpa using hb : b = s1.heap.objs.size + 1 ∨ b = s1.heap.objs.size) with rfl | rfl
      · exact Nat.le_succ _
      · exact Nat.le_refl _
    exact I1.fpOk up (I1.hok.fresh up)
theorem lc_enumS {x : Str} {g : TG} {tt : TT} {te : TE} {vs : List Nat} {σ : L2.St} {H1 : Hp} {D : Addr} {Qd : Hp → Prop} (Pv : Nat → Hp → Prop) (h0 : Pv 0 (upd H1 D (.lst [])))
    (hs : ∀ i c T H, x.cps[i]? = some c → Pv i H → H T = none → g (.ref T) (wipe σ vs) (upd H T (.tup [.int (i : Nat), .str ⟨#[c]⟩])) fun σ2 H2 => wipe σ2 vs = wipe σ vs ∧ tt σ2 H2 fun b H3 =>
      if b = true then te σ2 H3 fun y H4 => ∃ acc, H4 D = some (.lst acc) ∧ acc.length < sizeLine ∧ Pv (i + 1) (upd H4 D (.lst (acc ++ [y]))) else Pv (i + 1) H3) (hd : ∀ H, Pv x.cps.size H → Qd H) :
    ∃ W : Nat → Nat → Hp → Prop, (∃ m, W 0 m (upd H1 D (.lst []))) ∧ ∀ i m H, W i m H →
      ((Ites x).stop i H ∧ Qd H) ∨ ((Ites x).go i H ∧ ∃ Nx : Hp → Prop, (∀ H', Nx H' → ∃ m', m' < m ∧ W (i + 1) m' H') ∧ ∀ v H', (Ites x).yld i H v H' → g v (wipe σ vs) H' fun σ2 H2 => wipe σ2 vs = wipe σ vs ∧ tt σ2 H2 fun b H3 =>
        if b = true then te σ2 H3 fun y H4 => ∃ acc, H4 D = some (.lst acc) ∧ acc.length < sizeLine ∧ Nx (upd H4 D (.lst (acc ++ [y]))) else Nx H3) := by
  refine ⟨fun i m H => m = x.cps.size - i ∧ i ≤ x.cps.size ∧ Pv i H, ⟨x.cps.size, by simp, Nat.zero_le _, h0⟩, ?_⟩
  rintro i m H ⟨rfl, hi, p⟩
  by_cases hlt : i < x.cps.size
  · refine .inr ⟨hlt, Pv (i + 1), fun H' p' => ⟨x.cps.size - (i + 1), by omega, rfl, hlt, p'⟩, fun v H' y => ?_⟩
    obtain ⟨T, c, rfl, hT, hc, rfl⟩ := y
    exact hs i c T H hc p hT
  · have e : i = x.cps.size := by omega
    subst e
    exact .inl ⟨rfl, hd H p⟩
theorem for_enumS {x : Str} {g : TG} {tb : TS} {D : Ends} {σ : L2.St} {H : Hp} (Pv : Nat → L2.St → Hp → Prop) (h0 : Pv 0 σ H)
    (hs : ∀ i c T σ H, x.cps[i]? = some c → Pv i σ H → H T = none → g (.ref T) σ (upd H T (.tup [.int (i : Nat), .str ⟨#[c]⟩])) fun σ2 H2 => tb { D with nx := Pv (i + 1), ct := Pv (i + 1), bk := D.nx } σ2 H2) (hd : ∀ σ H, Pv x.cps.size σ H → D.nx σ H) :
    ∃ W : Nat → Nat → L2.St → Hp → Prop, (∃ m, W 0 m σ H) ∧ ∀ i m σ H, W i m σ H →
      ((Ites x).stop i H ∧ D.nx σ H) ∨ ((Ites x).go i H ∧ ∃ N : L2.St → Hp → Prop, (∀ σ' H', N σ' H' → ∃ m', m' < m ∧ W (i + 1) m' σ' H') ∧ ∀ v H', (Ites x).yld i H v H' → g v σ H' fun σ2 H2 => tb { D with nx := N, ct := N, bk := D.nx } σ2 H2) := by
  refine ⟨fun i m σ H => m = x.cps.size - i ∧ i ≤ x.cps.size ∧ Pv i σ H, ⟨x.cps.size, by simp, Nat.zero_le _, h0⟩, ?_⟩
  rintro i m σ H ⟨rfl, hi, p⟩
  by_cases hlt : i < x.cps.size
  · refine .inr ⟨hlt, Pv (i + 1), fun σ' H' p' => ⟨x.cps.size - (i + 1), by omega, rfl, hlt, p'⟩, fun v H' y => ?_⟩
    obtain ⟨T, c, rfl, hT, hc, rfl⟩ := y
    exact hs i c T σ H hc p hT
  · have e : i = x.cps.size := by omega
    subst e
    exact .inl ⟨rfl, hd σ H p⟩
end G1
/-! for i, x in enumerate(tuple) -/
namespace G1
open PySem PySem.Spec PyProof.Rows L2
def enumObj (n : Addr) : Obj := { cls := .type "enumerate", data := .fields #[.none, .bool false, .ref n, rawInt 0, .none, .none] }
/-- enumerate(v) of what has an iterator -/
theorem meets_en {v : Value} {o : Obj} {Hh : Heap → Prop} (B : Begins v o Hh) : Meets (Builtin.«enumerate.__new__» ⟨[.type "enumerate", v], []⟩) (fun _ R s => Hh s.heap ∧
    R (.ok (.ret (.ref (s.heap.push o).objs.size))) { s with heap := (s.heap.push o).push (enumObj s.heap.objs.size) }) := by
  refine .of_wp fun pr ww AA RR s hyp => ?_
  obtain ⟨hp, gg, dd, tt, ss⟩ := s
  obtain ⟨h1, hyp⟩ := hyp
  have hsub := sub_enumerate
  have it : ∀ {A' : Around} {E' : Value → Shared → Prop} {Q' : Value → Shared → Prop}, Q' (.ref hp.objs.size) ⟨hp.push o, gg, dd, tt, ss⟩ → wpAny (model pr ww) A' (pyIter v) Q' E' ⟨hp, gg, dd, tt, ss⟩ := fun z => B.iter pr ww _ _ ⟨hp, gg, dd, tt, ss⟩ _ h1 z
  wp_walk using it
  refine wpAny_stack_any fun _ => wpAny_pure ?_
  split
  · rename_i cc _ _ _ _ _
    cases (cc == Value.type "enumerate") <;> (wp_walk using it; exact ⟨_, rfl, hyp⟩)
  · (wp_walk using it; exact ⟨_, rfl, hyp⟩)
theorem call_en {P : Program} {w : World} {A : Around} {E : Value → Shared → Prop} {s : Shared} {v : Value} {o : Obj} {Hh : Heap → Prop} {Q : Value → Shared → Prop} (B : Begins v o Hh) (h1 : Hh s.heap)
    (h : ∀ h', IsEnum h' (s.heap.objs.size + 1) s.heap.objs.size 0 .none → h'.get? s.heap.objs.size = some o → (∀ b x, s.heap.get? b = some x → h'.get? b = some x) → Q (.ref (s.heap.objs.size + 1)) { s with heap := h' }) :
    wpAny (model P w) A (call (.type "enumerate") [v]) Q E s := by
  refine callType_new F.called_enumerate (by decide) (F.typeCall_enumerate_1 _) (F.newCall_enumerate_1 _) (fun z => F.args_object_init_2 z _) F.entry_enumerate_new (meets_en B) ⟨h1, ?_⟩
  have z1 : (s.heap.push o).objs.size = s.heap.objs.size + 1 := Heap.size_push ..
  have e1 := Heap.get?_push_size (s.heap.push o) (o := enumObj s.heap.objs.size) rfl
  show _ ∧ _
  rw [z1]
  rw [z1] at e1
  exact ⟨⟨_, e1, rfl⟩, h _ e1 (Heap.get?_push_of_some _ (Heap.get?_push_size _ B.free)) fun b x z => Heap.get?_push_of_some _ (Heap.get?_push_of_some _ z)⟩
/-- the items of the tuple at a, each in a new pair with its place -/
def Iten (K : PySem.W.Frag) (a : Addr) : It :=
  ⟨fun i H => ∃ (xs : List V) (x : V), SqT K H a xs ∧ xs[i]? = some x, fun i H v H' => ∃ T x, v = .ref T ∧ H T = none ∧ H' = upd H T (.tup [.int (i : Nat), x]) ∧ ∀ xs, SqT K H a xs → xs[i]? = some x, fun i H => ∃ xs : List V, SqT K H a xs ∧ xs.length = i⟩
theorem turn_en {P : Program} {w : World} {K : PySem.W.Frag} {elts : List Expr} {kk : Nat} {tpos : Pos} (a e it : Addr) :
    Turn P w K (.Tuple elts kk tpos) (Iten K a) [e, it] e (fun i h => (∃ old, IsEnum h e it (0 + (i : Int)) old) ∧ h.IsTupleIter it a i ∧ e ≠ it ∧ e ≠ a ∧ a ≠ it) where
  mem := by simp
  obj := fun i h st b hb => by
    obtain ⟨⟨old, he⟩, ⟨o, ho, hc, hd⟩, _⟩ := st
    rcases (by simpa using hb : b = e ∨ b = it) with rfl | rfl
    · exact ⟨_, he, fun v z => nomatch z⟩
    · refine ⟨o, ho, fun v z => ?_⟩
      rw [hd] at z
      cases z
  keep := fun i h h' st k => by
    obtain ⟨⟨old, he⟩, hi, r⟩ := st
    exact ⟨⟨old, k e (by simp) _ he⟩, hi.at fun o q => k it (by simp) o q, r⟩
  item := by
    intro X hX hW hKK calm i pins s σ H E I away st hg
    subst hX hW hKK
    obtain ⟨he, hit, n1, n2, n3⟩ := st
    obtain ⟨xs, x, hq, hx⟩ := hg
    obtain ⟨its, rv, p, _⟩ := I.tuple hq
    obtain ⟨u, hu, ru⟩ := rv.get hx
    have D := Draws.tuple (prog := X.prog) (w := X.w) (A := X.A.in1) (I.ok.hd calm) it a n3 its.toArray
    have W := GoesN.enumFrom (elts := elts) (x1 := kk) (pos := tpos) 0 D e n1 (by simp [n1, n2]) (by simp)
    have il : i < its.toArray.size := by
      have := (List.getElem?_eq_some_iff.mp hu).1
      simpa using this
    refine W.goes i s _ E il ⟨he, hit, p⟩ fun v h' tk hY st' hk htk => ?_
    obtain ⟨T, t', y, ev, hT, hy, hO⟩ := hY
    have ey : y = u := by
      rw [List.getElem?_toArray, hu] at hy
      exact (Option.some.inj hy).symm
    subst ev ey
    obtain ⟨o, ho, hoc, n, hod⟩ := hO
    have new : ObjOk X.prog X.w (upd H T (.tup [.int (i : Nat), x])) h' T (.tup [.int (i : Nat), x]) :=
      ⟨by show 2 ≤ sizeLine; decide, [.int (0 + (i : Int)) t', y], .cons ⟨t', by rw [Int.zero_add]⟩ (.cons ru .nil), ⟨o, ho, hoc, n, hod⟩⟩
    have I1 : Inv X pins σ (upd H T (.tup [.int (i : Nat), x])) { s with heap := h', toks := tk } := I.turnedNew (ch := [e, it]) hk away hT new
    refine ⟨.ref T, _, I1, rfl, ⟨T, x, rfl, I.hok.fresh hT, rfl, fun ys hy => by rw [I.tuple_inj hy hq]; exact hx⟩, ⟨st'.1, st'.2.1, n1, n2, n3⟩, fun b hb => ?_⟩
    have hb' : b < s.heap.objs.size := by
      obtain ⟨old, he⟩ := he
      obtain ⟨o2, ho2, _⟩ := hit
      rcases (by simpa using hb : b = e ∨ b = it) with rfl | rfl
      · exact Heap.lt_size he
      · exact Heap.lt_size ho2
    rw [upd_ne (Nat.ne_of_lt (Nat.lt_of_lt_of_le hb' hT))]
    exact (away b hb).1
  done := by
    intro X hX hW hKK calm i pins s σ H E I away st hg
    subst hX hW hKK
    obtain ⟨he, hit, n1, n2, n3⟩ := st
    obtain ⟨xs, hq, hl⟩ := hg
    obtain ⟨its, rv, p, _⟩ := I.tuple hq
    have l2 := rv.length
    have D := Draws.tuple (prog := X.prog) (w := X.w) (A := X.A.in1) (I.ok.hd calm) it a n3 its.toArray
    have W := GoesN.enumFrom (elts := elts) (x1 := kk) (pos := tpos) 0 D e n1 (by simp [n1, n2]) (by simp)
    have ei : i = its.toArray.size := by
      rw [List.size_toArray]
      omega
    rw [ei] at he hit
    refine W.stops s _ E ⟨he, hit, p⟩ fun h' tk hk htk => ?_
    exact I.turnedL (t' := tk) (ch := [e, it]) hk away
  self := fun A i s Q E st q => wpAny_pyIter_enum st.1.choose_spec q
def iEnumT (K : PySem.W.Frag) (ta : TA) : TI := fun σ H R => ta σ H fun vs H1 => ∃ a xs, vs = [.ref a] ∧ SqT K H1 a xs ∧ R (Iten K a) H1
theorem pi_enumT {X : Cx} {e : Expr} {ta : TA} {p pos tpos : Pos} {elts : List Expr} {kk : Nat} (hg : Gl X "enumerate") (hm : X.mg "enumerate" = none) (ha : PA X [e] ta) (hs : starEach [e] X.env = [(false, eval e X.env)] := by rfl) :
    PI X (.Tuple elts kk tpos) (.Call (.Name "enumerate" p) [e] [] pos) (iEnumT X.K ta) := by
  refine ⟨fun pn s σ H R Iv told => Call_ (ld_blt Iv hg hm boot_enumerate (PyProof.Rows.callWith_type1 (thn (ha.run pos pn s σ H _ Iv told) ?_) hs rfl))⟩
  rintro us s1 ⟨vs, H1, I1, r1, a, xs, rfl, hq, q⟩
  cases r1 with
  | cons r rr =>
    cases rr
    cases r
    obtain ⟨its, rv, p', _⟩ := I1.tuple hq
    have la : a < s1.heap.objs.size := by
      obtain ⟨o, ho, _⟩ := p'
      exact Heap.lt_size ho
    refine call_en (begins_tuple a its.toArray) p' fun h' he hit hk => wpAny_pyIter_enum he ?_
    refine ⟨s1.heap.objs.size + 1, [s1.heap.objs.size + 1, s1.heap.objs.size], _, _, H1, rfl, I1.kept (t' := s1.toks) hk, turn_en a (s1.heap.objs.size + 1) s1.heap.objs.size, ⟨⟨.none, he⟩, ⟨_, hit, rfl, rfl⟩, Nat.succ_ne_self _, ?_, ?_⟩, fun b hb => ?_, q⟩
    · exact fun z => absurd la (by rw [← z]; exact Nat.not_lt.mpr (Nat.le_succ _))
    · exact Nat.ne_of_lt la
    · have up : s1.heap.objs.size ≤ b := by
        rcases (by simpa using hb : b = s1.heap.objs.size + 1 ∨ b = s1.heap.objs.size) with rfl | rfl
        · exact Nat.le_succ _
        · exact Nat.le_refl _
      exact I1.fpOk up (I1.hok.fresh up)
theorem lc_enumT {K : PySem.W.Frag} {a : Addr} {xs : List V} {g : TG} {tt : TT} {te : TE} {vs : List Nat} {σ : L2.St} {H1 : Hp} {D : Addr} {Qd : Hp → Prop} (Pv : Nat → Hp → Prop) (h0 : Pv 0 (upd H1 D (.lst [])))
    (hq : ∀ i H, Pv i H → SqT K H a xs)
    (hs : ∀ i x T H, xs[i]? = some x → Pv i H → H T = none → g (.ref T) (wipe σ vs) (upd H T (.tup [.int (i : Nat), x])) fun σ2 H2 => wipe σ2 vs = wipe σ vs ∧ tt σ2 H2 fun b H3 =>
      if b = true then te σ2 H3 fun y H4 => ∃ acc, H4 D = some (.lst acc) ∧ acc.length < sizeLine ∧ Pv (i + 1) (upd H4 D (.lst (acc ++ [y]))) else Pv (i + 1) H3) (hd : ∀ H, Pv xs.length H → Qd H) :
    ∃ W : Nat → Nat → Hp → Prop, (∃ m, W 0 m (upd H1 D (.lst []))) ∧ ∀ i m H, W i m H →
      ((Iten K a).stop i H ∧ Qd H) ∨ ((Iten K a).go i H ∧ ∃ Nx : Hp → Prop, (∀ H', Nx H' → ∃ m', m' < m ∧ W (i + 1) m' H') ∧ ∀ v H', (Iten K a).yld i H v H' → g v (wipe σ vs) H' fun σ2 H2 => wipe σ2 vs = wipe σ vs ∧ tt σ2 H2 fun b H3 =>
        if b = true then te σ2 H3 fun y H4 => ∃ acc, H4 D = some (.lst acc) ∧ acc.length < sizeLine ∧ Nx (upd H4 D (.lst (acc ++ [y]))) else Nx H3) := by
  refine ⟨fun i m H => m = xs.length - i ∧ i ≤ xs.length ∧ Pv i H, ⟨xs.length, by simp, Nat.zero_le _, h0⟩, ?_⟩
  rintro i m H ⟨rfl, hi, p⟩
  have sq := hq i H p
  by_cases hlt : i < xs.length
  · refine .inr ⟨⟨xs, xs[i], sq, List.getElem?_eq_getElem hlt⟩, Pv (i + 1), fun H' p' => ⟨xs.length - (i + 1), by omega, rfl, hlt, p'⟩, fun v H' y => ?_⟩
    obtain ⟨T, x, rfl, hT, rfl, hx⟩ := y
    exact hs i x T H (hx xs sq) p hT
  · have e : i = xs.length := by omega
    subst e
    exact .inl ⟨⟨xs, sq, rfl⟩, hd H p⟩
end G1
/-! repr of None and of numbers -/
namespace G1
open PySem PySem.Spec PyProof.Rows L2
def shO0 : V → Str
  | .int i => Str.ofString (toString i)
  | _ => "None"
/-- the text of None or of a number -/
@[irreducible] def shO (v : V) : Str := shO0 v
/-- None, or a number that is not too great -/
def Leaf (v : V) : Prop := v = .non ∨ ∃ i : Int, v = .int i ∧ i.natAbs.log2 < 1920
theorem leaf_non : Leaf .non := .inl rfl
theorem leaf_int {i : Int} (h0 : 0 ≤ i) (h1 : i < 2 ^ 1000) : Leaf (.int i) := by
  refine .inr ⟨i, rfl, ?_⟩
  obtain ⟨n, rfl⟩ : ∃ n : Nat, i = (n : Int) := ⟨i.toNat, by omega⟩
  have hn : n < 2 ^ 1000 := by
    have e : ((2 : Int) ^ 1000) = ((2 ^ 1000 : Nat) : Int) := by norm_cast
    rw [e] at h1
    exact Int.ofNat_lt.mp h1
  by_cases z : n = 0
  · subst z
    decide
  · have : n.log2 < 1000 := (Nat.log2_lt z).mpr hn
    show n.log2 < 1920
    omega
section
variable {X : Cx}
theorem call_reprO : CallR X (.builtin "repr") (fun xs H Q => ∃ v : V, xs = [v] ∧ Leaf v ∧ Q (.str (shO v)) H) := by
  intro pn s σ H xs us Q I r told
  obtain ⟨v, rfl, lf, q⟩ := told
  obtain ⟨u, rfl, ru⟩ := vals1 r
  unfold shO at q
  rcases lf with rfl | ⟨i, rfl, hi⟩
  · obtain rfl : u = Value.none := ru
    exact PySem.P.repr_of_none ⟨.str _, H, I.tok _, ⟨_, rfl⟩, q⟩
  · obtain ⟨t, rfl⟩ := ru
    exact PySem.P.repr_of_int hi ⟨.str _, H, I.tok _, ⟨_, rfl⟩, q⟩
end
end G1
/-! repr of lists of numbers and None -/
namespace G1
open PySem PySem.Spec PyProof.Rows L2
/-- None, or a number below 10 ** 30 -/
def Num (d : PyData) : Prop := d = .none ∨ ∃ i : Int, d = .int i ∧ 0 ≤ i ∧ i < 10 ^ 30
theorem num_weight {d : PyData} (h : Num d) : d.weight ≤ 101 := by
  rcases h with rfl | ⟨i, rfl, h0, h1⟩
  · exact Nat.zero_le _
  · show (if i == 0 then 0 else i.natAbs.log2 + 1) ≤ 101
    split
    · omega
    · obtain ⟨n, rfl⟩ : ∃ n : Nat, i = (n : Int) := ⟨i.toNat, by omega⟩
      rename_i hz
      have z : n ≠ 0 := fun e => by rw [e] at hz; exact hz rfl
      have hn : n < 2 ^ 100 := by
        have e : (10 : Int) ^ 30 < ((2 ^ 100 : Nat) : Int) := by decide
        omega
      have : n.log2 < 100 := (Nat.log2_lt z).mpr hn
      show n.log2 + 1 ≤ 101
      omega
theorem num_short {d : PyData} (h : Num d) : d.leavesShort 40 = true := by
  rcases h with rfl | ⟨i, rfl, h0, h1⟩
  · rfl
  · show decide ((PyData.shown (.int i)).length ≤ 40) = true
    rw [decide_eq_true_eq]
    have e := PyProof.Rows.toString_length_le h0 (k := 30) (by decide) h1
    have e2 : (PyData.shown (.int i)).length = (Str.ofString (toString i)).length := rfl
    omega
theorem log_ok {i : Int} (h0 : 0 ≤ i) (h1 : i < 10 ^ 30) : i.natAbs.log2 < 1920 := by
  rcases leaf_int h0 (Int.lt_trans h1 (by decide)) with e | ⟨j, e, h⟩
  · cases e
  · obtain rfl := V.int.inj e
    exact h
theorem num_all : ∀ ds : List PyData, (∀ d ∈ ds, Num d) → PyData.showableAll ds = true ∧ PyData.hasDictAll ds = false ∧ PyData.depthAll ds ≤ 20 ∧ PyData.leavesShortAll 40 ds = true ∧ PyData.weightAll ds ≤ 102 * ds.length
  | [], _ => by simp [PyData.showableAll, PyData.hasDictAll, PyData.depthAll, PyData.leavesShortAll, PyData.weightAll]
  | d :: ds, h => by
    obtain ⟨h1, h2, h3, h4, h5⟩ := num_all ds fun e he => h e (List.mem_cons_of_mem _ he)
    have n := h d List.mem_cons_self
    have nw := num_weight n
    have ns := num_short n
    refine ⟨?_, ?_, ?_, ?_, ?_⟩
    · rcases n with rfl | ⟨i, rfl, i0, i1⟩
      · simp [PyData.showableAll, PyData.showable, h1]
      · simp [PyData.showableAll, PyData.showable, h1, log_ok i0 i1]
    · rcases n with rfl | ⟨i, rfl, _⟩ <;> simp [PyData.hasDictAll, PyData.hasDict, h2]
    · rcases n with rfl | ⟨i, rfl, _⟩ <;> (simp only [PyData.depthAll, PyData.depth]; omega)
    · simp [PyData.leavesShortAll, h4, ns]
    · simp only [PyData.weightAll, List.length_cons]
      omega
theorem repr_nums {K : PySem.W.Frag} {H : Hp} {R : PyData → Prop} {a : Addr} {xs : List V} (ds : List PyData) (e : H a = some (.lst xs)) (hd : DpAll K H xs ds) (hs : ∀ d ∈ ds, Num d) (hl : ds.length ≤ 40) (q : R (.list ds)) :
    ∃ (a' : Addr) (d' : PyData), [V.ref a] = [V.ref a'] ∧ Dp K H (.ref a') d' ∧ d'.showable = true ∧ d'.hasDict = false ∧ d'.depth ≤ 60 ∧ d'.shown.length ≤ sizeLine ∧ R d' := by
  obtain ⟨h1, h2, h3, h4, h5⟩ := num_all ds hs
  refine ⟨a, .list ds, rfl, .lst (.inl (.inl e)) hd, ?_, ?_, ?_, ?_, q⟩
  · simp only [PyData.showable]; exact h1
  · simp only [PyData.hasDict]; exact h2
  · simp only [PyData.depth]; omega
  · have s := PyData.shown_le 40 (by decide) (.list ds) (by simp only [PyData.leavesShort]; exact h4)
    simp only [PyData.weight] at s
    have : 102 * ds.length ≤ 102 * 40 := Nat.mul_le_mul_left _ hl
    exact Nat.le_trans s (Nat.le_trans (by omega : 42 * PyData.weightAll ds + 40 ≤ 200000) (by decide))
end G1
/-! draws from a dict: two lists, a sum and a count under a name of its own -/
namespace G1
open PySem PySem.Spec PyProof.Rows L2
/-- the dict's pairs -/
def dkv (m : Str) (g c : Addr) (W k : Int) : List (Key × V) := [(Sum.inr ("great" : Str), .ref g), (Sum.inr ("cells" : Str), .ref c), (Sum.inr ("whole" : Str), .int W), (Sum.inr m, .int k)]
/-- the deck at w, its great numbers at g -/
def DkAt (m : Str) (w g : Addr) (H : Hp) : Prop := ∃ (c : Addr) (gs cs : List Int) (W k : Int), w ≠ g ∧ c ≠ g ∧ c ≠ w ∧ H w = some (.dK (dkv m g c W k)) ∧
  H g = some (.lst (gs.map V.int)) ∧ H c = some (.lst (cs.map V.int)) ∧ 0 < cs.length ∧ gs.length ≤ 1000 ∧ cs.length ≤ 1000
section
variable {m : Str} {w g p : Addr} {H H' : Hp} {o : HO}
theorem DkAt.same (D : DkAt m w g H) (s : Same H H') : DkAt m w g H' := by
  obtain ⟨c, gs, cs, W, k, h1, h2, h3, h4, h5, h6, h7⟩ := D
  exact ⟨c, gs, cs, W, k, h1, h2, h3, s _ _ h4, s _ _ h5, s _ _ h6, h7⟩
theorem DkAt.fresh (D : DkAt m w g H) (h : H p = none) : p ≠ w ∧ p ≠ g := by
  obtain ⟨c, gs, cs, W, k, h1, h2, h3, h4, h5, h6, h7⟩ := D
  exact ⟨(ne_of_none h4 h).symm, (ne_of_none h5 h).symm⟩
theorem new_ofK (D : DkAt m w g H) (hp : H p = none) (e : upd H p o = H') : Same H H' ∧ DkAt m w g H' ∧ At w g H' p o := by
  subst e
  exact ⟨same_new hp, D.same (same_new hp), (D.fresh hp).1, (D.fresh hp).2, upd_same⟩
theorem DkAt.tup {a : Addr} {xs : List V} (D : DkAt m w g H) (h : H a = some (.tup xs)) : At w g H a (.tup xs) := by
  obtain ⟨c, gs, cs, W, k, h1, h2, h3, h4, h5, h6, h7⟩ := D
  exact ⟨ne_of h h4 (by intro z; cases z), ne_of h h5 (by intro z; cases z), h⟩
end
theorem dk_get {m : Str} {g c : Addr} {W k : Int} (hm : Sum.inr m ≠ (Sum.inr ("great" : Str) : Key) ∧ Sum.inr m ≠ (Sum.inr ("cells" : Str) : Key) ∧ Sum.inr m ≠ (Sum.inr ("whole" : Str) : Key)) :
    valV (dkv m g c W k) (Sum.inr ("great" : Str)) = some (.ref g) ∧ valV (dkv m g c W k) (Sum.inr ("cells" : Str)) = some (.ref c) ∧ valV (dkv m g c W k) (Sum.inr ("whole" : Str)) = some (.int W) ∧ valV (dkv m g c W k) (Sum.inr m) = some (.int k) := by
  have e1 : (Sum.inr ("great" : Str) : Key) ≠ Sum.inr ("cells" : Str) := by decide
  have e2 : (Sum.inr ("great" : Str) : Key) ≠ Sum.inr ("whole" : Str) := by decide
  have e3 : (Sum.inr ("cells" : Str) : Key) ≠ Sum.inr ("whole" : Str) := by decide
  refine ⟨?_, ?_, ?_, ?_⟩
  · simp [dkv, valV]
  · simp [dkv, valV, e1]
  · simp [dkv, valV, e2, e3]
  · simp [dkv, valV, hm.1.symm, hm.2.1.symm, hm.2.2.symm]
end G1
/-! draws from a dict, the list of cells named; objects apart from all of it -/
namespace G1
open PySem PySem.Spec PyProof.Rows L2
def DkC (m : Str) (w g c : Addr) (H : Hp) : Prop := ∃ (gs cs : List Int) (W k : Int), w ≠ g ∧ c ≠ g ∧ c ≠ w ∧ H w = some (.dK (dkv m g c W k)) ∧
  H g = some (.lst (gs.map V.int)) ∧ H c = some (.lst (cs.map V.int)) ∧ 0 < cs.length ∧ gs.length ≤ 1000 ∧ cs.length ≤ 1000
/-- o stands at a, apart from the deck -/
structure Ac (w g c : Addr) (H : Hp) (a : Addr) (o : HO) : Prop where
  nw : a ≠ w
  ng : a ≠ g
  nc : a ≠ c
  at_ : H a = some o
theorem Ac.go {w g c : Addr} {H H' : Hp} {a : Addr} {o : HO} (x : Ac w g c H a o) (s : Go w g H H') : Ac w g c H' a o := ⟨x.nw, x.ng, x.nc, s a o x.nw x.ng x.at_⟩
theorem Ac.same {w g c : Addr} {H H' : Hp} {a : Addr} {o : HO} (x : Ac w g c H a o) (s : Same H H') : Ac w g c H' a o := ⟨x.nw, x.ng, x.nc, s a o x.at_⟩
section
variable {m : Str} {w g c p : Addr} {H H' : Hp} {o : HO}
theorem DkC.same (D : DkC m w g c H) (s : Same H H') : DkC m w g c H' := by
  obtain ⟨gs, cs, W, k, h1, h2, h3, h4, h5, h6, h7⟩ := D
  exact ⟨gs, cs, W, k, h1, h2, h3, s _ _ h4, s _ _ h5, s _ _ h6, h7⟩
theorem DkC.fresh (D : DkC m w g c H) (h : H p = none) : p ≠ w ∧ p ≠ g ∧ p ≠ c := by
  obtain ⟨gs, cs, W, k, h1, h2, h3, h4, h5, h6, h7⟩ := D
  exact ⟨(ne_of_none h4 h).symm, (ne_of_none h5 h).symm, (ne_of_none h6 h).symm⟩
theorem new_ofC (D : DkC m w g c H) (hp : H p = none) (e : upd H p o = H') : Same H H' ∧ DkC m w g c H' ∧ Ac w g c H' p o := by
  subst e
  exact ⟨same_new hp, D.same (same_new hp), (D.fresh hp).1, (D.fresh hp).2.1, (D.fresh hp).2.2, upd_same⟩
theorem DkC.tup {a : Addr} {xs : List V} (D : DkC m w g c H) (h : H a = some (.tup xs)) : Ac w g c H a (.tup xs) := by
  obtain ⟨gs, cs, W, k, h1, h2, h3, h4, h5, h6, h7⟩ := D
  exact ⟨ne_of h h4 (by intro z; cases z), ne_of h h5 (by intro z; cases z), ne_of h h6 (by intro z; cases z), h⟩
/-- what stands apart is written -/
theorem DkC.upd {u : HO} (D : DkC m w g c H) (n1 : p ≠ w) (n2 : p ≠ g) (n3 : p ≠ c) : DkC m w g c (L2.upd H p u) := by
  obtain ⟨gs, cs, W, k, h1, h2, h3, h4, h5, h6, h7⟩ := D
  exact ⟨gs, cs, W, k, h1, h2, h3, (upd_ne n1.symm).trans h4, (upd_ne n2.symm).trans h5, (upd_ne n3.symm).trans h6, h7⟩
theorem Ac.upd {a : Addr} {u : HO} (x : Ac w g c H a o) (n : a ≠ p) : Ac w g c (L2.upd H p u) a o := ⟨x.nw, x.ng, x.nc, (upd_ne n).trans x.at_⟩
theorem Ac.set {u : HO} (x : Ac w g c H p o) : Ac w g c (L2.upd H p u) p u := ⟨x.nw, x.ng, x.nc, upd_same⟩
theorem go_upd' {D : Addr} {u : HO} {H1 : Hp} (S : Go w g H H1) (h : H D = none) : Go w g H (L2.upd H1 D u) := fun x v h1 h2 e => by
  rw [upd_ne (ne_of_none e h)]
  exact S x v h1 h2 e
end
end G1
/-! tuple[::-1] -/
namespace G1
open PySem PySem.Spec PyProof.Rows L2 HT
section
variable {prog : Program} {w : World} {A : Around} {E : Value → Shared → Prop} {s : Shared}
theorem adjust_rev (n : Nat) : Builtin.Slice.sliceAdjust none none (-1) (n : Int) = ((n : Int) - 1, -1) := by
  unfold Builtin.Slice.sliceAdjust
  simp
theorem places_rev (n : Nat) : Builtin.Slice.slicePlaces ((n : Int) - 1) (-1) (-1) = n := by
  unfold Builtin.Slice.slicePlaces
  have h1 : ¬ ((-1 : Int) > 0) := by omega
  simp only [h1, if_false]
  rw [show (- -1 : Int) = 1 by decide, Int.ediv_one]
  split <;> omega
theorem sliceApplied_rev {sl : Addr} {vs : Value} {n : Nat} {Q : Int × Int × Nat → Shared → Prop} (hs : s.heap.IsSliceOf sl .none .none vs) (ps : IsPart vs (some (-1)))
    (h : Q ((n : Int) - 1, -1, n) s) : wpAny (model prog w) A (Builtin.Slice.sliceApplied (.ref sl) (pure (n : Int))) Q E s := by
  obtain ⟨os, hos, hcs, hds⟩ := id hs
  unfold Builtin.Slice.sliceApplied Builtin.Slice.sliceFields
  refine wpAny_bind (wpAny_bind (wpAny_field hos hds (x := .none) rfl (wpAny_bind (wpAny_field hos hds (x := .none) rfl (wpAny_bind (wpAny_field hos hds (x := vs) rfl (wpAny_pure ?_)))))))
  refine wpAny_bind (slicePart_ ps ?_)
  show wpAny _ _ (if ((-1 : Int) == 0) = true then _ else _) _ _ s
  rw [if_neg (by decide)]
  refine wpAny_bind (slicePart_ .none (wpAny_bind (slicePart_ .none (wpAny_bind (wpAny_pure ?_)))))
  show wpAny _ _ (match Builtin.Slice.sliceAdjust none none (-1) (n : Int) with | (lo, hi) => pure (lo, (-1 : Int), Builtin.Slice.slicePlaces lo hi (-1))) _ _ s
  rw [adjust_rev n]
  show wpAny _ _ (pure ((n : Int) - 1, (-1 : Int), Builtin.Slice.slicePlaces ((n : Int) - 1) (-1) (-1))) _ _ s
  rw [places_rev]
  exact wpAny_pure h
theorem pick_rev (xs : Array Value) : ((List.range xs.size).filterMap fun (m : Nat) => xs[((xs.size : Int) - 1 + (m : Int) * -1).toNat]?).toArray = xs.toList.reverse.toArray := by
  have e : (fun (m : Nat) => xs[((xs.size : Int) - 1 + (m : Int) * -1).toNat]?) = (xs[·]?) ∘ fun m => xs.size - 1 - m := by
    funext m
    have : ((xs.size : Int) - 1 + (m : Int) * -1).toNat = xs.size - 1 - m := by omega
    rw [this]
    rfl
  rw [e, ← List.filterMap_map, PySem.W.krv_range, List.filterMap_reverse, PySem.W.krv_all]
theorem getItem_tuple_rev {t sl : Addr} {items : Array Value} {vs : Value} {Q : Value → Shared → Prop} (ht : IsTup s.heap t items) (hs : s.heap.IsSliceOf sl .none .none vs) (ps : IsPart vs (some (-1)))
    (h : Q (.ref s.heap.objs.size) { s with heap := s.heap.push { cls := .type "tuple", data := .seq items.toList.reverse.toArray } })
    (hsz : items.size ≤ sizeLine) : wpAny (model prog w) A (getItem (.ref t) (.ref sl)) Q E s := by
  have htake : sizeOk (.seq items.toList.reverse.toArray) := by
    show items.toList.reverse.toArray.size ≤ sizeLine
    rw [List.size_toArray, List.length_reverse, Array.length_toList]
    exact hsz
  obtain ⟨os, hos, hcs, hds⟩ := id hs
  have hTs : s.TypeIs (.ref sl) "slice" := ⟨os, hos, hcs⟩
  unfold getItem
  try with_reducible refine wpAny_holding ?_
  first | refine wpAny_bind (wpAny_pure ?_) | skip
  refine wpAny_bind (wpAny_sequenceKey ht.typeIs (by decide) ?_)
  refine wpAny_bind (wpAny_callSpecial?_slot (name := Str.ofString "__getitem__") ht.typeIs PyProof.Rows.slot_tuple_getitem
    (wpAny_call_entry PyProof.Rows.slot_tuple_getitem ht.typeIs entry_tuple_getitem ?_ (args_tuple_getitem _ _)))
  show wpAny _ _ (Builtin.Tuple.tupleItemsOf (.ref t) >>= _) _ _ s
  refine wpAny_bind (tupleItemsOf_ ht ?_)
  refine wpAny_bind (wpAny_typeOf hTs ?_)
  rw [if_pos (by decide)]
  refine wpAny_bind (sliceApplied_rev hs ps ?_)
  have hno : ¬ ((((items.size : Int) - 1) == 0 && (-1 : Int) == 1 && items.size == items.size) = true) := by
    intro q
    rw [Bool.and_eq_true, Bool.and_eq_true] at q
    exact absurd q.1.2 (by decide)
  show wpAny _ _ (if (((items.size : Int) - 1) == 0 && (-1 : Int) == 1 && items.size == items.size) = true then _ else _) _ _ s
  rw [if_neg hno, pick_rev]
  first
    | exact wpAny_bind (m := Builtin.Tuple.tupleExact _) (wpAny_newObj_type (wpAny_pure ⟨_, rfl, wpAny_pure h⟩) htake)
    | exact wpAny_bind (m := Builtin.Tuple.tupleExact _) (wpAny_newObj_type (wpAny_bind (wpAny_pure (wpAny_pure ⟨_, rfl, wpAny_pure h⟩))) htake)
    | exact wpAny_bind (wpAny_bind (m := Builtin.Tuple.tupleExact _) (wpAny_newObj_type (wpAny_pure (wpAny_pure ⟨_, rfl, wpAny_pure h⟩)) htake))
    | exact wpAny_bind (wpAny_bind (m := Builtin.Tuple.tupleExact _) (wpAny_newObj_type (wpAny_pure ⟨_, rfl, wpAny_pure h⟩) htake))
end
section
variable {X : Cx}
def tRevT (K : PySem.W.Frag) (te : TE) : TE := fun σ H Q => te σ H fun x H1 => ∃ a xs, x = .ref a ∧ SqT K H1 a xs ∧ ∀ p, H1 p = none → Q (.ref p) (upd H1 p (.tup xs.reverse))
theorem pe_revT {e : Expr} {te : TE} {k : Nat} {p1 p2 p3 pos : Pos} (he : PE X e te) : PE X (.Subscript e (.Slice none none (some (.UnaryOp .USub (.Constant (.int 1) k p1) p2)) p3) pos) (tRevT X.K te) := by
  refine ⟨fun pins s σ H Q I h => ?_⟩
  refine Subscript_ (thn (he.run pins s σ H _ I h) fun v s1 ⟨x, H1, I1, r1, q1⟩ => ?_)
  obtain ⟨a, xs, ex, hx, q⟩ := q1
  subst ex
  cases r1
  have hst : PO X (some (.UnaryOp .USub (.Constant (.int 1) k p1) p2)) (tPart (tUn (rU fun i => .int (-i)) (tC (.int 1)))) := po_some (pe_un un_neg pe_int)
  refine wpAny_Slice ?_
  rw [evalPart_none]
  refine wpAny_pure (wpAny_pure ?_)
  refine thn (hst.run pins s1 σ H1 (fun o H4 => o = some (-1) ∧ H4 = H1) I1 ⟨1, rfl, -1, rfl, rfl, rfl⟩) fun vs s4 ⟨o, H4, I4, ps, eo, e4⟩ => ?_
  subst eo e4
  have I5 : Inv X pins σ H4 { s4 with heap := s4.heap.push { cls := .type "slice", data := .fields #[.none, .none, vs] } } := I4.kept (t' := s4.toks) fun b ob q => Heap.get?_push_of_some _ q
  obtain ⟨its, r, ht, hz⟩ := I5.tuple hx
  have hlen := r.length
  show wpAny (model X.prog X.w) X.A (subscriptTail e (.Slice none none (some (.UnaryOp .USub (.Constant (.int 1) k p1) p2)) p3) (.ref a) (.ref s4.heap.objs.size)) (EP X pins σ Q) X.xe { s4 with heap := s4.heap.push { cls := .type "slice", data := .fields #[.none, .none, vs] } }
  refine tail_any (ops := [.ref a, .ref s4.heap.objs.size]) ht.typeIs (PyProof.Rows.slot_tuple_getitem.lookup) ?_ (by with_unfolding_all rfl)
  refine getItem_tuple_rev ht (Heap.IsSliceOf.new _ .none .none vs) ps ?_ (by rw [List.size_toArray]; omega)
  refine ⟨.ref _, _, I5.laid (t' := s4.toks) (o := .tup xs.reverse) (fun b ob q => Heap.get?_push_of_some _ q) (Nat.le_refl _) ?_, rfl, q _ (I5.hok.fresh (Nat.le_refl _))⟩
  exact ⟨by rw [List.length_reverse]; exact hz, _, r.reverse, IsTup.new _ _⟩
end
end G1
/-! tuple * n of any n from 1 on -/
namespace G1
open PySem PySem.Spec PyProof.Rows L2
theorem tuple_mul1 (l : Addr) (items : Array Value) (n : Nat) (dd : Option Addr) (sl : Array (Option Value)) (u : Tok) :
    Meets (Builtin.«tuple.__mul__» ⟨[.ref l, .int 1 u], []⟩) (fun _ R s => s.heap.get? l = some { cls := .type "tuple", dict := dd, data := .seq items n, slots := sl } ∧
      R (.ok (.ret (Value.ref l))) s) :=
  .of_wp fun prog w A R s h => by
    obtain ⟨hp, g, d, tk, os⟩ := s
    obtain ⟨hl, h⟩ := h
    have f1 := AutoSeq1.idx_int
    have c0 : (decide ((1 : Int) < -(2 ^ 63)) || decide ((1 : Int) ≥ 2 ^ 63)) = false := by decide
    have c1 : (items.isEmpty || (1 : Int) == 1) = true := by simp
    wp_walk using wpAny_loadPart' hl
    repeat (first
      | (refine wpAny_ite_false (decide_eq_false (by rw [c0]; exact Bool.false_ne_true)) ?_; wp_walk using wpAny_loadPart' hl)
      | (refine wpAny_ite_true (decide_eq_true c1) ?_; wp_walk using wpAny_loadPart' hl))
    exact ⟨_, rfl, h⟩
def rRepA (K : PySem.W.Frag) : R2 := fun x y H Q => ∃ l k xs, x = .ref l ∧ y = .int k ∧ SqT K H l xs ∧ xs ≠ [] ∧ 1 ≤ k ∧ k ≤ 1000000 ∧ k.toNat * xs.length ≤ 1000000 ∧ (k = 1 → Q (.ref l) H) ∧ (k ≠ 1 → ∀ p, H p = none → Q (.ref p) (upd H p (.tup (List.replicate k.toNat xs).flatten)))
section
variable {X : Cx}
theorem op_repA : OpR X (binaryOp .Mult) (rRepA X.K) := by
  intro pins s σ H x y v u Q I rx ry h
  obtain ⟨l, k, xs, rfl, rfl, hT, hne, h1, h2, hz, q1, q2⟩ := h
  cases rx
  obtain ⟨t, rfl⟩ := ry
  obtain ⟨its, r, ⟨⟨cls, dd, data, sl⟩, ho, hc, n, hd⟩, hs⟩ := I.tuple hT
  simp only at hc hd
  subst hc hd
  have hle : its.length = xs.length := r.length.symm
  have hn : its ≠ [] := fun e => hne (by
    rw [e] at hle
    exact List.eq_nil_of_length_eq_zero hle.symm)
  have hi : its.toArray.isEmpty = false := by
    cases its with
    | nil => exact absurd rfl hn
    | cons a b => rfl
  have hsz0 : its.toArray.size = xs.length := by rw [List.size_toArray, hle]
  by_cases k1 : k = 1
  · subst k1
    refine wpAny_binaryOp_repeat_ref (T := "tuple") (U := "int") (by decide) ⟨_, ho, rfl⟩ (fun s' => typeIs_int s' 1 t) noFill_tuple_mul F.fills_int_mul F.slot_int_rmul repeat_tuple F.slot_int_index.lookup
      (call_meets F.slot_int_rmul (typeIs_int s 1 t) F.entry_int_rmul (F.args_int_rmul_2 _ _) (int_rmul_tuple 1 t l its.toArray n dd sl)
        ⟨ho, rfl, ⟨_, ho, rfl⟩, call_meets F.slot_tuple_mul ⟨_, ho, rfl⟩ F.entry_tuple_mul (F.args_tuple_mul_2 _ _) (tuple_mul1 l its.toArray n dd sl t) ⟨ho, ?_⟩⟩)
    exact ⟨.ref l, H, I, rfl, q1 rfl⟩
  have hm : ((its.toArray.size : Nat) : Int) * k ≤ 1000000 := by
    rw [hsz0]
    have : ((k.toNat * xs.length : Nat) : Int) = ((xs.length : Nat) : Int) * k := by
      rw [Int.natCast_mul, Int.toNat_of_nonneg (by omega), Int.mul_comm]
    omega
  have flen : (List.replicate k.toNat its).flatten.length ≤ sizeLine := by
    rw [PyProof.Rows.lm_len_rep_flat, hle, sizeLine_eq]
    omega
  have c0 : (decide (k < -(2 ^ 63)) || decide (k ≥ 2 ^ 63)) = false := by
    rw [decide_eq_false (by omega), decide_eq_false (by omega)] <;> rfl
  have c1 : (its.toArray.isEmpty || k == 1) = false := by
    rw [hi, Bool.false_or]
    exact beq_eq_false_iff_ne.mpr (by omega)
  have c2 : (decide (k ≤ 0) || its.toArray.isEmpty) = false := by
    rw [hi, Bool.or_false]
    exact decide_eq_false (by omega)
  have c4 : Builtin.Tuple.tupleTooMany (((its.toArray.size : Nat) : Int) * k) = false := by
    unfold Builtin.Tuple.tupleTooMany
    rw [sizeLine_eq]
    exact decide_eq_false (by omega)
  refine wpAny_binaryOp_repeat_ref (T := "tuple") (U := "int") (by decide) ⟨_, ho, rfl⟩ (fun s' => typeIs_int s' k t) noFill_tuple_mul F.fills_int_mul F.slot_int_rmul repeat_tuple F.slot_int_index.lookup
    (call_meets F.slot_int_rmul (typeIs_int s k t) F.entry_int_rmul (F.args_int_rmul_2 _ _) (int_rmul_tuple k t l its.toArray n dd sl)
      ⟨ho, rfl, ⟨_, ho, rfl⟩, call_meets F.slot_tuple_mul ⟨_, ho, rfl⟩ F.entry_tuple_mul (F.args_tuple_mul_2 _ _) (tuple_mulW l its.toArray n dd sl k t c0 c1 c2 (by omega) c4 (by rw [size_rep, List.size_toArray]; exact flen)) ⟨ho, ?_⟩⟩)
  rw [size_rep]
  refine ⟨.ref s.heap.objs.size, _, I.laid (t' := s.toks) (o := .tup (List.replicate k.toNat xs).flatten) (fun b ob q => Heap.get?_push_of_some _ q) (Nat.le_refl _) ?_, rfl, q2 k1 _ (I.hok.fresh (Nat.le_refl _))⟩
  exact ⟨by rw [PyProof.Rows.lm_len_rep_flat, sizeLine_eq]; omega, _, r.rep k.toNat, IsTup.new _ _⟩
end

/-! one way for all cases of tuples put together -/
section
variable {K : PySem.W.Frag} {H : Hp} {Q : VK}
theorem rep_all {l : Addr} {k : Int} {xs : List V} (hl : H l = some (.tup xs)) (hne : xs ≠ []) (h1 : 1 ≤ k) (h2 : k ≤ 1000000) (hz : k.toNat * xs.length ≤ 1000000)
    (h : ∀ p H', Same H H' → H' p = some (.tup (List.replicate k.toNat xs).flatten) → Q (.ref p) H') : rRepA K (.ref l) (.int k) H Q := by
  refine ⟨l, k, xs, rfl, rfl, .inl (.inl hl), hne, h1, h2, hz, fun e => ?_, fun _ p np => h p _ (fun b x e => by rw [upd_ne (ne_of_none e np)]; exact e) upd_same⟩
  subst e
  refine h l H (fun _ _ e => e) ?_
  rw [hl]
  show some (HO.tup xs) = some (HO.tup (List.replicate 1 xs).flatten)
  simp
theorem rep_all_eq {l : Addr} {k : Nat} {v : V} {xs : List V} (e : v = .int (k : Nat)) (hl : H l = some (.tup xs)) (hne : xs ≠ []) (h1 : 1 ≤ k) (h2 : k ≤ 1000000) (hz : k * xs.length ≤ 1000000)
    (h : ∀ p H', Same H H' → H' p = some (.tup (List.replicate k xs).flatten) → Q (.ref p) H') : rRepA K (.ref l) v H Q := by
  subst e
  exact rep_all hl hne (by omega) (by omega) hz h
theorem cat_all {a b : Addr} {xs ys : List V} (ha : H a = some (.tup xs)) (hb : H b = some (.tup ys)) (hz : xs.length + ys.length ≤ sizeLine)
    (h : ∀ p H', Same H H' → H' p = some (.tup (xs ++ ys)) → Q (.ref p) H') : rCatA K (.ref a) (.ref b) H Q := by
  refine ⟨a, b, xs, ys, rfl, rfl, .inl (.inl ha), .inl (.inl hb), hz, fun e => ?_, fun _ e => ?_, fun _ _ p np => h p _ (fun b x e => by rw [upd_ne (ne_of_none e np)]; exact e) upd_same⟩
  · subst e
    exact h b H (fun _ _ e => e) hb
  · subst e
    exact h a H (fun _ _ e => e) (by rw [List.append_nil]; exact ha)
theorem sl_all {a : Addr} {xs : List V} {lo hi : Option Int} (ha : H a = some (.tup xs)) (h : ∀ p H', Same H H' → H' p = some (.tup (cutV xs lo hi)) → Q (.ref p) H') : rSlA K (.ref a) lo hi H Q := by
  refine ⟨a, xs, rfl, .inl (.inl ha), fun w => ?_, fun _ p np => h p _ (fun b x e => by rw [upd_ne (ne_of_none e np)]; exact e) upd_same⟩
  refine h a H (fun _ _ e => e) ?_
  rw [ha]
  unfold cutV
  rw [w.1, w.2, List.drop_zero, Nat.sub_zero, List.take_length]
end

/-- t != () of any tuple -/
def rNe0 (K : PySem.W.Frag) : R2 := fun x y H Q => ∃ a b xs, x = .ref a ∧ y = .ref b ∧ SqT K H a xs ∧ SqT K H b [] ∧ Q (.bl (!xs.isEmpty)) H
section
variable {X : Cx}
theorem op_neT0 (hu : X.A.units + 64 < cLine) : OpR X (compareOp .NotEq) (rNe0 X.K) := by
  intro pins s σ H x y v u Q I rx ry h
  obtain ⟨a, b, xs, rfl, rfl, ha, hb, q⟩ := h
  cases rx
  cases ry
  obtain ⟨its, r1, p1, _⟩ := I.tuple ha
  obtain ⟨its2, r2, p2, _⟩ := I.tuple hb
  cases r2
  have R := PySem.SeqAt.RcNeAt.tuples (A := X.A) (s := s) (e := fun _ => true) p1 p2 (by omega) (fun j h1 h2 => absurd h2 (by simp)) X.prog X.w X.xe (EP X pins σ Q)
  refine R ⟨.bl _, H, I, rfl, ?_⟩
  have e : (!((List.range (min its.toArray.size (#[] : Array Value).size)).all (fun _ => true) && its.toArray.size == (#[] : Array Value).size)) = !xs.isEmpty := by
    have hl := r1.length
    cases xs with
    | nil =>
      cases its with
      | nil => rfl
      | cons c cs => cases hl
    | cons y ys =>
      cases its with
      | nil => cases hl
      | cons c cs => simp
  rw [show (!((List.range (min its.toArray.size ([] : List Value).toArray.size)).all (fun _ => true) && its.toArray.size == ([] : List Value).toArray.size)) = !xs.isEmpty from e]
  exact q
end
end G1
/-! zip of a tuple and a list -/
namespace G1
open PySem PySem.Spec PyProof.Rows L2
/-- the items of the tuple at a and of the list at c beside one another -/
def ItzM (K : PySem.W.Frag) (a c : Addr) : It :=
  ⟨fun i H => ∃ (xs ys : List V) (x y : V), SqT K H a xs ∧ SqL K H c ys ∧ xs[i]? = some x ∧ ys[i]? = some y,
   fun i H v H' => ∃ T x y, v = .ref T ∧ H T = none ∧ H' = upd H T (.tup [x, y]) ∧ (∀ xs, SqT K H a xs → xs[i]? = some x) ∧ ∀ ys, SqL K H c ys → ys[i]? = some y,
   fun i H => ∃ xs ys : List V, SqT K H a xs ∧ SqL K H c ys ∧ i = min xs.length ys.length⟩
theorem sepM {a c b : Addr} (ha : a < b) (hc : c < b) : ZipSep2 (b + 4) (b + 2) (b + 3) b (b + 1) [b, a] [b + 1, c] := by
  have n : ∀ (i j : Nat), i ≠ j → b + i ≠ b + j := fun i j h z => h (Nat.add_left_cancel z)
  have la : ∀ i : Nat, b + i ≠ a := fun i => Nat.ne_of_gt (Nat.lt_of_lt_of_le ha (Nat.le_add_right b i))
  have lc : ∀ i : Nat, b + i ≠ c := fun i => Nat.ne_of_gt (Nat.lt_of_lt_of_le hc (Nat.le_add_right b i))
  have nm : ∀ x y z : Addr, x ≠ y → x ≠ z → x ∉ [y, z] := fun x y z h1 h2 m => by
    rcases (by simpa using m : x = y ∨ x = z) with e | e
    · exact h1 e
    · exact h2 e
  exact ⟨n 2 4 (by decide), n 3 4 (by decide), n 2 3 (by decide), n 2 0 (by decide), by simp, nm _ _ _ (n 4 0 (by decide)) (la 4), nm _ _ _ (n 3 0 (by decide)) (la 3),
    n 2 1 (by decide), by simp, nm _ _ _ (n 4 1 (by decide)) (lc 4), nm _ _ _ (n 3 1 (by decide)) (lc 3), nm _ _ _ (n 0 1 (by decide)) (lc 0), nm _ _ _ (n 1 0 (by decide)) (la 1)⟩
def tnM (a c b : Addr) (i : Nat) (h : Heap) : Prop :=
  IsZip h (b + 4) (b + 2) (b + 3) .none ∧ IsTupOf2 h (b + 2) (.ref b) (.ref (b + 1)) ∧ (∃ u v, IsTupOf2 h (b + 3) u v) ∧ h.IsTupleIter b a i ∧ h.IsListIter (b + 1) c i
theorem turn_zipM {P : Program} {w : World} {K : PySem.W.Frag} {elts : List Expr} {kk : Nat} {tpos : Pos} {a c b : Addr} (ha : a < b) (hc : c < b) :
    Turn P w K (.Tuple elts kk tpos) (ItzM K a c) [b, b + 1, b + 2, b + 3, b + 4] (b + 4) (tnM a c b) where
  mem := by simp
  obj := fun i h st x hx => by
    obtain ⟨hz, h2, ⟨u, v, h3⟩, ⟨o1, q1, _, d1⟩, ⟨o2, q2, _, d2⟩⟩ := st
    rcases (by simpa using hx : x = b ∨ x = b + 1 ∨ x = b + 2 ∨ x = b + 3 ∨ x = b + 4) with rfl | rfl | rfl | rfl | rfl
    · exact ⟨o1, q1, fun v z => by rw [d1] at z; cases z⟩
    · exact ⟨o2, q2, fun v z => by rw [d2] at z; cases z⟩
    · exact ⟨_, h2, fun v z => nomatch z⟩
    · exact ⟨_, h3, fun v z => nomatch z⟩
    · exact ⟨_, hz, fun v z => nomatch z⟩
  keep := fun i h h' st k => by
    obtain ⟨hz, h2, ⟨u, v, h3⟩, ⟨o1, q1, r1⟩, ⟨o2, q2, r2⟩⟩ := st
    exact ⟨k _ (by simp) _ hz, k _ (by simp) _ h2, ⟨u, v, k _ (by simp) _ h3⟩, ⟨o1, k _ (by simp) _ q1, r1⟩, ⟨o2, k _ (by simp) _ q2, r2⟩⟩
  item := by
    intro X hX hW hKK calm i pins s σ H E I away st hg
    subst hX hW hKK
    obtain ⟨xs, ys, x, y, hqx, hqy, hx, hy⟩ := hg
    obtain ⟨hz, hTI, hTO, st1, st2⟩ := st
    obtain ⟨its, rv, p1, _⟩ := I.tuple hqx
    obtain ⟨its2, rv2, p2, _⟩ := I.list hqy
    obtain ⟨u, hu, ru⟩ := rv.get hx
    obtain ⟨u2, hu2, ru2⟩ := rv2.get hy
    have D1 := Draws.tuple (prog := X.prog) (w := X.w) (A := X.A.in1) (I.ok.hd calm) b a (Nat.ne_of_lt ha) its.toArray
    have D2 := Draws.list (prog := X.prog) (w := X.w) (A := X.A.in1) (I.ok.hd calm) (b + 1) c (Nat.ne_of_lt (Nat.lt_succ_of_lt hc)) its2.toArray
    have W := GoesN.zip2 (elts := elts) (x1 := kk) (pos := tpos) (sepM ha hc) D1 D2
    have il : i < min its.toArray.size its2.toArray.size := by
      have e1 := (List.getElem?_eq_some_iff.mp hu).1
      have e2 := (List.getElem?_eq_some_iff.mp hu2).1
      rw [List.size_toArray, List.size_toArray]
      omega
    refine W.goes i s _ E il ⟨hz, hTI, hTO, ⟨st1, p1⟩, ⟨st2, p2.isList⟩⟩ fun v h' tk hY st' hk htk => ?_
    obtain ⟨T, y1, y2, ev, hT, hy1, hy2, hO⟩ := hY
    have ey1 : y1 = u := by
      rw [List.getElem?_toArray, hu] at hy1
      exact (Option.some.inj hy1).symm
    have ey2 : y2 = u2 := by
      rw [List.getElem?_toArray, hu2] at hy2
      exact (Option.some.inj hy2).symm
    subst ev ey1 ey2
    obtain ⟨o, ho, hoc, n, hod⟩ := hO
    have new : ObjOk X.prog X.w (upd H T (.tup [x, y])) h' T (.tup [x, y]) :=
      ⟨by show 2 ≤ sizeLine; decide, [y1, y2], .cons ru (.cons ru2 .nil), ⟨o, ho, hoc, n, hod⟩⟩
    have I1 : Inv X pins σ (upd H T (.tup [x, y])) { s with heap := h', toks := tk } :=
      I.turnedNew (ch := [b, b + 1, b + 2, b + 3, b + 4]) (fun q o hq e => hk q o (fun z => hq (by
        rcases (by simpa using z : q = b + 4 ∨ q = b + 3 ∨ q = b ∨ q = b + 1) with rfl | rfl | rfl | rfl <;> simp)) e) away hT new
    refine ⟨.ref T, _, I1, rfl, ⟨T, x, y, rfl, I.hok.fresh hT, rfl, fun zs hq => by rw [I.tuple_inj hq hqx]; exact hx, fun zs hq => by rw [I.list_inj hq hqy]; exact hy⟩, ⟨st'.1, st'.2.1, st'.2.2.1, st'.2.2.2.1.1, st'.2.2.2.2.1⟩, fun q hq => ?_⟩
    have hb' : q < s.heap.objs.size := by
      have e4 : b + 4 < s.heap.objs.size := Heap.lt_size hz
      have l : ∀ j : Nat, j ≤ 4 → b + j < s.heap.objs.size := fun j hj => Nat.lt_of_le_of_lt (Nat.add_le_add_left hj b) e4
      rcases (by simpa using hq : q = b ∨ q = b + 1 ∨ q = b + 2 ∨ q = b + 3 ∨ q = b + 4) with rfl | rfl | rfl | rfl | rfl
      · exact l 0 (by decide)
      · exact l 1 (by decide)
      · exact l 2 (by decide)
      · exact l 3 (by decide)
      · exact l 4 (by decide)
    rw [upd_ne (Nat.ne_of_lt (Nat.lt_of_lt_of_le hb' hT))]
    exact (away q hq).1
  done := by
    intro X hX hW hKK calm i pins s σ H E I away st hg
    subst hX hW hKK
    obtain ⟨xs, ys, hqx, hqy, hi⟩ := hg
    obtain ⟨hz, hTI, hTO, st1, st2⟩ := st
    obtain ⟨its, rv, p1, _⟩ := I.tuple hqx
    obtain ⟨its2, rv2, p2, _⟩ := I.list hqy
    have l1 := rv.length
    have l2 := rv2.length
    have D1 := Draws.tuple (prog := X.prog) (w := X.w) (A := X.A.in1) (I.ok.hd calm) b a (Nat.ne_of_lt ha) its.toArray
    have D2 := Draws.list (prog := X.prog) (w := X.w) (A := X.A.in1) (I.ok.hd calm) (b + 1) c (Nat.ne_of_lt (Nat.lt_succ_of_lt hc)) its2.toArray
    have W := GoesN.zip2 (elts := elts) (x1 := kk) (pos := tpos) (sepM ha hc) D1 D2
    have ei : i = min its.toArray.size its2.toArray.size := by
      rw [List.size_toArray, List.size_toArray]
      omega
    rw [ei] at st1 st2
    refine W.stops s _ E ⟨hz, hTI, hTO, ⟨st1, p1⟩, ⟨st2, p2.isList⟩⟩ fun h' tk hk htk => ?_
    exact I.turnedL (t' := tk) (ch := [b, b + 1, b + 2, b + 3, b + 4]) (fun q o hq e => hk q o (fun z => hq (by
        rcases (by simpa using z : q = b + 4 ∨ q = b + 3 ∨ q = b ∨ q = b + 1) with rfl | rfl | rfl | rfl <;> simp)) e) away
  self := fun A i s Q E st q => wpAny_pyIter_zip st.1 q
def iZipM (K : PySem.W.Frag) (ta : TA) : TI := fun σ H R => ta σ H fun vs H1 => ∃ a c xs ys, vs = [.ref a, .ref c] ∧ SqT K H1 a xs ∧ SqL K H1 c ys ∧ R (ItzM K a c) H1
theorem pi_zipM {X : Cx} {e e2 : Expr} {ta : TA} {p pos tpos : Pos} {elts : List Expr} {kk : Nat} (hg : Gl X "zip") (hm : X.mg "zip" = none) (ha : PA X [e, e2] ta)
    (hs : starEach [e, e2] X.env = (false, eval e X.env) :: starEach [e2] X.env := by rfl) (hpl : (backTo pos (starEach [e2] X.env)).any (·.1) = false := by rfl) :
    PI X (.Tuple elts kk tpos) (.Call (.Name "zip" p) [e, e2] [] pos) (iZipM X.K ta) := by
  refine ⟨fun pins s σ H R I h => ?_⟩
  refine Call_ (ld_blt I hg hm PyProof.Rows.boot_zip (PyProof.Rows.callWith_type1 (thn (ha.run pos pins s σ H _ I h) fun us s1 ⟨vs, H1, I1, r1, q1⟩ => ?_) hs hpl))
  obtain ⟨a, c, xs, ys, ex, hqx, hqy, q⟩ := q1
  subst ex
  cases r1 with
  | cons r rr =>
    cases rr with
    | cons r' rr =>
      cases rr
      cases r
      cases r'
      obtain ⟨its, rv, p1, _⟩ := I1.tuple hqx
      obtain ⟨its2, rv2, p2, _⟩ := I1.list hqy
      have la : a < s1.heap.objs.size := by
        obtain ⟨o, ho, _⟩ := p1
        exact Heap.lt_size ho
      have lc : c < s1.heap.objs.size := p2.lt
      refine zip_begins2 (begins_tuple a its.toArray) (begins_list c its2.toArray) p1 p2.isList fun h' hz hTI hTO h1 h2 hsz hk => wpAny_pyIter_zip hz ?_
      have I2 : Inv X pins σ H1 { s1 with heap := h' } := I1.kept (t' := s1.toks) hk
      refine ⟨s1.heap.objs.size + 4, [s1.heap.objs.size, s1.heap.objs.size + 1, s1.heap.objs.size + 2, s1.heap.objs.size + 3, s1.heap.objs.size + 4], _, _, H1, rfl, I2, turn_zipM la lc, ⟨hz, hTI, ⟨_, _, hTO⟩, ⟨_, h1, rfl, rfl⟩, ⟨_, h2, rfl, rfl⟩⟩, fun x hx => ?_, q⟩
      have up : s1.heap.objs.size ≤ x := by
        rcases (by simpa using hx : x = s1.heap.objs.size ∨ x = s1.heap.objs.size + 1 ∨ x = s1.heap.objs.size + 2 ∨ x = s1.heap.objs.size + 3 ∨ x = s1.heap.objs.size + 4) with z | z | z | z | z
        · rw [z]; exact Nat.le_refl _
        · rw [z]; exact Nat.le_add_right _ _
        · rw [z]; exact Nat.le_add_right _ _
        · rw [z]; exact Nat.le_add_right _ _
        · rw [z]; exact Nat.le_add_right _ _
      exact I1.fpOk up (I1.hok.fresh up)
end G1
/-! one of two readings; zips as walks -/
namespace G1
open PySem PySem.Spec PyProof.Rows L2 RZ
section
variable {X : Cx}
theorem PE.or {e : Expr} {t1 t2 : TE} (a : PE X e t1) (b : PE X e t2) : PE X e (fun σ H Q => t1 σ H Q ∨ t2 σ H Q) :=
  ⟨fun pins s σ H Q I h => h.elim (fun h => a.run pins s σ H Q I h) (fun h => b.run pins s σ H Q I h)⟩
theorem PI.or {tg e : Expr} {t1 t2 : TI} (a : PI X tg e t1) (b : PI X tg e t2) : PI X tg e (fun σ H R => t1 σ H R ∨ t2 σ H R) :=
  ⟨fun pins s σ H R I h => h.elim (fun h => a.run pins s σ H R I h) (fun h => b.run pins s σ H R I h)⟩
end
section
variable {K : PySem.W.Frag} {a c : Addr} {xs ys : List V}
theorem walk_zipM {n : Nat} (hn : n = min xs.length ys.length) : Walk (ItzM K a c) n (fun H => SqT K H a xs ∧ SqL K H c ys) (YPair (fun i => xs[i]?) (fun i => ys[i]?)) := by
  subst hn
  refine ⟨fun i H hi q => ⟨xs, ys, xs[i]'(by omega), ys[i]'(by omega), q.1, q.2, by simp [show i < xs.length by omega], by simp [show i < ys.length by omega]⟩, fun H q => ⟨xs, ys, q.1, q.2, rfl⟩, fun i H v H' hi q y => ?_⟩
  obtain ⟨T, x, y, rfl, hT, rfl, h1, h2⟩ := y
  exact ⟨T, x, y, rfl, hT, rfl, h1 xs q.1, h2 ys q.2⟩
theorem walk_zipT {n : Nat} (hn : n = min xs.length ys.length) : Walk (ItzT K a c) n (fun H => SqT K H a xs ∧ SqT K H c ys) (YPair (fun i => xs[i]?) (fun i => ys[i]?)) := by
  subst hn
  refine ⟨fun i H hi q => ⟨xs, ys, xs[i]'(by omega), ys[i]'(by omega), q.1, q.2, by simp [show i < xs.length by omega], by simp [show i < ys.length by omega]⟩, fun H q => ⟨xs, ys, q.1, q.2, by omega⟩, fun i H v H' hi q y => ?_⟩
  obtain ⟨T, x, y, rfl, hT, rfl, h1, h2⟩ := y
  exact ⟨T, x, y, rfl, hT, rfl, h1 xs q.1, h2 ys q.2⟩
end
end G1
/-! repr of small numbers, tuples of them, tables beside one another -/
namespace G1
open PySem PySem.Spec PyProof.Rows L2
theorem small_int {i : Int} (h0 : 0 ≤ i) (h1 : i ≤ 10000) : Small (.int i) := by
  refine ⟨?_, rfl, by simp [PyData.depth], ?_, ?_⟩
  · simp only [PyData.showable]
    exact decide_eq_true (log_small h0 (by omega))
  · show decide ((PyData.shown (.int i)).length ≤ 8) = true
    rw [decide_eq_true_eq]
    have e := PyProof.Rows.toString_length_le h0 (k := 5) (by decide) (by omega)
    have e2 : (PyData.shown (.int i)).length = (Str.ofString (toString i)).length := rfl
    omega
  · show (if i == 0 then 0 else i.natAbs.log2 + 1) ≤ 20000
    split
    · omega
    · have z : i.natAbs ≠ 0 := fun e => by
        rename_i hz
        exact hz (by rw [Int.natAbs_eq_zero.mp e]; rfl)
      have : i.natAbs.log2 < 64 := (Nat.log2_lt z).mpr (by omega)
      omega
/-- a tuple of small data -/
theorem small_tup {ds : List PyData} (h : ∀ d ∈ ds, Small d ∧ d.weight ≤ 100 ∧ d.depth ≤ 3) (hl : ds.length ≤ 20) : Small (.tuple ds) := by
  obtain ⟨h1, h2, h3, h4, h5⟩ := small_all ds fun d hd => (h d hd).1
  have w : ∀ ds : List PyData, (∀ d ∈ ds, d.weight ≤ 100 ∧ d.depth ≤ 3) → PyData.weightAll ds ≤ 101 * ds.length ∧ PyData.depthAll ds ≤ 3 := by
    intro ds
    induction ds with
    | nil => intro _; simp [PyData.weightAll, PyData.depthAll]
    | cons d ds ih =>
      intro hd
      have a := hd d List.mem_cons_self
      have b := ih fun e he => hd e (List.mem_cons_of_mem _ he)
      refine ⟨?_, ?_⟩
      · simp only [PyData.weightAll, List.length_cons]
        omega
      · simp only [PyData.depthAll]
        omega
  obtain ⟨w1, w2⟩ := w ds fun d hd => (h d hd).2
  refine ⟨?_, ?_, ?_, ?_, ?_⟩
  · simp only [PyData.showable]; exact h1
  · simp only [PyData.hasDict]; exact h2
  · simp only [PyData.depth]; omega
  · simp only [PyData.leavesShort]; exact h4
  · simp only [PyData.weight]
    have : 101 * ds.length ≤ 101 * 20 := Nat.mul_le_mul_left _ hl
    omega
theorem int_fit {i : Int} (h0 : 0 ≤ i) (h1 : i ≤ 10000) : Small (.int i) ∧ PyData.weight (.int i) ≤ 20 ∧ PyData.depth (.int i) ≤ 1 := by
  refine ⟨small_int h0 h1, ?_, by simp [PyData.depth]⟩
  show (if i == 0 then 0 else i.natAbs.log2 + 1) ≤ 20
  split
  · omega
  · have z : i.natAbs ≠ 0 := fun e => by
      rename_i hz
      exact hz (by rw [Int.natAbs_eq_zero.mp e]; rfl)
    have : i.natAbs.log2 < 14 := (Nat.log2_lt z).mpr (by omega)
    omega
def dKs (ks : List Nat) : PyData := .tuple (ks.map fun k => PyData.int (k : Nat))
theorem dp_ks {K : PySem.W.Frag} {H : Hp} : ∀ ks : List Nat, DpAll K H (ks.map fun k => V.int (k : Nat)) (ks.map fun k => PyData.int (k : Nat))
  | [] => .nil
  | k :: ks => .cons (.int _) (dp_ks ks)
theorem small_ks {ks : List Nat} (h : ∀ k ∈ ks, k ≤ 10000) (hl : ks.length ≤ 20) : Small (dKs ks) := small_tup (fun d hd => by
  obtain ⟨k, hk, rfl⟩ := List.mem_map.mp hd
  have a := int_fit (i := (k : Int)) (by omega) (by have := h k hk; omega)
  exact ⟨a.1, by have := a.2.1; omega, by have := a.2.2; omega⟩) (by rw [List.length_map]; exact hl)

/-- two tables -/
@[irreducible] def dT2 (a b c d : List Bool) : PyData := .list [dTab a b, dTab c d]
theorem repr_t2 {K : PySem.W.Frag} {H : Hp} {R : PyData → Prop} {l p p' : Addr} {a b c d : List Bool} (e : H l = some (.lst [.ref p, .ref p'])) (h1 : H p = some (.tup [.str (B a), .str (B b)])) (h2 : H p' = some (.tup [.str (B c), .str (B d)]))
    (l1 : a.length ≤ 5000) (l2 : b.length ≤ 5000) (l3 : c.length ≤ 5000) (l4 : d.length ≤ 5000) (q : R (dT2 a b c d)) :
    ∃ (a' : Addr) (d' : PyData), [V.ref l] = [V.ref a'] ∧ Dp K H (.ref a') d' ∧ d'.showable = true ∧ d'.hasDict = false ∧ d'.depth ≤ 60 ∧ d'.shown.length ≤ sizeLine ∧ R d' := by
  unfold dT2 at q
  exact repr_items [dTab a b, dTab c d] e (.cons (dp_tab h1) (.cons (dp_tab h2) .nil)) (List.forall_mem_cons.mpr ⟨small_tab l1 l2, List.forall_mem_cons.mpr ⟨small_tab l3 l4, fun _ z => by cases z⟩⟩) (by simp) q
/-- a tuple of small numbers -/
theorem repr_ks {K : PySem.W.Frag} {H : Hp} {R : PyData → Prop} {p : Addr} {ks : List Nat} (h1 : H p = some (.tup (ks.map fun k => V.int (k : Nat)))) (h : ∀ k ∈ ks, k ≤ 10000) (hl : ks.length ≤ 20) (q : R (dKs ks)) :
    ∃ (a' : Addr) (d' : PyData), [V.ref p] = [V.ref a'] ∧ Dp K H (.ref a') d' ∧ d'.showable = true ∧ d'.hasDict = false ∧ d'.depth ≤ 60 ∧ d'.shown.length ≤ sizeLine ∧ R d' := by
  have sm := small_ks h hl
  exact go_repr (dKs ks) (.tup (sqT_of h1) (dp_ks ks)) sm.sh sm.nd (Nat.le_trans sm.dp (by decide)) sm.lv (Nat.le_trans sm.wt (by decide)) q
/-- a tuple of small numbers, its text never unfolded -/
@[irreducible] def dKi (ks : List Nat) : PyData := dKs ks
theorem repr_ki {K : PySem.W.Frag} {H : Hp} {R : PyData → Prop} {p : Addr} {ks : List Nat} (h1 : H p = some (.tup (ks.map fun k => V.int (k : Nat)))) (h : ∀ k ∈ ks, k ≤ 10000) (hl : ks.length ≤ 20) (q : R (dKi ks)) :
    ∃ (a' : Addr) (d' : PyData), [V.ref p] = [V.ref a'] ∧ Dp K H (.ref a') d' ∧ d'.showable = true ∧ d'.hasDict = false ∧ d'.depth ≤ 60 ∧ d'.shown.length ≤ sizeLine ∧ R d' := by
  unfold dKi at q
  exact repr_ks h1 h hl q

/-- figures in a tuple, many of them -/
theorem dig_all : ∀ l : List Nat, (∀ k ∈ l, k ≤ 9) → PyData.showableAll (l.map fun k => PyData.int (k : Nat)) = true ∧ PyData.hasDictAll (l.map fun k => PyData.int (k : Nat)) = false ∧ PyData.depthAll (l.map fun k => PyData.int (k : Nat)) = 0 ∧
    PyData.leavesShortAll 8 (l.map fun k => PyData.int (k : Nat)) = true ∧ PyData.weightAll (l.map fun k => PyData.int (k : Nat)) ≤ 21 * l.length
  | [], _ => by simp [PyData.showableAll, PyData.hasDictAll, PyData.depthAll, PyData.leavesShortAll, PyData.weightAll]
  | k :: l, h => by
    obtain ⟨h1, h2, h3, h4, h5⟩ := dig_all l fun e he => h e (List.mem_cons_of_mem _ he)
    have k9 := h k List.mem_cons_self
    obtain ⟨a, w, d⟩ := int_fit (i := (k : Int)) (by omega) (by omega)
    have a1 := a.sh
    have a4 := a.lv
    refine ⟨?_, ?_, ?_, ?_, ?_⟩
    · simp only [List.map_cons, PyData.showableAll, h1, a1, Bool.and_self]
    · simp [PyData.hasDictAll, PyData.hasDict, h2]
    · simp [PyData.depthAll, PyData.depth, h3]
    · simp only [List.map_cons, PyData.leavesShortAll, h4, a4, Bool.and_self]
    · simp only [List.map_cons, PyData.weightAll, List.length_cons]
      omega
@[irreducible] def dDg (l : List Nat) : PyData := dKs l
theorem repr_dg {K : PySem.W.Frag} {H : Hp} {R : PyData → Prop} {p : Addr} {l : List Nat} (h1 : H p = some (.tup (l.map fun k => V.int (k : Nat)))) (h : ∀ k ∈ l, k ≤ 9) (hl : l.length ≤ 40000) (q : R (dDg l)) :
    ∃ (a' : Addr) (d' : PyData), [V.ref p] = [V.ref a'] ∧ Dp K H (.ref a') d' ∧ d'.showable = true ∧ d'.hasDict = false ∧ d'.depth ≤ 60 ∧ d'.shown.length ≤ sizeLine ∧ R d' := by
  unfold dDg at q
  obtain ⟨g1, g2, g3, g4, g5⟩ := dig_all l h
  refine go_repr (dKs l) (.tup (sqT_of h1) (dp_ks l)) ?_ ?_ ?_ ?_ ?_ q
  · simp only [dKs, PyData.showable]; exact g1
  · simp only [dKs, PyData.hasDict]; exact g2
  · simp only [dKs, PyData.depth, g3]; decide
  · simp only [dKs, PyData.leavesShort]; exact g4
  · simp only [dKs, PyData.weight]; omega
@[irreducible] def dDg2 (l k : List Nat) : PyData := .list [dKs l, dKs k]
theorem repr_dg2 {K : PySem.W.Frag} {H : Hp} {R : PyData → Prop} {o p p' : Addr} {l k : List Nat} (h0 : H o = some (.lst [.ref p, .ref p'])) (h1 : H p = some (.tup (l.map fun k => V.int (k : Nat)))) (h2 : H p' = some (.tup (k.map fun k => V.int (k : Nat))))
    (hl9 : ∀ x ∈ l, x ≤ 9) (hk9 : ∀ x ∈ k, x ≤ 9) (hl : l.length ≤ 10000) (hk : k.length ≤ 10000) (q : R (dDg2 l k)) :
    ∃ (a' : Addr) (d' : PyData), [V.ref o] = [V.ref a'] ∧ Dp K H (.ref a') d' ∧ d'.showable = true ∧ d'.hasDict = false ∧ d'.depth ≤ 60 ∧ d'.shown.length ≤ sizeLine ∧ R d' := by
  unfold dDg2 at q
  obtain ⟨g1, g2, g3, g4, g5⟩ := dig_all l hl9
  obtain ⟨k1, k2, k3, k4, k5⟩ := dig_all k hk9
  refine go_repr (.list [dKs l, dKs k]) (.lst (.inl (.inl h0)) (.cons (.tup (sqT_of h1) (dp_ks l)) (.cons (.tup (sqT_of h2) (dp_ks k)) .nil))) ?_ ?_ ?_ ?_ ?_ q
  · simp only [dKs, PyData.showable, PyData.showableAll, g1, k1, Bool.and_self]
  · simp only [dKs, PyData.hasDict, PyData.hasDictAll, g2, k2, Bool.or_self]
  · simp only [dKs, PyData.depth, PyData.depthAll, g3, k3]; decide
  · simp only [dKs, PyData.leavesShort, PyData.leavesShortAll, g4, k4, Bool.and_self]
  · simp only [dKs, PyData.weight, PyData.weightAll]; omega

/-- two small numbers in a list -/
@[irreducible] def dI2 (a b : Nat) : PyData := .list [.int (a : Nat), .int (b : Nat)]
theorem repr_i2 {K : PySem.W.Frag} {H : Hp} {R : PyData → Prop} {o : Addr} {a b : Nat} (h0 : H o = some (.lst [.int (a : Nat), .int (b : Nat)])) (ha : a ≤ 10000) (hb : b ≤ 10000) (q : R (dI2 a b)) :
    ∃ (a' : Addr) (d' : PyData), [V.ref o] = [V.ref a'] ∧ Dp K H (.ref a') d' ∧ d'.showable = true ∧ d'.hasDict = false ∧ d'.depth ≤ 60 ∧ d'.shown.length ≤ sizeLine ∧ R d' := by
  unfold dI2 at q
  exact repr_items [.int (a : Nat), .int (b : Nat)] h0 (.cons (.int _) (.cons (.int _) .nil)) (List.forall_mem_cons.mpr ⟨small_int (by omega) (by omega), List.forall_mem_cons.mpr ⟨small_int (by omega) (by omega), fun _ z => by cases z⟩⟩) (by simp) q
end G1
/-! repr of whole data with dicts in it: address 1 is a dict of the base, so nothing that is tracked stands there -/
namespace G1
open PySem PySem.Spec PyProof.Rows L2
def HasSys (base : Heap) : Prop := ∃ mm, base.Ns sysModules mm
def kD : Key → PyData
  | .inl i => .int i
  | .inr x => .str x
mutual
inductive DpD (K : PySem.W.Frag) (H : Hp) : V → PyData → Prop
  | non : DpD K H .non .none
  | bl (b : Bool) : DpD K H (.bl b) (.bool b)
  | int (i : Int) : DpD K H (.int i) (.int i)
  | str (x : Str) : DpD K H (.str x) (.str x)
  | lst {a : Addr} {xs : List V} {ds : List PyData} : SqL K H a xs → DpDAll K H xs ds → DpD K H (.ref a) (.list ds)
  | tup {a : Addr} {xs : List V} {ds : List PyData} : SqT K H a xs → DpDAll K H xs ds → DpD K H (.ref a) (.tuple ds)
  | dct {a : Addr} {kvs : List (Key × V)} {ds : List (PyData × PyData)} : H a = some (.dK kvs) → DpDKv K H kvs ds → DpD K H (.ref a) (.dict ds)
inductive DpDAll (K : PySem.W.Frag) (H : Hp) : List V → List PyData → Prop
  | nil : DpDAll K H [] []
  | cons {v : V} {vs : List V} {d : PyData} {ds : List PyData} : DpD K H v d → DpDAll K H vs ds → DpDAll K H (v :: vs) (d :: ds)
inductive DpDKv (K : PySem.W.Frag) (H : Hp) : List (Key × V) → List (PyData × PyData) → Prop
  | nil : DpDKv K H [] []
  | cons {k : Key} {v : V} {kvs : List (Key × V)} {d : PyData} {ds : List (PyData × PyData)} : DpD K H v d → DpDKv K H kvs ds → DpDKv K H ((k, v) :: kvs) ((kD k, d) :: ds)
end
section
variable {X : Cx} {pins : List (Addr × Obj)} {σ : L2.St} {H : Hp} {s : Shared}
theorem sys_not {a : Addr} {o : Obj} {vs : Array Value} {n : Nat} (I : Inv X pins σ H s) (hb : HasSys X.base) (e : s.heap.get? a = some o) (d : o.data = .seq vs n) : a ≠ sysModules := by
  rintro rfl
  obtain ⟨mm, o', es, ep, e', d', _⟩ := hb
  rw [(I.bs _ o' e').1] at e
  cases e
  rw [d'] at d
  cases d
theorem key_reads {h : Heap} {k : Key} {v : Value} (e : keyIs k v = true) : Reads h v (kD k) [] := by
  rcases keyIs_shape e with ⟨i, t, rfl, rfl⟩ | ⟨x, t, rfl, rfl⟩
  · exact Reads.int i t
  · exact Reads.str x t
mutual
theorem DpD.reads (I : Inv X pins σ H s) (hb : HasSys X.base) : ∀ {v : V} {d : PyData} (u : Value), DpD X.K H v d → RelV v u → ∃ as, Reads s.heap u d as ∧ sysModules ∉ as
  | _, _, _, .non, r => by
    cases r
    exact ⟨_, Reads.none, List.not_mem_nil⟩
  | _, _, _, .bl b, r => by
    cases r
    exact ⟨_, Reads.bool b, List.not_mem_nil⟩
  | _, _, _, .int i, r => by
    obtain ⟨t, rfl⟩ := r
    exact ⟨_, Reads.int i t, List.not_mem_nil⟩
  | _, _, _, .str x, r => by
    obtain ⟨t, rfl⟩ := r
    exact ⟨_, Reads.str x t, List.not_mem_nil⟩
  | _, _, _, .lst hs ha, r => by
    cases r
    obtain ⟨its, rv, ⟨o, n, ho, hc, _, hd⟩, _⟩ := I.list hs
    obtain ⟨as, hr, hn⟩ := DpDAll.reads I hb its ha rv
    exact ⟨_, Reads.list ho hc hd hr, fun m => (List.mem_cons.mp m).elim (fun z => sys_not I hb ho hd z.symm) hn⟩
  | _, _, _, .tup hs ha, r => by
    cases r
    obtain ⟨its, rv, ⟨o, ho, hc, n, hd⟩, _⟩ := I.tuple hs
    obtain ⟨as, hr, hn⟩ := DpDAll.reads I hb its ha rv
    exact ⟨_, Reads.tuple ho hc hd hr, hn⟩
  | _, _, _, .dct hd hk, r => by
    cases r
    obtain ⟨_, ns, vs, kv, o, es, ep, ho, ex, hdat, _, pr, _⟩ := dk_of I.hok hd
    obtain ⟨⟨as, h1, n1⟩, bs, h2, n2⟩ := DpDKv.reads I hb _ _ hk kv pr
    refine ⟨_, Reads.dict ho ex.1 hdat h1 h2, ?_⟩
    intro m
    rcases List.mem_append.mp m with m | m
    · rcases List.mem_cons.mp m with z | z
      · rw [← z] at ns
        exact absurd ns (by decide)
      · exact n1 z
    · exact n2 m
theorem DpDAll.reads (I : Inv X pins σ H s) (hb : HasSys X.base) : ∀ {vs : List V} {ds : List PyData} (us : List Value), DpDAll X.K H vs ds → Vals vs us → ∃ as, ReadsAll s.heap us ds as ∧ sysModules ∉ as
  | _, _, _, .nil, r => by
    cases r
    exact ⟨_, ReadsAll.nil, List.not_mem_nil⟩
  | _, _, _, .cons h1 h2, r => by
    cases r with
    | cons r1 r2 =>
      obtain ⟨as, q1, n1⟩ := DpD.reads I hb _ h1 r1
      obtain ⟨bs, q2, n2⟩ := DpDAll.reads I hb _ h2 r2
      exact ⟨_, ReadsAll.cons q1 q2, fun m => (List.mem_append.mp m).elim n1 n2⟩
theorem DpDKv.reads (I : Inv X pins σ H s) (hb : HasSys X.base) : ∀ {kvs : List (Key × V)} {ds : List (PyData × PyData)} (vs : List (Key × Value)) (es : List DictEntry), DpDKv X.K H kvs ds → KV kvs vs → Pairs (mixKind X.prog X.w) es vs →
    (∃ as, ReadsAll s.heap (es.map (·.key)) (ds.map (·.1)) as ∧ sysModules ∉ as) ∧ ∃ bs, ReadsAll s.heap (es.map (·.val)) (ds.map (·.2)) bs ∧ sysModules ∉ bs
  | _, _, _, _, .nil, kv, pr => by
    cases kv
    cases pr
    exact ⟨⟨_, ReadsAll.nil, List.not_mem_nil⟩, _, ReadsAll.nil, List.not_mem_nil⟩
  | _, _, _, _, .cons h1 h2, kv, pr => by
    cases kv with
    | cons r kv2 =>
      cases pr with
      | cons e1 e2 pr2 =>
        obtain ⟨e0, rv⟩ := r
        obtain ⟨⟨as, q1, n1⟩, bs, q2, n2⟩ := DpDKv.reads I hb _ _ h2 kv2 pr2
        rw [← e2] at rv
        obtain ⟨cs, q3, n3⟩ := DpD.reads I hb _ h1 rv
        have e1' : keyIs _ _ = true := e1
        rw [← e0] at e1'
        exact ⟨⟨_, ReadsAll.cons (key_reads e1') q1, fun m => (List.mem_append.mp m).elim List.not_mem_nil n1⟩, _, ReadsAll.cons q3 q2, fun m => (List.mem_append.mp m).elim n3 n2⟩
end
/-- repr of a list, a tuple or a dict of data, dicts in it too -/
def rReprD (K : PySem.W.Frag) : List V → Hp → VK → Prop := fun xs H Q => ∃ (a : Addr) (d : PyData), xs = [.ref a] ∧ DpD K H (.ref a) d ∧ d.showable = true ∧ d.depth ≤ 60 ∧ d.shown.length ≤ sizeLine ∧ Q (.str d.shown) H
theorem call_reprDD (hb : HasSys X.base) (hgd : X.A.guards = some []) (hu : X.A.units + 64 < cLine) : CallR X (.builtin "repr") (rReprD X.K) := by
  intro pins s σ H xs us Q I r h
  obtain ⟨a, d, rfl, hd, hs, hdp, hz, q⟩ := h
  obtain ⟨u, rfl, ru⟩ := vals1 r
  obtain rfl : u = Value.ref a := ru
  obtain ⟨as, r1, hn⟩ := DpD.reads I hb (.ref a) hd rfl
  refine repr_of_reads' r1 hs (fun _ => hn) hgd (by omega) (fun _ _ e => e) (fun h' tu tk hk => ?_) hz
  refine ⟨.str d.shown, H, ?_, ⟨tu, rfl⟩, q⟩
  exact I.kept (t' := tk) hk
end
theorem enterGS {P : Program} {w : World} {K : PySem.W.Frag} {mg mb : Str → Option Value} {k : Nat} {fa a : Addr} {fd : FuncData} {x : Str} {sp : Sp} {s₁ : Shared} {vs : List Value} {ns : List Int}
    (inK : K.In s₁.heap) (hns : s₁.heap.Ns mainGlobals mg) (hbn : s₁.heap.Ns builtinsNs mb) (hbb : ∀ x : Str, x ≠ "__name__" → mb x = bootBuiltins x) (hlim : s₁.heap.NoLimit) (hsy : HasSys s₁.heap) (hg0 : s₁.gens = #[])
    (ha : s₁.heap.get? a = some { cls := .type "list", data := .seq vs.toArray }) (hi : IntsAre vs ns) (hl : ns.length ≤ sizeLine) (hr : Room k callerA)
    (F : ∀ base : Heap, K.In base → base.Ns mainGlobals mg → HasSys base → FnG P w K mg base k fa fd [x] sp)
    (hbind : ∀ (s : Shared) (u : Value), BindsTo s fd ⟨[u], []⟩ [(x, u)])
    (hsp : ∀ H : Hp, Only H → SqL K H a (ns.map V.int) → sp [.ref a] H (fun v _ => v = .bl true) fun _ _ _ => False) :
    codeAny (model P w) callerA (.call (.ref fa) ⟨[.ref a], []⟩)
      (fun r s' => r = .ok (.ret (.bool true)) ∧ OldK s₁.heap s'.heap ∧ s'.os = s₁.os ∧ AllBare s'.gens) s₁ := by
  have rv := vals_ints hi
  have lv := hi.length
  suffices core : ∀ H : Hp, Only H → SqL K H a (ns.map V.int) → HOk P w H s₁.heap → (∀ b, H b ≠ none → b = a ∧ K.lookup a = none) →
      codeAny (model P w) callerA (.call (.ref fa) ⟨[.ref a], []⟩)
        (fun r s' => r = .ok (.ret (.bool true)) ∧ OldK s₁.heap s'.heap ∧ s'.os = s₁.os ∧ AllBare s'.gens) s₁ by
    by_cases hk : K.lookup a = none
    · refine core (fun b => if b = a then some (.frz { cls := .type "list", data := .seq vs.toArray } (.lst (ns.map V.int))) else none) ?_ (Or.inl (Or.inr ⟨_, if_pos rfl⟩)) ?_ ?_
      · intro b
        by_cases hb : b = a
        · exact Or.inr ⟨_, _, if_pos hb⟩
        · exact Or.inl (if_neg hb)
      · intro b u z
        dsimp only at z
        by_cases hb : b = a
        · rw [if_pos hb] at z
          cases z
          subst hb
          exact ⟨ha, by rw [List.length_map]; exact hl, vs, _, rv, ha⟩
        · rw [if_neg hb] at z
          cases z
      · intro b z
        by_cases hb : b = a
        · exact ⟨hb, hk⟩
        · exact absurd (if_neg hb) z
    · obtain ⟨o, ho⟩ := Option.ne_none_iff_exists'.mp hk
      have e := inK a o ho
      rw [ha] at e
      cases e
      exact core (fun _ => none) (fun _ => Or.inl rfl) (Or.inr ⟨_, vs.toArray, _, ho, rfl, rfl, rfl, by rw [List.size_toArray, lv]; exact hl, by simpa using rv⟩)
        (fun b u z => by cases z) (fun b z => absurd rfl z)
  intro H hO hS hok hA
  have untr : ∀ {b : Addr} {o : Obj} {es : Array DictEntry} {ep : Nat}, s₁.heap.get? b = some o → o.data = .dict es ep → H b = none := by
    intro b o es ep e d
    by_cases q : H b = none
    · exact q
    · obtain ⟨rfl, _⟩ := hA b q
      rw [ha] at e
      cases e
      exact nomatch d
  have tohid : ∀ {b : Addr} {m : Str → Option Value}, s₁.heap.Ns b m → (hidT s₁.heap H).Ns b m := by
    rintro b m ⟨o, es, ep, e, d, r⟩
    exact ⟨o, es, ep, hidT_get e (untr e d), d, r⟩
  have hKb : K.In (hidT s₁.heap H) := by
    intro b o e
    refine hidT_get (inK b o e) ?_
    by_cases q : H b = none
    · exact q
    · obtain ⟨rfl, z⟩ := hA b q
      rw [z] at e
      cases e
  obtain ⟨mc, l1, l2⟩ := hlim
  have hM : Mod K mg (hidT s₁.heap H) := ⟨hKb, tohid hns, ⟨mb, tohid hbn, hbb⟩, ⟨mc, tohid l1, l2⟩⟩
  have e0 : Env0 P w K mg (hidT s₁.heap H) callerA [] s₁ H :=
    ⟨rfl, hM, fun b o e => of_hidT e, Nat.le_of_eq (hidT_size _ _), trivial, fun b hb => (List.not_mem_nil hb).elim, hok, .of_eq hg0⟩
  refine codeAny_mono ((F _ hKb (tohid hns) ⟨_, tohid hsy.choose_spec⟩).go callerA [] s₁ H ⟨[.ref a], []⟩ [.ref a] [.ref a] _ _ rfl hr e0 (hbind s₁ (.ref a)) (.cons rfl .nil) (hsp H hO hS)) ?_
  intro r s' h
  cases r with
  | error e => exact h.elim
  | ok fl =>
    cases fl with
    | next => exact h.elim
    | brk => exact h.elim
    | cont => exact h.elim
    | ret u =>
      obtain ⟨v, H', os, bare, un, hok', r', q⟩ := h
      subst q
      obtain rfl : u = Value.bool true := r'
      refine ⟨rfl, OldK.of_keep (fun b o e => ?_), os, bare⟩
      rcases hO b with z | ⟨ob, xs, z⟩
      · exact un.keep b o e z (fun y => (List.not_mem_nil y).elim) List.not_mem_nil
      · obtain ⟨e1, _⟩ := hok b _ z
        obtain ⟨e2, _⟩ := hok' b _ (un.frzs b ob _ z)
        rw [e] at e1
        cases e1
        exact e2

theorem walkGS {l : PySem.W.OpenLaw} {n k : Nat} {q : Program} {loose : List Str} {XP : (Str → Option Value) → Heap → Prop} {YP : World → Heap → Prop} {d : DefRec} {K : Params → PySem.W.Frag} {sp : PySem.W.Frag → Sp} {x : Str}
    (hq : importsNone q = true) (hn : l.most = some n) (hn2 : n ≤ sizeLine) (hdf : d.params.defaults = []) (hr : Room k callerA)
    (hY : ∀ (w : World) (h : Heap), YP w h → (K w.params).In h)
    (F : ∀ (w : World) (mg : Str → Option Value) (fa : Addr) (h : Heap), (K w.params).In h → h.Ns mainGlobals mg → mg d.name = some (.ref fa) →
      ∃ fd : FuncData, (∀ (s : Shared) (u : Value), BindsTo s fd ⟨[u], []⟩ [(x, u)]) ∧
        ∀ base : Heap, (K w.params).In base → base.Ns mainGlobals mg → HasSys base → FnG l.prog w (K w.params) mg base k fa fd [x] (sp (K w.params)))
    (hsp : ∀ (K : PySem.W.Frag) (H : Hp) (a : Addr) (ns : List Int), ns.length ≤ n → Only H → SqL K H a (ns.map V.int) → sp K [.ref a] H (fun v _ => v = .bl true) fun _ _ _ => False) :
    PySem.W.WalkO q loose XP YP l.row.toRowW d [] (fun f vs => PySem.call f vs) := by
  refine Att.attach_call hn hdf ?_
  intro w s₀ s₁ mg mb fa o pm cd doc a vs ns G Y ho hd hcd hmg hobj hints hlen hg0
  have inK := hY w _ Y
  obtain ⟨fd, hb, hF⟩ := F w mg fa _ inK G.T.g hmg
  exact enterGS inK G.T.g G.T.b G.T.builtins G.T.nolimit (let ⟨mm, y, _⟩ := (G.T.seer hq).mods; ⟨mm, y⟩) hg0 hobj hints (Nat.le_trans hlen hn2) hr hF hb (fun H hO hS => hsp _ H a ns hlen hO hS)
end G1
/-! texts of any signs: nothing but noughts and ones in them -/
namespace G1
open PySem PySem.Spec PyProof.Rows L2
def plainL (l : List Nat) : Bool := l.all fun k => k == 48 || k == 49
/-- nothing but 0 and 1 -/
def plainS (x : Str) : Bool := plainL x.cps.toList
theorem cnt_cons' (c k : Nat) (l : List Nat) : cnt c (k :: l) = (if k = c then 1 else 0) + cnt c l := by
  first | exact cnt_cons .. | (rw [cnt_cons]; done) | (rw [cnt_cons]; simp; done)
theorem cnt_plain : ∀ l : List Nat, (cnt 48 l + cnt 49 l = (l.length : Int) ↔ plainL l = true) ∧ cnt 48 l + cnt 49 l ≤ (l.length : Int)
  | [] => by
    have e : ∀ c, cnt c [] = 0 := fun c => rfl
    rw [e, e]
    simp [plainL]
  | k :: l => by
    obtain ⟨h1, h2⟩ := cnt_plain l
    rw [cnt_cons', cnt_cons', List.length_cons]
    have e : plainL (k :: l) = ((k == 48 || k == 49) && plainL l) := rfl
    by_cases a : k = 48
    · subst a
      rw [e, if_pos rfl, if_neg (by decide), show ((48 : Nat) == 48 || (48 : Nat) == 49) = true from rfl, Bool.true_and, ← h1]
      constructor
      · constructor <;> intro h <;> omega
      · omega
    · by_cases b : k = 49
      · subst b
        rw [e, if_neg (by decide), if_pos rfl, show ((49 : Nat) == 48 || (49 : Nat) == 49) = true from rfl, Bool.true_and, ← h1]
        constructor
        · constructor <;> intro h <;> omega
        · omega
      · rw [e, if_neg a, if_neg b, show (k == 48 || k == 49) = false by simp [a, b], Bool.false_and]
        constructor
        · constructor
          · intro h
            omega
          · intro h
            cases h
        · omega
theorem count_plain (x : Str) : Txt.count x ⟨#[48]⟩ + Txt.count x ⟨#[49]⟩ = (x.length : Int) ↔ plainS x = true := by
  rw [count_cnt, count_cnt]
  have e : (x.length : Int) = (x.cps.toList.length : Int) := by rw [Array.length_toList]; rfl
  rw [e]
  exact (cnt_plain x.cps.toList).1
theorem strike_plain (x : Str) : Txt.replace (Txt.replace x ⟨#[48]⟩ ⟨#[]⟩) ⟨#[49]⟩ ⟨#[]⟩ = ⟨#[]⟩ ↔ plainS x = true := by
  have e : (Txt.replace (Txt.replace x ⟨#[48]⟩ ⟨#[]⟩) ⟨#[49]⟩ ⟨#[]⟩).cps.toList = List.filter (fun y => y != 49) (List.filter (fun y => y != 48) x.cps.toList) :=
    (replace_strikes (Txt.replace x ⟨#[48]⟩ ⟨#[]⟩) 49).trans (by rw [replace_strikes])
  generalize Txt.replace (Txt.replace x ⟨#[48]⟩ ⟨#[]⟩) ⟨#[49]⟩ ⟨#[]⟩ = z at e
  obtain ⟨⟨zl⟩⟩ := z
  have e' : zl = List.filter (fun y => y != 49) (List.filter (fun y => y != 48) x.cps.toList) := e
  rw [show ((⟨⟨zl⟩⟩ : Str) = ⟨#[]⟩ ↔ zl = []) from ⟨fun h => by injection h with h; injection h, fun h => by rw [h]⟩, e', List.filter_filter, List.filter_eq_nil_iff]
  unfold plainS plainL
  rw [List.all_eq_true]
  constructor
  · intro h k hk
    have := h k hk
    simp at this ⊢
    omega
  · intro h k hk
    have := h k hk
    simp at this ⊢
    omega
end G1
/-! things of all kinds, apart from the well -/
namespace G1
open PySem PySem.Spec PyProof.Rows L2
mutual
inductive Th (w g : Addr) (H : Hp) : V → PyData → Prop
  | non : Th w g H .non .none
  | bl (b : Bool) : Th w g H (.bl b) (.bool b)
  | int (i : Int) : Th w g H (.int i) (.int i)
  | str (x : Str) : Th w g H (.str x) (.str x)
  | lst {a : Addr} {xs : List V} {ds : List PyData} : a ≠ w → a ≠ g → H a = some (.lst xs) → ThAll w g H xs ds → Th w g H (.ref a) (.list ds)
  | tup {a : Addr} {xs : List V} {ds : List PyData} : H a = some (.tup xs) → ThAll w g H xs ds → Th w g H (.ref a) (.tuple ds)
  | dct {a : Addr} {kvs : List (Key × V)} {ds : List (PyData × PyData)} : a ≠ w → a ≠ g → H a = some (.dK kvs) → ThKv w g H kvs ds → Th w g H (.ref a) (.dict ds)
inductive ThAll (w g : Addr) (H : Hp) : List V → List PyData → Prop
  | nil : ThAll w g H [] []
  | cons {v : V} {vs : List V} {d : PyData} {ds : List PyData} : Th w g H v d → ThAll w g H vs ds → ThAll w g H (v :: vs) (d :: ds)
inductive ThKv (w g : Addr) (H : Hp) : List (Key × V) → List (PyData × PyData) → Prop
  | nil : ThKv w g H [] []
  | cons {k : Key} {v : V} {kvs : List (Key × V)} {d : PyData} {ds : List (PyData × PyData)} : Th w g H v d → ThKv w g H kvs ds → ThKv w g H ((k, v) :: kvs) ((kD k, d) :: ds)
end
section
variable {w g : Addr} {H H' : Hp}
mutual
theorem Th.go (W : WellAt w g H) (s : Go w g H H') : ∀ {v : V} {d : PyData}, Th w g H v d → Th w g H' v d
  | _, _, .non => .non
  | _, _, .bl b => .bl b
  | _, _, .int i => .int i
  | _, _, .str x => .str x
  | _, _, .lst n1 n2 h t => .lst n1 n2 (s _ _ n1 n2 h) (ThAll.go W s t)
  | _, _, .tup h t => .tup ((W.tup h).go s).at_ (ThAll.go W s t)
  | _, _, .dct n1 n2 h t => .dct n1 n2 (s _ _ n1 n2 h) (ThKv.go W s t)
theorem ThAll.go (W : WellAt w g H) (s : Go w g H H') : ∀ {vs : List V} {ds : List PyData}, ThAll w g H vs ds → ThAll w g H' vs ds
  | _, _, .nil => .nil
  | _, _, .cons a b => .cons (Th.go W s a) (ThAll.go W s b)
theorem ThKv.go (W : WellAt w g H) (s : Go w g H H') : ∀ {vs : List (Key × V)} {ds : List (PyData × PyData)}, ThKv w g H vs ds → ThKv w g H' vs ds
  | _, _, .nil => .nil
  | _, _, .cons a b => .cons (Th.go W s a) (ThKv.go W s b)
end
mutual
theorem Th.toD {K : PySem.W.Frag} : ∀ {v : V} {d : PyData}, Th w g H v d → DpD K H v d
  | _, _, .non => .non
  | _, _, .bl b => .bl b
  | _, _, .int i => .int i
  | _, _, .str x => .str x
  | _, _, .lst _ _ h t => .lst (sqL_of h) (ThAll.toD t)
  | _, _, .tup h t => .tup (sqT_of h) (ThAll.toD t)
  | _, _, .dct _ _ h t => .dct h (ThKv.toD t)
theorem ThAll.toD {K : PySem.W.Frag} : ∀ {vs : List V} {ds : List PyData}, ThAll w g H vs ds → DpDAll K H vs ds
  | _, _, .nil => .nil
  | _, _, .cons a b => .cons (Th.toD a) (ThAll.toD b)
theorem ThKv.toD {K : PySem.W.Frag} : ∀ {vs : List (Key × V)} {ds : List (PyData × PyData)}, ThKv w g H vs ds → DpDKv K H vs ds
  | _, _, .nil => .nil
  | _, _, .cons a b => .cons (Th.toD a) (ThKv.toD b)
end
theorem Th.same {v : V} {d : PyData} (W : WellAt w g H) (t : Th w g H v d) (s : Same H H') : Th w g H' v d := t.go W (Go.of s)
theorem ThAll.length : ∀ {vs : List V} {ds : List PyData}, ThAll w g H vs ds → vs.length = ds.length
  | _, _, .nil => rfl
  | _, _, .cons _ b => by rw [List.length_cons, List.length_cons, ThAll.length b]
theorem ThAll.mem : ∀ {vs : List V} {ds : List PyData} {x : V}, ThAll w g H vs ds → x ∈ vs → ∃ d ∈ ds, Th w g H x d
  | _, _, _, .nil, h => by cases h
  | _, _, x, .cons a b, h => by
    rcases List.mem_cons.mp h with e | h
    · subst e
      exact ⟨_, List.mem_cons_self, a⟩
    · obtain ⟨d, h1, h2⟩ := ThAll.mem b h
      exact ⟨d, List.mem_cons_of_mem _ h1, h2⟩
def isTupD : PyData → Bool
  | .tuple _ => true
  | _ => false
def isStrD : PyData → Bool
  | .str _ => true
  | _ => false
theorem Th.isTup {K : PySem.W.Frag} {v : V} {d : PyData} (t : Th w g H v d) : ∃ ty, TyX K H v ty ∧ PySem.W.kitOne K ty (.type "tuple") = some (isTupD d) := by
  cases t with
  | non => exact ⟨_, .base .non, rfl⟩
  | bl b => exact ⟨_, .base (.bl b), rfl⟩
  | int i => exact ⟨_, .base (.int i), rfl⟩
  | str x => exact ⟨_, .base (.str x), rfl⟩
  | lst _ _ h _ => exact ⟨_, .base (.lst h), rfl⟩
  | tup h _ => exact ⟨_, .base (.tup h), rfl⟩
  | dct _ _ h _ => exact ⟨_, .base (.dK h), rfl⟩
theorem Th.isStr {K : PySem.W.Frag} {v : V} {d : PyData} (t : Th w g H v d) : ∃ ty, TyX K H v ty ∧ PySem.W.kitOne K ty (.type "str") = some (isStrD d) := by
  cases t with
  | non => exact ⟨_, .base .non, rfl⟩
  | bl b => exact ⟨_, .base (.bl b), rfl⟩
  | int i => exact ⟨_, .base (.int i), rfl⟩
  | str x => exact ⟨_, .base (.str x), rfl⟩
  | lst _ _ h _ => exact ⟨_, .base (.lst h), rfl⟩
  | tup h _ => exact ⟨_, .base (.tup h), rfl⟩
  | dct _ _ h _ => exact ⟨_, .base (.dK h), rfl⟩
end
end G1
/-! values of all kinds: how great they are, repr of any of them -/
namespace G1
open PySem PySem.Spec PyProof.Rows L2
/-! ### as the heap goes on -/
def TupOk (w g : Addr) (H : Hp) : Prop := ∀ a xs, H a = some (.tup xs) → a ≠ w ∧ a ≠ g
section
variable {w g : Addr} {H H' : Hp}
mutual
theorem Th.go2 (W : TupOk w g H) (s : Go w g H H') : ∀ {v : V} {d : PyData}, Th w g H v d → Th w g H' v d
  | _, _, .non => .non
  | _, _, .bl b => .bl b
  | _, _, .int i => .int i
  | _, _, .str x => .str x
  | _, _, .lst n1 n2 h t => .lst n1 n2 (s _ _ n1 n2 h) (ThAll.go2 W s t)
  | _, _, .tup h t => .tup (s _ _ (W _ _ h).1 (W _ _ h).2 h) (ThAll.go2 W s t)
  | _, _, .dct n1 n2 h t => .dct n1 n2 (s _ _ n1 n2 h) (ThKv.go2 W s t)
theorem ThAll.go2 (W : TupOk w g H) (s : Go w g H H') : ∀ {vs : List V} {ds : List PyData}, ThAll w g H vs ds → ThAll w g H' vs ds
  | _, _, .nil => .nil
  | _, _, .cons a b => .cons (Th.go2 W s a) (ThAll.go2 W s b)
theorem ThKv.go2 (W : TupOk w g H) (s : Go w g H H') : ∀ {vs : List (Key × V)} {ds : List (PyData × PyData)}, ThKv w g H vs ds → ThKv w g H' vs ds
  | _, _, .nil => .nil
  | _, _, .cons a b => .cons (Th.go2 W s a) (ThKv.go2 W s b)
end
mutual
theorem Th.same2 (s : Same H H') : ∀ {v : V} {d : PyData}, Th w g H v d → Th w g H' v d
  | _, _, .non => .non
  | _, _, .bl b => .bl b
  | _, _, .int i => .int i
  | _, _, .str x => .str x
  | _, _, .lst n1 n2 h t => .lst n1 n2 (s _ _ h) (ThAll.same2 s t)
  | _, _, .tup h t => .tup (s _ _ h) (ThAll.same2 s t)
  | _, _, .dct n1 n2 h t => .dct n1 n2 (s _ _ h) (ThKv.same2 s t)
theorem ThAll.same2 (s : Same H H') : ∀ {vs : List V} {ds : List PyData}, ThAll w g H vs ds → ThAll w g H' vs ds
  | _, _, .nil => .nil
  | _, _, .cons a b => .cons (Th.same2 s a) (ThAll.same2 s b)
theorem ThKv.same2 (s : Same H H') : ∀ {vs : List (Key × V)} {ds : List (PyData × PyData)}, ThKv w g H vs ds → ThKv w g H' vs ds
  | _, _, .nil => .nil
  | _, _, .cons a b => .cons (Th.same2 s a) (ThKv.same2 s b)
end
theorem ThAll.get {vs : List V} {ds : List PyData} (t : ThAll w g H vs ds) : ∀ {i : Nat} {v : V}, vs[i]? = some v → ∃ d, ds[i]? = some d ∧ Th w g H v d := by
  induction vs generalizing ds with
  | nil => intro i v h; simp at h
  | cons a vs ih =>
    cases t with
    | cons x xs =>
      intro i v h
      cases i with
      | zero =>
        obtain rfl := Option.some.inj h
        exact ⟨_, rfl, x⟩
      | succ i => exact ih xs h
theorem ThAll.append {vs us : List V} {ds es : List PyData} (t : ThAll w g H vs ds) (u : ThAll w g H us es) : ThAll w g H (vs ++ us) (ds ++ es) := by
  induction vs generalizing ds with
  | nil => cases t; exact u
  | cons a vs ih => cases t with | cons x xs => exact .cons x (ih xs)
theorem ThAll.take {vs : List V} {ds : List PyData} (t : ThAll w g H vs ds) : ∀ n, ThAll w g H (vs.take n) (ds.take n) := by
  induction vs generalizing ds with
  | nil => intro n; cases t; simp; exact .nil
  | cons a vs ih =>
    intro n
    cases t with
    | cons x xs =>
      cases n with
      | zero => exact .nil
      | succ n => exact .cons x (ih xs n)
theorem ThAll.drop {vs : List V} {ds : List PyData} (t : ThAll w g H vs ds) : ∀ n, ThAll w g H (vs.drop n) (ds.drop n) := by
  induction vs generalizing ds with
  | nil => intro n; cases t; simp; exact .nil
  | cons a vs ih =>
    intro n
    cases t with
    | cons x xs =>
      cases n with
      | zero => exact .cons x xs
      | succ n => exact ih xs n
theorem ThAll.rev {vs : List V} {ds : List PyData} (t : ThAll w g H vs ds) : ThAll w g H vs.reverse ds.reverse := by
  induction vs generalizing ds with
  | nil => cases t; exact .nil
  | cons a vs ih =>
    cases t with
    | cons x xs =>
      rw [List.reverse_cons, List.reverse_cons]
      exact (ih xs).append (.cons x .nil)
end
/-! ### how great they are -/
mutual
def Ok (B : Nat) : PyData → Prop
  | .none | .bool _ => True
  | .int i => i.natAbs ≤ B
  | .str x => ∀ c ∈ x.cps.toList, c < 16 ^ 8
  | .list xs | .tuple xs => OkAll B xs
  | .dict kvs => OkKv B kvs
def OkAll (B : Nat) : List PyData → Prop
  | [] => True
  | x :: xs => Ok B x ∧ OkAll B xs
def OkKv (B : Nat) : List (PyData × PyData) → Prop
  | [] => True
  | (k, v) :: r => Ok B k ∧ Ok B v ∧ OkKv B r
end
mutual
theorem Ok.mono {B C : Nat} (h : B ≤ C) : ∀ {d : PyData}, Ok B d → Ok C d
  | .none, _ => by simp [Ok]
  | .bool _, _ => by simp [Ok]
  | .int i, a => by simp only [Ok] at *; omega
  | .str x, a => by simp only [Ok] at *; exact a
  | .list xs, a => by simp only [Ok] at *; exact OkAll.mono h a
  | .tuple xs, a => by simp only [Ok] at *; exact OkAll.mono h a
  | .dict kvs, a => by simp only [Ok] at *; exact OkKv.mono h a
theorem OkAll.mono {B C : Nat} (h : B ≤ C) : ∀ {d : List PyData}, OkAll B d → OkAll C d
  | [], _ => by simp [OkAll]
  | x :: xs, a => by
    simp only [OkAll] at *
    exact ⟨Ok.mono h a.1, OkAll.mono h a.2⟩
theorem OkKv.mono {B C : Nat} (h : B ≤ C) : ∀ {d : List (PyData × PyData)}, OkKv B d → OkKv C d
  | [], _ => by simp [OkKv]
  | (k, v) :: r, a => by
    simp only [OkKv] at *
    exact ⟨Ok.mono h a.1, Ok.mono h a.2.1, OkKv.mono h a.2.2⟩
end
theorem okAll_iff {B : Nat} : ∀ {ds : List PyData}, OkAll B ds ↔ ∀ d ∈ ds, Ok B d
  | [] => by simp [OkAll]
  | x :: xs => by
    simp only [OkAll, List.mem_cons, forall_eq_or_imp]
    rw [okAll_iff]
theorem ok_tup {B : Nat} {ds : List PyData} : Ok B (.tuple ds) ↔ ∀ d ∈ ds, Ok B d := by simp only [Ok]; exact okAll_iff
theorem ok_lst {B : Nat} {ds : List PyData} : Ok B (.list ds) ↔ ∀ d ∈ ds, Ok B d := by simp only [Ok]; exact okAll_iff
theorem log_of {i : Int} {B : Nat} (h : i.natAbs ≤ B) (hB : B < 10 ^ 38) : i.natAbs.log2 < 1920 := by
  by_cases z : i.natAbs = 0
  · rw [z]; decide
  · exact (Nat.log2_lt z).mpr (Nat.lt_of_le_of_lt h (Nat.lt_trans hB (by decide)))
mutual
theorem Ok.shows {B : Nat} (hB : B < 10 ^ 38) : ∀ {d : PyData}, Ok B d → d.showable = true ∧ d.leavesShort 40 = true
  | .none, _ => ⟨rfl, rfl⟩
  | .bool _, _ => ⟨rfl, rfl⟩
  | .int i, a => by
    simp only [Ok] at a
    refine ⟨by simp only [PyData.showable]; exact decide_eq_true (log_of a hB), ?_⟩
    simp only [PyData.leavesShort]
    refine decide_eq_true ?_
    have := int_text_length_le10 (a := i) (k := 38) (by decide) (by omega)
    show (Str.ofString (toString i)).length ≤ 40
    rw [PySem.ofString_length]
    omega
  | .str x, a => by
    simp only [Ok] at a
    refine ⟨rfl, ?_⟩
    simp only [PyData.leavesShort, List.all_eq_true, decide_eq_true_eq]
    exact a
  | .list xs, a => by
    simp only [Ok] at a
    simp only [PyData.showable, PyData.leavesShort]
    exact OkAll.shows hB a
  | .tuple xs, a => by
    simp only [Ok] at a
    simp only [PyData.showable, PyData.leavesShort]
    exact OkAll.shows hB a
  | .dict kvs, a => by
    simp only [Ok] at a
    simp only [PyData.showable, PyData.leavesShort]
    exact OkKv.shows hB a
theorem OkAll.shows {B : Nat} (hB : B < 10 ^ 38) : ∀ {d : List PyData}, OkAll B d → PyData.showableAll d = true ∧ PyData.leavesShortAll 40 d = true
  | [], _ => ⟨rfl, rfl⟩
  | x :: xs, a => by
    simp only [OkAll] at a
    obtain ⟨h1, h2⟩ := Ok.shows hB a.1
    obtain ⟨h3, h4⟩ := OkAll.shows hB a.2
    simp only [PyData.showableAll, PyData.leavesShortAll, h1, h2, h3, h4, Bool.and_self, and_self]
theorem OkKv.shows {B : Nat} (hB : B < 10 ^ 38) : ∀ {d : List (PyData × PyData)}, OkKv B d → PyData.showableKv d = true ∧ PyData.leavesShortKv 40 d = true
  | [], _ => ⟨rfl, rfl⟩
  | (k, v) :: r, a => by
    simp only [OkKv] at a
    obtain ⟨h1, h2⟩ := Ok.shows hB a.1
    obtain ⟨h3, h4⟩ := Ok.shows hB a.2.1
    obtain ⟨h5, h6⟩ := OkKv.shows hB a.2.2
    simp only [PyData.showableKv, PyData.leavesShortKv, h1, h2, h3, h4, h5, h6, Bool.and_self, and_self]
end
/-! ### weights and depths of items put together -/
theorem weight_app : ∀ (a b : List PyData), PyData.weightAll (a ++ b) = PyData.weightAll a + PyData.weightAll b
  | [], b => by simp [PyData.weightAll]
  | x :: a, b => by
    simp only [List.cons_append, PyData.weightAll, weight_app a b]
    omega
theorem weight_take (a : List PyData) (n : Nat) : PyData.weightAll (a.take n) + PyData.weightAll (a.drop n) = PyData.weightAll a := by
  rw [← weight_app, List.take_append_drop]
theorem weight_rev : ∀ a : List PyData, PyData.weightAll a.reverse = PyData.weightAll a
  | [] => rfl
  | x :: a => by
    rw [List.reverse_cons, weight_app, weight_rev a]
    simp only [PyData.weightAll]
    omega
theorem weight_one (x : PyData) : PyData.weightAll [x] = x.weight + 1 := by simp [PyData.weightAll]
theorem depth_all_le {n : Nat} : ∀ {a : List PyData}, PyData.depthAll a ≤ n ↔ ∀ d ∈ a, d.depth ≤ n
  | [] => by simp [PyData.depthAll]
  | x :: a => by
    simp only [PyData.depthAll, List.mem_cons, forall_eq_or_imp]
    rw [← depth_all_le (a := a)]
    omega
/-! ### repr of any value -/
def rReprT (K : PySem.W.Frag) : List V → Hp → VK → Prop := fun xs H Q => ∃ (v : V) (d : PyData), xs = [v] ∧ DpD K H v d ∧ d.showable = true ∧ d.depth ≤ 60 ∧ d.shown.length ≤ sizeLine ∧ Q (.str d.shown) H
section
variable {X : Cx}
theorem call_reprT (hb : HasSys X.base) (hgd : X.A.guards = some []) (hu : X.A.units + 64 < cLine) : CallR X (.builtin "repr") (rReprT X.K) := by
  intro pins s σ H xs us Q I r h
  obtain ⟨v, d, rfl, hd, hs, hdp, hz, q⟩ := h
  cases hd with
  | non =>
    obtain ⟨u, rfl, ru⟩ := vals1 r
    obtain rfl : u = Value.none := ru
    exact PySem.P.repr_of_none ⟨.str _, H, I.tok _, ⟨_, rfl⟩, q⟩
  | bl b =>
    obtain ⟨u, rfl, ru⟩ := vals1 r
    obtain rfl : u = Value.bool b := ru
    refine PySem.P.repr_of_bool ⟨.str _, H, I.tok _, ⟨_, rfl⟩, ?_⟩
    cases b <;> exact q
  | int i =>
    obtain ⟨u, rfl, ru⟩ := vals1 r
    obtain ⟨t, rfl⟩ := ru
    have hi : i.natAbs.log2 < 1920 := by simpa only [PyData.showable, decide_eq_true_eq] using hs
    exact PySem.P.repr_of_int hi ⟨.str _, H, I.tok _, ⟨_, rfl⟩, q⟩
  | str x =>
    obtain ⟨u, rfl, ru⟩ := vals1 r
    obtain ⟨t, rfl⟩ := ru
    exact PySem.P.repr_of_str ⟨.str _, H, I.tok _, ⟨_, rfl⟩, q⟩ hz
  | lst h1 h2 => exact call_reprDD hb hgd hu pins s σ H _ us Q I r ⟨_, _, rfl, .lst h1 h2, hs, hdp, hz, q⟩
  | tup h1 h2 => exact call_reprDD hb hgd hu pins s σ H _ us Q I r ⟨_, _, rfl, .tup h1 h2, hs, hdp, hz, q⟩
  | dct h1 h2 => exact call_reprDD hb hgd hu pins s σ H _ us Q I r ⟨_, _, rfl, .dct h1 h2, hs, hdp, hz, q⟩
end
/-- repr of a value that is not too great -/
theorem repr_val {K : PySem.W.Frag} {H : Hp} {R : PyData → Prop} {v : V} {d : PyData} {B : Nat} (hd : DpD K H v d) (ok : Ok B d) (hB : B < 10 ^ 38) (hw : d.weight ≤ 300000) (hdp : d.depth ≤ 60) (q : R d) :
    ∃ (v' : V) (d' : PyData), [v] = [v'] ∧ DpD K H v' d' ∧ d'.showable = true ∧ d'.depth ≤ 60 ∧ d'.shown.length ≤ sizeLine ∧ R d' := by
  obtain ⟨h1, h2⟩ := ok.shows hB
  have s := PyData.shown_le 40 (by decide) d h2
  exact ⟨v, d, rfl, hd, h1, hdp, Nat.le_trans s (Nat.le_trans (by omega : _ ≤ 42 * 300000 + 40) (by decide)), q⟩
/-! ### kinds -/
def isIntD : PyData → Bool
  | .int _ | .bool _ => true
  | _ => false
def isBoolD : PyData → Bool
  | .bool _ => true
  | _ => false
section
variable {w g : Addr} {H : Hp}
theorem Th.isInt {K : PySem.W.Frag} {v : V} {d : PyData} (t : Th w g H v d) : ∃ ty, TyX K H v ty ∧ PySem.W.kitOne K ty (.type "int") = some (isIntD d) := by
  cases t with
  | non => exact ⟨_, .base .non, rfl⟩
  | bl b => exact ⟨_, .base (.bl b), rfl⟩
  | int i => exact ⟨_, .base (.int i), rfl⟩
  | str x => exact ⟨_, .base (.str x), rfl⟩
  | lst _ _ h _ => exact ⟨_, .base (.lst h), rfl⟩
  | tup h _ => exact ⟨_, .base (.tup h), rfl⟩
  | dct _ _ h _ => exact ⟨_, .base (.dK h), rfl⟩
theorem Th.isBool {K : PySem.W.Frag} {v : V} {d : PyData} (t : Th w g H v d) : ∃ ty, TyX K H v ty ∧ PySem.W.kitOne K ty (.type "bool") = some (isBoolD d) := by
  cases t with
  | non => exact ⟨_, .base .non, rfl⟩
  | bl b => exact ⟨_, .base (.bl b), rfl⟩
  | int i => exact ⟨_, .base (.int i), rfl⟩
  | str x => exact ⟨_, .base (.str x), rfl⟩
  | lst _ _ h _ => exact ⟨_, .base (.lst h), rfl⟩
  | tup h _ => exact ⟨_, .base (.tup h), rfl⟩
  | dct _ _ h _ => exact ⟨_, .base (.dK h), rfl⟩
end
end G1
/-! truths among the numbers; how great data are that are put together; things laid one after another -/
namespace G1
open PySem PySem.Spec PyProof.Rows L2
section
variable {X : Cx}
theorem op_addX : OpR X (binaryOp .Add) (fun x y H Q => (∃ i j, x = .int i ∧ y = .int j ∧ Q (.int (i + j)) H) ∨ ∃ b j, x = .bl b ∧ y = .int j ∧ Q (.int ((if b = true then (1 : Int) else 0) + j)) H) := by
  intro pins s σ H x y v u Q I rx ry h
  rcases h with ⟨i, j, rfl, rfl, q⟩ | ⟨b, j, rfl, rfl, q⟩
  · obtain ⟨t, rfl⟩ := rx
    obtain ⟨t', rfl⟩ := ry
    exact add_int ⟨.int _, H, I.tok _, ⟨_, rfl⟩, q⟩
  · cases rx
    obtain ⟨t', rfl⟩ := ry
    exact PySem.IntBool.add_bool_int ⟨.int _, H, I.tok _, ⟨_, rfl⟩, q⟩
theorem op_subX : OpR X (binaryOp .Sub) (fun x y H Q => (∃ i j, x = .int i ∧ y = .int j ∧ Q (.int (i - j)) H) ∨ (∃ b j, x = .bl b ∧ y = .int j ∧ Q (.int ((if b = true then (1 : Int) else 0) - j)) H) ∨
    ∃ i b, x = .int i ∧ y = .bl b ∧ Q (.int (i - if b = true then (1 : Int) else 0)) H) := by
  intro pins s σ H x y v u Q I rx ry h
  rcases h with ⟨i, j, rfl, rfl, q⟩ | ⟨b, j, rfl, rfl, q⟩ | ⟨i, b, rfl, rfl, q⟩
  · obtain ⟨t, rfl⟩ := rx
    obtain ⟨t', rfl⟩ := ry
    exact sub_int ⟨.int _, H, I.tok _, ⟨_, rfl⟩, q⟩
  · cases rx
    obtain ⟨t', rfl⟩ := ry
    exact PySem.IntBool.sub_bool_int ⟨.int _, H, I.tok _, ⟨_, rfl⟩, q⟩
  · obtain ⟨t, rfl⟩ := rx
    cases ry
    exact PySem.IntBool.sub_int_bool ⟨.int _, H, I.tok _, ⟨_, rfl⟩, q⟩
theorem call_strX : CallR X (.type "str") (fun xs H Q => (∃ i, xs = [.int i] ∧ i.natAbs.log2 < 1920 ∧ Q (.str (toString i)) H) ∨ ∃ b, xs = [.bl b] ∧ Q (.str (if b then "True" else "False")) H) := by
  intro pins s σ H xs us Q I r h
  rcases h with ⟨i, rfl, hz, q⟩ | ⟨b, rfl, q⟩
  · obtain ⟨u, rfl, t, rfl⟩ := vals1 r
    exact PySem.P.str_of_int hz ⟨.str _, H, I.tok _, ⟨_, rfl⟩, q⟩
  · obtain ⟨u, rfl, r1⟩ := vals1 r
    cases r1
    exact PySem.P.str_of_bool ⟨.str _, H, I.tok _, ⟨_, rfl⟩, q⟩
end
/-! ### how great -/
def cutD (ds : List PyData) (lo hi : Option Int) : List PyData := (ds.drop (HT.sIx ds.length 0 lo)).take (HT.sIx ds.length ds.length hi - HT.sIx ds.length 0 lo)
theorem ThAll.cut {w g : Addr} {H : Hp} {xs : List V} {ds : List PyData} (t : ThAll w g H xs ds) (lo hi : Option Int) : ThAll w g H (cutV xs lo hi) (cutD ds lo hi) := by
  unfold cutV cutD
  rw [t.length]
  exact (t.drop _).take _
structure Bd (B W D : Nat) (d : PyData) : Prop where
  ok : Ok B d
  wt : d.weight ≤ W
  dp : d.depth ≤ D
structure BdL (B W D : Nat) (ds : List PyData) : Prop where
  ok : ∀ d ∈ ds, Ok B d
  wt : PyData.weightAll ds ≤ W
  dp : ∀ d ∈ ds, d.depth ≤ D
section
variable {B W D B' W' D' : Nat} {d : PyData} {ds es : List PyData}
theorem Bd.mono (x : Bd B W D d) (h1 : B ≤ B') (h2 : W ≤ W') (h3 : D ≤ D') : Bd B' W' D' d := ⟨x.ok.mono h1, Nat.le_trans x.wt h2, Nat.le_trans x.dp h3⟩
theorem BdL.mono (x : BdL B W D ds) (h1 : B ≤ B') (h2 : W ≤ W') (h3 : D ≤ D') : BdL B' W' D' ds := ⟨fun d h => (x.ok d h).mono h1, Nat.le_trans x.wt h2, fun d h => Nat.le_trans (x.dp d h) h3⟩
theorem BdL.tup (x : BdL B W D ds) : Bd B W (D + 1) (.tuple ds) := ⟨ok_tup.mpr x.ok, by simpa [PyData.weight] using x.wt, by simp only [PyData.depth]; have := depth_all_le.mpr x.dp; omega⟩
theorem BdL.lst (x : BdL B W D ds) : Bd B W (D + 1) (.list ds) := ⟨ok_lst.mpr x.ok, by simpa [PyData.weight] using x.wt, by simp only [PyData.depth]; have := depth_all_le.mpr x.dp; omega⟩
theorem Bd.un (x : Bd B W D (.tuple ds)) : 1 ≤ D ∧ BdL B W (D - 1) ds := by
  obtain ⟨h1, h2, h3⟩ := x
  simp only [PyData.weight] at h2
  simp only [PyData.depth] at h3
  exact ⟨by omega, ok_tup.mp h1, h2, depth_all_le.mp (by omega)⟩
theorem wt_drop (ds : List PyData) (n : Nat) : PyData.weightAll (ds.drop n) ≤ PyData.weightAll ds := by have := weight_take ds n; omega
theorem wt_take (ds : List PyData) (n : Nat) : PyData.weightAll (ds.take n) ≤ PyData.weightAll ds := by have := weight_take ds n; omega
theorem BdL.cut (x : BdL B W D ds) (lo hi : Option Int) : BdL B W D (cutD ds lo hi) := by
  unfold cutD
  exact ⟨fun d h => x.ok d (List.mem_of_mem_drop (List.mem_of_mem_take h)), Nat.le_trans (wt_take _ _) (Nat.le_trans (wt_drop _ _) x.wt), fun d h => x.dp d (List.mem_of_mem_drop (List.mem_of_mem_take h))⟩
theorem BdL.app (x : BdL B W D ds) (y : BdL B W' D es) : BdL B (W + W') D (ds ++ es) := by
  refine ⟨fun d h => (List.mem_append.mp h).elim (x.ok d) (y.ok d), ?_, fun d h => (List.mem_append.mp h).elim (x.dp d) (y.dp d)⟩
  rw [weight_app]
  have := x.wt
  have := y.wt
  omega
theorem BdL.one (x : Bd B W D d) : BdL B (W + 1) D [d] := by
  refine ⟨fun e h => ?_, ?_, fun e h => ?_⟩
  · rw [List.mem_singleton] at h
    exact h ▸ x.ok
  · rw [weight_one]
    have := x.wt
    omega
  · rw [List.mem_singleton] at h
    exact h ▸ x.dp
theorem BdL.rev (x : BdL B W D ds) : BdL B W D ds.reverse := ⟨fun d h => x.ok d (List.mem_reverse.mp h), by rw [weight_rev]; exact x.wt, fun d h => x.dp d (List.mem_reverse.mp h)⟩
theorem wt_mem : ∀ {ds : List PyData}, d ∈ ds → d.weight + 1 ≤ PyData.weightAll ds
  | [], h => by cases h
  | e :: ds, h => by
    simp only [PyData.weightAll]
    rcases List.mem_cons.mp h with rfl | h
    · omega
    · have := wt_mem h
      omega
theorem wt_len : ∀ ds : List PyData, ds.length ≤ PyData.weightAll ds
  | [] => Nat.zero_le _
  | e :: ds => by
    simp only [PyData.weightAll, List.length_cons]
    have := wt_len ds
    omega
theorem BdL.mem (x : BdL B W D ds) (h : d ∈ ds) : Bd B W D d := ⟨x.ok d h, by have := wt_mem h; have := x.wt; omega, x.dp d h⟩
theorem BdL.len (x : BdL B W D ds) : ds.length ≤ W := Nat.le_trans (wt_len ds) x.wt
theorem log_wt {i : Int} {k : Nat} (h : i.natAbs < 2 ^ k) : PyData.weight (.int i) ≤ k := by
  show (if i == 0 then 0 else i.natAbs.log2 + 1) ≤ k
  split
  · omega
  · have z : i.natAbs ≠ 0 := fun e => by
      rename_i hz
      exact hz (by rw [Int.natAbs_eq_zero.mp e]; rfl)
    have := (Nat.log2_lt z).mpr h
    omega
theorem bd_int {i : Int} (h : i.natAbs ≤ B) (hB : B < 10 ^ 38) : Bd B 127 0 (.int i) := ⟨by simp only [Ok]; exact h, log_wt (Nat.lt_of_le_of_lt h (Nat.lt_trans hB (by decide))), by simp [PyData.depth]⟩
theorem bd_bl (b : Bool) : Bd B 0 0 (.bool b) := ⟨by simp [Ok], by simp [PyData.weight], by simp [PyData.depth]⟩
theorem bd_non : Bd B 0 0 .none := ⟨by simp [Ok], by simp [PyData.weight], by simp [PyData.depth]⟩
theorem cps_small (s : String) : ∀ c ∈ (Str.ofString s).cps.toList, c < 16 ^ 8 := by
  intro c hc
  rw [Str.ofString_eq_toList] at hc
  obtain ⟨x, _, rfl⟩ := List.mem_map.mp hc
  have h := x.valid
  have : x.toNat < 0x110000 := by
    rcases h with h | ⟨_, h⟩
    · exact Nat.lt_trans h (by decide)
    · exact h
  exact Nat.lt_trans this (by decide)
theorem bd_str (s : String) (h : (Str.ofString s).length ≤ W) : Bd B W 0 (.str (Str.ofString s)) := ⟨by simp only [Ok]; exact cps_small s, h, by simp [PyData.depth]⟩
end
/-! ### things laid one after another -/
section
variable {m : Str} {w g c p : Addr} {H0 H H' : Hp} {vs us : List V} {ds es : List PyData}
theorem DkC.tups (W : DkC m w g c H) : TupOk w g H := fun a xs h => ⟨(W.tup h).nw, (W.tup h).ng⟩
theorem ThAll.hd {v : V} {d : PyData} (t : ThAll w g H (v :: vs) (d :: ds)) : Th w g H v d := by cases t; assumption
theorem ThAll.tl {v : V} {d : PyData} (t : ThAll w g H (v :: vs) (d :: ds)) : ThAll w g H vs ds := by cases t; assumption
/-- the state of a def that lays things: since H0 nothing but the deck has changed, the deck stands, vs are things -/
structure Ly (m : Str) (w g c : Addr) (H0 H : Hp) (vs : List V) (ds : List PyData) : Prop where
  go : Go w g H0 H
  dk : DkC m w g c H
  th : ThAll w g H vs ds
theorem Ly.nil (W : DkC m w g c H) : Ly m w g c H H [] [] := ⟨fun _ _ _ _ e => e, W, .nil⟩
theorem Ly.same (y : Ly m w g c H0 H vs ds) (s : Same H H') : Ly m w g c H0 H' vs ds := ⟨y.go.trans (Go.of s), y.dk.same s, y.th.same2 s⟩
theorem Ly.goes (y : Ly m w g c H0 H vs ds) (s : Go w g H H') (W : DkC m w g c H') : Ly m w g c H0 H' vs ds := ⟨y.go.trans s, W, y.th.go2 y.dk.tups s⟩
theorem Ly.more {v : V} {d : PyData} (y : Ly m w g c H0 H vs ds) (t : Th w g H v d) : Ly m w g c H0 H (v :: vs) (d :: ds) := ⟨y.go, y.dk, .cons t y.th⟩
theorem Ly.addAll (y : Ly m w g c H0 H vs ds) (t : ThAll w g H us es) : Ly m w g c H0 H (us ++ vs) (es ++ ds) := ⟨y.go, y.dk, t.append y.th⟩
/-- a new tuple -/
theorem Ly.newT {ts : List V} {ks : List PyData} (y : Ly m w g c H0 H vs ds) (np : H p = none) (hU : upd H p (.tup ts) = H') (t : ThAll w g H ts ks) : Ly m w g c H0 H' (.ref p :: vs) (.tuple ks :: ds) := by
  obtain ⟨s, W, a⟩ := new_ofC y.dk np hU
  exact ⟨y.go.trans (Go.of s), W, .cons (.tup a.at_ (t.same2 s)) (y.th.same2 s)⟩
/-- a new list -/
theorem Ly.newL {ts : List V} {ks : List PyData} (y : Ly m w g c H0 H vs ds) (np : H p = none) (hU : upd H p (.lst ts) = H') (t : ThAll w g H ts ks) : Ly m w g c H0 H' (.ref p :: vs) (.list ks :: ds) := by
  obtain ⟨s, W, a⟩ := new_ofC y.dk np hU
  exact ⟨y.go.trans (Go.of s), W, .cons (.lst a.nw a.ng a.at_ (t.same2 s)) (y.th.same2 s)⟩
/-- a new list of things that is no thing to keep: apart from the deck -/
theorem Ly.newA {ts : List V} (y : Ly m w g c H0 H vs ds) (np : H p = none) (hU : upd H p (.lst ts) = H') : Ly m w g c H0 H' vs ds ∧ Ac w g c H' p (.lst ts) := by
  obtain ⟨s, W, a⟩ := new_ofC y.dk np hU
  exact ⟨⟨y.go.trans (Go.of s), W, y.th.same2 s⟩, a⟩
theorem Ly.newD {kvs : List (Key × V)} {ks : List (PyData × PyData)} (y : Ly m w g c H0 H vs ds) (np : H p = none) (hU : upd H p (.dK kvs) = H') (t : ThKv w g H kvs ks) : Ly m w g c H0 H' (.ref p :: vs) (.dict ks :: ds) := by
  obtain ⟨s, W, a⟩ := new_ofC y.dk np hU
  exact ⟨y.go.trans (Go.of s), W, .cons (.dct a.nw a.ng a.at_ (ThKv.same2 s t)) (y.th.same2 s)⟩
/-- a tuple that stands there -/
theorem Ly.oldT {ts : List V} {ks : List PyData} (y : Ly m w g c H0 H vs ds) (hp : H p = some (.tup ts)) (t : ThAll w g H ts ks) : Ly m w g c H0 H (.ref p :: vs) (.tuple ks :: ds) := y.more (.tup hp t)
end
end G1
/-! things laid one after another beside a deck of any make: each with how great it is at most -/
namespace G1
open PySem PySem.Spec PyProof.Rows L2
/-- what a deck at w, g, c must be -/
structure Dok (D : Hp → Prop) (w g c : Addr) : Prop where
  same : ∀ {H H' : Hp}, D H → Same H H' → D H'
  fresh : ∀ {H : Hp} {p : Addr}, D H → H p = none → p ≠ w ∧ p ≠ g ∧ p ≠ c
  tup : ∀ {H : Hp} {a : Addr} {xs : List V}, D H → H a = some (.tup xs) → a ≠ w ∧ a ≠ g ∧ a ≠ c
  upd : ∀ {H : Hp} {p : Addr} {o : HO}, D H → p ≠ w → p ≠ g → p ≠ c → D (upd H p o)
theorem dok_dkC {m : Str} {w g c : Addr} : Dok (DkC m w g c) w g c :=
  ⟨fun D s => D.same s, fun D h => D.fresh h, fun D h => ⟨(D.tup h).nw, (D.tup h).ng, (D.tup h).nc⟩, fun D h1 h2 h3 => D.upd h1 h2 h3⟩
/-- a thing that is not too great -/
def Bt (B W D : Nat) (w g : Addr) (H : Hp) (v : V) : Prop := ∃ d, Th w g H v d ∧ Bd B W D d
def BtL (B W D : Nat) (w g : Addr) (H : Hp) (vs : List V) : Prop := ∃ ds, ThAll w g H vs ds ∧ BdL B W D ds
section
variable {B W D B' W' D' W1 W2 D1 D2 : Nat} {w g : Addr} {H H' : Hp} {v : V} {vs us : List V}
theorem Bt.non : Bt B 0 0 w g H .non := ⟨_, .non, bd_non⟩
theorem Bt.bl (b : Bool) : Bt B 0 0 w g H (.bl b) := ⟨_, .bl b, bd_bl b⟩
theorem Bt.int {i : Int} (h : i.natAbs ≤ B) (hB : B < 10 ^ 38) : Bt B 127 0 w g H (.int i) := ⟨_, .int i, bd_int h hB⟩
theorem Bt.str (s : String) (h : (Str.ofString s).length ≤ 20) : Bt B 20 0 w g H (.str (Str.ofString s)) := ⟨_, .str _, bd_str s h⟩
theorem repN_len (l : List Nat) : ∀ n, (repN n l).length = n * l.length
  | 0 => by simp [repN]
  | n + 1 => by
    show (l ++ repN n l).length = _
    rw [List.length_append, repN_len l n, Nat.succ_mul]
    omega
theorem repN_mem {l : List Nat} {c : Nat} : ∀ {n}, c ∈ repN n l → c ∈ l
  | 0, h => by simp [repN] at h
  | n + 1, h => by
    have h' : c ∈ l ++ repN n l := h
    rcases List.mem_append.mp h' with q | q
    · exact q
    · exact repN_mem q
theorem Bt.code {l : List Nat} (h : l.length ≤ W) (hc : ∀ k ∈ l, k < 16 ^ 8) : Bt B W 0 w g H (.str (C l)) :=
  ⟨_, .str _, by simp only [Ok]; exact hc, by rw [show PyData.weight (.str (C l)) = (C l).length from rfl, C_len]; exact h, by simp [PyData.depth]⟩
/-- the same sign again and again -/
theorem Bt.mulC {l : List Nat} {n : Nat} (hl : l.length ≤ 2) (hc : ∀ k ∈ l, k < 16 ^ 8) : Bt B (n * 2) 0 w g H (.str (Txt.mul (C l) (n : Int))) := by
  rw [C_mul l (by omega), Int.toNat_natCast]
  refine Bt.code ?_ fun k hk => hc k (repN_mem hk)
  rw [repN_len]
  exact Nat.mul_le_mul_left n hl
theorem Bt.rep {l : List Nat} {n : Int} (hl : l.length ≤ 2) (hc : ∀ k ∈ l, k < 16 ^ 8) : Bt B (n.toNat * 2) 0 w g H (.str (C (repN n.toNat l))) := by
  refine Bt.code ?_ fun k hk => hc k (repN_mem hk)
  rw [repN_len]
  exact Nat.mul_le_mul_left _ hl
theorem Bt.mono (x : Bt B W D w g H v) (h1 : B ≤ B') (h2 : W ≤ W') (h3 : D ≤ D') : Bt B' W' D' w g H v := by
  obtain ⟨d, t, b⟩ := x
  exact ⟨d, t, b.mono h1 h2 h3⟩
theorem BtL.mono (x : BtL B W D w g H vs) (h1 : B ≤ B') (h2 : W ≤ W') (h3 : D ≤ D') : BtL B' W' D' w g H vs := by
  obtain ⟨d, t, b⟩ := x
  exact ⟨d, t, b.mono h1 h2 h3⟩
theorem BtL.nil : BtL B 0 0 w g H [] := ⟨[], .nil, ⟨fun _ h => (by cases h), Nat.le_refl _, fun _ h => (by cases h)⟩⟩
theorem BtL.cons (x : Bt B W1 D1 w g H v) (y : BtL B W2 D2 w g H vs) : BtL B (W1 + 1 + W2) (max D1 D2) w g H (v :: vs) := by
  obtain ⟨d, t, b⟩ := x
  obtain ⟨ds, ts, bs⟩ := y
  exact ⟨d :: ds, .cons t ts, (BdL.one (b.mono (Nat.le_refl _) (Nat.le_refl _) (Nat.le_max_left D1 D2))).app (bs.mono (Nat.le_refl _) (Nat.le_refl _) (Nat.le_max_right D1 D2))⟩
theorem BtL.app (x : BtL B W1 D1 w g H vs) (y : BtL B W2 D2 w g H us) : BtL B (W1 + W2) (max D1 D2) w g H (vs ++ us) := by
  obtain ⟨ds, t, b⟩ := x
  obtain ⟨es, ts, bs⟩ := y
  exact ⟨ds ++ es, t.append ts, (b.mono (Nat.le_refl _) (Nat.le_refl _) (Nat.le_max_left D1 D2)).app (bs.mono (Nat.le_refl _) (Nat.le_refl _) (Nat.le_max_right D1 D2))⟩
theorem BtL.mem (x : BtL B W D w g H vs) (h : v ∈ vs) : Bt B W D w g H v := by
  obtain ⟨ds, t, b⟩ := x
  obtain ⟨d, hd, td⟩ := t.mem h
  exact ⟨d, td, b.mem hd⟩
theorem BtL.cut (x : BtL B W D w g H vs) (lo hi : Option Int) : BtL B W D w g H (cutV vs lo hi) := by
  obtain ⟨ds, t, b⟩ := x
  exact ⟨_, t.cut lo hi, b.cut lo hi⟩
theorem BtL.rev (x : BtL B W D w g H vs) : BtL B W D w g H vs.reverse := by
  obtain ⟨ds, t, b⟩ := x
  exact ⟨_, t.rev, b.rev⟩
theorem BtL.len (x : BtL B W D w g H vs) : vs.length ≤ W := by
  obtain ⟨ds, t, b⟩ := x
  rw [t.length]
  exact b.len
theorem BtL.tup {a : Addr} (x : BtL B W D w g H vs) (h : H a = some (.tup vs)) : Bt B W (D + 1) w g H (.ref a) := by
  obtain ⟨ds, t, b⟩ := x
  exact ⟨_, .tup h t, b.tup⟩
theorem BtL.lst {a : Addr} (x : BtL B W D w g H vs) (h : H a = some (.lst vs)) (n1 : a ≠ w) (n2 : a ≠ g) : Bt B W (D + 1) w g H (.ref a) := by
  obtain ⟨ds, t, b⟩ := x
  exact ⟨_, .lst n1 n2 h t, b.lst⟩
theorem Bt.go (x : Bt B W D w g H v) (T : TupOk w g H) (s : Go w g H H') : Bt B W D w g H' v := by
  obtain ⟨d, t, b⟩ := x
  exact ⟨d, t.go2 T s, b⟩
theorem BtL.go (x : BtL B W D w g H vs) (T : TupOk w g H) (s : Go w g H H') : BtL B W D w g H' vs := by
  obtain ⟨d, t, b⟩ := x
  exact ⟨d, t.go2 T s, b⟩
/-- n times the same things -/
theorem BtL.rep (x : BtL B W D w g H vs) : ∀ n : Nat, BtL B (n * W) D w g H (List.flatten (List.replicate n vs))
  | 0 => by simpa using BtL.nil.mono (Nat.le_refl _) (Nat.le_refl _) (Nat.zero_le D)
  | n + 1 => by
    have := x.app (BtL.rep x n)
    rw [List.replicate_succ, List.flatten_cons]
    exact this.mono (Nat.le_refl _) (by rw [Nat.succ_mul]; omega) (by omega)
theorem BtL.snoc (x : BtL B W1 D w g H vs) (y : Bt B W2 D w g H v) : BtL B (W1 + (W2 + 1)) D w g H (vs ++ [v]) :=
  (x.app (BtL.cons y BtL.nil)).mono (Nat.le_refl _) (by omega) (by omega)
end
/-- what has been laid: a thing; a list; a tuple -/
inductive En
  | th (v : V) (W D : Nat)
  | ls (a : Addr) (xs : List V) (W D : Nat)
  | tp (a : Addr) (xs : List V) (W D : Nat)
def En.ok (B : Nat) (w g c : Addr) (H : Hp) : En → Prop
  | .th v W D => Bt B W D w g H v
  | .ls a xs W D => Ac w g c H a (.lst xs) ∧ BtL B W D w g H xs
  | .tp a xs W D => H a = some (.tup xs) ∧ BtL B W D w g H xs
/-- since H0 nothing but the deck has changed, the deck stands, and what is laid stands -/
structure Lz (D : Hp → Prop) (B : Nat) (w g c : Addr) (H0 H : Hp) (es : List En) : Prop where
  ok : Dok D w g c
  go : Go w g H0 H
  dk : D H
  th : ∀ e ∈ es, En.ok B w g c H e
section
variable {D : Hp → Prop} {B W Dp : Nat} {w g c p a : Addr} {H0 H H' : Hp} {es : List En} {e : En} {v : V} {xs : List V}
theorem Lz.tups (y : Lz D B w g c H0 H es) : TupOk w g H := fun a xs h => ⟨(y.ok.tup y.dk h).1, (y.ok.tup y.dk h).2.1⟩
theorem En.ok.go {x : En} (h : En.ok B w g c H x) (T : TupOk w g H) (s : Go w g H H') : En.ok B w g c H' x := by
  cases x with
  | th v W D => exact Bt.go h T s
  | ls a xs W D => exact ⟨h.1.go s, h.2.go T s⟩
  | tp a xs W D => exact ⟨s _ _ (T _ _ h.1).1 (T _ _ h.1).2 h.1, h.2.go T s⟩
theorem Lz.nil (o : Dok D w g c) (h : D H) : Lz D B w g c H H [] := ⟨o, fun _ _ _ _ e => e, h, fun _ h => by cases h⟩
theorem Lz.goes (y : Lz D B w g c H0 H es) (s : Go w g H H') (h : D H') : Lz D B w g c H0 H' es :=
  ⟨y.ok, y.go.trans s, h, fun e he => (y.th e he).go y.tups s⟩
theorem Lz.same (y : Lz D B w g c H0 H es) (s : Same H H') : Lz D B w g c H0 H' es := y.goes (Go.of s) (y.ok.same y.dk s)
theorem Lz.add (y : Lz D B w g c H0 H es) (h : En.ok B w g c H e) : Lz D B w g c H0 H (e :: es) :=
  ⟨y.ok, y.go, y.dk, fun x hx => by
    rcases List.mem_cons.mp hx with q | q
    · subst q; exact h
    · exact y.th x q⟩
theorem Lz.addT (y : Lz D B w g c H0 H es) (h : Bt B W Dp w g H v) : Lz D B w g c H0 H (.th v W Dp :: es) := y.add h
theorem Lz.drop (y : Lz D B w g c H0 H (e :: es)) : Lz D B w g c H0 H es := ⟨y.ok, y.go, y.dk, fun x hx => y.th x (List.mem_cons_of_mem _ hx)⟩
theorem Lz.wipe (y : Lz D B w g c H0 H es) : Lz D B w g c H0 H [] := ⟨y.ok, y.go, y.dk, fun _ h => by cases h⟩
theorem Lz.again (y : Lz D B w g c H0 H es) : Lz D B w g c H H es := ⟨y.ok, fun _ _ _ _ e => e, y.dk, y.th⟩
theorem Lz.new (y : Lz D B w g c H0 H es) {o : HO} (np : H p = none) (hU : upd H p o = H') : Same H H' ∧ Lz D B w g c H0 H' es ∧ Ac w g c H' p o := by
  subst hU
  have f := y.ok.fresh y.dk np
  exact ⟨same_new np, y.same (same_new np), f.1, f.2.1, f.2.2, upd_same⟩
theorem Lz.newT (y : Lz D B w g c H0 H es) (np : H p = none) (hU : upd H p (.tup xs) = H') (t : BtL B W Dp w g H xs) : Lz D B w g c H0 H' (.tp p xs W Dp :: es) := by
  obtain ⟨s, y', a⟩ := y.new np hU
  exact y'.add ⟨a.at_, t.go y.tups (Go.of s)⟩
theorem Lz.newL (y : Lz D B w g c H0 H es) (np : H p = none) (hU : upd H p (.lst xs) = H') (t : BtL B W Dp w g H xs) : Lz D B w g c H0 H' (.ls p xs W Dp :: es) := by
  obtain ⟨s, y', a⟩ := y.new np hU
  exact y'.add ⟨a, t.go y.tups (Go.of s)⟩
theorem upd_twice {H : Hp} {p : Addr} {a b : HO} : upd (upd H p a) p b = upd H p b := by
  funext x
  by_cases e : x = p
  · rw [e, upd_same, upd_same]
  · rw [upd_ne e, upd_ne e, upd_ne e]
/-- a dict with nothing in it -/
theorem Lz.newD0 (y : Lz D B w g c H0 H es) (np : H p = none) (hU : upd H p (.dK []) = H') : Lz D B w g c H0 H' (.th (.ref p) 0 1 :: es) := by
  obtain ⟨s, y', a⟩ := y.new np hU
  exact y'.addT ⟨.dict [], .dct a.nw a.ng a.at_ .nil, ⟨by simp [Ok, OkKv], by decide, by decide⟩⟩
theorem Lz.get_tp (y : Lz D B w g c H0 H es) (h : .tp a xs W Dp ∈ es) : Bt B W (Dp + 1) w g H (.ref a) := (y.th _ h).2.tup (y.th _ h).1
theorem Lz.get_ls (y : Lz D B w g c H0 H es) (h : .ls a xs W Dp ∈ es) : Bt B W (Dp + 1) w g H (.ref a) := (y.th _ h).2.lst (y.th _ h).1.at_ (y.th _ h).1.nw (y.th _ h).1.ng
theorem Lz.get_th (y : Lz D B w g c H0 H es) (h : .th v W Dp ∈ es) : Bt B W Dp w g H v := y.th _ h
theorem Lz.ls_at (y : Lz D B w g c H0 H es) (h : .ls a xs W Dp ∈ es) : H a = some (.lst xs) := (y.th _ h).1.at_
theorem Lz.ls_ac (y : Lz D B w g c H0 H es) (h : .ls a xs W Dp ∈ es) : Ac w g c H a (.lst xs) := (y.th _ h).1
theorem Lz.tp_at (y : Lz D B w g c H0 H es) (h : .tp a xs W Dp ∈ es) : H a = some (.tup xs) := (y.th _ h).1
theorem Lz.ls_bt (y : Lz D B w g c H0 H es) (h : .ls a xs W Dp ∈ es) : BtL B W Dp w g H xs := (y.th _ h).2
theorem Lz.tp_bt (y : Lz D B w g c H0 H es) (h : .tp a xs W Dp ∈ es) : BtL B W Dp w g H xs := (y.th _ h).2
theorem Lz.kT {G : Prop} (y : Lz D B w g c H0 H es) (np : H p = none) (hU : upd H p (.tup xs) = H') (t : BtL B W Dp w g H xs) (k : Lz D B w g c H0 H' (.tp p xs W Dp :: es) → G) : G := k (y.newT np hU t)
theorem Lz.kL {G : Prop} (y : Lz D B w g c H0 H es) (np : H p = none) (hU : upd H p (.lst xs) = H') (t : BtL B W Dp w g H xs) (k : Lz D B w g c H0 H' (.ls p xs W Dp :: es) → G) : G := k (y.newL np hU t)
theorem Lz.kD0 {G : Prop} (y : Lz D B w g c H0 H es) (np : H p = none) (hU : upd H p (.dK []) = H') (k : Lz D B w g c H0 H' (.th (.ref p) 0 1 :: es) → G) : G := k (y.newD0 np hU)
/-- two lists one behind the other -/
theorem Lz.kCat {b : Addr} {ys : List V} {W2 D2 : Nat} {Q : VK} (y : Lz D B w g c H0 H es) (h1 : .ls a xs W Dp ∈ es) (h2 : .ls b ys W2 D2 ∈ es) (hz : W + W2 ≤ 10000000)
    (k : ∀ p H', Lz D B w g c H0 H' (.ls p (xs ++ ys) (W + W2) (max Dp D2) :: es) → Q (.ref p) H') :
    rCat (.ref a) (.ref b) H Q := by
  have l1 := (y.ls_bt h1).len
  have l2 := (y.ls_bt h2).len
  exact ⟨a, b, xs, ys, rfl, rfl, y.ls_at h1, y.ls_at h2, Nat.le_trans (by omega) (show 10000000 ≤ sizeLine by decide), fun p np => k p _ (y.newL np rfl ((y.ls_bt h1).app (y.ls_bt h2)))⟩
/-- a dict with one entry, displayed -/
theorem Lz.dict1 {W1 : Nat} {H1 H2 H3 : Hp} {k : Key} (z : Lz D B w g c H0 H1 es) (np : H1 p = none) (hU : upd H1 p (.dK []) = H2) (hV : upd H2 p (.dK [(k, v)]) = H3) (bk : Bd B W1 0 (kD k)) (b : Bt B W Dp w g H1 v) :
    Lz D B w g c H0 H3 (.th (.ref p) (W1 + W + 2) (Dp + 1) :: es) := by
  subst hU
  rw [upd_twice] at hV
  obtain ⟨s, y', a⟩ := z.new np hV
  obtain ⟨d, t, bd⟩ := b.go z.tups (Go.of s)
  refine y'.addT ⟨.dict [(kD k, d)], .dct a.nw a.ng a.at_ (.cons t .nil), ?_, ?_, ?_⟩
  · simp only [Ok, OkKv]
    exact ⟨bk.ok, bd.ok, trivial⟩
  · have h1 := bk.wt
    have h2 := bd.wt
    simp only [PyData.weight, PyData.weightKv]
    omega
  · have h1 := bk.dp
    have h2 := bd.dp
    simp only [PyData.depth, PyData.depthKv]
    omega
theorem Lz.kDk {G : Prop} (y : Lz D B w g c H0 H es) (np : H p = none) (hU : upd H p (.dK []) = H') (k : Lz D B w g c H0 H es ∧ H p = none ∧ upd H p (.dK []) = H' ∧ H' p = some (.dK []) → Lz D B w g c H0 H' (.th (.ref p) 0 1 :: es) → G) : G := k ⟨y, np, hU, by rw [← hU]; exact upd_same⟩ (y.newD0 np hU)
theorem Lz.kSl {K : PySem.W.Frag} {lo hi : Option Int} {Q : VK} (y : Lz D B w g c H0 H es) (h : .tp a xs W Dp ∈ es)
    (k : ∀ p H', Lz D B w g c H0 H' (.tp p (cutV xs lo hi) W Dp :: es) → Q (.ref p) H') : rSlA K (.ref a) lo hi H Q :=
  sl_all (y.tp_at h) fun p H' s hp => k p H' ((y.same s).add ⟨hp, ((y.tp_bt h).go y.tups (Go.of s)).cut lo hi⟩)
theorem Lz.kCatT {K : PySem.W.Frag} {b : Addr} {ys : List V} {W2 D2 : Nat} {Q : VK} (y : Lz D B w g c H0 H es) (h1 : .tp a xs W Dp ∈ es) (h2 : .tp b ys W2 D2 ∈ es) (hz : W + W2 ≤ 10000000)
    (k : ∀ p H', Lz D B w g c H0 H' (.tp p (xs ++ ys) (W + W2) (max Dp D2) :: es) → Q (.ref p) H') : rCatA K (.ref a) (.ref b) H Q := by
  have l1 := (y.tp_bt h1).len
  have l2 := (y.tp_bt h2).len
  exact cat_all (y.tp_at h1) (y.tp_at h2) (Nat.le_trans (by omega) (show 10000000 ≤ sizeLine by decide)) fun p H' s hp => k p H' ((y.same s).add ⟨hp, ((y.tp_bt h1).go y.tups (Go.of s)).app ((y.tp_bt h2).go y.tups (Go.of s))⟩)
end
section
variable {B W D : Nat} {w g : Addr} {H : Hp} {v : V} {xs : List V}
theorem BtL.split {j : Nat} (x : BtL B W D w g H xs) (h : xs[j]? = some v) : ∃ W1 W2 W3, BtL B W1 D w g H (xs.take j) ∧ Bt B W2 D w g H v ∧ BtL B W3 D w g H (xs.drop (j + 1)) ∧ W1 + (W2 + 1) + W3 ≤ W := by
  obtain ⟨ds, t, b⟩ := x
  obtain ⟨d, hd, td⟩ := t.get h
  have e1 := weight_take ds j
  have e2 : ds.drop j = d :: ds.drop (j + 1) := by
    obtain ⟨hi, rfl⟩ := List.getElem?_eq_some_iff.mp hd
    exact List.drop_eq_getElem_cons hi
  rw [e2] at e1
  simp only [PyData.weightAll] at e1
  have bw := b.wt
  refine ⟨_, _, _, ⟨_, t.take j, ⟨fun d h => b.ok d (List.mem_of_mem_take h), Nat.le_refl _, fun d h => b.dp d (List.mem_of_mem_take h)⟩⟩,
    ⟨d, td, ⟨b.ok d (List.mem_of_getElem? hd), Nat.le_refl _, b.dp d (List.mem_of_getElem? hd)⟩⟩,
    ⟨_, t.drop (j + 1), ⟨fun d h => b.ok d (List.mem_of_mem_drop h), Nat.le_refl _, fun d h => b.dp d (List.mem_of_mem_drop h)⟩⟩, ?_⟩
  omega
theorem Bt.tupE {ds : List PyData} {a : Addr} (h : H a = some (.tup xs)) (t : ThAll w g H xs ds) (b : Bd B W D (.tuple ds)) : 1 ≤ D ∧ BtL B W (D - 1) w g H xs := ⟨b.un.1, _, t, b.un.2⟩
end
theorem Lz.up {D : Hp → Prop} {B B' : Nat} {w g c : Addr} {H0 H : Hp} {es : List En} (y : Lz D B w g c H0 H es) (h : B ≤ B') : Lz D B' w g c H0 H es :=
  ⟨y.ok, y.go, y.dk, fun e he => by
    have := y.th e he
    cases e with
    | th v W D => exact Bt.mono this h (Nat.le_refl _) (Nat.le_refl _)
    | ls a xs W D => exact ⟨this.1, this.2.mono h (Nat.le_refl _) (Nat.le_refl _)⟩
    | tp a xs W D => exact ⟨this.1, this.2.mono h (Nat.le_refl _) (Nat.le_refl _)⟩⟩
/-- the same tuple with a better bound -/
theorem Lz.fine {D : Hp → Prop} {B W W' Dp : Nat} {w g c a : Addr} {xs : List V} {H0 H : Hp} {es : List En} (y : Lz D B w g c H0 H (.tp a xs W Dp :: es)) (h : BtL B W' Dp w g H xs) : Lz D B w g c H0 H (.tp a xs W' Dp :: es) :=
  ⟨y.ok, y.go, y.dk, fun e he => by
    rcases List.mem_cons.mp he with q | q
    · subst q
      exact ⟨(y.th _ (List.Mem.head _)).1, h⟩
    · exact y.th e (List.mem_cons_of_mem _ q)⟩
/-- each of them -/
def BtA (B W D : Nat) (w g : Addr) (H : Hp) (vs : List V) : Prop := ∀ v ∈ vs, Bt B W D w g H v
theorem BtA.nil {B W D : Nat} {w g : Addr} {H : Hp} : BtA B W D w g H [] := fun _ h => by cases h
theorem BtA.cons {B W D : Nat} {w g : Addr} {H : Hp} {v : V} {vs : List V} (x : Bt B W D w g H v) (y : BtA B W D w g H vs) : BtA B W D w g H (v :: vs) := fun u h => by
  rcases List.mem_cons.mp h with rfl | h
  · exact x
  · exact y u h
theorem BtA.app {B W D : Nat} {w g : Addr} {H : Hp} {us vs : List V} (x : BtA B W D w g H us) (y : BtA B W D w g H vs) : BtA B W D w g H (us ++ vs) := fun u h =>
  (List.mem_append.mp h).elim (x u) (y u)
theorem Bt.mono2 {B W D W' D' : Nat} {w g : Addr} {H : Hp} {v : V} (x : Bt B W D w g H v) (h2 : W ≤ W') (h3 : D ≤ D') : Bt B W' D' w g H v := x.mono (Nat.le_refl _) h2 h3
theorem Bt.intText {B : Nat} {w g : Addr} {H : Hp} {i : Int} (h : i.natAbs ≤ B) (hB : B < 10 ^ 38) : Bt B 100 0 w g H (.str (Str.ofString (toString i))) :=
  ⟨_, .str _, bd_str _ (by have := int_text_length_le10 (a := i) (k := 38) (by decide) (by omega); rw [PySem.ofString_length]; omega)⟩
theorem Bt.blText {B : Nat} {w g : Addr} {H : Hp} {b : Bool} : Bt B 100 0 w g H (.str (if b then "True" else "False")) := by
  cases b <;> exact ⟨_, .str _, bd_str _ (by decide +kernel)⟩
section
variable {D : Hp → Prop} {B W Dp : Nat} {w g c a : Addr} {H0 H : Hp} {es : List En} {xs : List V}
/-- a tuple again and again -/
theorem Lz.kRep {K : PySem.W.Frag} {n : Int} {Q : VK} (y : Lz D B w g c H0 H es) (h : .tp a xs W Dp ∈ es) (hne : xs ≠ []) (n1 : 1 ≤ n) (n2 : n ≤ 1000) (hW : W ≤ 1000)
    (k : ∀ p H', Lz D B w g c H0 H' (.tp p (List.replicate n.toNat xs).flatten (n.toNat * W) Dp :: es) → Q (.ref p) H') : rRepA K (.ref a) (.int n) H Q := by
  have l1 := (y.tp_bt h).len
  refine rep_all (y.tp_at h) hne n1 (by omega) ?_ fun p H' s hp => k p H' ((y.same s).add ⟨hp, ((y.tp_bt h).go y.tups (Go.of s)).rep n.toNat⟩)
  refine Nat.le_trans (Nat.mul_le_mul (show n.toNat ≤ 1000 by omega) (show xs.length ≤ 1000 by omega)) (by decide)
end
/-- a number within bounds -/
def Nm (lo hi : Int) (v : V) : Prop := ∃ i : Int, v = .int i ∧ lo ≤ i ∧ i ≤ hi
def NmA (lo hi : Int) (vs : List V) : Prop := ∀ v ∈ vs, Nm lo hi v
theorem NmA.nil {lo hi : Int} : NmA lo hi [] := fun _ h => by cases h
theorem NmA.cons {lo hi i : Int} {vs : List V} (h1 : lo ≤ i) (h2 : i ≤ hi) (y : NmA lo hi vs) : NmA lo hi (.int i :: vs) := fun u h => by
  rcases List.mem_cons.mp h with rfl | h
  · exact ⟨i, rfl, h1, h2⟩
  · exact y u h
theorem BtA.go {B W D : Nat} {w g : Addr} {H H' : Hp} {vs : List V} (x : BtA B W D w g H vs) (T : TupOk w g H) (s : Go w g H H') : BtA B W D w g H' vs := fun v h => (x v h).go T s
theorem BtA.mono {B W D B' W' D' : Nat} {w g : Addr} {H : Hp} {vs : List V} (x : BtA B W D w g H vs) (h1 : B ≤ B') (h2 : W ≤ W') (h3 : D ≤ D') : BtA B' W' D' w g H vs := fun v h => (x v h).mono h1 h2 h3
end G1
/-! what judges share: numbers within bounds, pairs, triples, rows that rise -/
namespace G1
open PySem PySem.Spec PyProof.Rows L2 RZ
def wholeD (lo hi : Int) : PyData → Bool
  | .int i => decide (lo ≤ i) && decide (i ≤ hi)
  | _ => false
def pairD : PyData → Bool
  | .tuple [_, _] => true
  | _ => false
def tripD : PyData → Bool
  | .tuple [_, _, _] => true
  | _ => false
theorem pair_of {d : PyData} (h : pairD d = true) : ∃ a b, d = .tuple [a, b] := by
  unfold pairD at h
  split at h
  · exact ⟨_, _, rfl⟩
  · cases h
theorem trip_of {d : PyData} (h : tripD d = true) : ∃ a b c, d = .tuple [a, b, c] := by
  unfold tripD at h
  split at h
  · exact ⟨_, _, _, rfl⟩
  · cases h
theorem whole_int {lo hi : Int} {d : PyData} (h : wholeD lo hi d = true) : ∃ i, d = .int i ∧ lo ≤ i ∧ i ≤ hi := by
  unfold wholeD at h
  split at h
  · rw [Bool.and_eq_true, decide_eq_true_eq, decide_eq_true_eq] at h
    exact ⟨_, rfl, h.1, h.2⟩
  · cases h
theorem szl2 {n : Nat} (h : n ≤ 1000000) : n < sizeLine := Nat.lt_of_le_of_lt h (by decide)
theorem szl3 {n : Nat} (h : n ≤ 1000000) : n ≤ sizeLine := Nat.le_trans h (by decide)
def spWhole : Sp := fun vs H Q _ => ∃ (w g : Addr) (v : V) (d : PyData) (lo hi : Int), vs = [v, .int lo, .int hi] ∧ Th w g H v d ∧ Q (.bl (wholeD lo hi d)) H
def spTrip : Sp := fun vs H Q _ => ∃ (w g : Addr) (v : V) (d : PyData), vs = [v] ∧ Th w g H v d ∧ Q (.bl (tripD d)) H
def spIsPair : Sp := fun vs H Q _ => ∃ (w g : Addr) (v : V) (d : PyData), vs = [v] ∧ Th w g H v d ∧ Q (.bl (pairD d)) H
/-! ### a one for each that is not -/
section
variable {α : Type} {p : α → Bool} {ds : List α} {d : α} {i : Nat}
def ones (ds : List α) (p : α → Bool) : List Int := (ds.filter fun d => !p d).map fun _ => (1 : Int)
theorem ones_bad (hd : ds[i]? = some d) (h : p d = false) : ones (ds.take (i + 1)) p = ones (ds.take i) p ++ [1] := by
  unfold ones
  rw [List.take_add_one, hd, List.filter_append, List.map_append]
  simp [h]
theorem ones_ok (hd : ds[i]? = some d) (h : p d = true) : ones (ds.take (i + 1)) p = ones (ds.take i) p := by
  unfold ones
  rw [List.take_add_one, hd, List.filter_append, List.map_append]
  simp [h]
theorem ones_len : (ones (ds.take i) p).length ≤ ds.length := by
  unfold ones
  rw [List.length_map]
  refine Nat.le_trans (List.length_filter_le _ _) ?_
  rw [List.length_take]
  omega
theorem ones_all : decide (ones ds p = []) = ds.all p := by
  rw [Bool.eq_iff_iff, decide_eq_true_eq]
  unfold ones
  rw [List.map_eq_nil_iff, List.filter_eq_nil_iff, List.all_eq_true]
  constructor
  · intro h d hd
    have := h d hd
    cases hh : p d with
    | true => rfl
    | false => rw [hh] at this; exact absurd rfl this
  · intro h d hd
    rw [h d hd]
    decide
end
/-! ### enumerate over a tuple as a walk -/
theorem walk_enT {K : PySem.W.Frag} {a : Addr} {xs : List V} : Walk (Iten K a) xs.length (fun H => SqT K H a xs) (YPair (fun i => some (.int (i : Nat))) (fun i => xs[i]?)) := by
  refine ⟨fun i H hi q => ⟨xs, xs[i]'(by omega), q, by simp [show i < xs.length by omega]⟩, fun H q => ⟨xs, q, rfl⟩, fun i H v H' hi q y => ?_⟩
  obtain ⟨T, x, rfl, hT, rfl, h1⟩ := y
  exact ⟨T, _, x, rfl, hT, rfl, rfl, h1 xs q⟩
/-! ### < of numbers or of tuples of numbers -/
section
variable {X : Cx}
/-- < of two numbers, or of two tuples of numbers -/
def rLtX (K : PySem.W.Frag) : R2 := fun x y H Q => (∃ i j, x = .int i ∧ y = .int j ∧ Q (.bl (decide (i < j))) H) ∨ rLtT K x y H Q
theorem op_ltX {k : Nat} {K : PySem.W.Frag} (hK : X.K = K) (hr : Room k X.A) : OpR X (compareOp .Lt) (rLtX K) := by
  subst hK
  intro pins s σ H x y v u Q I rx ry h
  rcases h with h | h
  · exact op_lt pins s σ H x y v u Q I rx ry h
  · exact op_ltT (Nat.lt_of_succ_lt (hu_of hr)) pins s σ H x y v u Q I rx ry h
end
/-! ### rows that rise -/
def ltD : PyData → PyData → Bool
  | .int i, .int j => decide (i < j)
  | .tuple [.int a, .int b], .tuple [.int c, .int e] => HT.lexLt [a, b] [c, e]
  | _, _ => false
/-- numbers all, or pairs of numbers all -/
def Comp (ds : List PyData) : Prop := (∀ d ∈ ds, ∃ i, d = .int i) ∨ ∀ d ∈ ds, ∃ a b, d = .tuple [.int a, .int b]
def adj (ds : List PyData) : List Bool := List.zipWith ltD ds (ds.drop 1)
def ascD (ds : List PyData) : Bool := (adj ds).all id
theorem adj_len (ds : List PyData) : (adj ds).length = ds.length - 1 := by
  unfold adj
  rw [List.length_zipWith, List.length_drop]
  omega
theorem adj_get {ds : List PyData} {i : Nat} {x y : PyData} (h1 : ds[i]? = some x) (h2 : (ds.drop 1)[i]? = some y) : (adj ds)[i]? = some (ltD x y) := by
  unfold adj
  rw [List.getElem?_zipWith, h1, h2]
theorem adj_take {ds : List PyData} {i : Nat} {x y : PyData} (h1 : ds[i]? = some x) (h2 : (ds.drop 1)[i]? = some y) : (adj ds).take (i + 1) = (adj ds).take i ++ [ltD x y] := by
  rw [List.take_add_one, adj_get h1 h2]
  rfl
theorem Comp.of {ds : List PyData} {x y : PyData} (c : Comp ds) (hx : x ∈ ds) (hy : y ∈ ds) : (∃ i j, x = .int i ∧ y = .int j) ∨ ∃ a b k e, x = .tuple [.int a, .int b] ∧ y = .tuple [.int k, .int e] := by
  rcases c with c | c
  · obtain ⟨i, rfl⟩ := c x hx
    obtain ⟨j, rfl⟩ := c y hy
    exact .inl ⟨i, j, rfl, rfl⟩
  · obtain ⟨a, b, rfl⟩ := c x hx
    obtain ⟨k, e, rfl⟩ := c y hy
    exact .inr ⟨a, b, k, e, rfl, rfl⟩
theorem Th.two {w g : Addr} {H : Hp} {v : V} {a b : Int} (t : Th w g H v (.tuple [.int a, .int b])) : ∃ p, v = .ref p ∧ H p = some (.tup [.int a, .int b]) := by
  cases t with
  | tup h ta =>
    cases ta with
    | cons t1 ta =>
      cases ta with
      | cons t2 ta =>
        cases ta
        cases t1
        cases t2
        exact ⟨_, rfl, h⟩
theorem lt_go {K : PySem.W.Frag} {w g : Addr} {H : Hp} {x y : V} {dx dy : PyData} {ds : List PyData} {Q : VK} (c : Comp ds) (hx : dx ∈ ds) (hy : dy ∈ ds) (tx : Th w g H x dx) (ty : Th w g H y dy) (q : Q (.bl (ltD dx dy)) H) :
    rLtX K x y H Q := by
  rcases c.of hx hy with ⟨i, j, rfl, rfl⟩ | ⟨a, b, k, e, rfl, rfl⟩
  · cases tx
    cases ty
    exact .inl ⟨i, j, rfl, rfl, q⟩
  · obtain ⟨p1, rfl, h1⟩ := tx.two
    obtain ⟨p2, rfl, h2⟩ := ty.two
    exact .inr ⟨p1, p2, [a, b], [k, e], rfl, rfl, sqT_of h1, sqT_of h2, q⟩
/-! ### slices and sums of tuples of things -/
theorem no_part {σ : L2.St} {H : Hp} {Q : Option Int → Hp → Prop} (h : Q none H) : tNoPart σ H Q := h
theorem cutV_from (xs : List V) (n : Nat) : cutV xs (some (n : Int)) none = xs.drop n := by
  by_cases h : n ≤ xs.length
  · unfold cutV
    rw [sIx_of _ _ (by omega)]
    show (xs.drop (min (n : Int).toNat xs.length)).take (xs.length - min (n : Int).toNat xs.length) = _
    rw [Int.toNat_natCast, Nat.min_eq_left h, List.take_of_length_le (by rw [List.length_drop]; exact Nat.le_refl _)]
  · unfold cutV
    rw [sIx_of _ _ (by omega)]
    show (xs.drop (min (n : Int).toNat xs.length)).take (xs.length - min (n : Int).toNat xs.length) = _
    rw [Int.toNat_natCast, Nat.min_eq_right (by omega), Nat.sub_self, List.take_zero, List.drop_of_length_le (by omega)]
theorem cutV_to (xs : List V) (n : Nat) : cutV xs none (some (n : Int)) = xs.take n := by
  unfold cutV
  rw [sIx_of _ _ (by omega)]
  show (xs.drop 0).take (min (n : Int).toNat xs.length - 0) = _
  rw [List.drop_zero, Nat.sub_zero, Int.toNat_natCast, ← List.take_eq_take_min]
theorem cutV_one (xs : List V) : cutV xs (some 1) none = xs.drop 1 := cutV_from xs 1
theorem cutV_two (xs : List V) : cutV xs (some 2) none = xs.drop 2 := cutV_from xs 2
/-! ### numbers one after another -/
theorem asc_two (a b : PyData) (l : List PyData) : ascD (a :: b :: l) = (ltD a b && ascD (b :: l)) := rfl
theorem asc_sorted : ∀ ns : List Int, ns.Pairwise (· ≤ ·) → (ascD (ns.map PyData.int) = true ↔ ns.Nodup)
  | [], _ => by simp [ascD, adj]
  | [a], _ => by simp [ascD, adj]
  | a :: b :: l, h => by
    have ih := asc_sorted (b :: l) (List.pairwise_cons.mp h).2
    have ha := (List.pairwise_cons.mp h).1
    have hb := (List.pairwise_cons.mp (List.pairwise_cons.mp h).2).1
    rw [List.map_cons, List.map_cons, asc_two, Bool.and_eq_true, ← List.map_cons, ih, List.nodup_cons (a := a)]
    have e : ltD (.int a) (.int b) = decide (a < b) := rfl
    rw [e, decide_eq_true_eq]
    constructor
    · rintro ⟨h1, h2⟩
      refine ⟨fun m => ?_, h2⟩
      rcases List.mem_cons.mp m with rfl | m
      · omega
      · have := hb a m
        omega
    · rintro ⟨h1, h2⟩
      refine ⟨?_, h2⟩
      have h3 := ha b List.mem_cons_self
      have h4 : a ≠ b := fun e => h1 (e ▸ List.mem_cons_self)
      omega
theorem asc_perm {ns ns' : List Int} (p : ns'.Perm ns) (h : ns'.Pairwise (· ≤ ·)) : ascD (ns'.map PyData.int) = decide ns.Nodup := by
  rw [Bool.eq_iff_iff, decide_eq_true_eq, asc_sorted ns' h, p.nodup_iff]
theorem nodup_snoc {l : List Int} {x : Int} : (l ++ [x]).Nodup ↔ l.Nodup ∧ x ∉ l := by
  rw [List.nodup_append]
  simp
  intro _
  constructor
  · intro h m
    exact h x m rfl
  · intro h a m e
    exact h (e ▸ m)
theorem in_ints (x : Int) (l : List Int) : inV (.int x) (l.map V.int) = decide (x ∈ l) := by
  rw [Bool.eq_iff_iff, decide_eq_true_eq]
  simp [inV, eqV]
theorem th_ints {w g : Addr} {H : Hp} : ∀ ns : List Int, ThAll w g H (ns.map V.int) (ns.map PyData.int)
  | [] => .nil
  | n :: ns => .cons (.int n) (th_ints ns)
theorem ThAll.two {w g : Addr} {H : Hp} {xs : List V} {d1 d2 : PyData} (t : ThAll w g H xs [d1, d2]) : ∃ v1 v2, xs = [v1, v2] ∧ Th w g H v1 d1 ∧ Th w g H v2 d2 := by
  cases t with
  | cons t1 t => cases t with
    | cons t2 t => cases t; exact ⟨_, _, rfl, t1, t2⟩
theorem ThAll.three {w g : Addr} {H : Hp} {xs : List V} {d1 d2 d3 : PyData} (t : ThAll w g H xs [d1, d2, d3]) : ∃ v1 v2 v3, xs = [v1, v2, v3] ∧ Th w g H v1 d1 ∧ Th w g H v2 d2 ∧ Th w g H v3 d3 := by
  cases t with
  | cons t1 t => cases t with
    | cons t2 t => cases t with
      | cons t3 t => cases t; exact ⟨_, _, _, rfl, t1, t2, t3⟩
theorem Th.tupE {w g : Addr} {H : Hp} {v : V} {ds : List PyData} (t : Th w g H v (.tuple ds)) : ∃ a xs, v = .ref a ∧ H a = some (.tup xs) ∧ ThAll w g H xs ds := by
  cases t with
  | tup h ta => exact ⟨_, _, rfl, h, ta⟩
theorem Th.pair {w g : Addr} {H : Hp} {v : V} {d1 d2 : PyData} (t : Th w g H v (.tuple [d1, d2])) : ∃ a v1 v2, v = .ref a ∧ H a = some (.tup [v1, v2]) ∧ Th w g H v1 d1 ∧ Th w g H v2 d2 := by
  obtain ⟨a, xs, rfl, h, ta⟩ := t.tupE
  obtain ⟨v1, v2, rfl, t1, t2⟩ := ta.two
  exact ⟨a, v1, v2, rfl, h, t1, t2⟩
theorem Th.triple {w g : Addr} {H : Hp} {v : V} {d1 d2 d3 : PyData} (t : Th w g H v (.tuple [d1, d2, d3])) : ∃ a v1 v2 v3, v = .ref a ∧ H a = some (.tup [v1, v2, v3]) ∧ Th w g H v1 d1 ∧ Th w g H v2 d2 ∧ Th w g H v3 d3 := by
  obtain ⟨a, xs, rfl, h, ta⟩ := t.tupE
  obtain ⟨v1, v2, v3, rfl, t1, t2, t3⟩ := ta.three
  exact ⟨a, v1, v2, v3, rfl, h, t1, t2, t3⟩
/-- a word or nothing -/
def vO : Option Str → V
  | none => .non
  | some s => .str s
def dO : Option Str → PyData
  | none => .none
  | some s => .str s
theorem th_O {w g : Addr} {H : Hp} (o : Option Str) : Th w g H (vO o) (dO o) := by
  cases o
  · exact .non
  · exact .str _
theorem isTupD_ne {d : PyData} (h : isTupD d = false) (R : List PyData → Prop) : ∀ ds, d = .tuple ds → R ds := fun ds e => by
  subst e
  cases h
/-! ### within comprehensions the fragment is to be named -/
section
variable {X : Cx} {K : PySem.W.Frag}
theorem sl_listK (hK : X.K = K) : SlR X (rSlL K) := hK ▸ sl_list
theorem ix_tupK (hK : X.K = K) : IxR X (rIxT K) := hK ▸ ix_tup
theorem op_inK (hK : X.K = K) : OpR X (compareOp .In) (rIn K false) := hK ▸ op_in_seq
theorem op_notInK (hK : X.K = K) : OpR X (compareOp .NotIn) (rIn K true) := hK ▸ op_notIn_seq
end
section
variable {X : Cx}
/-- == of a number or a truth, and a number -/
theorem op_eqX : OpR X (compareOp .Eq) (fun x y H Q => rEq x y H Q ∨ ∃ b j, x = .bl b ∧ y = .int j ∧ Q (.bl ((if b = true then (1 : Int) else 0) == j)) H) := by
  intro pins s σ H x y v u Q I rx ry h
  rcases h with h | ⟨b, j, rfl, rfl, q⟩
  · exact op_eq pins s σ H x y v u Q I rx ry h
  · cases rx
    obtain ⟨t', rfl⟩ := ry
    exact PySem.EqBoolInt.eq_bool_int ⟨.bl _, H, I, rfl, q⟩
end
/-! ### pairs of numbers -/
def PrA (B : Nat) (H : Hp) (xs : List V) : Prop := ∀ x ∈ xs, ∃ (q : Addr) (a b : Int), x = .ref q ∧ H q = some (.tup [.int a, .int b]) ∧ a.natAbs ≤ B ∧ b.natAbs ≤ B
theorem PrA.nil {B : Nat} {H : Hp} : PrA B H [] := fun _ h => by cases h
theorem PrA.go {B : Nat} {w g : Addr} {H H' : Hp} {xs : List V} (p : PrA B H xs) (T : TupOk w g H) (s : Go w g H H') : PrA B H' xs := fun x hx => by
  obtain ⟨q, a, b, e, h, r⟩ := p x hx
  exact ⟨q, a, b, e, s _ _ (T _ _ h).1 (T _ _ h).2 h, r⟩
theorem PrA.upd {B : Nat} {H : Hp} {L : Addr} {ys : List V} {o : HO} {xs : List V} (p : PrA B H xs) (hL : H L = some (.lst ys)) : PrA B (upd H L o) xs := fun x hx => by
  obtain ⟨q, a, b, e, h, r⟩ := p x hx
  refine ⟨q, a, b, e, ?_, r⟩
  rw [upd_ne (ne_of h hL (by intro z; cases z))]
  exact h
theorem PrA.snoc {B : Nat} {H : Hp} {xs : List V} {q : Addr} {a b : Int} (p : PrA B H xs) (h : H q = some (.tup [.int a, .int b])) (ha : a.natAbs ≤ B) (hb : b.natAbs ≤ B) : PrA B H (xs ++ [.ref q]) := fun x hx => by
  rcases List.mem_append.mp hx with hx | hx
  · exact p x hx
  · rw [List.mem_singleton] at hx
    exact ⟨q, a, b, hx, h, ha, hb⟩
theorem PrA.perm {B : Nat} {H : Hp} {xs ys : List V} (p : PrA B H xs) (h : ys.Perm xs) : PrA B H ys := fun x hx => p x (h.mem_iff.mp hx)
theorem PrA.bt {B : Nat} (hB : B < 10 ^ 38) {w g : Addr} {H : Hp} : ∀ {xs : List V}, PrA B H xs → BtL B (xs.length * 257) 1 w g H xs
  | [], _ => BtL.nil.mono (Nat.le_refl _) (Nat.zero_le _) (Nat.zero_le _)
  | x :: xs, p => by
    obtain ⟨q, a, b, rfl, h, ha, hb⟩ := p x (List.mem_cons_self ..)
    have h1 : BtL B _ 0 w g H [.int a, .int b] := BtL.cons (Bt.int ha hB) (BtL.cons (Bt.int hb hB) BtL.nil)
    exact ((h1.tup h).mono2 (show _ ≤ 256 by decide) (Nat.le_refl _) |> fun z => (BtL.cons z (PrA.bt hB fun y hy => p y (List.mem_cons_of_mem _ hy))).mono (Nat.le_refl _) (by rw [List.length_cons]; omega) (by decide))
theorem ints_bt {B : Nat} (hB : B < 10 ^ 38) {w g : Addr} {H : Hp} : ∀ {ns : List Int}, (∀ n ∈ ns, n.natAbs ≤ B) → BtL B (ns.length * 128) 0 w g H (ns.map V.int)
  | [], _ => BtL.nil.mono (Nat.le_refl _) (Nat.zero_le _) (Nat.zero_le _)
  | n :: ns, h => (BtL.cons (Bt.int (h n (List.mem_cons_self ..)) hB) (ints_bt hB fun y hy => h y (List.mem_cons_of_mem _ hy))).mono (Nat.le_refl _) (by rw [List.length_cons]; omega) (by decide)
/-! ### a dict of the module: texts to numbers -/
def dvOk (kvs : List (Str × Int)) (z : Str) (r : Option Value) : Prop := match kvs.lookup z with
  | none => r = none
  | some k => ∃ t, r = some (.int k t)
def lookE (es : Array DictEntry) (z : Str) : Option (Option Value) := match es.toList.find? (fun x => x.key.isStr z) with
  | some e => some (some e.val)
  | none => if (es.toList.any fun x => x.refKey) = true then none else some none
theorem ns_look {K : PySem.W.Frag} {a : Addr} {es : Array DictEntry} {n : Nat} (l : K.lookup a = some { cls := .type "dict", data := .dict es n }) (z : Str) : PySem.W.nsIn K a z = lookE es z := by
  unfold PySem.W.nsIn lookE
  rw [l]
  dsimp only
  cases es.toList.find? (fun x => x.key.isStr z) <;> rfl
def MatchE : List DictEntry → List (Str × Int) → Prop
  | [], [] => True
  | e :: es, (k, v) :: kvs => (∃ t, e.key = .str k t) ∧ (∃ t, e.val = .int v t) ∧ MatchE es kvs
  | _, _ => False
theorem match_any : ∀ {es : List DictEntry} {kvs : List (Str × Int)}, MatchE es kvs → (es.any fun x => x.refKey) = false
  | [], _, _ => rfl
  | e :: es, [], h => h.elim
  | e :: es, (k, v) :: kvs, ⟨⟨t, h1⟩, _, h3⟩ => by
    rw [List.any_cons, match_any h3, Bool.or_false]
    unfold DictEntry.refKey
    rw [h1]
theorem match_find : ∀ {es : List DictEntry} {kvs : List (Str × Int)} (z : Str), MatchE es kvs → match kvs.lookup z with
    | none => es.find? (fun x => x.key.isStr z) = none
    | some k => ∃ e t, es.find? (fun x => x.key.isStr z) = some e ∧ e.val = .int k t
  | [], [], z, _ => rfl
  | [], _ :: _, z, h => h.elim
  | e :: es, [], z, h => h.elim
  | e :: es, (k, v) :: kvs, z, ⟨⟨t, h1⟩, ⟨t2, h2⟩, h3⟩ => by
    have ih := match_find z h3
    have e1 : e.key.isStr z = (k == z) := by rw [h1]; rfl
    by_cases c : z = k
    · subst c
      have l1 : List.lookup z ((z, v) :: kvs) = some v := by simp [List.lookup]
      rw [l1]
      exact ⟨e, t2, by rw [List.find?_cons_of_pos (by rw [e1]; simp)], h2⟩
    · have l1 : List.lookup z ((k, v) :: kvs) = List.lookup z kvs := by
        have : (z == k) = false := by simp [c]
        simp [List.lookup, this]
      have f1 : List.find? (fun x => x.key.isStr z) (e :: es) = List.find? (fun x => x.key.isStr z) es := by
        refine List.find?_cons_of_neg ?_
        rw [e1]
        simp
        exact fun q => c q.symm
      rw [l1, f1]
      exact ih
theorem look_match {es : Array DictEntry} {kvs : List (Str × Int)} (h : MatchE es.toList kvs) (z : Str) : ∃ r, lookE es z = some r ∧ dvOk kvs z r := by
  have f := match_find z h
  unfold lookE dvOk
  cases e : kvs.lookup z with
  | none =>
    rw [e] at f
    dsimp only at f ⊢
    rw [f]
    exact ⟨none, by simp [match_any h], rfl⟩
  | some k =>
    rw [e] at f
    obtain ⟨e0, t, h1, h2⟩ := f
    dsimp only
    rw [h1]
    exact ⟨some e0.val, rfl, t, congrArg some h2⟩
/-- t == () of any tuple -/
def rEq0 (K : PySem.W.Frag) : R2 := fun x y H Q => ∃ a b xs, x = .ref a ∧ y = .ref b ∧ SqT K H a xs ∧ SqT K H b [] ∧ Q (.bl xs.isEmpty) H
section
variable {X : Cx}
theorem op_eqT0 (hu : X.A.units + 64 < cLine) : OpR X (compareOp .Eq) (rEq0 X.K) := by
  intro pins s σ H x y v u Q I rx ry h
  obtain ⟨a, b, xs, rfl, rfl, ha, hb, q⟩ := h
  cases rx
  cases ry
  obtain ⟨its, r1, p1, _⟩ := I.tuple ha
  obtain ⟨its2, r2, p2, _⟩ := I.tuple hb
  cases r2
  have R := PySem.SeqAt.RcAt.tuples (A := X.A) (s := s) (e := fun _ => true) p1 p2 (by omega) (fun j h1 h2 => absurd h2 (by simp)) X.prog X.w X.xe (EP X pins σ Q)
  refine R ⟨.bl _, H, I, rfl, ?_⟩
  have e : ((List.range (min its.toArray.size (#[] : Array Value).size)).all (fun _ => true) && its.toArray.size == (#[] : Array Value).size) = xs.isEmpty := by
    have hl := r1.length
    cases xs with
    | nil =>
      cases its with
      | nil => rfl
      | cons c cs => cases hl
    | cons y ys =>
      cases its with
      | nil => cases hl
      | cons c cs => simp
  rw [show ((List.range (min its.toArray.size ([] : List Value).toArray.size)).all (fun _ => true) && its.toArray.size == ([] : List Value).toArray.size) = xs.isEmpty from e]
  exact q
end
theorem in_strs (z : Str) (l : List Str) : inV (.str z) (l.map V.str) = decide (z ∈ l) := by
  rw [Bool.eq_iff_iff, decide_eq_true_eq]
  simp [inV, eqV]
section
variable {X : Cx} {K : PySem.W.Frag}
theorem call_isi_K (hK : X.K = K) : CallR X (.builtin "isinstance") (rIsi K) := hK ▸ call_isi
end
end G1
/-! xs[::e] of a list of two, e one or minus one -/
namespace G1
open PySem PySem.Spec PyProof.Rows L2 HT
theorem pick_one (a b : Value) : slicePick #[a, b] none none (some 1) = #[a, b] := by
  simp [slicePick, sliceBounds, sliceRange, List.range, List.range.loop]
section
variable {X : Cx}
def tStep2 (K : PySem.W.Frag) (te ts : TE) : TE := fun σ H Q => te σ H fun x H1 => tPart ts σ H1 fun o H2 => ∃ a v0 v1, x = .ref a ∧ (o = some 1 ∨ o = some (-1)) ∧ SqL K H2 a [v0, v1] ∧
  ∀ p, H2 p = none → Q (.ref p) (upd H2 p (.lst (if o = some 1 then [v0, v1] else [v1, v0])))
theorem pe_step2 {e e2 : Expr} {te ts : TE} {p3 pos : Pos} (he : PE X e te) (hs : PE X e2 ts) : PE X (.Subscript e (.Slice none none (some e2) p3) pos) (tStep2 X.K te ts) := by
  refine ⟨fun pins s σ H Q I h => ?_⟩
  refine Subscript_ (thn (he.run pins s σ H _ I h) fun v s1 ⟨x, H1, I1, r1, q1⟩ => ?_)
  have hst : PO X (some e2) (tPart ts) := po_some hs
  refine wpAny_Slice ?_
  rw [evalPart_none]
  refine wpAny_pure (wpAny_pure ?_)
  refine thn (hst.run pins s1 σ H1 _ I1 q1) fun vs s4 ⟨o, H4, I4, ps, q4⟩ => ?_
  obtain ⟨a, v0, v1, rfl, ho, hx, q⟩ := q4
  cases r1
  have I5 : Inv X pins σ H4 { s4 with heap := s4.heap.push { cls := .type "slice", data := .fields #[.none, .none, vs] } } := I4.kept (t' := s4.toks) fun b ob q => Heap.get?_push_of_some _ q
  obtain ⟨its, r, ht, hz⟩ := I5.list hx
  have hlen := r.length
  replace ht := ht.isList
  show wpAny (model X.prog X.w) X.A (subscriptTail e (.Slice none none (some e2) p3) (.ref a) (.ref s4.heap.objs.size)) (EP X pins σ Q) X.xe { s4 with heap := s4.heap.push { cls := .type "slice", data := .fields #[.none, .none, vs] } }
  refine tail_any (ops := [.ref a, .ref s4.heap.objs.size]) (T := "list") (by obtain ⟨o, h1, h2, _⟩ := ht; exact ⟨o, h1, h2⟩) (PySem.F.slot_list_getitem.lookup) ?_ (by with_unfolding_all rfl)
  refine wpAny_getItem_list_slice ht (Heap.IsSliceOf.new _ .none .none vs) .none .none ps ?_ ?_ (by rw [List.size_toArray, ← hlen]; exact hz)
  · rcases ho with rfl | rfl <;> decide
  refine ⟨.ref _, _, I5.laid (t' := s4.toks) (o := .lst (if o = some 1 then [v0, v1] else [v1, v0])) (fun b ob q => Heap.get?_push_of_some _ q) (Nat.le_refl _) ?_, rfl, q _ (I5.hok.fresh (Nat.le_refl _))⟩
  rcases its with _ | ⟨u0, _ | ⟨u1, _ | ⟨u2, its⟩⟩⟩
  · cases hlen
  · cases hlen
  · cases r with
    | cons r0 r =>
      cases r with
      | cons r1 r =>
        rcases ho with rfl | rfl
        · refine ⟨szl (by simp), [u0, u1], 0, .cons r0 (.cons r1 .nil), ?_⟩
          rw [pick_one]
          exact Heap.get?_push_size _ rfl
        · refine ⟨szl (by simp), [u1, u0], 0, .cons r1 (.cons r0 .nil), ?_⟩
          rw [PySem.W.krv_pick]
          exact Heap.get?_push_size _ rfl
  · cases hlen
end
end G1
/-! things with no list and no dict in them stay as long as tuples do -/
namespace G1
open PySem PySem.Spec PyProof.Rows L2
mutual
def Pu : PyData → Prop
  | .tuple ds => PuA ds
  | .list _ => False
  | .dict _ => False
  | _ => True
def PuA : List PyData → Prop
  | [] => True
  | d :: ds => Pu d ∧ PuA ds
end
def TupKeep (H H' : Hp) : Prop := ∀ a xs, H a = some (.tup xs) → H' a = some (.tup xs)
theorem TupKeep.upd {H : Hp} {p : Addr} {o u : HO} (h : H p = some o) (no : ∀ xs, o ≠ .tup xs) : TupKeep H (upd H p u) := fun a xs e => by
  rw [upd_ne (fun q => by rw [q, h] at e; exact no xs (Option.some.inj e))]
  exact e
section
variable {w g w' g' : Addr} {H H' : Hp}
mutual
theorem Th.pu (s : TupKeep H H') : ∀ {v : V} {d : PyData}, Th w g H v d → Pu d → Th w' g' H' v d
  | _, _, .non, _ => .non
  | _, _, .bl b, _ => .bl b
  | _, _, .int i, _ => .int i
  | _, _, .str x, _ => .str x
  | _, _, .lst _ _ _ _, h => by simp only [Pu] at h
  | _, _, .tup h t, p => .tup (s _ _ h) (ThAll.pu s t (by simpa only [Pu] using p))
  | _, _, .dct _ _ _ _, h => by simp only [Pu] at h
theorem ThAll.pu (s : TupKeep H H') : ∀ {vs : List V} {ds : List PyData}, ThAll w g H vs ds → PuA ds → ThAll w' g' H' vs ds
  | _, _, .nil, _ => .nil
  | _, _, .cons t ts, p => by
    simp only [PuA] at p
    exact .cons (Th.pu s t p.1) (ThAll.pu s ts p.2)
end
end
end G1
/-! numbers up to 10 ** 40; dicts of two -/
namespace G1
open PySem PySem.Spec PyProof.Rows L2
theorem log_of4 {i : Int} {B : Nat} (h : i.natAbs ≤ B) (hB : B < 10 ^ 40) : i.natAbs.log2 < 1920 := by
  by_cases z : i.natAbs = 0
  · rw [z]; decide
  · exact (Nat.log2_lt z).mpr (Nat.lt_of_le_of_lt h (Nat.lt_trans hB (by decide)))
mutual
theorem Ok.shows4 {B : Nat} (hB : B < 10 ^ 40) : ∀ {d : PyData}, Ok B d → d.showable = true ∧ d.leavesShort 42 = true
  | .none, _ => ⟨rfl, rfl⟩
  | .bool _, _ => ⟨rfl, rfl⟩
  | .int i, a => by
    simp only [Ok] at a
    refine ⟨by simp only [PyData.showable]; exact decide_eq_true (log_of4 a hB), ?_⟩
    simp only [PyData.leavesShort]
    refine decide_eq_true ?_
    have := int_text_length_le10 (a := i) (k := 40) (by decide) (by omega)
    show (Str.ofString (toString i)).length ≤ 42
    rw [PySem.ofString_length]
    omega
  | .str x, a => by
    simp only [Ok] at a
    refine ⟨rfl, ?_⟩
    simp only [PyData.leavesShort, List.all_eq_true, decide_eq_true_eq]
    exact a
  | .list xs, a => by
    simp only [Ok] at a
    simp only [PyData.showable, PyData.leavesShort]
    exact OkAll.shows4 hB a
  | .tuple xs, a => by
    simp only [Ok] at a
    simp only [PyData.showable, PyData.leavesShort]
    exact OkAll.shows4 hB a
  | .dict kvs, a => by
    simp only [Ok] at a
    simp only [PyData.showable, PyData.leavesShort]
    exact OkKv.shows4 hB a
theorem OkAll.shows4 {B : Nat} (hB : B < 10 ^ 40) : ∀ {d : List PyData}, OkAll B d → PyData.showableAll d = true ∧ PyData.leavesShortAll 42 d = true
  | [], _ => ⟨rfl, rfl⟩
  | x :: xs, a => by
    simp only [OkAll] at a
    obtain ⟨h1, h2⟩ := Ok.shows4 hB a.1
    obtain ⟨h3, h4⟩ := OkAll.shows4 hB a.2
    simp only [PyData.showableAll, PyData.leavesShortAll, h1, h2, h3, h4, Bool.and_self, and_self]
theorem OkKv.shows4 {B : Nat} (hB : B < 10 ^ 40) : ∀ {d : List (PyData × PyData)}, OkKv B d → PyData.showableKv d = true ∧ PyData.leavesShortKv 42 d = true
  | [], _ => ⟨rfl, rfl⟩
  | (k, v) :: r, a => by
    simp only [OkKv] at a
    obtain ⟨h1, h2⟩ := Ok.shows4 hB a.1
    obtain ⟨h3, h4⟩ := Ok.shows4 hB a.2.1
    obtain ⟨h5, h6⟩ := OkKv.shows4 hB a.2.2
    simp only [PyData.showableKv, PyData.leavesShortKv, h1, h2, h3, h4, h5, h6, Bool.and_self, and_self]
end
/-- repr of a value that is not too great -/
theorem repr_val4 {K : PySem.W.Frag} {H : Hp} {R : PyData → Prop} {v : V} {d : PyData} {B : Nat} (hd : DpD K H v d) (ok : Ok B d) (hB : B < 10 ^ 40) (hw : d.weight ≤ 360000) (hdp : d.depth ≤ 60) (q : R d) :
    ∃ (v' : V) (d' : PyData), [v] = [v'] ∧ DpD K H v' d' ∧ d'.showable = true ∧ d'.depth ≤ 60 ∧ d'.shown.length ≤ sizeLine ∧ R d' := by
  obtain ⟨h1, h2⟩ := ok.shows4 hB
  have s := PyData.shown_le 42 (by decide) d h2
  exact ⟨v, d, rfl, hd, h1, hdp, Nat.le_trans s (Nat.le_trans (by omega : _ ≤ 44 * 360000 + 42) (by decide)), q⟩
theorem bd_int4 {B : Nat} {i : Int} (h : i.natAbs ≤ B) (hB : B < 10 ^ 40) : Bd B 140 0 (.int i) := ⟨by simp only [Ok]; exact h, log_wt (Nat.lt_of_le_of_lt h (Nat.lt_trans hB (by decide))), by simp [PyData.depth]⟩
theorem Bt.int4 {B : Nat} {w g : Addr} {H : Hp} {i : Int} (h : i.natAbs ≤ B) (hB : B < 10 ^ 40) : Bt B 140 0 w g H (.int i) := ⟨_, .int i, bd_int4 h hB⟩
section
variable {D : Hp → Prop} {B W Dp W' : Nat} {w g c p : Addr} {H0 : Hp} {es : List En} {v u : V}
/-- a dict with two entries, displayed -/
theorem Lz.dict2 {W1 W2 : Nat} {H1 H2 H3 : Hp} {k k' : Key} (z : Lz D B w g c H0 H1 es) (np : H1 p = none) (hU : upd H1 p (.dK []) = H2) (hV : upd H2 p (.dK [(k, v), (k', u)]) = H3) (bk : Bd B W1 0 (kD k)) (bk' : Bd B W2 0 (kD k')) (b : Bt B W Dp w g H1 v) (b' : Bt B W' Dp w g H1 u) :
    Lz D B w g c H0 H3 (.th (.ref p) (W1 + W + 2 + (W2 + W' + 2)) (Dp + 1) :: es) := by
  subst hU
  rw [upd_twice] at hV
  obtain ⟨s, y', a⟩ := z.new np hV
  obtain ⟨d, t, bd⟩ := b.go z.tups (Go.of s)
  obtain ⟨d', t', bd'⟩ := b'.go z.tups (Go.of s)
  refine y'.addT ⟨.dict [(kD k, d), (kD k', d')], .dct a.nw a.ng a.at_ (.cons t (.cons t' .nil)), ?_, ?_, ?_⟩
  · simp only [Ok, OkKv]
    exact ⟨bk.ok, bd.ok, bk'.ok, bd'.ok, trivial⟩
  · have h1 := bk.wt
    have h2 := bd.wt
    have h3 := bk'.wt
    have h4 := bd'.wt
    simp only [PyData.weight, PyData.weightKv]
    omega
  · have h1 := bk.dp
    have h2 := bd.dp
    have h3 := bk'.dp
    have h4 := bd'.dp
    simp only [PyData.depth, PyData.depthKv]
    omega
end
end G1
/-! any thing == a text, any thing in a row of texts; math.lcm -/
namespace PySem
theorem dict_eq_declines_str (l : Addr) (es : Array DictEntry) (n : Nat) (dd : Option Addr) (sl : Array (Option Value)) (b : Str) (u : Tok) :
    Meets (Builtin.«dict.__eq__» ⟨[.ref l, .str b u], []⟩) (fun _ R s => s.heap.get? l = some { cls := .type "dict", dict := dd, data := .dict es n, slots := sl } ∧ R (.ok (.ret .notImplemented)) s) :=
  .of_wp fun prog w A R s h => by obtain ⟨hp, g, d, tk, os⟩ := s; obtain ⟨hl, h⟩ := h; have f1 := F.sub_str_dict; wp_walk using wpAny_loadPart' hl; exact ⟨_, rfl, h⟩
theorem str_eq_declines_dict (b : Str) (u : Tok) (l : Addr) (c : Value) (es : Array DictEntry) (n : Nat) (dd : Option Addr) (sl : Array (Option Value)) :
    Meets (Builtin.«str.__eq__» ⟨[.str b u, .ref l], []⟩) (fun _ R s => s.heap.get? l = some { cls := c, dict := dd, data := .dict es n, slots := sl } ∧ R (.ok (.ret .notImplemented)) s) :=
  .of_wp fun prog w A R s h => by obtain ⟨hp, g, d, tk, os⟩ := s; obtain ⟨hl, h⟩ := h; wp_walk using wpAny_loadPart' hl, wpAny_load hl; exact ⟨_, rfl, h⟩
end PySem
namespace PySem.SeqAt
variable {A : Around} {s : Shared}
theorem RcAt.dict_str {l : Addr} {o : Obj} {es : Array DictEntry} {n : Nat} (b : Str) (u : Tok) (ho : s.heap.get? l = some o) (hc : o.cls = .type "dict") (hd : o.data = .dict es n) (hu : A.units < cLine) : RcAt A s (.ref l) (.str b u) false := fun prog w E Q h => by
  obtain ⟨cls, dd, data, sl⟩ := o
  simp only at hc hd
  subst hc hd
  exact rc_eq_decline_or (k := false) ⟨_, ho, rfl⟩ (typeIs_str s b u) (by decide) F.sub_str_dict F.slot_dict_eq F.slot_str_eq_refl
    (fun _ hq => call_meets F.slot_dict_eq ⟨_, ho, rfl⟩ F.entry_dict_eq (F.args_dict_eq_2 _ _) (dict_eq_declines_str l es n dd sl b u) ⟨ho, hq⟩)
    (fun _ hq => call_meets F.slot_str_eq_refl (typeIs_str s b u) F.entry_str_eq (F.args_str_eq_2 _ _) (str_eq_declines_dict b u l (.type "dict") es n dd sl) ⟨ho, hq⟩)
    (fun _ hq => wpAny_of_eq (rfl : isSame (.ref l) (.str b u) = pure false) hq) (.inr hu) h
theorem RcAt.str_dict {l : Addr} {o : Obj} {es : Array DictEntry} {n : Nat} (b : Str) (u : Tok) (ho : s.heap.get? l = some o) (hc : o.cls = .type "dict") (hd : o.data = .dict es n) (hu : A.units < cLine) : RcAt A s (.str b u) (.ref l) false := fun prog w E Q h => by
  obtain ⟨cls, dd, data, sl⟩ := o
  simp only at hc hd
  subst hc hd
  exact rc_eq_decline_or (k := false) (typeIs_str s b u) ⟨_, ho, rfl⟩ (by decide) F.sub_dict_str F.slot_str_eq F.slot_dict_eq_refl
    (fun _ hq => call_meets F.slot_str_eq (typeIs_str s b u) F.entry_str_eq (F.args_str_eq_2 _ _) (str_eq_declines_dict b u l (.type "dict") es n dd sl) ⟨ho, hq⟩)
    (fun _ hq => call_meets F.slot_dict_eq_refl ⟨_, ho, rfl⟩ F.entry_dict_eq (F.args_dict_eq_2 _ _) (dict_eq_declines_str l es n dd sl b u) ⟨ho, hq⟩)
    (fun _ hq => wpAny_of_eq (rfl : isSame (.str b u) (.ref l) = pure false) hq) (.inr hu) h
theorem EqAt.str_dict {l : Addr} {o : Obj} {es : Array DictEntry} {n : Nat} (b : Str) (u : Tok) (ho : s.heap.get? l = some o) (hc : o.cls = .type "dict") (hd : o.data = .dict es n) (hu : A.units < cLine) : EqAt A s (.str b u) (.ref l) false := fun prog w E Q h => by
  unfold eqBool
  refine wpAny_holding ?_
  refine wpAny_ite_split (fun hab => absurd (eq_of_beq hab) nofun) (fun _ => ?_)
  exact wpAny_bind (RcAt.str_dict b u ho hc hd hu prog w E _ (wpAny_truthy_bool h))
end PySem.SeqAt
namespace G1
open PySem PySem.Spec PyProof.Rows L2
/-- x == a text -/
def isSD (d : PyData) (z : Str) : Bool := match d with
  | .str x => decide (x = z)
  | _ => false
def rEqSX (K : PySem.W.Frag) : R2 := fun x y H Q => ∃ (w g : Addr) (d : PyData) (z : Str), y = .str z ∧ Th w g H x d ∧ Q (.bl (isSD d z)) H
section
variable {X : Cx} {K : PySem.W.Frag}
theorem op_eqSX (hK : X.K = K) (hu : X.A.units + 64 < cLine) : OpR X (compareOp .Eq) (rEqSX K) := by
  subst hK
  intro pins s σ H x y v u Q I rx ry h
  obtain ⟨w, g, d, z, rfl, t, q⟩ := h
  have ry0 := ry
  obtain ⟨tz, rfl⟩ := ry
  have fin : ∀ b, b = isSD d z → EP X pins σ Q (.bool b) s := fun b e => ⟨.bl b, H, I, rfl, e ▸ q⟩
  cases t with
  | non =>
    cases rx
    exact PySem.SeqAt.RcAt.none_str z tz _ _ _ _ (fin _ rfl)
  | bl b =>
    cases rx
    exact PySem.SeqAt.RcAt.bool_str b z tz _ _ _ _ (fin _ rfl)
  | int i =>
    obtain ⟨t, rfl⟩ := rx
    exact PySem.SeqAt.RcAt.int_str i t z tz _ _ _ _ (fin _ rfl)
  | str x =>
    obtain ⟨t, rfl⟩ := rx
    exact PySem.SeqAt.RcAt.str_str x t z tz _ _ _ _ (fin _ rfl)
  | lst _ _ hl _ =>
    cases rx
    obtain ⟨its, r1, p1, _⟩ := I.list (sqL_of hl)
    exact PySem.SeqAt.RcAt.list_str z tz p1.isList (by omega) _ _ _ _ (fin _ rfl)
  | tup hl _ =>
    cases rx
    obtain ⟨its, r1, p1, _⟩ := I.tuple (sqT_of hl)
    exact PySem.SeqAt.RcAt.tuple_str z tz p1 (by omega) _ _ _ _ (fin _ rfl)
  | dct _ _ hl _ =>
    cases rx
    obtain ⟨_, _, vs, _, o, es, ep, ho, hx, hd, _⟩ := I.hok _ _ hl
    exact PySem.SeqAt.RcAt.dict_str z tz ho hx.1 hd (by omega) _ _ _ _ (fin _ rfl)
/-- x in a tuple of texts -/
def rInSX (K : PySem.W.Frag) : R2 := fun x y H Q => ∃ (w g : Addr) (d : PyData) (p : Addr) (zs : List Str), y = .ref p ∧ SqT K H p (zs.map V.str) ∧ Th w g H x d ∧ Q (.bl (zs.any (isSD d))) H
theorem any_strs {d : PyData} : ∀ {zs : List Str} {us : List Value}, Vals (zs.map V.str) us → us.any (fun y => match y with | .str z _ => isSD d z | _ => false) = zs.any (isSD d)
  | [], _, .nil => rfl
  | z :: zs, _, .cons ⟨t, e⟩ r => by
    subst e
    rw [List.any_cons, List.any_cons, any_strs r]
theorem op_inSX (hK : X.K = K) (hu : X.A.units + 64 < cLine) : OpR X (compareOp .In) (rInSX K) := by
  subst hK
  intro pins s σ H x y v u Q I rx ry h
  obtain ⟨w, g, d, p, zs, rfl, hq, t, q⟩ := h
  cases ry
  obtain ⟨its, r, pl, hz⟩ := I.tuple hq
  have str_of : ∀ {zs : List Str} {us : List Value}, Vals (zs.map V.str) us → ∀ y ∈ us, ∃ z t, y = .str z t := by
    intro zs
    induction zs with
    | nil => intro us r; cases r; intro y hy; cases hy
    | cons z zs ih =>
      intro us r
      cases r with
      | cons r1 r2 =>
        obtain ⟨t, rfl⟩ := r1
        intro y hy
        rcases List.mem_cons.mp hy with rfl | hy
        · exact ⟨z, t, rfl⟩
        · exact ih r2 y hy
  refine PySem.SeqAt.in_tupleAt (fun y => match y with | .str z _ => isSD d z | _ => false) pl (fun y hy => ?_) ⟨.bl _, H, I, rfl, ?_⟩
  · obtain ⟨z, tz, rfl⟩ := str_of r y (by simpa using hy)
    have hu1 : X.A.in1.units < cLine := by
      have : X.A.in1.units ≤ X.A.units + 1 := by first | exact Nat.le_refl _ | exact Nat.le_succ _
      omega
    have fin : ∀ b, b = isSD d z → PySem.SeqAt.EqAt X.A.in1 s (.str z tz) v b → PySem.SeqAt.EqAt X.A.in1 s (.str z tz) v (isSD d z) := fun b e h => e ▸ h
    cases t with
    | non =>
      cases rx
      exact fin _ rfl (PySem.SeqAt.EqAt.str_none z tz)
    | bl b =>
      cases rx
      exact fin _ rfl (PySem.SeqAt.EqAt.str_bool z tz b)
    | int i =>
      obtain ⟨t, rfl⟩ := rx
      exact fin _ rfl (PySem.SeqAt.EqAt.str_int z tz i t)
    | str x =>
      obtain ⟨t, rfl⟩ := rx
      exact fin (z == x) (by rw [Bool.eq_iff_iff]; simp [isSD]; exact eq_comm) (PySem.SeqAt.EqAt.str_str z tz x t)
    | lst _ _ hl _ =>
      cases rx
      obtain ⟨its, r1, p1, _⟩ := I.list (sqL_of hl)
      exact fin _ rfl (PySem.SeqAt.EqAt.str_list z tz p1.isList hu1)
    | tup hl _ =>
      cases rx
      obtain ⟨its, r1, p1, _⟩ := I.tuple (sqT_of hl)
      exact fin _ rfl (PySem.SeqAt.EqAt.str_tuple z tz p1 hu1)
    | dct _ _ hl _ =>
      cases rx
      obtain ⟨_, _, vs, _, o, es, ep, ho, hx, hd, _⟩ := I.hok _ _ hl
      exact fin _ rfl (PySem.SeqAt.EqAt.str_dict z tz ho hx.1 hd hu1)
  · have := any_strs (d := d) r
    rw [show its.toArray.any (fun y => match y with | .str z _ => isSD d z | _ => false) = its.any (fun y => match y with | .str z _ => isSD d z | _ => false) by simp, this]
    exact q
/-- math.lcm -/
def rLcm : List V → Hp → VK → Prop := fun vs H Q => ∃ a b : Int, vs = [.int a, .int b] ∧ a.natAbs < 2 ^ 64 ∧ b.natAbs < 2 ^ 64 ∧ Q (.int ((Nat.lcm a.natAbs b.natAbs : Nat) : Int)) H
theorem cr_lcm : CallR X (.builtin "math.lcm") rLcm := by
  intro pins s σ H vs us Q I r h
  obtain ⟨a, b, rfl, ha, hb, q⟩ := h
  obtain ⟨t, u, rfl⟩ := Vals.int2 r
  exact PySem.W.mc_lcm ha hb fun _ => ⟨.int _, H, I.tok _, ⟨_, rfl⟩, q⟩
end
end G1
/-! text.upper() -/
namespace G1
open PySem PySem.Spec PyProof.Rows L2
theorem shifted_le {N : Nat} : ∀ {l : List (Nat × Nat × Nat)} {c k : Nat}, (l.all fun r => decide (r.2.2 + (r.2.1 - r.1) < N)) = true → Unicode.shifted l c = some k → k < N
  | [], c, k, _, h => by simp [Unicode.shifted] at h
  | (a, b, t) :: l, c, k, ha, h => by
    rw [List.all_cons, Bool.and_eq_true, decide_eq_true_eq] at ha
    unfold Unicode.shifted at h
    split at h
    · cases h
    · split at h
      · rename_i h1 h2
        cases h
        have := ha.1
        dsimp only at this
        omega
      · exact shifted_le ha.2 h
theorem lookup_mem {β : Type} : ∀ {l : List (Nat × β)} {c : Nat} {v : β}, l.lookup c = some v → ∃ k, (k, v) ∈ l
  | [], _, _, h => by simp at h
  | (k, u) :: l, c, v, h => by
    rw [List.lookup_cons] at h
    split at h
    · cases h
      exact ⟨k, List.Mem.head _⟩
    · obtain ⟨j, hj⟩ := lookup_mem h
      exact ⟨j, List.Mem.tail _ hj⟩
theorem upper_lt {c k : Nat} (h : k ∈ Unicode.upperOf c) : k < 16 ^ 8 ∨ k = c := by
  unfold Unicode.upperOf Unicode.image at h
  split at h
  · rename_i cs hc
    obtain ⟨j, hj⟩ := lookup_mem hc
    have key : (UnicodeData.severalUpper.all fun r => r.2.all fun k => decide (k < 16 ^ 8)) = true := by decide +kernel
    exact .inl (of_decide_eq_true (List.all_eq_true.mp (List.all_eq_true.mp key _ hj) _ h))
  · rw [List.mem_singleton] at h
    cases hs : Unicode.shifted UnicodeData.oneUpper c with
    | none => rw [hs] at h; exact .inr h
    | some m =>
      rw [hs] at h
      have : k = m := h
      subst this
      exact .inl (shifted_le (N := 16 ^ 8) (by decide +kernel) hs)
theorem mem_upper {x : Str} {k : Nat} (h : k ∈ (Txt.upper x).cps.toList) : ∃ c ∈ x.cps.toList, k ∈ Unicode.upperOf c := by
  unfold Txt.upper PySem.placed at h
  simp only [Array.mem_toList_iff, Array.mem_flatten, Array.mem_mapIdx] at h
  obtain ⟨a, ⟨i, hi, rfl⟩, hk⟩ := h
  exact ⟨x.cps[i], by simp, by simpa using hk⟩
theorem ok_upper {x : Str} (h : ∀ c ∈ x.cps.toList, c < 16 ^ 8) : ∀ c ∈ (Txt.upper x).cps.toList, c < 16 ^ 8 := fun k hk => by
  obtain ⟨c, hc, h2⟩ := mem_upper hk
  rcases upper_lt h2 with h3 | rfl
  · exact h3
  · exact h k hc
theorem Bt.upper {B W : Nat} {w g : Addr} {H : Hp} {x : Str} (h : ∀ c ∈ x.cps.toList, c < 16 ^ 8) (l : x.length ≤ W) : Bt B (3 * W) 0 w g H (.str (Txt.upper x)) :=
  ⟨_, .str _, by simp only [Ok]; exact ok_upper h, Nat.le_trans (len_upper x) (Nat.mul_le_mul_left 3 l), by simp [PyData.depth]⟩
def rUpper : V → List V → Hp → VK → Prop := fun x vs H Q => ∃ z, x = .str z ∧ vs = [] ∧ z.length ≤ 5592405 ∧ Q (.str (Txt.upper z)) H
section
variable {X : Cx}
theorem mt_upper : MtR X "str.upper" rUpper := by
  intro pins s σ H x vs v us Q I rx rv h
  obtain ⟨z, rfl, rfl, hz, q⟩ := h
  cases rv
  obtain ⟨t, rfl⟩ := rx
  exact PySem.SC.upper (fit_upper hz) ⟨.str _, H, I.tok _, ⟨_, rfl⟩, q⟩
end
/-- text of any signs, with some cut off, with more -/
def Ct (W : Nat) (l : List Nat) : Prop := l.length ≤ W ∧ ∀ k ∈ l, k < 16 ^ 8
theorem Ct.bt {B W : Nat} {w g : Addr} {H : Hp} {l : List Nat} (c : Ct W l) : Bt B W 0 w g H (.str (C l)) := Bt.code c.1 c.2
theorem Ct.app {W W' : Nat} {l m : List Nat} (a : Ct W l) (b : Ct W' m) : Ct (W + W') (l ++ m) :=
  ⟨by rw [List.length_append]; exact Nat.add_le_add a.1 b.1, fun k hk => (List.mem_append.mp hk).elim (a.2 k) (b.2 k)⟩
theorem Ct.cut {W : Nat} {l : List Nat} (a : Ct W l) (n m : Nat) : Ct W ((l.drop n).take m) :=
  ⟨by rw [List.length_take, List.length_drop]; have := a.1; omega, fun k hk => a.2 k (List.mem_of_mem_drop (List.mem_of_mem_take hk))⟩
theorem any_C (x : Str) : ∃ l, x = C l := ⟨x.cps.toList, rfl⟩
end G1
/-! draws from a list of two lists, a sum and a count, the list of cells named -/
namespace G1
open PySem PySem.Spec PyProof.Rows L2
def DkL (w g c : Addr) (H : Hp) : Prop := ∃ (gs cs : List Int) (k t : Int), w ≠ g ∧ c ≠ g ∧ c ≠ w ∧ H w = some (.lst [.ref g, .ref c, .int k, .int t]) ∧
  H g = some (.lst (gs.map V.int)) ∧ H c = some (.lst (cs.map V.int)) ∧ 0 < cs.length ∧ gs.length ≤ 1000 ∧ cs.length ≤ 1000
section
variable {w g c p : Addr} {H H' : Hp} {o : HO}
theorem DkL.same (D : DkL w g c H) (s : Same H H') : DkL w g c H' := by
  obtain ⟨gs, cs, k, t, h1, h2, h3, h4, h5, h6, h7⟩ := D
  exact ⟨gs, cs, k, t, h1, h2, h3, s _ _ h4, s _ _ h5, s _ _ h6, h7⟩
theorem DkL.fresh (D : DkL w g c H) (h : H p = none) : p ≠ w ∧ p ≠ g ∧ p ≠ c := by
  obtain ⟨gs, cs, k, t, h1, h2, h3, h4, h5, h6, h7⟩ := D
  exact ⟨(ne_of_none h4 h).symm, (ne_of_none h5 h).symm, (ne_of_none h6 h).symm⟩
theorem new_ofL (D : DkL w g c H) (hp : H p = none) (e : L2.upd H p o = H') : Same H H' ∧ DkL w g c H' ∧ Ac w g c H' p o := by
  subst e
  exact ⟨same_new hp, D.same (same_new hp), (D.fresh hp).1, (D.fresh hp).2.1, (D.fresh hp).2.2, upd_same⟩
theorem DkL.tup {a : Addr} {xs : List V} (D : DkL w g c H) (h : H a = some (.tup xs)) : Ac w g c H a (.tup xs) := by
  obtain ⟨gs, cs, k, t, h1, h2, h3, h4, h5, h6, h7⟩ := D
  exact ⟨ne_of h h4 (by intro z; cases z), ne_of h h5 (by intro z; cases z), ne_of h h6 (by intro z; cases z), h⟩
theorem DkL.upd {u : HO} (D : DkL w g c H) (n1 : p ≠ w) (n2 : p ≠ g) (n3 : p ≠ c) : DkL w g c (L2.upd H p u) := by
  obtain ⟨gs, cs, k, t, h1, h2, h3, h4, h5, h6, h7⟩ := D
  exact ⟨gs, cs, k, t, h1, h2, h3, (upd_ne n1.symm).trans h4, (upd_ne n2.symm).trans h5, (upd_ne n3.symm).trans h6, h7⟩
theorem dok_l : Dok (DkL w g c) w g c := ⟨fun D s => D.same s, fun D h => D.fresh h, fun D h => ⟨(D.tup h).nw, (D.tup h).ng, (D.tup h).nc⟩, fun D h1 h2 h3 => D.upd h1 h2 h3⟩
end
end G1
/-! things with no list in them, bounded: they stay whatever lists do -/
namespace G1
open PySem PySem.Spec PyProof.Rows L2
def Bp (W D : Nat) (w g : Addr) (H : Hp) (v : V) : Prop := ∃ d, Th w g H v d ∧ Bd (10 ^ 30) W D d ∧ Pu d
section
variable {W D W' D' : Nat} {w g w' g' : Addr} {H H' : Hp} {v : V} {vs : List V}
theorem Bp.bt (b : Bp W D w g H v) : Bt (10 ^ 30) W D w g H v := let ⟨d, t, bd, _⟩ := b; ⟨d, t, bd⟩
theorem Bp.keep (b : Bp W D w g H v) (s : TupKeep H H') : Bp W D w' g' H' v := let ⟨d, t, bd, p⟩ := b; ⟨d, t.pu s p, bd, p⟩
theorem Bp.go (b : Bp W D w g H v) (T : TupOk w g H) (s : Go w g H H') : Bp W D w g H' v := b.keep fun a xs h => s a _ (T a xs h).1 (T a xs h).2 h
theorem Bp.mono (b : Bp W D w g H v) (h1 : W ≤ W') (h2 : D ≤ D') : Bp W' D' w g H v := let ⟨d, t, bd, p⟩ := b; ⟨d, t, bd.mono (Nat.le_refl _) h1 h2, p⟩
def BpA (W D : Nat) (w g : Addr) (H : Hp) (vs : List V) : Prop := ∀ v ∈ vs, Bp W D w g H v
theorem BpA.keep (b : BpA W D w g H vs) (s : TupKeep H H') : BpA W D w' g' H' vs := fun v h => (b v h).keep s
theorem BpA.go (b : BpA W D w g H vs) (T : TupOk w g H) (s : Go w g H H') : BpA W D w g H' vs := fun v h => (b v h).go T s
theorem BpA.snoc (b : BpA W D w g H vs) (x : Bp W D w g H v) : BpA W D w g H (vs ++ [v]) := fun u h => (List.mem_append.mp h).elim (b u) fun h => by rw [List.mem_singleton.mp h]; exact x
theorem BpA.nil : BpA W D w g H [] := fun _ h => by cases h
/-- as one tuple -/
theorem BpA.all (b : BpA W D w g H vs) : ∃ ds, ThAll w g H vs ds ∧ BdL (10 ^ 30) (vs.length * (W + 1)) D ds ∧ PuA ds := by
  induction vs with
  | nil => exact ⟨[], .nil, ⟨fun _ h => (by cases h), Nat.zero_le _, fun _ h => (by cases h)⟩, by simp [PuA]⟩
  | cons v vs ih =>
    obtain ⟨ds, t, bd, p⟩ := ih fun u h => b u (List.mem_cons_of_mem _ h)
    obtain ⟨d, t1, b1, p1⟩ := b v (List.mem_cons_self ..)
    refine ⟨d :: ds, .cons t1 t, ((BdL.one b1).app bd).mono (Nat.le_refl _) ?_ (Nat.le_refl _), by simp only [PuA]; exact ⟨p1, p⟩⟩
    rw [List.length_cons, Nat.succ_mul]
    omega
theorem BpA.tup {a : Addr} (b : BpA W D w g H vs) (h : H a = some (.tup vs)) : Bp (vs.length * (W + 1)) (D + 1) w g H (.ref a) := by
  obtain ⟨ds, t, bd, p⟩ := b.all
  exact ⟨.tuple ds, .tup h t, bd.tup, by simp only [Pu]; exact p⟩
theorem Bp.int {i : Int} (h : i.natAbs ≤ 10 ^ 30) : Bp 127 0 w g H (.int i) := ⟨_, .int i, bd_int h (by decide), by simp [Pu]⟩
def shortS (z : Str) : Bool := decide (z.length ≤ 20) && z.cps.toList.all fun c => decide (c < 16 ^ 8)
theorem Bp.str {z : Str} (h : shortS z = true) : Bp 127 0 w g H (.str z) := by
  unfold shortS at h
  rw [Bool.and_eq_true, decide_eq_true_eq, List.all_eq_true] at h
  exact ⟨_, .str z, ⟨by simp only [Ok]; exact fun c hc => of_decide_eq_true (h.2 c hc), Nat.le_trans h.1 (by decide), by simp [PyData.depth]⟩, by simp [Pu]⟩
theorem BpA.cons (x : Bp W D w g H v) (b : BpA W D w g H vs) : BpA W D w g H (v :: vs) := fun u h => by
  rcases List.mem_cons.mp h with rfl | h
  · exact x
  · exact b u h
def ShA (vs : List V) : Prop := ∀ v ∈ vs, ∃ z, v = .str z ∧ shortS z = true
theorem ShA.nil : ShA [] := fun _ h => by cases h
theorem ShA.cons {z : Str} (h : shortS z = true) (b : ShA vs) : ShA (.str z :: vs) := fun u hu => by
  rcases List.mem_cons.mp hu with rfl | hu
  · exact ⟨z, rfl, h⟩
  · exact b u hu
/-- lists of numbers, lists of words -/
def NlA (w g c : Addr) (H : Hp) (lo hi : Int) (vs : List V) : Prop := ∀ v ∈ vs, ∃ p xs, v = .ref p ∧ Ac w g c H p (.lst xs) ∧ NmA lo hi xs ∧ xs.length ≤ 10
def WlA (w g c : Addr) (H : Hp) (vs : List V) : Prop := ∀ v ∈ vs, ∃ p xs, v = .ref p ∧ Ac w g c H p (.lst xs) ∧ ShA xs ∧ 0 < xs.length ∧ xs.length ≤ 10
theorem NlA.nil {c : Addr} {lo hi : Int} : NlA w g c H lo hi [] := fun _ h => by cases h
theorem NlA.cons {c p : Addr} {lo hi : Int} {xs : List V} (h : Ac w g c H p (.lst xs)) (n : NmA lo hi xs) (l : xs.length ≤ 10) (b : NlA w g c H lo hi vs) : NlA w g c H lo hi (.ref p :: vs) := fun u hu => by
  rcases List.mem_cons.mp hu with rfl | hu
  · exact ⟨p, xs, rfl, h, n, l⟩
  · exact b u hu
theorem WlA.nil {c : Addr} : WlA w g c H [] := fun _ h => by cases h
theorem WlA.cons {c p : Addr} {xs : List V} (h : Ac w g c H p (.lst xs)) (n : ShA xs) (l0 : 0 < xs.length) (l : xs.length ≤ 10) (b : WlA w g c H vs) : WlA w g c H (.ref p :: vs) := fun u hu => by
  rcases List.mem_cons.mp hu with rfl | hu
  · exact ⟨p, xs, rfl, h, n, l0, l⟩
  · exact b u hu
end
end G1
/-! list(text) -/
namespace G1
open PySem PySem.Spec PyProof.Rows L2
def chs (z : Str) : List V := z.cps.toList.map fun c => V.str (C [c])
section
variable {X : Cx}
theorem call_listS (hc : X.calm = true) : CallR X (.type "list") (fun xs H Q => ∃ z, xs = [.str z] ∧ z.length ≤ sizeLine ∧ ∀ q, H q = none → Q (.ref q) (upd H q (.lst (chs z)))) := by
  intro pins s σ H xs us Q I r h
  obtain ⟨z, rfl, hz, q⟩ := h
  obtain ⟨u, rfl, ru⟩ := vals1 r
  obtain ⟨t, rfl⟩ := ru
  refine PySem.call_list_str (hn := hz) (I.ok.hd hc) z t fun h' tk acc c' hk e hi => ?_
  have hl : acc.toList.length = (chs z).length := by rw [chs, List.length_map, Array.length_toList, Array.length_toList]; exact hi.1
  refine ⟨.ref s.heap.objs.size, upd H s.heap.objs.size (.lst (chs z)), I.laid hk (Nat.le_refl _) ⟨by rw [chs, List.length_map, Array.length_toList]; exact hz, acc.toList, c', ?_, by rw [Array.toArray_toList]; exact e⟩, rfl, q _ (I.hok.fresh (Nat.le_refl _))⟩
  refine vals_of_idx _ _ hl fun j u hj => ?_
  obtain ⟨c, t', hc, rfl⟩ := hi.2 j u (by rw [← Array.getElem?_toList]; exact hj)
  refine ⟨.str (C [c]), ?_, ⟨t', rfl⟩⟩
  rw [chs, List.getElem?_map, Array.getElem?_toList, hc]
  rfl
end
theorem chs_C (l : List Nat) : chs (C l) = l.map fun c => V.str (C [c]) := rfl
theorem chs_bt {B : Nat} {w g : Addr} {H : Hp} : ∀ {l : List Nat}, (∀ k ∈ l, k < 16 ^ 8) → BtL B (l.length * 2) 0 w g H (l.map fun c => V.str (C [c]))
  | [], _ => BtL.nil
  | c :: l, h => (BtL.cons (Bt.code (l := [c]) (Nat.le_refl 1) (fun k hk => h k (by rw [List.mem_singleton.mp hk]; exact List.Mem.head _))) (chs_bt (l := l) fun k hk => h k (List.Mem.tail _ hk))).mono (Nat.le_refl _) (by rw [List.length_cons]; omega) (by decide)
end G1
/-! tuple(text) -/
namespace G1
open PySem PySem.Spec PyProof.Rows L2
theorem call_tupS {X : Cx} (hc : X.calm = true) : CallR X (.type "tuple") (fun xs H Q => ∃ z, xs = [.str z] ∧ z.length ≤ sizeLine ∧ ∀ q, H q = none → Q (.ref q) (upd H q (.tup (chs z)))) := by
  intro pins s σ H xs us Q I r h
  obtain ⟨z, rfl, hz, q⟩ := h
  obtain ⟨u, rfl, ru⟩ := vals1 r
  obtain ⟨t, rfl⟩ := ru
  refine PySem.call_tuple_str (hsz := hz) (I.ok.hd hc) z t fun h' tk acc kp hi => ?_
  have hl : acc.toList.length = (chs z).length := by rw [chs, List.length_map, Array.length_toList, Array.length_toList]; exact hi.1
  have hv : Vals (chs z) acc.toList := by
    refine vals_of_idx _ _ hl fun j u hj => ?_
    obtain ⟨c, t', hc, rfl⟩ := hi.2 j u (by rw [← Array.getElem?_toList]; exact hj)
    refine ⟨.str (C [c]), ?_, ⟨t', rfl⟩⟩
    rw [chs, List.getElem?_map, Array.getElem?_toList, hc]
    rfl
  have I1 : Inv X pins σ H { s with heap := h', toks := tk } := I.kept (t' := tk) kp
  have hz2 : (chs z).length ≤ sizeLine := by rw [chs, List.length_map, Array.length_toList]; exact hz
  have I2 : Inv X pins σ (upd H h'.objs.size (.tup (chs z))) { s with heap := h'.push { cls := .type "tuple", data := .seq acc }, toks := tk } :=
    I1.laid (t' := tk) (fun b o e => Heap.get?_push_of_some _ e) (Nat.le_refl _) (show ObjOk X.prog X.w _ _ _ (.tup (chs z)) from ⟨hz2, acc.toList, hv, by rw [Array.toArray_toList]; exact IsTup.new _ _⟩)
  exact ⟨.ref h'.objs.size, _, I2, rfl, q _ (I1.hok.fresh (Nat.le_refl _))⟩
end G1
/-! worths of heaps, and where they come round (plain Lean) -/
namespace Gm
open Row
def mexF : Nat → Nat → List Nat → Nat
  | 0, k, _ => k
  | f + 1, k, l => if k ∈ l then mexF f (k + 1) l else k
/-- the least number that isn't there -/
def mex (l : List Nat) : Nat := mexF l.length 0 l
structure IsMex (l : List Nat) (k : Nat) : Prop where
  no : k ∉ l
  all : ∀ j, j < k → j ∈ l
theorem IsMex.uniq {l : List Nat} {k k' : Nat} (a : IsMex l k) (b : IsMex l k') : k = k' := by
  rcases Nat.lt_trichotomy k k' with h | h | h
  · exact absurd (b.all k h) a.no
  · exact h
  · exact absurd (a.all k' h) b.no
theorem all_le : ∀ (k : Nat) (l : List Nat), (∀ j, j < k → j ∈ l) → k ≤ l.length
  | 0, _, _ => Nat.zero_le _
  | k + 1, l, h => by
    have hk := h k (Nat.lt_succ_self k)
    have ih := all_le k (l.erase k) fun j hj => (List.mem_erase_of_ne (by omega)).mpr (h j (by omega))
    rw [List.length_erase_of_mem hk] at ih
    have := List.length_pos_of_mem hk
    omega
theorem mexF_is : ∀ (f k : Nat) (l : List Nat), (∀ j, j < k → j ∈ l) → f + k = l.length → IsMex l (mexF f k l)
  | 0, k, l, h, e => by
    refine ⟨fun hk => ?_, h⟩
    have := all_le (k + 1) l fun j hj => by
      by_cases c : j = k
      · rw [c]; exact hk
      · exact h j (by omega)
    omega
  | f + 1, k, l, h, e => by
    unfold mexF
    split
    · rename_i hk
      refine mexF_is f (k + 1) l (fun j hj => ?_) (by omega)
      by_cases c : j = k
      · rw [c]; exact hk
      · exact h j (by omega)
    · rename_i hk
      exact ⟨hk, h⟩
theorem mex_is (l : List Nat) : IsMex l (mex l) := mexF_is _ _ l (fun j hj => by omega) rfl
theorem mex_le (l : List Nat) : mex l ≤ l.length := all_le _ _ (mex_is l).all
theorem mex_congr {l l' : List Nat} (h : ∀ k, k ∈ l ↔ k ∈ l') : mex l = mex l' :=
  (mex_is l).uniq ⟨fun z => (mex_is l').no ((h _).mp z), fun j hj => (h j).mpr ((mex_is l').all j hj)⟩
def near (gs row : List Nat) (n : Nat) : List Nat := (gs.filter fun t => decide (t ≤ n)).map fun t => row.getD (n - t) 0
def wrow (gs : List Nat) : Nat → List Nat
  | 0 => []
  | n + 1 => wrow gs n ++ [mex (near gs (wrow gs n) n)]
/-- what a heap is worth -/
def wth (gs : List Nat) (n : Nat) : Nat := mex (near gs (wrow gs n) n)
theorem wrow_succ (gs : List Nat) (n : Nat) : wrow gs (n + 1) = wrow gs n ++ [wth gs n] := rfl
theorem wrow_eq (gs : List Nat) : ∀ n, wrow gs n = (List.range n).map (wth gs)
  | 0 => rfl
  | n + 1 => by rw [wrow_succ, wrow_eq gs n, List.range_succ, List.map_append]; rfl
theorem wrow_len (gs : List Nat) (n : Nat) : (wrow gs n).length = n := by rw [wrow_eq, List.length_map, List.length_range]
theorem wrow_get (gs : List Nat) {n i : Nat} (h : i < n) : (wrow gs n)[i]? = some (wth gs i) := by
  rw [wrow_eq, List.getElem?_map, List.getElem?_range h]
  rfl
theorem wrow_getD (gs : List Nat) {n i : Nat} (h : i < n) : (wrow gs n).getD i 0 = wth gs i := by
  rw [List.getD_eq_getElem?_getD, wrow_get gs h]
  rfl
theorem wrow_take (gs : List Nat) {n h : Nat} (hh : h ≤ n) : (wrow gs n).take h = wrow gs h := by
  rw [wrow_eq, wrow_eq, ← List.map_take, List.take_range, Nat.min_eq_left hh]
def nearW (gs : List Nat) (n : Nat) : List Nat := (gs.filter fun t => decide (t ≤ n)).map fun t => wth gs (n - t)
theorem near_eq {gs : List Nat} (h1 : ∀ t, t ∈ gs → 1 ≤ t) (n : Nat) : near gs (wrow gs n) n = nearW gs n := by
  unfold near nearW
  refine List.map_congr_left fun t ht => ?_
  obtain ⟨a, b⟩ := List.mem_filter.mp ht
  have := h1 t a
  have := of_decide_eq_true b
  exact wrow_getD gs (by omega)
theorem wth_rec {gs : List Nat} (h1 : ∀ t, t ∈ gs → 1 ≤ t) (n : Nat) : wth gs n = mex (nearW gs n) := by
  unfold wth
  rw [near_eq h1]
theorem mem_nearW {gs : List Nat} {n k : Nat} : k ∈ nearW gs n ↔ ∃ t, t ∈ gs ∧ t ≤ n ∧ wth gs (n - t) = k := by
  unfold nearW
  rw [List.mem_map]
  constructor
  · rintro ⟨t, ht, e⟩
    obtain ⟨a, b⟩ := List.mem_filter.mp ht
    exact ⟨t, a, of_decide_eq_true b, e⟩
  · rintro ⟨t, a, b, e⟩
    exact ⟨t, List.mem_filter.mpr ⟨a, decide_eq_true b⟩, e⟩
theorem wth_le {gs : List Nat} (h1 : ∀ t, t ∈ gs → 1 ≤ t) (n : Nat) : wth gs n ≤ gs.length := by
  rw [wth_rec h1]
  refine Nat.le_trans (mex_le _) ?_
  unfold nearW
  rw [List.length_map]
  exact List.length_filter_le ..
theorem wth_congr {gs gs' : List Nat} (h1 : ∀ t, t ∈ gs → 1 ≤ t) (hm : ∀ t, t ∈ gs ↔ t ∈ gs') (n : Nat) : wth gs n = wth gs' n := by
  induction n using Nat.strongRecOn with
  | _ n ih =>
    rw [wth_rec h1, wth_rec fun t ht => h1 t ((hm t).mpr ht)]
    refine mex_congr fun k => ?_
    rw [mem_nearW, mem_nearW]
    constructor
    · rintro ⟨t, a, b, e⟩
      have := h1 t a
      exact ⟨t, (hm t).mp a, b, by rw [← ih (n - t) (by omega)]; exact e⟩
    · rintro ⟨t, a, b, e⟩
      have := h1 t ((hm t).mpr a)
      exact ⟨t, (hm t).mpr a, b, by rw [ih (n - t) (by omega)]; exact e⟩
/-- the last ones ahead of a number -/
def win (L : Nat) (f : Nat → Nat) (n : Nat) : List Nat := (List.range (min L n)).map fun i => f (n - min L n + i)
theorem win_len (L : Nat) (f : Nat → Nat) (n : Nat) : (win L f n).length = min L n := by unfold win; rw [List.length_map, List.length_range]
theorem win_get {L : Nat} {f : Nat → Nat} {n i : Nat} (h : i < min L n) : (win L f n)[i]? = some (f (n - min L n + i)) := by
  unfold win
  rw [List.getElem?_map, List.getElem?_range h]
  rfl
theorem win_row (gs : List Nat) (L n : Nat) : (wrow gs n).drop (n - L) = win L (wth gs) n := by
  apply List.ext_getElem?
  intro i
  rw [List.getElem?_drop]
  by_cases hi : i < min L n
  · rw [win_get hi, wrow_get gs (by omega)]
    congr 2
    omega
  · rw [List.getElem?_eq_none (by rw [wrow_len]; omega), List.getElem?_eq_none (by rw [win_len]; omega)]
theorem per_of {gs : List Nat} {L h n : Nat} (hL : ∀ t, t ∈ gs → 1 ≤ t ∧ t ≤ L) (hn : h < n) (e : win L (wth gs) h = win L (wth gs) n) :
    L ≤ h ∧ (∀ j, j < L → wth gs (h - L + j) = wth gs (n - L + j)) ∧ ∀ i, wth gs (h + i) = wth gs (n + i) := by
  have el : min L h = min L n := by rw [← win_len L (wth gs) h, e, win_len]
  have hl : L ≤ h := by omega
  have ew : ∀ j, j < L → wth gs (h - L + j) = wth gs (n - L + j) := fun j hj => by
    have h1 := win_get (f := wth gs) (L := L) (n := h) (i := j) (by omega)
    rw [e, win_get (by omega)] at h1
    have := Option.some.inj h1
    rw [Nat.min_eq_left hl, Nat.min_eq_left (by omega)] at this
    exact this.symm
  refine ⟨hl, ew, fun i => ?_⟩
  induction i using Nat.strongRecOn with
  | _ i ih =>
    have h1 : ∀ t, t ∈ gs → 1 ≤ t := fun t ht => (hL t ht).1
    rw [wth_rec h1, wth_rec h1]
    have key : ∀ t, t ∈ gs → wth gs (h + i - t) = wth gs (n + i - t) := fun t ht => by
      have := hL t ht
      by_cases c : t ≤ i
      · rw [show h + i - t = h + (i - t) by omega, show n + i - t = n + (i - t) by omega]
        exact ih (i - t) (by omega)
      · have := ew (L + i - t) (by omega)
        rw [show h - L + (L + i - t) = h + i - t by omega, show n - L + (L + i - t) = n + i - t by omega] at this
        exact this
    refine mex_congr fun k => ?_
    rw [mem_nearW, mem_nearW]
    constructor
    · rintro ⟨t, a, b, e⟩
      have := hL t a
      exact ⟨t, a, by omega, by rw [← key t a]; exact e⟩
    · rintro ⟨t, a, b, e⟩
      have := hL t a
      exact ⟨t, a, by omega, by rw [key t a]; exact e⟩
/-! all games: 256 of them -/
def gm (m : Nat) : List Nat := (List.range 9).filter fun t => decide (1 ≤ t) && m.testBit (t - 1)
def okR (gs row : List Nat) : Bool := (List.range row.length).all fun n => row.getD n 0 == mex ((gs.filter fun t => decide (t ≤ n)).map fun t => row.getD (n - t) 0)
theorem okR_row {gs row : List Nat} (h1 : ∀ t, t ∈ gs → 1 ≤ t) (h : okR gs row = true) : ∀ n, n ≤ row.length → row.take n = wrow gs n
  | 0, _ => by rw [List.take_zero]; rfl
  | n + 1, hn => by
    have ih := okR_row h1 h n (by omega)
    unfold okR at h
    rw [List.all_eq_true] at h
    have e := eq_of_beq (h n (List.mem_range.mpr (by omega)))
    have e2 : row[n]? = some (wth gs n) := by
      rw [List.getElem?_eq_getElem (show n < row.length by omega)]
      rw [List.getD_eq_getElem?_getD, List.getElem?_eq_getElem (show n < row.length by omega)] at e
      rw [show row[n] = _ from e]
      unfold wth
      rw [← ih]
      congr 2
      unfold near
      refine List.map_congr_left fun t ht => ?_
      obtain ⟨a, b⟩ := List.mem_filter.mp ht
      have h2 := h1 t a
      have h3 := of_decide_eq_true b
      rw [List.getD_eq_getElem?_getD, List.getD_eq_getElem?_getD, List.getElem?_take, if_pos (by omega)]
    rw [wrow_succ, ← ih, List.take_succ, e2]
    rfl
def okG (m : Nat) (d : List Nat × Nat) : Bool := okR (gm m) d.1 && decide (d.2 < d.1.length) && decide (d.1.length ≤ 38) && ((d.1.take d.2).drop (d.2 - 8) == d.1.drop (d.1.length - 8))
def rowsD : List (List Nat × Nat) := [([0,0,0,0,0,0,0,0,0], 8),
  ([0,1,0,1,0,1,0,1,0,1], 8),
  ([0,0,1,1,0,0,1,1,0,0,1,1], 8),
  ([0,1,2,0,1,2,0,1,2,0,1], 8),
  ([0,0,0,1,1,1,0,0,0,1,1,1,0,0], 8),
  ([0,1,0,1,0,1,0,1,0,1], 8),
  ([0,0,1,1,2,0,0,1,1,2,0,0,1], 8),
  ([0,1,2,3,0,1,2,3,0,1,2,3], 8),
  ([0,0,0,0,1,1,1,1,0,0,0,0,1,1,1,1], 8),
  ([0,1,0,1,2,0,1,0,1,2,0,1,0], 8),
  ([0,0,1,1,2,2,0,0,1,1,2,2,0,0], 8),
  ([0,1,2,0,1,2,0,1,2,0,1], 8),
  ([0,0,0,1,1,1,2,0,0,0,1,1,1,2,0], 8),
  ([0,1,0,1,2,3,2,0,1,0,1,2,3,2,0], 8),
  ([0,0,1,1,2,2,0,0,1,1,2,2,0,0], 8),
  ([0,1,2,3,4,0,1,2,3,4,0,1,2], 8),
  ([0,0,0,0,0,1,1,1,1,1,0,0,0,0,0,1,1,1], 8),
  ([0,1,0,1,0,1,0,1,0,1], 8),
  ([0,0,1,1,0,2,1,0,0,1,1,0,2,1,0], 8),
  ([0,1,2,0,1,2,0,1,2,0,1], 8),
  ([0,0,0,1,1,1,2,2,0,0,0,1,1,1,2,2], 8),
  ([0,1,0,1,0,1,0,1,0,1], 8),
  ([0,0,1,1,2,2,3,0,0,1,1,2,2,3,0], 8),
  ([0,1,2,3,0,1,2,3,0,1,2,3], 8),
  ([0,0,0,0,1,1,1,1,2,0,0,0,0,1,1,1,1], 8),
  ([0,1,0,1,2,3,2,3,0,1,0,1,2,3,2,3], 8),
  ([0,0,1,1,2,2,3,0,0,1,1,2,2,3,0], 8),
  ([0,1,2,0,1,2,0,1,2,0,1], 8),
  ([0,0,0,1,1,1,2,2,0,0,0,1,1,1,2,2], 8),
  ([0,1,0,1,2,3,2,3,0,1,0,1,2,3,2,3], 8),
  ([0,0,1,1,2,2,3,0,0,1,1,2,2,3,0], 8),
  ([0,1,2,3,4,5,0,1,2,3,4,5,0,1], 8),
  ([0,0,0,0,0,0,1,1,1,1,1,1,0,0,0,0,0,0,1,1], 8),
  ([0,1,0,1,0,1,2,0,1,0,1,0,1,2,0], 8),
  ([0,0,1,1,0,0,1,1,0,0,1,1], 8),
  ([0,1,2,0,1,2,3,0,1,2,0,1,2,3,0], 8),
  ([0,0,0,1,1,1,2,2,2,0,0,0,1,1,1,2,2], 8),
  ([0,1,0,1,0,1,2,3,2,0,1,0,1,0,1,2,3], 8),
  ([0,0,1,1,2,0,3,1,2,0,0,1,1,2,0,3,1], 8),
  ([0,1,2,3,0,1,2,3,0,1,2,3], 8),
  ([0,0,0,0,1,1,1,1,2,2,0,0,0,0,1,1,1,1], 8),
  ([0,1,0,1,2,0,1,0,1,2,0,1,0], 8),
  ([0,0,1,1,2,2,3,3,0,0,1,1,2,2,3,3], 8),
  ([0,1,2,0,1,2,3,4,0,1,2,0,1,2,3,4], 8),
  ([0,0,0,1,1,1,2,2,2,0,0,0,1,1,1,2,2], 8),
  ([0,1,0,1,2,3,2,0,1,0,1,2,3,2,0], 8),
  ([0,0,1,1,2,2,3,3,0,0,1,1,2,2,3,3], 8),
  ([0,1,2,3,4,0,1,2,3,4,0,1,2], 8),
  ([0,0,0,0,0,1,1,1,1,1,2,0,0,0,0,0,1,1,1], 8),
  ([0,1,0,1,0,1,2,3,2,3,2,0,1,0,1,0,1,2,3], 8),
  ([0,0,1,1,0,2,1,3,0,2,1,0,0,1,1,0,2,1,3], 8),
  ([0,1,2,0,1,2,3,0,1,2,0,1,2,3,0], 8),
  ([0,0,0,1,1,1,2,2,2,0,0,0,1,1,1,2,2], 8),
  ([0,1,0,1,0,1,2,3,2,3,2,0,1,0,1,0,1,2,3], 8),
  ([0,0,1,1,2,2,3,3,0,0,1,1,2,2,3,3], 8),
  ([0,1,2,3,0,1,2,3,0,1,2,3], 8),
  ([0,0,0,0,1,1,1,1,2,2,0,0,0,0,1,1,1,1], 8),
  ([0,1,0,1,2,3,2,3,4,0,1,0,1,2,3,2,3], 8),
  ([0,0,1,1,2,2,3,3,0,0,1,1,2,2,3,3], 8),
  ([0,1,2,0,1,2,3,4,5,3,0,1,2,0,1,2,3,4], 8),
  ([0,0,0,1,1,1,2,2,2,0,0,0,1,1,1,2,2], 8),
  ([0,1,0,1,2,3,2,3,4,0,1,0,1,2,3,2,3], 8),
  ([0,0,1,1,2,2,3,3,0,0,1,1,2,2,3,3], 8),
  ([0,1,2,3,4,5,6,0,1,2,3,4,5,6,0], 8),
  ([0,0,0,0,0,0,0,1,1,1,1,1,1,1,0,0,0,0,0,0,0,1], 8),
  ([0,1,0,1,0,1,0,1,0,1], 8),
  ([0,0,1,1,0,0,1,1,2,0,0,1,1,0,0,1,1], 8),
  ([0,1,2,0,1,2,0,1,2,0,1], 8),
  ([0,0,0,1,1,1,0,2,2,1,0,0,0,1,1,1,0,2], 8),
  ([0,1,0,1,0,1,0,1,0,1], 8),
  ([0,0,1,1,2,0,0,1,1,2,0,0,1], 8),
  ([0,1,2,3,0,1,2,3,0,1,2,3], 8),
  ([0,0,0,0,1,1,1,1,2,2,2,0,0,0,0,1,1,1,1], 8),
  ([0,1,0,1,2,0,1,2,0,1,0,1,2,0,1,2], 8),
  ([0,0,1,1,2,2,0,3,1,0,2,1,0,2,1,0,2,1,0], 16),
  ([0,1,2,0,1,2,0,1,2,0,1], 8),
  ([0,0,0,1,1,1,2,2,2,3,0,0,0,1,1,1,2,2], 8),
  ([0,1,0,1,2,3,2,3,0,1,0,1,2,3,2,3], 8),
  ([0,0,1,1,2,2,0,3,1,4,2,0,0,1,1,2,2,0,3], 8),
  ([0,1,2,3,4,0,1,2,3,4,0,1,2], 8),
  ([0,0,0,0,0,1,1,1,1,1,2,2,0,0,0,0,0,1,1,1], 8),
  ([0,1,0,1,0,1,0,1,0,1], 8),
  ([0,0,1,1,0,2,1,3,2,2,0,3,1,0,0,1,1,2,2,3,3,2,0,0,1,1,0,2,1,3], 8),
  ([0,1,2,0,1,2,0,1,2,0,1], 8),
  ([0,0,0,1,1,1,2,2,2,3,0,0,0,1,1,1,2,2], 8),
  ([0,1,0,1,0,1,0,1,0,1], 8),
  ([0,0,1,1,2,2,3,3,4,0,0,1,1,2,2,3,3], 8),
  ([0,1,2,3,0,1,2,3,0,1,2,3], 8),
  ([0,0,0,0,1,1,1,1,2,2,2,0,0,0,0,1,1,1,1], 8),
  ([0,1,0,1,2,3,2,3,0,1,0,1,2,3,2,3], 8),
  ([0,0,1,1,2,2,3,3,4,0,0,1,1,2,2,3,3], 8),
  ([0,1,2,0,1,2,0,1,2,0,1], 8),
  ([0,0,0,1,1,1,2,2,2,3,0,0,0,1,1,1,2,2], 8),
  ([0,1,0,1,2,3,2,3,0,1,0,1,2,3,2,3], 8),
  ([0,0,1,1,2,2,3,3,4,0,0,1,1,2,2,3,3], 8),
  ([0,1,2,3,4,5,0,1,2,3,4,5,0,1], 8),
  ([0,0,0,0,0,0,1,1,1,1,1,1,2,0,0,0,0,0,0,1,1], 8),
  ([0,1,0,1,0,1,2,3,2,3,2,3,0,1,0,1,0,1,2,3], 8),
  ([0,0,1,1,0,0,1,1,2,0,3,1,2,0,0,1,1,0,0,1,1], 8),
  ([0,1,2,0,1,2,3,4,0,1,2,0,1,2,3,4], 8),
  ([0,0,0,1,1,1,2,2,2,3,0,0,0,1,1,1,2,2], 8),
  ([0,1,0,1,0,1,2,3,2,3,2,3,0,1,0,1,0,1,2,3], 8),
  ([0,0,1,1,2,0,3,1,2,0,0,1,1,2,0,3,1], 8),
  ([0,1,2,3,0,1,2,3,0,1,2,3], 8),
  ([0,0,0,0,1,1,1,1,2,2,2,0,0,0,0,1,1,1,1], 8),
  ([0,1,0,1,2,0,1,2,3,2,0,1,2,0,1,0,1,2,0,1,2], 8),
  ([0,0,1,1,2,2,3,3,4,0,0,1,1,2,2,3,3], 8),
  ([0,1,2,0,1,2,3,4,0,1,2,0,1,2,3,4], 8),
  ([0,0,0,1,1,1,2,2,2,3,0,0,0,1,1,1,2,2], 8),
  ([0,1,0,1,2,3,2,3,4,5,0,1,0,1,2,3,2,3], 8),
  ([0,0,1,1,2,2,3,3,4,0,0,1,1,2,2,3,3], 8),
  ([0,1,2,3,4,0,1,2,3,4,0,1,2], 8),
  ([0,0,0,0,0,1,1,1,1,1,2,2,0,0,0,0,0,1,1,1], 8),
  ([0,1,0,1,0,1,2,3,2,3,2,3,0,1,0,1,0,1,2,3], 8),
  ([0,0,1,1,0,2,1,3,2,2,3,3,0,0,1,1,0,2,1,3], 8),
  ([0,1,2,0,1,2,3,4,5,3,4,0,1,2,0,1,2,3,4], 8),
  ([0,0,0,1,1,1,2,2,2,3,0,0,0,1,1,1,2,2], 8),
  ([0,1,0,1,0,1,2,3,2,3,2,3,0,1,0,1,0,1,2,3], 8),
  ([0,0,1,1,2,2,3,3,4,0,0,1,1,2,2,3,3], 8),
  ([0,1,2,3,0,1,2,3,0,1,2,3], 8),
  ([0,0,0,0,1,1,1,1,2,2,2,0,0,0,0,1,1,1,1], 8),
  ([0,1,0,1,2,3,2,3,4,5,0,1,0,1,2,3,2,3], 8),
  ([0,0,1,1,2,2,3,3,4,0,0,1,1,2,2,3,3], 8),
  ([0,1,2,0,1,2,3,4,5,3,4,0,1,2,0,1,2,3,4], 8),
  ([0,0,0,1,1,1,2,2,2,3,0,0,0,1,1,1,2,2], 8),
  ([0,1,0,1,2,3,2,3,4,5,0,1,0,1,2,3,2,3], 8),
  ([0,0,1,1,2,2,3,3,4,0,0,1,1,2,2,3,3], 8),
  ([0,1,2,3,4,5,6,7,0,1,2,3,4,5,6,7], 8),
  ([0,0,0,0,0,0,0,0,1,1,1,1,1,1,1,1,0,0,0,0,0,0,0,0], 8),
  ([0,1,0,1,0,1,0,1,2,0,1,0,1,0,1,0,1], 8),
  ([0,0,1,1,0,0,1,1,2,2,0,0,1,1,0,0,1,1], 8),
  ([0,1,2,0,1,2,0,1,2,0,1], 8),
  ([0,0,0,1,1,1,0,0,2,1,1,0,0,0,1,1,1,0,0], 8),
  ([0,1,0,1,0,1,0,1,2,3,2,0,1,0,1,0,1,0,1], 8),
  ([0,0,1,1,2,0,0,1,1,2,0,0,1], 8),
  ([0,1,2,3,0,1,2,3,4,0,1,2,3,0,1,2,3], 8),
  ([0,0,0,0,1,1,1,1,2,2,2,2,0,0,0,0,1,1,1,1], 8),
  ([0,1,0,1,2,0,1,0,1,2,3,2,0,1,0,1,2,0,1,0], 8),
  ([0,0,1,1,2,2,0,0,1,1,2,2,0,0], 8),
  ([0,1,2,0,1,2,0,1,2,0,1], 8),
  ([0,0,0,1,1,1,2,0,2,3,1,3,0,0,0,1,1,1,2,0], 8),
  ([0,1,0,1,2,3,2,0,1,0,1,2,3,2,0], 8),
  ([0,0,1,1,2,2,0,0,1,1,2,2,0,0], 8),
  ([0,1,2,3,4,0,1,2,3,4,0,1,2], 8),
  ([0,0,0,0,0,1,1,1,1,1,2,2,2,0,0,0,0,0,1,1,1], 8),
  ([0,1,0,1,0,1,0,1,2,3,2,3,2,0,1,0,1,0,1,0,1], 8),
  ([0,0,1,1,0,2,1,0,2,1,0,0,1,1,0,2,1,0], 8),
  ([0,1,2,0,1,2,0,1,2,0,1], 8),
  ([0,0,0,1,1,1,2,2,2,3,3,0,0,0,1,1,1,2,2], 8),
  ([0,1,0,1,0,1,0,1,2,3,2,3,2,0,1,0,1,0,1,0,1], 8),
  ([0,0,1,1,2,2,3,0,4,1,3,0,4,1,2,2,3,0,0,1,1,2,3,3,0,2,1,4,0,3,1,2,2,3,0,0,1,1], 21),
  ([0,1,2,3,0,1,2,3,4,5,0,1,2,3,0,1,2,3], 8),
  ([0,0,0,0,1,1,1,1,2,2,2,2,0,0,0,0,1,1,1,1], 8),
  ([0,1,0,1,2,3,2,3,4,0,1,0,1,2,3,2,3], 8),
  ([0,0,1,1,2,2,3,0,4,1,0,2,1,0,2,1,0,2,1,0], 17),
  ([0,1,2,0,1,2,0,1,2,0,1], 8),
  ([0,0,0,1,1,1,2,2,2,3,3,0,0,0,1,1,1,2,2], 8),
  ([0,1,0,1,2,3,2,3,4,0,1,0,1,2,3,2,3], 8),
  ([0,0,1,1,2,2,3,0,4,1,5,2,3,0,0,1,1,2,2,3,0], 8),
  ([0,1,2,3,4,5,0,1,2,3,4,5,0,1], 8),
  ([0,0,0,0,0,0,1,1,1,1,1,1,2,2,0,0,0,0,0,0,1,1], 8),
  ([0,1,0,1,0,1,2,0,1,0,1,0,1,2,0], 8),
  ([0,0,1,1,0,0,1,1,2,2,3,3,2,2,0,0,1,1,0,0,1,1], 8),
  ([0,1,2,0,1,2,3,0,1,2,0,1,2,3,0], 8),
  ([0,0,0,1,1,1,2,2,2,3,3,0,0,0,1,1,1,2,2], 8),
  ([0,1,0,1,0,1,2,3,2,0,1,0,1,0,1,2,3], 8),
  ([0,0,1,1,2,0,3,1,2,2,0,3,1,2,0,0,1,1,2,0,3,1], 8),
  ([0,1,2,3,0,1,2,3,4,0,1,2,3,0,1,2,3], 8),
  ([0,0,0,0,1,1,1,1,2,2,2,2,0,0,0,0,1,1,1,1], 8),
  ([0,1,0,1,2,0,1,0,1,2,3,2,0,1,0,1,2,0,1,0], 8),
  ([0,0,1,1,2,2,3,3,4,4,0,0,1,1,2,2,3,3], 8),
  ([0,1,2,0,1,2,3,4,5,3,0,1,2,0,1,2,3,4], 8),
  ([0,0,0,1,1,1,2,2,2,3,3,0,0,0,1,1,1,2,2], 8),
  ([0,1,0,1,2,3,2,0,1,0,1,2,3,2,0], 8),
  ([0,0,1,1,2,2,3,3,4,4,0,0,1,1,2,2,3,3], 8),
  ([0,1,2,3,4,0,1,2,3,4,0,1,2], 8),
  ([0,0,0,0,0,1,1,1,1,1,2,2,2,0,0,0,0,0,1,1,1], 8),
  ([0,1,0,1,0,1,2,3,2,3,2,0,1,0,1,0,1,2,3], 8),
  ([0,0,1,1,0,2,1,3,2,2,3,0,2,1,0,0,1,1,0,2,1,3], 8),
  ([0,1,2,0,1,2,3,0,1,2,0,1,2,3,0], 8),
  ([0,0,0,1,1,1,2,2,2,3,3,0,0,0,1,1,1,2,2], 8),
  ([0,1,0,1,0,1,2,3,2,3,2,0,1,0,1,0,1,2,3], 8),
  ([0,0,1,1,2,2,3,3,4,4,0,0,1,1,2,2,3,3], 8),
  ([0,1,2,3,0,1,2,3,4,5,6,0,1,2,3,0,1,2,3], 8),
  ([0,0,0,0,1,1,1,1,2,2,2,2,0,0,0,0,1,1,1,1], 8),
  ([0,1,0,1,2,3,2,3,4,0,1,0,1,2,3,2,3], 8),
  ([0,0,1,1,2,2,3,3,4,4,0,0,1,1,2,2,3,3], 8),
  ([0,1,2,0,1,2,3,4,5,3,0,1,2,0,1,2,3,4], 8),
  ([0,0,0,1,1,1,2,2,2,3,3,0,0,0,1,1,1,2,2], 8),
  ([0,1,0,1,2,3,2,3,4,0,1,0,1,2,3,2,3], 8),
  ([0,0,1,1,2,2,3,3,4,4,0,0,1,1,2,2,3,3], 8),
  ([0,1,2,3,4,5,6,0,1,2,3,4,5,6,0], 8),
  ([0,0,0,0,0,0,0,1,1,1,1,1,1,1,2,0,0,0,0,0,0,0,1], 8),
  ([0,1,0,1,0,1,0,1,2,3,2,3,2,3,2,0,1,0,1,0,1,0,1], 8),
  ([0,0,1,1,0,0,1,1,2,2,0,3,1,2,0,0,1,1,2,0,0,1,1,2,0], 20),
  ([0,1,2,0,1,2,0,1,2,0,1], 8),
  ([0,0,0,1,1,1,0,2,2,1,3,0,0,2,1,1,0,0,2,1,1,0,0,2], 19),
  ([0,1,0,1,0,1,0,1,2,3,2,3,2,3,2,0,1,0,1,0,1,0,1], 8),
  ([0,0,1,1,2,0,0,1,1,2,0,0,1], 8),
  ([0,1,2,3,0,1,2,3,4,0,1,2,3,0,1,2,3], 8),
  ([0,0,0,0,1,1,1,1,2,2,2,2,0,0,0,0,1,1,1,1], 8),
  ([0,1,0,1,2,0,1,2,3,2,3,0,1,3,0,1,0,1,2,3,2,4,3,2,3,0,1,0,1,2,0,1,2], 8),
  ([0,0,1,1,2,2,0,3,1,4,2,0,0,1,1,2,2,0,3], 8),
  ([0,1,2,0,1,2,0,1,2,0,1], 8),
  ([0,0,0,1,1,1,2,2,2,3,3,0,0,0,1,1,1,2,2], 8),
  ([0,1,0,1,2,3,2,3,4,5,4,0,1,0,1,2,3,2,3], 8),
  ([0,0,1,1,2,2,0,3,1,4,2,0,0,1,1,2,2,0,3], 8),
  ([0,1,2,3,4,0,1,2,3,4,0,1,2], 8),
  ([0,0,0,0,0,1,1,1,1,1,2,2,2,0,0,0,0,0,1,1,1], 8),
  ([0,1,0,1,0,1,0,1,2,3,2,3,2,3,2,0,1,0,1,0,1,0,1], 8),
  ([0,0,1,1,0,2,1,3,2,2,0,3,1,0,0,1,1,3,2,2,3,3,2,0,0,1,1,0,2,1,3], 8),
  ([0,1,2,0,1,2,0,1,2,0,1], 8),
  ([0,0,0,1,1,1,2,2,2,3,3,0,0,0,1,1,1,2,2], 8),
  ([0,1,0,1,0,1,0,1,2,3,2,3,2,3,2,0,1,0,1,0,1,0,1], 8),
  ([0,0,1,1,2,2,3,3,4,4,0,0,1,1,2,2,3,3], 8),
  ([0,1,2,3,0,1,2,3,4,5,0,1,2,3,0,1,2,3], 8),
  ([0,0,0,0,1,1,1,1,2,2,2,2,0,0,0,0,1,1,1,1], 8),
  ([0,1,0,1,2,3,2,3,4,5,4,0,1,0,1,2,3,2,3], 8),
  ([0,0,1,1,2,2,3,3,4,4,0,0,1,1,2,2,3,3], 8),
  ([0,1,2,0,1,2,0,1,2,0,1], 8),
  ([0,0,0,1,1,1,2,2,2,3,3,0,0,0,1,1,1,2,2], 8),
  ([0,1,0,1,2,3,2,3,4,5,4,0,1,0,1,2,3,2,3], 8),
  ([0,0,1,1,2,2,3,3,4,4,0,0,1,1,2,2,3,3], 8),
  ([0,1,2,3,4,5,0,1,2,3,4,5,0,1], 8),
  ([0,0,0,0,0,0,1,1,1,1,1,1,2,2,0,0,0,0,0,0,1,1], 8),
  ([0,1,0,1,0,1,2,3,2,3,2,3,4,0,1,0,1,0,1,2,3], 8),
  ([0,0,1,1,0,0,1,1,2,2,3,3,2,2,0,0,1,1,0,0,1,1], 8),
  ([0,1,2,0,1,2,3,4,5,3,4,5,0,1,2,0,1,2,3,4], 8),
  ([0,0,0,1,1,1,2,2,2,3,3,0,0,0,1,1,1,2,2], 8),
  ([0,1,0,1,0,1,2,3,2,3,2,3,4,0,1,0,1,0,1,2,3], 8),
  ([0,0,1,1,2,0,3,1,2,2,0,3,1,2,0,0,1,1,2,0,3,1], 8),
  ([0,1,2,3,0,1,2,3,4,0,1,2,3,0,1,2,3], 8),
  ([0,0,0,0,1,1,1,1,2,2,2,2,0,0,0,0,1,1,1,1], 8),
  ([0,1,0,1,2,0,1,2,3,2,3,4,5,3,0,1,0,1,2,0,1,2], 8),
  ([0,0,1,1,2,2,3,3,4,4,0,0,1,1,2,2,3,3], 8),
  ([0,1,2,0,1,2,3,4,5,3,4,5,0,1,2,0,1,2,3,4], 8),
  ([0,0,0,1,1,1,2,2,2,3,3,0,0,0,1,1,1,2,2], 8),
  ([0,1,0,1,2,3,2,3,4,5,4,0,1,0,1,2,3,2,3], 8),
  ([0,0,1,1,2,2,3,3,4,4,0,0,1,1,2,2,3,3], 8),
  ([0,1,2,3,4,0,1,2,3,4,0,1,2], 8),
  ([0,0,0,0,0,1,1,1,1,1,2,2,2,0,0,0,0,0,1,1,1], 8),
  ([0,1,0,1,0,1,2,3,2,3,2,3,4,0,1,0,1,0,1,2,3], 8),
  ([0,0,1,1,0,2,1,3,2,2,3,3,4,0,0,1,1,0,2,1,3], 8),
  ([0,1,2,0,1,2,3,4,5,3,4,5,0,1,2,0,1,2,3,4], 8),
  ([0,0,0,1,1,1,2,2,2,3,3,0,0,0,1,1,1,2,2], 8),
  ([0,1,0,1,0,1,2,3,2,3,2,3,4,0,1,0,1,0,1,2,3], 8),
  ([0,0,1,1,2,2,3,3,4,4,0,0,1,1,2,2,3,3], 8),
  ([0,1,2,3,0,1,2,3,4,5,6,7,4,0,1,2,3,0,1,2,3], 8),
  ([0,0,0,0,1,1,1,1,2,2,2,2,0,0,0,0,1,1,1,1], 8),
  ([0,1,0,1,2,3,2,3,4,5,4,0,1,0,1,2,3,2,3], 8),
  ([0,0,1,1,2,2,3,3,4,4,0,0,1,1,2,2,3,3], 8),
  ([0,1,2,0,1,2,3,4,5,3,4,5,0,1,2,0,1,2,3,4], 8),
  ([0,0,0,1,1,1,2,2,2,3,3,0,0,0,1,1,1,2,2], 8),
  ([0,1,0,1,2,3,2,3,4,5,4,0,1,0,1,2,3,2,3], 8),
  ([0,0,1,1,2,2,3,3,4,4,0,0,1,1,2,2,3,3], 8),
  ([0,1,2,3,4,5,6,7,8,0,1,2,3,4,5,6,7], 8)]

theorem rows_ok : (List.range 256).all (fun m => okG m (rowsD.getD m ([], 0))) = true := by decide +kernel
theorem gm_mem {m t : Nat} : t ∈ gm m ↔ 1 ≤ t ∧ t ≤ 8 ∧ m.testBit (t - 1) = true := by
  unfold gm
  rw [List.mem_filter, List.mem_range, Bool.and_eq_true, decide_eq_true_iff]
  constructor
  · rintro ⟨a, b, c⟩
    exact ⟨b, by omega, c⟩
  · rintro ⟨a, b, c⟩
    exact ⟨by omega, a, c⟩
theorem rep_m {m : Nat} (hm : m < 256) : ∃ h n, h < n ∧ n ≤ 38 ∧ win 8 (wth (gm m)) h = win 8 (wth (gm m)) n := by
  have h := List.all_eq_true.mp rows_ok m (List.mem_range.mpr hm)
  generalize rowsD.getD m ([], 0) = d at h
  unfold okG at h
  simp only [Bool.and_eq_true, decide_eq_true_eq, beq_iff_eq] at h
  obtain ⟨⟨⟨h1, h2⟩, h3⟩, h4⟩ := h
  have hr := okR_row (gs := gm m) (fun t ht => (gm_mem.mp ht).1) h1
  refine ⟨d.2, d.1.length, h2, h3, ?_⟩
  rw [← win_row, ← win_row, ← hr _ (Nat.le_of_lt h2), ← hr _ (Nat.le_refl _), List.take_length]
  exact h4
/-- the numbers of a game as bits -/
def mask : List Nat → Nat
  | [] => 0
  | t :: gs => 2 ^ (t - 1) ||| mask gs
theorem mask_lt : ∀ {gs : List Nat}, (∀ t, t ∈ gs → 1 ≤ t ∧ t ≤ 8) → mask gs < 256
  | [], _ => by decide
  | t :: gs, h => by
    have ih := mask_lt (gs := gs) fun u hu => h u (List.mem_cons_of_mem _ hu)
    have h1 := h t (List.mem_cons_self ..)
    unfold mask
    refine Nat.or_lt_two_pow (n := 8) ?_ ih
    exact Nat.pow_lt_pow_right (by decide) (by omega)
theorem mask_bit : ∀ {gs : List Nat}, (∀ t, t ∈ gs → 1 ≤ t ∧ t ≤ 8) → ∀ t, 1 ≤ t → ((mask gs).testBit (t - 1) = true ↔ t ∈ gs)
  | [], _, t, _ => by simp [mask]
  | u :: gs, h, t, ht => by
    have ih := mask_bit (gs := gs) (fun u hu => h u (List.mem_cons_of_mem _ hu)) t ht
    have h1 := h u (List.mem_cons_self ..)
    unfold mask
    rw [Nat.testBit_or, Nat.testBit_two_pow, Bool.or_eq_true, ih, List.mem_cons, decide_eq_true_iff]
    constructor
    · rintro (c | c)
      · exact .inl (by omega)
      · exact .inr c
    · rintro (c | c)
      · exact .inl (by omega)
      · exact .inr c
theorem mem_gm_mask {gs : List Nat} (h : ∀ t, t ∈ gs → 1 ≤ t ∧ t ≤ 8) (t : Nat) : t ∈ gs ↔ t ∈ gm (mask gs) := by
  rw [gm_mem]
  constructor
  · intro ht
    have := h t ht
    exact ⟨this.1, this.2, (mask_bit h t this.1).mpr ht⟩
  · rintro ⟨a, b, c⟩
    exact (mask_bit h t a).mp c
theorem rep_all {gs : List Nat} (h : ∀ t, t ∈ gs → 1 ≤ t ∧ t ≤ 8) : ∃ a n, a < n ∧ n ≤ 38 ∧ win 8 (wth gs) a = win 8 (wth gs) n := by
  obtain ⟨a, n, h1, h2, h3⟩ := rep_m (mask_lt h)
  have e : wth (gm (mask gs)) = wth gs := funext fun k => (wth_congr (fun t ht => (h t ht).1) (mem_gm_mask h) k).symm
  rw [e] at h3
  exact ⟨a, n, h1, h2, h3⟩
/-- with fewer ones ahead -/
theorem rep_lt {gs : List Nat} {L : Nat} (h : ∀ t, t ∈ gs → 1 ≤ t ∧ t ≤ 8) (hL : L ≤ 8) : ∃ a n, a < n ∧ n ≤ 38 ∧ win L (wth gs) a = win L (wth gs) n := by
  obtain ⟨a, n, h1, h2, h3⟩ := rep_all h
  obtain ⟨a8, ew, _⟩ := per_of h h1 h3
  refine ⟨a, n, h1, h2, ?_⟩
  apply List.ext_getElem?
  intro i
  by_cases hi : i < L
  · rw [win_get (by omega), win_get (by omega), Nat.min_eq_left (by omega), Nat.min_eq_left (by omega)]
    have := ew (8 - L + i) (by omega)
    rw [show a - 8 + (8 - L + i) = a - L + i by omega, show n - 8 + (8 - L + i) = n - L + i by omega] at this
    rw [this]
  · rw [List.getElem?_eq_none (by rw [win_len]; omega), List.getElem?_eq_none (by rw [win_len]; omega)]
/-! the rows of heaps that are worth so much -/
def wrw (gs : List Nat) (k n : Nat) : Bool := decide (wth gs n = k)
/-- a row that comes round, cut into head and turn -/
theorem sg_cut {f : Nat → Bool} {h n : Nat} (hn : h < n) (per : ∀ i, f (h + i) = f (n + i)) : sg (rng f 0 h) (rng f h (n - h)) = f := by
  funext k
  by_cases hk : k < h
  · rw [sg_head (by rw [rng_len]; exact hk), rng_getD _ _ _ _ hk, Nat.zero_add]
  · rw [sg_turn (by rw [rng_len]; omega), rng_len, rng_len, rng_getD _ _ _ _ (Nat.mod_lt _ (by omega))]
    have g : Goes f h (n - h) := fun m hm => by
      have := per (m - h)
      rw [show h + (m - h) = m by omega, show n + (m - h) = m + (n - h) by omega] at this
      exact this
    have := goes_mul g ((k - h) / (n - h)) (n := h + (k - h) % (n - h)) (by omega)
    rw [this]
    congr 1
    have := Nat.mod_add_div (k - h) (n - h)
    rw [Nat.mul_comm] at this
    omega
/-- lost as far as N, by the rule itself -/
def LostTo (gs : List Nat) (f : Nat → Bool) (N : Nat) : Prop := ∀ n, n < N → (f n = true ↔ ∀ t, t ∈ gs → t ≤ n → f (n - t) = false)
theorem lost_own {gs : List Nat} (h1 : ∀ t, t ∈ gs → 1 ≤ t) (N : Nat) : LostTo gs (wrw gs 0) N := by
  intro n _
  unfold wrw
  rw [decide_eq_true_iff, wth_rec h1]
  constructor
  · intro e t ht hn
    rw [decide_eq_false_iff_not]
    intro c
    have := (mex_is (nearW gs n)).no
    rw [e] at this
    exact this (mem_nearW.mpr ⟨t, ht, hn, c⟩)
  · intro h
    refine (mex_is (nearW gs n)).uniq ⟨fun c => ?_, fun j hj => by omega⟩
    obtain ⟨t, a, b, e⟩ := mem_nearW.mp c
    exact of_decide_eq_false (h t a b) e
theorem lost_uniq {gs : List Nat} (h1 : ∀ t, t ∈ gs → 1 ≤ t) {f g : Nat → Bool} (a : ∀ N, LostTo gs f N) (b : ∀ N, LostTo gs g N) : f = g := by
  funext n
  induction n using Nat.strongRecOn with
  | _ n ih =>
    have x := a (n + 1) n (by omega)
    have y := b (n + 1) n (by omega)
    have z : (∀ t, t ∈ gs → t ≤ n → f (n - t) = false) ↔ ∀ t, t ∈ gs → t ≤ n → g (n - t) = false := by
      constructor
      · intro q t ht hn
        have := h1 t ht
        rw [← ih (n - t) (by omega)]
        exact q t ht hn
      · intro q t ht hn
        have := h1 t ht
        rw [ih (n - t) (by omega)]
        exact q t ht hn
    rw [Bool.eq_iff_iff, x, y, z]
theorem lost_iff {gs : List Nat} {L : Nat} (hL : ∀ t, t ∈ gs → 1 ≤ t ∧ t ≤ L) {x y : List Bool} (hy : 0 < y.length) : LostTo gs (sg x y) (x.length + y.length + L) ↔ sg x y = wrw gs 0 := by
  have h1 : ∀ t, t ∈ gs → 1 ≤ t := fun t ht => (hL t ht).1
  constructor
  · intro h
    refine lost_uniq h1 (fun N n _ => ?_) (fun N => lost_own h1 N)
    by_cases c : n < x.length + y.length + L
    · exact h n c
    · obtain ⟨r, j, hr, rfl⟩ := split_at (N := x.length + L) (p := y.length) (n := n) (by omega) hy
      have g := goes_sg (h := x) (t := y) hy (Nat.le_refl _)
      have e1 := goes_mul g j (n := x.length + L + r) (by omega)
      rw [← e1, h (x.length + L + r) (by omega)]
      have key : ∀ t, t ∈ gs → sg x y (x.length + L + r + j * y.length - t) = sg x y (x.length + L + r - t) := fun t ht => by
        have := hL t ht
        rw [show x.length + L + r + j * y.length - t = x.length + L + r - t + j * y.length by omega]
        exact (goes_mul g j (by omega)).symm
      constructor
      · intro q t ht hn
        have := hL t ht
        rw [key t ht]
        exact q t ht (by omega)
      · intro q t ht hn
        have := hL t ht
        rw [← key t ht]
        exact q t ht (by omega)
  · intro e
    rw [e]
    exact lost_own h1 _
/-! head and turn of numbers -/
def sgN (h t : List Nat) (n : Nat) : Nat := if n < h.length then h.getD n 0 else t.getD ((n - h.length) % t.length) 0
theorem flat_get {l : List Nat} : ∀ {n i : Nat}, i < n * l.length → (List.replicate n l).flatten[i]? = l[i % l.length]?
  | 0, i, h => by omega
  | n + 1, i, h => by
    rw [List.replicate_succ, List.flatten_cons]
    rw [Nat.succ_mul] at h
    by_cases c : i < l.length
    · rw [List.getElem?_append_left c, Nat.mod_eq_of_lt c]
    · have e : (i - l.length) % l.length = i % l.length := (Nat.mod_eq_sub_mod (by omega)).symm
      rw [List.getElem?_append_right (by omega), flat_get (n := n) (i := i - l.length) (by omega), e]
theorem sgN_part {h t : List Nat} {k : Nat} (hk : 1 ≤ k) (hl : k ≤ t.length) (hd : t.length % k = 0) (e : (List.replicate (t.length / k) (t.take k)).flatten = t) : sgN h (t.take k) = sgN h t := by
  have lt : (t.take k).length = k := by rw [List.length_take]; omega
  have tot : t.length / k * k = t.length := Nat.div_mul_cancel (Nat.dvd_of_mod_eq_zero hd)
  have key : ∀ i, i < t.length → t.getD i 0 = (t.take k).getD (i % k) 0 := fun i hi => by
    have := flat_get (l := t.take k) (n := t.length / k) (i := i) (by rw [lt, tot]; exact hi)
    rw [e, lt] at this
    rw [List.getD_eq_getElem?_getD, this, List.getD_eq_getElem?_getD]
  funext n
  unfold sgN
  by_cases c : n < h.length
  · rw [if_pos c, if_pos c]
  · rw [if_neg c, if_neg c, key _ (Nat.mod_lt _ (by omega)), lt, Nat.mod_mod_of_dvd _ (Nat.dvd_of_mod_eq_zero hd)]
theorem mod_succ' {a s : Nat} (hs : 0 < s) : (a + 1) % s = if a % s + 1 = s then 0 else a % s + 1 := by
  have h1 := Nat.mod_lt a hs
  rw [Nat.add_mod]
  by_cases c : s = 1
  · subst c
    simp [Nat.mod_one]
  · rw [Nat.mod_eq_of_lt (show 1 < s by omega)]
    by_cases d : a % s + 1 = s
    · rw [if_pos d, d, Nat.mod_self]
    · rw [if_neg d, Nat.mod_eq_of_lt (by omega)]
theorem getD_cons_mod {α : Type} {d x : α} {t : List α} {a : Nat} : (x :: t).getD ((a + 1) % (t.length + 1)) d = (t ++ [x]).getD (a % (t.length + 1)) d := by
  have h1 := Nat.mod_lt a (show 0 < t.length + 1 by omega)
  rw [mod_succ' (by omega)]
  by_cases c : a % (t.length + 1) + 1 = t.length + 1
  · rw [if_pos c, show a % (t.length + 1) = t.length by omega]
    simp [List.getD_eq_getElem?_getD]
  · rw [if_neg c]
    simp only [List.getD_eq_getElem?_getD, List.getElem?_cons_succ]
    rw [List.getElem?_append_left (by omega)]
/-- the head's last one goes over to the turn -/
theorem sgN_turn {h t : List Nat} {x : Nat} : sgN (h ++ [x]) (t ++ [x]) = sgN h (x :: t) := by
  funext n
  unfold sgN
  simp only [List.length_append, List.length_cons, List.length_nil]
  by_cases c : n < h.length
  · rw [if_pos (by omega), if_pos c, List.getD_eq_getElem?_getD, List.getElem?_append_left c, ← List.getD_eq_getElem?_getD]
  · by_cases e : n = h.length
    · subst e
      rw [if_pos (by omega), if_neg c]
      simp [List.getD_eq_getElem?_getD]
    · rw [if_neg (by omega), if_neg c]
      obtain ⟨a, rfl⟩ : ∃ a, n = h.length + (a + 1) := ⟨n - h.length - 1, by omega⟩
      rw [show h.length + (a + 1) - h.length = a + 1 by omega, show h.length + (a + 1) - (h.length + (0 + 1)) = a by omega, getD_cons_mod]
theorem sg_turned {h t : List Bool} {x : Bool} : sg (h ++ [x]) (t ++ [x]) = sg h (x :: t) := by
  funext n
  unfold sg
  simp only [List.length_append, List.length_cons, List.length_nil]
  by_cases c : n < h.length
  · rw [if_pos (by omega), if_pos c, List.getD_eq_getElem?_getD, List.getElem?_append_left c, ← List.getD_eq_getElem?_getD]
  · by_cases e : n = h.length
    · subst e
      rw [if_pos (by omega), if_neg c]
      simp [List.getD_eq_getElem?_getD]
    · rw [if_neg (by omega), if_neg c]
      obtain ⟨a, rfl⟩ : ∃ a, n = h.length + (a + 1) := ⟨n - h.length - 1, by omega⟩
      rw [show h.length + (a + 1) - h.length = a + 1 by omega, show h.length + (a + 1) - (h.length + (0 + 1)) = a by omega, getD_cons_mod]
/-- a turn that tells the same row behind another head is as short as that one -/
theorem per_of_row {h t h' t' : List Bool} {s : Nat} (e : sg h t = sg h' t') (a : IsPer t s) (l : t'.length = s) : IsPer t' t'.length := by
  have ht : 0 < t.length := Nat.lt_of_lt_of_le a.pos a.le
  have ht' : 0 < t'.length := by have := a.pos; omega
  have key : ∀ k, Rot t k ↔ Rot t' k := fun k => by
    rw [rot_iff (h := h) (N := h.length + h'.length) ht (by omega), rot_iff (h := h') (N := h.length + h'.length) ht' (by omega), e]
  refine ⟨by omega, Nat.le_refl _, rot_len _, fun k k1 k2 r => a.least k k1 (by omega) ((key k).mpr r)⟩
theorem sg_take {h t : List Bool} {s : Nat} (p : IsPer t s) : sg h (t.take s) = sg h t := by
  have lt := take_len p
  have ht : 0 < t.length := Nat.lt_of_lt_of_le p.pos p.le
  funext n
  by_cases c : n < h.length
  · rw [sg_head c, sg_head c]
  · rw [sg_turn (by omega), sg_turn (by omega), lt, take_getD (Nat.mod_lt _ p.pos)]
    have hi := Nat.mod_lt (n - h.length) ht
    rw [rot_part p.pos p.dvd ht p.rot _ hi, Nat.mod_mod_of_dvd _ (Nat.dvd_of_mod_eq_zero p.dvd)]
end Gm
/-! lists of numbers as values; keys of dicts; what was seen -/
namespace G1
open PySem PySem.Spec PyProof.Rows L2
abbrev nV (l : List Nat) : List V := l.map fun k => V.int (k : Nat)
theorem nV_len (l : List Nat) : (nV l).length = l.length := List.length_map ..
theorem nV_get {l : List Nat} {i : Nat} {v : V} (h : (nV l)[i]? = some v) : ∃ k, l[i]? = some k ∧ v = .int (k : Nat) := by
  rw [List.getElem?_map] at h
  cases e : l[i]? with
  | none => rw [e] at h; cases h
  | some k => rw [e] at h; exact ⟨k, rfl, (Option.some.inj h).symm⟩
theorem nV_at {l : List Nat} {i : Nat} (h : i < l.length) : (nV l)[i]? = some (.int ((l.getD i 0 : Nat) : Int)) := by
  rw [List.getElem?_map, List.getD_eq_getElem?_getD, List.getElem?_eq_getElem h]
  rfl
theorem nV_snoc (l : List Nat) (a : Nat) : nV (l ++ [a]) = nV l ++ [.int (a : Nat)] := List.map_append
theorem nV_take (l : List Nat) (n : Nat) : (nV l).take n = nV (l.take n) := by rw [← List.map_take]
theorem nV_drop (l : List Nat) (n : Nat) : (nV l).drop n = nV (l.drop n) := by rw [← List.map_drop]
theorem nV_ints (l : List Nat) : nV l = (l.map fun k => ((k : Nat) : Int)).map V.int := by rw [List.map_map]; rfl
theorem nV_inj {l m : List Nat} (h : nV l = nV m) : l = m := by
  refine (List.map_inj_right (f := fun k : Nat => V.int (k : Nat)) fun x y e => ?_).mp h
  have := V.int.inj e
  omega
theorem in_nV (x : Nat) (l : List Nat) : inV (.int (x : Nat)) (nV l) = decide (x ∈ l) := by
  rw [nV_ints, in_ints]
  refine decide_eq_decide.mpr ⟨fun h => ?_, fun h => List.mem_map.mpr ⟨x, h, rfl⟩⟩
  obtain ⟨y, hy, e⟩ := List.mem_map.mp h
  have : y = x := by omega
  rw [← this]; exact hy
theorem cutV_last {xs : List V} {k : Nat} (k1 : 1 ≤ k) : cutV xs (some (-(k : Int))) none = xs.drop (xs.length - k) := by
  unfold cutV
  have e : HT.sIx xs.length 0 (some (-(k : Int))) = xs.length - k := by
    show (if (-(k : Int)) < 0 then (-(k : Int) + (xs.length : Int)).toNat else _) = _
    rw [if_pos (by omega)]
    omega
  rw [e]
  show (xs.drop (xs.length - k)).take (xs.length - (xs.length - k)) = _
  rw [List.take_of_length_le (by rw [List.length_drop]; omega)]
theorem cutV_init {xs : List V} : cutV xs none (some (-1)) = xs.take (xs.length - 1) := by
  rw [show (some (-1) : Option Int) = some (-((1 : Nat) : Int)) from rfl]
  generalize hk : (1 : Nat) = k
  unfold cutV
  have e : HT.sIx xs.length xs.length (some (-(k : Int))) = xs.length - k := by
    show (if (-(k : Int)) < 0 then (-(k : Int) + (xs.length : Int)).toNat else _) = _
    rw [if_pos (by omega)]
    omega
  have e0 : HT.sIx xs.length 0 none = 0 := rfl
  rw [e, e0, List.drop_zero, Nat.sub_zero]
theorem cutV_toN {xs : List V} {n : Nat} : cutV xs none (some (n : Int)) = xs.take n := by
  unfold cutV
  rw [sIx_of _ _ (by omega)]
  show (xs.drop 0).take (min (n : Int).toNat xs.length - 0) = _
  rw [List.drop_zero, Nat.sub_zero, Int.toNat_natCast, ← List.take_eq_take_min]
theorem cutV_fromN {xs : List V} {n : Nat} : cutV xs (some (n : Int)) none = xs.drop n := by
  unfold cutV
  rw [sIx_of _ _ (by omega)]
  show (xs.drop (min (n : Int).toNat xs.length)).take (xs.length - min (n : Int).toNat xs.length) = _
  rw [Int.toNat_natCast, List.take_of_length_le (by rw [List.length_drop]; omega)]
  by_cases h : n ≤ xs.length
  · rw [Nat.min_eq_left h]
  · rw [Nat.min_eq_right (by omega), List.drop_eq_nil_of_le (by omega), List.drop_eq_nil_of_le (by omega)]
theorem nV_flat (l : List Nat) : (nV l).all flatV = true := List.all_eq_true.mpr fun v hv => by
  obtain ⟨k, _, rfl⟩ := List.mem_map.mp hv
  rfl
theorem at_last {α : Type} {xs : List α} {v : α} (h : xs[xs.length - 1]? = some v) : atI xs (-1) = some v := by
  have h0 : xs.length - 1 < xs.length := (List.getElem?_eq_some_iff.mp h).1
  unfold atI ixN
  rw [if_neg (by omega), if_pos (by omega)]
  show xs[((-1 : Int) + (xs.length : Int)).toNat]? = _
  rw [show ((-1 : Int) + (xs.length : Int)).toNat = xs.length - 1 by omega]
  exact h
theorem ix_listK {X : Cx} {K : PySem.W.Frag} (hK : X.K = K) : IxR X (rIxL K) := hK ▸ ix_list
abbrev dN (l : List Nat) : List PyData := l.map fun k => PyData.int (k : Nat)
theorem lay_dN : ∀ l : List Nat, PyData.canLayAll0 (dN l) = true
  | [] => by simp [PyData.canLayAll0]
  | n :: l => by
    have := lay_dN l
    simp only [dN] at this
    simp [PyData.canLayAll0, PyData.canLay0, dN, this]
theorem depth_dN : ∀ l : List Nat, PyData.depthAll (dN l) = 0
  | [] => by simp [PyData.depthAll]
  | n :: l => by
    have := depth_dN l
    simp only [dN] at this
    simp [PyData.depthAll, PyData.depth, dN, this]
theorem shaped_dN (l : List Nat) : SeqAt.shaped (.tuple (dN l)) = true := by
  show (PyData.canLay0 (.tuple (dN l)) && decide (PyData.depth (.tuple (dN l)) ≤ 64)) = true
  rw [Bool.and_eq_true]
  refine ⟨by simp only [PyData.canLay0]; exact lay_dN l, decide_eq_true ?_⟩
  simp only [PyData.depth, depth_dN]
  omega
theorem eqvAll_dN : ∀ l m : List Nat, PyData.eqvAll (dN l) (dN m) = decide (l = m)
  | [], [] => by simp [PyData.eqvAll]
  | [], m :: ms => by simp [PyData.eqvAll]
  | l :: ls, [] => by simp [PyData.eqvAll]
  | l :: ls, m :: ms => by
    have ih := eqvAll_dN ls ms
    simp only [dN] at ih
    simp only [dN, List.map_cons, PyData.eqvAll, ih, PyData.eqv]
    by_cases a : l = m
    · subst a
      by_cases b : ls = ms
      · subst b; simp
      · simp [b]
    · have : ¬ ((l : Int) = (m : Int)) := by omega
      simp [a, this]
theorem eqv_dN (l m : List Nat) : PyData.eqv (.tuple (dN l)) (.tuple (dN m)) = decide (l = m) := by
  simp only [PyData.eqv]
  exact eqvAll_dN l m
theorem dp_nV {K : PySem.W.Frag} {H : Hp} {a : Addr} {l : List Nat} (h : H a = some (.tup (nV l))) : Dp K H (.ref a) (.tuple (dN l)) := .tup (sqT_of h) (dp_ks l)
/-- the key of a row of numbers -/
def keyL (l : List Nat) : List Key := l.map fun k => Sum.inl ((k : Nat) : Int)
theorem keyL_kV (l : List Nat) : (keyL l).map kV = nV l := by
  unfold keyL
  rw [List.map_map]
  rfl
theorem keyL_inj {l k : List Nat} (h : keyL l = keyL k) : l = k := by
  unfold keyL at h
  refine (List.map_inj_right (f := fun k : Nat => (Sum.inl ((k : Nat) : Int) : Key)) fun x y e => ?_).mp h
  have := Sum.inl.inj e
  omega
/-- the rows so far and their places -/
structure Seen (st : Nat → List Nat) (n : Nat) (kvs : List (List Key × V)) : Prop where
  len : kvs.length = n
  at_ : ∀ j, j < n → valV kvs (keyL (st j)) = some (.int (j : Nat))
  no : ∀ l, (∀ j, j < n → st j ≠ l) → valV kvs (keyL l) = none
  ne : ∀ i j, i < j → j < n → st i ≠ st j
theorem Seen.nil (st : Nat → List Nat) : Seen st 0 [] := ⟨rfl, fun j h => by omega, fun l _ => rfl, fun i j _ h => by omega⟩
theorem Seen.put {st : Nat → List Nat} {n : Nat} {kvs : List (List Key × V)} (x : Seen st n kvs) (h : ∀ j, j < n → st j ≠ st n) :
    Seen st (n + 1) (putK kvs (keyL (st n)) (.int (n : Nat))) := by
  refine ⟨?_, fun j hj => ?_, fun l hl => ?_, fun i j hij hj => ?_⟩
  · rw [putK_new _ (x.no _ h), List.length_append, x.len]
    rfl
  · rw [valV_put]
    by_cases e : j = n
    · subst e
      rw [if_pos rfl]
    · rw [if_neg fun z => h j (by omega) (keyL_inj z), x.at_ j (by omega)]
  · rw [valV_put, if_neg fun z => hl n (by omega) (keyL_inj z).symm, x.no l fun j hj => hl j (by omega)]
  · by_cases e : j = n
    · subst e
      exact h i hij
    · exact x.ne i j hij (by omega)
end G1
/-! heaps beside each other: sums of worths, and what a move does (plain Lean) -/
namespace Gm
open Row
theorem lt_bit : ∀ (k x y : Nat), x.testBit k = false → y.testBit k = true → (∀ j, k < j → x.testBit j = y.testBit j) → x < y
  | 0, x, y, hx, hy, h => by
    rw [Nat.testBit_zero] at hx hy
    have hx := of_decide_eq_false hx
    have hy := of_decide_eq_true hy
    have e : x / 2 = y / 2 := Nat.eq_of_testBit_eq fun j => by
      rw [← Nat.testBit_succ, ← Nat.testBit_succ]
      exact h (j + 1) (by omega)
    omega
  | k + 1, x, y, hx, hy, h => by
    rw [Nat.testBit_succ] at hx hy
    have := lt_bit k (x / 2) (y / 2) hx hy fun j hj => by
      rw [← Nat.testBit_succ, ← Nat.testBit_succ]
      exact h (j + 1) (by omega)
    omega
section
variable {gs : List Nat} (h1 : ∀ t, t ∈ gs → 1 ≤ t)
include h1
theorem wth_mexW (n : Nat) : IsMex (nearW gs n) (wth gs n) := by
  unfold wth
  rw [near_eq h1]
  exact mex_is _
theorem wth_ne {n t : Nat} (ht : t ∈ gs) (hn : t ≤ n) : wth gs (n - t) ≠ wth gs n := fun e =>
  (wth_mexW h1 n).no (mem_nearW.mpr ⟨t, ht, hn, e⟩)
theorem wth_less {n k : Nat} (h : k < wth gs n) : ∃ t, t ∈ gs ∧ t ≤ n ∧ wth gs (n - t) = k := mem_nearW.mp ((wth_mexW h1 n).all k h)
theorem wth_stuck {n : Nat} (h : ∀ t, t ∈ gs → n < t) : wth gs n = 0 := by
  rcases Nat.eq_zero_or_pos (wth gs n) with e | e
  · exact e
  · obtain ⟨t, ht, hn, _⟩ := wth_less h1 (k := 0) e
    have := h t ht
    omega
/-- a heap is worth 1 just where the heap without the least take is worth 0 -/
theorem wth_pair {s : Nat} (hs : s ∈ gs) (least : ∀ t, t ∈ gs → s ≤ t) : ∀ n, s ≤ n → (wth gs n = 1 ↔ wth gs (n - s) = 0) := by
  intro n
  induction n using Nat.strongRecOn with
  | ind n ih =>
    intro hn
    have s1 := h1 s hs
    have back : ∀ m, m ≤ n → s ≤ m → wth gs (m - s) = 0 → wth gs m = 1 := by
      intro m hm hsm e
      by_cases c : m = n
      · subst c
        have n1 : 1 ∉ nearW gs m := fun z => by
          obtain ⟨t, ht, htn, e1⟩ := mem_nearW.mp z
          by_cases c : m - t < s
          · have := wth_stuck h1 (n := m - t) fun k hk => by have := least k hk; omega
            omega
          · have t1 := h1 t ht
            have := (ih (m - t) (by omega) (by omega)).mp e1
            have e2 : m - t - s = m - s - t := by omega
            rw [e2] at this
            exact wth_ne h1 (n := m - s) ht (by omega) (this.trans e.symm)
        have n0 : wth gs m ≠ 0 := fun z => wth_ne h1 hs hsm (e.trans z.symm)
        have : ¬ 1 < wth gs m := fun z => n1 ((wth_mexW h1 m).all 1 z)
        omega
      · exact (ih m (by omega) hsm).mpr e
    refine ⟨fun e => ?_, back n (Nat.le_refl _) hn⟩
    rcases Nat.eq_zero_or_pos (wth gs (n - s)) with z | z
    · exact z
    · obtain ⟨t, ht, htn, e0⟩ := wth_less h1 (k := 0) z
      have t1 := h1 t ht
      have e2 : n - s - t = n - t - s := by omega
      rw [e2] at e0
      have := back (n - t) (by omega) (by omega) e0
      exact absurd (this.trans e.symm) (wth_ne h1 ht (by omega))
/-- from a heap worth 0 that can be taken from there is a move to one worth 1 -/
theorem wth_one {s n : Nat} (hs : s ∈ gs) (least : ∀ t, t ∈ gs → s ≤ t) (e : wth gs n = 0) (hm : s ≤ n) : ∃ t, t ∈ gs ∧ t ≤ n ∧ wth gs (n - t) = 1 := by
  have s1 := h1 s hs
  have z : 0 < wth gs (n - s) := by
    have := wth_ne h1 hs hm
    omega
  obtain ⟨t, ht, htn, e0⟩ := wth_less h1 (k := 0) z
  have e2 : n - s - t = n - t - s := by omega
  rw [e2] at e0
  exact ⟨t, ht, by omega, (wth_pair h1 hs least (n - t) (by omega)).mpr e0⟩
end
/-- the sum of worths -/
def nim (l : List Nat) : Nat := l.foldl (fun a b => a ^^^ b) 0
theorem nim_acc : ∀ (l : List Nat) (a : Nat), l.foldl (fun a b => a ^^^ b) a = a ^^^ nim l
  | [], a => by simp [nim]
  | x :: l, a => by
    unfold nim
    rw [List.foldl_cons, List.foldl_cons, nim_acc l, nim_acc l, Nat.zero_xor, Nat.xor_assoc]
theorem nim_cons (x : Nat) (l : List Nat) : nim (x :: l) = x ^^^ nim l := by
  show l.foldl (fun a b => a ^^^ b) (0 ^^^ x) = _
  rw [nim_acc, Nat.zero_xor]
theorem nim_nil : nim [] = 0 := rfl
theorem xor_swap (a b c : Nat) : a ^^^ (b ^^^ c) = b ^^^ (a ^^^ c) := by rw [← Nat.xor_assoc, Nat.xor_comm a b, Nat.xor_assoc]
theorem xor_back (a b : Nat) : a ^^^ (a ^^^ b) = b := by rw [← Nat.xor_assoc, Nat.xor_self, Nat.zero_xor]
theorem xor_zero_eq {a b : Nat} (h : a ^^^ b = 0) : a = b := by
  have := xor_back a b
  rw [h, Nat.xor_zero] at this
  exact this
theorem nim_set : ∀ (l : List Nat) (i a b : Nat), l[i]? = some a → nim (l.set i b) = nim l ^^^ (a ^^^ b)
  | [], i, a, b, h => by simp at h
  | x :: l, 0, a, b, h => by
    obtain rfl : x = a := by simpa using h
    rw [List.set_cons_zero, nim_cons, nim_cons, Nat.xor_comm x (nim l), Nat.xor_assoc, xor_back, Nat.xor_comm]
  | x :: l, i + 1, a, b, h => by
    rw [List.set_cons_succ, nim_cons, nim_cons, nim_set l i a b (by simpa using h), Nat.xor_assoc]
theorem nim_lt2 : ∀ {l : List Nat}, (∀ x, x ∈ l → x < 2) → nim l < 2
  | [], _ => by decide
  | x :: l, h => by
    rw [nim_cons]
    exact Nat.xor_lt_two_pow (n := 1) (h x (List.mem_cons_self ..)) (nim_lt2 fun y hy => h y (List.mem_cons_of_mem _ hy))
theorem nim_bit : ∀ {l : List Nat} {k : Nat}, (nim l).testBit k = true → ∃ (i a : Nat), l[i]? = some a ∧ a.testBit k = true
  | [], k, h => by rw [nim_nil, Nat.zero_testBit] at h; cases h
  | x :: l, k, h => by
    rw [nim_cons, Nat.testBit_xor] at h
    cases c : x.testBit k with
    | true => exact ⟨0, x, rfl, c⟩
    | false =>
      rw [c, Bool.false_xor] at h
      obtain ⟨i, a, e, t⟩ := nim_bit h
      exact ⟨i + 1, a, by simpa using e, t⟩
/-- where the sum isn't 0, one heap can be made less so that it is -/
theorem nim_less {l : List Nat} (h : nim l ≠ 0) : ∃ (i a : Nat), l[i]? = some a ∧ a ^^^ nim l < a := by
  generalize hx : nim l = x at h
  obtain ⟨k, k1, k2⟩ := Nat.exists_ge_and_testBit_of_ge_two_pow (Nat.log2_self_le h)
  have top : ∀ j, k < j → x.testBit j = false := fun j hj =>
    Nat.testBit_lt_two_pow (Nat.lt_of_lt_of_le Nat.lt_log2_self (Nat.pow_le_pow_right (by decide) (by omega)))
  obtain ⟨i, a, e, t⟩ := nim_bit (l := l) (k := k) (by rw [hx]; exact k2)
  refine ⟨i, a, e, lt_bit k _ _ ?_ t fun j hj => ?_⟩
  · rw [Nat.testBit_xor, t, k2]; rfl
  · rw [Nat.testBit_xor, top j hj, Bool.xor_false]
/-- is the one who is to move lost: `m`: who takes last loses -/
def lostW (m : Bool) (ws : List Nat) : Bool := if (m && ws.all fun x => decide (x < 2)) = true then decide (nim ws = 1) else decide (nim ws = 0)
theorem small_iff {ws : List Nat} : (ws.all fun x => decide (x < 2)) = true ↔ ∀ x, x ∈ ws → x < 2 := by simp
theorem lostW_norm (ws : List Nat) : lostW false ws = decide (nim ws = 0) := rfl
theorem lostW_small {ws : List Nat} (h : ∀ x, x ∈ ws → x < 2) : lostW true ws = decide (nim ws = 1) := by
  unfold lostW
  rw [small_iff.mpr h]
  rfl
theorem lostW_big {ws : List Nat} (h : ¬ ∀ x, x ∈ ws → x < 2) : lostW true ws = decide (nim ws = 0) := by
  unfold lostW
  rw [Bool.eq_false_iff.mpr fun z => h (small_iff.mp z)]
  rfl
theorem set_small {ws : List Nat} {i b : Nat} (h : ∀ x, x ∈ ws → x < 2) (hb : b < 2) : ∀ x, x ∈ ws.set i b → x < 2 := fun x hx =>
  (List.mem_or_eq_of_mem_set hx).elim (h x) fun e => e ▸ hb
theorem set_small' {ws : List Nat} {i a b : Nat} (e : ws[i]? = some a) (ha : a < 2) (h : ∀ x, x ∈ ws.set i b → x < 2) : ∀ x, x ∈ ws → x < 2 := fun x hx => by
  obtain ⟨j, hj⟩ := List.getElem?_of_mem hx
  by_cases c : i = j
  · subst c
    have : a = x := Option.some.inj (e.symm.trans hj)
    omega
  · exact h x (List.mem_of_getElem? (i := j) (by rw [List.getElem?_set_ne c]; exact hj))
theorem two_cases {x : Nat} (h : x < 2) : x = 0 ∨ x = 1 := by omega
theorem xor_lt2 {a b : Nat} (ha : a < 2) (hb : b < 2) : a ^^^ b < 2 := Nat.xor_lt_two_pow (n := 1) ha hb
/-- each move from a lost place leads to one that isn't -/
theorem lostW_move {m : Bool} {ws : List Nat} {i a b : Nat} (h : lostW m ws = true) (e : ws[i]? = some a) (ne : a ≠ b) : lostW m (ws.set i b) = false := by
  have es := nim_set ws i a b e
  cases m with
  | false =>
    rw [lostW_norm] at h ⊢
    rw [es, of_decide_eq_true h, Nat.zero_xor]
    exact decide_eq_false fun z => ne (xor_zero_eq z)
  | true =>
    by_cases sm : ∀ x, x ∈ ws → x < 2
    · rw [lostW_small sm] at h
      have a2 := sm a (List.mem_of_getElem? e)
      rw [of_decide_eq_true h] at es
      by_cases b2 : b < 2
      · rw [lostW_small (set_small sm b2), es]
        rcases two_cases a2 with rfl | rfl <;> rcases two_cases b2 with rfl | rfl <;> first | exact absurd rfl ne | decide
      · have nb : ¬ ∀ x, x ∈ ws.set i b → x < 2 := fun z => b2 (z b (List.mem_of_getElem? (i := i) (by
          rw [List.getElem?_set_self (List.getElem?_eq_some_iff.mp e).1])))
        rw [lostW_big nb, es]
        refine decide_eq_false fun z => b2 ?_
        have := xor_zero_eq z
        have h3 := xor_back a b
        rw [← this] at h3
        rw [← h3]
        exact xor_lt2 a2 (by decide)
    · rw [lostW_big sm] at h
      rw [of_decide_eq_true h, Nat.zero_xor] at es
      by_cases sm' : ∀ x, x ∈ ws.set i b → x < 2
      · rw [lostW_small sm', es]
        refine decide_eq_false fun z => sm (set_small' e ?_ sm')
        have b2 : b < 2 := sm' b (List.mem_of_getElem? (i := i) (by rw [List.getElem?_set_self (List.getElem?_eq_some_iff.mp e).1]))
        have h3 := xor_back b a
        rw [Nat.xor_comm b a, z] at h3
        rw [← h3]
        exact xor_lt2 b2 (by decide)
      · rw [lostW_big sm', es]
        exact decide_eq_false fun z => ne (xor_zero_eq z)
/-- where the one to move isn't lost and can move, a move leads to a lost place -/
theorem lostW_best {gs : List Nat} (h1 : ∀ t, t ∈ gs → 1 ≤ t) {s : Nat} (hs : s ∈ gs) (least : ∀ t, t ∈ gs → s ≤ t) {m : Bool} {hs' : List Nat} (h : lostW m (hs'.map (wth gs)) = false)
    (mv : ∃ (i n : Nat), hs'[i]? = some n ∧ s ≤ n) : ∃ (i n t : Nat), hs'[i]? = some n ∧ t ∈ gs ∧ t ≤ n ∧ lostW m ((hs'.map (wth gs)).set i (wth gs (n - t))) = true := by
  generalize hw : hs'.map (wth gs) = ws at h ⊢
  have at_ : ∀ {i a : Nat}, ws[i]? = some a → ∃ n, hs'[i]? = some n ∧ wth gs n = a := fun {i a} e => by
    rw [← hw, List.getElem?_map] at e
    cases c : hs'[i]? with
    | none => rw [c] at e; cases e
    | some n => rw [c] at e; exact ⟨n, rfl, Option.some.inj e⟩
  have low : ∀ {i a b : Nat}, ws[i]? = some a → b < a → ∃ n t, hs'[i]? = some n ∧ t ∈ gs ∧ t ≤ n ∧ wth gs (n - t) = b := fun {i a b} e hb => by
    obtain ⟨n, en, ea⟩ := at_ e
    rw [← ea] at hb
    obtain ⟨t, ht, htn, et⟩ := wth_less h1 hb
    exact ⟨n, t, en, ht, htn, et⟩
  have zero : nim ws ≠ 0 → ∃ (i a n t : Nat), ws[i]? = some a ∧ hs'[i]? = some n ∧ t ∈ gs ∧ t ≤ n ∧ nim (ws.set i (wth gs (n - t))) = 0 := fun nz => by
    obtain ⟨i, a, e, lt⟩ := nim_less nz
    obtain ⟨n, t, en, ht, htn, et⟩ := low e lt
    refine ⟨i, a, n, t, e, en, ht, htn, ?_⟩
    rw [et, nim_set ws i a _ e, xor_back, Nat.xor_self]
  cases m with
  | false =>
    rw [lostW_norm] at h
    obtain ⟨i, a, n, t, _, en, ht, htn, e0⟩ := zero (of_decide_eq_false h)
    exact ⟨i, n, t, en, ht, htn, by rw [lostW_norm]; exact decide_eq_true e0⟩
  | true =>
    by_cases sm : ∀ x, x ∈ ws → x < 2
    · rw [lostW_small sm] at h
      have n0 : nim ws = 0 := by
        have := nim_lt2 sm
        have := of_decide_eq_false h
        omega
      obtain ⟨i, n, en, sn⟩ := mv
      have ea : ws[i]? = some (wth gs n) := by rw [← hw, List.getElem?_map, en]; rfl
      have a2 := sm _ (List.mem_of_getElem? ea)
      obtain ⟨t, ht, htn, et⟩ : ∃ t, t ∈ gs ∧ t ≤ n ∧ wth gs (n - t) = 1 - wth gs n := by
        rcases two_cases a2 with z | z
        · rw [z]
          exact wth_one h1 hs least z sn
        · rw [z]
          exact wth_less h1 (by omega)
      refine ⟨i, n, t, en, ht, htn, ?_⟩
      rw [et, lostW_small (set_small sm (by omega)), nim_set ws i _ _ ea, n0]
      rcases two_cases a2 with z | z <;> rw [z] <;> decide
    · rw [lostW_big sm] at h
      have nz := of_decide_eq_false h
      obtain ⟨x, hx, x2⟩ : ∃ x, x ∈ ws ∧ ¬ x < 2 := by
        by_cases c : ∃ x, x ∈ ws ∧ ¬ x < 2
        · exact c
        · exact absurd (fun x hx => Classical.byContradiction fun z => c ⟨x, hx, z⟩) sm
      obtain ⟨i, ei⟩ := List.getElem?_of_mem hx
      by_cases one : ∀ j y, ws[j]? = some y → j ≠ i → y < 2
      · have r2 : nim ws ^^^ x < 2 := by
          have := nim_set ws i x 0 ei
          rw [Nat.xor_zero] at this
          rw [← this]
          refine nim_lt2 fun y hy => ?_
          obtain ⟨j, ej⟩ := List.getElem?_of_mem hy
          by_cases c : i = j
          · subst c
            rw [List.getElem?_set_self (List.getElem?_eq_some_iff.mp ei).1] at ej
            have := Option.some.inj ej
            omega
          · rw [List.getElem?_set_ne c] at ej
            exact one j y ej fun z => c z.symm
        have b2 : 1 ^^^ (nim ws ^^^ x) < 2 := xor_lt2 (by decide) r2
        obtain ⟨n, t, en, ht, htn, et⟩ := low ei (b := 1 ^^^ (nim ws ^^^ x)) (by omega)
        refine ⟨i, n, t, en, ht, htn, ?_⟩
        rw [et, lostW_small, nim_set ws i x _ ei]
        · rw [← Nat.xor_assoc, Nat.xor_comm 1, xor_back]
          decide
        · intro y hy
          obtain ⟨j, ej⟩ := List.getElem?_of_mem hy
          by_cases c : i = j
          · subst c
            rw [List.getElem?_set_self (List.getElem?_eq_some_iff.mp ei).1] at ej
            have := Option.some.inj ej
            omega
          · rw [List.getElem?_set_ne c] at ej
            exact one j y ej fun z => c z.symm
      · obtain ⟨j, y, ej, ji, y2⟩ : ∃ j y, ws[j]? = some y ∧ j ≠ i ∧ ¬ y < 2 := by
          by_cases c : ∃ j y, ws[j]? = some y ∧ j ≠ i ∧ ¬ y < 2
          · exact c
          · exact absurd (fun j y ej ji => Classical.byContradiction fun z => c ⟨j, y, ej, ji, z⟩) one
        obtain ⟨k, a, n, t, _, en, ht, htn, e0⟩ := zero nz
        refine ⟨k, n, t, en, ht, htn, ?_⟩
        rw [lostW_big, e0]
        · decide
        · intro z
          by_cases c : k = i
          · exact y2 (z y (List.mem_of_getElem? (i := j) (by rw [List.getElem?_set_ne (by omega)]; exact ej)))
          · exact x2 (z x (List.mem_of_getElem? (i := i) (by rw [List.getElem?_set_ne c]; exact ei)))
/-- where no heap can be taken from, all are worth nothing -/
theorem lostW_stuck {gs : List Nat} (h1 : ∀ t, t ∈ gs → 1 ≤ t) {m : Bool} {hs' : List Nat} (h : ∀ n, n ∈ hs' → ∀ t, t ∈ gs → n < t) : lostW m (hs'.map (wth gs)) = !m := by
  have z : ∀ l : List Nat, (∀ x, x ∈ l → x = 0) → nim l = 0 := by
    intro l
    induction l with
    | nil => exact fun _ => rfl
    | cons x l ih =>
      intro h
      rw [nim_cons, ih fun y hy => h y (List.mem_cons_of_mem _ hy), h x (List.mem_cons_self ..)]
      rfl
  have all0 : ∀ x, x ∈ hs'.map (wth gs) → x = 0 := fun x hx => by
    obtain ⟨n, hn, rfl⟩ := List.mem_map.mp hx
    exact wth_stuck h1 (h n hn)
  have n0 := z _ all0
  cases m with
  | false => rw [lostW_norm, n0]; rfl
  | true => rw [lostW_small fun x hx => by rw [all0 x hx]; decide, n0]; rfl
/-! ### a head's last signs that are the turn's own, for rows of numbers -/
theorem mod_two {x T : Nat} (h : x < 2 * T) : (x < T ∧ x % T = x) ∨ (T ≤ x ∧ x % T = x - T) := by
  by_cases c : x < T
  · exact .inl ⟨c, Nat.mod_eq_of_lt c⟩
  · exact .inr ⟨by omega, by rw [Nat.mod_eq_sub_mod (by omega), Nat.mod_eq_of_lt (by omega)]⟩
theorem turned_get {t : List Nat} {c j : Nat} (hc : c ≤ t.length) (hj : j < t.length) : (t.drop c ++ t.take c)[j]? = t[(j + c) % t.length]? := by
  rcases mod_two (x := j + c) (T := t.length) (by omega) with ⟨a, b⟩ | ⟨a, b⟩
  · rw [b, List.getElem?_append_left (by rw [List.length_drop]; omega), List.getElem?_drop, Nat.add_comm]
  · rw [b, List.getElem?_append_right (by rw [List.length_drop]; omega), List.length_drop, List.getElem?_take_of_lt (by omega)]
    congr 1
    omega
/-- the last a of a head go with the turn's end, round and round -/
def AlikeN (h t : List Nat) (a : Nat) : Prop := a ≤ h.length ∧ ∀ i, i < a → h[h.length - 1 - i]? = t[t.length - 1 - i % t.length]?
theorem sgN_alike {h t : List Nat} {a : Nat} (t0 : 0 < t.length) (x : AlikeN h t a) :
    sgN (h.take (h.length - a)) (t.drop (t.length - a % t.length) ++ t.take (t.length - a % t.length)) = sgN h t := by
  obtain ⟨ha, al⟩ := x
  have ra := Nat.mod_lt a t0
  have lh : (h.take (h.length - a)).length = h.length - a := by rw [List.length_take]; omega
  have lt : (t.drop (t.length - a % t.length) ++ t.take (t.length - a % t.length)).length = t.length := by
    rw [List.length_append, List.length_drop, List.length_take]; omega
  funext n
  unfold sgN
  rw [lh, lt]
  by_cases c1 : n < h.length - a
  · rw [if_pos c1, if_pos (by omega), List.getD_eq_getElem?_getD, List.getD_eq_getElem?_getD, List.getElem?_take_of_lt c1]
  · rw [if_neg c1]
    have rj := Nat.mod_lt (n - (h.length - a)) t0
    rw [List.getD_eq_getElem?_getD, turned_get (by omega) rj]
    by_cases c2 : n < h.length
    · rw [if_pos c2, List.getD_eq_getElem?_getD]
      obtain ⟨i, hi⟩ : ∃ i, i = h.length - 1 - n := ⟨_, rfl⟩
      have e := al i (by omega)
      rw [show h.length - 1 - i = n by omega] at e
      rw [e]
      congr 2
      obtain ⟨u, hu⟩ : ∃ u, u = n - (h.length - a) := ⟨_, rfl⟩
      rw [← hu] at rj ⊢
      have ri := Nat.mod_lt i t0
      have em : (u % t.length + 1 + i % t.length) % t.length = a % t.length := by
        rw [show a = u + 1 + i by omega]
        simp [Nat.add_mod]
      rcases mod_two (x := u % t.length + 1 + i % t.length) (T := t.length) (by omega) with ⟨z1, z2⟩ | ⟨z1, z2⟩
      · rw [z2] at em
        rcases mod_two (x := u % t.length + (t.length - a % t.length)) (T := t.length) (by omega) with ⟨w1, w2⟩ | ⟨w1, w2⟩ <;> omega
      · rw [z2] at em
        rcases mod_two (x := u % t.length + (t.length - a % t.length)) (T := t.length) (by omega) with ⟨w1, w2⟩ | ⟨w1, w2⟩ <;> omega
    · rw [if_neg c2, List.getD_eq_getElem?_getD]
      congr 2
      obtain ⟨v, hv⟩ : ∃ v, v = n - h.length := ⟨_, rfl⟩
      rw [← hv]
      rw [show n - (h.length - a) = v + a by omega] at rj ⊢
      have rv := Nat.mod_lt v t0
      have em : (v + a) % t.length = (v % t.length + a % t.length) % t.length := Nat.add_mod ..
      rw [em]
      rw [em] at rj
      rcases mod_two (x := v % t.length + a % t.length) (T := t.length) (by omega) with ⟨z1, z2⟩ | ⟨z1, z2⟩
      · rw [z2]
        rcases mod_two (x := v % t.length + a % t.length + (t.length - a % t.length)) (T := t.length) (by omega) with ⟨w1, w2⟩ | ⟨w1, w2⟩ <;> omega
      · rw [z2]
        rcases mod_two (x := v % t.length + a % t.length - t.length + (t.length - a % t.length)) (T := t.length) (by omega) with ⟨w1, w2⟩ | ⟨w1, w2⟩ <;> omega
end Gm
/-! rules within a comprehension: the frag by name -/
namespace G1
open PySem PySem.Spec PyProof.Rows L2
section
variable {X : Cx} {K : PySem.W.Frag} {tg l : Expr} {tl : TE}
theorem pi_tupK (hK : X.K = K) (hl : PE X l tl) : PI X tg l (iTup K tl) := hK ▸ pi_tup hl
theorem pi_listK (hK : X.K = K) (hl : PE X l tl) : PI X tg l (iList K tl) := hK ▸ pi_list hl
theorem mt_joinK (hK : X.K = K) : MtR X "str.join" (fun x xs H Q => ∃ a p, ∃ ys : List Str, x = .str a ∧ xs = [.ref p] ∧ (SqL K H p (ys.map V.str) ∨ SqT K H p (ys.map V.str)) ∧
    (ys.map (·.length)).sum + ys.length * a.length ≤ 16777216 ∧ Q (.str (Txt.join a ys)) H) := hK ▸ mt_join
variable {o e : Expr} {es : List Expr} {to : TE} {t : TA} {name : Str} {apos cpos : Pos} {T id : String} {r : V → List V → Hp → VK → Prop}
theorem pe_bmI (hK : X.K = K) (pa : PlainAttrs T) (slot : Slot T name id) (hty : typeOf (.builtin id) = pure (.type "method_descriptor")) (hm : MtR X id r) (ho : PE X o to) (ha : PA X (e :: es) t)
    (hbase : attributeBase o name X.env (eval o X.env) = eval o X.env := by rfl)
    (hfew : ((backTo cpos (starEach (e :: es) X.env)).all (fun x => !x.1) && (backToKw cpos (keywordEach [] X.env)).all (fun x => x.1.isSome)
      && decide ((e :: es).length + ([] : List Keyword).length + (if ([] : List Keyword).isEmpty then 0 else 1) < 30)) = true := by rfl)
    (hline : (apos.endLine == cpos.line) = true := by rfl) (hs : starEach (e :: es) X.env = (false, eval e X.env) :: starEach es X.env := by rfl) (hplain : (backTo cpos (starEach es X.env)).any (·.1) = false := by rfl) :
    PE X (.Call (.Attribute o name apos) (e :: es) [] cpos) (tBM K T r to t) := hK ▸ pe_bm pa slot hty hm ho ha hbase hfew hline hs hplain
end
end G1
namespace G1
open PySem PySem.Spec PyProof.Rows L2
theorem op_neT0K {X : Cx} {K : PySem.W.Frag} (hK : X.K = K) (hu : X.A.units + 64 < cLine) : OpR X (compareOp .NotEq) (rNe0 K) := hK ▸ op_neT0 hu
end G1
namespace G1
open PySem PySem.Spec PyProof.Rows L2
theorem op_eqDK {X : Cx} {K : PySem.W.Frag} (hK : X.K = K) (hu : X.A.units + 64 < cLine) : OpR X (compareOp .Eq) (rEqD K) := hK ▸ op_eqD hu
theorem op_neDK {X : Cx} {K : PySem.W.Frag} (hK : X.K = K) (hu : X.A.units + 64 < cLine) : OpR X (compareOp .NotEq) (rNeD K) := hK ▸ op_neD hu
end G1
namespace G1
open PySem PySem.Spec PyProof.Rows L2
theorem call_tuple_ofK {X : Cx} {K : PySem.W.Frag} (hK : X.K = K) : CallR X (.type "tuple") (fun xs H Q => ∃ p ys, xs = [.ref p] ∧ ((SqL K H p ys ∧ ∀ l, H l = none → Q (.ref l) (upd H l (.tup ys))) ∨ (SqT K H p ys ∧ Q (.ref p) H))) := hK ▸ call_tuple_of
end G1
/-! repr within a comprehension -/
namespace G1
open PySem PySem.Spec PyProof.Rows L2
theorem call_reprTK {X : Cx} {K : PySem.W.Frag} (hK : X.K = K) (hb : HasSys X.base) (hgd : X.A.guards = some []) (hu : X.A.units + 64 < cLine) : CallR X (.builtin "repr") (rReprT K) := hK ▸ call_reprT hb hgd hu
end G1
/-! a statement that is never reached -/
namespace G1
open PySem PySem.Spec PyProof.Rows L2
theorem ps_no {X : Cx} {st : Stmt} : PS X st (fun _ _ _ => False) := ⟨fun _ _ _ _ _ _ h => h.elim⟩
end G1
/-! rows of numbers: a head and then a turn again and again; least forms (plain Lean; as KRow for signs) -/
namespace RowN
def rep (n : Nat) (l : List Nat) : List Nat := (List.replicate n l).flatten
theorem rep_zero (l : List Nat) : rep 0 l = [] := rfl
theorem rep_succ (n : Nat) (l : List Nat) : rep (n + 1) l = l ++ rep n l := by
  unfold rep
  rw [List.replicate_succ, List.flatten_cons]
theorem rep_length (n : Nat) (l : List Nat) : (rep n l).length = n * l.length := by
  induction n with
  | zero => rw [rep_zero, Nat.zero_mul]; rfl
  | succ n ih => rw [rep_succ, List.length_append, ih, Nat.succ_mul, Nat.add_comm]
theorem rep_get (n : Nat) (l : List Nat) (i : Nat) (h : i < n * l.length) : (rep n l)[i]? = l[i % l.length]? := by
  induction n generalizing i with
  | zero => rw [Nat.zero_mul] at h; omega
  | succ n ih =>
    rw [rep_succ]
    by_cases hi : i < l.length
    · rw [List.getElem?_append_left hi, Nat.mod_eq_of_lt hi]
    · have h1 : l.length ≤ i := by omega
      rw [List.getElem?_append_right h1, ih (i - l.length) (by rw [Nat.succ_mul] at h; omega), ← Nat.mod_eq_sub_mod h1]
/-- the sign of a number -/
def sg (h t : List Nat) (n : Nat) : Nat := if n < h.length then h.getD n 0 else t.getD ((n - h.length) % t.length) 0
/-- so many signs of a row from a place on -/
def rng (r : Nat → Nat) (a n : Nat) : List Nat := (List.range n).map fun i => r (a + i)
theorem rng_len (r : Nat → Nat) (a n : Nat) : (rng r a n).length = n := by unfold rng; rw [List.length_map, List.length_range]
theorem rng_get (r : Nat → Nat) (a n i : Nat) (h : i < n) : (rng r a n)[i]? = some (r (a + i)) := by
  unfold rng
  rw [List.getElem?_map, List.getElem?_range h]
  rfl
theorem rng_getD (r : Nat → Nat) (a n i : Nat) (h : i < n) : (rng r a n).getD i 0 = r (a + i) := by
  rw [List.getD_eq_getElem?_getD, rng_get r a n i h]
  rfl
theorem ext_rng {l : List Nat} {r : Nat → Nat} {a n : Nat} (hl : l.length = n) (h : ∀ i, i < n → l[i]? = some (r (a + i))) : l = rng r a n := by
  apply List.ext_getElem?
  intro i
  by_cases hi : i < n
  · rw [h i hi, rng_get r a n i hi]
  · rw [List.getElem?_eq_none (by omega), List.getElem?_eq_none (by rw [rng_len]; omega)]
theorem getD_some {l : List Nat} {i : Nat} (h : i < l.length) : l[i]? = some (l.getD i 0) := by
  rw [List.getD_eq_getElem?_getD, List.getElem?_eq_getElem h]
  rfl
theorem sg_head {h t : List Nat} {n : Nat} (hn : n < h.length) : sg h t n = h.getD n 0 := by unfold sg; rw [if_pos hn]
theorem sg_turn {h t : List Nat} {n : Nat} (hn : h.length ≤ n) : sg h t n = t.getD ((n - h.length) % t.length) 0 := by unfold sg; rw [if_neg (by omega)]
/-- far numbers as those nearer by a multiple of the turn -/
theorem sg_back {h t : List Nat} (n k : Nat) (hk : h.length + k * t.length ≤ n) : sg h t (n - k * t.length) = sg h t n := by
  rw [sg_turn (by omega), sg_turn (by omega)]
  congr 1
  rw [show n - k * t.length - h.length = (n - h.length) - k * t.length by omega]
  have e : n - h.length = ((n - h.length) - k * t.length) + k * t.length := by omega
  rw [e, Nat.add_mul_mod_self_right]
  congr 1
  omega

/-! ### turns that come round -/
/-- turned on by k the turn is the same -/
def Rot (t : List Nat) (k : Nat) : Prop := ∀ i, i < t.length → t.getD i 0 = t.getD ((i + k) % t.length) 0
theorem Rot.any {t : List Nat} {k : Nat} (h : Rot t k) (ht : 0 < t.length) (i : Nat) : t.getD (i % t.length) 0 = t.getD ((i + k) % t.length) 0 := by
  have := h (i % t.length) (Nat.mod_lt _ ht)
  rw [this, Nat.mod_add_mod]
theorem Rot.mul {t : List Nat} {k : Nat} (h : Rot t k) (ht : 0 < t.length) (m : Nat) : Rot t (m * k) := by
  induction m with
  | zero =>
    intro i hi
    rw [Nat.zero_mul, Nat.add_zero, Nat.mod_eq_of_lt hi]
  | succ m ih =>
    intro i hi
    rw [ih i hi, h.any ht]
    congr 1
    rw [Nat.succ_mul]
    congr 1
    omega
theorem rot_len (t : List Nat) : Rot t t.length := by
  intro i hi
  rw [Nat.add_mod_right, Nat.mod_eq_of_lt hi]
/-- the least way by which the turn is turned on into itself -/
structure IsPer (t : List Nat) (s : Nat) : Prop where
  pos : 1 ≤ s
  le : s ≤ t.length
  rot : Rot t s
  least : ∀ k, 1 ≤ k → k < s → ¬ Rot t k
theorem IsPer.uniq {t : List Nat} {s s' : Nat} (a : IsPer t s) (b : IsPer t s') : s = s' := by
  rcases Nat.lt_trichotomy s s' with h | h | h
  · exact absurd a.rot (b.least s a.pos h)
  · exact h
  · exact absurd b.rot (a.least s' b.pos h)
theorem IsPer.dvd {t : List Nat} {s : Nat} (a : IsPer t s) : t.length % s = 0 := by
  have ht : 0 < t.length := Nat.lt_of_lt_of_le a.pos a.le
  by_cases h : t.length % s = 0
  · exact h
  · exfalso
    have hlt := Nat.mod_lt t.length (show 0 < s from a.pos)
    refine a.least (t.length % s) (by omega) hlt ?_
    -- T = q s + r, turned on by T and back by q s
    intro i hi
    have hq := (a.rot.mul ht (t.length / s)).any ht (i + t.length % s)
    rw [hq]
    have e : i + t.length % s + t.length / s * s = i + t.length := by
      have := Nat.mod_add_div t.length s
      rw [Nat.mul_comm] at this
      omega
    rw [e, Nat.add_mod_right, Nat.mod_eq_of_lt hi]

/-- where the turn begins, if it is s signs long -/
structure IsBeg (h t : List Nat) (s m : Nat) : Prop where
  le : m ≤ h.length
  same : ∀ n, m ≤ n → n < h.length → sg h t n = sg h t (n + s)
  least : m = 0 ∨ sg h t (m - 1) ≠ sg h t (m - 1 + s)
theorem IsBeg.uniq {h t : List Nat} {s m m' : Nat} (a : IsBeg h t s m) (b : IsBeg h t s m') : m = m' := by
  have key : ∀ {m m' : Nat}, IsBeg h t s m → IsBeg h t s m' → ¬ m < m' := by
    intro m m' a b hlt
    rcases b.least with e | e
    · omega
    · exact e (a.same (m' - 1) (by omega) (by have := b.le; omega))
  have k1 := key a b
  have k2 := key b a
  omega
/-- behind the head the row goes on by the turn -/
theorem sg_rot {h t : List Nat} {s : Nat} (ht : 0 < t.length) (r : Rot t s) {n : Nat} (hn : h.length ≤ n) : sg h t n = sg h t (n + s) := by
  rw [sg_turn hn, sg_turn (by omega), r.any ht]
  congr 2
  omega
theorem IsBeg.from {h t : List Nat} {s m : Nat} (a : IsBeg h t s m) (p : IsPer t s) {n : Nat} (hn : m ≤ n) : sg h t n = sg h t (n + s) := by
  by_cases hh : n < h.length
  · exact a.same n hn hh
  · exact sg_rot (Nat.lt_of_lt_of_le p.pos p.le) p.rot (by omega)
theorem IsBeg.mul {h t : List Nat} {s m : Nat} (a : IsBeg h t s m) (p : IsPer t s) {n : Nat} (hn : m ≤ n) (k : Nat) : sg h t n = sg h t (n + k * s) := by
  induction k with
  | zero => rw [Nat.zero_mul, Nat.add_zero]
  | succ k ih =>
    rw [ih, a.from p (by omega), Nat.succ_mul]
    congr 1
    omega
/-- the least form tells the same -/
theorem sg_least {h t : List Nat} {s m : Nat} (a : IsBeg h t s m) (p : IsPer t s) (n : Nat) : sg (rng (sg h t) 0 m) (rng (sg h t) m s) n = sg h t n := by
  by_cases hn : n < m
  · rw [sg_head (by rw [rng_len]; exact hn), rng_getD _ _ _ _ hn, Nat.zero_add]
  · rw [sg_turn (by rw [rng_len]; omega), rng_len, rng_len, rng_getD _ _ _ _ (Nat.mod_lt _ p.pos)]
    have h1 := a.mul p (n := m + (n - m) % s) (by omega) ((n - m) / s)
    rw [h1]
    congr 1
    have := Nat.mod_add_div (n - m) s
    rw [Nat.mul_comm] at this
    omega
theorem per_exists {t : List Nat} (ht : 0 < t.length) : ∃ s, IsPer t s := by
  have key : ∀ n, (∃ k, 1 ≤ k ∧ k ≤ n ∧ Rot t k) → ∃ s, 1 ≤ s ∧ s ≤ n ∧ Rot t s ∧ ∀ k, 1 ≤ k → k < s → ¬ Rot t k := by
    intro n
    induction n with
    | zero => rintro ⟨k, h1, h2, _⟩; omega
    | succ n ih =>
      rintro ⟨k, h1, h2, h3⟩
      by_cases h : ∃ k, 1 ≤ k ∧ k ≤ n ∧ Rot t k
      · obtain ⟨s, a, b, c, d⟩ := ih h
        exact ⟨s, a, by omega, c, d⟩
      · refine ⟨k, h1, h2, h3, fun j j1 j2 j3 => h ⟨j, j1, by omega, j3⟩⟩
  obtain ⟨s, a, b, c, d⟩ := key t.length ⟨t.length, ht, Nat.le_refl _, rot_len t⟩
  exact ⟨s, a, b, c, d⟩
theorem rot_part {t : List Nat} {s : Nat} (hs : 1 ≤ s) (hd : t.length % s = 0) (ht : 0 < t.length) (r : Rot t s) (i : Nat) (hi : i < t.length) : t.getD i 0 = t.getD (i % s) 0 := by
  have h := (r.mul ht (i / s)) (i % s) (Nat.lt_of_le_of_lt (Nat.mod_le _ _) hi)
  rw [h]
  congr 1
  have := Nat.mod_add_div i s
  rw [Nat.mul_comm] at this
  rw [this, Nat.mod_eq_of_lt hi]
theorem part_get {t : List Nat} {s : Nat} (hs : 1 ≤ s) (hl : s ≤ t.length) (hd : t.length % s = 0) (i : Nat) (hi : i < t.length) : (rep (t.length / s) (t.take s))[i]? = some (t.getD (i % s) 0) := by
  have e : (t.take s).length = s := by rw [List.length_take]; omega
  have e2 : t.length / s * s = t.length := by
    have := Nat.mod_add_div t.length s
    rw [Nat.mul_comm] at this
    omega
  have hm := Nat.mod_lt i (show 0 < s from hs)
  rw [rep_get _ _ _ (by rw [e, e2]; exact hi), e, List.getElem?_take, if_pos hm]
  exact getD_some (by omega)
theorem rep_iff {t : List Nat} {s : Nat} (hs : 1 ≤ s) (hl : s ≤ t.length) (hd : t.length % s = 0) : rep (t.length / s) (t.take s) = t ↔ Rot t s := by
  have ht : 0 < t.length := by omega
  have e : (t.take s).length = s := by rw [List.length_take]; omega
  have e2 : t.length / s * s = t.length := by
    have := Nat.mod_add_div t.length s
    rw [Nat.mul_comm] at this
    omega
  constructor
  · intro h i hi
    have k1 : ∀ i, i < t.length → t.getD i 0 = t.getD (i % s) 0 := by
      intro i hi
      have h1 := part_get hs hl hd i hi
      rw [h, getD_some hi] at h1
      exact Option.some.inj h1
    rw [k1 i hi, k1 _ (Nat.mod_lt _ ht)]
    congr 1
    obtain ⟨q, hq⟩ : ∃ q, t.length = s * q := ⟨t.length / s, by rw [Nat.mul_comm]; exact e2.symm⟩
    rw [hq, Nat.mod_mul_right_mod, Nat.add_mod_right]
  · intro r
    apply List.ext_getElem?
    intro i
    by_cases hi : i < t.length
    · rw [part_get hs hl hd i hi, getD_some hi, rot_part hs hd ht r i hi]
    · rw [List.getElem?_eq_none (by rw [rep_length, e, e2]; omega), List.getElem?_eq_none (by omega)]

/-! ### the head gone backwards -/
/-- so many of the last signs of the head are as the turn u, gone backwards, has them, and no more -/
structure Alike (h u : List Nat) (a : Nat) : Prop where
  le : a ≤ h.length
  same : ∀ j, j < a → h.getD (h.length - 1 - j) 0 = u.getD (u.length - 1 - j % u.length) 0
  last : a = h.length ∨ h.getD (h.length - 1 - a) 0 ≠ u.getD (u.length - 1 - a % u.length) 0
/-- the row of u, begun anywhere -/
def gg (h u : List Nat) (n : Nat) : Nat := u.getD ((n + h.length * u.length - h.length) % u.length) 0
theorem sub_mod_id {s j A : Nat} (hs : 0 < s) (hj : j < A) : (A * s - 1 - j) % s = s - 1 - j % s := by
  have hm := Nat.mod_lt j hs
  have h1 := Nat.mod_add_div j s
  have hq : j / s < A := Nat.lt_of_le_of_lt (Nat.div_le_self j s) hj
  obtain ⟨c, hc⟩ : ∃ c, A = j / s + 1 + c := ⟨A - j / s - 1, by omega⟩
  have e : A * s - 1 - j = (s - 1 - j % s) + s * c := by
    rw [hc, Nat.add_mul, Nat.add_mul, Nat.one_mul, Nat.mul_comm c s, Nat.mul_comm (j / s) s]
    omega
  rw [e, Nat.add_mul_mod_self_left, Nat.mod_eq_of_lt (by omega)]
theorem mul_ge {A s : Nat} (hs : 0 < s) : A ≤ A * s := Nat.le_mul_of_pos_right A hs
theorem gg_head {h u : List Nat} {j : Nat} (hu : 0 < u.length) (hj : j < h.length) : gg h u (h.length - 1 - j) = u.getD (u.length - 1 - j % u.length) 0 := by
  unfold gg
  congr 1
  rw [← sub_mod_id hu hj]
  congr 1
  have := mul_ge (A := h.length) hu
  omega
theorem gg_add {h u : List Nat} (hu : 0 < u.length) (n : Nat) : gg h u (n + u.length) = gg h u n := by
  unfold gg
  congr 1
  have := mul_ge (A := h.length) hu
  rw [show n + u.length + h.length * u.length - h.length = (n + h.length * u.length - h.length) + u.length by omega, Nat.add_mod_right]
section
variable {h t : List Nat} {s a : Nat}
theorem take_len (p : IsPer t s) : (t.take s).length = s := by rw [List.length_take]; exact Nat.min_eq_left p.le
theorem take_getD {i : Nat} (hi : i < s) : (t.take s).getD i 0 = t.getD i 0 := by
  rw [List.getD_eq_getElem?_getD, List.getD_eq_getElem?_getD, List.getElem?_take, if_pos hi]
theorem sg_gg (p : IsPer t s) (x : Alike h (t.take s) a) {n : Nat} (hn : h.length - a ≤ n) : sg h t n = gg h (t.take s) n := by
  have hu : 0 < (t.take s).length := by rw [take_len p]; exact p.pos
  have ht : 0 < t.length := Nat.lt_of_lt_of_le p.pos p.le
  by_cases hh : n < h.length
  · obtain ⟨j, hj⟩ : ∃ j, n = h.length - 1 - j ∧ j < h.length := ⟨h.length - 1 - n, by omega, by omega⟩
    obtain ⟨rfl, hj2⟩ := hj
    rw [sg_head hh, gg_head hu hj2, x.same j (by omega)]
  · rw [sg_turn (by omega)]
    unfold gg
    rw [take_len p]
    rw [take_getD (Nat.mod_lt _ p.pos)]
    rw [rot_part p.pos p.dvd ht p.rot _ (Nat.mod_lt _ ht)]
    congr 1
    obtain ⟨q, hq⟩ : ∃ q, t.length = s * q := ⟨t.length / s, by
      have := Nat.mod_add_div t.length s
      have hd := p.dvd
      omega⟩
    rw [hq, Nat.mod_mul_right_mod]
    have hge := mul_ge (A := h.length) p.pos
    rw [show n + h.length * s - h.length = (n - h.length) + h.length * s by omega, Nat.add_mul_mod_self_right]
theorem beg_of (p : IsPer t s) (x : Alike h (t.take s) a) : IsBeg h t s (h.length - a) := by
  have hu : 0 < (t.take s).length := by rw [take_len p]; exact p.pos
  have hle := x.le
  refine ⟨Nat.sub_le _ _, fun n h1 h2 => ?_, ?_⟩
  · rw [sg_gg p x h1, sg_gg p x (by omega)]
    have := gg_add (h := h) hu n
    rw [take_len p] at this
    exact this.symm
  · rcases x.last with e | e
    · exact .inl (by omega)
    · by_cases h0 : a = h.length
      · exact .inl (by omega)
      · refine .inr fun z => e ?_
        have ha : a < h.length := by omega
        rw [sg_head (by omega), sg_gg p x (n := h.length - a - 1 + s) (by have := p.pos; omega)] at z
        have g1 := gg_add (h := h) hu (h.length - a - 1)
        rw [take_len p] at g1
        rw [g1, show h.length - a - 1 = h.length - 1 - a by omega, gg_head hu ha] at z
        exact z
theorem win_of (p : IsPer t s) (x : Alike h (t.take s) a) :
    (t.take s).drop (s - a % s) ++ (t.take s).take (s - a % s) = rng (sg h t) (h.length - a) s := by
  have hl := take_len p
  have hle := x.le
  have hm := Nat.mod_lt a p.pos
  have hg : ∀ i, i < s → sg h t (h.length - a + i) = gg h (t.take s) (h.length - a + i) := fun i _ => sg_gg p x (by omega)
  unfold gg at hg
  rw [hl] at hg
  have hge := mul_ge (A := h.length) p.pos
  have ha := Nat.mod_add_div a s
  have hq : a / s ≤ h.length := Nat.le_trans (Nat.div_le_self a s) hle
  have hqs : a / s ≤ s * (a / s) := by
    rw [Nat.mul_comm]
    exact mul_ge p.pos
  obtain ⟨c, hc⟩ : ∃ c, h.length = a / s + c := ⟨h.length - a / s, by omega⟩
  have e0 : h.length * s = s * (a / s) + s * c := by
    conv => lhs; rw [hc]
    rw [Nat.add_mul, Nat.mul_comm (a / s) s, Nat.mul_comm c s]
  generalize hlu : t.take s = u at *
  generalize a / s = q at *
  generalize a % s = ρ at *
  generalize h.length * s = A at *
  refine ext_rng (by rw [List.length_append, List.length_drop, List.length_take, hl]; omega) fun i hi => ?_
  rw [hg i hi]
  have e1 : h.length - a + i + A - h.length = s * c + i - ρ := by omega
  rw [e1]
  by_cases h1 : i < ρ
  · rw [List.getElem?_append_left (by rw [List.length_drop, hl]; omega), List.getElem?_drop, getD_some (by rw [hl]; omega)]
    congr 2
    have hc0 : c ≠ 0 := by
      rintro rfl
      rw [Nat.mul_zero] at e0
      omega
    obtain ⟨d, rfl⟩ : ∃ d, c = d + 1 := ⟨c - 1, by omega⟩
    have e5 : s * (d + 1) = s * d + s := Nat.mul_succ s d
    rw [show s * (d + 1) + i - ρ = (s - ρ + i) + s * d by omega, Nat.add_mul_mod_self_left, Nat.mod_eq_of_lt (by omega)]
  · rw [List.getElem?_append_right (by rw [List.length_drop, hl]; omega), List.length_drop, hl, List.getElem?_take, if_pos (by omega), getD_some (by rw [hl]; omega)]
    congr 2
    rw [show s * c + i - ρ = (i - ρ) + s * c by omega, Nat.add_mul_mod_self_left, Nat.mod_eq_of_lt (by omega)]
    omega
theorem head_of (hm : a ≤ h.length) : h.take (h.length - a) = rng (sg h t) 0 (h.length - a) := by
  refine ext_rng (by rw [List.length_take]; omega) fun i hi => ?_
  rw [List.getElem?_take, if_pos hi, Nat.zero_add, sg_head (by omega), getD_some (by omega)]
end
theorem beg_exists {h t : List Nat} {s : Nat} : ∃ m, IsBeg h t s m := by
  have key : ∀ d, d ≤ h.length → (∀ n, h.length - d ≤ n → n < h.length → sg h t n = sg h t (n + s)) → ∃ m, IsBeg h t s m := by
    intro d
    induction hk : h.length - d generalizing d with
    | zero => exact fun h1 h2 => ⟨0, Nat.zero_le _, fun n a b => h2 n a b, .inl rfl⟩
    | succ k ih =>
      intro h1 h2
      by_cases c : sg h t k = sg h t (k + s)
      · refine ih (d + 1) (by omega) (by omega) fun n a b => ?_
        by_cases e : n = k
        · subst e; exact c
        · exact h2 n (by omega) b
      · exact ⟨k + 1, by omega, h2, .inr c⟩
  exact key 0 (Nat.zero_le _) fun n a b => by omega
/-- the turn can't be shortened, the head does not go on by it -/
structure Prim (h u : List Nat) : Prop where
  per : IsPer u u.length
  last : h.length = 0 ∨ h.getD (h.length - 1) 0 ≠ u.getD (u.length - 1) 0
theorem Prim.pos {h u : List Nat} (x : Prim h u) : 0 < u.length := x.per.pos
theorem Prim.beg {h u : List Nat} (x : Prim h u) : IsBeg h u u.length h.length := by
  refine ⟨Nat.le_refl _, fun n a b => by omega, ?_⟩
  rcases x.last with e | e
  · exact .inl e
  · by_cases h0 : h.length = 0
    · exact .inl h0
    · refine .inr fun z => e ?_
      have hp := x.pos
      rw [sg_head (by omega), sg_turn (by omega), show h.length - 1 + u.length - h.length = u.length - 1 by omega, Nat.mod_eq_of_lt (by omega)] at z
      exact z
theorem Prim.head {h u : List Nat} : rng (sg h u) 0 h.length = h :=
  (ext_rng (a := 0) rfl fun i hi => by rw [Nat.zero_add, sg_head hi, getD_some hi]).symm
theorem Prim.turn {h u : List Nat} : rng (sg h u) h.length u.length = u :=
  (ext_rng (a := h.length) rfl fun i hi => by rw [sg_turn (by omega), show h.length + i - h.length = i by omega, Nat.mod_eq_of_lt hi, getD_some hi]).symm
theorem part_per {t : List Nat} {s : Nat} (p : IsPer t s) : IsPer (t.take s) (t.take s).length := by
  have hl := take_len p
  have hs : 0 < s := p.pos
  have ht : 0 < t.length := Nat.lt_of_lt_of_le p.pos p.le
  refine ⟨by omega, Nat.le_refl _, rot_len _, fun j j1 j2 r => ?_⟩
  rw [hl] at j2
  refine p.least j j1 j2 fun i hi => ?_
  rw [rot_part p.pos p.dvd ht p.rot i hi, rot_part p.pos p.dvd ht p.rot _ (Nat.mod_lt _ ht)]
  obtain ⟨q, hq⟩ : ∃ q, t.length = s * q := ⟨t.length / s, by
    have := Nat.mod_add_div t.length s
    have hd := p.dvd
    omega⟩
  rw [hq, Nat.mod_mul_right_mod]
  have h1 := r (i % s) (by rw [hl]; exact Nat.mod_lt _ hs)
  rw [hl, take_getD (Nat.mod_lt _ hs), take_getD (Nat.mod_lt _ hs), Nat.mod_add_mod] at h1
  exact h1
theorem sg_per {h t : List Nat} (ht : 0 < t.length) {n : Nat} (hn : h.length ≤ n) : sg h t (n + t.length) = sg h t n := (sg_rot ht (rot_len t) hn).symm
/-- going on by k from some place on -/
def Goes (f : Nat → Nat) (N k : Nat) : Prop := ∀ n, N ≤ n → f n = f (n + k)
theorem goes_mul {f : Nat → Nat} {N k : Nat} (g : Goes f N k) (j : Nat) {n : Nat} (hn : N ≤ n) : f n = f (n + j * k) := by
  induction j with
  | zero => rw [Nat.zero_mul, Nat.add_zero]
  | succ j ih => rw [ih, g (n + j * k) (by omega), Nat.succ_mul, Nat.add_assoc]
theorem Goes.down {f : Nat → Nat} {N M k p : Nat} (g : Goes f N k) (hp : 0 < p) (q : Goes f M p) : Goes f M k := by
  intro n hn
  have e1 := goes_mul q N hn
  have e2 := goes_mul q N (n := n + k) (by omega)
  have hNp : N ≤ N * p := Nat.le_mul_of_pos_right _ hp
  rw [e1, e2, g (n + N * p) (by omega)]
  congr 1
  omega
theorem goes_sg {h t : List Nat} (ht : 0 < t.length) {N : Nat} (hN : h.length ≤ N) : Goes (sg h t) N t.length := fun n hn => (sg_per ht (by omega)).symm
theorem rot_iff {h t : List Nat} {k N : Nat} (ht : 0 < t.length) (hN : h.length ≤ N) : Rot t k ↔ Goes (sg h t) N k := by
  constructor
  · intro r n hn
    exact sg_rot ht r (by omega)
  · intro g i hi
    have g2 : Goes (sg h t) h.length k := Goes.down g ht (goes_sg ht (Nat.le_refl _))
    have e := g2 (h.length + i) (by omega)
    rw [sg_turn (by omega), sg_turn (by omega)] at e
    rw [show h.length + i - h.length = i by omega, Nat.mod_eq_of_lt hi, show h.length + i + k - h.length = i + k by omega] at e
    exact e
section
variable {h t h' t' : List Nat} {s s' m m' : Nat}
theorem per_uniq (e : sg h t = sg h' t') (a : IsPer t s) (b : IsPer t' s') : s = s' := by
  have ht : 0 < t.length := Nat.lt_of_lt_of_le a.pos a.le
  have ht' : 0 < t'.length := Nat.lt_of_lt_of_le b.pos b.le
  have key : ∀ k, Rot t k ↔ Rot t' k := fun k => by
    rw [rot_iff (h := h) (N := h.length + h'.length) ht (by omega), rot_iff (h := h') (N := h.length + h'.length) ht' (by omega), e]
  rcases Nat.lt_trichotomy s s' with c | c | c
  · exact absurd ((key s).mp a.rot) (b.least s a.pos c)
  · exact c
  · exact absurd ((key s').mpr b.rot) (a.least s' b.pos c)
theorem beg_uniq (e : sg h t = sg h' t') (a : IsPer t s) (x : IsBeg h t s m) (b : IsPer t' s) (y : IsBeg h' t' s m') : m = m' := by
  rcases Nat.lt_trichotomy m m' with c | c | c
  · rcases y.least with z | z
    · omega
    · have := x.from a (n := m' - 1) (by omega)
      rw [e] at this
      exact absurd this z
  · exact c
  · rcases x.least with z | z
    · omega
    · have := y.from b (n := m - 1) (by omega)
      rw [← e] at this
      exact absurd this z
/-- one set has one least table -/
theorem least_eq (a : IsPer t s) (x : IsBeg h t s m) (b : IsPer t' s') (y : IsBeg h' t' s' m') :
    (rng (sg h t) 0 m = rng (sg h' t') 0 m' ∧ rng (sg h t) m s = rng (sg h' t') m' s') ↔ sg h t = sg h' t' := by
  constructor
  · rintro ⟨e1, e2⟩
    funext n
    rw [← sg_least x a n, ← sg_least y b n, e1, e2]
  · intro e
    obtain rfl := per_uniq e a b
    obtain rfl := beg_uniq e a x b y
    rw [e]
    exact ⟨rfl, rfl⟩
end
end RowN
namespace G60
open PySem PySem.Spec PyProof.Rows L2 G1 Row Gm
local macro_rules | `(tactic| walk_at "side") => `(tactic| first
  | assumption
  | omega
  | (constructor <;> omega)
  | rfl
  | decide
  | (dsimp only; decide)
  | (refine szl ?_; simp only [List.length_cons, List.length_nil]; omega)
  | (unfold CMul; omega)
  | (unfold CDiv; omega)
  | (unfold CPow; omega)
  | (unfold CMul; simp; done)
  | (unfold CMul; simp; omega)
  | (simp only [List.length_map, List.length_append, List.length_take, List.length_drop, rep_length, List.length_cons, List.length_nil, Nat.zero_add, Nat.mul_one]; omega))
local macro_rules | `(tactic| walk_at "go1") => `(tactic| first
  | (apply go_bit; (focus walk_at "side"); rw [B_str _ (by walk_at "side") (by walk_at "side")])
  | (apply go_lenS; (focus walk_at "side"); simp only [B_len])
  | (apply go_addS; (focus walk_at "side"); rw [B_app])
  | (apply go_mulS; (focus walk_at "side"); (focus walk_at "side"); rw [B_mul _ (by walk_at "side")])
  | (apply go_sl; (focus walk_at "side"); first | rw [B_last] | rw [B_init] | rw [B_to _ (by walk_at "side")] | rw [B_from _ (by walk_at "side")] | rw [B_mid _ (by walk_at "side") (by walk_at "side")])
  | (apply goC_sl; (focus walk_at "side"); first | rw [C_to _ (by walk_at "side")] | rw [C_from _ (by walk_at "side")] | rw [C_mid _ (by walk_at "side") (by walk_at "side")])
  | (apply goC_mulS; (focus walk_at "side"); (focus walk_at "side"); rw [C_mul _ (by walk_at "side")])
  | refine ⟨_, rfl, ?_⟩
  | refine ⟨_, _, rfl, rfl, ?_⟩
  | refine ⟨_, _, _, rfl, rfl, ?_⟩
  | refine ⟨_, _, rfl, ?_⟩
  | refine ⟨_, _, _, rfl, ?_⟩
  | (apply go_tup; assumption)
  | (apply go_unl; assumption)
  | (apply go_ixL; assumption; (first | rfl | assumption))
  | (apply go_ixT; assumption; (first | rfl | assumption))
  | (apply go_lenL; assumption)
  | (apply go_lenT; assumption)
  | refine Or.inl ⟨_, rfl, ?_⟩
  | (refine And.intro ?ll ?_; (case ll => walk_at "side")))
local macro_rules | `(tactic| walk_at "go") => `(tactic| repeat (walk_at "go1"))
def topS (i : Nat) : Stmt := PySem.Challenge.pw_leastmakers_k60_lost_numbers_and_worths.main.body.getD i (.Pass ⟨0, 0, 0, 0⟩)
abbrev s_is_whole : Stmt := topS 18
abbrev nm_is_whole : List Str := ["value", "low", "high"]
theorem sc_is_whole : FnScope nm_is_whole ["value", "low", "high"] (defScope s_is_whole) := ⟨rfl, rfl, rfl, by decide +kernel, rfl, by decide +kernel, by decide +kernel⟩
abbrev s_is_ascending : Stmt := topS 21
abbrev nm_is_ascending : List Str := ["items", "low", "high"]
theorem sc_is_ascending : FnScope nm_is_ascending ["items"] (defScope s_is_ascending) := ⟨rfl, rfl, rfl, by decide +kernel, rfl, by decide +kernel, by decide +kernel⟩
abbrev s_check_size : Stmt := topS 24
abbrev nm_check_size : List Str := ["head", "turn"]
theorem sc_check_size : FnScope nm_check_size ["head", "turn"] (defScope s_check_size) := ⟨rfl, rfl, rfl, by decide +kernel, rfl, by decide +kernel, by decide +kernel⟩
abbrev s_table_error : Stmt := topS 26
abbrev nm_table_error : List Str := ["value", "head", "turn"]
theorem sc_table_error : FnScope nm_table_error ["value"] (defScope s_table_error) := ⟨rfl, rfl, rfl, by decide +kernel, rfl, by decide +kernel, by decide +kernel⟩
abbrev s_least : Stmt := topS 28
abbrev nm_least : List Str := ["table", "head", "turn", "alike", "cut"]
theorem sc_least : FnScope nm_least ["table"] (defScope s_least) := ⟨rfl, rfl, rfl, by decide +kernel, rfl, by decide +kernel, by decide +kernel⟩
abbrev s_table_of : Stmt := topS 29
abbrev nm_table_of : List Str := ["row", "head"]
theorem sc_table_of : FnScope nm_table_of ["row", "head"] (defScope s_table_of) := ⟨rfl, rfl, rfl, by decide +kernel, rfl, by decide +kernel, by decide +kernel⟩
abbrev s_shortest : Stmt := topS 30
abbrev nm_shortest : List Str := ["turn", "many", "size"]
theorem sc_shortest : FnScope nm_shortest ["turn"] (defScope s_shortest) := ⟨rfl, rfl, rfl, by decide +kernel, rfl, by decide +kernel, by decide +kernel⟩
abbrev s_alike : Stmt := topS 31
abbrev nm_alike : List Str := ["head", "turn", "alike"]
theorem sc_alike : FnScope nm_alike ["head", "turn"] (defScope s_alike) := ⟨rfl, rfl, rfl, by decide +kernel, rfl, by decide +kernel, by decide +kernel⟩
abbrev s_is_least : Stmt := topS 32
abbrev nm_is_least : List Str := ["table"]
theorem sc_is_least : FnScope nm_is_least ["table"] (defScope s_is_least) := ⟨rfl, rfl, rfl, by decide +kernel, rfl, by decide +kernel, by decide +kernel⟩
abbrev s_moved : Stmt := topS 34
abbrev nm_moved : List Str := ["table", "by", "head", "turn"]
theorem sc_moved : FnScope nm_moved ["table", "by"] (defScope s_moved) := ⟨rfl, rfl, rfl, by decide +kernel, rfl, by decide +kernel, by decide +kernel⟩
abbrev s_game_error : Stmt := topS 37
abbrev nm_game_error : List Str := ["value", "take"]
theorem sc_game_error : FnScope nm_game_error ["value"] (defScope s_game_error) := ⟨rfl, rfl, rfl, by decide +kernel, rfl, by decide +kernel, by decide +kernel⟩
abbrev s_lost : Stmt := topS 38
abbrev nm_lost : List Str := ["game"]
theorem sc_lost : FnScope nm_lost ["game"] (defScope s_lost) := ⟨rfl, rfl, rfl, by decide +kernel, rfl, by decide +kernel, by decide +kernel⟩
abbrev s_lost_last : Stmt := topS 39
abbrev nm_lost_last : List Str := ["game"]
theorem sc_lost_last : FnScope nm_lost_last ["game"] (defScope s_lost_last) := ⟨rfl, rfl, rfl, by decide +kernel, rfl, by decide +kernel, by decide +kernel⟩
abbrev s_worth_row : Stmt := topS 40
abbrev nm_worth_row : List Str := ["game", "row", "seen", "ahead"]
theorem sc_worth_row : FnScope nm_worth_row ["game"] (defScope s_worth_row) := ⟨rfl, rfl, rfl, by decide +kernel, rfl, by decide +kernel, by decide +kernel⟩
abbrev s_next_worth : Stmt := topS 41
abbrev nm_next_worth : List Str := ["game", "row", "number", "ahead", "found", "take"]
theorem sc_next_worth : FnScope nm_next_worth ["game", "row"] (defScope s_next_worth) := ⟨rfl, rfl, rfl, by decide +kernel, rfl, by decide +kernel, by decide +kernel⟩
abbrev s_worth : Stmt := topS 42
abbrev nm_worth : List Str := ["game", "number"]
theorem sc_worth : FnScope nm_worth ["game", "number"] (defScope s_worth) := ⟨rfl, rfl, rfl, by decide +kernel, rfl, by decide +kernel, by decide +kernel⟩
abbrev s_worth_at : Stmt := topS 43
abbrev nm_worth_at : List Str := ["table", "number", "head", "turn"]
theorem sc_worth_at : FnScope nm_worth_at ["table", "number"] (defScope s_worth_at) := ⟨rfl, rfl, rfl, by decide +kernel, rfl, by decide +kernel, by decide +kernel⟩
abbrev s_gworths : Stmt := topS 44
abbrev nm_gworths : List Str := ["game", "head", "row", "parts", "part", "found", "figure"]
theorem sc_gworths : FnScope nm_gworths ["game"] (defScope s_gworths) := ⟨rfl, rfl, rfl, by decide +kernel, rfl, by decide +kernel, by decide +kernel⟩
abbrev s_of_worth : Stmt := topS 45
abbrev nm_of_worth : List Str := ["game", "worth", "head", "row", "found"]
theorem sc_of_worth : FnScope nm_of_worth ["game", "worth"] (defScope s_of_worth) := ⟨rfl, rfl, rfl, by decide +kernel, rfl, by decide +kernel, by decide +kernel⟩
abbrev s_purse_error : Stmt := topS 53
abbrev nm_purse_error : List Str := ["value", "free", "bounded", "coins", "coin", "times"]
theorem sc_purse_error : FnScope nm_purse_error ["value"] (defScope s_purse_error) := ⟨rfl, rfl, rfl, by decide +kernel, rfl, by decide +kernel, by decide +kernel⟩
abbrev s_watches_error : Stmt := topS 83
abbrev nm_watches_error : List Str := ["value", "place", "item", "word"]
theorem sc_watches_error : FnScope nm_watches_error ["value"] (defScope s_watches_error) := ⟨rfl, rfl, rfl, by decide +kernel, rfl, by decide +kernel, by decide +kernel⟩
abbrev s_web_error : Stmt := topS 87
abbrev nm_web_error : List Str := ["value", "many", "steps", "ends"]
theorem sc_web_error : FnScope nm_web_error ["value"] (defScope s_web_error) := ⟨rfl, rfl, rfl, by decide +kernel, rfl, by decide +kernel, by decide +kernel⟩
abbrev s_maker_error : Stmt := topS 96
abbrev nm_maker_error : List Str := ["value", "waiting", "looked", "path", "thing", "word", "inner", "place", "part"]
theorem sc_maker_error : FnScope nm_maker_error ["value"] (defScope s_maker_error) := ⟨rfl, rfl, rfl, by decide +kernel, rfl, by decide +kernel, by decide +kernel⟩
abbrev s_wrong_word : Stmt := topS 97
abbrev nm_wrong_word : List Str := ["path", "thing", "kind", "fits"]
theorem sc_wrong_word : FnScope nm_wrong_word ["path", "thing"] (defScope s_wrong_word) := ⟨rfl, rfl, rfl, by decide +kernel, rfl, by decide +kernel, by decide +kernel⟩
abbrev s_fits_one : Stmt := topS 98
abbrev nm_fits_one : List Str := ["kind", "item"]
theorem sc_fits_one : FnScope nm_fits_one ["kind", "item"] (defScope s_fits_one) := ⟨rfl, rfl, rfl, by decide +kernel, rfl, by decide +kernel, by decide +kernel⟩
abbrev s_fits_two : Stmt := topS 99
abbrev nm_fits_two : List Str := ["kind", "item", "other"]
theorem sc_fits_two : FnScope nm_fits_two ["kind", "item", "other"] (defScope s_fits_two) := ⟨rfl, rfl, rfl, by decide +kernel, rfl, by decide +kernel, by decide +kernel⟩
abbrev s_deck : Stmt := topS 101
abbrev nm_deck : List Str := ["_law_script", "_law_cells", "_law_great", "_law_cell"]
theorem sc_deck : FnScope nm_deck ["_law_script"] (defScope s_deck) := ⟨rfl, rfl, rfl, by decide +kernel, rfl, by decide +kernel, by decide +kernel⟩
abbrev s_draw : Stmt := topS 102
abbrev nm_draw : List Str := ["_law_deck_here", "_law_many", "_law_left", "_law_cell", "_law_mixed"]
theorem sc_draw : FnScope nm_draw ["_law_deck_here", "_law_many"] (defScope s_draw) := ⟨rfl, rfl, rfl, by decide +kernel, rfl, by decide +kernel, by decide +kernel⟩
abbrev s_one : Stmt := topS 103
abbrev nm_one : List Str := ["_law_deck_here", "_law_items"]
theorem sc_one : FnScope nm_one ["_law_deck_here", "_law_items"] (defScope s_one) := ⟨rfl, rfl, rfl, by decide +kernel, rfl, by decide +kernel, by decide +kernel⟩
abbrev s_far : Stmt := topS 104
abbrev nm_far : List Str := ["_law_deck_here", "_law_many", "_law_found", "_law_turn"]
theorem sc_far : FnScope nm_far ["_law_deck_here", "_law_many"] (defScope s_far) := ⟨rfl, rfl, rfl, by decide +kernel, rfl, by decide +kernel, by decide +kernel⟩
abbrev s_lleast : Stmt := topS 105
abbrev nm_lleast : List Str := ["_law_head", "_law_turn", "_law_size", "_law_k"]
theorem sc_lleast : FnScope nm_lleast ["_law_head", "_law_turn"] (defScope s_lleast) := ⟨rfl, rfl, rfl, by decide +kernel, rfl, by decide +kernel, by decide +kernel⟩
abbrev s_lsigns : Stmt := topS 106
abbrev nm_lsigns : List Str := ["_law_table", "_law_many"]
theorem sc_lsigns : FnScope nm_lsigns ["_law_table", "_law_many"] (defScope s_lsigns) := ⟨rfl, rfl, rfl, by decide +kernel, rfl, by decide +kernel, by decide +kernel⟩
abbrev s_game : Stmt := topS 107
abbrev nm_game : List Str := ["_law_deck_here", "_law_kind", "_law_wide", "_law_found", "_law_take"]
theorem sc_game : FnScope nm_game ["_law_deck_here"] (defScope s_game) := ⟨rfl, rfl, rfl, by decide +kernel, rfl, by decide +kernel, by decide +kernel⟩
abbrev s_worths : Stmt := topS 108
abbrev nm_worths : List Str := ["_law_game_here", "_law_row", "_law_seen", "_law_number", "_law_last", "_law_near", "_law_take", "_law_own"]
theorem sc_worths : FnScope nm_worths ["_law_game_here"] (defScope s_worths) := ⟨rfl, rfl, rfl, by decide +kernel, rfl, by decide +kernel, by decide +kernel⟩
abbrev s_lworth_at : Stmt := topS 109
abbrev nm_lworth_at : List Str := ["_law_told", "_law_number", "_law_head", "_law_turn"]
theorem sc_lworth_at : FnScope nm_lworth_at ["_law_told", "_law_number"] (defScope s_lworth_at) := ⟨rfl, rfl, rfl, by decide +kernel, rfl, by decide +kernel, by decide +kernel⟩
abbrev s_lof : Stmt := topS 110
abbrev nm_lof : List Str := ["_law_told", "_law_own", "_law_signs_here", "_law_row", "_law_cell"]
theorem sc_lof : FnScope nm_lof ["_law_told", "_law_own"] (defScope s_lof) := ⟨rfl, rfl, rfl, by decide +kernel, rfl, by decide +kernel, by decide +kernel⟩
abbrev s_odd : Stmt := topS 111
abbrev nm_odd : List Str := ["_law_deck_here", "_law_some"]
theorem sc_odd : FnScope nm_odd ["_law_deck_here"] (defScope s_odd) := ⟨rfl, rfl, rfl, by decide +kernel, rfl, by decide +kernel, by decide +kernel⟩
abbrev s_bent : Stmt := topS 112
abbrev nm_bent : List Str := ["_law_deck_here", "_law_game_here", "_law_at", "_law_more", "_law_own", "_law_some"]
theorem sc_bent : FnScope nm_bent ["_law_deck_here", "_law_game_here"] (defScope s_bent) := ⟨rfl, rfl, rfl, by decide +kernel, rfl, by decide +kernel, by decide +kernel⟩
abbrev s_lis_game : Stmt := topS 113
abbrev nm_lis_game : List Str := ["_law_value", "_law_own", "_law_later"]
theorem sc_lis_game : FnScope nm_lis_game ["_law_value"] (defScope s_lis_game) := ⟨rfl, rfl, rfl, by decide +kernel, rfl, by decide +kernel, by decide +kernel⟩
abbrev s_last_row : Stmt := topS 114
abbrev nm_last_row : List Str := ["_law_game_here", "_law_many", "_law_row", "_law_number", "_law_near", "_law_take"]
theorem sc_last_row : FnScope nm_last_row ["_law_game_here", "_law_many"] (defScope s_last_row) := ⟨rfl, rfl, rfl, by decide +kernel, rfl, by decide +kernel, by decide +kernel⟩
abbrev s_law : Stmt := topS 115
abbrev nm_law : List Str := ["_law_script", "_law_deck_here", "_law_turn", "_law_game_here", "_law_k", "_law_values", "_law_value", "_law_is_game_here", "_law_held", "_law_due", "_law_found", "_law_own", "_law_nought", "_law_one_here", "_law_last", "_law_far_here", "_law_number"]
theorem sc_law : FnScope nm_law ["_law_script"] (defScope s_law) := ⟨rfl, rfl, rfl, by decide +kernel, rfl, by decide +kernel, by decide +kernel⟩
structure Tp (K : PySem.W.Frag) (mg : Str → Option Value) where
  a_is_whole : Addr
  d_is_whole : FuncData
  F_is_whole : Fun K "is_whole" "is_whole" s_is_whole a_is_whole d_is_whole
  g_is_whole : mg "is_whole" = some (.ref a_is_whole)
  a_is_ascending : Addr
  d_is_ascending : FuncData
  F_is_ascending : Fun K "is_ascending" "is_ascending" s_is_ascending a_is_ascending d_is_ascending
  g_is_ascending : mg "is_ascending" = some (.ref a_is_ascending)
  a_check_size : Addr
  d_check_size : FuncData
  F_check_size : Fun K "check_size" "check_size" s_check_size a_check_size d_check_size
  g_check_size : mg "check_size" = some (.ref a_check_size)
  a_table_error : Addr
  d_table_error : FuncData
  F_table_error : Fun K "table_error" "table_error" s_table_error a_table_error d_table_error
  g_table_error : mg "table_error" = some (.ref a_table_error)
  a_least : Addr
  d_least : FuncData
  F_least : Fun K "least" "least" s_least a_least d_least
  g_least : mg "least" = some (.ref a_least)
  a_table_of : Addr
  d_table_of : FuncData
  F_table_of : Fun K "table_of" "table_of" s_table_of a_table_of d_table_of
  g_table_of : mg "table_of" = some (.ref a_table_of)
  a_shortest : Addr
  d_shortest : FuncData
  F_shortest : Fun K "_shortest_turn" "_shortest_turn" s_shortest a_shortest d_shortest
  g_shortest : mg "_shortest_turn" = some (.ref a_shortest)
  a_alike : Addr
  d_alike : FuncData
  F_alike : Fun K "_alike_signs" "_alike_signs" s_alike a_alike d_alike
  g_alike : mg "_alike_signs" = some (.ref a_alike)
  a_is_least : Addr
  d_is_least : FuncData
  F_is_least : Fun K "is_least" "is_least" s_is_least a_is_least d_is_least
  g_is_least : mg "is_least" = some (.ref a_is_least)
  a_moved : Addr
  d_moved : FuncData
  F_moved : Fun K "moved" "moved" s_moved a_moved d_moved
  g_moved : mg "moved" = some (.ref a_moved)
  a_game_error : Addr
  d_game_error : FuncData
  F_game_error : Fun K "game_error" "game_error" s_game_error a_game_error d_game_error
  g_game_error : mg "game_error" = some (.ref a_game_error)
  a_lost : Addr
  d_lost : FuncData
  F_lost : Fun K "lost" "lost" s_lost a_lost d_lost
  g_lost : mg "lost" = some (.ref a_lost)
  a_lost_last : Addr
  d_lost_last : FuncData
  F_lost_last : Fun K "lost_last" "lost_last" s_lost_last a_lost_last d_lost_last
  g_lost_last : mg "lost_last" = some (.ref a_lost_last)
  a_worth_row : Addr
  d_worth_row : FuncData
  F_worth_row : Fun K "_worth_row" "_worth_row" s_worth_row a_worth_row d_worth_row
  g_worth_row : mg "_worth_row" = some (.ref a_worth_row)
  a_next_worth : Addr
  d_next_worth : FuncData
  F_next_worth : Fun K "_next_worth" "_next_worth" s_next_worth a_next_worth d_next_worth
  g_next_worth : mg "_next_worth" = some (.ref a_next_worth)
  a_worth : Addr
  d_worth : FuncData
  F_worth : Fun K "worth" "worth" s_worth a_worth d_worth
  g_worth : mg "worth" = some (.ref a_worth)
  a_worth_at : Addr
  d_worth_at : FuncData
  F_worth_at : Fun K "_worth_at" "_worth_at" s_worth_at a_worth_at d_worth_at
  g_worth_at : mg "_worth_at" = some (.ref a_worth_at)
  a_gworths : Addr
  d_gworths : FuncData
  F_gworths : Fun K "worths" "worths" s_gworths a_gworths d_gworths
  g_gworths : mg "worths" = some (.ref a_gworths)
  a_of_worth : Addr
  d_of_worth : FuncData
  F_of_worth : Fun K "of_worth" "of_worth" s_of_worth a_of_worth d_of_worth
  g_of_worth : mg "of_worth" = some (.ref a_of_worth)
  a_purse_error : Addr
  d_purse_error : FuncData
  F_purse_error : Fun K "purse_error" "purse_error" s_purse_error a_purse_error d_purse_error
  g_purse_error : mg "purse_error" = some (.ref a_purse_error)
  a_watches_error : Addr
  d_watches_error : FuncData
  F_watches_error : Fun K "watches_error" "watches_error" s_watches_error a_watches_error d_watches_error
  g_watches_error : mg "watches_error" = some (.ref a_watches_error)
  a_web_error : Addr
  d_web_error : FuncData
  F_web_error : Fun K "web_error" "web_error" s_web_error a_web_error d_web_error
  g_web_error : mg "web_error" = some (.ref a_web_error)
  a_maker_error : Addr
  d_maker_error : FuncData
  F_maker_error : Fun K "maker_error" "maker_error" s_maker_error a_maker_error d_maker_error
  g_maker_error : mg "maker_error" = some (.ref a_maker_error)
  a_wrong_word : Addr
  d_wrong_word : FuncData
  F_wrong_word : Fun K "_wrong_word" "_wrong_word" s_wrong_word a_wrong_word d_wrong_word
  g_wrong_word : mg "_wrong_word" = some (.ref a_wrong_word)
  a_fits_one : Addr
  d_fits_one : FuncData
  F_fits_one : Fun K "_fits_one" "_fits_one" s_fits_one a_fits_one d_fits_one
  g_fits_one : mg "_fits_one" = some (.ref a_fits_one)
  a_fits_two : Addr
  d_fits_two : FuncData
  F_fits_two : Fun K "_fits_two" "_fits_two" s_fits_two a_fits_two d_fits_two
  g_fits_two : mg "_fits_two" = some (.ref a_fits_two)
  a_deck : Addr
  d_deck : FuncData
  F_deck : Fun K "_law_deck" "_law_deck" s_deck a_deck d_deck
  g_deck : mg "_law_deck" = some (.ref a_deck)
  a_draw : Addr
  d_draw : FuncData
  F_draw : Fun K "_law_draw" "_law_draw" s_draw a_draw d_draw
  g_draw : mg "_law_draw" = some (.ref a_draw)
  a_one : Addr
  d_one : FuncData
  F_one : Fun K "_law_one" "_law_one" s_one a_one d_one
  g_one : mg "_law_one" = some (.ref a_one)
  a_far : Addr
  d_far : FuncData
  F_far : Fun K "_law_far" "_law_far" s_far a_far d_far
  g_far : mg "_law_far" = some (.ref a_far)
  a_lleast : Addr
  d_lleast : FuncData
  F_lleast : Fun K "_law_least" "_law_least" s_lleast a_lleast d_lleast
  g_lleast : mg "_law_least" = some (.ref a_lleast)
  a_lsigns : Addr
  d_lsigns : FuncData
  F_lsigns : Fun K "_law_signs" "_law_signs" s_lsigns a_lsigns d_lsigns
  g_lsigns : mg "_law_signs" = some (.ref a_lsigns)
  a_game : Addr
  d_game : FuncData
  F_game : Fun K "_law_game" "_law_game" s_game a_game d_game
  g_game : mg "_law_game" = some (.ref a_game)
  a_worths : Addr
  d_worths : FuncData
  F_worths : Fun K "_law_worths" "_law_worths" s_worths a_worths d_worths
  g_worths : mg "_law_worths" = some (.ref a_worths)
  a_lworth_at : Addr
  d_lworth_at : FuncData
  F_lworth_at : Fun K "_law_worth_at" "_law_worth_at" s_lworth_at a_lworth_at d_lworth_at
  g_lworth_at : mg "_law_worth_at" = some (.ref a_lworth_at)
  a_lof : Addr
  d_lof : FuncData
  F_lof : Fun K "_law_of" "_law_of" s_lof a_lof d_lof
  g_lof : mg "_law_of" = some (.ref a_lof)
  a_odd : Addr
  d_odd : FuncData
  F_odd : Fun K "_law_odd" "_law_odd" s_odd a_odd d_odd
  g_odd : mg "_law_odd" = some (.ref a_odd)
  a_bent : Addr
  d_bent : FuncData
  F_bent : Fun K "_law_bent" "_law_bent" s_bent a_bent d_bent
  g_bent : mg "_law_bent" = some (.ref a_bent)
  a_lis_game : Addr
  d_lis_game : FuncData
  F_lis_game : Fun K "_law_is_game" "_law_is_game" s_lis_game a_lis_game d_lis_game
  g_lis_game : mg "_law_is_game" = some (.ref a_lis_game)
  a_last_row : Addr
  d_last_row : FuncData
  F_last_row : Fun K "_law_last_row" "_law_last_row" s_last_row a_last_row d_last_row
  g_last_row : mg "_law_last_row" = some (.ref a_last_row)
  a_law : Addr
  d_law : FuncData
  F_law : Fun K "law" "law" s_law a_law d_law
  g_law : mg "law" = some (.ref a_law)
  n_all : mg "all" = none
  n_bool : mg "bool" = none
  n_enumerate : mg "enumerate" = none
  n_int : mg "int" = none
  n_isinstance : mg "isinstance" = none
  n_len : mg "len" = none
  n_list : mg "list" = none
  n_max : mg "max" = none
  n_range : mg "range" = none
  n_repr : mg "repr" = none
  n_sorted : mg "sorted" = none
  n_str : mg "str" = none
  n_sum : mg "sum" = none
  n_tuple : mg "tuple" = none
  n_zip : mg "zip" = none
  pr : PySem.Params
  a__ITEMS_BEHIND : Addr
  es__ITEMS_BEHIND : Array DictEntry
  n__ITEMS_BEHIND : Nat
  m__ITEMS_BEHIND : mg "_ITEMS_BEHIND" = some (.ref a__ITEMS_BEHIND)
  D__ITEMS_BEHIND : ∀ wd : World, wd.params = pr → KDict K wd a__ITEMS_BEHIND es__ITEMS_BEHIND n__ITEMS_BEHIND
  L__ITEMS_BEHIND : ∀ z, ∃ r, PySem.W.nsIn K a__ITEMS_BEHIND z = some r ∧ dvOk [(("table" : Str), 1), (("watches" : Str), 1), (("coins" : Str), 1), (("web" : Str), 1), (("game" : Str), 1), (("book" : Str), 2), (("program" : Str), 2), (("row" : Str), 2), (("saying" : Str), 2)] z r
  k_MAX_HEAD : Tok
  m_MAX_HEAD : mg "MAX_HEAD" = some (.int 5000 k_MAX_HEAD)
  k_MAX_TURN : Tok
  m_MAX_TURN : mg "MAX_TURN" = some (.int 5000 k_MAX_TURN)
  k_MAX_TAKE : Tok
  m_MAX_TAKE : mg "MAX_TAKE" = some (.int 8 k_MAX_TAKE)
  k__MOST_TAKES : Tok
  m__MOST_TAKES : mg "_MOST_TAKES" = some (.int 8 k__MOST_TAKES)
  k__MOST_MAKERS : Tok
  m__MOST_MAKERS : mg "_MOST_MAKERS" = some (.int 9 k__MOST_MAKERS)
  k__MOST_PATH : Tok
  m__MOST_PATH : mg "_MOST_PATH" = some (.int 2 k__MOST_PATH)
section
variable {K : PySem.W.Frag} {mg : Str → Option Value} (T : Tp K mg)
theorem b_is_whole : Binds K T.d_is_whole ["value", "low", "high"] [] := T.F_is_whole.binds (ps := ["value", "low", "high"]) fun _ _ _ _ _ _ us hl => match us, hl with | [_, _, _], _ => rfl
theorem b_is_ascending : Binds K T.d_is_ascending ["items"] [] := T.F_is_ascending.binds (ps := ["items"]) fun _ _ _ _ _ _ us hl => match us, hl with | [_], _ => rfl
theorem b_check_size : Binds K T.d_check_size ["head", "turn"] [] := T.F_check_size.binds (ps := ["head", "turn"]) fun _ _ _ _ _ _ us hl => match us, hl with | [_, _], _ => rfl
theorem b_table_error : Binds K T.d_table_error ["value"] [] := T.F_table_error.binds (ps := ["value"]) fun _ _ _ _ _ _ us hl => match us, hl with | [_], _ => rfl
theorem b_least : Binds K T.d_least ["table"] [] := T.F_least.binds (ps := ["table"]) fun _ _ _ _ _ _ us hl => match us, hl with | [_], _ => rfl
theorem b_table_of : Binds K T.d_table_of ["row", "head"] [] := T.F_table_of.binds (ps := ["row", "head"]) fun _ _ _ _ _ _ us hl => match us, hl with | [_, _], _ => rfl
theorem b_shortest : Binds K T.d_shortest ["turn"] [] := T.F_shortest.binds (ps := ["turn"]) fun _ _ _ _ _ _ us hl => match us, hl with | [_], _ => rfl
theorem b_alike : Binds K T.d_alike ["head", "turn"] [] := T.F_alike.binds (ps := ["head", "turn"]) fun _ _ _ _ _ _ us hl => match us, hl with | [_, _], _ => rfl
theorem b_is_least : Binds K T.d_is_least ["table"] [] := T.F_is_least.binds (ps := ["table"]) fun _ _ _ _ _ _ us hl => match us, hl with | [_], _ => rfl
theorem b_moved : Binds K T.d_moved ["table", "by"] [] := T.F_moved.binds (ps := ["table", "by"]) fun _ _ _ _ _ _ us hl => match us, hl with | [_, _], _ => rfl
theorem b_game_error : Binds K T.d_game_error ["value"] [] := T.F_game_error.binds (ps := ["value"]) fun _ _ _ _ _ _ us hl => match us, hl with | [_], _ => rfl
theorem b_lost : Binds K T.d_lost ["game"] [] := T.F_lost.binds (ps := ["game"]) fun _ _ _ _ _ _ us hl => match us, hl with | [_], _ => rfl
theorem b_lost_last : Binds K T.d_lost_last ["game"] [] := T.F_lost_last.binds (ps := ["game"]) fun _ _ _ _ _ _ us hl => match us, hl with | [_], _ => rfl
theorem b_worth_row : Binds K T.d_worth_row ["game"] [] := T.F_worth_row.binds (ps := ["game"]) fun _ _ _ _ _ _ us hl => match us, hl with | [_], _ => rfl
theorem b_next_worth : Binds K T.d_next_worth ["game", "row"] [] := T.F_next_worth.binds (ps := ["game", "row"]) fun _ _ _ _ _ _ us hl => match us, hl with | [_, _], _ => rfl
theorem b_worth : Binds K T.d_worth ["game", "number"] [] := T.F_worth.binds (ps := ["game", "number"]) fun _ _ _ _ _ _ us hl => match us, hl with | [_, _], _ => rfl
theorem b_worth_at : Binds K T.d_worth_at ["table", "number"] [] := T.F_worth_at.binds (ps := ["table", "number"]) fun _ _ _ _ _ _ us hl => match us, hl with | [_, _], _ => rfl
theorem b_gworths : Binds K T.d_gworths ["game"] [] := T.F_gworths.binds (ps := ["game"]) fun _ _ _ _ _ _ us hl => match us, hl with | [_], _ => rfl
theorem b_of_worth : Binds K T.d_of_worth ["game", "worth"] [] := T.F_of_worth.binds (ps := ["game", "worth"]) fun _ _ _ _ _ _ us hl => match us, hl with | [_, _], _ => rfl
theorem b_purse_error : Binds K T.d_purse_error ["value"] [] := T.F_purse_error.binds (ps := ["value"]) fun _ _ _ _ _ _ us hl => match us, hl with | [_], _ => rfl
theorem b_watches_error : Binds K T.d_watches_error ["value"] [] := T.F_watches_error.binds (ps := ["value"]) fun _ _ _ _ _ _ us hl => match us, hl with | [_], _ => rfl
theorem b_web_error : Binds K T.d_web_error ["value"] [] := T.F_web_error.binds (ps := ["value"]) fun _ _ _ _ _ _ us hl => match us, hl with | [_], _ => rfl
theorem b_maker_error : Binds K T.d_maker_error ["value"] [] := T.F_maker_error.binds (ps := ["value"]) fun _ _ _ _ _ _ us hl => match us, hl with | [_], _ => rfl
theorem b_wrong_word : Binds K T.d_wrong_word ["path", "thing"] [] := T.F_wrong_word.binds (ps := ["path", "thing"]) fun _ _ _ _ _ _ us hl => match us, hl with | [_, _], _ => rfl
theorem b_fits_one : Binds K T.d_fits_one ["kind", "item"] [] := T.F_fits_one.binds (ps := ["kind", "item"]) fun _ _ _ _ _ _ us hl => match us, hl with | [_, _], _ => rfl
theorem b_fits_two : Binds K T.d_fits_two ["kind", "item", "other"] [] := T.F_fits_two.binds (ps := ["kind", "item", "other"]) fun _ _ _ _ _ _ us hl => match us, hl with | [_, _, _], _ => rfl
theorem b_deck : Binds K T.d_deck ["_law_script"] [] := T.F_deck.binds (ps := ["_law_script"]) fun _ _ _ _ _ _ us hl => match us, hl with | [_], _ => rfl
theorem b_draw : Binds K T.d_draw ["_law_deck_here", "_law_many"] [] := T.F_draw.binds (ps := ["_law_deck_here", "_law_many"]) fun _ _ _ _ _ _ us hl => match us, hl with | [_, _], _ => rfl
theorem b_one : Binds K T.d_one ["_law_deck_here", "_law_items"] [] := T.F_one.binds (ps := ["_law_deck_here", "_law_items"]) fun _ _ _ _ _ _ us hl => match us, hl with | [_, _], _ => rfl
theorem b_far : Binds K T.d_far ["_law_deck_here", "_law_many"] [] := T.F_far.binds (ps := ["_law_deck_here", "_law_many"]) fun _ _ _ _ _ _ us hl => match us, hl with | [_, _], _ => rfl
theorem b_lleast : Binds K T.d_lleast ["_law_head", "_law_turn"] [] := T.F_lleast.binds (ps := ["_law_head", "_law_turn"]) fun _ _ _ _ _ _ us hl => match us, hl with | [_, _], _ => rfl
theorem b_lsigns : Binds K T.d_lsigns ["_law_table", "_law_many"] [] := T.F_lsigns.binds (ps := ["_law_table", "_law_many"]) fun _ _ _ _ _ _ us hl => match us, hl with | [_, _], _ => rfl
theorem b_game : Binds K T.d_game ["_law_deck_here"] [] := T.F_game.binds (ps := ["_law_deck_here"]) fun _ _ _ _ _ _ us hl => match us, hl with | [_], _ => rfl
theorem b_worths : Binds K T.d_worths ["_law_game_here"] [] := T.F_worths.binds (ps := ["_law_game_here"]) fun _ _ _ _ _ _ us hl => match us, hl with | [_], _ => rfl
theorem b_lworth_at : Binds K T.d_lworth_at ["_law_told", "_law_number"] [] := T.F_lworth_at.binds (ps := ["_law_told", "_law_number"]) fun _ _ _ _ _ _ us hl => match us, hl with | [_, _], _ => rfl
theorem b_lof : Binds K T.d_lof ["_law_told", "_law_own"] [] := T.F_lof.binds (ps := ["_law_told", "_law_own"]) fun _ _ _ _ _ _ us hl => match us, hl with | [_, _], _ => rfl
theorem b_odd : Binds K T.d_odd ["_law_deck_here"] [] := T.F_odd.binds (ps := ["_law_deck_here"]) fun _ _ _ _ _ _ us hl => match us, hl with | [_], _ => rfl
theorem b_bent : Binds K T.d_bent ["_law_deck_here", "_law_game_here"] [] := T.F_bent.binds (ps := ["_law_deck_here", "_law_game_here"]) fun _ _ _ _ _ _ us hl => match us, hl with | [_, _], _ => rfl
theorem b_lis_game : Binds K T.d_lis_game ["_law_value"] [] := T.F_lis_game.binds (ps := ["_law_value"]) fun _ _ _ _ _ _ us hl => match us, hl with | [_], _ => rfl
theorem b_last_row : Binds K T.d_last_row ["_law_game_here", "_law_many"] [] := T.F_last_row.binds (ps := ["_law_game_here", "_law_many"]) fun _ _ _ _ _ _ us hl => match us, hl with | [_, _], _ => rfl
theorem b_law : Binds K T.d_law ["_law_script"] [] := T.F_law.binds (ps := ["_law_script"]) fun _ _ _ _ _ _ us hl => match us, hl with | [_], _ => rfl
end
set_option pp.deepTerms false
set_option pp.deepTerms.threshold 5
section
variable {P : Program} {wd : World} {K : PySem.W.Frag} {mg : Str → Option Value} {base : Heap} (T : Tp K mg)
theorem mem_ints {x : V} {ns : List Int} {xs : List V} (e : xs = ns.map V.int) (h : x ∈ xs) : ∃ i ∈ ns, x = .int i := by
  subst e
  obtain ⟨i, h1, h2⟩ := List.mem_map.mp h
  exact ⟨i, h1, h2.symm⟩
abbrev Dk (w g c : Addr) (H : Hp) : Prop := DkL w g c H
def spDeck (K : PySem.W.Frag) : Sp := fun vs H Q _ => ∃ (a : Addr) (ns : List Int), vs = [.ref a] ∧ SqL K H a (ns.map V.int) ∧ ns.length ≤ 63 ∧
  ∀ w g c H', Same H H' → Dk w g c H' → Q (.ref w) H'
theorem ok_deck : FnOk P wd K mg base CX0 1 T.a_deck T.d_deck ["_law_script"] (spDeck K) := by
  refine T.F_deck.ok sc_deck (fun vs H Q E h => ?_) (fun cdv A outer s H vs Q E hr h => ?_)
  · obtain ⟨a, ns, rfl, _⟩ := h
    rfl
  · obtain ⟨a, ns, rfl, hS, hl, q⟩ := h
    refine ⟨_, (pss_cons (ps_setLc (i := 1) (own := [("_law_cell", 3)]) rfl sc_deck.nd rfl rfl (sw_true rfl rfl rfl (by decide +kernel)) (pi_list (pv 0)) (blkOk_by (N := nm_deck) (sc := defScope s_deck) (by decide +kernel)) (fun _ _ _ _ _ => pg_name (i := 3) sc_deck.nd rfl (Or.inl rfl)) (fun _ _ _ _ _ => pts_nil) (fun _ _ _ _ _ => (pe_ifExp (pt_cmpR op_ge (pv 3) pe_int (nomark _)) (pe_op op_mul pe_int (pv 3)) (pe_op op_sub (pe_op op_sub pe_int (pe_op op_mul pe_int (pv 3))) pe_int))))
      (pss_cons (ps_setLc (i := 2) (own := [("_law_cell", 3)]) rfl sc_deck.nd rfl rfl (sw_true rfl rfl rfl (by decide +kernel)) (pi_list (pv 1)) (blkOk_by (N := nm_deck) (sc := defScope s_deck) (by decide +kernel)) (fun _ _ _ _ _ => pg_name (i := 3) sc_deck.nd rfl (Or.inl rfl)) (fun _ _ _ _ _ => pts_one (pt_cmpR op_ge (pv 3) (pe_op op_pow pe_int pe_int) (nomark _))) (fun _ _ _ _ _ => (pe_op op_fdiv (pv 3) pe_int)))
      (pss_one (ps_ret (pe_lst (pa_cons (pe_revL (pv 2)) (pa_cons (pe_op op_cat (pv 1) (pe_lst (pa_cons (pe_op op_add pe_int (pe_callB call_len_seq rfl T.n_len PySem.boot_len (pa_cons (pv 1) pa_nil))) pa_nil))) (pa_cons (pe_callB (cr_sum rfl) rfl T.n_sum (by decide +kernel) (pa_cons (pv 1) pa_nil)) (pa_cons pe_int pa_nil))))))))), ?_⟩
    walk_at "go"
    refine ⟨⟨_, hS⟩, fun D nD => ?_⟩
    refine lc_list (xs := ns.map V.int) (fun i H2 => ∃ cs : List Int, H2 D = some (.lst (cs.map V.int)) ∧ cs.length = i ∧ Same H H2) ⟨[], upd_same, rfl, same_new nD⟩
      (fun i H2 _ p => p.choose_spec.2.2.seq hS) (fun i x H2 hx p => ?_) (fun H2 p => ?_)
    · obtain ⟨cs, hD, hc, S⟩ := p
      obtain ⟨z, _, rfl⟩ := mem_ints (x := x) (ns := ns) rfl (List.mem_of_getElem? hx)
      have hil : i < (ns.map V.int).length := (List.getElem?_eq_some_iff.mp hx).1
      rw [List.length_map] at hil
      refine ⟨rfl, ?_⟩
      walk_at "go"
      refine ifD (fun big => ?_) (fun nb => ?_)
      · walk_at "go"
        refine ⟨_, hD, small1000 (by rw [List.length_map]; omega), cs ++ [_], by rw [upd_same, List.map_append]; rfl, by rw [List.length_append]; simp; omega, same_mut S nD⟩
      · walk_at "go"
        refine ⟨_, hD, small1000 (by rw [List.length_map]; omega), cs ++ [_], by rw [upd_same, List.map_append]; rfl, by rw [List.length_append]; simp; omega, same_mut S nD⟩
    · obtain ⟨cs, hD, hc, S1⟩ := p
      rw [List.length_map] at hc
      walk_at "go"
      refine ⟨⟨_, sqL_of hD⟩, fun D2 nD2 => ?_⟩
      refine lc_list (xs := cs.map V.int) (fun i H3 => ∃ gs : List Int, H3 D2 = some (.lst (gs.map V.int)) ∧ gs.length ≤ i ∧ Same H2 H3) ⟨[], upd_same, Nat.zero_le _, same_new nD2⟩
        (fun i H3 _ p => sqL_of (p.choose_spec.2.2 _ _ hD)) (fun i x H3 hx p => ?_) (fun H3 p => ?_)
      · obtain ⟨gs, hD2, hg, S⟩ := p
        obtain ⟨z, _, rfl⟩ := mem_ints (x := x) (ns := cs) rfl (List.mem_of_getElem? hx)
        have hil : i < (cs.map V.int).length := (List.getElem?_eq_some_iff.mp hx).1
        rw [List.length_map] at hil
        refine ⟨rfl, ?_⟩
        walk_at "go"
        refine ifD (fun big => ?_) (fun nb => ?_)
        · walk_at "go"
          refine ⟨_, hD2, small1000 (by rw [List.length_map]; omega), gs ++ [_], by rw [upd_same, List.map_append]; rfl, by rw [List.length_append]; simp; omega, same_mut S nD2⟩
        · exact ⟨gs, hD2, by omega, S⟩
      · obtain ⟨gs, hD2, hg, S2⟩ := p
        rw [List.length_map] at hg
        have hD3 := S2 _ _ hD
        walk_at "go"
        intro r nr
        generalize hU : upd H3 r _ = H4
        obtain ⟨s4, hr4⟩ := new_of0 nr hU
        rw [← List.map_reverse] at hr4
        have hD4 := s4 _ _ hD3
        walk_at "go"
        intro l1 nl1
        generalize hU1 : upd H4 l1 _ = H5
        obtain ⟨s5, hl1⟩ := new_of0 nl1 hU1
        have hD5 := s5 _ _ hD4
        have hr5 := s5 _ _ hr4
        refine ⟨D, l1, _, _, rfl, rfl, hD5, hl1, szl (by rw [List.length_map]; simp; omega), fun c3 nc3 => ?_⟩
        generalize hU2 : upd H5 c3 _ = H6
        obtain ⟨s6, hc3⟩ := new_of0 nc3 hU2
        have hD6 := s6 _ _ hD5
        have hr6 := s6 _ _ hr5
        walk_at "go"
        refine ⟨D, cs, rfl, sqL_of hD6, ?_⟩
        walk_at "go"
        intro w nw
        generalize hU3 : upd H6 w _ = H7
        obtain ⟨s7, hw⟩ := new_of0 nw hU3
        obtain ⟨z, hz⟩ : ∃ z : Int, H6 c3 = some (.lst ((cs ++ [z]).map V.int)) := ⟨_, by rw [List.map_append]; exact hc3⟩
        have Sall : Same H H7 := fun b o e => s7 _ _ (s6 _ _ (s5 _ _ (s4 _ _ (S2 _ _ (S1 _ _ e)))))
        have hr7 := s7 _ _ hr6
        have hc7 := s7 _ _ hz
        refine q w r c3 H7 Sall ⟨gs.reverse, cs ++ [z], _, 0, (ne_of_none hr6 nw).symm, (ne_of_none hr5 nc3).symm, ne_of_none hz nw, hw, hr7, hc7, by simp, by rw [List.length_reverse]; omega, by simp; omega⟩
def spDraw : Sp := fun vs H Q _ => ∃ (w g c : Addr) (n : Int), vs = [.ref w, .int n] ∧ Dk w g c H ∧ 0 < n ∧ n < 1073741824 ∧
  ∀ (d : Int) H', Go w g H H' → Dk w g c H' → 0 ≤ d → d < n → Q (.int d) H'
theorem ok_draw : FnOk P wd K mg base CX0 1 T.a_draw T.d_draw ["_law_deck_here", "_law_many"] spDraw := by
  refine T.F_draw.ok sc_draw (fun vs H Q E h => ?_) (fun cdv A outer s H vs Q E hr h => ?_)
  · obtain ⟨w, g, c, n, rfl, _⟩ := h
    rfl
  · have hu4 : (cxOf CX0 P wd K mg base nm_draw "_law_draw" (defScope s_draw) T.a_draw cdv A outer s H E).A.units + 64 < cLine := hr.units
    obtain ⟨w, g, c, n, rfl, W, n0, n1, q⟩ := h
    refine ⟨_, (pss_cons (ps_if (pt_cmpR (op_neD hu4) (pe_ix ix_list (pv 0) pe_int (fun _ _ => rfl)) (pe_lst pa_nil) (nomark _)) (pss_cons (ps_set (i := 2) sc_draw.nd rfl (Or.inl rfl) (pe_callTy call_int1 rfl T.n_int (by decide +kernel) (pa_cons (pe_bm0 PySem.F.plainAttrs_list PySem.F.slot_list_pop PySem.F.type_list_pop mt_pop (pe_ix ix_list (pv 0) pe_int (fun _ _ => rfl))) pa_nil)))
      (pss_cons (ps_if (pt_cmpR op_ge (pv 2) (pv 1) (nomark _)) (pss_one (ps_expr (pe_bm PySem.F.plainAttrs_list PySem.F.slot_list_append PySem.F.type_list_append mt_append (pe_ix ix_list (pv 0) pe_int (fun _ _ => rfl)) (pa_cons (pe_op op_fdiv (pv 2) (pv 1)) pa_nil)))) pss_nil)
      (pss_one (ps_ret (pe_op op_mod (pe_callTy call_int1 rfl T.n_int (by decide +kernel) (pa_cons (pv 2) pa_nil)) (pv 1)))))) pss_nil)
      (pss_cons (ps_asg (pe_op op_add (pe_ix ix_list (pv 0) pe_int (fun _ _ => rfl)) pe_int) (pg_sub (pv 0) pe_int set_list))
      (pss_cons (ps_set (i := 3) sc_draw.nd rfl (Or.inl rfl) (pe_ix ix_list (pe_ix ix_list (pv 0) pe_int (fun _ _ => rfl)) (pe_op op_mod (pe_callTy call_int1 rfl T.n_int (by decide +kernel) (pa_cons (pe_ix ix_list (pv 0) pe_int (fun _ _ => rfl)) pa_nil)) (pe_callB call_len_seq rfl T.n_len PySem.boot_len (pa_cons (pe_ix ix_list (pv 0) pe_int (fun _ _ => rfl)) pa_nil))) (fun _ _ => rfl)))
      (pss_cons (ps_set (i := 4) sc_draw.nd rfl (Or.inl rfl) (pe_op op_mod (pe_callTy call_int1 rfl T.n_int (by decide +kernel) (pa_cons (pe_op op_add (pe_op op_add (pv 3) (pe_op op_mul pe_int (pe_ix ix_list (pv 0) pe_int (fun _ _ => rfl)))) (pe_op op_mul pe_int (pe_ix ix_list (pv 0) pe_int (fun _ _ => rfl)))) pa_nil)) pe_int))
      (pss_cons (ps_set (i := 4) sc_draw.nd rfl (Or.inl rfl) (pe_op op_mod (pe_callTy call_int1 rfl T.n_int (by decide +kernel) (pa_cons (pe_op op_add (pe_op op_add (pe_op op_mul (pv 4) (pv 4)) (pe_op op_mul pe_int (pe_ix ix_list (pv 0) pe_int (fun _ _ => rfl)))) (pe_ix ix_list (pv 0) pe_int (fun _ _ => rfl))) pa_nil)) pe_int))
      (pss_one (ps_ret (pe_op op_mod (pe_op op_fdiv (pe_op op_mod (pe_callTy call_int1 rfl T.n_int (by decide +kernel) (pa_cons (pe_op op_add (pe_op op_mul (pv 4) (pv 4)) (pv 3)) pa_nil)) pe_int) pe_int) (pv 1))))))))), ?_⟩
    obtain ⟨gs, cs, k, t, e1, e2, e3, hw, hg, hc, h0, hgs, hcs⟩ := W
    walk_at "go"
    intro o no
    have s1 : Same H (upd H o (.lst [])) := same_new no
    have ho : (upd H o (.lst [])) o = some (.lst []) := upd_same
    generalize upd H o (.lst []) = H1 at s1 ho
    replace hw := s1 _ _ hw
    replace hg := s1 _ _ hg
    replace hc := s1 _ _ hc
    refine ⟨.list (gs.map PyData.int), .list [], .lst (sqL_of hg) (dpAll_ints _), .lst (sqL_of ho) .nil, shaped_ints _, by rfl, _, rfl, ?_⟩
    rw [eqv_ints_nil]
    refine ifDn (fun hne => ?_) (fun he => ?_)
    · obtain ⟨r, gs', rfl⟩ : ∃ r gs', gs = gs' ++ [r] := by
        rcases List.eq_nil_or_concat gs with h | ⟨gs', r, h⟩
        · exact absurd h hne
        · exact ⟨r, gs', by rw [h, List.concat_eq_append]⟩
      rw [List.map_append] at hg
      walk_at "go"
      refine ⟨Or.inl ⟨rfl, _, sqL_of hg⟩, ?_⟩
      refine ⟨g, _, .int r, rfl, rfl, hg, by simp, ?_⟩
      generalize hU : upd H1 g _ = H2
      have hg2 : H2 g = some (.lst (gs'.map V.int)) := by rw [← hU, upd_same]; simp
      have hw2 : H2 w = some (.lst [V.ref g, V.ref c, V.int k, V.int t]) := by rw [← hU]; exact (upd_ne e1).trans hw
      have hc2 : H2 c = some (.lst (cs.map V.int)) := by rw [← hU]; exact (upd_ne e2).trans hc
      have s2 : Go w g H H2 := fun a x n1 n2 e => by
        rw [← hU, upd_ne n2]
        exact s1 _ _ e
      clear hU
      have lgs : gs'.length < 1000 := by rw [List.length_append] at hgs; simp at hgs; omega
      walk_at "go"
      refine ifD (fun ge => ?_) (fun nge => ?_)
      · walk_at "go"
        refine ⟨Or.inl ⟨rfl, _, sqL_of hg2⟩, ?_⟩
        walk_at "go"
        refine ⟨g, _, _, rfl, rfl, hg2, szl2 (by rw [List.length_map]; omega), ?_⟩
        generalize hU : upd H2 g _ = H3
        have hg3 : H3 g = some (.lst ((gs' ++ [r / n]).map V.int)) := by rw [← hU, upd_same, List.map_append]; rfl
        have hw3 : H3 w = some (.lst [V.ref g, V.ref c, V.int k, V.int t]) := by rw [← hU]; exact (upd_ne e1).trans hw2
        have hc3 : H3 c = some (.lst (cs.map V.int)) := by rw [← hU]; exact (upd_ne e2).trans hc2
        have s3 : Go w g H H3 := fun a x n1 n2 e => by
          rw [← hU, upd_ne n2]
          exact s2 _ _ n1 n2 e
        clear hU
        walk_at "go"
        exact q _ _ s3 ⟨_, cs, k, t, e1, e2, e3, hw3, hg3, hc3, h0, by rw [List.length_append]; simp; omega, hcs⟩ (Int.emod_nonneg _ (by omega)) (Int.emod_lt_of_pos _ n0)
      · walk_at "go"
        exact q _ _ s2 ⟨_, cs, k, t, e1, e2, e3, hw2, hg2, hc2, h0, by omega, hcs⟩ (Int.emod_nonneg _ (by omega)) (Int.emod_lt_of_pos _ n0)
    · subst he
      walk_at "go"
      refine ⟨_, _, _, 3, rfl, rfl, hw, ix_at (j := 3) rfl (by simp), ?_⟩
      generalize hU : upd H1 w _ = H2
      have hw2 : H2 w = some (.lst [V.ref g, V.ref c, V.int k, V.int (t + 1)]) := by rw [← hU, upd_same]; rfl
      have hg2 : H2 g = some (.lst (([] : List Int).map V.int)) := by rw [← hU]; exact (upd_ne e1.symm).trans hg
      have hc2 : H2 c = some (.lst (cs.map V.int)) := by rw [← hU]; exact (upd_ne e3).trans hc
      have s2 : Go w g H H2 := fun a x n1 n2 e => by
        rw [← hU, upd_ne n1]
        exact s1 _ _ e
      clear hU
      have hm : ((t + 1) % (((cs.map V.int).length : Nat) : Int)).toNat < cs.length := by
        rw [List.length_map]
        have h1 := Int.emod_nonneg (t + 1) (show (cs.length : Int) ≠ 0 by omega)
        have h2 := Int.emod_lt_of_pos (t + 1) (show 0 < (cs.length : Int) by omega)
        omega
      obtain ⟨x, hx⟩ : ∃ x, cs[((t + 1) % (((cs.map V.int).length : Nat) : Int)).toNat]? = some x := ⟨_, List.getElem?_eq_getElem hm⟩
      walk_at "go"
      refine go_ixLi (xs := cs.map V.int) (v := .int x) hc2 (j := ((t + 1) % (((cs.map V.int).length : Nat) : Int)).toNat) ?_ (by rw [List.getElem?_map, hx]; rfl) ?_
      · rw [Int.toNat_of_nonneg (Int.emod_nonneg _ (by rw [List.length_map]; omega))]
      walk_at "go"
      exact q _ _ s2 ⟨[], cs, k, t + 1, e1, e2, e3, hw2, hg2, hc2, h0, by simp, hcs⟩ (Int.emod_nonneg _ (by omega)) (Int.emod_lt_of_pos _ n0)
/-- one of the items -/
def spPick : Sp := fun vs H Q _ => ∃ (w g c l : Addr) (xs : List V), vs = [.ref w, .ref l] ∧ Dk w g c H ∧ Ac w g c H l (.lst xs) ∧ 0 < xs.length ∧ xs.length < 1000000 ∧
  ∀ x H', x ∈ xs → Go w g H H' → Dk w g c H' → Q x H'
theorem ok_pick : FnOk P wd K mg base CX0 2 T.a_one T.d_one ["_law_deck_here", "_law_items"] spPick := by
  have G_draw : FnOk P wd K mg base CX0 1 T.a_draw T.d_draw ["_law_deck_here", "_law_many"] spDraw := ok_draw T
  refine T.F_one.ok sc_one (fun vs H Q E h => ?_) (fun cdv A outer s H vs Q E hr h => ?_)
  · obtain ⟨w, g, c, l, xs, rfl, _⟩ := h
    rfl
  · obtain ⟨w, g, c, l, xs, rfl, W, L, l0, l1, q⟩ := h
    refine ⟨_, (pss_one (ps_ret (pe_ix ix_list (pv 1) (pe_call G_draw hr rfl T.g_draw T.F_draw.kp (b_draw T) .nil pass0 (pa_cons (pv 0) (pa_cons (pe_callB call_len_seq rfl T.n_len PySem.boot_len (pa_cons (pv 1) pa_nil)) pa_nil))) (fun _ _ => rfl)))), ?_⟩
    have hl := L.at_
    walk_at "go"
    refine ⟨w, g, c, _, rfl, W, by omega, by omega, fun d H' s1 W1 d0 d1 => ?_⟩
    have hl1 := (L.go s1).at_
    obtain ⟨x, hx⟩ : ∃ x, xs[d.toNat]? = some x := ⟨_, List.getElem?_eq_getElem (by omega)⟩
    refine go_ixLi hl1 (j := d.toNat) (by omega) hx ?_
    exact q x H' (List.mem_of_getElem? hx) s1 W1
end
set_option pp.deepTerms false
set_option pp.deepTerms.threshold 5
section
variable {P : Program} {wd : World} {K : PySem.W.Frag} {mg : Str → Option Value} {base : Heap} (T : Tp K mg)
/-- a game's numbers -/
structure Gok (gs : List Nat) : Prop where
  mem : ∀ t, t ∈ gs → 1 ≤ t ∧ t ≤ 8
  len : gs.length ≤ 8
  ne : gs ≠ []
def spNext : Sp := fun vs H Q _ => ∃ (ag ar : Addr) (gs row : List Nat), vs = [.ref ag, .ref ar] ∧ H ag = some (.tup (nV gs)) ∧ H ar = some (.lst (nV row)) ∧ Gok gs ∧ row.length ≤ 1000 ∧
  ∀ H', Same H H' → Q (.int ((mex (near gs row row.length) : Nat) : Int)) H'
theorem near_snoc {gs row : List Nat} {n i t : Nat} (h : gs[i]? = some t) : near (gs.take (i + 1)) row n = near (gs.take i) row n ++ (if t ≤ n then [row.getD (n - t) 0] else []) := by
  unfold near
  rw [List.take_add_one, h, List.filter_append, List.map_append]
  congr 1
  by_cases c : t ≤ n
  · rw [if_pos c]
    simp [c]
  · rw [if_neg c]
    simp [c]
theorem near_len (gs row : List Nat) (n : Nat) : (near gs row n).length ≤ gs.length := by
  unfold near
  rw [List.length_map]
  exact List.length_filter_le ..
theorem ok_next_worth : FnOk P wd K mg base CX0 1 T.a_next_worth T.d_next_worth ["game", "row"] spNext := by
  refine T.F_next_worth.ok sc_next_worth (fun vs H Q E h => ?_) (fun cdv A outer s H vs Q E hr h => ?_)
  · obtain ⟨ag, ar, gs, row, rfl, _⟩ := h
    rfl
  · obtain ⟨ag, ar, gs, row, rfl, hg, hrw, G, rl, q⟩ := h
    have hu4 : (cxOf CX0 P wd K mg base nm_next_worth "_next_worth" (defScope s_next_worth) T.a_next_worth cdv A outer s H E).A.units + 64 < cLine := hr.units
    refine ⟨_, (pss_cons (ps_set (i := 2) sc_next_worth.nd rfl (Or.inr rfl) (pe_callB call_len_seq rfl T.n_len PySem.boot_len (pa_cons (pv 1) pa_nil)))
      (pss_cons (ps_setLc (i := 3) (own := [("take", 5)]) rfl sc_next_worth.nd rfl rfl (sw_true rfl rfl rfl (by decide +kernel)) (pi_tup (pv 0)) (blkOk_by (N := nm_next_worth) (sc := defScope s_next_worth) (by decide +kernel)) (fun _ _ _ _ _ => pg_name (i := 5) sc_next_worth.nd rfl (Or.inl rfl)) (fun _ _ _ _ _ => pts_one (pt_cmpR op_le (pv 5) (pv 2) (nomark _))) (fun _ _ _ _ _ => (pe_ix (ix_listK (K := K) rfl) (pv 1) (pe_op op_sub (pv 2) (pv 5)) (fun _ _ => rfl))))
      (pss_cons (ps_set (i := 4) sc_next_worth.nd rfl (Or.inl rfl) pe_int)
      (pss_cons (ps_while PassesOwn.never (pt_cmpR op_in_seq (pv 4) (pv 3) (by rfl)) (pss_one (ps_aug (i := 4) sc_next_worth.nd rfl (Or.inl rfl) pe_int ip_add)))
      (pss_one (ps_ret (pv 4))))))), ?_⟩
    walk_at "go"
    refine ⟨⟨_, sqT_of hg⟩, fun D nD => ?_⟩
    refine lc_it walk_tup (fun i H3 => H3 D = some (.lst (nV (near (gs.take i) row row.length))) ∧ Same H H3) ⟨by rw [List.take_zero]; exact upd_same, same_new nD⟩ (fun i H3 _ p => sqT_of (p.2 _ _ hg)) (fun i x H3 H4 hi p y => ?_) (fun H3 p => ?_)
    · obtain ⟨hD, S⟩ := p
      obtain ⟨rfl, hx⟩ := y
      obtain ⟨t, et, rfl⟩ := nV_get hx
      have ht := G.mem t (List.mem_of_getElem? et)
      rw [nV_len] at hi
      have hr4 := S _ _ hrw
      have ns := near_snoc (row := row) (n := row.length) et
      have sz : (nV (near (gs.take i) row row.length)).length < sizeLine := by
        have h1 := near_len (gs.take i) row row.length
        rw [List.length_take] at h1
        rw [nV_len]
        have := G.len
        exact Nat.lt_of_le_of_lt (show _ ≤ 8 by omega) (by decide)
      walk_at "go"
      refine ifD (fun le => ?_) (fun nle => ?_)
      · rw [nV_len] at le
        rw [if_pos (by omega)] at ns
        walk_at "go"
        refine go_ixLi hr4 (j := row.length - t) (by rw [nV_len]; omega) (nV_at (by omega)) ?_
        refine ⟨_, hD, sz, ?_, same_mut S nD⟩
        rw [upd_same, ns, nV_snoc]
      · rw [nV_len] at nle
        rw [if_neg (by omega), List.append_nil] at ns
        exact ⟨by rw [ns]; exact hD, S⟩
    · obtain ⟨hD, S⟩ := p
      rw [nV_len, List.take_length] at hD
      have l8 := near_len gs row row.length
      have g8 := G.len
      generalize near gs row row.length = l at hD q l8
      walk_at "go"
      refine ⟨fun m σ H2 => ∃ k : Nat, σ = [some (.ref ag), some (.ref ar), some (.int ((nV row).length : Nat)), some (.ref D), some (.int k), none] ∧ H2 = H3 ∧ (∀ j, j < k → j ∈ l) ∧ m = l.length - k,
        ⟨l.length, 0, rfl, rfl, fun j hj => by omega, rfl⟩, fun m σ H2 p => ?_⟩
      obtain ⟨k, rfl, rfl, hk, rfl⟩ := p
      have kl := all_le k l hk
      walk_at "go"
      refine ⟨D, _, rfl, .inl (sqL_of hD), rfl, nV_flat l, ?_⟩
      simp only [Bool.false_eq_true, if_false, in_nV]
      refine ⟨_, rfl, ?_⟩
      refine ifD (fun yes => ?_) (fun no => ?_)
      · have kl2 := all_le (k + 1) l fun j hj => by
          by_cases e : j = k
          · rw [e]; exact yes
          · exact hk j (by omega)
        refine ⟨fun σ' H' => σ' = [some (.ref ag), some (.ref ar), some (.int ((nV row).length : Nat)), some (.ref D), some (.int ((k + 1 : Nat) : Int)), none] ∧ H' = H2, fun σ' H' p => ?_, ?_⟩
        · obtain ⟨rfl, rfl⟩ := p
          refine ⟨l.length - (k + 1), by omega, k + 1, rfl, rfl, fun j hj => ?_, rfl⟩
          by_cases e : j = k
          · rw [e]; exact yes
          · exact hk j (by omega)
        · walk_at "go"
          exact rfl
      · walk_at "go"
        rw [show k = mex l from IsMex.uniq ⟨no, hk⟩ (mex_is l)]
        exact q _ S
theorem Gok.last {gs : List Nat} (G : Gok gs) : ∃ L, (nV gs)[gs.length - 1]? = some (.int (L : Nat)) ∧ L ∈ gs ∧ 1 ≤ L ∧ L ≤ 8 := by
  have h : gs.length - 1 < gs.length := by
    have := List.length_pos_iff.mpr G.ne
    omega
  have e : gs[gs.length - 1]? = some (gs[gs.length - 1]) := List.getElem?_eq_getElem h
  have m := List.mem_of_getElem? e
  have b := G.mem _ m
  exact ⟨gs[gs.length - 1], by rw [List.getElem?_map, e]; rfl, m, b.1, b.2⟩
/-- a game that is played: its greatest number is its last -/
def Top (gs : List Nat) (L : Nat) : Prop := (nV gs)[gs.length - 1]? = some (.int (L : Nat)) ∧ 1 ≤ L ∧ L ≤ 8 ∧ ∀ t, t ∈ gs → t ≤ L
theorem win_zero (L : Nat) (f : Nat → Nat) : win L f 0 = [] := by
  unfold win
  rw [Nat.min_zero]
  rfl
theorem none_back {H H' : Hp} {p : Addr} (S : Same H H') (h : H' p = none) : H p = none := by
  cases e : H p with
  | none => rfl
  | some x => rw [S _ _ e] at h; cases h
def spWrow : Sp := fun vs H Q _ => ∃ (ag : Addr) (gs : List Nat) (L : Nat), vs = [.ref ag] ∧ H ag = some (.tup (nV gs)) ∧ Gok gs ∧ Top gs L ∧
  ∀ p r H' (h n : Nat), Same H H' → h < n → n ≤ 38 → (∀ i, wth gs (h + i) = wth gs (n + i)) → H' r = some (.lst (nV (wrow gs n))) → H' p = some (.tup [.int h, .ref r]) → Q (.ref p) H'
theorem ok_worth_row : FnOk P wd K mg base CX0 2 T.a_worth_row T.d_worth_row ["game"] spWrow := by
  have G_next_worth : FnOk P wd K mg base CX0 1 T.a_next_worth T.d_next_worth ["game", "row"] spNext := ok_next_worth T
  refine T.F_worth_row.ok sc_worth_row (fun vs H Q E h => ?_) (fun cdv A outer s H vs Q E hr h => ?_)
  · obtain ⟨ag, gs, L, rfl, _⟩ := h
    rfl
  · obtain ⟨ag, gs, L, rfl, hg, G, tp, q⟩ := h
    refine ⟨_, (pss_cons (ps_set (i := 1) sc_worth_row.nd rfl (Or.inl rfl) (pe_lst pa_nil))
      (pss_cons (ps_set (i := 2) sc_worth_row.nd rfl (Or.inl rfl) pe_dnewT)
      (pss_cons (ps_set (i := 3) sc_worth_row.nd rfl (Or.inl rfl) (pe_tup pa_nil))
      (pss_cons (ps_while PassesOwn.never (pt_cmp (pc_dnotin (hu_of hr) (pv 3) (pv 2))) (pss_cons (ps_dput (hu_of hr) (pv 2) (pv 3) (pe_callB call_len_seq rfl T.n_len PySem.boot_len (pa_cons (pv 1) pa_nil)) rfl)
      (pss_cons (ps_expr (pe_bm PySem.F.plainAttrs_list PySem.F.slot_list_append PySem.F.type_list_append mt_append (pv 1) (pa_cons (pe_call G_next_worth hr rfl T.g_next_worth T.F_next_worth.kp (b_next_worth T) .nil pass0 (pa_cons (pv 0) (pa_cons (pv 1) pa_nil))) pa_nil)))
      (pss_one (ps_set (i := 3) sc_worth_row.nd rfl (Or.inl rfl) (pe_callTy call_tuple_of rfl T.n_tuple (by decide +kernel) (pa_cons (pe_slice sl_list (pv 1) (po_some (pe_un un_neg (pe_ix ix_tup (pv 0) (pe_un un_neg pe_int) (fun _ _ => rfl)))) po_none) pa_nil)))))))
      (pss_one (ps_ret (pe_tup (pa_cons (pe_dget (hu_of hr) (pv 2) (pv 3) (fun _ _ => rfl)) (pa_cons (pv 1) pa_nil))))))))), ?_⟩
    obtain ⟨a0, n0, an, n38, ew⟩ := rep_lt G.mem tp.2.2.1
    walk_at "go"
    intro R nR
    generalize hU : upd H R _ = H1
    obtain ⟨s1, hR⟩ := new_of0 nR hU
    walk_at "go"
    intro D nD
    generalize hU2 : upd H1 D _ = H2
    obtain ⟨s2, hD⟩ := new_of0 nD hU2
    walk_at "go"
    intro ah nah
    generalize hU3 : upd H2 ah _ = H3
    obtain ⟨s3, hah⟩ := new_of0 nah hU3
    have hR3 := s3 _ _ (s2 _ _ hR)
    have hD3 := s3 _ _ hD
    have nRD : R ≠ D := ne_of_none hR nD
    have nD0 : H D = none := none_back s1 nD
    rw [show ([] : List V) = nV (win L (wth gs) 0) by rw [win_zero]; rfl] at hah
    refine ⟨fun μ σ H4 => ∃ (n : Nat) (ah : Addr) (kvs : List (List Key × V)), σ = [some (.ref ag), some (.ref R), some (.ref D), some (.ref ah)] ∧ H4 D = some (.dT kvs) ∧ H4 R = some (.lst (nV (wrow gs n))) ∧ Same H H4 ∧ H4 ah = some (.tup (nV (win L (wth gs) n))) ∧ Seen (win L (wth gs)) n kvs ∧ μ = 39 - n,
      ⟨39, 0, ah, [], rfl, hD3, hR3, (s1.trans s2).trans s3, hah, Seen.nil _, rfl⟩, fun μ σ H4 p => ?_⟩
    clear hah hD3 hR3 s1 s2 s3 hR hD nah hU hU2 hU3
    obtain ⟨n, ah, kvs, rfl, hD, hR, S1, hah, X, rfl⟩ := p
    have hn : n ≤ n0 := Nat.le_of_not_lt fun c => X.ne a0 n0 an c ew
    have hk : H4 ah = some (.tup ((keyL (win L (wth gs) n)).map kV)) := by rw [keyL_kV]; exact hah
    walk_at "go"
    refine ⟨D, _, rfl, DGet.t (k := keyL (win L (wth gs) n)) hD hk, ?_⟩
    by_cases c : ∀ j, j < n → win L (wth gs) j ≠ win L (wth gs) n
    · rw [X.no _ c]
      refine ⟨true, rfl, ifT ?_⟩
      have XP := X.put c
      refine ⟨fun σ' H' => ∃ ah' : Addr, σ' = [some (.ref ag), some (.ref R), some (.ref D), some (.ref ah')] ∧ H' D = some (.dT (putK kvs (keyL (win L (wth gs) n)) (.int (n : Nat)))) ∧ H' R = some (.lst (nV (wrow gs (n + 1)))) ∧ Same H H' ∧ H' ah' = some (.tup (nV (win L (wth gs) (n + 1)))), fun σ' H' p => ?_, ?_⟩
      · obtain ⟨ah', rfl, hD', hR', S', ha'⟩ := p
        exact ⟨39 - (n + 1), by omega, n + 1, ah', _, rfl, hD', hR', S', ha', XP, rfl⟩
      · walk_at "go"
        refine ⟨D, _, rfl, DPut.t (k := keyL (win L (wth gs) n)) hD hk (Nat.lt_of_le_of_lt (by rw [X.len]; omega : _ ≤ 5000) (by decide)), ?_⟩
        rw [nV_len, wrow_len]
        have nah : ah ≠ D := ne_of hah hD (by intro z; cases z)
        generalize hU : upd H4 D _ = H5
        have hD5 : H5 D = some (.dT (putK kvs (keyL (win L (wth gs) n)) (.int (n : Nat)))) := by rw [← hU]; exact upd_same
        have hR5 : H5 R = some (.lst (nV (wrow gs n))) := by rw [← hU]; exact (upd_ne nRD).trans hR
        have S5 : Same H H5 := by rw [← hU]; exact same_mut S1 nD0
        clear hU
        have hg5 := S5 _ _ hg
        refine ⟨_, rfl, ?_⟩
        refine ⟨Or.inl ⟨rfl, _, sqL_of hR5⟩, ?_⟩
        walk_at "go"
        refine ⟨ag, R, gs, wrow gs n, rfl, hg5, hR5, G, by rw [wrow_len]; omega, fun H6 s6 => ?_⟩
        rw [wrow_len]
        walk_at "go"
        refine ⟨R, _, _, rfl, rfl, s6 _ _ hR5, Nat.lt_of_le_of_lt (by rw [nV_len, wrow_len]; omega : _ ≤ 5000) (by decide), ?_⟩
        have e7 : nV (wrow gs n) ++ [V.int ((mex (near gs (wrow gs n) n) : Nat) : Int)] = nV (wrow gs (n + 1)) := by rw [wrow_succ, nV_snoc]; rfl
        rw [e7]
        generalize hU : upd H6 R _ = H7
        have hD7 : H7 D = some (.dT (putK kvs (keyL (win L (wth gs) n)) (.int (n : Nat)))) := by rw [← hU]; exact (upd_ne nRD.symm).trans (s6 _ _ hD5)
        have hR7 : H7 R = some (.lst (nV (wrow gs (n + 1)))) := by rw [← hU]; exact upd_same
        have S7 : Same H H7 := by rw [← hU]; exact same_mut (S5.trans s6) nR
        clear hU
        have hg7 := S7 _ _ hg
        have tl : (nV gs)[(nV gs).length - 1]? = some (.int (L : Nat)) := by rw [nV_len]; exact tp.1
        walk_at "go"
        refine ⟨ag, _, -1, _, rfl, rfl, sqT_of hg7, at_last tl, ?_⟩
        walk_at "go"
        rw [cutV_last (k := L) tp.2.1, nV_len, wrow_len, nV_drop, win_row]
        intro a1 na1
        generalize hU1 : upd H7 a1 _ = H8
        obtain ⟨s8, ha1⟩ := new_of0 na1 hU1
        walk_at "go"
        refine ⟨a1, _, rfl, .inl ⟨sqL_of ha1, fun a2 na2 => ?_⟩⟩
        exact ⟨a2, rfl, same_new na2 _ _ (s8 _ _ hD7), same_new na2 _ _ (s8 _ _ hR7), (S7.trans s8).trans (same_new na2), upd_same⟩
    · obtain ⟨h, hh, eh⟩ : ∃ h, h < n ∧ win L (wth gs) h = win L (wth gs) n := Classical.byContradiction fun z => c fun j hj e => z ⟨j, hj, e⟩
      have e1 : valV kvs (keyL (win L (wth gs) n)) = some (.int (h : Nat)) := by rw [← eh, X.at_ h hh]
      rw [e1]
      refine ⟨false, rfl, ifF ?_⟩
      walk_at "go"
      refine ⟨D, _, rfl, e1 ▸ DGet.t (k := keyL (win L (wth gs) n)) hD hk, ?_⟩
      walk_at "go"
      intro p np
      generalize hU : upd H4 p _ = H5
      obtain ⟨s5, hp⟩ := new_of0 np hU
      exact q p R H5 h n (S1.trans s5) hh (by omega) (per_of (fun t ht => ⟨(G.mem t ht).1, tp.2.2.2 t ht⟩) hh eh).2.2 (s5 _ _ hR) hp
/-- the least table of the heaps that are worth k -/
theorem vi_decN (i j : Nat) : decide (V.int (i : Nat) = V.int (j : Nat)) = decide (i = j) := decide_eq_decide.mpr ⟨fun z => by have := V.int.inj z; omega, fun z => by rw [z]⟩
end
set_option pp.deepTerms false
set_option pp.deepTerms.threshold 5
section
variable {P : Program} {wd : World} {K : PySem.W.Frag} {mg : Str → Option Value} {base : Heap} (T : Tp K mg)
theorem C_atNeg (l : List Nat) {i : Int} {k b : Nat} (hi : i = -1 - (k : Int)) (hk : k < l.length) (h : l[l.length - 1 - k]? = some b) : atI (C l).cps.toList i = some b := by
  unfold atI ixN
  have e1 : (C l).cps.toList.length = l.length := by rw [C_cps]
  rw [e1, if_neg (by omega), if_pos (by omega)]
  show (C l).cps.toList[(i + (l.length : Int)).toNat]? = _
  rw [show (i + (l.length : Int)).toNat = l.length - 1 - k by omega, C_cps, h]
theorem goC_ixSn {l : List Nat} {R : Nat → Prop} {i : Int} {k b : Nat} (hi : i = -1 - (k : Int)) (h : l.length ≤ 1000000) (hl : k < l.length) (hk : l[l.length - 1 - k]? = some b) (q : R b) :
    ∃ z i' c, V.str (C l) = V.str z ∧ V.int i = V.int i' ∧ z.length ≤ sizeLine ∧ atI z.cps.toList i' = some c ∧ R c :=
  ⟨C l, i, _, rfl, rfl, by rw [C_len]; exact szM h, C_atNeg l hi hl hk, q⟩
theorem goC_lenS {l : List Nat} {R : Str → Prop} (h : l.length ≤ 1000000) (q : R (C l)) : ∃ z, [V.str (C l)] = [V.str z] ∧ z.length ≤ sizeLine ∧ R z :=
  ⟨C l, rfl, by rw [C_len]; exact szM h, q⟩
local macro_rules | `(tactic| walk_at "go1") => `(tactic| (apply goC_lenS; (focus omega); simp only [C_len]))
theorem C_lastS (l : List Nat) : cutS (C l) (some (-1)) none = C (l.drop (l.length - 1)) := by
  rw [show (some (-1) : Option Int) = some (-((1 : Nat) : Int)) from rfl]
  obtain ⟨k, ek, k1⟩ : ∃ k : Nat, k = 1 ∧ 1 ≤ k := ⟨1, rfl, Nat.le_refl 1⟩
  rw [← ek]
  clear ek
  have e : HT.sIx l.length 0 (some (-(k : Int))) = l.length - k := by
    show (if (-(k : Int)) < 0 then (-(k : Int) + (l.length : Int)).toNat else _) = _
    rw [if_pos (by omega)]
    omega
  rw [C_cut, e]
  show C ((l.drop (l.length - k)).take (l.length - (l.length - k))) = _
  rw [List.take_of_length_le (by rw [List.length_drop]; omega)]
theorem C_initS (l : List Nat) : cutS (C l) none (some (-1)) = C (l.take (l.length - 1)) := by
  rw [show (some (-1) : Option Int) = some (-((1 : Nat) : Int)) from rfl]
  obtain ⟨k, ek, k1⟩ : ∃ k : Nat, k = 1 ∧ 1 ≤ k := ⟨1, rfl, Nat.le_refl 1⟩
  rw [← ek]
  clear ek
  have e : HT.sIx l.length l.length (some (-(k : Int))) = l.length - k := by
    show (if (-(k : Int)) < 0 then (-(k : Int) + (l.length : Int)).toNat else _) = _
    rw [if_pos (by omega)]
    omega
  have e0 : HT.sIx l.length 0 none = 0 := rfl
  rw [C_cut, e, e0, List.drop_zero, Nat.sub_zero]
local macro_rules | `(tactic| walk_at "go1") => `(tactic| (apply goC_sl; (focus omega); first | rw [C_lastS] | rw [C_initS]))
theorem sgN_eq (h t : List Nat) : RowN.sg h t = sgN h t := rfl
theorem cast_k {n i : Nat} (h : i < n) : (n : Int) + (i : Nat) * (-1) = ((n - i : Nat) : Int) := by omega
theorem cast_div {n k : Nat} : (n : Int) / (k : Int) = ((n / k : Nat) : Int) := (Int.natCast_ediv ..).symm
theorem cast_mod {n k : Nat} : (n : Int) % (k : Int) = ((n % k : Nat) : Int) := (Int.natCast_emod ..).symm
theorem repN_rep (n : Nat) (l : List Nat) : repN n l = RowN.rep n l := rfl
/-- two least tables of one row are one -/
theorem prim_uniq {h u h' u' : List Nat} (a : RowN.Prim h u) (b : RowN.Prim h' u') (e : sgN h u = sgN h' u') : h = h' ∧ u = u' := by
  have e := (RowN.least_eq a.per a.beg b.per b.beg).mpr e
  rwa [RowN.Prim.head, RowN.Prim.turn, RowN.Prim.head, RowN.Prim.turn] at e
theorem per_of_row {h t h' u : List Nat} {s : Nat} (e : sgN h t = sgN h' u) (per : RowN.IsPer t s) (lu : u.length = s) : RowN.IsPer u u.length := by
  have u0 : 0 < u.length := by have := per.pos; omega
  obtain ⟨s2, p2⟩ := RowN.per_exists u0
  have := RowN.per_uniq (h := h) (t := t) (h' := h') (t' := u) e per p2
  rw [lu, this]
  exact p2
theorem least_prim {h t : List Nat} {s m : Nat} (per : RowN.IsPer t s) (beg : RowN.IsBeg h t s m) : RowN.Prim (RowN.rng (sgN h t) 0 m) (RowN.rng (sgN h t) m s) ∧ sgN (RowN.rng (sgN h t) 0 m) (RowN.rng (sgN h t) m s) = sgN h t := by
  have hs : sgN (RowN.rng (sgN h t) 0 m) (RowN.rng (sgN h t) m s) = sgN h t := funext fun n => RowN.sg_least beg per n
  have pu : RowN.IsPer (RowN.rng (sgN h t) m s) (RowN.rng (sgN h t) m s).length := per_of_row hs.symm per (by rw [RowN.rng_len])
  refine ⟨⟨pu, ?_⟩, hs⟩
  rcases beg.least with z | z
  · left
    rw [RowN.rng_len]
    exact z
  · by_cases m0 : m = 0
    · left
      rw [RowN.rng_len]
      exact m0
    · right
      have p1 := per.pos
      rw [RowN.rng_len, RowN.rng_len, RowN.rng_getD _ _ _ _ (by omega), RowN.rng_getD _ _ _ _ (by omega)]
      rw [show 0 + (m - 1) = m - 1 by omega, show m + (s - 1) = m - 1 + s by omega]
      exact z
/-- a part that makes the whole turn -/
structure GoodN (t : List Nat) (k : Nat) : Prop where
  pos : 1 ≤ k
  le : k ≤ t.length
  dvd : t.length % k = 0
  rep : (List.replicate (t.length / k) (t.take k)).flatten = t
theorem GoodN.all {t : List Nat} (h : 0 < t.length) : GoodN t t.length :=
  ⟨h, Nat.le_refl _, Nat.mod_self _, by rw [Nat.div_self h, List.take_length]; simp⟩
theorem GoodN.per {t : List Nat} {s : Nat} (x : GoodN t s) (h : ∀ k, 1 ≤ k → k < s → ¬ GoodN t k) : RowN.IsPer t s := by
  obtain ⟨s0, p⟩ := RowN.per_exists (t := t) (by have := x.pos; have := x.le; omega)
  have g0 : GoodN t s0 := ⟨p.pos, p.le, p.dvd, (RowN.rep_iff p.pos p.le p.dvd).mpr p.rot⟩
  have r := (RowN.rep_iff x.pos x.le x.dvd).mp x.rep
  have : s0 = s := by
    rcases Nat.lt_trichotomy s0 s with c | c | c
    · exact absurd g0 (h s0 p.pos c)
    · exact c
    · exact absurd r (p.least s x.pos c)
  rw [← this]
  exact p
theorem split_lastN {l : List Nat} (h : 0 < l.length) : ∃ a x, l = a ++ [x] ∧ l.drop (l.length - 1) = [x] ∧ l.take (l.length - 1) = a := by
  rcases List.eq_nil_or_concat l with e | ⟨a, x, e⟩
  · subst e
    cases h
  · rw [List.concat_eq_append] at e
    subst e
    exact ⟨a, x, rfl, by simp, by simp⟩
/-- what stands when the head goes back no further -/
theorem stop_prim {h t h' u : List Nat} {z : Nat} (per : RowN.IsPer t z) (row : sgN h' u = sgN h t) (lu : u.length = z) (st : h'.length = 0 ∨ h'.drop (h'.length - 1) ≠ u.drop (u.length - 1)) : RowN.Prim h' u := by
  refine ⟨per_of_row row.symm per lu, ?_⟩
  rcases st with st | st
  · exact .inl st
  · by_cases h0 : h'.length = 0
    · exact .inl h0
    · refine .inr fun c => st ?_
      have z1 := per.pos
      obtain ⟨a, x, rfl, da, ta⟩ := split_lastN (l := h') (by omega)
      obtain ⟨b, y, rfl, db, tb⟩ := split_lastN (l := u) (by omega)
      rw [da, db]
      rw [List.length_append, List.length_append] at c
      simp at c
      rw [c]
def spLt : Sp := fun vs H Q _ => ∃ (h t : List Nat), vs = [.str (C h), .str (C t)] ∧ h.length ≤ 600 ∧ 0 < t.length ∧ t.length ≤ 600 ∧
  ∀ p H' h' u, Same H H' → RowN.Prim h' u → sgN h' u = sgN h t → H' p = some (.tup [.str (C h'), .str (C u)]) → h'.length ≤ h.length → u.length ≤ t.length → Q (.ref p) H'
def spLn : Sp := fun vs H Q _ => ∃ (a b : Addr) (h t : List Nat), vs = [.ref a, .ref b] ∧ H a = some (.tup (nV h)) ∧ H b = some (.tup (nV t)) ∧ h.length ≤ 600 ∧ 0 < t.length ∧ t.length ≤ 600 ∧
  ∀ p a' b' H' h' u, Same H H' → RowN.Prim h' u → sgN h' u = sgN h t → H' p = some (.tup [.ref a', .ref b']) → H' a' = some (.tup (nV h')) → H' b' = some (.tup (nV u)) → h'.length ≤ h.length → u.length ≤ t.length → Q (.ref p) H'
def spLl : Sp := fun vs H Q E => spLt vs H Q E ∨ spLn vs H Q E
theorem C_dec' (l m : List Nat) : decide (V.str (C l) = V.str (C m)) = decide (l = m) := C_dec l m
theorem ok_lleast : FnOk P wd K mg base CX0 1 T.a_lleast T.d_lleast ["_law_head", "_law_turn"] spLl := by
  refine T.F_lleast.ok sc_lleast (fun vs H Q E h => ?_) (fun cdv A outer s H vs Q E hr h => ?_)
  · rcases h with ⟨h, t, rfl, _⟩ | ⟨a, b, h, t, rfl, _⟩
    · rfl
    · rfl
  · have hu4 : (cxOf CX0 P wd K mg base nm_lleast "_law_least" (defScope s_lleast) T.a_lleast cdv A outer s H E).A.units + 64 < cLine := hr.units
    rcases h with ⟨h, t, rfl, h6, t0, t6, q⟩ | ⟨a, b, h, t, rfl, ha, hb, h6, t0, t6, q⟩
    · refine ⟨_, (pss_cons (ps_set (i := 2) sc_lleast.nd rfl (Or.inl rfl) (pe_callB call_len_str rfl T.n_len PySem.boot_len (pa_cons (pv 1) pa_nil)))
      (pss_cons (ps_for PassesOwn.never rfl (pi_range3 rfl T.n_range (pa_cons (pe_callB call_len_str rfl T.n_len PySem.boot_len (pa_cons (pv 1) pa_nil)) (pa_cons pe_int (pa_cons (pe_un un_neg pe_int) pa_nil)))) (pg_name (i := 3) sc_lleast.nd rfl (Or.inl rfl)) (pss_one (ps_if (PW.pt (pw_and (pt_cmpR op_eq (pe_op op_mod (pe_callB call_len_str rfl T.n_len PySem.boot_len (pa_cons (pv 1) pa_nil)) (pv 3)) pe_int (nomark _)) (pw_and1 (pt_cmpR op_eq (pe_op op_mulS (pe_slice sl_str (pv 1) po_none (po_some (pv 3))) (pe_op op_fdiv (pe_callB call_len_str rfl T.n_len PySem.boot_len (pa_cons (pv 1) pa_nil)) (pv 3))) (pv 1) (nomark _))))) (pss_one (ps_set (i := 2) sc_lleast.nd rfl (Or.inl rfl) (pv 3))) pss_nil)))
      (pss_cons (ps_set (i := 1) sc_lleast.nd rfl (Or.inl rfl) (pe_slice sl_str (pv 1) po_none (po_some (pv 2))))
      (pss_cons (ps_while PassesOwn.never (PW.pt (pw_and (pt_cmpR op_gt (pe_callB call_len_str rfl T.n_len PySem.boot_len (pa_cons (pv 0) pa_nil)) pe_int (nomark _)) (pw_and1 (pt_cmpR op_eq (pe_slice sl_str (pv 0) (po_some (pe_un un_neg pe_int)) po_none) (pe_slice sl_str (pv 1) (po_some (pe_un un_neg pe_int)) po_none) (nomark _))))) (pss_one (ps_par (i := 0) (j := 1) rfl sc_lleast.nd rfl rfl (by decide) rfl rfl (pa_cons (pe_slice sl_str (pv 0) po_none (po_some (pe_un un_neg pe_int))) (pa_cons (pe_op op_add_str (pe_slice sl_str (pv 1) (po_some (pe_un un_neg pe_int)) po_none) (pe_slice sl_str (pv 1) po_none (po_some (pe_un un_neg pe_int)))) pa_nil)) rfl)))
      (pss_one (ps_ret (pe_tup (pa_cons (pv 0) (pa_cons (pv 1) pa_nil))))))))), ?_⟩
      walk_at "go"
      refine ⟨_, _, _, _, rfl, .neg (by omega) (by omega) (by omega) (by omega), ?_⟩
      refine for_rangeC (D := { nx := _, rt := _ }) (fun i σ H2 => ∃ (z : Nat) (y3 : Option V), σ = [some (.str (C h)), some (.str (C t)), some (.int z), y3] ∧ H2 = H ∧ GoodN t z ∧ ∀ k, t.length - i < k → k < z → ¬ GoodN t k)
        ⟨t.length, none, rfl, rfl, .all t0, fun k k1 k2 => by omega⟩ (fun i σ H2 hi p => ?_) (fun σ H2 p => ?_)
      · obtain ⟨z, y3, rfl, rfl, gz, no⟩ := p
        have hi2 : i < t.length := by omega
        rw [cast_k hi2]
        obtain ⟨k, ek⟩ : ∃ k, k = t.length - i := ⟨_, rfl⟩
        rw [← ek]
        have k1 : 1 ≤ k := by omega
        have kt : k ≤ t.length := by omega
        have m1 : (t.take (k : Int).toNat).length * ((t.length : Int) / (k : Int)).toNat ≤ 1000000 := by
          refine mul_le (n := k) (m := t.length / k) (by rw [List.length_take, Int.toNat_natCast]; omega) ?_ ?_
          · rw [cast_div, Int.toNat_natCast]
            exact Nat.le_refl _
          · exact Nat.le_trans (Nat.mul_div_le _ _) (by omega)
        have e4 : 0 ≤ (t.length : Int) / (k : Int) ∧ (t.length : Int) / (k : Int) < 2 ^ 30 := by
          rw [cast_div]
          have := Nat.div_le_self t.length k
          exact ⟨Int.natCast_nonneg _, Int.lt_of_le_of_lt (Int.ofNat_le.mpr this) (by omega)⟩
        have e5 : (t.take (k : Int).toNat).length ≤ 1000000 := by rw [List.length_take]; omega
        have next : ¬ GoodN t k → ∀ j, t.length - (i + 1) < j → j < z → ¬ GoodN t j := fun c j j1 j2 => by
          by_cases e : j = k
          · rw [e]; exact c
          · exact no j (by omega) j2
        walk_at "go"
        refine ifD (fun ed => ?_) (fun nd => ?_)
        · have ed2 : t.length % k = 0 := by
            have ed1 := V.int.inj ed
            rw [cast_mod] at ed1
            omega
          walk_at "go"
          rw [C_dec, cast_div, Int.toNat_natCast, Int.toNat_natCast]
          refine ifD (fun er => ?_) (fun nr => ?_)
          · walk_at "go"
            exact ⟨⟨k1, kt, ed2, er⟩, fun j j1 j2 => by omega⟩
          · exact ⟨z, _, rfl, rfl, gz, next fun c => nr c.rep⟩
        · exact ⟨z, _, rfl, rfl, gz, next fun c => nd (congrArg V.int (by rw [cast_mod, c.dvd]; rfl))⟩
      · obtain ⟨z, y3, rfl, rfl, gz, no⟩ := p
        have per := gz.per fun k k1 k2 => no k (by omega) k2
        have row0 := sgN_part (h := h) gz.pos gz.le gz.dvd gz.rep
        clear no
        have ez : (z : Int).toNat = z := rfl
        have lt : (t.take z).length = z := by rw [List.length_take]; exact Nat.min_eq_left gz.le
        walk_at "go"
        rw [ez]
        refine ⟨fun μ σ H3 => ∃ (h' u : List Nat), σ = [some (.str (C h')), some (.str (C u)), some (.int z), y3] ∧ H3 = H2 ∧ sgN h' u = sgN h t ∧ u.length = z ∧ h'.length = μ ∧ μ ≤ h.length,
          ⟨h.length, h, t.take z, rfl, rfl, row0, lt, rfl, Nat.le_refl _⟩, fun μ σ H3 p => ?_⟩
        obtain ⟨h', u, rfl, rfl, row, lu, lh, l6⟩ := p
        have z1 := per.pos
        have z6 := per.le
        have lu1 : u.length ≤ 1000000 := by omega
        have lh1 : h'.length ≤ 1000000 := by omega
        walk_at "go"
        refine ifD (fun lt0 => ?_) (fun nl0 => ?_)
        · walk_at "go"
          rw [C_dec]
          refine ifD (fun eq => ?_) (fun ne => ?_)
          · obtain ⟨a, x, rfl, da, ta⟩ := split_lastN (l := h') (by omega)
            obtain ⟨b, y, rfl, db, tb⟩ := split_lastN (l := u) (by omega)
            rw [da, db] at eq
            have exy := (List.cons.inj eq).1
            subst exy
            have lab : a.length + 1 = μ := by rw [← lh, List.length_append]; rfl
            have lbb : b.length + 1 = z := by rw [← lu, List.length_append]; rfl
            refine ⟨fun σ' H' => σ' = [some (.str (C a)), some (.str (C (x :: b))), some (.int z), y3] ∧ H' = H3, fun σ' H' p => ?_, ?_⟩
            · obtain ⟨rfl, rfl⟩ := p
              exact ⟨a.length, by omega, a, x :: b, rfl, rfl, by rw [← row, sgN_turn], by rw [List.length_cons]; omega, rfl, by omega⟩
            · walk_at "go"
              rw [ta, tb, db, C_app]
              refine ⟨by rw [C_len, C_len, List.length_singleton]; exact szM (by omega), ?_⟩
              walk_at "go"
              exact rfl
          · walk_at "go"
            intro p np
            generalize hU : upd H3 p _ = H4
            obtain ⟨s4, hp⟩ := new_of0 np hU
            exact q p H4 h' u s4 (stop_prim per row lu (.inr ne)) row hp (by omega) (by omega)
        · refine ifF ?_
          walk_at "go"
          intro p np
          generalize hU : upd H3 p _ = H4
          obtain ⟨s4, hp⟩ := new_of0 np hU
          exact q p H4 h' u s4 (stop_prim per row lu (.inl (by omega))) row hp (by omega) (by omega)
    · refine ⟨_, (pss_cons (ps_set (i := 2) sc_lleast.nd rfl (Or.inl rfl) (pe_callB call_len_seq rfl T.n_len PySem.boot_len (pa_cons (pv 1) pa_nil)))
      (pss_cons (ps_for PassesOwn.never rfl (pi_range3 rfl T.n_range (pa_cons (pe_callB call_len_seq rfl T.n_len PySem.boot_len (pa_cons (pv 1) pa_nil)) (pa_cons pe_int (pa_cons (pe_un un_neg pe_int) pa_nil)))) (pg_name (i := 3) sc_lleast.nd rfl (Or.inl rfl)) (pss_one (ps_if (PW.pt (pw_and (pt_cmpR op_eq (pe_op op_mod (pe_callB call_len_seq rfl T.n_len PySem.boot_len (pa_cons (pv 1) pa_nil)) (pv 3)) pe_int (nomark _)) (pw_and1 (pt_cmpR (op_eqD hu4) (pe_op op_repA (pe_slice sl_tupA (pv 1) po_none (po_some (pv 3))) (pe_op op_fdiv (pe_callB call_len_seq rfl T.n_len PySem.boot_len (pa_cons (pv 1) pa_nil)) (pv 3))) (pv 1) (nomark _))))) (pss_one (ps_set (i := 2) sc_lleast.nd rfl (Or.inl rfl) (pv 3))) pss_nil)))
      (pss_cons (ps_set (i := 1) sc_lleast.nd rfl (Or.inl rfl) (pe_slice sl_tupA (pv 1) po_none (po_some (pv 2))))
      (pss_cons (ps_while PassesOwn.never (PW.pt (pw_and (pt_cmpR op_gt (pe_callB call_len_seq rfl T.n_len PySem.boot_len (pa_cons (pv 0) pa_nil)) pe_int (nomark _)) (pw_and1 (pt_cmpR (op_eqD hu4) (pe_slice sl_tupA (pv 0) (po_some (pe_un un_neg pe_int)) po_none) (pe_slice sl_tupA (pv 1) (po_some (pe_un un_neg pe_int)) po_none) (nomark _))))) (pss_one (ps_par (i := 0) (j := 1) rfl sc_lleast.nd rfl rfl (by decide) rfl rfl (pa_cons (pe_slice sl_tupA (pv 0) po_none (po_some (pe_un un_neg pe_int))) (pa_cons (pe_op op_catA (pe_slice sl_tupA (pv 1) (po_some (pe_un un_neg pe_int)) po_none) (pe_slice sl_tupA (pv 1) po_none (po_some (pe_un un_neg pe_int)))) pa_nil)) rfl)))
      (pss_one (ps_ret (pe_tup (pa_cons (pv 0) (pa_cons (pv 1) pa_nil))))))))), ?_⟩
      have l1 : (nV t).length = t.length := nV_len t
      walk_at "go"
      refine ⟨_, _, _, _, rfl, .neg (by omega) (by omega) (by omega) (by omega), ?_⟩
      rw [l1]
      refine for_rangeC (D := { nx := _, rt := _ }) (fun i σ H2 => ∃ (z : Nat) (y3 : Option V), σ = [some (.ref a), some (.ref b), some (.int z), y3] ∧ Same H H2 ∧ GoodN t z ∧ ∀ k, t.length - i < k → k < z → ¬ GoodN t k)
        ⟨t.length, none, rfl, Same.rfl', .all t0, fun k k1 k2 => by omega⟩ (fun i σ H2 hi p => ?_) (fun σ H2 p => ?_)
      · obtain ⟨z, y3, rfl, S2, gz, no⟩ := p
        have hi2 : i < t.length := by omega
        rw [cast_k hi2]
        obtain ⟨k, ek⟩ : ∃ k, k = t.length - i := ⟨_, rfl⟩
        rw [← ek]
        have k1 : 1 ≤ k := by omega
        have kt : k ≤ t.length := by omega
        have hb2 := S2 _ _ hb
        have next : ¬ GoodN t k → ∀ j, t.length - (i + 1) < j → j < z → ¬ GoodN t j := fun c j j1 j2 => by
          by_cases e : j = k
          · rw [e]; exact c
          · exact no j (by omega) j2
        walk_at "go"
        rw [l1]
        refine ifD (fun ed => ?_) (fun nd => ?_)
        · have ed2 : t.length % k = 0 := by
            have ed1 := V.int.inj ed
            rw [cast_mod] at ed1
            omega
          walk_at "go"
          refine sl_all hb2 fun p H3 s3 hp => ?_
          rw [cutV_toN, nV_take] at hp
          have hb3 := s3 _ _ hb2
          walk_at "go"
          have dm := Nat.div_add_mod t.length k
          have q1 : 1 ≤ t.length / k := Nat.div_pos kt (by omega)
          have q2 : t.length / k ≤ t.length := Nat.div_le_self _ _
          have lt : (nV (t.take k)).length = k := by rw [nV_len, List.length_take]; omega
          have qk : t.length / k * k ≤ 600 := Nat.le_trans (Nat.div_mul_le_self _ _) t6
          refine rep_all_eq (k := t.length / k) (by show V.int (((nV t).length : Int) / (k : Int)) = _; rw [l1, cast_div]) hp (fun z => by rw [z] at lt; simp at lt; omega) q1 (by omega) (by rw [lt]; omega) fun p2 H4 s4 hp2 => ?_
          rw [show (List.replicate (t.length / k) (nV (t.take k))).flatten = nV (List.replicate (t.length / k) (t.take k)).flatten by show _ = List.map _ _; rw [List.map_flatten, List.map_replicate]] at hp2
          have hb4 := s4 _ _ hb3
          walk_at "go"
          refine ⟨_, _, dp_nV hp2, dp_nV hb4, shaped_dN _, shaped_dN _, ?_⟩
          rw [eqv_dN]
          walk_at "go"
          refine ifD (fun er => ?_) (fun nr => ?_)
          · walk_at "go"
            exact ⟨(S2.trans s3).trans s4, ⟨k1, kt, ed2, er⟩, fun j j1 j2 => by omega⟩
          · exact ⟨z, _, rfl, (S2.trans s3).trans s4, gz, next fun c => nr c.rep⟩
        · exact ⟨z, _, rfl, S2, gz, next fun c => nd (congrArg V.int (by rw [cast_mod, c.dvd]; rfl))⟩
      · obtain ⟨z, y3, rfl, S2, gz, no⟩ := p
        have per := gz.per fun k k1 k2 => no k (by omega) k2
        clear no
        have hb2 := S2 _ _ hb
        walk_at "go"
        refine sl_all hb2 fun b1 H3 s3 hb3 => ?_
        rw [cutV_toN, nV_take] at hb3
        have lt : (t.take z).length = z := by rw [List.length_take]; exact Nat.min_eq_left gz.le
        have z1 := gz.pos
        have z6 := gz.le
        walk_at "go"
        refine ⟨fun μ σ H4 => ∃ (a' b' : Addr) (h' u : List Nat), σ = [some (.ref a'), some (.ref b'), some (.int z), y3] ∧ Same H H4 ∧ H4 a' = some (.tup (nV h')) ∧ H4 b' = some (.tup (nV u)) ∧ sgN h' u = sgN h t ∧ u.length = z ∧ h'.length = μ ∧ μ ≤ h.length,
          ⟨h.length, a, b1, h, t.take z, rfl, S2.trans s3, (S2.trans s3) _ _ ha, hb3, sgN_part gz.pos gz.le gz.dvd gz.rep, lt, rfl, Nat.le_refl _⟩, fun μ σ H4 p => ?_⟩
        obtain ⟨a', b', h', u, rfl, S4, ha', hb', row, lu, lh, l6⟩ := p
        walk_at "go"
        refine ifD (fun lt0 => ?_) (fun nl0 => ?_)
        · rw [nV_len] at lt0
          walk_at "go"
          refine no_part ?_
          refine sl_all ha' fun c1 H5 s5 hc1 => ?_
          rw [show (some (-1) : Option Int) = some (-((1 : Nat) : Int)) from rfl, cutV_last (k := 1) (Nat.le_refl 1), nV_len, nV_drop] at hc1
          walk_at "go"
          refine no_part ?_
          refine sl_all (s5 _ _ hb') fun c2 H6 s6 hc2 => ?_
          rw [show (some (-1) : Option Int) = some (-((1 : Nat) : Int)) from rfl, cutV_last (k := 1) (Nat.le_refl 1), nV_len, nV_drop] at hc2
          walk_at "go"
          refine ⟨_, _, dp_nV (s6 _ _ hc1), dp_nV hc2, shaped_dN _, shaped_dN _, ?_⟩
          rw [eqv_dN]
          have S6 := (S4.trans s5).trans s6
          have ha6 := s6 _ _ (s5 _ _ ha')
          have hb6 := s6 _ _ (s5 _ _ hb')
          walk_at "go"
          refine ifD (fun eq => ?_) (fun ne => ?_)
          · obtain ⟨aa, x, rfl, da, ta⟩ := split_lastN (l := h') (by omega)
            obtain ⟨bb, y, rfl, db, tb⟩ := split_lastN (l := u) (by omega)
            rw [da, db] at eq
            have exy := (List.cons.inj eq).1
            subst exy
            have lab : aa.length + 1 = μ := by rw [← lh, List.length_append]; rfl
            have lbb : bb.length + 1 = z := by rw [← lu, List.length_append]; rfl
            refine ⟨fun σ' H' => ∃ a2 b2, σ' = [some (.ref a2), some (.ref b2), some (.int z), y3] ∧ Same H H' ∧ H' a2 = some (.tup (nV aa)) ∧ H' b2 = some (.tup (nV (x :: bb))), fun σ' H' p => ?_, ?_⟩
            · obtain ⟨a2, b2, rfl, S', h1, h2⟩ := p
              exact ⟨aa.length, by omega, a2, b2, aa, x :: bb, rfl, S', h1, h2, by rw [← row, sgN_turn], by rw [List.length_cons]; omega, rfl, by omega⟩
            · walk_at "go"
              refine sl_all ha6 fun d1 H7 s7 hd1 => ?_
              rw [cutV_init, nV_len, nV_take, ta] at hd1
              walk_at "go"
              refine no_part ?_
              refine sl_all (s7 _ _ hb6) fun d2 H8 s8 hd2 => ?_
              rw [show (some (-1) : Option Int) = some (-((1 : Nat) : Int)) from rfl, cutV_last (k := 1) (Nat.le_refl 1), nV_len, nV_drop, db] at hd2
              walk_at "go"
              refine sl_all (s8 _ _ (s7 _ _ hb6)) fun d3 H9 s9 hd3 => ?_
              rw [cutV_init, nV_len, nV_take, tb] at hd3
              walk_at "go"
              refine cat_all (s9 _ _ hd2) hd3 (Nat.le_trans (by rw [nV_len, nV_len]; simp; omega : _ ≤ 700) (by decide)) fun d4 H10 s10 hd4 => ?_
              walk_at "go"
              exact ⟨((((S6.trans s7).trans s8).trans s9).trans s10), s10 _ _ (s9 _ _ (s8 _ _ hd1)), hd4⟩
          · walk_at "go"
            intro p np
            generalize hU : upd H6 p _ = H7
            obtain ⟨s7, hp⟩ := new_of0 np hU
            exact q p a' b' H7 h' u (S6.trans s7) (stop_prim per row lu (.inr ne)) row hp (s7 _ _ ha6) (s7 _ _ hb6) (by omega) (by omega)
        · rw [nV_len] at nl0
          refine ifF ?_
          walk_at "go"
          intro p np
          generalize hU : upd H4 p _ = H7
          obtain ⟨s7, hp⟩ := new_of0 np hU
          exact q p a' b' H7 h' u (S4.trans s7) (stop_prim per row lu (.inl (by omega))) row hp (s7 _ _ ha') (s7 _ _ hb') (by omega) (by omega)
end
set_option pp.deepTerms false
set_option pp.deepTerms.threshold 5
section
variable {P : Program} {wd : World} {K : PySem.W.Frag} {mg : Str → Option Value} {base : Heap} (T : Tp K mg)
theorem top_of {gs : List Nat} (h : gs ≠ []) (a : gs.Pairwise (· < ·)) (G : ∀ t, t ∈ gs → 1 ≤ t ∧ t ≤ 8) : ∃ L, Top gs L := by
  have hl : gs.length - 1 < gs.length := by
    have := List.length_pos_iff.mpr h
    omega
  refine ⟨gs[gs.length - 1], ?_, ?_⟩
  · rw [List.getElem?_map, List.getElem?_eq_getElem hl]
    rfl
  · have m := List.getElem_mem hl
    refine ⟨(G _ m).1, (G _ m).2, fun t ht => ?_⟩
    obtain ⟨i, hi, rfl⟩ := List.getElem_of_mem ht
    by_cases c : i = gs.length - 1
    · subst c; exact Nat.le_refl _
    · exact Nat.le_of_lt (List.pairwise_iff_getElem.mp a i (gs.length - 1) hi hl (by omega))
theorem rg_nV (d : Nat) : rgV 1 (2 + (d : Int)) = nV ((List.range (1 + d)).map fun k => k + 1) := by
  unfold rgV
  show _ = List.map _ _
  rw [List.map_map, show ((2 : Int) + (d : Int) - 1).toNat = 1 + d by omega]
  refine List.map_congr_left fun i _ => ?_
  show V.int _ = V.int _
  congr 1
  simp
  omega
def spGame : Sp := fun vs H Q _ => ∃ (w g c : Addr), vs = [.ref w] ∧ Dk w g c H ∧ ∀ a H' gs L, Go w g H H' → Dk w g c H' → H' a = some (.tup (nV gs)) → Gok gs → Top gs L → gs.Pairwise (· < ·) → Q (.ref a) H'
theorem ok_game : FnOk P wd K mg base CX0 2 T.a_game T.d_game ["_law_deck_here"] spGame := by
  have G_draw : FnOk P wd K mg base CX0 1 T.a_draw T.d_draw ["_law_deck_here", "_law_many"] spDraw := ok_draw T
  refine T.F_game.ok sc_game (fun vs H Q E h => ?_) (fun cdv A outer s H vs Q E hr h => ?_)
  · obtain ⟨w, g, c, rfl, _⟩ := h
    rfl
  · have hu4 : (cxOf CX0 P wd K mg base nm_game "_law_game" (defScope s_game) T.a_game cdv A outer s H E).A.units + 64 < cLine := hr.units
    obtain ⟨w, g, c, rfl, W, q⟩ := h
    refine ⟨_, (pss_cons (ps_asg (pe_tup (pa_cons (pe_call G_draw hr rfl T.g_draw T.F_draw.kp (b_draw T) .nil pass0 (pa_cons (pv 0) (pa_cons pe_int pa_nil))) (pa_cons (pe_op op_add pe_int (pe_call G_draw hr rfl T.g_draw T.F_draw.kp (b_draw T) .nil pass0 (pa_cons (pv 0) (pa_cons pe_int pa_nil)))) pa_nil))) (pg_tup rfl (pgs_cons (pg_name (i := 1) sc_game.nd rfl (Or.inr rfl)) (pgs_cons (pg_name (i := 2) sc_game.nd rfl (Or.inr rfl)) pgs_nil))))
      (pss_cons (ps_if (pt_cmpR op_eq (pv 1) pe_int (nomark _)) (pss_one (ps_ret (pe_tup (pa_cons (pe_op op_add pe_int (pe_call G_draw hr rfl T.g_draw T.F_draw.kp (b_draw T) .nil pass0 (pa_cons (pv 0) (pa_cons pe_int pa_nil)))) pa_nil)))) pss_nil)
      (pss_cons (ps_if (pt_cmpR op_eq (pv 1) pe_int (nomark _)) (pss_one (ps_ret (pe_tupRg rfl rfl T.n_tuple (prg_2 rfl T.n_range pe_int (pe_op op_add pe_int (pe_call G_draw hr rfl T.g_draw T.F_draw.kp (b_draw T) .nil pass0 (pa_cons (pv 0) (pa_cons pe_int pa_nil)))))))) pss_nil)
      (pss_cons (ps_setLc (i := 3) (own := [("_law_take", 4)]) rfl sc_game.nd rfl rfl (sw_true rfl rfl rfl (by decide +kernel)) (pi_range2 rfl T.n_range (pa_cons pe_int (pa_cons pe_int pa_nil))) (blkOk_by (N := nm_game) (sc := defScope s_game) (by decide +kernel)) (fun _ _ _ _ _ => pg_name (i := 4) sc_game.nd rfl (Or.inl rfl)) (fun _ _ _ _ _ => pts_one (pt_cmpR op_eq (pe_cmpR op_eq (pe_call G_draw hr rfl T.g_draw T.F_draw.kp (b_draw T) .nil pass0 (pa_cons (pv 0) (pa_cons (pv 2) pa_nil))) pe_int (nomark _)) (pe_cmpR op_lt (pv 1) pe_int (nomark _)) (nomark _))) (fun _ _ _ _ _ => (pv 4)))
      (pss_one (ps_ret (pe_ifExp (pt_cmpR (op_neD hu4) (pv 3) (pe_lst pa_nil) (nomark _)) (pe_callTy call_tuple_of rfl T.n_tuple (by decide +kernel) (pa_cons (pv 3) pa_nil)) (pe_tup (pa_cons (pe_op op_add pe_int (pe_call G_draw hr rfl T.g_draw T.F_draw.kp (b_draw T) .nil pass0 (pa_cons (pv 0) (pa_cons pe_int pa_nil)))) pa_nil))))))))), ?_⟩
    have one : ∀ (d : Int) H1 p, Go w g H H1 → Dk w g c H1 → 0 ≤ d → d < 8 → H1 p = none → Q (.ref p) (upd H1 p (.tup [.int (1 + d)])) := fun d H1 p s1 W1 d0 d1 np => by
      generalize hU : upd H1 p _ = H2
      obtain ⟨s2, W2, ap⟩ := new_ofL W1 np hU
      refine q p H2 [(1 + d).toNat] (1 + d).toNat (s1.trans (Go.of s2)) W2 (by rw [ap.at_]; show _ = some (HO.tup [V.int (((1 + d).toNat : Nat) : Int)]); rw [Int.toNat_of_nonneg (by omega)]) ⟨fun t ht => ?_, by simp, by simp⟩ ⟨rfl, by omega, by omega, fun t ht => ?_⟩ (List.pairwise_singleton ..)
      · rw [List.mem_singleton.mp ht]; omega
      · rw [List.mem_singleton.mp ht]; exact Nat.le_refl _
    walk_at "go"
    refine ⟨w, g, c, _, rfl, W, by omega, by omega, fun kd H1 s1 W1 k0 k1 => ?_⟩
    walk_at "go"
    refine ⟨w, g, c, _, rfl, W1, by omega, by omega, fun wd2 H2 s2 W2 w0 w1 => ?_⟩
    walk_at "go"
    intro p0 np0
    generalize hU : upd H2 p0 _ = H3
    obtain ⟨s3, W3, ap0⟩ := new_ofL W2 np0 hU
    have hp0 := ap0.at_
    have S3 := (s1.trans s2).trans (Go.of s3)
    clear s1 s2 s3 hU
    walk_at "go"
    refine ifD (fun e0 => ?_) (fun n0 => ?_)
    · walk_at "go"
      refine ⟨w, g, c, _, rfl, W3, by omega, by omega, fun d H4 s4 W4 d0 d1 => ?_⟩
      walk_at "go"
      exact fun p np => one d H4 p (S3.trans s4) W4 d0 d1 np
    · walk_at "go"
      refine ifD (fun e1 => ?_) (fun n1 => ?_)
      · walk_at "go"
        refine ⟨w, g, c, _, rfl, W3, by omega, by omega, fun d H4 s4 W4 d0 d1 => ?_⟩
        walk_at "go"
        intro p np
        obtain ⟨dn, rfl⟩ : ∃ dn : Nat, d = (dn : Int) := ⟨d.toNat, by omega⟩
        generalize hU : upd H4 p _ = H5
        obtain ⟨s5, W5, ap⟩ := new_ofL W4 np hU
        have hm : ∀ t, t ∈ (List.range (1 + dn)).map (fun k => k + 1) → 1 ≤ t ∧ t ≤ 1 + dn := fun t ht => by
          obtain ⟨k, hk, rfl⟩ := List.mem_map.mp ht
          have := List.mem_range.mp hk
          omega
        refine q p H5 _ (1 + dn) ((S3.trans s4).trans (Go.of s5)) W5 (by rw [ap.at_, rg_nV]) ⟨fun t ht => by have := hm t ht; omega, by rw [List.length_map, List.length_range]; omega, fun z => ?_⟩ ⟨?_, by omega, by omega, fun t ht => (hm t ht).2⟩ ?_
        · have := congrArg List.length z
          rw [List.length_map, List.length_range] at this
          simp at this
        · rw [List.length_map, List.length_range, List.getElem?_map, List.getElem?_map, List.getElem?_range (by omega)]
          show some (V.int ((1 + dn - 1 + 1 : Nat) : Int)) = _
          rw [show 1 + dn - 1 + 1 = 1 + dn by omega]
        · rw [List.pairwise_map]
          exact (List.pairwise_lt_range).imp fun h => by omega
      · walk_at "go"
        intro D nD
        refine lc_it (n := 8) walk_range (fun i H4 => ∃ ls : List Nat, H4 D = some (.lst (nV ls)) ∧ ls.length ≤ i ∧ (∀ t, t ∈ ls → 1 ≤ t ∧ t ≤ i) ∧ ls.Pairwise (· < ·) ∧ Dk w g c H4 ∧ Go w g H3 H4) ⟨[], upd_same, Nat.zero_le _, fun v h => (by cases h), .nil, W3.same (same_new nD), Go.of (same_new nD)⟩ (fun _ _ _ _ => trivial) (fun i x H4 H5 hi p y => ?_) (fun H4 p => ?_)
        · obtain ⟨ls, hD, ll, lm, la, W4, S4⟩ := p
          obtain ⟨rfl, rfl⟩ := y
          walk_at "go"
          obtain ⟨nw, ng, nc⟩ := W3.fresh nD
          refine ⟨w, g, c, _, rfl, W4, by omega, by omega, fun e H6 s6 W6 e0 e8 => ?_⟩
          have hD6 := s6 _ _ nw ng hD
          have sz : (nV ls).length < sizeLine := Nat.lt_of_le_of_lt (show _ ≤ 8 by rw [nV_len]; omega) (by decide)
          walk_at "go"
          refine ifD (fun yes => ?_) (fun no => ?_)
          · walk_at "go"
            refine ⟨_, hD6, sz, ls ++ [i + 1], ?_, by rw [List.length_append]; simp; omega, fun t ht => ?_, ?_, W6.upd nw ng nc, go_upd' (S4.trans s6) nD⟩
            · rw [upd_same, nV_snoc, show ((i + 1 : Nat) : Int) = 1 + (i : Int) by omega]
            · rcases List.mem_append.mp ht with ht | ht
              · have := lm t ht; omega
              · rw [List.mem_singleton.mp ht]; omega
            · rw [List.pairwise_append]
              refine ⟨la, List.pairwise_singleton .., fun x hx y hy => ?_⟩
              rw [List.mem_singleton.mp hy]
              have := lm x hx
              omega
          · exact ⟨ls, hD6, by omega, fun t ht => by have := lm t ht; omega, la, W6, S4.trans s6⟩
        · obtain ⟨ls, hD, ll, lm, la, W4, S4⟩ := p
          walk_at "go"
          intro o no
          generalize hU : upd H4 o _ = H5
          obtain ⟨s5, W5, ao⟩ := new_ofL W4 no hU
          have ho := ao.at_
          have hD5 := s5 _ _ hD
          have hD6 := hD5
          rw [nV_ints] at hD6
          refine ⟨_, _, .lst (sqL_of hD6) (dpAll_ints (ls.map fun k => ((k : Nat) : Int))), .lst (sqL_of ho) .nil, shaped_ints _, by rfl, ?_⟩
          rw [eqv_ints_nil]
          have S5 := (S3.trans S4).trans (Go.of s5)
          walk_at "go"
          refine ifDn (fun ne => ?_) (fun eq => ?_)
          · have lne : ls ≠ [] := fun z => ne (by rw [z]; rfl)
            walk_at "go"
            refine ⟨D, _, rfl, .inl ⟨sqL_of hD5, fun p np => ?_⟩⟩
            generalize hU2 : upd H5 p _ = H6
            obtain ⟨s6, W6, ap⟩ := new_ofL W5 np hU2
            have G8 : Gok ls := ⟨fun t ht => by have := lm t ht; omega, by omega, lne⟩
            obtain ⟨L, tp⟩ := top_of lne la G8.mem
            exact q p H6 ls L (S5.trans (Go.of s6)) W6 ap.at_ G8 tp la
          · walk_at "go"
            refine ⟨w, g, c, _, rfl, W5, by omega, by omega, fun d H6 s6 W6 d0 d1 => ?_⟩
            walk_at "go"
            exact fun p np => one d H6 p (S5.trans s6) W6 d0 d1 np
/-- the law's table of worths -/
structure Wt (H : Hp) (p a b : Addr) (gs x y : List Nat) : Prop where
  at_ : H p = some (.tup [.ref a, .ref b])
  xat : H a = some (.tup (nV x))
  yat : H b = some (.tup (nV y))
  row : sgN x y = wth gs
  prim : RowN.Prim x y
  x6 : x.length ≤ 100
  y6 : y.length ≤ 100
theorem Wt.y0 {H : Hp} {p a b : Addr} {gs x y : List Nat} (z : Wt H p a b gs x y) : 0 < y.length := z.prim.pos
theorem head_mex {l : List Nat} (h : mex l ≤ 8) : ((List.range 9).filter fun k => decide (k ∉ l))[0]? = some (mex l) := by
  have m := mex_is l
  rw [← List.head?_eq_getElem?, List.head?_filter]
  rw [List.find?_eq_some_iff_append]
  refine ⟨decide_eq_true m.no, List.range (mex l), (List.range (8 - mex l)).map fun k => mex l + (k + 1), ?_, fun k hk => ?_⟩
  · rw [show 9 = mex l + (8 - mex l + 1) by omega, List.range_add, List.range_succ_eq_map]
    simp [List.map_map]
  · have := m.all k (List.mem_range.mp hk)
    simp [this]
theorem sgN_cut {gs : List Nat} {h n : Nat} (hn : h < n) (per : ∀ i, wth gs (h + i) = wth gs (n + i)) : sgN (wrow gs h) ((wrow gs n).drop h) = wth gs := by
  have ld : ((wrow gs n).drop h).length = n - h := by rw [List.length_drop, wrow_len]
  funext k
  unfold sgN
  rw [wrow_len, ld]
  by_cases hk : k < h
  · rw [if_pos hk, wrow_getD gs hk]
  · have hm := Nat.mod_lt (k - h) (show 0 < n - h by omega)
    rw [if_neg hk, List.getD_eq_getElem?_getD, List.getElem?_drop, wrow_get gs (by omega)]
    show wth gs (h + (k - h) % (n - h)) = wth gs k
    have key : ∀ j i, wth gs (h + (i + j * (n - h))) = wth gs (h + i) := fun j => by
      induction j with
      | zero => intro i; rw [Nat.zero_mul, Nat.add_zero]
      | succ j ih =>
        intro i
        rw [Nat.succ_mul, show i + (j * (n - h) + (n - h)) = i + (n - h) + j * (n - h) by omega, ih, show h + (i + (n - h)) = n + i by omega, per i]
    have := key ((k - h) / (n - h)) ((k - h) % (n - h))
    rw [← this]
    congr 1
    have := Nat.mod_add_div (k - h) (n - h)
    rw [Nat.mul_comm] at this
    omega
def spWorths : Sp := fun vs H Q _ => ∃ (ag : Addr) (gs : List Nat), vs = [.ref ag] ∧ H ag = some (.tup (nV gs)) ∧ Gok gs ∧
  ∀ p a b H' x y, Same H H' → Wt H' p a b gs x y → Q (.ref p) H'
theorem ok_worths : FnOk P wd K mg base CX0 2 T.a_worths T.d_worths ["_law_game_here"] spWorths := by
  have G_lleast : FnOk P wd K mg base CX0 1 T.a_lleast T.d_lleast ["_law_head", "_law_turn"] spLl := ok_lleast T
  refine T.F_worths.ok sc_worths (fun vs H Q E h => ?_) (fun cdv A outer s H vs Q E hr h => ?_)
  · obtain ⟨ag, gs, rfl, _⟩ := h
    rfl
  · obtain ⟨ag, gs, rfl, hg, G, q⟩ := h
    refine ⟨_, (pss_cons (ps_asg (pe_tup (pa_cons (pe_lst pa_nil) (pa_cons pe_dnewT pa_nil))) (pg_tup rfl (pgs_cons (pg_name (i := 1) sc_worths.nd rfl (Or.inr rfl)) (pgs_cons (pg_name (i := 2) sc_worths.nd rfl (Or.inl rfl)) pgs_nil))))
      (pss_cons (ps_for PassesOwn.never rfl (pi_range1 rfl T.n_range (pa_cons pe_int pa_nil)) (pg_name (i := 3) sc_worths.nd rfl (Or.inr rfl)) (pss_cons (ps_set (i := 4) sc_worths.nd rfl (Or.inl rfl) (pe_callTy call_tuple_of rfl T.n_tuple (by decide +kernel) (pa_cons (pe_slice sl_list (pv 1) (po_some (pe_callB (call_max2 rfl) rfl T.n_max (by decide +kernel) (pa_cons pe_int (pa_cons (pe_op op_sub (pv 3) pe_int) pa_nil)))) po_none) pa_nil)))
      (pss_cons (ps_if (pt_cmp (pc_din (hu_of hr) (pv 4) (pv 2))) (pss_one (ps_ret (pe_call G_lleast hr rfl T.g_lleast T.F_lleast.kp (b_lleast T) .nil pass0 (pa_cons (pe_callTy call_tuple_of rfl T.n_tuple (by decide +kernel) (pa_cons (pe_slice sl_list (pv 1) po_none (po_some (pe_dget (hu_of hr) (pv 2) (pv 4) (fun _ _ => rfl)))) pa_nil)) (pa_cons (pe_callTy call_tuple_of rfl T.n_tuple (by decide +kernel) (pa_cons (pe_slice sl_list (pv 1) (po_some (pe_dget (hu_of hr) (pv 2) (pv 4) (fun _ _ => rfl))) po_none) pa_nil)) pa_nil))))) pss_nil)
      (pss_cons (ps_dput (hu_of hr) (pv 2) (pv 4) (pv 3) rfl)
      (pss_cons (ps_set (i := 5) sc_worths.nd rfl (Or.inr rfl) (pe_lc (own := [("_law_take", 6)]) rfl sc_worths.nd (pi_tup (pv 0)) (blkOk_by (N := nm_worths) (sc := defScope s_worths) (by decide +kernel)) (fun _ _ _ _ _ => pg_name (i := 6) sc_worths.nd rfl (Or.inl rfl)) (fun _ _ _ _ _ => pts_one (pt_cmpR op_le (pv 6) (pv 3) (nomark _))) (fun _ _ _ _ _ => (pe_ix (ix_listK (K := K) rfl) (pv 1) (pe_op op_sub (pv 3) (pv 6)) (fun _ _ => rfl)))))
      (pss_one (ps_expr (pe_bm PySem.F.plainAttrs_list PySem.F.slot_list_append PySem.F.type_list_append mt_append (pv 1) (pa_cons (pe_ix ix_list (pe_lc (own := [("_law_own", 7)]) rfl sc_worths.nd (pi_range1 rfl T.n_range (pa_cons pe_int pa_nil)) (blkOk_by (N := nm_worths) (sc := defScope s_worths) (by decide +kernel)) (fun _ _ _ _ _ => pg_name (i := 7) sc_worths.nd rfl (Or.inl rfl)) (fun _ _ _ _ _ => pts_one (pt_cmpR (op_notInK (K := K) rfl) (pv 7) (pv 5) (by rfl))) (fun _ _ _ _ _ => (pv 7))) pe_int (fun _ _ => rfl)) pa_nil)))))))))
      (pss_one (ps_ret (pe_tup (pa_cons (pe_callTy call_tuple_of rfl T.n_tuple (by decide +kernel) (pa_cons (pv 1) pa_nil)) (pa_cons (pe_tup (pa_cons pe_int pa_nil)) pa_nil))))))), ?_⟩
    obtain ⟨a0, n0, an, n38, ew⟩ := rep_all G.mem
    walk_at "go"
    intro R nR
    generalize hU : upd H R _ = H1
    obtain ⟨s1, hR⟩ := new_of0 nR hU
    walk_at "go"
    intro D nD
    generalize hU2 : upd H1 D _ = H2
    obtain ⟨s2, hD⟩ := new_of0 nD hU2
    walk_at "go"
    intro p0 np0
    generalize hU3 : upd H2 p0 _ = H3
    obtain ⟨s3, hp0⟩ := new_of0 np0 hU3
    have hR3 := s3 _ _ (s2 _ _ hR)
    have hD3 := s3 _ _ hD
    have nRD : R ≠ D := ne_of_none hR nD
    have nD0 : H D = none := none_back s1 nD
    have S3 := (s1.trans s2).trans s3
    clear hU hU2 hU3 s1 s2 s3 np0
    walk_at "go"
    refine for_range (lo := 0) (n := 600) (fun n σ H4 => ∃ (kvs : List (List Key × V)) (y3 y4 y5 : Option V), σ = [some (.ref ag), some (.ref R), some (.ref D), y3, y4, y5, none, none] ∧ H4 D = some (.dT kvs) ∧ H4 R = some (.lst (nV (wrow gs n))) ∧ Same H H4 ∧ Seen (win 8 (wth gs)) n kvs)
      ⟨[], none, none, none, rfl, hD3, hR3, S3, Seen.nil _⟩ (fun n σ H4 n6 px => ?_) (fun σ H4 px => ?_)
    · clear hR3 hD3 S3 hR hD hp0
      obtain ⟨kvs, y3, y4, y5, rfl, hD, hR, S1, X⟩ := px
      have hn : n ≤ n0 := Nat.le_of_not_lt fun c => X.ne a0 n0 an c ew
      walk_at "go"
      intro a1 na1
      generalize hU : upd H4 a1 _ = H5
      obtain ⟨s5, ha1⟩ := new_of0 na1 hU
      rw [show (if 0 + (n : Int) - 8 > 0 then 0 + (n : Int) - 8 else 0) = ((n - 8 : Nat) : Int) by split <;> omega, cutV_fromN, nV_drop, win_row] at ha1
      refine ⟨a1, _, rfl, .inl ⟨sqL_of ha1, fun ah nah => ?_⟩⟩
      generalize hU2 : upd H5 ah _ = H6
      obtain ⟨s6, hah⟩ := new_of0 nah hU2
      have hD6 := s6 _ _ (s5 _ _ hD)
      have hR6 := s6 _ _ (s5 _ _ hR)
      have S6 := (S1.trans s5).trans s6
      clear hU hU2 na1 nah s5 ha1 s6 hD hR S1
      have hk : H6 ah = some (.tup ((keyL (win 8 (wth gs) n)).map kV)) := by rw [keyL_kV]; exact hah
      walk_at "go"
      refine ⟨D, _, rfl, DGet.t (k := keyL (win 8 (wth gs) n)) hD6 hk, ?_⟩
      by_cases c : ∀ j, j < n → win 8 (wth gs) j ≠ win 8 (wth gs) n
      · rw [X.no _ c]
        refine ⟨false, rfl, ifF ?_⟩
        have XP := X.put c
        walk_at "go"
        refine ⟨D, _, rfl, DPut.t (k := keyL (win 8 (wth gs) n)) hD6 hk (Nat.lt_of_le_of_lt (by rw [X.len]; omega : _ ≤ 5000) (by decide)), ?_⟩
        rw [Int.zero_add]
        generalize hU : upd H6 D _ = H7
        have hD7 : H7 D = some (.dT (putK kvs (keyL (win 8 (wth gs) n)) (.int (n : Nat)))) := by rw [← hU]; exact upd_same
        have hR7 : H7 R = some (.lst (nV (wrow gs n))) := by rw [← hU]; exact (upd_ne nRD).trans hR6
        have S7 : Same H H7 := by rw [← hU]; exact same_mut S6 nD0
        clear hU
        have hg7 := S7 _ _ hg
        walk_at "go"
        refine ⟨⟨_, sqT_of hg7⟩, fun N1 nN1 => ?_⟩
        refine lc_it walk_tup (fun i H8 => H8 N1 = some (.lst (nV (near (gs.take i) (wrow gs n) n))) ∧ Same H7 H8) ⟨by rw [List.take_zero]; exact upd_same, same_new nN1⟩ (fun i H8 _ p => sqT_of (p.2 _ _ hg7)) (fun i x H8 H9 hi p y => ?_) (fun H8 p => ?_)
        · obtain ⟨hN, S⟩ := p
          obtain ⟨rfl, hx⟩ := y
          obtain ⟨t, et, rfl⟩ := nV_get hx
          have ht := G.mem t (List.mem_of_getElem? et)
          rw [nV_len] at hi
          have hr8 := S _ _ hR7
          have ns := near_snoc (row := wrow gs n) (n := n) et
          have sz : (nV (near (gs.take i) (wrow gs n) n)).length < sizeLine := by
            have h1 := near_len (gs.take i) (wrow gs n) n
            rw [List.length_take] at h1
            rw [nV_len]
            have := G.len
            exact Nat.lt_of_le_of_lt (show _ ≤ 8 by omega) (by decide)
          walk_at "go"
          refine ifD (fun le => ?_) (fun nle => ?_)
          · rw [if_pos (by omega)] at ns
            walk_at "go"
            refine go_ixLi hr8 (j := n - t) (by omega) (nV_at (by rw [wrow_len]; omega)) ?_
            refine ⟨_, hN, sz, ?_, same_mut S nN1⟩
            rw [upd_same, ns, nV_snoc]
          · rw [if_neg (by omega), List.append_nil] at ns
            exact ⟨by rw [ns]; exact hN, S⟩
        · obtain ⟨hN, S⟩ := p
          rw [nV_len, List.take_length] at hN
          have l8 := near_len gs (wrow gs n) n
          have g8 := G.len
          have ew2 : wth gs n = mex (near gs (wrow gs n) n) := rfl
          generalize near gs (wrow gs n) n = l at hN l8 ew2
          have hD8 := S _ _ hD7
          have hR8 := S _ _ hR7
          have S8 := S7.trans S
          clear S hR7 hD7 S7 hg7
          walk_at "go"
          refine ⟨Or.inl ⟨rfl, _, sqL_of hR8⟩, ?_⟩
          walk_at "go"
          intro O nO
          refine lc_it (n := 9) walk_range (fun i H9 => H9 O = some (.lst (nV ((List.range i).filter fun k => decide (k ∉ l)))) ∧ Same H8 H9) ⟨upd_same, same_new nO⟩ (fun _ _ _ _ => trivial) (fun i x H9 H10 hi p y => ?_) (fun H9 p => ?_)
          · obtain ⟨hO, S⟩ := p
            obtain ⟨rfl, rfl⟩ := y
            have hN10 := S _ _ hN
            show gName 7 (V.int (0 + (i : Int))) _ _ _
            rw [Int.zero_add]
            walk_at "go"
            refine ⟨N1, _, rfl, .inl (sqL_of hN10), rfl, nV_flat l, ?_⟩
            simp only [if_true, in_nV]
            have sz : (nV ((List.range i).filter fun k => decide (k ∉ l))).length < sizeLine := by
              have h1 := List.length_filter_le (fun k => decide (k ∉ l)) (List.range i)
              rw [List.length_range] at h1
              rw [nV_len]
              exact Nat.lt_of_le_of_lt (show _ ≤ 9 by omega) (by decide)
            refine ⟨_, rfl, ?_⟩
            have es := List.range_succ (n := i)
            by_cases c : i ∈ l
            · rw [decide_eq_true c]
              refine ⟨?_, S⟩
              rw [es, List.filter_append]
              simp only [List.filter_cons, List.filter_nil]
              rw [if_neg (by simp [c]), List.append_nil]
              exact hO
            · rw [decide_eq_false c]
              refine ifT ?_
              walk_at "go"
              refine ⟨_, hO, sz, ?_, same_mut S nO⟩
              rw [upd_same, es, List.filter_append]
              simp only [List.filter_cons, List.filter_nil]
              rw [if_pos (by simp [c]), nV_snoc]
          · obtain ⟨hO, S⟩ := p
            have hm := head_mex (l := l) (by have := mex_le l; omega)
            refine go_ixLi (v := .int ((mex l : Nat) : Int)) hO (j := 0) rfl (by rw [List.getElem?_map, hm]; rfl) ?_
            rw [← ew2]
            have hD9 := S _ _ hD8
            have hR9 := S _ _ hR8
            walk_at "go"
            refine ⟨R, _, _, rfl, rfl, hR9, Nat.lt_of_le_of_lt (by rw [nV_len, wrow_len]; omega : _ ≤ 5000) (by decide), ?_⟩
            rw [← nV_snoc, ← wrow_succ]
            walk_at "go"
            exact ⟨_, _, _, _, rfl, (upd_ne nRD.symm).trans hD9, upd_same, same_mut (S8.trans S) nR, XP⟩
      · obtain ⟨h, hh, eh⟩ : ∃ h, h < n ∧ win 8 (wth gs) h = win 8 (wth gs) n := Classical.byContradiction fun z => c fun j hj e => z ⟨j, hj, e⟩
        have e1 : valV kvs (keyL (win 8 (wth gs) n)) = some (.int (h : Nat)) := by rw [← eh, X.at_ h hh]
        rw [e1]
        refine ⟨true, rfl, ifT ?_⟩
        walk_at "go"
        refine ⟨D, _, rfl, e1 ▸ DGet.t (k := keyL (win 8 (wth gs) n)) hD6 hk, ?_⟩
        walk_at "go"
        intro b1 nb1
        generalize hU : upd H6 b1 _ = H7
        obtain ⟨s7, hb1⟩ := new_of0 nb1 hU
        rw [cutV_toN, nV_take, wrow_take gs (Nat.le_of_lt hh)] at hb1
        refine ⟨b1, _, rfl, .inl ⟨sqL_of hb1, fun a2 na2 => ?_⟩⟩
        generalize hU2 : upd H7 a2 _ = H8
        obtain ⟨s8, ha2⟩ := new_of0 na2 hU2
        have hD8 := s8 _ _ (s7 _ _ hD6)
        have hR8 := s8 _ _ (s7 _ _ hR6)
        have hk8 := s8 _ _ (s7 _ _ hk)
        walk_at "go"
        refine ⟨D, _, rfl, e1 ▸ DGet.t (k := keyL (win 8 (wth gs) n)) hD8 hk8, ?_⟩
        walk_at "go"
        intro b2 nb2
        generalize hU3 : upd H8 b2 _ = H9
        obtain ⟨s9, hb2⟩ := new_of0 nb2 hU3
        rw [cutV_fromN, nV_drop] at hb2
        refine ⟨b2, _, rfl, .inl ⟨sqL_of hb2, fun a3 na3 => ?_⟩⟩
        generalize hU4 : upd H9 a3 _ = H10
        obtain ⟨s10, ha3⟩ := new_of0 na3 hU4
        have S10 := (((S6.trans s7).trans s8).trans s9).trans s10
        walk_at "go"
        have ld : ((wrow gs n).drop h).length = n - h := by rw [List.length_drop, wrow_len]
        refine .inr ⟨a2, a3, wrow gs h, (wrow gs n).drop h, rfl, s10 _ _ (s9 _ _ ha2), ha3, by rw [wrow_len]; omega, by omega, by omega, fun p a' b' H11 x y s11 pr row hp hx hy x6 y6 => ?_⟩
        rw [wrow_len] at x6
        refine q p a' b' H11 x y (S10.trans s11) ⟨hp, hx, hy, ?_, pr, by omega, by omega⟩
        rw [row]
        exact sgN_cut hh (per_of G.mem hh eh).2.2
    · exfalso
      obtain ⟨kvs, y3, y4, y5, rfl, hD, hR, S1, X⟩ := px
      exact X.ne a0 n0 an (by omega) ew
def spFar : Sp := fun vs H Q _ => ∃ (w g c : Addr) (m : Nat), vs = [.ref w, .int m] ∧ Dk w g c H ∧ 0 < m ∧
  ∀ (d : Nat) H', Go w g H H' → Dk w g c H' → d < m → Q (.int d) H'
theorem ok_far : FnOk P wd K mg base CX0 2 T.a_far T.d_far ["_law_deck_here", "_law_many"] spFar := by
  have G_draw : FnOk P wd K mg base CX0 1 T.a_draw T.d_draw ["_law_deck_here", "_law_many"] spDraw := ok_draw T
  refine T.F_far.ok sc_far (fun vs H Q E h => ?_) (fun cdv A outer s H vs Q E hr h => ?_)
  · obtain ⟨w, g, c, m, rfl, _⟩ := h
    rfl
  · obtain ⟨w, g, c, m, rfl, W, m0, q⟩ := h
    refine ⟨_, (pss_cons (ps_set (i := 2) sc_far.nd rfl (Or.inl rfl) pe_int)
      (pss_cons (ps_for PassesOwn.never rfl (pi_range1 rfl T.n_range (pa_cons pe_int pa_nil)) (pg_name (i := 3) sc_far.nd rfl (Or.inl rfl)) (pss_one (ps_set (i := 2) sc_far.nd rfl (Or.inl rfl) (pe_op op_add (pe_op op_mul (pv 2) pe_int) (pe_call G_draw hr rfl T.g_draw T.F_draw.kp (b_draw T) .nil pass0 (pa_cons (pv 0) (pa_cons pe_int pa_nil)))))))
      (pss_one (ps_ret (pe_op op_mod (pe_callTy call_int1 rfl T.n_int (by decide +kernel) (pa_cons (pv 2) pa_nil)) (pv 1)))))), ?_⟩
    walk_at "go"
    refine for_range (lo := 0) (n := 7) (fun i σ H2 => ∃ (f : Int) (y3 : Option V), σ = [some (.ref w), some (.int m), some (.int f), y3] ∧ Dk w g c H2 ∧ Go w g H H2) ⟨_, _, rfl, W, Go.refl⟩ (fun i σ H2 hi px => ?_) (fun σ H2 px => ?_)
    · obtain ⟨f, y3, rfl, W2, S⟩ := px
      walk_at "go"
      refine ⟨w, g, c, _, rfl, W2, by omega, by omega, fun d H3 s3 W3 d0 d1 => ?_⟩
      walk_at "go"
      exact S.trans s3
    · obtain ⟨f, y3, rfl, W2, S⟩ := px
      have h1 := Int.emod_nonneg f (b := (m : Int)) (by omega)
      have h2 := Int.emod_lt_of_pos f (b := (m : Int)) (by omega)
      walk_at "go"
      obtain ⟨d, ed⟩ : ∃ d : Nat, f % (m : Int) = (d : Int) := ⟨(f % (m : Int)).toNat, by omega⟩
      dsimp only
      rw [ed]
      exact q d H2 S W2 (by omega)
end
set_option pp.deepTerms false
set_option pp.deepTerms.threshold 5
section
variable {P : Program} {wd : World} {K : PySem.W.Frag} {mg : Str → Option Value} {base : Heap} (T : Tp K mg)
local macro_rules | `(tactic| walk_at "go1") => `(tactic| (apply goC_lenS; (focus omega); simp only [C_len]))
def spShort : Sp := fun vs H Q _ => ∃ (t : List Nat) (s : Nat), vs = [.str (C t)] ∧ 0 < t.length ∧ t.length ≤ 600 ∧ RowN.IsPer t s ∧ Q (.str (C (t.take s))) H
theorem ok_short : FnOk P wd K mg base CX0 1 T.a_shortest T.d_shortest ["turn"] spShort := by
  refine T.F_shortest.ok sc_shortest (fun vs H Q E h => ?_) (fun cdv A outer s H vs Q E hr h => ?_)
  · obtain ⟨t, s, rfl, _⟩ := h
    rfl
  · obtain ⟨t, s0, rfl, t0, t1, per, q⟩ := h
    refine ⟨_, (pss_cons (ps_set (i := 1) sc_shortest.nd rfl (Or.inl rfl) (pe_callB call_len_str rfl T.n_len PySem.boot_len (pa_cons (pv 0) pa_nil)))
      (pss_cons (ps_for PassesOwn.never rfl (pi_range2 rfl T.n_range (pa_cons pe_int (pa_cons (pe_op op_add (pe_op op_fdiv (pv 1) pe_int) pe_int) pa_nil))) (pg_name (i := 2) sc_shortest.nd rfl (Or.inl rfl)) (pss_one (ps_if (PW.pt (pw_and (pt_cmpR op_eq (pe_op op_mod (pv 1) (pv 2)) pe_int (nomark _)) (pw_and1 (pt_cmpR op_eq (pe_op op_mulS (pe_slice sl_str (pv 0) po_none (po_some (pv 2))) (pe_op op_fdiv (pv 1) (pv 2))) (pv 0) (nomark _))))) (pss_one (ps_ret (pe_slice sl_str (pv 0) po_none (po_some (pv 2))))) pss_nil)))
      (pss_one (ps_ret (pv 0))))), ?_⟩
    have fact : ∀ k, 1 ≤ k → k ≤ t.length → t.length % k = 0 → RowN.rep (t.length / k) (t.take k) = t → s0 ≤ k := fun k k1 k2 k3 k4 => by
      refine Nat.le_of_not_lt fun c => per.least k k1 c ((RowN.rep_iff k1 k2 k3).mp k4)
    walk_at "go"
    refine for_range (lo := 1) (n := ((t.length : Int) / 2 + 1 - 1).toNat) (fun i σ H2 => ∃ y2, σ = [some (.str (C t)), some (.int t.length), y2] ∧ H2 = H ∧ ∀ k, 1 ≤ k → k < 1 + i → ¬ (t.length % k = 0 ∧ RowN.rep (t.length / k) (t.take k) = t))
      ⟨none, rfl, rfl, fun k a b => by omega⟩ (fun i σ H2 hi p => ?_) (fun σ H2 p => ?_)
    · obtain ⟨y2, rfl, rfl, no⟩ := p
      have i1 : 1 + i ≤ t.length := by omega
      have m1 : (t.take (1 + (i : Int)).toNat).length * ((t.length : Int) / (1 + (i : Int))).toNat ≤ 1000000 := by
        refine mul_le (n := 1 + i) (m := t.length / (1 + i)) (by rw [List.length_take]; omega) ?_ ?_
        · rw [show (1 + (i : Int)) = ((1 + i : Nat) : Int) by omega, ← Int.natCast_ediv, Int.toNat_natCast]
          exact Nat.le_refl _
        · exact Nat.le_trans (Nat.mul_div_le _ _) (by omega)
      walk_at "go"
      have e1 : (1 + (i : Int)).toNat = 1 + i := by omega
      have e2 : ((t.length : Int) / (1 + (i : Int))).toNat = t.length / (1 + i) := by
        rw [show (1 + (i : Int)) = ((1 + i : Nat) : Int) by omega, ← Int.natCast_ediv, Int.toNat_natCast]
      have e3 : (t.length : Int) % (1 + (i : Int)) = ((t.length % (1 + i) : Nat) : Int) := by
        rw [show (1 + (i : Int)) = ((1 + i : Nat) : Int) by omega, ← Int.natCast_emod]
      have e4 : 0 ≤ (t.length : Int) / (1 + (i : Int)) ∧ (t.length : Int) / (1 + (i : Int)) < 2 ^ 30 := by
        rw [show (1 + (i : Int)) = ((1 + i : Nat) : Int) by omega, ← Int.natCast_ediv]
        have := Nat.div_le_self t.length (1 + i)
        omega
      have next : ¬ (t.length % (1 + i) = 0 ∧ RowN.rep (t.length / (1 + i)) (t.take (1 + i)) = t) → ∀ k, 1 ≤ k → k < 1 + (i + 1) → ¬ (t.length % k = 0 ∧ RowN.rep (t.length / k) (t.take k) = t) := fun c k k1 k2 z => by
        by_cases ek : k = 1 + i
        · subst ek
          exact c z
        · exact no k k1 (by omega) z
      refine ifD (fun ed => ?_) (fun nd => ?_)
      · have ed2 : t.length % (1 + i) = 0 := by
          have ed1 : (t.length : Int) % (1 + (i : Int)) = 0 := V.int.inj ed
          rw [e3] at ed1
          omega
        walk_at "go"
        rw [C_dec, e1, e2]
        refine ifD (fun er => ?_) (fun nr => ?_)
        · walk_at "go"
          have es : s0 = 1 + i := by
            have h1 := fact (1 + i) (by omega) i1 ed2 er
            by_cases h2 : s0 < 1 + i
            · exact absurd ⟨per.dvd, (RowN.rep_iff per.pos per.le per.dvd).mpr per.rot⟩ (no s0 per.pos h2)
            · omega
          rw [e1, ← es]
          exact q
        · exact ⟨_, rfl, rfl, next fun z => nr z.2⟩
      · exact ⟨_, rfl, rfl, next fun z => nd (congrArg V.int (show (t.length : Int) % (1 + (i : Int)) = 0 by rw [e3, z.1]; rfl))⟩
    · obtain ⟨y2, rfl, rfl, no⟩ := p
      walk_at "go"
      have es : s0 = t.length := by
        have hle := per.le
        have hd := per.dvd
        have h1 : ¬ s0 < 1 + ((t.length : Int) / 2 + 1 - 1).toNat := fun c => no s0 per.pos c ⟨hd, (RowN.rep_iff per.pos hle hd).mpr per.rot⟩
        have h2 : t.length < 2 * s0 := by omega
        have h3 := Nat.mod_eq_sub_mod hle
        rw [Nat.mod_eq_of_lt (show t.length - s0 < s0 by omega)] at h3
        omega
      rw [es, List.take_length] at q
      exact q
def spAlike : Sp := fun vs H Q _ => ∃ (h u : List Nat), vs = [.str (C h), .str (C u)] ∧ h.length ≤ 600 ∧ 0 < u.length ∧ u.length ≤ 600 ∧ ∀ a : Nat, RowN.Alike h u a → Q (.int a) H
theorem ok_alike : FnOk P wd K mg base CX0 1 T.a_alike T.d_alike ["head", "turn"] spAlike := by
  refine T.F_alike.ok sc_alike (fun vs H Q E h => ?_) (fun cdv A outer s H vs Q E hr h => ?_)
  · obtain ⟨h, u, rfl, _⟩ := h
    rfl
  · obtain ⟨h, u, rfl, h1, u0, u1, q⟩ := h
    refine ⟨_, (pss_cons (ps_set (i := 2) sc_alike.nd rfl (Or.inl rfl) pe_int)
      (pss_cons (ps_while PassesOwn.never (PW.pt (pw_and (pt_cmpR op_lt (pv 2) (pe_callB call_len_str rfl T.n_len PySem.boot_len (pa_cons (pv 0) pa_nil)) (nomark _)) (pw_and1 (pt_cmpR op_eq (pe_ix ix_str (pv 0) (pe_op op_sub (pe_un un_neg pe_int) (pv 2)) (fun _ _ => rfl)) (pe_ix ix_str (pv 1) (pe_op op_sub (pe_un un_neg pe_int) (pe_op op_mod (pv 2) (pe_callB call_len_str rfl T.n_len PySem.boot_len (pa_cons (pv 1) pa_nil)))) (fun _ _ => rfl)) (nomark _))))) (pss_one (ps_aug (i := 2) sc_alike.nd rfl (Or.inl rfl) pe_int ip_add)))
      (pss_one (ps_ret (pv 2))))), ?_⟩
    walk_at "go"
    refine ⟨fun m σ H2 => ∃ a : Nat, σ = [some (.str (C h)), some (.str (C u)), some (.int a)] ∧ H2 = H ∧ a ≤ h.length ∧ m = h.length - a ∧ ∀ j, j < a → h.getD (h.length - 1 - j) 0 = u.getD (u.length - 1 - j % u.length) 0,
      ⟨h.length, 0, rfl, rfl, Nat.zero_le _, rfl, fun j hj => by omega⟩, fun m σ H2 p => ?_⟩
    obtain ⟨a, rfl, rfl, ha, rfl, sm⟩ := p
    walk_at "go"
    refine ifD (fun lt => ?_) (fun nlt => ?_)
    · have lt2 : a < h.length := by omega
      have hm := Nat.mod_lt a u0
      walk_at "go"
      refine goC_ixSn (k := a) rfl (by omega) lt2 (RowN.getD_some (by omega)) ?_
      rw [C_one]
      walk_at "go"
      refine goC_ixSn (k := a % u.length) (by simp) (by omega) hm (RowN.getD_some (by omega)) ?_
      rw [C_one]
      walk_at "go"
      rw [C_dec]
      refine ifD (fun eq => ?_) (fun ne => ?_)
      · refine ⟨fun σ' H' => σ' = [some (.str (C h)), some (.str (C u)), some (.int ((a + 1 : Nat) : Int))] ∧ H' = H2, fun σ' H' p => ?_, ?_⟩
        · obtain ⟨rfl, rfl⟩ := p
          refine ⟨h.length - (a + 1), by omega, a + 1, rfl, rfl, by omega, rfl, fun j hj => ?_⟩
          by_cases e : j = a
          · subst e
            exact (List.cons.inj eq).1
          · exact sm j (by omega)
        · walk_at "go"
          exact rfl
      · walk_at "go"
        exact q a ⟨ha, sm, .inr fun z => ne (by rw [z])⟩
    · walk_at "go"
      exact q a ⟨ha, sm, .inl (by omega)⟩
def spLeast : Sp := fun vs H Q _ => ∃ (p : Addr) (h t : List Nat), vs = [.ref p] ∧ H p = some (.tup [.str (C h), .str (C t)]) ∧ h.length ≤ 600 ∧ 0 < t.length ∧ t.length ≤ 600 ∧
  ∀ p' H' h' u, Same H H' → H' p' = some (.tup [.str (C h'), .str (C u)]) → RowN.Prim h' u → sgN h' u = sgN h t → h'.length ≤ h.length → u.length ≤ t.length → Q (.ref p') H'
theorem ok_least : FnOk P wd K mg base CX0 2 T.a_least T.d_least ["table"] spLeast := by
  have G_shortest : FnOk P wd K mg base CX0 1 T.a_shortest T.d_shortest ["turn"] spShort := ok_short T
  have G_alike : FnOk P wd K mg base CX0 1 T.a_alike T.d_alike ["head", "turn"] spAlike := ok_alike T
  refine T.F_least.ok sc_least (fun vs H Q E h => ?_) (fun cdv A outer s H vs Q E hr h => ?_)
  · obtain ⟨p, h, t, rfl, _⟩ := h
    rfl
  · obtain ⟨p, h, t, rfl, hp, h1, t0, t1, q⟩ := h
    obtain ⟨s, per⟩ := RowN.per_exists t0
    refine ⟨_, (pss_cons (ps_asg (pv 0) (pg_tup rfl (pgs_cons (pg_name (i := 1) sc_least.nd rfl (Or.inl rfl)) (pgs_cons (pg_name (i := 2) sc_least.nd rfl (Or.inl rfl)) pgs_nil))))
      (pss_cons (ps_set (i := 2) sc_least.nd rfl (Or.inl rfl) (pe_call G_shortest hr rfl T.g_shortest T.F_shortest.kp (b_shortest T) .nil pass0 (pa_cons (pv 2) pa_nil)))
      (pss_cons (ps_set (i := 3) sc_least.nd rfl (Or.inl rfl) (pe_call G_alike hr rfl T.g_alike T.F_alike.kp (b_alike T) .nil pass0 (pa_cons (pv 1) (pa_cons (pv 2) pa_nil))))
      (pss_cons (ps_set (i := 4) sc_least.nd rfl (Or.inl rfl) (pe_op op_sub (pe_callB call_len_str rfl T.n_len PySem.boot_len (pa_cons (pv 2) pa_nil)) (pe_op op_mod (pv 3) (pe_callB call_len_str rfl T.n_len PySem.boot_len (pa_cons (pv 2) pa_nil)))))
      (pss_one (ps_ret (pe_tup (pa_cons (pe_slice sl_str (pv 1) po_none (po_some (pe_op op_sub (pe_callB call_len_str rfl T.n_len PySem.boot_len (pa_cons (pv 1) pa_nil)) (pv 3)))) (pa_cons (pe_op op_add_str (pe_slice sl_str (pv 2) (po_some (pv 4)) po_none) (pe_slice sl_str (pv 2) po_none (po_some (pv 4)))) pa_nil))))))))), ?_⟩
    have hu := RowN.take_len per
    have spos := per.pos
    have sle := per.le
    walk_at "go"
    refine ⟨t, s, rfl, t0, t1, per, ?_⟩
    walk_at "go"
    intro a x
    have ha := x.le
    have hm := Nat.mod_lt a spos
    have em : ((a : Int) % ((s : Nat) : Int)) = ((a % s : Nat) : Int) := (Int.natCast_emod _ _).symm
    rw [← hu] at em
    have hm2 : a % (t.take s).length < (t.take s).length := by rw [hu]; exact hm
    have c0 : 0 ≤ ((t.take s).length : Int) - (a : Int) % ((t.take s).length : Int) := by
      rw [em]
      omega
    have ec : (((t.take s).length : Int) - (a : Int) % ((t.take s).length : Int)).toNat = s - a % s := by
      rw [em, hu]
      omega
    have eh : ((h.length : Int) - (a : Int)).toNat = h.length - a := by omega
    walk_at "go"
    rw [ec, eh, C_app]
    have beg := RowN.beg_of per x
    obtain ⟨pr, row⟩ := least_prim per beg
    have wo := RowN.win_of per x
    have ho := RowN.head_of (h := h) (t := t) ha
    have u1 := RowN.take_len per
    refine ⟨by rw [C_len, C_len]; exact szM (by simp only [List.length_drop, List.length_take]; omega), ?_⟩
    walk_at "go"
    intro p' np
    refine q p' _ _ _ (same_new np) ?_ pr row (by rw [RowN.rng_len]; omega) (by rw [RowN.rng_len]; omega)
    rw [upd_same, wo, ho]
    rfl
theorem row_sub {h t h' u : List Nat} (t0 : 0 < t.length) (u0 : 0 < u.length) (e : sgN h' u = sgN h t) : ∀ x, x ∈ h' ∨ x ∈ u → x ∈ h ∨ x ∈ t := by
  have at_ : ∀ n, sgN h t n ∈ h ∨ sgN h t n ∈ t := fun n => by
    by_cases c : n < h.length
    · exact .inl (List.mem_of_getElem? (show h[n]? = some (sgN h t n) by unfold sgN; rw [if_pos c, List.getD_eq_getElem?_getD, List.getElem?_eq_getElem c]; rfl))
    · refine .inr (List.mem_of_getElem? (i := (n - h.length) % t.length) ?_)
      unfold sgN
      rw [if_neg c, List.getD_eq_getElem?_getD, List.getElem?_eq_getElem (Nat.mod_lt _ t0)]
      rfl
  intro x hx
  rcases hx with hx | hx
  · obtain ⟨n, hn⟩ := List.getElem?_of_mem hx
    have c := (List.getElem?_eq_some_iff.mp hn).1
    have : sgN h' u n = x := by unfold sgN; rw [if_pos c, List.getD_eq_getElem?_getD, hn]; rfl
    rw [← this, e]
    exact at_ n
  · obtain ⟨n, hn⟩ := List.getElem?_of_mem hx
    have c := (List.getElem?_eq_some_iff.mp hn).1
    have : sgN h' u (h'.length + n) = x := by
      unfold sgN
      rw [if_neg (by omega), show h'.length + n - h'.length = n by omega, Nat.mod_eq_of_lt c, List.getD_eq_getElem?_getD, hn]
      rfl
    rw [← this, e]
    exact at_ _
def spTableOf : Sp := fun vs H Q _ => ∃ (h t : List Nat), vs = [.str (C (h ++ t)), .int (h.length : Nat)] ∧ h.length ≤ 600 ∧ 0 < t.length ∧ t.length ≤ 600 ∧
  ∀ p' H' h' u, Same H H' → H' p' = some (.tup [.str (C h'), .str (C u)]) → RowN.Prim h' u → sgN h' u = sgN h t → h'.length ≤ h.length → u.length ≤ t.length → Q (.ref p') H'
theorem ok_table_of : FnOk P wd K mg base CX0 3 T.a_table_of T.d_table_of ["row", "head"] spTableOf := by
  have G_least : FnOk P wd K mg base CX0 2 T.a_least T.d_least ["table"] spLeast := ok_least T
  refine T.F_table_of.ok sc_table_of (fun vs H Q E h => ?_) (fun cdv A outer s H vs Q E hr h => ?_)
  · obtain ⟨h, t, rfl, _⟩ := h
    rfl
  · obtain ⟨h, t, rfl, h1, t0, t1, q⟩ := h
    refine ⟨_, (pss_one (ps_ret (pe_call G_least hr rfl T.g_least T.F_least.kp (b_least T) .nil pass0 (pa_cons (pe_tup (pa_cons (pe_slice sl_str (pv 0) po_none (po_some (pv 1))) (pa_cons (pe_slice sl_str (pv 0) (po_some (pv 1)) po_none) pa_nil))) pa_nil)))), ?_⟩
    walk_at "go"
    rw [show ((h.length : Nat) : Int).toNat = h.length from rfl, List.take_left, List.drop_left]
    intro p np
    generalize hU : upd H p _ = H1
    obtain ⟨s1, hp⟩ := new_of0 np hU
    walk_at "go"
    refine ⟨p, h, t, rfl, hp, h1, t0, t1, fun p' H' h' t' s2 => ?_⟩
    exact q p' H' h' t' (s1.trans s2)
def fig (l : List Nat) : List Nat := l.map fun k => 48 + k
theorem int_fig (k : Nat) (h : k < 10) : PySem.intText? (C [48 + k]) = some (k : Int) := by
  have : k = 0 ∨ k = 1 ∨ k = 2 ∨ k = 3 ∨ k = 4 ∨ k = 5 ∨ k = 6 ∨ k = 7 ∨ k = 8 ∨ k = 9 := by omega
  rcases this with rfl | rfl | rfl | rfl | rfl | rfl | rfl | rfl | rfl | rfl <;> decide +kernel
theorem fig_len (l : List Nat) : (fig l).length = l.length := List.length_map ..
theorem fig_get {l : List Nat} {i c : Nat} (h : (fig l)[i]? = some c) : ∃ k, l[i]? = some k ∧ c = 48 + k := by
  rw [fig, List.getElem?_map] at h
  cases e : l[i]? with
  | none => rw [e] at h; cases h
  | some k => rw [e] at h; exact ⟨k, rfl, (Option.some.inj h).symm⟩
theorem fig_back {l : List Nat} (h : ∀ c, c ∈ l → 48 ≤ c) : fig (l.map fun c => c - 48) = l := by
  rw [fig, List.map_map]
  conv => rhs; rw [← List.map_id l]
  refine List.map_congr_left fun c hc => ?_
  have := h c hc
  show 48 + (c - 48) = c
  omega
theorem sgN_fig {a b : List Nat} (b0 : 0 < b.length) (n : Nat) : sgN (fig a) (fig b) n = 48 + sgN a b n := by
  have g : ∀ (l : List Nat) (i : Nat), i < l.length → (fig l).getD i 0 = 48 + l.getD i 0 := fun l i hi => by
    rw [List.getD_eq_getElem?_getD, List.getD_eq_getElem?_getD, fig, List.getElem?_map, List.getElem?_eq_getElem hi]
    rfl
  unfold sgN
  rw [fig_len, fig_len]
  by_cases c : n < a.length
  · rw [if_pos c, if_pos c, g a n c]
  · rw [if_neg c, if_neg c, g b _ (Nat.mod_lt _ b0)]
theorem fig_getD {l : List Nat} {i : Nat} (hi : i < l.length) : (fig l).getD i 0 = 48 + l.getD i 0 := by
  rw [List.getD_eq_getElem?_getD, List.getD_eq_getElem?_getD, fig, List.getElem?_map, List.getElem?_eq_getElem hi]
  rfl
theorem rot_fig {l : List Nat} {k : Nat} (l0 : 0 < l.length) : RowN.Rot (fig l) k ↔ RowN.Rot l k := by
  unfold RowN.Rot
  rw [fig_len]
  constructor
  · intro h i hi
    have := h i hi
    rw [fig_getD hi, fig_getD (Nat.mod_lt _ l0)] at this
    omega
  · intro h i hi
    rw [fig_getD hi, fig_getD (Nat.mod_lt _ l0), h i hi]
theorem prim_fig {x y : List Nat} (p : RowN.Prim (fig x) (fig y)) : RowN.Prim x y := by
  have y0 : 0 < y.length := by have := p.pos; rwa [fig_len] at this
  have per := p.per
  have la := p.last
  rw [fig_len] at per la
  refine ⟨⟨per.pos, Nat.le_refl _, (rot_fig y0).mp per.rot, fun k k1 k2 r => per.least k k1 k2 ((rot_fig y0).mpr r)⟩, ?_⟩
  rcases la with e | e
  · exact .inl e
  · by_cases x0 : x.length = 0
    · exact .inl x0
    · refine .inr fun z => e ?_
      rw [fig_len, fig_getD (by omega), fig_getD (by omega), z]
/-- new tuples of numbers, one for each list -/
inductive TuA (H : Hp) : List V → List (List Nat) → Prop
  | nil : TuA H [] []
  | snoc {vs ls a l} : TuA H vs ls → H a = some (.tup (nV l)) → TuA H (vs ++ [V.ref a]) (ls ++ [l])
theorem TuA.same {H H' : Hp} {vs : List V} {ls : List (List Nat)} (x : TuA H vs ls) (s : Same H H') : TuA H' vs ls := by
  induction x with
  | nil => exact .nil
  | snoc _ h ih => exact .snoc ih (s _ _ h)
theorem TuA.keepL {H : Hp} {D : Addr} {vs xs : List V} {ls : List (List Nat)} {u : HO} (x : TuA H vs ls) (h : H D = some (.lst xs)) : TuA (upd H D u) vs ls := by
  induction x with
  | nil => exact .nil
  | snoc _ e ih => exact .snoc ih ((upd_ne (ne_of e h (by intro z; cases z))).trans e)
theorem TuA.len {H : Hp} {vs : List V} {ls : List (List Nat)} (x : TuA H vs ls) : vs.length = ls.length := by
  induction x with
  | nil => rfl
  | snoc _ e ih => rw [List.length_append, List.length_append, ih]; rfl
theorem TuA.at_ {H : Hp} {vs : List V} {ls : List (List Nat)} (x : TuA H vs ls) : ∀ (i : Nat) (l : List Nat), ls[i]? = some l → ∃ a : Addr, vs[i]? = some (V.ref a) ∧ H a = some (.tup (nV l)) := by
  induction x with
  | nil => intro i l h; simp at h
  | @snoc vs ls a l t e ih =>
    intro i k h
    have tl := t.len
    by_cases c : i < ls.length
    · rw [List.getElem?_append_left c] at h
      rw [List.getElem?_append_left (by omega)]
      exact ih i k h
    · have hi : i = ls.length := by
        have := (List.getElem?_eq_some_iff.mp h).1
        simp at this
        omega
      subst hi
      rw [List.getElem?_append_right (Nat.le_refl _), Nat.sub_self] at h
      have ek : l = k := by simpa using h
      subst ek
      exact ⟨a, by rw [List.getElem?_append_right (by omega), tl, Nat.sub_self]; rfl, e⟩
theorem TuA.two {H : Hp} {vs : List V} {x y : List Nat} (t : TuA H vs [x, y]) : ∃ a b : Addr, vs = [V.ref a, V.ref b] ∧ H a = some (.tup (nV x)) ∧ H b = some (.tup (nV y)) := by
  obtain ⟨a, ea, ha⟩ := t.at_ 0 x rfl
  obtain ⟨b, eb, hb⟩ := t.at_ 1 y rfl
  obtain ⟨v0, v1, rfl⟩ : ∃ v0 v1, vs = [v0, v1] := by
    match vs, t.len with
    | [v0, v1], _ => exact ⟨_, _, rfl⟩
  obtain rfl : v0 = .ref a := Option.some.inj ea
  obtain rfl : v1 = .ref b := Option.some.inj eb
  exact ⟨a, b, rfl, ha, hb⟩
def spGworths : Sp := fun vs H Q _ => ∃ (ag : Addr) (gs : List Nat) (L : Nat), vs = [.ref ag] ∧ H ag = some (.tup (nV gs)) ∧ Gok gs ∧ Top gs L ∧
  ∀ p a b H' x y, Same H H' → Wt H' p a b gs x y → Q (.ref p) H'
/-- the worths of a game as a pair of tuples of numbers -/
theorem ok_gworths : FnOk P wd K mg base CX0 4 T.a_gworths T.d_gworths ["game"] spGworths := by
  have G_worth_row : FnOk P wd K mg base CX0 2 T.a_worth_row T.d_worth_row ["game"] spWrow := ok_worth_row T
  have G_table_of : FnOk P wd K mg base CX0 3 T.a_table_of T.d_table_of ["row", "head"] spTableOf := ok_table_of T
  refine T.F_gworths.ok sc_gworths (fun vs H Q E h => ?_) (fun cdv A outer s H vs Q E hr h => ?_)
  · obtain ⟨ag, gs, L, rfl, _⟩ := h
    rfl
  · obtain ⟨ag, gs, L, rfl, hg, G, tp, q⟩ := h
    refine ⟨_, (pss_cons (ps_asg (pe_call G_worth_row (hr.mono (by decide)) rfl T.g_worth_row T.F_worth_row.kp (b_worth_row T) .nil pass0 (pa_cons (pv 0) pa_nil)) (pg_tup rfl (pgs_cons (pg_name (i := 1) sc_gworths.nd rfl (Or.inl rfl)) (pgs_cons (pg_name (i := 2) sc_gworths.nd rfl (Or.inl rfl)) pgs_nil))))
      (pss_cons (ps_set (i := 3) sc_gworths.nd rfl (Or.inl rfl) (pe_call G_table_of hr rfl T.g_table_of T.F_table_of.kp (b_table_of T) .nil pass0 (pa_cons (pe_bm PySem.F.plainAttrs_str PySem.F.slot_str_join PySem.F.type_str_join mt_join pe_str (pa_cons (pe_lc (own := [("found", 5)]) rfl sc_gworths.nd (pi_list (pv 2)) (blkOk_by (N := nm_gworths) (sc := defScope s_gworths) (by decide +kernel)) (fun _ _ _ _ _ => pg_name (i := 5) sc_gworths.nd rfl (Or.inl rfl)) (fun _ _ _ _ _ => pts_nil) (fun _ _ _ _ _ => (pe_callTy call_str_int rfl T.n_str (by decide +kernel) (pa_cons (pv 5) pa_nil)))) pa_nil)) (pa_cons (pv 1) pa_nil))))
      (pss_one (ps_ret (pe_callTy call_tuple_of rfl T.n_tuple (by decide +kernel) (pa_cons (pe_lc (own := [("part", 4)]) rfl sc_gworths.nd (pi_tup (pv 3)) (blkOk_by (N := nm_gworths) (sc := defScope s_gworths) (by decide +kernel)) (fun _ _ _ _ _ => pg_name (i := 4) sc_gworths.nd rfl (Or.inl rfl)) (fun _ _ _ _ _ => pts_nil) (fun _ _ _ _ _ => (pe_callTy (call_tuple_ofK (K := K) rfl) rfl T.n_tuple (by decide +kernel) (pa_cons (pe_lc (own := [("figure", 6)]) rfl sc_gworths.nd (pi_str (pv 4)) (blkOk_by (N := nm_gworths) (by rfl)) (fun _ _ _ _ _ => pg_name (i := 6) sc_gworths.nd rfl (Or.inl rfl)) (fun _ _ _ _ _ => pts_nil) (fun _ _ _ _ _ => (pe_callTy call_int_str rfl T.n_int (by decide +kernel) (pa_cons (pv 6) pa_nil)))) pa_nil)))) pa_nil)))))), ?_⟩
    walk_at "go"
    refine ⟨ag, gs, L, rfl, hg, G, tp, fun p0 r H1 h n s1 hn n38 per hr hp0 => ?_⟩
    have wl : (wrow gs n).length = n := wrow_len gs n
    have w8 : ∀ k, k ∈ wrow gs n → k ≤ 8 := fun k hk => by
      rw [wrow_eq] at hk
      obtain ⟨i, _, rfl⟩ := List.mem_map.mp hk
      unfold wth
      exact Nat.le_trans (mex_le _) (Nat.le_trans (near_len ..) G.len)
    walk_at "go"
    refine ⟨⟨_, sqL_of hr⟩, fun D nD => ?_⟩
    refine lc_it walk_list (fun i H2 => H2 D = some (.lst ((fig ((wrow gs n).take i)).map fun b => V.str (C [b]))) ∧ Same H1 H2) ⟨upd_same, same_new nD⟩ (fun i H2 _ p => sqL_of (p.2 _ _ hr)) (fun i x H2 H3 hi p y => ?_) (fun H2 p => ?_)
    · obtain ⟨hD, S⟩ := p
      obtain ⟨rfl, hx⟩ := y
      obtain ⟨k, ek, rfl⟩ := nV_get hx
      have k8 := w8 k (List.mem_of_getElem? ek)
      walk_at "go"
      refine ⟨Nat.lt_of_le_of_lt (Nat.log2_le_self _) (show ((k : Nat) : Int).natAbs < 1920 by omega), ?_⟩
      rw [C_dig k (by omega)]
      walk_at "go"
      refine ⟨_, hD, szl2 (by rw [List.length_map, fig, List.length_map, List.length_take]; omega), ?_, same_mut S nD⟩
      rw [upd_same, List.take_add_one, ek]
      show _ = some (HO.lst ((fig ((wrow gs n).take i ++ [k])).map fun b => V.str (C [b])))
      rw [fig, fig, List.map_append, List.map_append]
      rfl
    · obtain ⟨hD, S⟩ := p
      rw [nV_len, List.take_length] at hD
      have lf : (fig (wrow gs n)).length = n := by rw [fig, List.length_map, wl]
      walk_at "go"
      refine go_joinC hD (by omega) ?_
      rw [joinedC]
      have ef : fig (wrow gs n) = fig ((wrow gs n).take h) ++ fig ((wrow gs n).drop h) := by rw [fig, fig, fig, ← List.map_append, List.take_append_drop]
      have l1 : (fig ((wrow gs n).take h)).length = h := by rw [fig, List.length_map, List.length_take]; omega
      have l2 : (fig ((wrow gs n).drop h)).length = n - h := by rw [fig, List.length_map, List.length_drop]; omega
      rw [ef]
      walk_at "go"
      refine ⟨fig ((wrow gs n).take h), fig ((wrow gs n).drop h), by rw [l1]; rfl, by omega, by omega, by omega, fun p1 H3 h' t' s3 hp1 prm row h6 t6 => ?_⟩
      have t0 := prm.pos
      have sub := row_sub (by omega) t0 row
      replace h6 : h'.length ≤ 100 := by omega
      replace t6 : t'.length ≤ 100 := by omega
      have big : ∀ c, c ∈ h' ∨ c ∈ t' → 48 ≤ c ∧ c ≤ 56 := fun c hc => by
        have hin : c ∈ fig (wrow gs n) := by
          rw [ef, List.mem_append]
          exact sub c hc
        rw [fig, List.mem_map] at hin
        obtain ⟨k, hk, rfl⟩ := hin
        have := w8 k hk
        omega
      obtain ⟨x, ex⟩ : ∃ x, x = h'.map fun c => c - 48 := ⟨_, rfl⟩
      obtain ⟨y, ey⟩ : ∃ y, y = t'.map fun c => c - 48 := ⟨_, rfl⟩
      have fx : fig x = h' := by rw [ex]; exact fig_back fun c hc => (big c (.inl hc)).1
      have fy : fig y = t' := by rw [ey]; exact fig_back fun c hc => (big c (.inr hc)).1
      rw [← fx, ← fy] at hp1 row big prm
      replace prm := prim_fig prm
      have lx : x.length ≤ 100 := by rw [ex, List.length_map]; exact h6
      have ly : y.length ≤ 100 := by rw [ey, List.length_map]; exact t6
      have y0 : 0 < y.length := by rw [ey, List.length_map]; exact t0
      have row2 : sgN x y = wth gs := by
        funext i
        have e1 := congrFun row i
        rw [sgN_fig y0, sgN_fig (by rw [List.length_drop]; omega)] at e1
        have e2 := congrFun (sgN_cut hn per) i
        rw [wrow_take gs (by omega)] at e1
        omega
      have sm : ∀ l, l ∈ [x, y] → l.length ≤ 100 ∧ ∀ k, k ∈ l → k ≤ 8 := fun l hl => by
        rcases List.mem_cons.mp hl with rfl | hl
        · exact ⟨lx, fun k hk => by have := (big (48 + k) (.inl (List.mem_map.mpr ⟨k, hk, rfl⟩))).2; omega⟩
        · rw [List.mem_singleton.mp hl]
          exact ⟨ly, fun k hk => by have := (big (48 + k) (.inr (List.mem_map.mpr ⟨k, hk, rfl⟩))).2; omega⟩
      clear ex ey fx fy row big sub h6 t0 t6
      walk_at "go"
      refine ⟨⟨_, sqT_of hp1⟩, fun D2 nD2 => ?_⟩
      refine lc_it walk_tup (fun i H4 => ∃ vs : List V, H4 D2 = some (.lst vs) ∧ TuA H4 vs ([x, y].take i) ∧ Same H3 H4) ⟨[], upd_same, .nil, same_new nD2⟩ (fun i H4 _ p => sqT_of (p.choose_spec.2.2 _ _ hp1)) (fun i v H4 H5 hi p yv => ?_) (fun H4 p => ?_)
      · obtain ⟨vs, hD2, tu, S4⟩ := p
        obtain ⟨rfl, hv⟩ := yv
        obtain ⟨l, el, rfl⟩ : ∃ l, [x, y][i]? = some l ∧ v = .str (C (fig l)) := by
          match i, hv with
          | 0, hv => exact ⟨x, rfl, (Option.some.inj hv).symm⟩
          | 1, hv => exact ⟨y, rfl, (Option.some.inj hv).symm⟩
        obtain ⟨l6, l8⟩ := sm l (List.mem_of_getElem? el)
        walk_at "go"
        refine fun D3 nD3 => ?_
        refine lc_it walk_str (fun j H6 => H6 D3 = some (.lst (nV (l.take j))) ∧ Same H5 H6) ⟨upd_same, same_new nD3⟩ (fun _ _ _ _ => trivial) (fun j v H6 H7 hj p yv => ?_) (fun H6 p => ?_)
        · obtain ⟨hD3, S5⟩ := p
          obtain ⟨rfl, c, hc, rfl⟩ := yv
          have hc2 : (C (fig l)).cps.toList[j]? = some c := by rw [Array.getElem?_toList]; exact hc
          rw [C_cps] at hc2
          obtain ⟨k, ek, rfl⟩ := fig_get hc2
          have k8 := l8 k (List.mem_of_getElem? ek)
          walk_at "go"
          rw [C_one]
          refine ⟨_, _, rfl, int_fig k (by omega), by rw [C_len]; show 1 ≤ 640; decide, ?_⟩
          walk_at "go"
          refine ⟨_, hD3, szl2 (by rw [nV_len, List.length_take]; omega), ?_, same_mut S5 nD3⟩
          rw [upd_same, List.take_add_one, ek]
          show _ = some (HO.lst (nV (l.take j ++ [k])))
          rw [nV_snoc]
        · obtain ⟨hD3, S5⟩ := p
          have el2 : l.take (C (fig l)).cps.size = l := List.take_of_length_le (by rw [show (C (fig l)).cps.size = (C (fig l)).length from rfl, C_len, fig_len]; exact Nat.le_refl _)
          rw [el2] at hD3
          walk_at "go"
          refine ⟨D3, _, rfl, .inl ⟨sqL_of hD3, fun qa nqa => ?_⟩⟩
          generalize hU : upd H6 qa _ = H7
          obtain ⟨s7, hqa⟩ := new_of0 nqa hU
          have hD27 := s7 _ _ (S5 _ _ hD2)
          have ll := tu.len
          rw [List.length_take] at ll
          simp at ll
          refine ⟨_, hD27, szl2 (by omega), vs ++ [.ref qa], upd_same, ?_, same_mut ((S4.trans S5).trans s7) nD2⟩
          rw [List.take_add_one, el]
          exact (((tu.same S5).same s7).snoc hqa).keepL hD27
      · obtain ⟨vs, hD2, tu, S4⟩ := p
        walk_at "go"
        refine ⟨D2, _, rfl, .inl ⟨sqL_of hD2, fun pr npr => ?_⟩⟩
        generalize hU : upd H4 pr _ = H5
        obtain ⟨s5, hpr⟩ := new_of0 npr hU
        obtain ⟨a, b, rfl, ha, hb⟩ := TuA.two (H := H4) (vs := vs) (x := x) (y := y) tu
        exact q pr a b H5 x y ((((s1.trans S).trans s3).trans S4).trans s5) ⟨hpr, s5 _ _ ha, s5 _ _ hb, row2, prm, lx, ly⟩
end
set_option pp.deepTerms false
set_option pp.deepTerms.threshold 5
section
variable {P : Program} {wd : World} {K : PySem.W.Frag} {mg : Str → Option Value} {base : Heap} (T : Tp K mg)
theorem sgN_lo {x y : List Nat} {n : Nat} (h : n < x.length) : x[n]? = some (sgN x y n) := by
  unfold sgN
  rw [if_pos h, List.getD_eq_getElem?_getD, List.getElem?_eq_getElem h]
  rfl
theorem sgN_hi {x y : List Nat} {n : Nat} (h : x.length ≤ n) (y0 : 0 < y.length) : y[(n - x.length) % y.length]? = some (sgN x y n) := by
  unfold sgN
  rw [if_neg (by omega), List.getD_eq_getElem?_getD, List.getElem?_eq_getElem (Nat.mod_lt _ y0)]
  rfl
theorem nV_at {l : List Nat} {i k : Nat} (h : l[i]? = some k) : (nV l)[i]? = some (V.int (k : Nat)) := by
  rw [nV, List.getElem?_map, h]
  rfl
/-- the worth of a heap from a table of worths -/
def spWat : Sp := fun vs H Q _ => ∃ (p a b : Addr) (gs x y : List Nat) (n : Nat), vs = [.ref p, .int (n : Nat)] ∧ Wt H p a b gs x y ∧ n ≤ 10 ^ 19 ∧ Q (.int (wth gs n : Nat)) H
theorem ok_worth_at : FnOk P wd K mg base CX0 1 T.a_worth_at T.d_worth_at ["table", "number"] spWat := by
  refine T.F_worth_at.ok sc_worth_at (fun vs H Q E h => ?_) (fun cdv A outer s H vs Q E hr h => ?_)
  · obtain ⟨p, a, b, gs, x, y, n, rfl, _⟩ := h
    rfl
  · obtain ⟨p, a, b, gs, x, y, n, rfl, W, hn, q⟩ := h
    refine ⟨_, (pss_cons (ps_asg (pv 0) (pg_tup rfl (pgs_cons (pg_name (i := 2) sc_worth_at.nd rfl (Or.inl rfl)) (pgs_cons (pg_name (i := 3) sc_worth_at.nd rfl (Or.inl rfl)) pgs_nil))))
      (pss_cons (ps_if (pt_cmpR op_lt (pv 1) (pe_callB call_len_seq rfl T.n_len PySem.boot_len (pa_cons (pv 2) pa_nil)) (nomark _)) (pss_one (ps_ret (pe_ix ix_tup (pv 2) (pv 1) (fun _ _ => rfl)))) pss_nil)
      (pss_one (ps_ret (pe_ix ix_tup (pv 3) (pe_op op_mod (pe_op op_sub (pv 1) (pe_callB call_len_seq rfl T.n_len PySem.boot_len (pa_cons (pv 2) pa_nil))) (pe_callB call_len_seq rfl T.n_len PySem.boot_len (pa_cons (pv 3) pa_nil))) (fun _ _ => rfl)))))), ?_⟩
    have hp := W.at_
    have hx := W.xat
    have hy := W.yat
    have x6 := W.x6
    have y6 := W.y6
    have y0 := W.y0
    have lx := nV_len x
    have ly := nV_len y
    walk_at "go"
    rw [lx]
    refine ifD (fun lt => ?_) (fun nl => ?_)
    · have h0 := nV_at (sgN_lo (x := x) (y := y) (n := n) (by omega))
      rw [W.row] at h0
      walk_at "go"
      exact q
    · have h0 := nV_at (sgN_hi (x := x) (y := y) (n := n) (by omega) y0)
      rw [W.row] at h0
      walk_at "go"
      dsimp only
      rw [lx, ly, show (n : Int) - (x.length : Int) = ((n - x.length : Nat) : Int) by omega, cast_mod]
      refine ⟨b, _, _, _, rfl, rfl, sqT_of hy, atI_nat h0, ?_⟩
      exact q
theorem ok_lworth_at : FnOk P wd K mg base CX0 1 T.a_lworth_at T.d_lworth_at ["_law_told", "_law_number"] spWat := by
  refine T.F_lworth_at.ok sc_lworth_at (fun vs H Q E h => ?_) (fun cdv A outer s H vs Q E hr h => ?_)
  · obtain ⟨p, a, b, gs, x, y, n, rfl, _⟩ := h
    rfl
  · obtain ⟨p, a, b, gs, x, y, n, rfl, W, hn, q⟩ := h
    refine ⟨_, (pss_cons (ps_asg (pv 0) (pg_tup rfl (pgs_cons (pg_name (i := 2) sc_lworth_at.nd rfl (Or.inl rfl)) (pgs_cons (pg_name (i := 3) sc_lworth_at.nd rfl (Or.inl rfl)) pgs_nil))))
      (pss_one (ps_ret (pe_ifExp (pt_cmpR op_lt (pv 1) (pe_callB call_len_seq rfl T.n_len PySem.boot_len (pa_cons (pv 2) pa_nil)) (nomark _)) (pe_ix ix_tup (pv 2) (pv 1) (fun _ _ => rfl)) (pe_ix ix_tup (pv 3) (pe_op op_mod (pe_callTy call_int1 rfl T.n_int (by decide +kernel) (pa_cons (pe_op op_sub (pv 1) (pe_callB call_len_seq rfl T.n_len PySem.boot_len (pa_cons (pv 2) pa_nil))) pa_nil)) (pe_callB call_len_seq rfl T.n_len PySem.boot_len (pa_cons (pv 3) pa_nil))) (fun _ _ => rfl)))))), ?_⟩
    have hp := W.at_
    have hx := W.xat
    have hy := W.yat
    have x6 := W.x6
    have y6 := W.y6
    have y0 := W.y0
    have lx := nV_len x
    have ly := nV_len y
    walk_at "go"
    rw [lx]
    refine ifD (fun lt => ?_) (fun nl => ?_)
    · have h0 := nV_at (sgN_lo (x := x) (y := y) (n := n) (by omega))
      rw [W.row] at h0
      walk_at "go"
      exact q
    · have h0 := nV_at (sgN_hi (x := x) (y := y) (n := n) (by omega) y0)
      rw [W.row] at h0
      walk_at "go"
      dsimp only
      rw [lx, ly, show (n : Int) - (x.length : Int) = ((n - x.length : Nat) : Int) by omega, cast_mod]
      refine ⟨b, _, _, _, rfl, rfl, sqT_of hy, atI_nat h0, ?_⟩
      exact q
/-- the worth of a heap -/
def spWorth : Sp := fun vs H Q _ => ∃ (ag : Addr) (gs : List Nat) (L n : Nat), vs = [.ref ag, .int (n : Nat)] ∧ H ag = some (.tup (nV gs)) ∧ Gok gs ∧ Top gs L ∧ n ≤ 10 ^ 19 ∧ ∀ H', Same H H' → Q (.int (wth gs n : Nat)) H'
theorem ok_worth : FnOk P wd K mg base CX0 5 T.a_worth T.d_worth ["game", "number"] spWorth := by
  have G_gworths : FnOk P wd K mg base CX0 4 T.a_gworths T.d_gworths ["game"] spGworths := ok_gworths T
  have G_worth_at : FnOk P wd K mg base CX0 1 T.a_worth_at T.d_worth_at ["table", "number"] spWat := ok_worth_at T
  refine T.F_worth.ok sc_worth (fun vs H Q E h => ?_) (fun cdv A outer s H vs Q E hr h => ?_)
  · obtain ⟨ag, gs, L, n, rfl, _⟩ := h
    rfl
  · obtain ⟨ag, gs, L, n, rfl, hg, G, tp, hn, q⟩ := h
    refine ⟨_, (pss_one (ps_ret (pe_call G_worth_at (hr.mono (by decide)) rfl T.g_worth_at T.F_worth_at.kp (b_worth_at T) .nil pass0 (pa_cons (pe_call G_gworths hr rfl T.g_gworths T.F_gworths.kp (b_gworths T) .nil pass0 (pa_cons (pv 0) pa_nil)) (pa_cons (pv 1) pa_nil))))), ?_⟩
    walk_at "go"
    refine ⟨ag, gs, L, rfl, hg, G, tp, fun p a b H1 x y s1 W => ?_⟩
    walk_at "go"
    exact ⟨p, a, b, gs, x, y, n, rfl, W, hn, q _ s1⟩
end
set_option pp.deepTerms false
set_option pp.deepTerms.threshold 5
section
variable {P : Program} {wd : World} {K : PySem.W.Frag} {mg : Str → Option Value} {base : Heap} (T : Tp K mg)
local macro_rules | `(tactic| walk_at "go1") => `(tactic| (apply goC_lenS; (focus omega); simp only [C_len]))
theorem lit1 : Str.ofString "1" = C [49] := by decide +kernel
theorem lit0 : Str.ofString "0" = C [48] := by decide +kernel
def mkC (k : Nat) (l : List Nat) : List Nat := l.map fun v => if v = k then 49 else 48
theorem mkC_len (k : Nat) (l : List Nat) : (mkC k l).length = l.length := List.length_map ..
theorem sgN_mkC {a b : List Nat} {k : Nat} (b0 : 0 < b.length) (n : Nat) : sgN (mkC k a) (mkC k b) n = if sgN a b n = k then 49 else 48 := by
  have g : ∀ (l : List Nat) (i : Nat), i < l.length → (mkC k l).getD i 0 = if l.getD i 0 = k then 49 else 48 := fun l i hi => by
    rw [List.getD_eq_getElem?_getD, List.getD_eq_getElem?_getD, mkC, List.getElem?_map, List.getElem?_eq_getElem hi]
    rfl
  unfold sgN
  rw [mkC_len, mkC_len]
  by_cases c : n < a.length
  · rw [if_pos c, if_pos c, g a n c]
  · rw [if_neg c, if_neg c, g b _ (Nat.mod_lt _ b0)]
/-- the signs of the heaps that are worth k -/
def sgW (gs : List Nat) (k n : Nat) : Nat := if wth gs n = k then 49 else 48
def spOfW : Sp := fun vs H Q _ => ∃ (ag : Addr) (gs : List Nat) (L k : Nat), vs = [.ref ag, .int k] ∧ H ag = some (.tup (nV gs)) ∧ Gok gs ∧ Top gs L ∧
  ∀ p H' h u, Same H H' → H' p = some (.tup [.str (C h), .str (C u)]) → RowN.Prim h u → sgN h u = sgW gs k → h.length ≤ 40 → u.length ≤ 40 → Q (.ref p) H'
theorem ok_of_worth : FnOk P wd K mg base CX0 4 T.a_of_worth T.d_of_worth ["game", "worth"] spOfW := by
  have G_worth_row : FnOk P wd K mg base CX0 2 T.a_worth_row T.d_worth_row ["game"] spWrow := ok_worth_row T
  have G_table_of : FnOk P wd K mg base CX0 3 T.a_table_of T.d_table_of ["row", "head"] spTableOf := ok_table_of T
  refine T.F_of_worth.ok sc_of_worth (fun vs H Q E h => ?_) (fun cdv A outer s H vs Q E hr h => ?_)
  · obtain ⟨ag, gs, L, k, rfl, _⟩ := h
    rfl
  · obtain ⟨ag, gs, L, k, rfl, hg, G, tp, q⟩ := h
    refine ⟨_, (pss_cons (ps_asg (pe_call G_worth_row (hr.mono (by decide)) rfl T.g_worth_row T.F_worth_row.kp (b_worth_row T) .nil pass0 (pa_cons (pv 0) pa_nil)) (pg_tup rfl (pgs_cons (pg_name (i := 2) sc_of_worth.nd rfl (Or.inl rfl)) (pgs_cons (pg_name (i := 3) sc_of_worth.nd rfl (Or.inl rfl)) pgs_nil))))
      (pss_one (ps_ret (pe_call G_table_of hr rfl T.g_table_of T.F_table_of.kp (b_table_of T) .nil pass0 (pa_cons (pe_bm PySem.F.plainAttrs_str PySem.F.slot_str_join PySem.F.type_str_join mt_join pe_str (pa_cons (pe_lc (own := [("found", 4)]) rfl sc_of_worth.nd (pi_list (pv 3)) (blkOk_by (N := nm_of_worth) (sc := defScope s_of_worth) (by decide +kernel)) (fun _ _ _ _ _ => pg_name (i := 4) sc_of_worth.nd rfl (Or.inl rfl)) (fun _ _ _ _ _ => pts_nil) (fun _ _ _ _ _ => (pe_ifExp (pt_cmpR op_eq (pv 4) (pv 1) (nomark _)) pe_str pe_str))) pa_nil)) (pa_cons (pv 2) pa_nil)))))), ?_⟩
    walk_at "go"
    refine ⟨ag, gs, L, rfl, hg, G, tp, fun p0 r H1 h n s1 hn n38 per hr hp0 => ?_⟩
    have wl : (wrow gs n).length = n := wrow_len gs n
    walk_at "go"
    refine ⟨⟨_, sqL_of hr⟩, fun D nD => ?_⟩
    refine lc_it walk_list (fun i H2 => H2 D = some (.lst ((mkC k ((wrow gs n).take i)).map fun b => V.str (C [b]))) ∧ Same H1 H2) ⟨upd_same, same_new nD⟩ (fun i H2 _ p => sqL_of (p.2 _ _ hr)) (fun i x H2 H3 hi p y => ?_) (fun H2 p => ?_)
    · obtain ⟨hD, S⟩ := p
      obtain ⟨rfl, hx⟩ := y
      obtain ⟨v, ev, rfl⟩ := nV_get hx
      walk_at "go"
      rw [vi_decN]
      have st : (mkC k ((wrow gs n).take (i + 1))).map (fun b => V.str (C [b])) = (mkC k ((wrow gs n).take i)).map (fun b => V.str (C [b])) ++ [V.str (C [if v = k then 49 else 48])] := by
        rw [List.take_add_one, ev]
        show List.map _ (mkC k ((wrow gs n).take i ++ [v])) = _
        rw [mkC, mkC, List.map_append, List.map_append]
        rfl
      refine ifD (fun e => ?_) (fun e => ?_)
      · rw [if_pos e] at st
        refine ⟨_, hD, szl2 (by rw [List.length_map, mkC_len, List.length_take]; omega), ?_, same_mut S nD⟩
        rw [upd_same, st, ← lit1]
      · rw [if_neg e] at st
        refine ⟨_, hD, szl2 (by rw [List.length_map, mkC_len, List.length_take]; omega), ?_, same_mut S nD⟩
        rw [upd_same, st, ← lit0]
    · obtain ⟨hD, S⟩ := p
      rw [nV_len, List.take_length] at hD
      walk_at "go"
      refine go_joinC hD (by rw [mkC_len]; omega) ?_
      rw [joinedC]
      have ef : mkC k (wrow gs n) = mkC k ((wrow gs n).take h) ++ mkC k ((wrow gs n).drop h) := by rw [mkC, mkC, mkC, ← List.map_append, List.take_append_drop]
      have l1 : (mkC k ((wrow gs n).take h)).length = h := by rw [mkC_len, List.length_take]; omega
      have l2 : (mkC k ((wrow gs n).drop h)).length = n - h := by rw [mkC_len, List.length_drop]; omega
      rw [ef]
      walk_at "go"
      refine ⟨mkC k ((wrow gs n).take h), mkC k ((wrow gs n).drop h), by rw [l1]; rfl, by omega, by omega, by omega, fun p1 H3 h' t' s3 hp1 prm row h6 t6 => ?_⟩
      refine q p1 H3 h' t' ((s1.trans S).trans s3) hp1 prm ?_ (by omega) (by omega)
      funext i
      have e1 := congrFun row i
      rw [sgN_mkC (by rw [List.length_drop]; omega)] at e1
      have e2 := congrFun (sgN_cut hn per) i
      rw [wrow_take gs (by omega)] at e1
      rw [e1, e2]
      rfl
def spLostT : Sp := fun vs H Q _ => ∃ (ag : Addr) (gs : List Nat) (L : Nat), vs = [.ref ag] ∧ H ag = some (.tup (nV gs)) ∧ Gok gs ∧ Top gs L ∧
  ∀ p H' h u, Same H H' → H' p = some (.tup [.str (C h), .str (C u)]) → RowN.Prim h u → sgN h u = sgW gs 0 → h.length ≤ 40 → u.length ≤ 40 → Q (.ref p) H'
theorem ok_lost : FnOk P wd K mg base CX0 5 T.a_lost T.d_lost ["game"] spLostT := by
  have G_of_worth : FnOk P wd K mg base CX0 4 T.a_of_worth T.d_of_worth ["game", "worth"] spOfW := ok_of_worth T
  refine T.F_lost.ok sc_lost (fun vs H Q E h => ?_) (fun cdv A outer s H vs Q E hr h => ?_)
  · obtain ⟨ag, gs, L, rfl, _⟩ := h
    rfl
  · obtain ⟨ag, gs, L, rfl, hg, G, tp, q⟩ := h
    refine ⟨_, (pss_one (ps_ret (pe_call G_of_worth hr rfl T.g_of_worth T.F_of_worth.kp (b_of_worth T) .nil pass0 (pa_cons (pv 0) (pa_cons pe_int pa_nil))))), ?_⟩
    walk_at "go"
    exact ⟨ag, gs, L, 0, rfl, hg, G, tp, q⟩
def spSize : Sp := fun vs H Q _ => ∃ (a b : Nat), vs = [.int a, .int b] ∧ a ≤ 5000 ∧ b ≤ 5000 ∧ Q .non H
theorem ok_check_size : FnOk P wd K mg base CX0 1 T.a_check_size T.d_check_size ["head", "turn"] spSize := by
  refine T.F_check_size.ok sc_check_size (fun vs H Q E h => ?_) (fun cdv A outer s H vs Q E hr h => ?_)
  · obtain ⟨a, b, rfl, _⟩ := h
    rfl
  · obtain ⟨a, b, rfl, ha, hb, q⟩ := h
    refine ⟨_, (pss_one (ps_if (PW.pt (pw_or (pt_cmpR op_gt (pv 0) (pe_glob (v := .int 5000) rfl T.m_MAX_HEAD ⟨_, rfl⟩) (nomark _)) (pw_or1 (pt_cmpR op_gt (pv 1) (pe_glob (v := .int 5000) rfl T.m_MAX_TURN ⟨_, rfl⟩) (nomark _))))) (pss_one ps_no) pss_nil)), ?_⟩
    walk_at "go"
    refine ifD (fun gt => by omega) (fun _ => ?_)
    walk_at "go"
    refine ifD (fun gt => by omega) (fun _ => ?_)
    walk_at "go"
    exact q
/-- so many noughts ahead of a row -/
def ahead (b : Nat) (f : Nat → Nat) (n : Nat) : Nat := if n < b then 48 else f (n - b)
theorem repN_get {b n : Nat} (h : n < b) : (repN b [48]).getD n 0 = 48 := by
  have l : (repN b [48]).length = b := by rw [repN_len]; simp
  have m : (repN b [48])[n]? = some ((repN b [48])[n]'(by omega)) := List.getElem?_eq_getElem (by omega)
  have := repN_mem (List.mem_of_getElem? m)
  rw [List.getD_eq_getElem?_getD, m, List.mem_singleton.mp this]
  rfl
theorem sgN_ahead {b : Nat} {h t : List Nat} : sgN (repN b [48] ++ h) t = ahead b (sgN h t) := by
  have l : (repN b [48]).length = b := by rw [repN_len]; simp
  funext n
  unfold ahead sgN
  rw [List.length_append, l]
  by_cases c : n < b
  · rw [if_pos c, if_pos (by omega), List.getD_eq_getElem?_getD, List.getElem?_append_left (by omega), ← List.getD_eq_getElem?_getD, repN_get c]
  · rw [if_neg c]
    by_cases d : n < b + h.length
    · rw [if_pos d, if_pos (by omega), List.getD_eq_getElem?_getD, List.getElem?_append_right (by omega), ← List.getD_eq_getElem?_getD, l]
    · rw [if_neg d, if_neg (by omega), show n - (b + h.length) = n - b - h.length by omega]
def spMoved : Sp := fun vs H Q _ => ∃ (p : Addr) (h t : List Nat) (b : Nat), vs = [.ref p, .int b] ∧ H p = some (.tup [.str (C h), .str (C t)]) ∧ h.length ≤ 40 ∧ 0 < t.length ∧ t.length ≤ 40 ∧ b ≤ 40 ∧
  ∀ p' H' h' t', Same H H' → H' p' = some (.tup [.str (C h'), .str (C t')]) → RowN.Prim h' t' → sgN h' t' = ahead b (sgN h t) → h'.length ≤ 80 → t'.length ≤ 80 → Q (.ref p') H'
theorem ok_moved : FnOk P wd K mg base CX0 3 T.a_moved T.d_moved ["table", "by"] spMoved := by
  have G_least : FnOk P wd K mg base CX0 2 T.a_least T.d_least ["table"] spLeast := ok_least T
  have G_check_size : FnOk P wd K mg base CX0 1 T.a_check_size T.d_check_size ["head", "turn"] spSize := ok_check_size T
  refine T.F_moved.ok sc_moved (fun vs H Q E h => ?_) (fun cdv A outer s H vs Q E hr h => ?_)
  · obtain ⟨p, h, t, b, rfl, _⟩ := h
    rfl
  · obtain ⟨p, h, t, b, rfl, hp, h1, t0, t1, hb, q⟩ := h
    refine ⟨_, (pss_cons (ps_asg (pe_call G_least hr rfl T.g_least T.F_least.kp (b_least T) .nil pass0 (pa_cons (pv 0) pa_nil)) (pg_tup rfl (pgs_cons (pg_name (i := 2) sc_moved.nd rfl (Or.inl rfl)) (pgs_cons (pg_name (i := 3) sc_moved.nd rfl (Or.inl rfl)) pgs_nil))))
      (pss_cons (ps_expr (pe_call G_check_size (hr.mono (by decide)) rfl T.g_check_size T.F_check_size.kp (b_check_size T) .nil pass0 (pa_cons (pe_op op_add (pe_callB call_len_str rfl T.n_len PySem.boot_len (pa_cons (pv 2) pa_nil)) (pv 1)) (pa_cons (pe_callB call_len_str rfl T.n_len PySem.boot_len (pa_cons (pv 3) pa_nil)) pa_nil))))
      (pss_one (ps_ret (pe_call G_least hr rfl T.g_least T.F_least.kp (b_least T) .nil pass0 (pa_cons (pe_tup (pa_cons (pe_op op_add_str (pe_op op_mulS pe_str (pv 1)) (pv 2)) (pa_cons (pv 3) pa_nil))) pa_nil)))))), ?_⟩
    walk_at "go"
    refine ⟨p, h, t, rfl, hp, by omega, t0, by omega, fun p1 H1 h' t' s1 hp1 prm1 row h6 t6 => ?_⟩
    have t0' := prm1.pos
    iterate 14 (walk_at "go1")
    rw [lit0]
    have rl : (repN b [48]).length = b := by rw [repN_len]; simp
    have eb : ((b : Nat) : Int).toNat = b := rfl
    walk_at "go"
    rw [eb, C_app]
    refine ⟨by rw [C_len, C_len]; exact szM (by omega), ?_⟩
    walk_at "go"
    intro p2 np2
    generalize hU : upd H1 p2 _ = H2
    obtain ⟨s2, hp2⟩ := new_of0 np2 hU
    walk_at "go"
    refine ⟨p2, repN b [48] ++ h', t', rfl, hp2, by rw [List.length_append, rl]; omega, by omega, by omega, fun p3 H3 h3 t3 s3 hp3 prm3 row3 a1 a3 => ?_⟩
    rw [List.length_append, rl] at a1
    rw [sgN_ahead, row] at row3
    exact q p3 H3 h3 t3 ((s1.trans s2).trans s3) hp3 prm3 row3 (by omega) (by omega)
def spLostLast : Sp := fun vs H Q _ => ∃ (ag : Addr) (gs : List Nat) (L g0 : Nat), vs = [.ref ag] ∧ H ag = some (.tup (nV gs)) ∧ Gok gs ∧ Top gs L ∧ gs[0]? = some g0 ∧
  ∀ p H' h u, Same H H' → H' p = some (.tup [.str (C h), .str (C u)]) → RowN.Prim h u → sgN h u = ahead g0 (sgW gs 0) → h.length ≤ 80 → u.length ≤ 80 → Q (.ref p) H'
theorem ok_lost_last : FnOk P wd K mg base CX0 6 T.a_lost_last T.d_lost_last ["game"] spLostLast := by
  have G_lost : FnOk P wd K mg base CX0 5 T.a_lost T.d_lost ["game"] spLostT := ok_lost T
  have G_moved : FnOk P wd K mg base CX0 3 T.a_moved T.d_moved ["table", "by"] spMoved := ok_moved T
  refine T.F_lost_last.ok sc_lost_last (fun vs H Q E h => ?_) (fun cdv A outer s H vs Q E hr h => ?_)
  · obtain ⟨ag, gs, L, g0, rfl, _⟩ := h
    rfl
  · obtain ⟨ag, gs, L, g0, rfl, hg, G, tp, e0, q⟩ := h
    refine ⟨_, (pss_one (ps_ret (pe_call G_moved (hr.mono (by decide)) rfl T.g_moved T.F_moved.kp (b_moved T) .nil pass0 (pa_cons (pe_call G_lost hr rfl T.g_lost T.F_lost.kp (b_lost T) .nil pass0 (pa_cons (pv 0) pa_nil)) (pa_cons (pe_ix ix_tup (pv 0) pe_int (fun _ _ => rfl)) pa_nil))))), ?_⟩
    have h8 := G.mem g0 (List.mem_of_getElem? e0)
    walk_at "go"
    refine ⟨ag, gs, L, rfl, hg, G, tp, fun p1 H1 h u s1 hp1 prm1 row h6 u6 => ?_⟩
    have u0 := prm1.pos
    have hg1 := s1 _ _ hg
    have hv := nV_at e0
    walk_at "go"
    refine ⟨p1, h, u, g0, rfl, hp1, h6, u0, u6, by omega, fun p' H' h' t' s2 hp' prm row' a c => ?_⟩
    rw [row] at row'
    exact q p' H' h' t' (s1.trans s2) hp' prm row' a c
end
set_option pp.deepTerms false
set_option pp.deepTerms.threshold 5
section
variable {P : Program} {wd : World} {K : PySem.W.Frag} {mg : Str → Option Value} {base : Heap} (T : Tp K mg)
local macro_rules | `(tactic| walk_at "go1") => `(tactic| (apply goC_lenS; (focus omega); simp only [C_len]))
theorem sgW_mk {gs x y : List Nat} {k : Nat} (y0 : 0 < y.length) (row : sgN x y = wth gs) : sgN (mkC k x) (mkC k y) = sgW gs k := by
  funext n
  rw [sgN_mkC y0, row]
  rfl
def spOf : Sp := fun vs H Q _ => ∃ (p a b : Addr) (gs x y : List Nat) (k : Nat), vs = [.ref p, .int (k : Nat)] ∧ Wt H p a b gs x y ∧
  ∀ p H' h u, Same H H' → H' p = some (.tup [.str (C h), .str (C u)]) → RowN.Prim h u → sgN h u = sgW gs k → h.length ≤ 100 → u.length ≤ 100 → Q (.ref p) H'
theorem ok_lof : FnOk P wd K mg base CX0 2 T.a_lof T.d_lof ["_law_told", "_law_own"] spOf := by
  have G_lleast : FnOk P wd K mg base CX0 1 T.a_lleast T.d_lleast ["_law_head", "_law_turn"] spLl := ok_lleast T
  refine T.F_lof.ok sc_lof (fun vs H Q E h => ?_) (fun cdv A outer s H vs Q E hr h => ?_)
  · obtain ⟨p, a, b, gs, x, y, k, rfl, _⟩ := h
    rfl
  · obtain ⟨p, a, b, gs, x, y, k, rfl, w, q⟩ := h
    refine ⟨_, (pss_cons (ps_setLc (i := 2) (own := [("_law_row", 3)]) rfl sc_lof.nd rfl rfl (sw_true rfl rfl rfl (by decide +kernel)) (pi_tup (pv 0)) (blkOk_by (N := nm_lof) (sc := defScope s_lof) (by decide +kernel)) (fun _ _ _ _ _ => pg_name (i := 3) sc_lof.nd rfl (Or.inl rfl)) (fun _ _ _ _ _ => pts_nil) (fun _ _ _ _ _ => (pe_bmI (K := K) rfl PySem.F.plainAttrs_str PySem.F.slot_str_join PySem.F.type_str_join (mt_joinK (K := K) rfl) pe_str (pa_cons (pe_lc (own := [("_law_cell", 4)]) rfl sc_lof.nd (pi_tupK (K := K) rfl (pv 3)) (blkOk_by (N := nm_lof) (by rfl)) (fun _ _ _ _ _ => pg_name (i := 4) sc_lof.nd rfl (Or.inl rfl)) (fun _ _ _ _ _ => pts_nil) (fun _ _ _ _ _ => (pe_ifExp (pt_cmpR op_eq (pv 4) (pv 1) (nomark _)) pe_str pe_str))) pa_nil))))
      (pss_one (ps_ret (pe_call G_lleast hr rfl T.g_lleast T.F_lleast.kp (b_lleast T) .nil pass0 (pa_cons (pe_ix ix_list (pv 2) pe_int (fun _ _ => rfl)) (pa_cons (pe_ix ix_list (pv 2) pe_int (fun _ _ => rfl)) pa_nil)))))), ?_⟩
    have hp := w.at_
    have y0 := w.y0
    have x6 := w.x6
    have y6 := w.y6
    have both : ∀ i v, [V.ref a, V.ref b][i]? = some v → ∃ r l, v = .ref r ∧ H r = some (.tup (nV l)) ∧ [x, y][i]? = some l ∧ l.length ≤ 100 ∧ i < 2 := fun i v h => by
      rcases i with _ | _ | i
      · exact ⟨a, x, (Option.some.inj h).symm, w.xat, rfl, x6, by omega⟩
      · exact ⟨b, y, (Option.some.inj h).symm, w.yat, rfl, y6, by omega⟩
      · cases h
    walk_at "go"
    refine ⟨⟨_, sqT_of hp⟩, fun D nD => ?_⟩
    refine lc_it walk_tup (fun i H2 => H2 D = some (.lst (([x, y].take i).map fun l => V.str (C (mkC k l)))) ∧ Same H H2) ⟨upd_same, same_new nD⟩ (fun i H2 _ p => sqT_of (p.2 _ _ hp)) (fun i v H2 H3 hi px yv => ?_) (fun H2 px => ?_)
    · obtain ⟨hD, S⟩ := px
      obtain ⟨rfl, hx⟩ := yv
      obtain ⟨r, l, rfl, hr0, el, l6, i2⟩ := both i v hx
      have hr3 := S _ _ hr0
      have sz : (([x, y].take i).map fun l => V.str (C (mkC k l))).length < sizeLine := Nat.lt_of_le_of_lt (by rw [List.length_map, List.length_take]; exact Nat.le_trans (Nat.min_le_left _ _) (Nat.le_of_lt i2) : _ ≤ 2) (by decide)
      walk_at "go"
      refine ⟨⟨_, sqT_of hr3⟩, fun D2 nD2 => ?_⟩
      have nDD : D ≠ D2 := ne_of_none hD nD2
      refine lc_it walk_tup (fun j H4 => H4 D2 = some (.lst ((mkC k (l.take j)).map fun b => V.str (C [b]))) ∧ Same H3 H4) ⟨upd_same, same_new nD2⟩ (fun j H4 _ p => sqT_of (p.2 _ _ hr3)) (fun j v H4 H5 hj px yv => ?_) (fun H4 px => ?_)
      · obtain ⟨hD2, S4⟩ := px
        obtain ⟨rfl, hv⟩ := yv
        obtain ⟨t, et, rfl⟩ := nV_get hv
        rw [nV_len] at hj
        walk_at "go"
        rw [vi_decN]
        have st : (mkC k (l.take (j + 1))).map (fun b => V.str (C [b])) = (mkC k (l.take j)).map (fun b => V.str (C [b])) ++ [V.str (C [if t = k then 49 else 48])] := by
          rw [List.take_add_one, et]
          show List.map _ (mkC k (l.take j ++ [t])) = _
          rw [mkC, mkC, List.map_append, List.map_append]
          rfl
        have sz2 : ((mkC k (l.take j)).map (fun b => V.str (C [b]))).length < sizeLine := Nat.lt_of_le_of_lt (by rw [List.length_map, mkC_len, List.length_take]; omega : _ ≤ 5000) (by decide)
        refine ifD (fun e => ?_) (fun e => ?_)
        · rw [if_pos e] at st
          refine ⟨_, hD2, sz2, ?_, same_mut S4 nD2⟩
          rw [upd_same, st, ← lit1]
        · rw [if_neg e] at st
          refine ⟨_, hD2, sz2, ?_, same_mut S4 nD2⟩
          rw [upd_same, st, ← lit0]
      · obtain ⟨hD2, S4⟩ := px
        rw [nV_len, List.take_length] at hD2
        walk_at "go"
        refine go_joinC hD2 (by rw [mkC_len]; omega) ?_
        rw [joinedC]
        walk_at "go"
        refine ⟨_, S4 _ _ hD, sz, ?_, same_mut (S.trans S4) nD⟩
        rw [upd_same, List.take_add_one, el, List.map_append]
        rfl
    · obtain ⟨hD, S⟩ := px
      walk_at "go"
      refine .inl ⟨mkC k x, mkC k y, rfl, by rw [mkC_len]; omega, by rw [mkC_len]; omega, by rw [mkC_len]; omega, fun p H3 h u s3 pr row hp l1 l2 => ?_⟩
      rw [mkC_len] at l1 l2
      exact q p H3 h u (S.trans s3) hp pr (row.trans (sgW_mk y0 w.row)) (by omega) (by omega)
theorem row_takeN {h t : List Nat} {k m : Nat} (ht : 0 < t.length) (hm : m ≤ h.length + k * t.length) : (h ++ repN k t).take m = RowN.rng (sgN h t) 0 m := by
  refine RowN.ext_rng (by rw [List.length_take, List.length_append, repN_len]; omega) fun i hi => ?_
  rw [List.getElem?_take, if_pos hi, Nat.zero_add]
  by_cases c : i < h.length
  · rw [List.getElem?_append_left c]
    exact sgN_lo c
  · rw [List.getElem?_append_right (by omega)]
    have f := flat_get (l := t) (n := k) (i := i - h.length) (by omega)
    rw [repN, f]
    exact sgN_hi (by omega) ht
def spSigns : Sp := fun vs H Q _ => ∃ (p : Addr) (h t : List Nat), vs = [.ref p, .int 90] ∧ H p = some (.tup [.str (C h), .str (C t)]) ∧ h.length ≤ 100 ∧ 0 < t.length ∧ t.length ≤ 100 ∧ Q (.str (C (RowN.rng (sgN h t) 0 90))) H
theorem ok_lsigns : FnOk P wd K mg base CX0 1 T.a_lsigns T.d_lsigns ["_law_table", "_law_many"] spSigns := by
  refine T.F_lsigns.ok sc_lsigns (fun vs H Q E h => ?_) (fun cdv A outer s H vs Q E hr h => ?_)
  · obtain ⟨p, h, t, rfl, _⟩ := h
    rfl
  · obtain ⟨p, h, t, rfl, hp, h1, t0, t1, q⟩ := h
    refine ⟨_, (pss_one (ps_ret (pe_slice sl_str (pe_op op_add_str (pe_ix ix_tup (pv 0) pe_int (fun _ _ => rfl)) (pe_op op_mulS (pe_ix ix_tup (pv 0) pe_int (fun _ _ => rfl)) (pe_op op_add (pe_op op_fdiv (pv 1) (pe_callB call_len_str rfl T.n_len PySem.boot_len (pa_cons (pe_ix ix_tup (pv 0) pe_int (fun _ _ => rfl)) pa_nil))) pe_int))) po_none (po_some (pv 1))))), ?_⟩
    have d1 := Nat.div_le_self 90 t.length
    have d2 := Nat.div_add_mod 90 t.length
    have d3 := Nat.mod_lt 90 t0
    have e1 : ((90 : Int) / (t.length : Int) + 1) = ((90 / t.length + 1 : Nat) : Int) := by
      rw [show (90 : Int) = ((90 : Nat) : Int) from rfl, cast_div]
      omega
    have e2 : (90 / t.length + 1) * t.length = t.length * (90 / t.length) + t.length := by rw [Nat.mul_comm, Nat.mul_succ]
    generalize 90 / t.length = z at *
    have rl := repN_len t (z + 1)
    rw [e2] at rl
    have m1 : t.length * (z + 1) = t.length * z + t.length := Nat.mul_succ _ _
    generalize t.length * z = zz at *
    walk_at "go"
    rw [e1]
    refine ⟨by rw [C_len, show ((z + 1 : Nat) : Int).toNat = z + 1 from rfl]; omega, ?_⟩
    rw [C_mul _ (by omega), show ((z + 1 : Nat) : Int).toNat = z + 1 from rfl]
    walk_at "go"
    refine ⟨by rw [C_len, C_len, rl]; exact szM (by omega), ?_⟩
    rw [C_app]
    have ln : (h ++ repN (z + 1) t).length = h.length + (zz + t.length) := by rw [List.length_append, rl]
    walk_at "go"
    rw [show Int.toNat 90 = 90 from rfl, row_takeN t0 (by rw [e2]; omega)]
    exact q
theorem least_in : ∀ {gs : List Nat}, gs ≠ [] → ∃ s, s ∈ gs ∧ ∀ t, t ∈ gs → s ≤ t
  | [], h => absurd rfl h
  | [x], _ => ⟨x, List.mem_cons_self .., fun t ht => by rw [List.mem_singleton.mp ht]; exact Nat.le_refl _⟩
  | x :: y :: l, _ => by
    obtain ⟨s, hs, h⟩ := least_in (gs := y :: l) (by simp)
    by_cases c : x ≤ s
    · refine ⟨x, List.mem_cons_self .., fun t ht => ?_⟩
      rcases List.mem_cons.mp ht with rfl | ht
      · exact Nat.le_refl _
      · exact Nat.le_trans c (h t ht)
    · refine ⟨s, List.mem_cons_of_mem _ hs, fun t ht => ?_⟩
      rcases List.mem_cons.mp ht with rfl | ht
      · omega
      · exact h t ht
theorem sgW_eq (gs : List Nat) (k n : Nat) : decide (sgW gs k n = 49) = decide (wth gs n = k) := by
  unfold sgW
  by_cases c : wth gs n = k
  · rw [if_pos c, decide_eq_true c]; rfl
  · rw [if_neg c, decide_eq_false c]; rfl
theorem one_iff {gs : List Nat} (G : Gok gs) (n : Nat) : ((∃ t, t ∈ gs ∧ t ≤ n) ∧ ∀ t, t ∈ gs → t ≤ n → wth gs (n - t) ≠ 1) ↔ wth gs n = 1 := by
  have h1 : ∀ t, t ∈ gs → 1 ≤ t := fun t ht => (G.mem t ht).1
  constructor
  · rintro ⟨⟨t, ht, tn⟩, no⟩
    have le : wth gs n ≤ 1 := Nat.le_of_not_lt fun c => by
      obtain ⟨t, ht, tn, e⟩ := wth_less h1 (k := 1) c
      exact no t ht tn e
    by_cases z : wth gs n = 0
    · obtain ⟨s, ms, least⟩ := least_in G.ne
      obtain ⟨t2, ht2, tn2, e⟩ := wth_one h1 ms least z (Nat.le_trans (least t ht) tn)
      exact absurd e (no t2 ht2 tn2)
    · omega
  · intro e
    obtain ⟨t, ht, tn, _⟩ := wth_less h1 (k := 0) (show 0 < wth gs n by omega)
    exact ⟨⟨t, ht, tn⟩, fun t ht tn z => wth_ne h1 ht tn (z.trans e.symm)⟩
/-- the signs of the heaps at which who moves last loses -/
def spLastRow : Sp := fun vs H Q _ => ∃ (ag : Addr) (gs : List Nat), vs = [.ref ag, .int 90] ∧ H ag = some (.tup (nV gs)) ∧ Gok gs ∧ ∀ H', Same H H' → Q (.str (C (RowN.rng (sgW gs 1) 0 90))) H'
theorem rng_snoc (f : Nat → Nat) (n : Nat) : RowN.rng f 0 (n + 1) = RowN.rng f 0 n ++ [f n] := by
  unfold RowN.rng
  rw [List.range_succ, List.map_append]
  simp
theorem dpAll_strs {K : PySem.W.Frag} {H : Hp} : ∀ ns : List Str, DpAll K H (ns.map V.str) (ns.map PyData.str)
  | [] => .nil
  | n :: ns => .cons (.str n) (dpAll_strs ns)
theorem lay_strs : ∀ ns : List Str, (∀ s, s ∈ ns → PyData.strOk s = true) → PyData.canLayAll0 (ns.map PyData.str) = true
  | [], _ => by simp [PyData.canLayAll0]
  | n :: ns, h => by simp [PyData.canLayAll0, PyData.canLay0, lay_strs ns fun s hs => h s (List.mem_cons_of_mem _ hs), h n (List.mem_cons_self ..)]
theorem depth_strs : ∀ ns : List Str, PyData.depthAll (ns.map PyData.str) = 0
  | [] => by simp [PyData.depthAll]
  | n :: ns => by simp [PyData.depthAll, PyData.depth, depth_strs ns]
theorem shaped_strs {ns : List Str} (h : ∀ s, s ∈ ns → PyData.strOk s = true) : SeqAt.shaped (.list (ns.map PyData.str)) = true := by
  show (PyData.canLay0 (.list (ns.map PyData.str)) && decide (PyData.depth (.list (ns.map PyData.str)) ≤ 64)) = true
  rw [Bool.and_eq_true]
  refine ⟨by simp only [PyData.canLay0]; exact lay_strs ns h, decide_eq_true ?_⟩
  simp only [PyData.depth, depth_strs]
  omega
theorem eqv_strs_nil (ns : List Str) : PyData.eqv (.list (ns.map PyData.str)) (.list []) = decide (ns = []) := by
  cases ns with
  | nil => simp [PyData.eqv, PyData.eqvAll]
  | cons n ns => simp [PyData.eqv, PyData.eqvAll]
def nearS (gs : List Nat) (n : Nat) : List Nat := (gs.filter fun t => decide (t ≤ n)).map fun t => sgW gs 1 (n - t)
theorem nearS_snoc {gs : List Nat} {l : List Nat} {n i t : Nat} (h : l[i]? = some t) : ((l.take (i + 1)).filter fun t => decide (t ≤ n)).map (fun t => sgW gs 1 (n - t)) = ((l.take i).filter fun t => decide (t ≤ n)).map (fun t => sgW gs 1 (n - t)) ++ (if t ≤ n then [sgW gs 1 (n - t)] else []) := by
  rw [List.take_add_one, h, List.filter_append, List.map_append]
  congr 1
  by_cases c : t ≤ n <;> simp [c]
theorem ok_last_row : FnOk P wd K mg base CX0 1 T.a_last_row T.d_last_row ["_law_game_here", "_law_many"] spLastRow := by
  refine T.F_last_row.ok sc_last_row (fun vs H Q E h => ?_) (fun cdv A outer s H vs Q E hr h => ?_)
  · obtain ⟨ag, gs, rfl, _⟩ := h
    rfl
  · have hu4 : (cxOf CX0 P wd K mg base nm_last_row "_law_last_row" (defScope s_last_row) T.a_last_row cdv A outer s H E).A.units + 64 < cLine := hr.units
    obtain ⟨ag, gs, rfl, hg, G, q⟩ := h
    refine ⟨_, (pss_cons (ps_set (i := 2) sc_last_row.nd rfl (Or.inr rfl) pe_str)
      (pss_cons (ps_for PassesOwn.never rfl (pi_range1 rfl T.n_range (pa_cons (pv 1) pa_nil)) (pg_name (i := 3) sc_last_row.nd rfl (Or.inr rfl)) (pss_cons (ps_setLc (i := 4) (own := [("_law_take", 5)]) rfl sc_last_row.nd rfl rfl (sw_true rfl rfl rfl (by decide +kernel)) (pi_tup (pv 0)) (blkOk_by (N := nm_last_row) (sc := defScope s_last_row) (by decide +kernel)) (fun _ _ _ _ _ => pg_name (i := 5) sc_last_row.nd rfl (Or.inl rfl)) (fun _ _ _ _ _ => pts_one (pt_cmpR op_le (pv 5) (pv 3) (nomark _))) (fun _ _ _ _ _ => (pe_ix ix_str (pv 2) (pe_op op_sub (pv 3) (pv 5)) (fun _ _ => rfl))))
      (pss_one (ps_set (i := 2) sc_last_row.nd rfl (Or.inr rfl) (pe_op op_add_str (pv 2) (pe_ifExp (PW.pt (pw_and (pt_cmpR (op_neD hu4) (pv 4) (pe_lst pa_nil) (nomark _)) (pw_and1 (pt_cmpR op_notIn_seq pe_str (pv 4) (by rfl))))) pe_str pe_str))))))
      (pss_one (ps_ret (pv 2))))), ?_⟩
    walk_at "go"
    refine for_range (lo := 0) (n := 90) (fun n σ H2 => ∃ (y3 y4 : Option V), σ = [some (.ref ag), some (.int 90), some (.str (C (RowN.rng (sgW gs 1) 0 n))), y3, y4, none] ∧ Same H H2) ⟨_, _, rfl, fun _ _ e => e⟩ (fun n σ H2 hi px => ?_) (fun σ H2 px => ?_)
    · obtain ⟨y3, y4, rfl, S⟩ := px
      have hg2 := S _ _ hg
      have rl := RowN.rng_len (sgW gs 1) 0 n
      obtain ⟨nr, enr⟩ : ∃ nr : List Nat → List Nat, nr = fun l => (l.filter fun t => decide (t ≤ n)).map fun t => sgW gs 1 (n - t) := ⟨_, rfl⟩
      have nrl : ∀ l, (nr l).length ≤ l.length := fun l => by
        rw [enr]
        show ((l.filter _).map _).length ≤ _
        rw [List.length_map]
        exact List.length_filter_le ..
      have g8 := G.len
      walk_at "go"
      refine ⟨⟨_, sqT_of hg2⟩, fun D nD => ?_⟩
      refine lc_it walk_tup (fun i H4 => H4 D = some (.lst (((nr (gs.take i)).map fun c => C [c]).map V.str)) ∧ Same H2 H4) ⟨by rw [enr]; exact upd_same, same_new nD⟩ (fun i H4 _ p => sqT_of (p.2 _ _ hg2)) (fun i v H4 H5 hj px yv => ?_) (fun H4 px => ?_)
      · obtain ⟨hD, S4⟩ := px
        obtain ⟨rfl, hv⟩ := yv
        obtain ⟨t, et, rfl⟩ := nV_get hv
        have ht := G.mem t (List.mem_of_getElem? et)
        have ns : nr (gs.take (i + 1)) = nr (gs.take i) ++ (if t ≤ n then [sgW gs 1 (n - t)] else []) := by rw [enr]; exact nearS_snoc et
        have sz : (((nr (gs.take i)).map fun c => C [c]).map V.str).length < sizeLine := by
          have := nrl (gs.take i)
          rw [List.length_take] at this
          rw [List.length_map, List.length_map]
          exact Nat.lt_of_le_of_lt (show _ ≤ 8 by omega) (by decide)
        walk_at "go"
        refine ifD (fun le => ?_) (fun nle => ?_)
        · rw [if_pos (by omega)] at ns
          walk_at "go"
          refine goC_ixS (k := n - t) (by omega) (by omega) (RowN.rng_get (sgW gs 1) 0 n (n - t) (by omega)) ?_
          rw [C_one, Nat.zero_add]
          refine ⟨_, hD, sz, ?_, same_mut S4 nD⟩
          rw [upd_same, ns, List.map_append, List.map_append]
          rfl
        · rw [if_neg (by omega), List.append_nil] at ns
          exact ⟨by rw [ns]; exact hD, S4⟩
      · obtain ⟨hD, S4⟩ := px
        rw [nV_len, List.take_length] at hD
        clear nD
        have e49 : (sgW gs 1 n = 49) ↔ (nr gs ≠ [] ∧ 49 ∉ nr gs) := by
          have o := one_iff G n
          have m49 : ∀ x, (sgW gs 1 x = 49) ↔ wth gs x = 1 := fun x => by
            have := sgW_eq gs 1 x
            exact decide_eq_decide.mp this
          rw [m49, ← o, enr]
          have mem : ∀ c, c ∈ ((gs.filter fun t => decide (t ≤ n)).map fun t => sgW gs 1 (n - t)) ↔ ∃ t, t ∈ gs ∧ t ≤ n ∧ sgW gs 1 (n - t) = c := fun c => by
            rw [List.mem_map]
            constructor
            · rintro ⟨t, ht, e⟩
              obtain ⟨a, b⟩ := List.mem_filter.mp ht
              exact ⟨t, a, of_decide_eq_true b, e⟩
            · rintro ⟨t, a, b, e⟩
              exact ⟨t, List.mem_filter.mpr ⟨a, decide_eq_true b⟩, e⟩
          constructor
          · rintro ⟨⟨t, ht, tn⟩, no⟩
            refine ⟨fun z => ?_, fun z => ?_⟩
            · have := (mem _).mpr ⟨t, ht, tn, rfl⟩
              rw [show ((gs.filter fun t => decide (t ≤ n)).map fun t => sgW gs 1 (n - t)) = [] from z] at this
              cases this
            · obtain ⟨t, ht, tn, e⟩ := (mem _).mp z
              exact no t ht tn ((m49 _).mp e)
          · rintro ⟨ne, no⟩
            obtain ⟨c, hc⟩ := List.exists_mem_of_ne_nil _ ne
            obtain ⟨t, ht, tn, _⟩ := (mem _).mp hc
            exact ⟨⟨t, ht, tn⟩, fun t ht tn e => no ((mem _).mpr ⟨t, ht, tn, (m49 _).mpr e⟩)⟩
        have nl01 : ∀ c, c ∈ nr gs → c = 48 ∨ c = 49 := fun c hc => by
          rw [enr] at hc
          obtain ⟨t, _, rfl⟩ := List.mem_map.mp hc
          unfold sgW
          split <;> simp
        generalize nr gs = nl at hD e49 nl01
        have row := rng_snoc (sgW gs 1) n
        have g2 : sgW gs 1 n = 49 ∨ sgW gs 1 n = 48 := by unfold sgW; split <;> simp
        clear enr nrl g8
        have sok : ∀ s, s ∈ (nl.map fun c => C [c]) → PyData.strOk s = true := fun s hs => by
          obtain ⟨c, hc, rfl⟩ := List.mem_map.mp hs
          rcases nl01 c hc with rfl | rfl <;> decide +kernel
        walk_at "go"
        intro o no
        generalize hU : upd H4 o _ = H5
        obtain ⟨s5, ho⟩ := new_of0 no hU
        replace hD := s5 _ _ hD
        refine ⟨.list ((nl.map fun c => C [c]).map PyData.str), .list [], .lst (sqL_of hD) (dpAll_strs _), .lst (sqL_of ho) .nil, shaped_strs sok, by rfl, ?_⟩
        rw [eqv_strs_nil]
        clear ho hU no
        walk_at "go"
        have S5 := (S.trans S4).trans s5
        have fin : ∀ b : Bool, (sgW gs 1 n = 49 ↔ b = true) → ∀ y3 y4 : Option V, (V.str (C (RowN.rng (sgW gs 1) 0 n) ++ C [if b = true then 49 else 48])) = V.str (C (RowN.rng (sgW gs 1) 0 (n + 1))) := fun b hb _ _ => by
          rw [row, C_app]
          cases b with
          | true => rw [if_pos rfl, hb.mpr rfl]
          | false =>
            rw [if_neg (by decide)]
            rcases g2 with g2 | g2
            · exact absurd (hb.mp g2) (by decide)
            · rw [g2]
        by_cases c0 : nl = []
        · rw [c0]
          refine ifF ?_
          walk_at "go"
          rw [lit0]
          refine ⟨by rw [C_len, C_len, rl]; exact szM (by simp; omega), ?_⟩
          walk_at "go"
          rw [show (C (RowN.rng (sgW gs 1) 0 n) ++ C [48]) = C (RowN.rng (sgW gs 1) 0 (n + 1)) from V.str.inj (fin false ⟨fun z => absurd c0 (e49.mp z).1, fun z => by cases z⟩ none none)]
          exact ⟨_, _, rfl, S5⟩
        · have c1 : decide ((nl.map fun c => C [c]) = []) = false := decide_eq_false fun z => c0 (List.map_eq_nil_iff.mp z)
          rw [c1]
          refine ifT ?_
          walk_at "go"
          refine ⟨D, _, rfl, .inl (sqL_of hD), rfl, List.all_eq_true.mpr fun v hv => (by obtain ⟨k, _, rfl⟩ := List.mem_map.mp hv; rfl), ?_⟩
          rw [if_pos rfl, in_strs]
          have e2 : decide (Str.ofString "1" ∈ nl.map fun c => C [c]) = decide (49 ∈ nl) := by
            rw [lit1]
            refine decide_eq_decide.mpr ⟨fun z => ?_, fun z => List.mem_map.mpr ⟨49, z, rfl⟩⟩
            obtain ⟨c, hc, e⟩ := List.mem_map.mp z
            have := C_inj e
            rw [← (List.cons.inj this).1]
            exact hc
          rw [e2]
          refine ⟨_, rfl, ?_⟩
          by_cases c4 : 49 ∈ nl
          · rw [decide_eq_true c4]
            refine ifF ?_
            walk_at "go"
            rw [lit0]
            refine ⟨by rw [C_len, C_len, rl]; exact szM (by simp; omega), ?_⟩
            walk_at "go"
            rw [show (C (RowN.rng (sgW gs 1) 0 n) ++ C [48]) = C (RowN.rng (sgW gs 1) 0 (n + 1)) from V.str.inj (fin false ⟨fun z => absurd c4 (e49.mp z).2, fun z => by cases z⟩ none none)]
            exact ⟨_, _, rfl, S5⟩
          · rw [decide_eq_false c4]
            refine ifT ?_
            walk_at "go"
            rw [lit1]
            refine ⟨by rw [C_len, C_len, rl]; exact szM (by simp; omega), ?_⟩
            walk_at "go"
            rw [show (C (RowN.rng (sgW gs 1) 0 n) ++ C [49]) = C (RowN.rng (sgW gs 1) 0 (n + 1)) from V.str.inj (fin true ⟨fun _ => rfl, fun _ => e49.mpr ⟨c0, c4⟩⟩ none none)]
            exact ⟨_, _, rfl, S5⟩
    · obtain ⟨y3, y4, rfl, S⟩ := px
      walk_at "go"
      exact q _ S
end
set_option pp.deepTerms false
set_option pp.deepTerms.threshold 5
section
variable {P : Program} {wd : World} {K : PySem.W.Frag} {mg : Str → Option Value} {base : Heap} (T : Tp K mg)
theorem ok_is_whole : FnOk P wd K mg base CX0 1 T.a_is_whole T.d_is_whole ["value", "low", "high"] spWhole := by
  refine T.F_is_whole.ok sc_is_whole (fun vs H Q E h => ?_) (fun cdv A outer s H vs Q E hr h => ?_)
  · obtain ⟨w, g, v, d, lo, hi, rfl, _⟩ := h
    rfl
  · obtain ⟨w, g, v, d, lo, hi, rfl, t, q⟩ := h
    refine ⟨_, (pss_one (ps_ret (pe_and (pe_callB call_isi rfl T.n_isinstance (by decide +kernel) (pa_cons (pv 0) (pa_cons (pe_bltn (v := .ty "int") rfl T.n_int (by decide +kernel) rfl) pa_nil))) (pe_and (pe_not (pe_callB call_isi rfl T.n_isinstance (by decide +kernel) (pa_cons (pv 0) (pa_cons (pe_bltn (v := .ty "bool") rfl T.n_bool (by decide +kernel) rfl) pa_nil)))) (pe_one (pe_chain op_le op_le (pv 1) (pv 0) (pv 2))))))), ?_⟩
    obtain ⟨ty, h1, h2⟩ := t.isInt (K := K)
    obtain ⟨ty', h3, h4⟩ := t.isBool (K := K)
    walk_at "go"
    refine ⟨_, _, ty, _, _, rfl, .ty "int", h1, h2, ?_⟩
    refine ⟨_, rfl, ?_⟩
    cases t with
    | int i =>
      refine ifB (fun _ => ?_) (fun c => by cases c)
      walk_at "go"
      refine ⟨_, _, ty', _, _, rfl, .ty "bool", h3, h4, ?_⟩
      refine ⟨_, rfl, ?_⟩
      refine ⟨_, rfl, ?_⟩
      refine ifB (fun _ => ?_) (fun c => by cases c)
      walk_at "go"
      refine ite2 (fun c => ?_) (fun c => ?_)
      · walk_at "go"
        have e : wholeD lo hi (.int i) = decide (i ≤ hi) := by
          show (decide (lo ≤ i) && decide (i ≤ hi)) = _
          rw [c, Bool.true_and]
        rw [e] at q
        exact q
      · have e : wholeD lo hi (.int i) = false := by
          show (decide (lo ≤ i) && decide (i ≤ hi)) = _
          rw [Bool.eq_false_iff.mpr c, Bool.false_and]
        rw [e] at q
        exact q
    | bl b =>
      refine ifB (fun _ => ?_) (fun c => by cases c)
      walk_at "go"
      refine ⟨_, _, ty', _, _, rfl, .ty "bool", h3, h4, ?_⟩
      refine ⟨_, rfl, ?_⟩
      refine ⟨_, rfl, ?_⟩
      exact ifB (fun c => by cases c) (fun _ => q)
    | _ => exact q
def spAsc : Sp := fun vs H Q _ => ∃ (w g a : Addr) (xs : List V) (ds : List PyData), vs = [.ref a] ∧ H a = some (.tup xs) ∧ ThAll w g H xs ds ∧ Comp ds ∧ ds.length ≤ 300000 ∧ ∀ H', Same H H' → Q (.bl (ascD ds)) H'
theorem ok_is_ascending : FnOk P wd K mg base CX0 1 T.a_is_ascending T.d_is_ascending ["items"] spAsc := by
  refine T.F_is_ascending.ok sc_is_ascending (fun vs H Q E h => ?_) (fun cdv A outer s H vs Q E hr h => ?_)
  · obtain ⟨w, g, a, xs, ds, rfl, _⟩ := h
    rfl
  · obtain ⟨w, g, a, xs, ds, rfl, h, ta, hc, l3, q⟩ := h
    refine ⟨_, (pss_one (ps_ret (pe_callB (cr_all rfl) rfl T.n_all (by decide +kernel) (pa_cons (pe_lc (own := [("low", 1), ("high", 2)]) (g := gTup K 2 (gCons (gName 1) (gCons (gName 2) gNil))) rfl sc_is_ascending.nd (RZ.pi_zipA rfl T.n_zip (pa_cons (pv 0) (pa_cons (pe_slice sl_tupA (pv 0) (po_some pe_int) po_none) pa_nil))) (blkOk_by (N := nm_is_ascending) (sc := defScope s_is_ascending) (by decide +kernel)) (fun _ _ _ _ _ => pg_tup rfl (pgs_cons (pg_name (i := 1) sc_is_ascending.nd rfl (Or.inl rfl) (Or.inr rfl)) (pgs_cons (pg_name (i := 2) sc_is_ascending.nd rfl (Or.inl rfl) (Or.inr rfl)) pgs_nil))) (fun _ _ _ _ _ => pts_nil) (fun _ _ _ _ _ => (pe_cmpR (op_ltX (K := K) rfl hr) (pv 1) (pv 2) (nomark _)))) pa_nil)))), ?_⟩
    have hl := ta.length
    have step : ∀ (T' : Addr) (x y : V) (i : Nat) (H2 : Hp), xs[i]? = some x → (xs.drop 1)[i]? = some y → Same H H2 → ∃ dx dy, dx ∈ ds ∧ dy ∈ ds ∧ Th w g H2 x dx ∧ Th w g H2 y dy ∧ (adj ds).take (i + 1) = (adj ds).take i ++ [ltD dx dy] := fun T' x y i H2 hx hy S => by
      obtain ⟨dx, hdx, tx⟩ := ta.get hx
      obtain ⟨dy, hdy, ty⟩ := (ta.drop 1).get hy
      exact ⟨dx, dy, List.mem_of_getElem? hdx, List.mem_of_mem_drop (List.mem_of_getElem? hdy), tx.same2 S, ty.same2 S, adj_take hdx hdy⟩
    have la := adj_len ds
    walk_at "go"
    refine no_part ?_
    refine sl_all h fun c H1 s1 h1 => ?_
    rw [cutV_one] at h1
    have h0 := s1 _ _ h
    refine ⟨a, c, xs, xs.drop 1, rfl, .inr ⟨sqT_of h0, sqT_of h1, fun D nD => ?_⟩⟩
    refine lc_it (walk_zipT rfl) (fun i H2 => H2 D = some (.lst (((adj ds).take i).map V.bl)) ∧ Same H1 H2) ⟨upd_same, same_new nD⟩
      (fun i H2 _ p => ⟨sqT_of (p.2 _ _ h0), sqT_of (p.2 _ _ h1)⟩) (fun i x H2 H3 hi p y => ?_) (fun H2 p => ?_)
    · obtain ⟨hD, S⟩ := p
      obtain ⟨T', x, y, rfl, hT, rfl, hx, hy⟩ := y
      generalize hU2 : upd H2 T' _ = H4
      obtain ⟨s4, hT4⟩ := new_of0 hT hU2
      have hD4 := s4 _ _ hD
      obtain ⟨dx, dy, mx, my, tx, ty, e⟩ := step T' x y i H4 hx hy ((s1.trans S).trans s4)
      walk_at "go"
      refine lt_go hc mx my tx ty ?_
      refine ⟨_, hD4, szl2 (by rw [List.length_map, List.length_take]; omega), ?_, same_mut (S.trans s4) nD⟩
      rw [upd_same, e, List.map_append]
      rfl
    · obtain ⟨hD, S⟩ := p
      rw [List.take_of_length_le (by rw [la, List.length_drop, ← hl]; omega)] at hD
      walk_at "go"
      exact ⟨D, adj ds, rfl, sqL_of hD, q H2 (s1.trans S)⟩
/-- is a thing a game -/
def gameD : PyData → Bool
  | .tuple ds => decide (1 ≤ ds.length ∧ ds.length ≤ 8) && (ds.all (wholeD 1 8) && ascD ds)
  | _ => false
theorem comp_whole {ds : List PyData} {lo hi : Int} (h : ds.all (wholeD lo hi) = true) : Comp ds := .inl fun d hd => by
  obtain ⟨i, rfl, _⟩ := whole_int (List.all_eq_true.mp h d hd)
  exact ⟨i, rfl⟩
def spGErr : Sp := fun vs H Q _ => ∃ (w g : Addr) (v : V) (d : PyData), vs = [v] ∧ Th w g H v d ∧ d.weight ≤ 300000 ∧ ∀ H', Same H H' → Q (if gameD d = true then .non else .str (Str.ofString "game")) H'
theorem ok_game_error : FnOk P wd K mg base CX0 2 T.a_game_error T.d_game_error ["value"] spGErr := by
  have G_is_whole : FnOk P wd K mg base CX0 1 T.a_is_whole T.d_is_whole ["value", "low", "high"] spWhole := ok_is_whole T
  have G_is_ascending : FnOk P wd K mg base CX0 1 T.a_is_ascending T.d_is_ascending ["items"] spAsc := ok_is_ascending T
  refine T.F_game_error.ok sc_game_error (fun vs H Q E h => ?_) (fun cdv A outer s H vs Q E hr h => ?_)
  · obtain ⟨w, g, v, d, rfl, _⟩ := h
    rfl
  · obtain ⟨w, g, v, d, rfl, t, wt, q⟩ := h
    refine ⟨_, (pss_cons (ps_if (PW.pt (pw_or (pt_not (pt_val (pe_callB call_isi rfl T.n_isinstance (by decide +kernel) (pa_cons (pv 0) (pa_cons (pe_bltn (v := .ty "tuple") rfl T.n_tuple (by decide +kernel) rfl) pa_nil))))) (pw_or1 (pt_not (pt_chain op_le op_le pe_int (pe_callB call_len_seq rfl T.n_len PySem.boot_len (pa_cons (pv 0) pa_nil)) (pe_glob (v := .int 8) rfl T.m__MOST_TAKES ⟨_, rfl⟩)))))) (pss_one (ps_ret pe_str)) pss_nil)
      (pss_cons (ps_if (PW.pt (pw_or (pt_not (pt_truth (pe_callB (cr_all rfl) rfl T.n_all (by decide +kernel) (pa_cons (pe_lc (own := [("take", 1)]) rfl sc_game_error.nd (pi_tup (pv 0)) (blkOk_by (N := nm_game_error) (sc := defScope s_game_error) (by decide +kernel)) (fun _ _ _ _ _ => pg_name (i := 1) sc_game_error.nd rfl (Or.inl rfl)) (fun _ _ _ _ _ => pts_nil) (fun _ _ _ _ _ => (pe_call G_is_whole hr rfl T.g_is_whole T.F_is_whole.kp (b_is_whole T) .nil pass0 (pa_cons (pv 1) (pa_cons pe_int (pa_cons (pe_glob (v := .int 8) rfl T.m_MAX_TAKE ⟨_, rfl⟩) pa_nil)))))) pa_nil)) (by intro _; rfl))) (pw_or1 (pt_not (pt_val (pe_call G_is_ascending hr rfl T.g_is_ascending T.F_is_ascending.kp (b_is_ascending T) .nil pass0 (pa_cons (pv 0) pa_nil))))))) (pss_one (ps_ret pe_str)) pss_nil)
      (pss_one (ps_ret pe_non)))), ?_⟩
    obtain ⟨ty, h1, h2⟩ := t.isTup (K := K)
    walk_at "go"
    refine ⟨_, _, ty, _, _, rfl, .ty "tuple", h1, h2, ?_⟩
    refine ⟨_, rfl, ?_⟩
    cases t with
    | tup h ta =>
      rename_i a xs ds
      refine ifB (fun c => by cases c) (fun _ => ?_)
      have hl := ta.length
      have wl := wt_len ds
      simp only [PyData.weight] at wt
      replace q : ∀ H', Same H H' → Q (if (decide (1 ≤ ds.length ∧ ds.length ≤ 8) && (ds.all (wholeD 1 8) && ascD ds)) = true then .non else .str (Str.ofString "game")) H' := q
      have bad : ∀ H', Same H H' → (decide (1 ≤ ds.length ∧ ds.length ≤ 8) && (ds.all (wholeD 1 8) && ascD ds)) = false → Q (.str (Str.ofString "game")) H' := fun H' s e => by
        have := q H' s
        rwa [e, if_neg (by decide)] at this
      walk_at "go"
      refine ite2 (fun c1 => ?_) (fun n1 => ?_)
      · rw [decide_eq_true_eq] at c1
        walk_at "go"
        refine ifDn (fun c2 => ?_) (fun n2 => ?_)
        · walk_at "go"
          refine bad H Same.rfl' ?_
          rw [decide_eq_false (by omega), Bool.false_and]
        · have lb : decide (1 ≤ ds.length ∧ ds.length ≤ 8) = true := decide_eq_true (by omega)
          rw [lb, Bool.true_and] at bad
          replace q : ∀ H', Same H H' → (ds.all (wholeD 1 8) && ascD ds) = true → Q .non H' := fun H' s e => by
            have := q H' s
            rwa [lb, Bool.true_and, if_pos e] at this
          walk_at "go"
          refine ⟨⟨_, sqT_of h⟩, fun D nD => ?_⟩
          refine lc_it walk_tup (fun i H2 => H2 D = some (.lst ((ds.take i).map fun d => V.bl (wholeD 1 8 d))) ∧ Same H H2) ⟨upd_same, same_new nD⟩
            (fun i H2 _ p => sqT_of (p.2 _ _ h)) (fun i x H2 H3 hi p y => ?_) (fun H2 p => ?_)
          · obtain ⟨hD, S⟩ := p
            obtain ⟨rfl, hx⟩ := y
            obtain ⟨d, hd, td⟩ := ta.get hx
            walk_at "go"
            refine ⟨w, g, x, d, _, _, rfl, td.same2 S, ?_⟩
            refine ⟨_, hD, szl2 (by rw [List.length_map, List.length_take]; omega), ?_, same_mut S nD⟩
            rw [upd_same, List.take_add_one, hd, List.map_append]
            rfl
          · obtain ⟨hD, S⟩ := p
            rw [hl, List.take_length] at hD
            refine ⟨D, ds.map (wholeD 1 8), rfl, sqL_of (by rw [List.map_map]; exact hD), ?_⟩
            rw [List.all_map]
            have e : ds.all (id ∘ wholeD 1 8) = ds.all (wholeD 1 8) := rfl
            rw [e]
            refine ⟨_, rfl, ?_⟩
            cases r : ds.all (wholeD 1 8) with
            | false =>
              rw [r, Bool.false_and] at bad
              walk_at "go"
              exact bad H2 S rfl
            | true =>
              rw [r, Bool.true_and] at bad q
              walk_at "go"
              refine ⟨w, g, a, xs, ds, rfl, S _ _ h, ta.same2 S, comp_whole r, by omega, fun H3 s3 => ?_⟩
              refine ⟨_, rfl, ?_⟩
              cases as : ascD ds with
              | false =>
                walk_at "go"
                exact bad H3 (S.trans s3) as
              | true =>
                walk_at "go"
                exact q H3 (S.trans s3) as
      · walk_at "go"
        refine bad H Same.rfl' ?_
        rw [decide_eq_false (fun c => n1 (decide_eq_true (by omega))), Bool.false_and]
    | _ =>
      refine ifB (fun _ => ?_) (fun c => by cases c)
      walk_at "go"
      exact q H Same.rfl'
theorem whole_int {d : PyData} (h : wholeD 1 8 d = true) : ∃ z : Int, d = .int z ∧ 1 ≤ z ∧ z ≤ 8 := by
  cases d with
  | int z =>
    have e : (decide (1 ≤ z) && decide (z ≤ 8)) = true := h
    rw [Bool.and_eq_true] at e
    exact ⟨z, rfl, of_decide_eq_true e.1, of_decide_eq_true e.2⟩
  | _ => cases h
theorem asc_len {ds : List PyData} (r : ds.all (wholeD 1 8) = true) (as : ascD ds = true) : ds.length ≤ 8 := by
  have all : ∀ d, d ∈ ds → ∃ z : Int, d = .int z ∧ 1 ≤ z ∧ z ≤ 8 := fun d hd => whole_int (List.all_eq_true.mp r d hd)
  have key : ∀ i, i < ds.length → ∃ z : Int, ds[i]? = some (.int z) ∧ (i : Int) + 1 ≤ z ∧ z ≤ 8 := by
    intro i
    induction i with
    | zero =>
      intro h0
      obtain ⟨z, e, a, b⟩ := all ds[0] (List.getElem_mem h0)
      exact ⟨z, by rw [List.getElem?_eq_getElem h0, e], by omega, b⟩
    | succ i ih =>
      intro h1
      obtain ⟨z, e, a, b⟩ := ih (by omega)
      obtain ⟨z2, e2, a2, b2⟩ := all ds[i + 1] (List.getElem_mem h1)
      have g2 : ds[i + 1]? = some (.int z2) := by rw [List.getElem?_eq_getElem h1, e2]
      have ad := adj_get e (show (ds.drop 1)[i]? = some (.int z2) by rw [List.getElem?_drop, Nat.add_comm]; exact g2)
      have lt := List.all_eq_true.mp as _ (List.mem_of_getElem? ad)
      have lt2 : decide (z < z2) = true := lt
      have := of_decide_eq_true lt2
      exact ⟨z2, g2, by omega, b2⟩
  refine Nat.le_of_not_lt fun c => ?_
  obtain ⟨z, _, a, b⟩ := key 8 c
  omega
def spLGame : Sp := fun vs H Q _ => ∃ (w g : Addr) (v : V) (d : PyData), vs = [v] ∧ Th w g H v d ∧ d.weight ≤ 300000 ∧ ∀ H', Same H H' → Q (.bl (gameD d)) H'
theorem ok_lis_game : FnOk P wd K mg base CX0 1 T.a_lis_game T.d_lis_game ["_law_value"] spLGame := by
  refine T.F_lis_game.ok sc_lis_game (fun vs H Q E h => ?_) (fun cdv A outer s H vs Q E hr h => ?_)
  · obtain ⟨w, g, v, d, rfl, _⟩ := h
    rfl
  · have hu4 : (cxOf CX0 P wd K mg base nm_lis_game "_law_is_game" (defScope s_lis_game) T.a_lis_game cdv A outer s H E).A.units + 64 < cLine := hr.units
    obtain ⟨w, g, v, d, rfl, t, wt, q⟩ := h
    refine ⟨_, (pss_cons (ps_if (PW.pt (pw_or (pt_not (pt_val (pe_callB call_isi rfl T.n_isinstance (by decide +kernel) (pa_cons (pv 0) (pa_cons (pe_bltn (v := .ty "tuple") rfl T.n_tuple (by decide +kernel) rfl) pa_nil))))) (pw_or1 (pt_cmpR (op_eqT0 hu4) (pv 0) (pe_tup pa_nil) (nomark _))))) (pss_one (ps_ret pe_bl)) pss_nil)
      (pss_cons (ps_if (pt_cmpR (op_neD hu4) (pe_lc (own := [("_law_own", 1)]) rfl sc_lis_game.nd (pi_tup (pv 0)) (blkOk_by (N := nm_lis_game) (sc := defScope s_lis_game) (by decide +kernel)) (fun _ _ _ _ _ => pg_name (i := 1) sc_lis_game.nd rfl (Or.inl rfl)) (fun _ _ _ _ _ => pts_one (PW.pt (pw_or (pt_not (pt_val (pe_callB (call_isi_K (K := K) rfl) rfl T.n_isinstance (by decide +kernel) (pa_cons (pv 1) (pa_cons (pe_bltn (v := .ty "int") rfl T.n_int (by decide +kernel) rfl) pa_nil))))) (pw_or (pt_val (pe_callB (call_isi_K (K := K) rfl) rfl T.n_isinstance (by decide +kernel) (pa_cons (pv 1) (pa_cons (pe_bltn (v := .ty "bool") rfl T.n_bool (by decide +kernel) rfl) pa_nil)))) (pw_or1 (pt_not (pt_chain op_le op_le pe_int (pv 1) pe_int))))))) (fun _ _ _ _ _ => pe_int)) (pe_lst pa_nil) (nomark _)) (pss_one (ps_ret pe_bl)) pss_nil)
      (pss_one (ps_ret (pe_cmpR (op_eqD hu4) (pe_lc (own := [("_law_own", 1), ("_law_later", 2)]) (g := gTup K 2 (gCons (gName 1) (gCons (gName 2) gNil))) rfl sc_lis_game.nd (RZ.pi_zipA rfl T.n_zip (pa_cons (pv 0) (pa_cons (pe_slice sl_tupA (pv 0) (po_some pe_int) po_none) pa_nil))) (blkOk_by (N := nm_lis_game) (sc := defScope s_lis_game) (by decide +kernel)) (fun _ _ _ _ _ => pg_tup rfl (pgs_cons (pg_name (i := 1) sc_lis_game.nd rfl (Or.inl rfl) (Or.inr rfl)) (pgs_cons (pg_name (i := 2) sc_lis_game.nd rfl (Or.inl rfl) (Or.inr rfl)) pgs_nil))) (fun _ _ _ _ _ => pts_one (pt_cmpR op_ge (pv 1) (pv 2) (nomark _))) (fun _ _ _ _ _ => pe_int)) (pe_lst pa_nil) (nomark _)))))), ?_⟩
    obtain ⟨ty, h1, h2⟩ := t.isTup (K := K)
    walk_at "go"
    refine ⟨_, _, ty, _, _, rfl, .ty "tuple", h1, h2, ?_⟩
    refine ⟨_, rfl, ?_⟩
    cases t with
    | tup h ta =>
      rename_i a xs ds
      refine ifB (fun c => by cases c) (fun _ => ?_)
      have hl := ta.length
      have wl := wt_len ds
      simp only [PyData.weight] at wt
      replace q : ∀ H', Same H H' → Q (.bl (decide (1 ≤ ds.length ∧ ds.length ≤ 8) && (ds.all (wholeD 1 8) && ascD ds))) H' := q
      walk_at "go"
      intro p0 np0
      generalize hU0 : upd H p0 _ = H0
      obtain ⟨s0, hp0⟩ := new_of0 np0 hU0
      refine ⟨a, p0, xs, rfl, rfl, sqT_of (s0 _ _ h), sqT_of hp0, ?_⟩
      refine ⟨_, rfl, ?_⟩
      have h' := s0 _ _ h
      by_cases hd0 : ds.length = 0
      · have x0 : xs = [] := List.length_eq_zero_iff.mp (by omega)
        subst x0
        refine ifB (fun _ => ?_) (fun c => by cases c)
        walk_at "go"
        have := q H0 s0
        rwa [decide_eq_false (by omega), Bool.false_and] at this
      · have xe : xs.isEmpty = false := by
          cases xs with
          | nil => simp at hl; omega
          | cons v0 vr => rfl
        rw [xe]
        refine ifB (fun c => by cases c) (fun _ => ?_)
        walk_at "go"
        refine ⟨⟨_, sqT_of h'⟩, fun D nD => ?_⟩
        refine lc_it walk_tup (fun i H2 => H2 D = some (.lst ((ones (ds.take i) (wholeD 1 8)).map V.int)) ∧ Same H0 H2) ⟨upd_same, same_new nD⟩
          (fun i H2 _ p => sqT_of (p.2 _ _ h')) (fun i x H2 H3 hi p y => ?_) (fun H2 p => ?_)
        · obtain ⟨hD, S⟩ := p
          obtain ⟨rfl, hx⟩ := y
          obtain ⟨d, hd, td0⟩ := ta.get hx
          have td := (td0.same2 s0).same2 S
          have le := ones_len (ds := ds) (p := wholeD 1 8) (i := i)
          obtain ⟨ty1, k1, k2⟩ := td.isInt (K := K)
          obtain ⟨ty2, k3, k4⟩ := td.isBool (K := K)
          have sz : ((ones (ds.take i) (wholeD 1 8)).map V.int).length < sizeLine := szl2 (by rw [List.length_map]; omega)
          have badE : wholeD 1 8 d = false → ∃ us, H3 D = some (.lst us) ∧ us.length < sizeLine ∧ (upd H3 D (.lst (us ++ [V.int 1]))) D = some (.lst ((ones (ds.take (i + 1)) (wholeD 1 8)).map V.int)) ∧ Same H0 (upd H3 D (.lst (us ++ [V.int 1]))) := fun e =>
            ⟨_, hD, sz, by rw [upd_same, ones_bad hd e, List.map_append]; rfl, same_mut S nD⟩
          have okE : wholeD 1 8 d = true → H3 D = some (.lst ((ones (ds.take (i + 1)) (wholeD 1 8)).map V.int)) ∧ Same H0 H3 := fun e => ⟨by rw [hD, ones_ok hd e], S⟩
          walk_at "go"
          refine ⟨_, _, ty1, _, _, rfl, .ty "int", k1, k2, ?_⟩
          refine ⟨_, rfl, ?_⟩
          cases td with
          | int n =>
            refine ifB (fun c => by cases c) (fun _ => ?_)
            walk_at "go"
            refine ⟨_, _, ty2, _, _, rfl, .ty "bool", k3, k4, ?_⟩
            refine ⟨_, rfl, ?_⟩
            refine ifB (fun c => by cases c) (fun _ => ?_)
            walk_at "go"
            refine ite2 (fun c1 => ?_) (fun n1 => ?_)
            · rw [decide_eq_true_eq] at c1
              walk_at "go"
              refine ifDn (fun c2 => ?_) (fun c2 => ?_)
              · walk_at "go"
                refine badE ?_
                show (decide (1 ≤ n) && decide (n ≤ 8)) = false
                rw [decide_eq_false c2, Bool.and_false]
              · refine okE ?_
                show (decide (1 ≤ n) && decide (n ≤ 8)) = true
                rw [decide_eq_true c1, decide_eq_true c2]
                rfl
            · walk_at "go"
              refine badE ?_
              show (decide (1 ≤ n) && decide (n ≤ 8)) = false
              rw [Bool.eq_false_iff.mpr n1, Bool.false_and]
          | bl b =>
            refine ifB (fun c => by cases c) (fun _ => ?_)
            walk_at "go"
            refine ⟨_, _, ty2, _, _, rfl, .ty "bool", k3, k4, ?_⟩
            refine ⟨_, rfl, ?_⟩
            refine ifB (fun _ => ?_) (fun c => by cases c)
            walk_at "go"
            exact badE rfl
          | _ =>
            refine ifB (fun _ => ?_) (fun c => by cases c)
            walk_at "go"
            exact badE rfl
        · obtain ⟨hD, S⟩ := p
          rw [hl, List.take_length] at hD
          clear nD
          walk_at "go"
          intro o no
          generalize hU : upd H2 o _ = H3
          obtain ⟨s3, ho⟩ := new_of0 no hU
          refine ⟨.list ((ones ds (wholeD 1 8)).map PyData.int), .list [], .lst (sqL_of (s3 _ _ hD)) (dpAll_ints _), .lst (sqL_of ho) .nil, shaped_ints _, by rfl, ?_⟩
          rw [eqv_ints_nil, ones_all]
          have S3 := (s0.trans S).trans s3
          clear ho hU no hD
          walk_at "go"
          cases r : ds.all (wholeD 1 8) with
          | false =>
            refine ifT ?_
            walk_at "go"
            have := q _ S3
            rwa [r, Bool.false_and, Bool.and_false] at this
          | true =>
            refine ifF ?_
            have h3 := S3 _ _ h
            have step : ∀ (x y : V) (i : Nat), xs[i]? = some x → (xs.drop 1)[i]? = some y → ∃ z1 z2 : Int, x = .int z1 ∧ y = .int z2 ∧ (adj ds)[i]? = some (decide (z1 < z2)) := fun x y i hx hy => by
              obtain ⟨dx, hdx, tx⟩ := ta.get hx
              obtain ⟨dy, hdy, ty⟩ := (ta.drop 1).get hy
              obtain ⟨z1, rfl, _⟩ := whole_int (List.all_eq_true.mp r dx (List.mem_of_getElem? hdx))
              obtain ⟨z2, rfl, _⟩ := whole_int (List.all_eq_true.mp r dy (List.mem_of_mem_drop (List.mem_of_getElem? hdy)))
              cases tx
              cases ty
              exact ⟨z1, z2, rfl, rfl, adj_get hdx hdy⟩
            have la := adj_len ds
            walk_at "go"
            refine no_part ?_
            refine sl_all h3 fun c H4 s4 h4 => ?_
            rw [cutV_one] at h4
            have h5 := s4 _ _ h3
            refine ⟨a, c, xs, xs.drop 1, rfl, .inr ⟨sqT_of h5, sqT_of h4, fun D2 nD2 => ?_⟩⟩
            refine lc_it (walk_zipT rfl) (fun i H2 => H2 D2 = some (.lst ((ones ((adj ds).take i) id).map V.int)) ∧ Same H4 H2) ⟨upd_same, same_new nD2⟩
              (fun i H2 _ p => ⟨sqT_of (p.2 _ _ h5), sqT_of (p.2 _ _ h4)⟩) (fun i x H2 H3 hi p y => ?_) (fun H2 p => ?_)
            · obtain ⟨hD2, S5⟩ := p
              obtain ⟨T', x, y, rfl, hT, rfl, hx, hy⟩ := y
              generalize hU2 : upd H2 T' _ = H6
              obtain ⟨s6, hT6⟩ := new_of0 hT hU2
              have hD6 := s6 _ _ hD2
              obtain ⟨z1, z2, rfl, rfl, e⟩ := step x y i hx hy
              have le := ones_len (ds := adj ds) (p := id) (i := i)
              walk_at "go"
              refine ifD (fun ge => ?_) (fun lt => ?_)
              · walk_at "go"
                refine ⟨_, hD6, szl2 (by rw [List.length_map]; omega), ?_, same_mut (S5.trans s6) nD2⟩
                rw [upd_same, ones_bad e (by show decide (z1 < z2) = false; exact decide_eq_false (by omega)), List.map_append]
                rfl
              · refine ⟨?_, S5.trans s6⟩
                rw [hD6, ones_ok e (by show decide (z1 < z2) = true; exact decide_eq_true (by omega))]
            · obtain ⟨hD2, S5⟩ := p
              rw [List.take_of_length_le (by rw [la, List.length_drop, ← hl]; omega)] at hD2
              walk_at "go"
              intro o no
              generalize hU : upd H2 o _ = H6
              obtain ⟨s6, ho⟩ := new_of0 no hU
              refine ⟨.list ((ones (adj ds) id).map PyData.int), .list [], .lst (sqL_of (s6 _ _ hD2)) (dpAll_ints _), .lst (sqL_of ho) .nil, shaped_ints _, by rfl, ?_⟩
              rw [eqv_ints_nil, ones_all]
              have q1 := q H6 (((S3.trans s4).trans S5).trans s6)
              rw [r, Bool.true_and] at q1
              have ea : (decide (1 ≤ ds.length ∧ ds.length ≤ 8) && ascD ds) = ascD ds := by
                cases as : ascD ds with
                | false => rw [Bool.and_false]
                | true => rw [decide_eq_true ⟨by omega, asc_len r as⟩]; rfl
              rw [ea] at q1
              exact q1
    | _ =>
      refine ifB (fun _ => ?_) (fun c => by cases c)
      walk_at "go"
      exact q H Same.rfl'
end
set_option pp.deepTerms false
set_option pp.deepTerms.threshold 5
section
variable {P : Program} {wd : World} {K : PySem.W.Frag} {mg : Str → Option Value} {base : Heap} (T : Tp K mg)
def spNo : Sp := fun _ _ _ _ => False
theorem ok_no {L : Nat} {a : Addr} {d : FuncData} {ps : List Str} : FnOk P wd K mg base CX0 L a d ps spNo :=
  ⟨fun vs H Q E h => h.elim, fun A ou s H args us vs Q E _ _ _ _ h => h.elim⟩
def spFits : Sp := fun vs H Q _ => ∃ (w g : Addr) (v : V) (d : PyData), vs = [.str (Str.ofString "game"), v] ∧ Th w g H v d ∧ d.weight ≤ 300000 ∧ ∀ H', Same H H' → Q (.bl (gameD d)) H'
theorem ok_fits_one : FnOk P wd K mg base CX0 5 T.a_fits_one T.d_fits_one ["kind", "item"] spFits := by
  have G_table_error : FnOk P wd K mg base CX0 2 T.a_table_error T.d_table_error ["value"] spNo := ok_no
  have G_is_least : FnOk P wd K mg base CX0 3 T.a_is_least T.d_is_least ["table"] spNo := ok_no
  have G_watches_error : FnOk P wd K mg base CX0 3 T.a_watches_error T.d_watches_error ["value"] spNo := ok_no
  have G_purse_error : FnOk P wd K mg base CX0 4 T.a_purse_error T.d_purse_error ["value"] spNo := ok_no
  have G_web_error : FnOk P wd K mg base CX0 4 T.a_web_error T.d_web_error ["value"] spNo := ok_no
  have G_game_error : FnOk P wd K mg base CX0 2 T.a_game_error T.d_game_error ["value"] spGErr := ok_game_error T
  refine T.F_fits_one.ok sc_fits_one (fun vs H Q E h => ?_) (fun cdv A outer s H vs Q E hr h => ?_)
  · obtain ⟨w, g, v, d, rfl, _⟩ := h
    rfl
  · have hu4 : (cxOf CX0 P wd K mg base nm_fits_one "_fits_one" (defScope s_fits_one) T.a_fits_one cdv A outer s H E).A.units + 64 < cLine := hr.units
    obtain ⟨w, g, v, d, rfl, t, wt, q⟩ := h
    refine ⟨_, (pss_cons (ps_if (pt_cmpR op_eq (pv 0) pe_str (nomark _)) (pss_one (ps_ret (pe_and (pe_cmpR op_isN (pe_call G_table_error (hr.mono (by decide)) rfl T.g_table_error T.F_table_error.kp (b_table_error T) .nil pass0 (pa_cons (pv 1) pa_nil)) pe_non (nomark _)) (pe_one (pe_call G_is_least (hr.mono (by decide)) rfl T.g_is_least T.F_is_least.kp (b_is_least T) .nil pass0 (pa_cons (pv 1) pa_nil)))))) pss_nil)
      (pss_cons (ps_if (pt_cmpR op_eq (pv 0) pe_str (nomark _)) (pss_one (ps_ret (pe_cmpR op_isN (pe_call G_watches_error (hr.mono (by decide)) rfl T.g_watches_error T.F_watches_error.kp (b_watches_error T) .nil pass0 (pa_cons (pv 1) pa_nil)) pe_non (nomark _)))) pss_nil)
      (pss_cons (ps_if (pt_cmpR op_eq (pv 0) pe_str (nomark _)) (pss_one (ps_ret (pe_cmpR op_isN (pe_call G_purse_error hr rfl T.g_purse_error T.F_purse_error.kp (b_purse_error T) .nil pass0 (pa_cons (pv 1) pa_nil)) pe_non (nomark _)))) pss_nil)
      (pss_cons (ps_if (pt_cmpR op_eq (pv 0) pe_str (nomark _)) (pss_one (ps_ret (pe_cmpR op_isN (pe_call G_web_error hr rfl T.g_web_error T.F_web_error.kp (b_web_error T) .nil pass0 (pa_cons (pv 1) pa_nil)) pe_non (nomark _)))) pss_nil)
      (pss_one (ps_ret (pe_cmpR op_isN (pe_call G_game_error (hr.mono (by decide)) rfl T.g_game_error T.F_game_error.kp (b_game_error T) .nil pass0 (pa_cons (pv 1) pa_nil)) pe_non (nomark _)))))))), ?_⟩
    walk_at "go"
    refine ⟨w, g, v, d, rfl, t, wt, fun H1 s1 => ?_⟩
    have q1 := q H1 s1
    cases hg : gameD d with
    | true =>
      rw [hg] at q1
      walk_at "go"
      exact q1
    | false =>
      rw [hg] at q1
      walk_at "go"
      exact q1
def IB : List (Str × Int) := [(("table" : Str), 1), (("watches" : Str), 1), (("coins" : Str), 1), (("web" : Str), 1), (("game" : Str), 1), (("book" : Str), 2), (("game" : Str), 2), (("row" : Str), 2), (("saying" : Str), 2)]
def spWrong : Sp := fun vs H Q _ => ∃ (w g a b : Addr) (v : V) (d : PyData), vs = [.ref a, .ref b] ∧ H a = some (.tup []) ∧ H b = some (.tup [.str (Str.ofString "game"), v]) ∧ Th w g H v d ∧ d.weight ≤ 300000 ∧
  ∀ H', Same H H' → Q (if gameD d = true then .non else .str (Str.ofString "game")) H'
theorem ok_wrong_word (hwd : wd.params = T.pr) : FnOk P wd K mg base CX0 6 T.a_wrong_word T.d_wrong_word ["path", "thing"] spWrong := by
  have G_fits_two : FnOk P wd K mg base CX0 5 T.a_fits_two T.d_fits_two ["kind", "item", "other"] spNo := ok_no
  have G_fits_one : FnOk P wd K mg base CX0 5 T.a_fits_one T.d_fits_one ["kind", "item"] spFits := ok_fits_one T
  refine T.F_wrong_word.ok sc_wrong_word (fun vs H Q E h => ?_) (fun cdv A outer s H vs Q E hr h => ?_)
  · obtain ⟨w, g, a, b, v, d, rfl, _⟩ := h
    rfl
  · have hu4 : (cxOf CX0 P wd K mg base nm_wrong_word "_wrong_word" (defScope s_wrong_word) T.a_wrong_word cdv A outer s H E).A.units + 64 < cLine := hr.units
    obtain ⟨w, g, a, b, v, d, rfl, ha, hb, t, wt, q⟩ := h
    refine ⟨_, (pss_cons (ps_if (pt_cmpR op_gt (pe_callB call_len_seq rfl T.n_len PySem.boot_len (pa_cons (pv 0) pa_nil)) (pe_glob (v := .int 2) rfl T.m__MOST_PATH ⟨_, rfl⟩) (nomark _)) (pss_one (ps_ret pe_str)) pss_nil)
      (pss_cons (ps_if (PW.pt (pw_or (pt_not (pt_val (pe_callB call_isi rfl T.n_isinstance (by decide +kernel) (pa_cons (pv 1) (pa_cons (pe_bltn (v := .ty "tuple") rfl T.n_tuple (by decide +kernel) rfl) pa_nil))))) (pw_or (pt_cmpR op_eq (pe_callB call_len_seq rfl T.n_len PySem.boot_len (pa_cons (pv 1) pa_nil)) pe_int (nomark _)) (pw_or1 (pt_not (pt_val (pe_callB call_isi rfl T.n_isinstance (by decide +kernel) (pa_cons (pe_ix ix_tup (pv 1) pe_int (fun _ _ => rfl)) (pa_cons (pe_bltn (v := .ty "str") rfl T.n_str (by decide +kernel) rfl) pa_nil))))))))) (pss_one (ps_ret pe_str)) pss_nil)
      (pss_cons (ps_set (i := 2) sc_wrong_word.nd rfl (Or.inl rfl) (pe_ix ix_tup (pv 1) pe_int (fun _ _ => rfl)))
      (pss_cons (ps_if (PW.pt (pw_or (pt_cmpR (op_notIn_kd (T.D__ITEMS_BEHIND _ hwd)) (pv 2) (pe_glob (v := .ref T.a__ITEMS_BEHIND) rfl T.m__ITEMS_BEHIND rfl) (by rfl)) (pw_or1 (pt_cmpR op_ne (pe_callB call_len_seq rfl T.n_len PySem.boot_len (pa_cons (pv 1) pa_nil)) (pe_op op_add (pe_ix ix_kdict (pe_glob (v := .ref T.a__ITEMS_BEHIND) rfl T.m__ITEMS_BEHIND rfl) (pv 2) (fun _ _ => rfl)) pe_int) (nomark _))))) (pss_one (ps_ret pe_str)) pss_nil)
      (pss_cons (ps_set (i := 3) sc_wrong_word.nd rfl (Or.inl rfl) (pe_ifExp (pt_cmpR op_eq (pe_callB call_len_seq rfl T.n_len PySem.boot_len (pa_cons (pv 1) pa_nil)) pe_int (nomark _)) (pe_call G_fits_one hr rfl T.g_fits_one T.F_fits_one.kp (b_fits_one T) .nil pass0 (pa_cons (pv 2) (pa_cons (pe_ix ix_tup (pv 1) pe_int (fun _ _ => rfl)) pa_nil))) (pe_call G_fits_two hr rfl T.g_fits_two T.F_fits_two.kp (b_fits_two T) .nil pass0 (pa_cons (pv 2) (pa_cons (pe_ix ix_tup (pv 1) pe_int (fun _ _ => rfl)) (pa_cons (pe_ix ix_tup (pv 1) pe_int (fun _ _ => rfl)) pa_nil))))))
      (pss_one (ps_ret (pe_ifExp (pt_val (pv 3)) pe_non (pv 2))))))))), ?_⟩
    obtain ⟨r, hr1, hr2⟩ := T.L__ITEMS_BEHIND (Str.ofString "game")
    replace hr2 : match IB.lookup (Str.ofString "game") with | none => r = none | some k => ∃ t, r = some (.int k t) := hr2
    rw [show IB.lookup (Str.ofString "game") = some 1 by decide +kernel] at hr2
    obtain ⟨t0, rfl⟩ := hr2
    have hK := T.D__ITEMS_BEHIND wd hwd
    have tT : Th w g H (.ref b) (.tuple [.str (Str.ofString "game"), d]) := .tup hb (.cons (.str _) (.cons t .nil))
    obtain ⟨ty, h1, h2⟩ := tT.isTup (K := K)
    obtain ⟨ty3, h3, h4⟩ := (Th.str (w := w) (g := g) (H := H) (Str.ofString "game")).isStr (K := K)
    walk_at "go"
    refine ⟨_, _, ty, _, _, rfl, .ty "tuple", h1, h2, ?_⟩
    refine ⟨_, rfl, ?_⟩
    refine ifB (fun c => by cases c) (fun _ => ?_)
    walk_at "go"
    refine ⟨_, _, ty3, _, _, rfl, .ty "str", h3, h4, ?_⟩
    refine ⟨_, rfl, ?_⟩
    refine ifB (fun c => by cases c) (fun _ => ?_)
    walk_at "go"
    refine ⟨_, _, rfl, rfl, hr1, ?_⟩
    refine ⟨_, rfl, ?_⟩
    refine ifB (fun c => by cases c) (fun _ => ?_)
    walk_at "go"
    refine ⟨T.a__ITEMS_BEHIND, _, .int 1, rfl, rfl, ⟨T.es__ITEMS_BEHIND, T.n__ITEMS_BEHIND, _, hK.at_, hK.lit, hr1, ⟨t0, rfl⟩⟩, ?_⟩
    walk_at "go"
    refine ⟨w, g, v, d, rfl, t, wt, fun H1 s1 => ?_⟩
    have q1 := q H1 s1
    cases hf : gameD d with
    | true =>
      rw [hf, if_pos rfl] at q1
      walk_at "go"
      exact q1
    | false =>
      rw [hf, if_neg (by decide)] at q1
      walk_at "go"
      exact q1
theorem op_catAK {X : Cx} {K : PySem.W.Frag} (hK : X.K = K) : OpR X (binaryOp .Add) (rCatA K) := by
  subst hK
  exact op_catA
def mkD (d : PyData) : PyData := if gameD d = true then .none else .tuple [.tuple [], .str (Str.ofString "game")]
def spMak : Sp := fun vs H Q _ => ∃ (w g b : Addr) (v : V) (d : PyData), vs = [.ref b] ∧ H b = some (.tup [.str (Str.ofString "game"), v]) ∧ Th w g H v d ∧ d.weight ≤ 300000 ∧
  ∀ y H', Same H H' → Th w g H' y (mkD d) → Q y H'
theorem ok_maker_error (hwd : wd.params = T.pr) : FnOk P wd K mg base CX0 7 T.a_maker_error T.d_maker_error ["value"] spMak := by
  have G_wrong_word : FnOk P wd K mg base CX0 6 T.a_wrong_word T.d_wrong_word ["path", "thing"] spWrong := ok_wrong_word T hwd
  refine T.F_maker_error.ok sc_maker_error (fun vs H Q E h => ?_) (fun cdv A outer s H vs Q E hr h => ?_)
  · obtain ⟨w, g, b, v, d, rfl, _⟩ := h
    rfl
  · have hu4 : (cxOf CX0 P wd K mg base nm_maker_error "maker_error" (defScope s_maker_error) T.a_maker_error cdv A outer s H E).A.units + 64 < cLine := hr.units
    obtain ⟨w, g, b, v, d, rfl, hb, t, wt, q⟩ := h
    refine ⟨_, (pss_cons (ps_set (i := 1) sc_maker_error.nd rfl (Or.inl rfl) (pe_lst (pa_cons (pe_tup (pa_cons (pe_tup pa_nil) (pa_cons (pv 0) pa_nil))) pa_nil)))
      (pss_cons (ps_set (i := 2) sc_maker_error.nd rfl (Or.inl rfl) pe_int)
      (pss_cons (ps_while PassesOwn.never (pt_truth (pv 1) (by intro _; rfl)) (pss_cons (ps_asg (pe_bm0 PySem.F.plainAttrs_list PySem.F.slot_list_pop PySem.F.type_list_pop mt_pop (pv 1)) (pg_tup rfl (pgs_cons (pg_name (i := 3) sc_maker_error.nd rfl (Or.inr rfl)) (pgs_cons (pg_name (i := 4) sc_maker_error.nd rfl (Or.inl rfl)) pgs_nil))))
      (pss_cons (ps_aug (i := 2) sc_maker_error.nd rfl (Or.inl rfl) pe_int ip_add)
      (pss_cons (ps_set (i := 5) sc_maker_error.nd rfl (Or.inl rfl) (pe_ifExp (pt_cmpR op_gt (pv 2) (pe_glob (v := .int 9) rfl T.m__MOST_MAKERS ⟨_, rfl⟩) (nomark _)) pe_str (pe_call G_wrong_word hr rfl T.g_wrong_word T.F_wrong_word.kp (b_wrong_word T) .nil pass0 (pa_cons (pv 3) (pa_cons (pv 4) pa_nil)))))
      (pss_cons (ps_if (pt_cmpR op_notN (pv 5) pe_non (nomark _)) (pss_one (ps_ret (pe_tup (pa_cons (pv 3) (pa_cons (pv 5) pa_nil))))) pss_nil)
      (pss_one (ps_if (pt_cmpR op_eq (pe_ix ix_tup (pv 4) pe_int (fun _ _ => rfl)) pe_str (nomark _)) (pss_cons (ps_setLc (i := 6) (own := [("place", 7), ("part", 8)]) (g := gTup K 2 (gCons (gName 7) (gCons (gName 8) gNil))) rfl sc_maker_error.nd rfl rfl (sw_true rfl rfl rfl (by decide +kernel)) (pi_enum rfl T.n_enumerate (pa_cons (pe_ix ix_tup (pv 4) pe_int (fun _ _ => rfl)) pa_nil)) (blkOk_by (N := nm_maker_error) (sc := defScope s_maker_error) (by decide +kernel)) (fun _ _ _ _ _ => pg_tup rfl (pgs_cons (pg_name (i := 7) sc_maker_error.nd rfl (Or.inl rfl) (Or.inr rfl)) (pgs_cons (pg_name (i := 8) sc_maker_error.nd rfl (Or.inl rfl) (Or.inr rfl)) pgs_nil))) (fun _ _ _ _ _ => pts_nil) (fun _ _ _ _ _ => (pe_tup (pa_cons (pe_op (op_catAK (K := K) rfl) (pv 3) (pe_tup (pa_cons (pv 7) pa_nil))) (pa_cons (pv 8) pa_nil)))))
      (pss_one (ps_set (i := 1) sc_maker_error.nd rfl (Or.inl rfl) (pe_op op_cat (pv 1) (pe_revL (pv 6)))))) pss_nil)))))))
      (pss_one (ps_ret pe_non))))), ?_⟩
    walk_at "go"
    intro p1 np1
    generalize hU1 : upd H p1 _ = H1
    obtain ⟨s1, a1⟩ := new_of0 np1 hU1
    walk_at "go"
    intro p2 np2
    generalize hU2 : upd H1 p2 _ = H2
    obtain ⟨s2, a2⟩ := new_of0 np2 hU2
    walk_at "go"
    intro LW np3
    generalize hU3 : upd H2 LW _ = H3
    obtain ⟨s3, aW⟩ := new_of0 np3 hU3
    have nW : H LW = none := by
      cases e : H LW with
      | none => rfl
      | some o => rw [s2 _ _ (s1 _ _ e)] at np3; cases np3
    have S := (s1.trans s2).trans s3
    have n1 : p1 ≠ LW := ne_of_none (s2 _ _ a1) np3
    have n2 : p2 ≠ LW := ne_of_none a2 np3
    replace a1 := s3 _ _ (s2 _ _ a1)
    replace a2 := s3 _ _ a2
    clear hU1 hU2 hU3 np1 np2 s1 s2 s3
    walk_at "go"
    refine ⟨fun m σ H' => (m = 1 ∧ σ = [some (.ref b), some (.ref LW), some (.int 0), none, none, none, none, none, none] ∧ H' = H3) ∨ (m = 0 ∧ ∃ (y2 y3 y4 y5 y6 y7 y8 : Option V), σ = [some (.ref b), some (.ref LW), y2, y3, y4, y5, y6, y7, y8] ∧ H' LW = some (.lst []) ∧ Same H H' ∧ gameD d = true), ⟨1, .inl ⟨rfl, rfl, rfl⟩⟩, fun m σ H4 pz => ?_⟩
    rcases pz with ⟨rfl, rfl, rfl⟩ | ⟨rfl, y2, y3, y4, y5, y6, y7, y8, rfl, aW, S, hf⟩
    · walk_at "go"
      refine ⟨true, .inl ⟨_, sqL_of aW, rfl⟩, ?_⟩
      refine ifB (fun _ => ?_) (fun c => by cases c)
      refine ⟨fun σ H' => ∃ (y2 y3 y4 y5 y6 y7 y8 : Option V), σ = [some (.ref b), some (.ref LW), y2, y3, y4, y5, y6, y7, y8] ∧ H' LW = some (.lst []) ∧ Same H H' ∧ gameD d = true, fun σ' H' pz => ⟨0, by decide, .inr ⟨rfl, pz⟩⟩, ?_⟩
      walk_at "go"
      refine ⟨Or.inl ⟨rfl, _, sqL_of aW⟩, ?_⟩
      refine ⟨LW, [.ref p2], .ref p2, rfl, rfl, aW, by simp, ?_⟩
      have S4 : Same H (upd H4 LW (.lst [])) := same_mut S nW
      have b1 : (upd H4 LW (.lst [])) p1 = some (.tup []) := (upd_ne n1).trans a1
      have b2 : (upd H4 LW (.lst [])) p2 = some (.tup [.ref p1, .ref b]) := (upd_ne n2).trans a2
      have bW : (upd H4 LW (.lst [])) LW = some (.lst []) := upd_same
      show gTup _ _ _ (V.ref p2) _ (upd H4 LW (.lst [])) _
      generalize upd H4 LW (.lst []) = H5 at *
      have hb5 := S4 _ _ hb
      walk_at "go"
      refine ⟨w, g, p1, b, v, d, rfl, b1, hb5, t.same2 S4, wt, fun H6 s6 => ?_⟩
      replace b1 := s6 _ _ b1
      replace hb5 := s6 _ _ hb5
      replace bW := s6 _ _ bW
      have S6 := S4.trans s6
      clear S4 s6 b2 aW a1 a2 S
      cases hf : gameD d with
      | true =>
        rw [if_pos rfl]
        walk_at "go"
        exact ⟨_, _, _, _, _, _, _, rfl, bW, S6, rfl⟩
      | false =>
        rw [if_neg (by decide)]
        walk_at "go"
        intro p7 np7
        generalize hU : upd H6 p7 _ = H7
        obtain ⟨s7, a7⟩ := new_of0 np7 hU
        refine q _ H7 (S6.trans s7) ?_
        unfold mkD
        rw [hf, if_neg (by decide)]
        exact .tup a7 (.cons (.tup (s7 _ _ b1) .nil) (.cons (.str _) .nil))
    · walk_at "go"
      refine ⟨false, .inl ⟨_, sqL_of aW, rfl⟩, ?_⟩
      refine ifB (fun c => by cases c) (fun _ => ?_)
      walk_at "go"
      exact q _ _ S (by unfold mkD; rw [if_pos hf]; exact .non)
end
set_option pp.deepTerms false
set_option pp.deepTerms.threshold 5
set_option hygiene false in
local macro_rules | `(tactic| walk_at "mem") => `(tactic| first | exact List.Mem.head _ | (apply List.Mem.tail; walk_at "mem"))
set_option hygiene false in
local macro_rules | `(tactic| walk_at "bt") => `(tactic| first
  | exact Bt.non
  | exact Bt.bl _
  | (refine Bt.int ?_ ?_; (first | omega | decide); (first | omega | decide))
  | (refine Bt.intText ?_ ?_; (first | omega | decide); (first | omega | decide))
  | exact Bt.blText
  | (refine Bt.rep ?_ ?_; (focus decide +kernel); decide +kernel)
  | (refine Bt.str _ ?_; decide +kernel)
  | (refine Bt.code ?_ ?_; (focus decide); decide)
  | (apply Lz.get_tp Y; walk_at "mem")
  | (apply Lz.get_th Y; walk_at "mem")
  | (apply Lz.get_ls Y; walk_at "mem")
  | assumption)
set_option hygiene false in
local macro_rules | `(tactic| walk_at "btl") => `(tactic| first
  | (apply BtL.app; (focus walk_at "btl"); walk_at "btl")
  | (apply BtL.cons; (focus walk_at "bt"); walk_at "btl")
  | exact BtL.nil
  | (apply BtL.rev; walk_at "btl")
  | (apply Lz.ls_bt Y; walk_at "mem")
  | (apply Lz.tp_bt Y; walk_at "mem")
  | assumption)
set_option hygiene false in
local macro_rules | `(tactic| walk_at "bta") => `(tactic| first
  | (apply BtA.app; (focus walk_at "bta"); walk_at "bta")
  | (apply BtA.cons; (focus (apply Bt.mono2; (focus walk_at "bt"); (focus (first | (clear b30; omega) | omega | decide)); (focus (first | (clear b30; omega) | omega | decide)))); walk_at "bta")
  | exact BtA.nil)
set_option hygiene false in
local macro_rules | `(tactic| walk_at "new") => `(tactic| (intro p np; generalize hU : upd _ p _ = HH; first
  | (apply Lz.kT Y np hU; (focus walk_at "btl"); clear Y hU np; intro Y)
  | (apply Lz.kL Y np hU; (focus walk_at "btl"); clear Y hU np; intro Y)
  | (apply Lz.kDk Y np hU; clear Y hU np; intro Zd Y)))
set_option hygiene false in
local macro_rules | `(tactic| walk_at "cat") => `(tactic| (apply Lz.kCat Y; (focus walk_at "mem"); (focus walk_at "mem"); (focus (first | (clear b30; omega) | omega | decide)); clear Y; intro p HH Y))
set_option hygiene false in
local macro_rules | `(tactic| walk_at "tups") => `(tactic| first
  | (apply go_tup; (focus (apply Lz.tp_at Y; walk_at "mem")))
  | (apply go_lenT; (focus (apply Lz.tp_at Y; walk_at "mem")))
  | (apply go_ixT; (focus (apply Lz.tp_at Y; walk_at "mem")); (focus (first | rfl | assumption)))
  | (apply Lz.kSl Y; (focus walk_at "mem"); clear Y; intro p HH Y)
  | (apply Lz.kCatT Y; (focus walk_at "mem"); (focus walk_at "mem"); (focus (first | (clear b30; omega) | omega | decide)); clear Y; intro p HH Y)
  | refine no_part ?_
  | ((try unfold tC); apply Lz.kRep Y; (focus walk_at "mem"); (focus simp); (focus omega); (focus omega); (focus omega); clear Y; intro p HH Y))
set_option hygiene false in
local macro_rules | `(tactic| walk_at "lay1") => `(tactic| first | walk_at "go1" | walk_at "new" | walk_at "tups" | walk_at "cat")
set_option hygiene false in
local macro_rules | `(tactic| walk_at "lay") => `(tactic| repeat (walk_at "lay1"))
set_option hygiene false in
local macro_rules | `(tactic| walk_at "nma") => `(tactic| first
  | (apply NmA.cons; (focus omega); (focus omega); walk_at "nma")
  | exact NmA.nil)
set_option hygiene false in
local macro_rules | `(tactic| walk_at "draw") => `(tactic| (refine ⟨w, g, c, _, rfl, Lz.dk Y, by omega, by omega, fun d HH sd Wd d0 d1 => ?_⟩; replace Y := Lz.goes Y sd Wd; clear sd Wd))
section
variable {P : Program} {wd : World} {K : PySem.W.Frag} {mg : Str → Option Value} {base : Heap} (T : Tp K mg)
def spOdd : Sp := fun vs H Q _ => ∃ (w g c : Addr), vs = [.ref w] ∧ Dk w g c H ∧ ∀ x H', Go w g H H' → Dk w g c H' → Bt (10 ^ 30) 4000 4 w g H' x → Q x H'
theorem ok_odd : FnOk P wd K mg base CX0 3 T.a_odd T.d_odd ["_law_deck_here"] spOdd := by
  have G_draw : FnOk P wd K mg base CX0 1 T.a_draw T.d_draw ["_law_deck_here", "_law_many"] spDraw := ok_draw T
  have G_one : FnOk P wd K mg base CX0 2 T.a_one T.d_one ["_law_deck_here", "_law_items"] spPick := ok_pick T
  refine T.F_odd.ok sc_odd (fun vs H Q E h => ?_) (fun cdv A outer s H vs Q E hr h => ?_)
  · obtain ⟨w, g, c, rfl, _⟩ := h
    rfl
  · obtain ⟨w, g, c, rfl, W, q⟩ := h
    refine ⟨_, (pss_cons (ps_set (i := 1) sc_odd.nd rfl (Or.inl rfl) (pe_lst (pa_cons pe_non (pa_cons pe_bl (pa_cons pe_bl (pa_cons pe_int (pa_cons pe_int (pa_cons pe_int (pa_cons (pe_un un_neg pe_int) (pa_cons (pe_op op_pow pe_int pe_int) (pa_cons pe_str (pa_cons pe_str (pa_cons (pe_tup pa_nil) (pa_cons (pe_lst pa_nil) (pa_cons pe_dnewK (pa_cons (pe_tup (pa_cons pe_int pa_nil)) (pa_cons (pe_tup (pa_cons pe_bl pa_nil)) (pa_cons (pe_tup (pa_cons pe_int (pa_cons pe_int pa_nil))) (pa_cons (pe_lst (pa_cons pe_int (pa_cons pe_int pa_nil))) (pa_cons (pe_tup (pa_cons pe_int (pa_cons pe_int pa_nil))) pa_nil))))))))))))))))))))
      (pss_cons (ps_set (i := 1) sc_odd.nd rfl (Or.inl rfl) (pe_op op_cat (pv 1) (pe_lst (pa_cons (pe_tup (pa_cons pe_int (pa_cons pe_int pa_nil))) (pa_cons (pe_tup (pa_cons pe_int (pa_cons pe_int pa_nil))) (pa_cons (pe_tup (pa_cons (pe_tup (pa_cons pe_int pa_nil)) (pa_cons pe_int pa_nil))) (pa_cons (pe_tup (pa_cons pe_non pa_nil)) (pa_cons (pe_tup (pa_cons pe_str (pa_cons pe_str pa_nil))) (pa_cons (pe_tup (pa_cons pe_int (pa_cons pe_int (pa_cons pe_bl pa_nil)))) (pa_cons (pe_disp (pps_cons pe_int pe_int pps_nil) rfl rfl (by simp) (by decide)) (pa_cons (pe_tup (pa_cons (pe_op op_pow pe_int pe_int) pa_nil)) (pa_cons (pe_tup (pa_cons (pe_un un_neg pe_int) (pa_cons pe_int pa_nil))) pa_nil))))))))))))
      (pss_one (ps_ret (pe_call G_one hr rfl T.g_one T.F_one.kp (b_one T) .nil pass0 (pa_cons (pv 0) (pa_cons (pv 1) pa_nil))))))), ?_⟩
    have Y : Lz (Dk w g c) (10 ^ 30) w g c H H [] := Lz.nil dok_l W
    walk_at "lay"
    obtain ⟨z, nd, ud, hd⟩ := Zd
    walk_at "go"
    refine ⟨[(Sum.inl 1, .int 2)], rfl, by simp, ?_⟩
    rw [show mergeK [] [((Sum.inl 1 : Key), V.int 2)] = [(Sum.inl 1, V.int 2)] by simp [mergeK, putK]]
    generalize hV : upd _ p _ = HV
    replace Y := z.dict1 nd ud hV (W1 := 127) ⟨by simp [Ok, kD], by decide, by decide⟩ (Bt.int (by decide) (by decide))
    clear hV hd ud nd z
    walk_at "lay"
    have hb := Y.ls_bt (List.Mem.head _)
    have ha := Y.ls_ac (List.Mem.head _)
    refine ⟨w, g, c, _, _, rfl, Y.dk, ha, by simp, by simp, fun x H' mx s' W' => ?_⟩
    exact q x H' (Y.go.trans s') W' (((hb.mem mx).go Y.tups s').mono (Nat.le_refl _) (by decide) (by decide))
def spBent : Sp := fun vs H Q _ => ∃ (w g c ag : Addr) (gs : List Nat), vs = [.ref w, .ref ag] ∧ Dk w g c H ∧ H ag = some (.tup (nV gs)) ∧ Gok gs ∧ ∀ x H', Go w g H H' → Dk w g c H' → Bt (10 ^ 30) 50000 10 w g H' x → Q x H'
theorem bt_nV {w g : Addr} {H : Hp} : ∀ {gs : List Nat}, (∀ t, t ∈ gs → t ≤ 100) → BtL (10 ^ 30) (gs.length * 128) 0 w g H (nV gs)
  | [], _ => BtL.nil.mono (Nat.le_refl _) (Nat.zero_le _) (Nat.le_refl _)
  | x :: gs, h => by
    have hx := h x (List.mem_cons_self ..)
    exact (BtL.cons (Bt.int (i := (x : Int)) (Nat.le_trans (show _ ≤ 100 by omega) (by decide)) (by decide)) (bt_nV fun t ht => h t (List.mem_cons_of_mem _ ht))).mono (Nat.le_refl _) (by rw [List.length_cons]; omega) (by simp)
theorem ok_bent : FnOk P wd K mg base CX0 4 T.a_bent T.d_bent ["_law_deck_here", "_law_game_here"] spBent := by
  have G_draw : FnOk P wd K mg base CX0 1 T.a_draw T.d_draw ["_law_deck_here", "_law_many"] spDraw := ok_draw T
  have G_one : FnOk P wd K mg base CX0 2 T.a_one T.d_one ["_law_deck_here", "_law_items"] spPick := ok_pick T
  have G_odd : FnOk P wd K mg base CX0 3 T.a_odd T.d_odd ["_law_deck_here"] spOdd := ok_odd T
  refine T.F_bent.ok sc_bent (fun vs H Q E h => ?_) (fun cdv A outer s H vs Q E hr h => ?_)
  · obtain ⟨w, g, c, ag, gs, rfl, _⟩ := h
    rfl
  · have hu4 : (cxOf CX0 P wd K mg base nm_bent "_law_bent" (defScope s_bent) T.a_bent cdv A outer s H E).A.units + 64 < cLine := hr.units
    obtain ⟨w, g, c, ag, gs, rfl, W, hg, G, q⟩ := h
    refine ⟨_, (pss_cons (ps_par (i := 2) (j := 3) rfl sc_bent.nd rfl rfl (by decide) rfl rfl (pa_cons (pe_call G_draw (hr.mono (by decide)) rfl T.g_draw T.F_draw.kp (b_draw T) .nil pass0 (pa_cons (pv 0) (pa_cons (pe_callB call_len_seq rfl T.n_len PySem.boot_len (pa_cons (pv 1) pa_nil)) pa_nil))) (pa_cons (pe_call G_odd hr rfl T.g_odd T.F_odd.kp (b_odd T) .nil pass0 (pa_cons (pv 0) pa_nil)) pa_nil)) rfl)
      (pss_cons (ps_set (i := 4) sc_bent.nd rfl (Or.inl rfl) (pe_call G_one (hr.mono (by decide)) rfl T.g_one T.F_one.kp (b_one T) .nil pass0 (pa_cons (pv 0) (pa_cons (pe_lst (pa_cons (pe_op op_add (pe_ix ix_tup (pv 1) (pv 2) (fun _ _ => rfl)) pe_int) (pa_cons (pe_op op_sub (pe_ix ix_tup (pv 1) (pv 2) (fun _ _ => rfl)) pe_int) (pa_cons pe_int (pa_cons pe_int (pa_cons (pe_op op_sub pe_int (pe_ix ix_tup (pv 1) (pv 2) (fun _ _ => rfl))) (pa_cons (pe_cmpR op_eq (pe_ix ix_tup (pv 1) (pv 2) (fun _ _ => rfl)) pe_int (nomark _)) (pa_cons (pe_callTy call_str_int rfl T.n_str (by decide +kernel) (pa_cons (pe_ix ix_tup (pv 1) (pv 2) (fun _ _ => rfl)) pa_nil)) (pa_cons (pv 3) pa_nil))))))))) pa_nil))))
      (pss_cons (ps_set (i := 5) sc_bent.nd rfl (Or.inl rfl) (pe_lst (pa_cons (pe_op op_catA (pe_op op_catA (pe_slice sl_tupA (pv 1) po_none (po_some (pv 2))) (pe_tup (pa_cons (pv 4) pa_nil))) (pe_slice sl_tupA (pv 1) (po_some (pe_op op_add (pv 2) pe_int)) po_none)) (pa_cons (pe_op op_catA (pe_op op_catA (pe_slice sl_tupA (pv 1) po_none (po_some (pv 2))) (pe_tup (pa_cons (pv 4) pa_nil))) (pe_slice sl_tupA (pv 1) (po_some (pv 2)) po_none)) (pa_cons (pe_op op_catA (pe_slice sl_tupA (pv 1) po_none (po_some (pv 2))) (pe_slice sl_tupA (pv 1) (po_some (pe_op op_add (pv 2) pe_int)) po_none)) (pa_cons (pe_callTy call_list_of rfl T.n_list (by decide +kernel) (pa_cons (pv 1) pa_nil)) pa_nil))))))
      (pss_one (ps_ret (pe_call G_one (hr.mono (by decide)) rfl T.g_one T.F_one.kp (b_one T) .nil pass0 (pa_cons (pv 0) (pa_cons (pe_op op_cat (pv 5) (pe_lst (pa_cons (pe_revT (pv 1)) (pa_cons (pe_op op_catA (pv 1) (pe_slice sl_tupA (pv 1) (po_some (pe_un un_neg pe_int)) po_none)) (pa_cons (pe_tup (pa_cons (pv 1) pa_nil)) (pa_cons (pe_op op_catA (pv 1) (pe_tup (pa_cons pe_int pa_nil))) (pa_cons (pe_op op_catA (pe_tup (pa_cons pe_int pa_nil)) (pv 1)) (pa_cons (pv 3) pa_nil)))))))) pa_nil)))))))), ?_⟩
    have g8 := G.len
    have g0 := List.length_pos_iff.mpr G.ne
    have b30 : 10 ^ 30 ≤ 10 ^ 30 := Nat.le_refl _
    have Y : Lz (Dk w g c) (10 ^ 30) w g c H H [.tp ag (nV gs) 1024 0] := (Lz.nil dok_l W).add ⟨hg, (bt_nV fun t ht => by have := G.mem t ht; omega).mono (Nat.le_refl _) (by omega) (Nat.le_refl _)⟩
    have ll := nV_len gs
    walk_at "lay"
    refine ⟨w, g, c, _, rfl, Y.dk, by omega, by omega, fun d H1 s1 W1 d0 d1 => ?_⟩
    replace Y := Y.goes s1 W1
    obtain ⟨j, rfl⟩ : ∃ j : Nat, d = (j : Int) := ⟨d.toNat, by omega⟩
    obtain ⟨t, et⟩ : ∃ t, gs[j]? = some t := ⟨_, List.getElem?_eq_getElem (by omega)⟩
    have ht := G.mem t (List.mem_of_getElem? et)
    have hv := nV_at et
    clear s1 W1 hg
    walk_at "lay"
    refine ⟨w, g, c, rfl, Y.dk, fun x1 HH sd Wd b1 => ?_⟩
    replace Y := (Y.goes sd Wd).addT b1
    clear sd Wd
    walk_at "lay"
    refine ⟨Nat.lt_of_le_of_lt (Nat.log2_le_self _) (show ((t : Nat) : Int).natAbs < 1920 by omega), ?_⟩
    walk_at "lay"
    have ha := Y.ls_ac (List.Mem.head _)
    refine ⟨w, g, c, _, _, rfl, Y.dk, ha, by simp, by simp, fun ow HO mo so Wo => ?_⟩
    have hN := fun (hA : BtA (10 ^ 30) 5000 5 w g HH _) => (hA ow mo).go Y.tups so
    replace hN := hN (by walk_at "bta")
    replace Y := (Y.goes so Wo).addT hN
    clear hN mo ha so Wo
    walk_at "lay"
    have ha := Y.ls_ac (List.Mem.head _)
    have hb := Y.ls_bt (List.Mem.head _)
    refine ⟨w, g, c, _, _, rfl, Y.dk, ha, by simp, by simp, fun x H' mx s' W' => ?_⟩
    exact q x H' (Y.go.trans s') W' (((hb.mem mx).go Y.tups s').mono (Nat.le_refl _) (by omega) (by omega))
end
set_option pp.deepTerms false
set_option pp.deepTerms.threshold 5
section
variable {P : Program} {wd : World} {K : PySem.W.Frag} {mg : Str → Option Value} {base : Heap} (T : Tp K mg)
/-! a thing that was made while D was locked does not pass through D -/
section
variable {w g D : Addr} {H H' : Hp} {od : Obj} {u o : HO}
mutual
theorem Th.frz (h : H D = some (.frz od u)) : ∀ {v : V} {d : PyData}, Th w g H v d → Th w g (upd H D o) v d
  | _, _, .non => .non
  | _, _, .bl b => .bl b
  | _, _, .int i => .int i
  | _, _, .str x => .str x
  | _, _, .lst n1 n2 e t => .lst n1 n2 ((upd_ne (fun q => by rw [q, h] at e; cases e)).trans e) (ThAll.frz h t)
  | _, _, .tup e t => .tup ((upd_ne (fun q => by rw [q, h] at e; cases e)).trans e) (ThAll.frz h t)
  | _, _, .dct n1 n2 e t => .dct n1 n2 ((upd_ne (fun q => by rw [q, h] at e; cases e)).trans e) (ThKv.frz h t)
theorem ThAll.frz (h : H D = some (.frz od u)) : ∀ {vs : List V} {ds : List PyData}, ThAll w g H vs ds → ThAll w g (upd H D o) vs ds
  | _, _, .nil => .nil
  | _, _, .cons t ts => .cons (Th.frz h t) (ThAll.frz h ts)
theorem ThKv.frz (h : H D = some (.frz od u)) : ∀ {vs : List (Key × V)} {ds : List (PyData × PyData)}, ThKv w g H vs ds → ThKv w g (upd H D o) vs ds
  | _, _, .nil => .nil
  | _, _, .cons t ts => .cons (Th.frz h t) (ThKv.frz h ts)
end
theorem go_lock {f : HO} (n1 : D ≠ w) (n2 : D ≠ g) (s : Go w g (upd H D f) H') : Go w g (upd H D o) (upd H' D o) := fun a x h1 h2 e => by
  by_cases q : a = D
  · subst q
    rw [upd_same] at e ⊢
    exact e
  · rw [upd_ne q] at e ⊢
    exact s a x h1 h2 (by rw [upd_ne q]; exact e)
theorem go_both (n1 : D ≠ w) (n2 : D ≠ g) (s : Go w g H H') : Go w g (upd H D o) (upd H' D o) := fun a x h1 h2 e => by
  by_cases q : a = D
  · subst q
    rw [upd_same] at e ⊢
    exact e
  · rw [upd_ne q] at e ⊢
    exact s a x h1 h2 e
theorem upd_self (h : H D = some o) : upd H D o = H := by
  funext a
  by_cases q : a = D
  · rw [q, upd_same, h]
  · rw [upd_ne q]
end
/-- what a list that is being built at D holds -/
structure Lk (B W Dp : Nat) (w g c D : Addr) (H : Hp) (us : List V) : Prop where
  dk : Dk w g c H
  aD : Ac w g c H D (.lst us)
  bu : ∀ o, BtA B W Dp w g (upd H D o) us
section
variable {B W Dp : Nat} {w g c D p : Addr} {H H' : Hp} {us : List V} {v : V} {o : HO}
theorem Lk.new (W0 : Dk w g c H) (nD : H D = none) : Lk B W Dp w g c D (upd H D (.lst [])) [] :=
  have f := W0.fresh nD
  ⟨W0.same (same_new nD), ⟨f.1, f.2.1, f.2.2, upd_same⟩, fun _ _ h => by cases h⟩
theorem Lk.tupsU (z : Lk B W Dp w g c D H us) : TupOk w g (upd H D o) := (Lz.nil (B := 0) dok_l (z.dk.upd z.aD.nw z.aD.ng z.aD.nc)).tups
theorem Lk.goes (z : Lk B W Dp w g c D H us) (s : Go w g H H') (W' : Dk w g c H') : Lk B W Dp w g c D H' us :=
  ⟨W', z.aD.go s, fun o v hv => (z.bu o v hv).go z.tupsU (go_both z.aD.nw z.aD.ng s)⟩
theorem Lk.snoc (z : Lk B W Dp w g c D H us) (b : ∀ o, Bt B W Dp w g (upd H D o) v) : Lk B W Dp w g c D (upd H D (.lst (us ++ [v]))) (us ++ [v]) :=
  ⟨z.dk.upd z.aD.nw z.aD.ng z.aD.nc, z.aD.set, fun o u hu => by
    rw [upd_twice]
    rcases List.mem_append.mp hu with h | h
    · exact z.bu o u h
    · rw [List.mem_singleton.mp h]
      exact b o⟩
theorem Lk.frz (z : Lk B W Dp w g c D H us) (f : HO) : Dk w g c (upd H D f) := z.dk.upd z.aD.nw z.aD.ng z.aD.nc
/-- a call under the lock -/
theorem Lk.call {od : Obj} (z : Lk B W Dp w g c D H us) (s : Go w g (upd H D (.frz od (.lst us))) H') (W' : Dk w g c H') (b : Bt B W Dp w g H' v) :
    H' D = some (.frz od (.lst us)) ∧ Lk B W Dp w g c D (upd H' D (.lst us)) us ∧ ∀ o, Bt B W Dp w g (upd (upd H' D (.lst us)) D o) v := by
  have e : H' D = some (.frz od (.lst us)) := s D _ z.aD.nw z.aD.ng upd_same
  refine ⟨e, ⟨W'.upd z.aD.nw z.aD.ng z.aD.nc, ⟨z.aD.nw, z.aD.ng, z.aD.nc, upd_same⟩, fun o u hu => ?_⟩, fun o => ?_⟩
  · rw [upd_twice]
    exact (z.bu o u hu).go z.tupsU (go_lock z.aD.nw z.aD.ng s)
  · rw [upd_twice]
    obtain ⟨d, t, bd⟩ := b
    exact ⟨d, Th.frz e t, bd⟩
theorem Lk.done (z : Lk B W Dp w g c D H us) : BtA B W Dp w g H us := fun v hv => by
  have := z.bu (.lst us) v hv
  rw [upd_self z.aD.at_] at this
  exact this
end
theorem bta_btl {B W Dp : Nat} {w g : Addr} {H : Hp} : ∀ {vs : List V}, BtA B W Dp w g H vs → BtL B (vs.length * (W + 1)) Dp w g H vs
  | [], _ => BtL.nil.mono (Nat.le_refl _) (Nat.zero_le _) (Nat.zero_le _)
  | v :: vs, h => (BtL.cons (h v (List.mem_cons_self ..)) (bta_btl fun u hu => h u (List.mem_cons_of_mem _ hu))).mono (Nat.le_refl _) (by rw [List.length_cons, Nat.succ_mul]; omega) (by omega)
theorem packV {B W D : Nat} {w g c p : Addr} {H : Hp} {vs : List V} (a : Ac w g c H p (.lst vs)) (b : BtA B W D w g H vs) : ∃ us, Ac w g c H p (.lst us) ∧ BtA B W D w g H us := ⟨vs, a, b⟩
theorem kb_game_error_value : KBinds K T.d_game_error ["value"] ["value"] oneW oneW := by
  obtain ⟨oc, od, kV, doc, pm, an, cdv, ct, osl, e, lk, hcd⟩ := T.F_game_error.ex
  rw [e]
  exact kbinds_one fun a => rfl
theorem kb_lost_game : KBinds K T.d_lost ["game"] ["game"] oneW oneW := by
  obtain ⟨oc, od, kV, doc, pm, an, cdv, ct, osl, e, lk, hcd⟩ := T.F_lost.ex
  rw [e]
  exact kbinds_one fun a => rfl
theorem kb_gworths_game : KBinds K T.d_gworths ["game"] ["game"] oneW oneW := by
  obtain ⟨oc, od, kV, doc, pm, an, cdv, ct, osl, e, lk, hcd⟩ := T.F_gworths.ex
  rw [e]
  exact kbinds_one fun a => rfl
theorem kb_lost_last_game : KBinds K T.d_lost_last ["game"] ["game"] oneW oneW := by
  obtain ⟨oc, od, kV, doc, pm, an, cdv, ct, osl, e, lk, hcd⟩ := T.F_lost_last.ex
  rw [e]
  exact kbinds_one fun a => rfl
theorem kb_worth_number_game : KBinds K T.d_worth ["game", "number"] ["number", "game"] swapW swapW := by
  obtain ⟨oc, od, kV, doc, pm, an, cdv, ct, osl, e, lk, hcd⟩ := T.F_worth.ex
  rw [e]
  exact kbinds_swap fun a b => rfl
theorem kb_of_worth_worth_game : KBinds K T.d_of_worth ["game", "worth"] ["worth", "game"] swapW swapW := by
  obtain ⟨oc, od, kV, doc, pm, an, cdv, ct, osl, e, lk, hcd⟩ := T.F_of_worth.ex
  rw [e]
  exact kbinds_swap fun a b => rfl
theorem wth8 {gs : List Nat} (G : Gok gs) (n : Nat) : wth gs n ≤ 8 := by
  unfold wth
  exact Nat.le_trans (mex_le _) (Nat.le_trans (near_len ..) G.len)
/-- what a row's members are -/
theorem row_mem {h u : List Nat} {f : Nat → Nat} {B : Nat → Prop} (e : sgN h u = f) (b : ∀ n, B (f n)) : ∀ x, x ∈ h ∨ x ∈ u → B x := by
  intro x hx
  rcases hx with hx | hx
  · obtain ⟨n, hn⟩ := List.getElem?_of_mem hx
    have c := (List.getElem?_eq_some_iff.mp hn).1
    have : sgN h u n = x := by unfold sgN; rw [if_pos c, List.getD_eq_getElem?_getD, hn]; rfl
    rw [← this, e]
    exact b n
  · obtain ⟨n, hn⟩ := List.getElem?_of_mem hx
    have c := (List.getElem?_eq_some_iff.mp hn).1
    have : sgN h u (h.length + n) = x := by
      unfold sgN
      rw [if_neg (by omega), show h.length + n - h.length = n by omega, Nat.mod_eq_of_lt c, List.getD_eq_getElem?_getD, hn]
      rfl
    rw [← this, e]
    exact b _
theorem sgW_49 (gs : List Nat) (k n : Nat) : sgW gs k n ≤ 49 := by unfold sgW; split <;> omega
theorem bd_C {l : List Nat} {n : Nat} (hl : l.length ≤ n) (hc : ∀ k, k ∈ l → k ≤ 49) : Bd (10 ^ 30) n 0 (.str (C l)) :=
  ⟨by simp only [Ok]; intro k hk; rw [C_cps] at hk; exact Nat.lt_of_le_of_lt (hc k hk) (by decide), by rw [show PyData.weight (.str (C l)) = (C l).length from rfl, C_len]; exact hl, by simp [PyData.depth]⟩
/-- a table as data -/
abbrev tabD (h u : List Nat) : PyData := .tuple ([.str (C h)] ++ [.str (C u)])
theorem tab_dp {K : PySem.W.Frag} {H : Hp} {p : Addr} {h u : List Nat} (e : H p = some (.tup [.str (C h), .str (C u)])) : DpD K H (.ref p) (tabD h u) := .tup (sqT_of e) (.cons (.str _) (.cons (.str _) .nil))
theorem tab_bd {gs h u : List Nat} {k : Nat} (e : sgN h u = sgW gs k) (h1 : h.length ≤ 100) (u1 : u.length ≤ 100) : Bd (10 ^ 30) 300 1 (tabD h u) := by
  have m := row_mem (B := fun x => x ≤ 49) e (sgW_49 gs k)
  exact (((BdL.one (bd_C h1 fun k hk => m k (.inl hk))).app (BdL.one (bd_C u1 fun k hk => m k (.inr hk)))).tup).mono (Nat.le_refl _) (by decide) (by decide)
theorem dn_dp {K : PySem.W.Frag} {H : Hp} {p : Addr} {l : List Nat} (e : H p = some (.tup (nV l))) : DpD K H (.ref p) (.tuple (dN l)) := by
  refine .tup (sqT_of e) ?_
  have : ∀ l : List Nat, DpDAll K H (nV l) (dN l) := by
    intro l
    induction l with
    | nil => exact .nil
    | cons k l ih => exact .cons (.int _) ih
  exact this l
theorem bdl_dN : ∀ {l : List Nat}, (∀ k ∈ l, k ≤ 100000) → BdL (10 ^ 30) (l.length * 128) 0 (dN l)
  | [], _ => ⟨fun _ h => (by cases h), Nat.le_refl _, fun _ h => (by cases h)⟩
  | k :: l, h => by
    have b := (BdL.one (bd_int (B := 10 ^ 30) (i := (k : Int)) (by have := h k (List.mem_cons_self ..); exact Nat.le_trans (show _ ≤ 100000 by omega) (by decide)) (by decide))).app (bdl_dN (l := l) fun j hj => h j (List.mem_cons_of_mem _ hj))
    exact b.mono (Nat.le_refl _) (by rw [List.length_cons]; omega) (Nat.le_refl _)
theorem bd_dN {l : List Nat} (h : ∀ k ∈ l, k ≤ 100000) : Bd (10 ^ 30) (l.length * 128) 1 (.tuple (dN l)) := (bdl_dN h).tup
abbrev wtD (x y : List Nat) : PyData := .tuple ([.tuple (dN x)] ++ [.tuple (dN y)])
theorem Wt.dp {K : PySem.W.Frag} {H : Hp} {p a b : Addr} {gs x y : List Nat} (z : Wt H p a b gs x y) : DpD K H (.ref p) (wtD x y) := .tup (sqT_of z.at_) (.cons (dn_dp z.xat) (.cons (dn_dp z.yat) .nil))
theorem Wt.bd {H : Hp} {p a b : Addr} {gs x y : List Nat} (z : Wt H p a b gs x y) (G : Gok gs) : Bd (10 ^ 30) 26000 2 (wtD x y) := by
  have m := row_mem (B := fun x => x ≤ 100000) z.row fun n => Nat.le_trans (wth8 G n) (by decide)
  have x6 := z.x6
  have y6 := z.y6
  exact (((BdL.one (bd_dN fun k hk => m k (.inl hk))).app (BdL.one (bd_dN fun k hk => m k (.inr hk)))).tup).mono (Nat.le_refl _) (by omega) (by decide)
/-- what is shown of tables twice and of worths twice -/
theorem Wt.same {H H' : Hp} {p a b : Addr} {gs x y : List Nat} (z : Wt H p a b gs x y) (s : Same H H') : Wt H' p a b gs x y := ⟨s _ _ z.at_, s _ _ z.xat, s _ _ z.yat, z.row, z.prim, z.x6, z.y6⟩
theorem Wt.go {w g c : Addr} {H H' : Hp} {p a b : Addr} {gs x y : List Nat} (z : Wt H p a b gs x y) (W : Dk w g c H) (s : Go w g H H') : Wt H' p a b gs x y :=
  ⟨((W.tup z.at_).go s).at_, ((W.tup z.xat).go s).at_, ((W.tup z.yat).go s).at_, z.row, z.prim, z.x6, z.y6⟩
theorem four_ok (K : PySem.W.Frag) {h u x y : List Nat} (hd : Bd (10 ^ 30) 300 1 (tabD h u)) (wd : Bd (10 ^ 30) 26000 2 (wtD x y)) : ∃ M : PyData, (∀ (H : Hp) (o : Addr) (v1 v2 v3 v4 : V), H o = some (.lst [v1, v2, v3, v4]) → DpD K H v1 (tabD h u) → DpD K H v2 (tabD h u) → DpD K H v3 (wtD x y) → DpD K H v4 (wtD x y) → DpD K H (.ref o) M) ∧ Bd (10 ^ 30) 60000 3 M := by
  have hd2 := hd.mono (Nat.le_refl _) (show 300 ≤ 26000 by decide) (show 1 ≤ 2 by decide)
  exact ⟨.list ([tabD h u] ++ [tabD h u] ++ [wtD x y] ++ [wtD x y]), fun H o v1 v2 v3 v4 e a b c d => .lst (sqL_of e) (.cons a (.cons b (.cons c (.cons d .nil)))),
    (((((BdL.one hd).mono (Nat.le_refl _) (Nat.le_refl _) (show 1 ≤ 2 by decide)).app ((BdL.one hd).mono (Nat.le_refl _) (Nat.le_refl _) (show 1 ≤ 2 by decide))).app (BdL.one wd)).app (BdL.one wd)).lst.mono (Nat.le_refl _) (by decide) (by decide)⟩
theorem two_ok (K : PySem.W.Frag) {D : PyData} {W Dp : Nat} (hd : Bd (10 ^ 30) W Dp D) (hW : W ≤ 100000) (hD : Dp ≤ 5) : ∃ M : PyData, (∀ (H : Hp) (o : Addr) (v1 v2 : V), H o = some (.lst [v1, v2]) → DpD K H v1 D → DpD K H v2 D → DpD K H (.ref o) M) ∧ Bd (10 ^ 30) 250000 6 M :=
  ⟨.list ([D] ++ [D]), fun H o v1 v2 e a b => .lst (sqL_of e) (.cons a (.cons b .nil)), ((BdL.one hd).app (BdL.one hd)).lst.mono (Nat.le_refl _) (by omega) (by omega)⟩
theorem ahead_one {gs : List Nat} {g0 : Nat} (G : Gok gs) (asc : gs.Pairwise (· < ·)) (e0 : gs[0]? = some g0) : ahead g0 (sgW gs 0) = sgW gs 1 := by
  have least : ∀ t, t ∈ gs → g0 ≤ t := fun t ht => by
    cases gs with
    | nil => cases ht
    | cons x l =>
      obtain rfl : x = g0 := by simpa using e0
      rcases List.mem_cons.mp ht with rfl | ht
      · exact Nat.le_refl _
      · exact Nat.le_of_lt ((List.pairwise_cons.mp asc).1 t ht)
  have h1 : ∀ t, t ∈ gs → 1 ≤ t := fun t ht => (G.mem t ht).1
  have m0 : g0 ∈ gs := List.mem_of_getElem? e0
  funext n
  unfold ahead
  by_cases c : n < g0
  · rw [if_pos c]
    have z : wth gs n = 0 := wth_stuck h1 fun t ht => Nat.lt_of_lt_of_le c (least t ht)
    unfold sgW
    rw [z]
    rfl
  · rw [if_neg c]
    have p := wth_pair h1 m0 least n (by omega)
    unfold sgW
    by_cases d : wth gs n = 1
    · rw [if_pos d, if_pos (p.mp d)]
    · rw [if_neg d, if_neg fun z => d (p.mpr z)]
theorem dp_C {K : PySem.W.Frag} {H : Hp} {p : Addr} {h u : List Nat} (e : H p = some (.tup [.str (C h), .str (C u)])) : Dp K H (.ref p) (tabD h u) := .tup (sqT_of e) (.cons (.str _) (.cons (.str _) .nil))
theorem shaped_C {h u : List Nat} (b : ∀ k, k ∈ h ∨ k ∈ u → k ≤ 49) : SeqAt.shaped (tabD h u) = true := by
  have l : ∀ x : List Nat, (∀ k, k ∈ x → k ≤ 49) → PyData.canLay0 (.str (C x)) = true := fun x hx => by
    simp only [PyData.canLay0, PyData.strOk]
    rw [Array.all_eq_true_iff_forall_mem]
    intro c hc
    have hc2 : c ∈ (C x).cps.toList := Array.mem_toList_iff.mpr hc
    rw [C_cps] at hc2
    exact decide_eq_true (Nat.lt_of_le_of_lt (hx c hc2) (by decide))
  show (PyData.canLay0 (tabD h u) && decide (PyData.depth (tabD h u) ≤ 64)) = true
  rw [Bool.and_eq_true]
  refine ⟨?_, decide_eq_true ?_⟩
  · show PyData.canLay0 (.tuple [.str (C h), .str (C u)]) = true
    simp only [PyData.canLay0, PyData.canLayAll0, Bool.and_eq_true]
    exact ⟨l h fun k hk => b k (.inl hk), l u fun k hk => b k (.inr hk), trivial⟩
  · simp [tabD, PyData.depth, PyData.depthAll]
theorem eqv_C (h u : List Nat) : PyData.eqv (tabD h u) (tabD h u) = true := by
  show PyData.eqv (.tuple [.str (C h), .str (C u)]) (.tuple [.str (C h), .str (C u)]) = true
  simp [PyData.eqv, PyData.eqvAll]
/-- what is due of a thing, and what is found -/
theorem due_ok (K : PySem.W.Frag) : ∃ M1 M2 : PyData, (∀ (H : Hp) (o : Addr), H o = some (.lst [.non, .non, .non]) → DpD K H (.ref o) M1) ∧
    (∀ (H : Hp) (o p q : Addr), H o = some (.lst [.str (Str.ofString "game"), .str (Str.ofString "game"), .ref p]) → H p = some (.tup [.ref q, .str (Str.ofString "game")]) → H q = some (.tup []) → DpD K H (.ref o) M2) ∧ Bd (10 ^ 30) 300 3 M1 ∧ Bd (10 ^ 30) 300 3 M2 := by
  have bg : Bd (10 ^ 30) 20 0 (.str (Str.ofString "game")) := bd_str "game" (by decide +kernel)
  have e0 : Bd (10 ^ 30) 20 0 (.none) := bd_non.mono (Nat.le_refl _) (by decide) (Nat.le_refl _)
  have et : Bd (10 ^ 30) 20 1 (.tuple []) := ⟨by simp [Ok, OkAll], by decide, by decide⟩
  refine ⟨.list ([.none] ++ [.none] ++ [.none]), .list ([.str (Str.ofString "game")] ++ [.str (Str.ofString "game")] ++ [.tuple ([.tuple []] ++ [.str (Str.ofString "game")])]), fun H o h => .lst (sqL_of h) (.cons .non (.cons .non (.cons .non .nil))), fun H o p q h1 h2 h3 => .lst (sqL_of h1) (.cons (.str _) (.cons (.str _) (.cons (.tup (sqT_of h2) (.cons (.tup (sqT_of h3) .nil) (.cons (.str _) .nil))) .nil))), ?_, ?_⟩
  · exact ((((BdL.one e0).app (BdL.one e0)).app (BdL.one e0)).lst).mono (Nat.le_refl _) (by decide) (by decide)
  · have b2 := ((BdL.one et).app (BdL.one (bg.mono (Nat.le_refl _) (Nat.le_refl _) (Nat.zero_le 1)))).tup
    have bg2 : Bd (10 ^ 30) 42 2 (.str (Str.ofString "game")) := bg.mono (Nat.le_refl _) (by decide) (by decide)
    exact ((((BdL.one bg2).app (BdL.one bg2)).app (BdL.one (show Bd (10 ^ 30) 42 2 _ from b2.mono (Nat.le_refl _) (by decide) (Nat.le_refl _)))).lst).mono (Nat.le_refl _) (by decide) (by decide)
def spLaw (K : PySem.W.Frag) : Sp := fun vs H Q _ => ∃ (a : Addr) (ns : List Int), vs = [.ref a] ∧ SqL K H a (ns.map V.int) ∧ ns.length ≤ 63 ∧ ∀ H', Q (.bl true) H'
theorem ok_law (hsy : HasSys base) (hwd : wd.params = T.pr) : FnG P wd K mg base 8 T.a_law T.d_law ["_law_script"] (spLaw K) := by
  have G_deck : FnOk P wd K mg base CX0 1 T.a_deck T.d_deck ["_law_script"] (spDeck K) := ok_deck T
  have G_draw : FnOk P wd K mg base CX0 1 T.a_draw T.d_draw ["_law_deck_here", "_law_many"] spDraw := ok_draw T
  have G_far : FnOk P wd K mg base CX0 2 T.a_far T.d_far ["_law_deck_here", "_law_many"] spFar := ok_far T
  have G_game : FnOk P wd K mg base CX0 2 T.a_game T.d_game ["_law_deck_here"] spGame := ok_game T
  have G_odd : FnOk P wd K mg base CX0 3 T.a_odd T.d_odd ["_law_deck_here"] spOdd := ok_odd T
  have G_bent : FnOk P wd K mg base CX0 4 T.a_bent T.d_bent ["_law_deck_here", "_law_game_here"] spBent := ok_bent T
  have G_lis_game : FnOk P wd K mg base CX0 1 T.a_lis_game T.d_lis_game ["_law_value"] spLGame := ok_lis_game T
  have G_game_error : FnOk P wd K mg base CX0 2 T.a_game_error T.d_game_error ["value"] spGErr := ok_game_error T
  have G_maker_error : FnOk P wd K mg base CX0 7 T.a_maker_error T.d_maker_error ["value"] spMak := ok_maker_error T hwd
  have G_worths : FnOk P wd K mg base CX0 2 T.a_worths T.d_worths ["_law_game_here"] spWorths := ok_worths T
  have G_lof : FnOk P wd K mg base CX0 2 T.a_lof T.d_lof ["_law_told", "_law_own"] spOf := ok_lof T
  have G_lost : FnOk P wd K mg base CX0 5 T.a_lost T.d_lost ["game"] spLostT := ok_lost T
  have G_gworths : FnOk P wd K mg base CX0 4 T.a_gworths T.d_gworths ["game"] spGworths := ok_gworths T
  have G_lost_last : FnOk P wd K mg base CX0 6 T.a_lost_last T.d_lost_last ["game"] spLostLast := ok_lost_last T
  have G_lleast : FnOk P wd K mg base CX0 1 T.a_lleast T.d_lleast ["_law_head", "_law_turn"] spLl := ok_lleast T
  have G_lsigns : FnOk P wd K mg base CX0 1 T.a_lsigns T.d_lsigns ["_law_table", "_law_many"] spSigns := ok_lsigns T
  have G_last_row : FnOk P wd K mg base CX0 1 T.a_last_row T.d_last_row ["_law_game_here", "_law_many"] spLastRow := ok_last_row T
  have G_lworth_at : FnOk P wd K mg base CX0 1 T.a_lworth_at T.d_lworth_at ["_law_told", "_law_number"] spWat := ok_lworth_at T
  have G_worth : FnOk P wd K mg base CX0 5 T.a_worth T.d_worth ["game", "number"] spWorth := ok_worth T
  have G_of_worth : FnOk P wd K mg base CX0 4 T.a_of_worth T.d_of_worth ["game", "worth"] spOfW := ok_of_worth T
  refine fnG_of T.F_law sc_law (fun vs H Q E h => ?_) (fun cdv A ou s H vs Q E hgd0 hr h => ?_)
  · obtain ⟨a, ns, rfl, _⟩ := h
    rfl
  · have hgd : (cxOf CX0 P wd K mg base nm_law "law" (defScope s_law) T.a_law cdv A ou s H E).nox.A.guards = some [] := hgd0
    have hu4 : (cxOf CX0 P wd K mg base nm_law "law" (defScope s_law) T.a_law cdv A ou s H E).nox.A.units + 64 < cLine := hr.units
    obtain ⟨a, ns, rfl, hS, hl, q⟩ := h
    refine ⟨_, (pss_cons (ps_set (i := 1) sc_law.nd rfl (Or.inr rfl) (pe_call G_deck (hr.mono (by decide)) rfl T.g_deck T.F_deck.kp (b_deck T) .nil pass0 (pa_cons (pv 0) pa_nil)))
      (pss_cons (ps_for PassesOwn.never rfl (pi_range1 rfl T.n_range (pa_cons pe_int pa_nil)) (pg_name (i := 2) sc_law.nd rfl (Or.inl rfl)) (pss_cons (ps_set (i := 3) sc_law.nd rfl (Or.inr rfl) (pe_call G_game (hr.mono (by decide)) rfl T.g_game T.F_game.kp (b_game T) .nil pass0 (pa_cons (pv 1) pa_nil)))
      (pss_cons (ps_set (i := 5) sc_law.nd rfl (Or.inl rfl) (pe_op op_cat (pe_lst (pa_cons (pv 3) (pa_cons (pe_callTy call_list_of rfl T.n_list (by decide +kernel) (pa_cons (pv 3) pa_nil)) (pa_cons (pe_call G_odd (hr.mono (by decide)) rfl T.g_odd T.F_odd.kp (b_odd T) .nil pass0 (pa_cons (pv 1) pa_nil)) (pa_cons (pe_call G_odd (hr.mono (by decide)) rfl T.g_odd T.F_odd.kp (b_odd T) .nil pass0 (pa_cons (pv 1) pa_nil)) pa_nil))))) (pe_lc (own := [("_law_k", 4)]) rfl sc_law.nd (pi_range1 rfl T.n_range (pa_cons pe_int pa_nil)) (blkOk_by (N := nm_law) (sc := defScope s_law) (by decide +kernel)) (fun _ _ _ _ _ => pg_name (i := 4) sc_law.nd rfl (Or.inl rfl)) (fun _ _ _ _ _ => pts_nil) (fun _ _ _ _ _ => (pe_lock (pe_call G_bent (hr.mono (by decide)) rfl T.g_bent T.F_bent.kp (b_bent T) .nil pass0 (pa_cons (pv 1) (pa_cons (pv 3) pa_nil))))))))
      (pss_cons (ps_for PassesOwn.never rfl (pi_list (pv 5)) (pg_name (i := 6) sc_law.nd rfl (Or.inl rfl)) (pss_cons (ps_par (i := 7) (j := 8) rfl sc_law.nd rfl rfl (by decide) rfl rfl (pa_cons (pe_call G_lis_game (hr.mono (by decide)) rfl T.g_lis_game T.F_lis_game.kp (b_lis_game T) .nil pass0 (pa_cons (pv 6) pa_nil)) (pa_cons (pe_callB (call_reprT hsy hgd hu4) rfl T.n_repr (by decide +kernel) (pa_cons (pv 6) pa_nil)) pa_nil)) rfl)
      (pss_cons (ps_set (i := 9) sc_law.nd rfl (Or.inl rfl) (pe_ifExp (pt_val (pv 7)) (pe_lst (pa_cons pe_non (pa_cons pe_non (pa_cons pe_non pa_nil)))) (pe_lst (pa_cons pe_str (pa_cons pe_str (pa_cons (pe_tup (pa_cons (pe_tup pa_nil) (pa_cons pe_str pa_nil))) pa_nil))))))
      (pss_cons (ps_set (i := 10) sc_law.nd rfl (Or.inl rfl) (pe_lst (pa_cons (pe_call G_game_error (hr.mono (by decide)) rfl T.g_game_error T.F_game_error.kp (b_game_error T) .nil pass0 (pa_cons (pv 6) pa_nil)) (pa_cons (pe_callK0 G_game_error (hr.mono (by decide)) rfl T.g_game_error T.F_game_error.kp (kb_game_error_value T) pass0 (pk_cons (pv 6) pk_nil)) (pa_cons (pe_call G_maker_error hr rfl T.g_maker_error T.F_maker_error.kp (b_maker_error T) .nil pass0 (pa_cons (pe_tup (pa_cons pe_str (pa_cons (pv 6) pa_nil))) pa_nil)) pa_nil)))))
      (pss_one (ps_if (PW.pt (pw_or (pt_cmpR op_ne (pe_callB (call_reprT hsy hgd hu4) rfl T.n_repr (by decide +kernel) (pa_cons (pv 10) pa_nil)) (pe_callB (call_reprT hsy hgd hu4) rfl T.n_repr (by decide +kernel) (pa_cons (pv 9) pa_nil)) (nomark _)) (pw_or1 (pt_cmpR op_ne (pe_callB (call_reprT hsy hgd hu4) rfl T.n_repr (by decide +kernel) (pa_cons (pv 6) pa_nil)) (pv 8) (nomark _))))) (pss_one (ps_ret pe_bl)) pss_nil))))))
      (pss_cons (ps_set (i := 11) sc_law.nd rfl (Or.inl rfl) (pe_call G_worths (hr.mono (by decide)) rfl T.g_worths T.F_worths.kp (b_worths T) .nil pass0 (pa_cons (pv 3) pa_nil)))
      (pss_cons (ps_par (i := 12) (j := 13) rfl sc_law.nd rfl rfl (by decide) rfl rfl (pa_cons (pe_call G_lof (hr.mono (by decide)) rfl T.g_lof T.F_lof.kp (b_lof T) .nil pass0 (pa_cons (pv 11) (pa_cons pe_int pa_nil))) (pa_cons (pe_call G_lof (hr.mono (by decide)) rfl T.g_lof T.F_lof.kp (b_lof T) .nil pass0 (pa_cons (pv 11) (pa_cons pe_int pa_nil))) pa_nil)) rfl)
      (pss_cons (ps_if (pt_cmpR op_ne (pe_callB (call_reprT hsy hgd hu4) rfl T.n_repr (by decide +kernel) (pa_cons (pe_lst (pa_cons (pe_call G_lost (hr.mono (by decide)) rfl T.g_lost T.F_lost.kp (b_lost T) .nil pass0 (pa_cons (pv 3) pa_nil)) (pa_cons (pe_callK0 G_lost (hr.mono (by decide)) rfl T.g_lost T.F_lost.kp (kb_lost_game T) pass0 (pk_cons (pv 3) pk_nil)) (pa_cons (pe_call G_gworths (hr.mono (by decide)) rfl T.g_gworths T.F_gworths.kp (b_gworths T) .nil pass0 (pa_cons (pv 3) pa_nil)) (pa_cons (pe_callK0 G_gworths (hr.mono (by decide)) rfl T.g_gworths T.F_gworths.kp (kb_gworths_game T) pass0 (pk_cons (pv 3) pk_nil)) pa_nil))))) pa_nil)) (pe_callB (call_reprT hsy hgd hu4) rfl T.n_repr (by decide +kernel) (pa_cons (pe_lst (pa_cons (pv 12) (pa_cons (pv 12) (pa_cons (pv 11) (pa_cons (pv 11) pa_nil))))) pa_nil)) (nomark _)) (pss_one (ps_ret pe_bl)) pss_nil)
      (pss_cons (ps_set (i := 14) sc_law.nd rfl (Or.inl rfl) (pe_call G_lost_last (hr.mono (by decide)) rfl T.g_lost_last T.F_lost_last.kp (b_lost_last T) .nil pass0 (pa_cons (pv 3) pa_nil)))
      (pss_cons (ps_if (pt_cmpR op_ne (pe_callB (call_reprT hsy hgd hu4) rfl T.n_repr (by decide +kernel) (pa_cons (pe_lst (pa_cons (pv 14) (pa_cons (pe_callK0 G_lost_last (hr.mono (by decide)) rfl T.g_lost_last T.F_lost_last.kp (kb_lost_last_game T) pass0 (pk_cons (pv 3) pk_nil)) pa_nil))) pa_nil)) (pe_callB (call_reprT hsy hgd hu4) rfl T.n_repr (by decide +kernel) (pa_cons (pe_op op_rep (pe_lst (pa_cons (pe_call G_lleast (hr.mono (by decide)) rfl T.g_lleast T.F_lleast.kp (b_lleast T) .nil pass0 (pa_cons (pe_op op_add_str (pe_op op_mulS pe_str (pe_ix ix_tup (pv 3) pe_int (fun _ _ => rfl))) (pe_ix ix_tup (pv 12) pe_int (fun _ _ => rfl))) (pa_cons (pe_ix ix_tup (pv 12) pe_int (fun _ _ => rfl)) pa_nil))) pa_nil)) pe_int) pa_nil)) (nomark _)) (pss_one (ps_ret pe_bl)) pss_nil)
      (pss_cons (ps_if (PW.pt (pw_or (pt_cmpR op_ne (pe_call G_lsigns (hr.mono (by decide)) rfl T.g_lsigns T.F_lsigns.kp (b_lsigns T) .nil pass0 (pa_cons (pv 14) (pa_cons pe_int pa_nil))) (pe_call G_last_row (hr.mono (by decide)) rfl T.g_last_row T.F_last_row.kp (b_last_row T) .nil pass0 (pa_cons (pv 3) (pa_cons pe_int pa_nil))) (nomark _)) (pw_or1 (pt_cmpR (op_neD hu4) (pv 14) (pv 13) (nomark _))))) (pss_one (ps_ret pe_bl)) pss_nil)
      (pss_cons (ps_set (i := 15) sc_law.nd rfl (Or.inl rfl) (pe_lst (pa_cons (pe_call G_far (hr.mono (by decide)) rfl T.g_far T.F_far.kp (b_far T) .nil pass0 (pa_cons (pv 1) (pa_cons (pe_op op_pow pe_int pe_int) pa_nil))) (pa_cons (pe_op op_sub (pe_op op_pow pe_int pe_int) (pv 2)) (pa_cons (pe_op op_add (pe_op op_add (pe_op op_pow pe_int pe_int) pe_int) (pe_call G_draw (hr.mono (by decide)) rfl T.g_draw T.F_draw.kp (b_draw T) .nil pass0 (pa_cons (pv 1) (pa_cons pe_int pa_nil)))) pa_nil)))))
      (pss_cons (ps_for PassesOwn.never rfl (pi_list (pe_op op_cat (pe_lst (pa_cons (pe_call G_draw (hr.mono (by decide)) rfl T.g_draw T.F_draw.kp (b_draw T) .nil pass0 (pa_cons (pv 1) (pa_cons pe_int pa_nil))) (pa_cons (pe_call G_draw (hr.mono (by decide)) rfl T.g_draw T.F_draw.kp (b_draw T) .nil pass0 (pa_cons (pv 1) (pa_cons pe_int pa_nil))) pa_nil))) (pv 15))) (pg_name (i := 16) sc_law.nd rfl (Or.inl rfl)) (pss_cons (ps_set (i := 9) sc_law.nd rfl (Or.inl rfl) (pe_call G_lworth_at (hr.mono (by decide)) rfl T.g_lworth_at T.F_lworth_at.kp (b_lworth_at T) .nil pass0 (pa_cons (pv 11) (pa_cons (pv 16) pa_nil))))
      (pss_one (ps_if (pt_cmpR op_ne (pe_callB (call_reprT hsy hgd hu4) rfl T.n_repr (by decide +kernel) (pa_cons (pe_lst (pa_cons (pe_call G_worth (hr.mono (by decide)) rfl T.g_worth T.F_worth.kp (b_worth T) .nil pass0 (pa_cons (pv 3) (pa_cons (pv 16) pa_nil))) (pa_cons (pe_callK0 G_worth (hr.mono (by decide)) rfl T.g_worth T.F_worth.kp (kb_worth_number_game T) pass0 (pk_cons (pv 16) (pk_cons (pv 3) pk_nil))) pa_nil))) pa_nil)) (pe_callB (call_reprT hsy hgd hu4) rfl T.n_repr (by decide +kernel) (pa_cons (pe_lst (pa_cons (pv 9) (pa_cons (pv 9) pa_nil))) pa_nil)) (nomark _)) (pss_one (ps_ret pe_bl)) pss_nil))))
      (pss_one (ps_for PassesOwn.never rfl (pi_list (pe_lst (pa_cons pe_int (pa_cons pe_int (pa_cons pe_int (pa_cons (pe_op op_add pe_int (pe_call G_draw (hr.mono (by decide)) rfl T.g_draw T.F_draw.kp (b_draw T) .nil pass0 (pa_cons (pv 1) (pa_cons pe_int pa_nil)))) (pa_cons (pe_call G_draw (hr.mono (by decide)) rfl T.g_draw T.F_draw.kp (b_draw T) .nil pass0 (pa_cons (pv 1) (pa_cons pe_int pa_nil))) (pa_cons (pe_call G_far (hr.mono (by decide)) rfl T.g_far T.F_far.kp (b_far T) .nil pass0 (pa_cons (pv 1) (pa_cons (pe_op op_pow pe_int pe_int) pa_nil))) pa_nil)))))))) (pg_name (i := 4) sc_law.nd rfl (Or.inl rfl)) (pss_one (ps_if (pt_cmpR op_ne (pe_callB (call_reprT hsy hgd hu4) rfl T.n_repr (by decide +kernel) (pa_cons (pe_lst (pa_cons (pe_call G_of_worth (hr.mono (by decide)) rfl T.g_of_worth T.F_of_worth.kp (b_of_worth T) .nil pass0 (pa_cons (pv 3) (pa_cons (pv 4) pa_nil))) (pa_cons (pe_callK0 G_of_worth (hr.mono (by decide)) rfl T.g_of_worth T.F_of_worth.kp (kb_of_worth_worth_game T) pass0 (pk_cons (pv 4) (pk_cons (pv 3) pk_nil))) pa_nil))) pa_nil)) (pe_callB (call_reprT hsy hgd hu4) rfl T.n_repr (by decide +kernel) (pa_cons (pe_op op_rep (pe_lst (pa_cons (pe_call G_lof (hr.mono (by decide)) rfl T.g_lof T.F_lof.kp (b_lof T) .nil pass0 (pa_cons (pv 11) (pa_cons (pv 4) pa_nil))) pa_nil)) pe_int) pa_nil)) (nomark _)) (pss_one (ps_ret pe_bl)) pss_nil))))))))))))))))
      (pss_one (ps_ret pe_bl)))), ?_⟩
    walk_at "go"
    refine ⟨a, ns, rfl, hS, hl, fun w g c H1 s1 W1 => ?_⟩
    walk_at "go"
    refine for_it walk_range (fun i σ H3 => ∃ (y2 y3 y4 y5 y6 y7 y8 y9 y10 y11 y12 y13 y14 y15 y16 : Option V), σ = [some (.ref a), some (.ref w), y2, y3, y4, y5, y6, y7, y8, y9, y10, y11, y12, y13, y14, y15, y16] ∧ Dk w g c H3)
      ⟨_, _, _, _, _, _, _, _, _, _, _, _, _, _, _, rfl, W1⟩ (fun _ _ _ _ _ => trivial) (fun i0 x σ H3 H4 hi pz y => ?_) (fun σ H3 pz => ?_)
    · obtain ⟨y2, y3, y4, y5, y6, y7, y8, y9, y10, y11, y12, y13, y14, y15, y16, rfl, W3⟩ := pz
      obtain ⟨rfl, rfl⟩ := y
      clear W1 s1 hS q
      walk_at "go"
      refine ⟨w, g, c, rfl, W3, fun ag H5 gs L s5 W5 hg G tp asc => ?_⟩
      clear s5 W3
      have g8 := G.len
      have b30 : 10 ^ 30 ≤ 10 ^ 30 := Nat.le_refl _
      have bG : BtL (10 ^ 30) 1024 0 w g H5 (nV gs) := (bt_nV fun t ht => by have := G.mem t ht; omega).mono (Nat.le_refl _) (by omega) (Nat.le_refl _)
      have Y : Lz (Dk w g c) (10 ^ 30) w g c H5 H5 [.tp ag (nV gs) 1024 0] := (Lz.nil dok_l W5).add ⟨hg, bG⟩
      walk_at "lay"
      refine ⟨w, g, c, rfl, Y.dk, fun x1 HO1 sd Wd b1 => ?_⟩
      replace Y := (Y.goes sd Wd).addT b1
      clear sd Wd
      walk_at "lay"
      refine ⟨w, g, c, rfl, Y.dk, fun x2 HO2 sd Wd b2 => ?_⟩
      replace Y := (Y.goes sd Wd).addT b2
      clear sd Wd
      walk_at "go"
      walk_at "new"
      walk_at "go"
      have hgH : HH ag = some (.tup (nV gs)) := Y.tp_at (by walk_at "mem")
      intro D nD
      have T3 := Y.tups
      refine lc_it walk_range (fun i H5 => ∃ us : List V, Lk (10 ^ 30) 50000 10 w g c D H5 us ∧ us.length = i ∧ Go w g HH H5) ⟨[], Lk.new Y.dk nD, rfl, Go.of (same_new nD)⟩ (fun _ _ _ _ => trivial) (fun i x H2 H5 hi p y => ?_) (fun H5 p => ?_)
      · obtain ⟨us, Z, hus2, S⟩ := p
        obtain ⟨rfl, rfl⟩ := y
        have hg2 := S _ _ (T3 _ _ hgH).1 (T3 _ _ hgH).2 hgH
        walk_at "go"
        refine ⟨D, .lst us, Z.aD.at_, trivial, fun od => ?_⟩
        walk_at "go"
        refine ⟨w, g, c, ag, gs, rfl, Z.frz _, (upd_ne (ne_of hg2 Z.aD.at_ (by intro z; cases z))).trans hg2, G, fun v H10 s W b => ?_⟩
        obtain ⟨e2, Z2, b2⟩ := Z.call s W b
        refine ⟨e2, us, Z2.aD.at_, szl2 (by omega), us ++ [v], Z2.snoc b2, by simp [hus2], ?_⟩
        refine go_upd' ?_ nD
        have := go_lock (o := .lst us) Z.aD.nw Z.aD.ng s
        rw [upd_self Z.aD.at_] at this
        exact S.trans this
      · obtain ⟨bs, Z, hbs, S⟩ := p
        replace Y := (Y.goes S Z.dk).add (e := .ls D bs (bs.length * 50001) 10) ⟨Z.aD, bta_btl Z.done⟩
        clear Z S T3 nD hgH
        walk_at "lay"
        have aV := Y.ls_ac (List.Mem.head _)
        have bV := (Y.ls_bt (List.Mem.head _)).mono (Nat.le_refl _) (show _ ≤ 280000 by omega) (show _ ≤ 12 by omega)
        have hg5 : HH ag = some (.tup (nV gs)) := Y.tp_at (by walk_at "mem")
        have W8 := Y.dk
        clear Y
        obtain ⟨vs, aV, bV⟩ : ∃ us, Ac w g c HH p (.lst us) ∧ BtL (10 ^ 30) 280000 12 w g HH us := ⟨_, aV, bV⟩
        refine ⟨⟨_, sqL_of aV.at_⟩, ?_⟩
        refine for_it (walk_list (xs := vs)) (fun i σ H3 => ∃ (y4 y5 y6 y7 y8 y9 y10 y11 y12 y13 y14 y15 y16 : Option V), σ = [some (.ref a), some (.ref w), some (.int (0 + (i0 : Int))), some (.ref ag), y4, y5, y6, y7, y8, y9, y10, y11, y12, y13, y14, y15, y16] ∧ Same HH H3)
          ⟨_, _, _, _, _, _, _, _, _, _, _, _, _, rfl, fun _ _ e => e⟩ (fun i σ H3 _ px => ?_) (fun i x σ H3 H4 hi px yv => ?_) (fun σ H3 px => ?_)
        · obtain ⟨_, _, _, _, _, _, _, _, _, _, _, _, _, _, z⟩ := px
          exact sqL_of (z _ _ aV.at_)
        · obtain ⟨y4, y5, y6, y7, y8, y9, y10, y11, y12, y13, y14, y15, y16, rfl, S⟩ := px
          --BEGIN
          obtain ⟨rfl, hx⟩ := yv
          obtain ⟨d, td, bd⟩ := bV.mem (List.mem_of_getElem? hx)
          replace td := td.same2 S
          have wt : d.weight ≤ 300000 := Nat.le_trans bd.wt (by decide)
          walk_at "go"
          refine ⟨w, g, x, d, rfl, td, wt, fun H5 s5 => ?_⟩
          replace td := td.same2 s5
          replace S := S.trans s5
          walk_at "go"
          refine repr_val td.toD bd.ok (by decide) (Nat.le_trans bd.wt (by decide)) (Nat.le_trans bd.dp (by decide)) ?_
          walk_at "go"
          obtain ⟨M1, M2, dM1, dM2, bM1, bM2⟩ := due_ok K
          have emk : mkD d = if gameD d = true then .none else .tuple [.tuple [], .str (Str.ofString "game")] := rfl
          cases hgd2 : gameD d with
          | true =>
            walk_at "go"
            intro ld np
            generalize hU : upd H5 ld _ = H6
            obtain ⟨s, hld⟩ := new_of0 np hU
            clear hU np
            replace td := td.same2 s
            replace S := S.trans s
            clear s
            walk_at "go"
            refine ⟨w, g, x, d, rfl, td, wt, fun H7 s => ?_⟩
            rw [hgd2]
            rw [if_pos rfl]
            replace hld := s _ _ hld
            replace td := td.same2 s
            replace S := S.trans s
            clear s
            walk_at "go"
            refine ⟨w, g, x, d, rfl, td, wt, fun H8 s => ?_⟩
            rw [hgd2]
            rw [if_pos rfl]
            replace hld := s _ _ hld
            replace td := td.same2 s
            replace S := S.trans s
            clear s
            walk_at "go"
            intro pm np
            generalize hU : upd H8 pm _ = H9
            obtain ⟨s, hpm⟩ := new_of0 np hU
            clear hU np
            replace hld := s _ _ hld
            replace td := td.same2 s
            replace S := S.trans s
            clear s
            walk_at "go"
            refine ⟨w, g, pm, x, d, rfl, hpm, td, wt, fun y H10 s ty => ?_⟩
            rw [emk, hgd2, if_pos rfl] at ty
            cases ty
            replace hld := s _ _ hld
            replace hpm := s _ _ hpm
            replace td := td.same2 s
            replace S := S.trans s
            clear s
            walk_at "go"
            intro l2 np
            generalize hU : upd H10 l2 _ = H11
            obtain ⟨s, hl2⟩ := new_of0 np hU
            clear hU np
            replace hld := s _ _ hld
            replace hpm := s _ _ hpm
            replace td := td.same2 s
            replace S := S.trans s
            clear s
            walk_at "go"
            refine repr_val (dM1 _ _ hl2) bM1.ok (by decide) (Nat.le_trans bM1.wt (by decide)) (Nat.le_trans bM1.dp (by decide)) ?_
            walk_at "go"
            refine repr_val (dM1 _ _ hld) bM1.ok (by decide) (Nat.le_trans bM1.wt (by decide)) (Nat.le_trans bM1.dp (by decide)) ?_
            walk_at "go"
            refine ifDn (fun c => absurd rfl c) (fun _ => ?_)
            walk_at "go"
            refine repr_val td.toD bd.ok (by decide) (Nat.le_trans bd.wt (by decide)) (Nat.le_trans bd.dp (by decide)) ?_
            walk_at "go"
            refine ifDn (fun c => absurd rfl c) (fun _ => ?_)
            exact ⟨_, _, _, _, _, _, _, _, _, _, _, _, _, rfl, S⟩
          | false =>
            walk_at "go"
            intro qa np
            generalize hU : upd H5 qa _ = H6
            obtain ⟨s, hqa⟩ := new_of0 np hU
            clear hU np
            replace td := td.same2 s
            replace S := S.trans s
            clear s
            walk_at "go"
            intro qb np
            generalize hU : upd H6 qb _ = H7
            obtain ⟨s, hqb⟩ := new_of0 np hU
            clear hU np
            replace hqa := s _ _ hqa
            replace td := td.same2 s
            replace S := S.trans s
            clear s
            walk_at "go"
            intro ld np
            generalize hU : upd H7 ld _ = H8
            obtain ⟨s, hld⟩ := new_of0 np hU
            clear hU np
            replace hqa := s _ _ hqa
            replace hqb := s _ _ hqb
            replace td := td.same2 s
            replace S := S.trans s
            clear s
            walk_at "go"
            refine ⟨w, g, x, d, rfl, td, wt, fun H9 s => ?_⟩
            rw [hgd2]
            rw [if_neg (by decide)]
            replace hqa := s _ _ hqa
            replace hqb := s _ _ hqb
            replace hld := s _ _ hld
            replace td := td.same2 s
            replace S := S.trans s
            clear s
            walk_at "go"
            refine ⟨w, g, x, d, rfl, td, wt, fun H10 s => ?_⟩
            rw [hgd2]
            rw [if_neg (by decide)]
            replace hqa := s _ _ hqa
            replace hqb := s _ _ hqb
            replace hld := s _ _ hld
            replace td := td.same2 s
            replace S := S.trans s
            clear s
            walk_at "go"
            intro pm np
            generalize hU : upd H10 pm _ = H11
            obtain ⟨s, hpm⟩ := new_of0 np hU
            clear hU np
            replace hqa := s _ _ hqa
            replace hqb := s _ _ hqb
            replace hld := s _ _ hld
            replace td := td.same2 s
            replace S := S.trans s
            clear s
            walk_at "go"
            refine ⟨w, g, pm, x, d, rfl, hpm, td, wt, fun y H12 s ty => ?_⟩
            rw [emk, hgd2, if_neg (by decide)] at ty
            obtain ⟨qc, ys, rfl, hqc, t2⟩ := ty.tupE
            obtain ⟨v1, v2, rfl, t1, t2⟩ := t2.two
            cases t2
            obtain ⟨qd, zs, rfl, hqd, t3⟩ := t1.tupE
            cases t3
            replace hqa := s _ _ hqa
            replace hqb := s _ _ hqb
            replace hld := s _ _ hld
            replace hpm := s _ _ hpm
            replace td := td.same2 s
            replace S := S.trans s
            clear s
            walk_at "go"
            intro l2 np
            generalize hU : upd H12 l2 _ = H13
            obtain ⟨s, hl2⟩ := new_of0 np hU
            clear hU np
            replace hqa := s _ _ hqa
            replace hqb := s _ _ hqb
            replace hld := s _ _ hld
            replace hpm := s _ _ hpm
            replace hqc := s _ _ hqc
            replace hqd := s _ _ hqd
            replace td := td.same2 s
            replace S := S.trans s
            clear s
            walk_at "go"
            refine repr_val (dM2 _ _ _ _ hl2 hqc hqd) bM2.ok (by decide) (Nat.le_trans bM2.wt (by decide)) (Nat.le_trans bM2.dp (by decide)) ?_
            walk_at "go"
            refine repr_val (dM2 _ _ _ _ hld hqb hqa) bM2.ok (by decide) (Nat.le_trans bM2.wt (by decide)) (Nat.le_trans bM2.dp (by decide)) ?_
            walk_at "go"
            refine ifDn (fun c => absurd rfl c) (fun _ => ?_)
            walk_at "go"
            refine repr_val td.toD bd.ok (by decide) (Nat.le_trans bd.wt (by decide)) (Nat.le_trans bd.dp (by decide)) ?_
            walk_at "go"
            refine ifDn (fun c => absurd rfl c) (fun _ => ?_)
            exact ⟨_, _, _, _, _, _, _, _, _, _, _, _, _, rfl, S⟩
          --END
        · obtain ⟨y4, y5, y6, y7, y8, y9, y10, y11, y12, y13, y14, y15, y16, rfl, S⟩ := px
          have hg6 := S _ _ hg5
          have W6 := W8.same S
          clear aV bV W8 S hg5
          walk_at "go"
          refine ⟨ag, gs, rfl, hg6, G, fun p1 a1 b1 H4 xx yy s wt => ?_⟩
          replace W6 := W6.same s
          have hg := s _ _ hg6
          clear s hg6
          walk_at "go"
          refine ⟨p1, a1, b1, gs, xx, yy, 0, rfl, wt, fun pn H7 hn un s hpn prn rown ln1 ln2 => ?_⟩
          replace W6 := W6.same s
          replace hg := s _ _ hg
          replace wt := wt.same s
          clear s
          walk_at "go"
          refine ⟨p1, a1, b1, gs, xx, yy, 1, rfl, wt, fun po H8 ho uo s hpo pro rowo lo1 lo2 => ?_⟩
          replace W6 := W6.same s
          replace hg := s _ _ hg
          replace wt := wt.same s
          replace hpn := s _ _ hpn
          clear s
          have bn := tab_bd rown ln1 ln2
          obtain ⟨g0, e0⟩ : ∃ g0, gs[0]? = some g0 := ⟨gs[0]'(List.length_pos_iff.mpr G.ne), List.getElem?_eq_getElem _⟩
          have g08 := G.mem g0 (List.mem_of_getElem? e0)
          have hv0 := nV_at e0
          obtain ⟨M, dM, bM⟩ := four_ok K bn (wt.bd G)
          walk_at "go"
          refine ⟨ag, gs, L, rfl, hg, G, tp, fun q1 H9 h1 u1 s hq1 pr1 row1 _ _ => ?_⟩
          obtain ⟨rfl, rfl⟩ := prim_uniq prn pr1 (rown.trans row1.symm)
          replace W6 := W6.same s
          replace hg := s _ _ hg
          replace wt := wt.same s
          replace hpn := s _ _ hpn
          replace hpo := s _ _ hpo
          clear s pr1 row1
          walk_at "go"
          refine ⟨ag, gs, L, rfl, hg, G, tp, fun q2 H10 h1 u1 s hq2 pr1 row1 _ _ => ?_⟩
          obtain ⟨rfl, rfl⟩ := prim_uniq prn pr1 (rown.trans row1.symm)
          replace W6 := W6.same s
          replace hg := s _ _ hg
          replace wt := wt.same s
          replace hpn := s _ _ hpn
          replace hpo := s _ _ hpo
          replace hq1 := s _ _ hq1
          clear s pr1 row1
          walk_at "go"
          refine ⟨ag, gs, L, rfl, hg, G, tp, fun q3 qa qb H11 x3 y3 s wt3 => ?_⟩
          obtain ⟨rfl, rfl⟩ := prim_uniq wt.prim wt3.prim (wt.row.trans wt3.row.symm)
          replace W6 := W6.same s
          replace hg := s _ _ hg
          replace wt := wt.same s
          replace hpn := s _ _ hpn
          replace hpo := s _ _ hpo
          replace hq1 := s _ _ hq1
          replace hq2 := s _ _ hq2
          clear s
          walk_at "go"
          refine ⟨ag, gs, L, rfl, hg, G, tp, fun q4 qc qd H12 x3 y3 s wt4 => ?_⟩
          obtain ⟨rfl, rfl⟩ := prim_uniq wt.prim wt4.prim (wt.row.trans wt4.row.symm)
          replace W6 := W6.same s
          replace hg := s _ _ hg
          replace wt := wt.same s
          replace wt3 := wt3.same s
          replace hpn := s _ _ hpn
          replace hpo := s _ _ hpo
          replace hq1 := s _ _ hq1
          replace hq2 := s _ _ hq2
          clear s
          walk_at "go"
          intro l1 np
          generalize hU : upd H12 l1 _ = H13
          obtain ⟨s, hl1⟩ := new_of0 np hU
          refine repr_val (dM _ _ _ _ _ _ hl1 (tab_dp (s _ _ hq1)) (tab_dp (s _ _ hq2)) (wt3.same s).dp (wt4.same s).dp) bM.ok (by decide) (Nat.le_trans bM.wt (by decide)) (Nat.le_trans bM.dp (by decide)) ?_
          replace W6 := W6.same s
          replace hg := s _ _ hg
          replace wt := wt.same s
          replace hpn := s _ _ hpn
          replace hpo := s _ _ hpo
          clear s hq1 hq2 wt3 wt4 hl1 hU np
          walk_at "go"
          intro l2 np
          generalize hU : upd H13 l2 _ = H14
          obtain ⟨s, hl2⟩ := new_of0 np hU
          refine repr_val (dM _ _ _ _ _ _ hl2 (tab_dp (s _ _ hpn)) (tab_dp (s _ _ hpn)) (wt.same s).dp (wt.same s).dp) bM.ok (by decide) (Nat.le_trans bM.wt (by decide)) (Nat.le_trans bM.dp (by decide)) ?_
          replace W6 := W6.same s
          replace hg := s _ _ hg
          replace wt := wt.same s
          replace hpn := s _ _ hpn
          replace hpo := s _ _ hpo
          clear s hl2 hU np dM bM
          walk_at "go"
          refine ifDn (fun c => absurd rfl c) (fun _ => ?_)
          walk_at "go"
          refine ⟨ag, gs, L, g0, rfl, hg, G, tp, e0, fun pl H15 hl ul s hpl prl rowl ll1 ll2 => ?_⟩
          have ST := s
          replace W6 := W6.same s
          replace hg := s _ _ hg
          replace wt := wt.same s
          replace hpn := s _ _ hpn
          replace hpo := s _ _ hpo
          clear s ST
          walk_at "go"
          refine ⟨ag, gs, L, g0, rfl, hg, G, tp, e0, fun q5 H16 h1 u1 s hq5 pr1 row1 _ _ => ?_⟩
          obtain ⟨rfl, rfl⟩ := prim_uniq prl pr1 (rowl.trans row1.symm)
          replace W6 := W6.same s
          replace hg := s _ _ hg
          replace wt := wt.same s
          replace hpn := s _ _ hpn
          replace hpo := s _ _ hpo
          replace hpl := s _ _ hpl
          clear s pr1 row1
          have rowl1 : sgN hl ul = sgW gs 1 := rowl.trans (ahead_one G asc e0)
          have bl := tab_bd rowl1 (by omega) (by omega)
          obtain ⟨M, dM, bM⟩ := two_ok K bl (by decide) (by decide)
          walk_at "go"
          intro l3 np
          generalize hU : upd H16 l3 _ = H17
          obtain ⟨s, hl3⟩ := new_of0 np hU
          refine repr_val (dM _ _ _ _ hl3 (tab_dp (s _ _ hpl)) (tab_dp (s _ _ hq5))) bM.ok (by decide) (Nat.le_trans bM.wt (by decide)) (Nat.le_trans bM.dp (by decide)) ?_
          replace W6 := W6.same s
          replace hg := s _ _ hg
          replace wt := wt.same s
          replace hpn := s _ _ hpn
          replace hpo := s _ _ hpo
          replace hpl := s _ _ hpl
          clear s hl3 hU np hq5
          iterate 4 (walk_at "go1")
          rw [lit0]
          have rl : (repN g0 [48]).length = g0 := by rw [repN_len]; simp
          have eg : ((g0 : Nat) : Int).toNat = g0 := rfl
          refine ⟨by omega, by rw [C_len, eg]; simp; omega, ?_⟩
          rw [C_mul _ (by omega), eg]
          walk_at "go"
          refine ⟨by rw [C_len, C_len, rl]; exact szM (by omega), ?_⟩
          rw [C_app]
          walk_at "go"
          refine .inl ⟨repN g0 [48] ++ hn, un, rfl, by rw [List.length_append, rl]; omega, prn.pos, by omega, fun pm H18 hm um s prm rowm hpm _ _ => ?_⟩
          rw [sgN_ahead, rown] at rowm
          obtain ⟨rfl, rfl⟩ := prim_uniq prl prm (rowl.trans rowm.symm)
          replace W6 := W6.same s
          replace hg := s _ _ hg
          replace wt := wt.same s
          replace hpn := s _ _ hpn
          replace hpo := s _ _ hpo
          replace hpl := s _ _ hpl
          clear s prm rowm
          walk_at "go"
          intro l4 np
          generalize hU : upd H18 l4 _ = H19
          obtain ⟨s, hl4⟩ := new_of0 np hU
          replace W6 := W6.same s
          replace hg := s _ _ hg
          replace wt := wt.same s
          replace hpn := s _ _ hpn
          replace hpo := s _ _ hpo
          replace hpl := s _ _ hpl
          replace hpm := s _ _ hpm
          clear s hU np
          walk_at "go"
          refine ⟨l4, 2, [.ref pm], rfl, rfl, hl4, by decide, by decide, (show 2 ≤ sizeLine by decide), fun l5 np => ?_⟩
          generalize hU : upd H19 l5 _ = H20
          obtain ⟨s, hl5⟩ := new_of0 np hU
          replace hl5 : H20 l5 = some (.lst [.ref pm, .ref pm]) := hl5
          refine repr_val (dM _ _ _ _ hl5 (tab_dp (s _ _ hpm)) (tab_dp (s _ _ hpm))) bM.ok (by decide) (Nat.le_trans bM.wt (by decide)) (Nat.le_trans bM.dp (by decide)) ?_
          replace W6 := W6.same s
          replace hg := s _ _ hg
          replace wt := wt.same s
          replace hpo := s _ _ hpo
          replace hpl := s _ _ hpl
          clear s hl5 hU np hpm hl4 hpn dM bM
          walk_at "go"
          refine ifDn (fun c => absurd rfl c) (fun _ => ?_)
          walk_at "go"
          refine ⟨pl, _, _, rfl, hpl, by omega, prl.pos, by omega, ?_⟩
          walk_at "go"
          refine ⟨ag, gs, rfl, hg, G, fun H21 s => ?_⟩
          replace W6 := W6.same s
          replace hg := s _ _ hg
          replace wt := wt.same s
          replace hpo := s _ _ hpo
          replace hpl := s _ _ hpl
          clear s
          rw [rowl1]
          walk_at "go"
          refine ifDn (fun c => absurd rfl c) (fun _ => ?_)
          walk_at "go"
          obtain ⟨rfl, rfl⟩ := prim_uniq prl pro (rowl1.trans rowo.symm)
          have sh := shaped_C (row_mem (B := fun x => x ≤ 49) rowl1 (sgW_49 gs 1))
          refine ⟨_, _, dp_C hpl, dp_C hpo, sh, sh, ?_⟩
          rw [eqv_C]
          clear sh hpl hpo prl pro rowo rowl bl
          walk_at "go"
          have e18 : ((10 : Int) ^ (18 : Int).toNat) = ((10 ^ 18 : Nat) : Int) := by decide +kernel
          dsimp only
          rw [e18]
          refine ⟨w, g, c, 10 ^ 18, rfl, W6, by decide, fun f1 H22 s W7 hf1 => ?_⟩
          replace hg := ((W6.tup hg).go s).at_
          replace wt := wt.go W6 s
          clear s W6
          walk_at "go"
          refine ⟨w, g, c, _, rfl, W7, by omega, by omega, fun f2 H23 s W6 f20 f21 => ?_⟩
          replace hg := ((W7.tup hg).go s).at_
          replace wt := wt.go W7 s
          clear s W7
          walk_at "go"
          intro fl np
          generalize hU : upd H23 fl _ = H24
          obtain ⟨s, W7, afl⟩ := new_ofL W6 np hU
          replace hg := s _ _ hg
          replace wt := wt.same s
          clear s W6 hU np
          dsimp only at afl
          rw [e18] at afl
          obtain ⟨fs, efs, afl⟩ : ∃ fs : List V, ((∀ v, v ∈ fs → ∃ n : Nat, v = .int n ∧ n ≤ 10 ^ 19) ∧ fs.length ≤ 10) ∧ Ac w g c H24 fl (.lst fs) := by
            refine ⟨_, ⟨fun v hv => ?_, by simp⟩, afl⟩
            simp only [List.mem_cons, List.not_mem_nil, or_false] at hv
            have l19 : (10 ^ 18 : Nat) + 2000 ≤ 10 ^ 19 := by decide
            rcases hv with rfl | rfl | rfl
            · exact ⟨f1, rfl, by omega⟩
            · refine ⟨10 ^ 18 - i0, ?_, by omega⟩
              have : ((10 ^ 18 : Nat) : Int) - (0 + (i0 : Int)) = ((10 ^ 18 - i0 : Nat) : Int) := by
                have l4 : (4 : Nat) ≤ 10 ^ 18 := by decide
                have i4 : i0 < 4 := hi
                omega
              rw [this]
            · refine ⟨10 ^ 18 + 1 + f2.toNat, ?_, by omega⟩
              have : ((10 ^ 18 : Nat) : Int) + 1 + f2 = ((10 ^ 18 + 1 + f2.toNat : Nat) : Int) := by omega
              rw [this]
          walk_at "go"
          refine ⟨w, g, c, _, rfl, W7, by omega, by omega, fun f3 H25 s W6 f30 f31 => ?_⟩
          replace hg := ((W7.tup hg).go s).at_
          replace wt := wt.go W7 s
          replace afl := afl.go s
          clear s W7
          walk_at "go"
          refine ⟨w, g, c, _, rfl, W6, by omega, by omega, fun f4 H26 s W7 f40 f41 => ?_⟩
          replace hg := ((W6.tup hg).go s).at_
          replace wt := wt.go W6 s
          replace afl := afl.go s
          clear s W6
          walk_at "go"
          intro n1 np
          generalize hU : upd H26 n1 _ = H27
          obtain ⟨s, W6, an1⟩ := new_ofL W7 np hU
          replace hg := s _ _ hg
          replace wt := wt.same s
          replace afl := afl.same s
          clear s W7 hU np
          obtain ⟨ms, ems, an1⟩ : ∃ ms : List V, ((∀ v, v ∈ ms → ∃ n : Nat, v = .int n ∧ n ≤ 10 ^ 19) ∧ ms.length ≤ 10) ∧ Ac w g c H27 n1 (.lst ms) := by
            refine ⟨_, ⟨fun v hv => ?_, by simp⟩, an1⟩
            simp only [List.mem_cons, List.not_mem_nil, or_false] at hv
            have l19 : (100 : Nat) ≤ 10 ^ 19 := by decide
            rcases hv with rfl | rfl
            · exact ⟨f3.toNat, by rw [Int.toNat_of_nonneg f30], by omega⟩
            · exact ⟨f4.toNat, by rw [Int.toNat_of_nonneg f40], by omega⟩
          walk_at "go"
          refine ⟨n1, fl, _, _, rfl, rfl, an1.at_, afl.at_, szl3 (by have := ems.2; have := efs.2; omega), fun n2 np => ?_⟩
          generalize hU : upd H27 n2 _ = H28
          obtain ⟨s, W7, an2⟩ := new_ofL W6 np hU
          replace hg := s _ _ hg
          replace wt := wt.same s
          have hn2 := an2.at_
          have nok : ∀ v, v ∈ ms ++ fs → ∃ n : Nat, v = .int n ∧ n ≤ 10 ^ 19 := fun v hv => (List.mem_append.mp hv).elim (ems.1 v) (efs.1 v)
          clear s W6 hU np an1 afl an2
          generalize ms ++ fs = nn at hn2 nok
          walk_at "go"
          refine ⟨⟨_, sqL_of hn2⟩, ?_⟩
          refine for_it (walk_list (xs := nn)) (fun i σ H3 => ∃ (y4 y5 y6 y7 y8 y9 y10 y12 y13 y14 y15 y16 : Option V), σ = [some (.ref a), some (.ref w), some (.int (0 + (i0 : Int))), some (.ref ag), y4, y5, y6, y7, y8, y9, y10, some (.ref p1), y12, y13, y14, y15, y16] ∧ Same H28 H3)
            ⟨_, _, _, _, _, _, _, _, _, _, _, _, rfl, fun _ _ e => e⟩ (fun i σ H3 _ px => ?_) (fun i v σ H3 H4 hi2 px yv => ?_) (fun σ H3 px => ?_)
          · obtain ⟨_, _, _, _, _, _, _, _, _, _, _, _, _, z⟩ := px
            exact sqL_of (z _ _ hn2)
          · obtain ⟨y4, y5, y6, y7, y8, y9, y10, y12, y13, y14, y15, y16, rfl, S⟩ := px
            obtain ⟨rfl, hv⟩ := yv
            obtain ⟨n, rfl, n19⟩ := nok v (List.mem_of_getElem? hv)
            have wt3 := wt.same S
            have hg3 := S _ _ hg
            have w8 := wth8 G n
            obtain ⟨M, dM, bM⟩ := two_ok K (D := .int (wth gs n : Nat)) (bd_int (B := 10 ^ 30) (i := (wth gs n : Nat)) (Nat.le_trans (show _ ≤ 8 by omega) (by decide)) (by decide)) (by decide) (by decide)
            walk_at "go"
            refine ⟨p1, a1, b1, gs, xx, yy, n, rfl, wt3, n19, ?_⟩
            walk_at "go"
            refine ⟨ag, gs, L, n, rfl, hg3, G, tp, n19, fun H5 s5 => ?_⟩
            have hg5 := s5 _ _ hg3
            walk_at "go"
            refine ⟨ag, gs, L, n, rfl, hg5, G, tp, n19, fun H6 s6 => ?_⟩
            walk_at "go"
            intro r1 np
            generalize hU : upd H6 r1 _ = H7
            obtain ⟨s7, hr1⟩ := new_of0 np hU
            refine repr_val (dM _ _ _ _ hr1 (.int _) (.int _)) bM.ok (by decide) (Nat.le_trans bM.wt (by decide)) (Nat.le_trans bM.dp (by decide)) ?_
            walk_at "go"
            intro r2 np2
            generalize hU2 : upd H7 r2 _ = H8
            obtain ⟨s8, hr2⟩ := new_of0 np2 hU2
            refine repr_val (dM _ _ _ _ hr2 (.int _) (.int _)) bM.ok (by decide) (Nat.le_trans bM.wt (by decide)) (Nat.le_trans bM.dp (by decide)) ?_
            walk_at "go"
            refine ifDn (fun c => absurd rfl c) (fun _ => ?_)
            exact ⟨_, _, _, _, _, _, _, _, _, _, _, _, rfl, (((S.trans s5).trans s6).trans s7).trans s8⟩
          · obtain ⟨y4, y5, y6, y7, y8, y9, y10, y12, y13, y14, y15, y16, rfl, S⟩ := px
            replace wt := wt.same S
            replace hg := S _ _ hg
            replace W7 := W7.same S
            clear S hn2 nok
            walk_at "go"
            refine ⟨w, g, c, _, rfl, W7, by omega, by omega, fun f5 H29 s W8 f50 f51 => ?_⟩
            replace hg := ((W7.tup hg).go s).at_
            replace wt := wt.go W7 s
            clear s W7
            walk_at "go"
            refine ⟨w, g, c, _, rfl, W8, by omega, by omega, fun f6 H30 s W7 f60 f61 => ?_⟩
            replace hg := ((W8.tup hg).go s).at_
            replace wt := wt.go W8 s
            clear s W8
            walk_at "go"
            dsimp only
            rw [e18]
            refine ⟨w, g, c, 10 ^ 18, rfl, W7, by decide, fun f7 H31 s W8 hf7 => ?_⟩
            replace hg := ((W7.tup hg).go s).at_
            replace wt := wt.go W7 s
            clear s W7
            walk_at "go"
            intro kl np
            generalize hU : upd H31 kl _ = H32
            obtain ⟨s, W7, akl⟩ := new_ofL W8 np hU
            replace hg := s _ _ hg
            replace wt := wt.same s
            clear s W8 hU np
            obtain ⟨kk, kok, akl⟩ : ∃ kk : List V, (∀ v, v ∈ kk → ∃ k : Nat, v = .int k) ∧ Ac w g c H32 kl (.lst kk) := by
              refine ⟨_, fun v hv => ?_, akl⟩
              simp only [List.mem_cons, List.not_mem_nil, or_false] at hv
              rcases hv with rfl | rfl | rfl | rfl | rfl | rfl
              · exact ⟨0, rfl⟩
              · exact ⟨1, rfl⟩
              · exact ⟨2, rfl⟩
              · refine ⟨3 + f5.toNat, ?_⟩
                have : (3 : Int) + f5 = ((3 + f5.toNat : Nat) : Int) := by omega
                rw [this]
              · exact ⟨f6.toNat, by rw [Int.toNat_of_nonneg f60]⟩
              · exact ⟨f7, rfl⟩
            have hkl := akl.at_
            clear akl
            walk_at "go"
            refine ⟨⟨_, sqL_of hkl⟩, ?_⟩
            refine for_it (D := { nx := _, rt := _ }) (walk_list (xs := kk)) (fun i σ H3 => ∃ (y4 y5 y6 y7 y8 y9 y10 y12 y13 y14 y15 y16 : Option V), σ = [some (.ref a), some (.ref w), some (.int (0 + (i0 : Int))), some (.ref ag), y4, y5, y6, y7, y8, y9, y10, some (.ref p1), y12, y13, y14, y15, y16] ∧ Same H32 H3)
              ⟨_, _, _, _, _, _, _, _, _, _, _, _, rfl, fun _ _ e => e⟩ (fun i σ H3 _ px => ?_) (fun i v σ H3 H4 hi2 px yv => ?_) (fun σ H3 px => ?_)
            · obtain ⟨_, _, _, _, _, _, _, _, _, _, _, _, _, z⟩ := px
              exact sqL_of (z _ _ hkl)
            · obtain ⟨y4, y5, y6, y7, y8, y9, y10, y12, y13, y14, y15, y16, rfl, S⟩ := px
              obtain ⟨rfl, hv⟩ := yv
              obtain ⟨k, rfl⟩ := kok v (List.mem_of_getElem? hv)
              replace wt := wt.same S
              replace hg := S _ _ hg
              walk_at "go"
              refine ⟨ag, gs, L, k, rfl, hg, G, tp, fun q1 H5 h1 u1 s hq1 pr1 row1 l1 l2 => ?_⟩
              replace wt := wt.same s
              replace hg := s _ _ hg
              replace S := S.trans s
              clear s
              obtain ⟨M, dM, bM⟩ := two_ok K (tab_bd row1 (by omega) (by omega)) (by decide) (by decide)
              walk_at "go"
              refine ⟨ag, gs, L, k, rfl, hg, G, tp, fun q2 H6 h2 u2 s hq2 pr2 row2 _ _ => ?_⟩
              obtain ⟨rfl, rfl⟩ := prim_uniq pr1 pr2 (row1.trans row2.symm)
              replace wt := wt.same s
              replace hq1 := s _ _ hq1
              replace S := S.trans s
              clear s pr2 row2 hg
              walk_at "go"
              intro r1 np
              generalize hU : upd H6 r1 _ = H7
              obtain ⟨s, hr1⟩ := new_of0 np hU
              refine repr_val (dM _ _ _ _ hr1 (tab_dp (s _ _ hq1)) (tab_dp (s _ _ hq2))) bM.ok (by decide) (Nat.le_trans bM.wt (by decide)) (Nat.le_trans bM.dp (by decide)) ?_
              replace wt := wt.same s
              replace S := S.trans s
              clear s hr1 hU np hq1 hq2
              walk_at "go"
              refine ⟨p1, a1, b1, gs, xx, yy, k, rfl, wt, fun q3 H8 h3 u3 s hq3 pr3 row3 _ _ => ?_⟩
              obtain ⟨rfl, rfl⟩ := prim_uniq pr1 pr3 (row1.trans row3.symm)
              replace S := S.trans s
              clear s pr3 row3 wt
              walk_at "go"
              intro r2 np
              generalize hU : upd H8 r2 _ = H9
              obtain ⟨s, hr2⟩ := new_of0 np hU
              replace hq3 := s _ _ hq3
              replace S := S.trans s
              clear s hU np
              walk_at "go"
              refine ⟨r2, 2, [.ref q3], rfl, rfl, hr2, by decide, by decide, (show 2 ≤ sizeLine by decide), fun r3 np => ?_⟩
              generalize hU : upd H9 r3 _ = H10
              obtain ⟨s, hr3⟩ := new_of0 np hU
              replace hr3 : H10 r3 = some (.lst [.ref q3, .ref q3]) := hr3
              refine repr_val (dM _ _ _ _ hr3 (tab_dp (s _ _ hq3)) (tab_dp (s _ _ hq3))) bM.ok (by decide) (Nat.le_trans bM.wt (by decide)) (Nat.le_trans bM.dp (by decide)) ?_
              walk_at "go"
              refine ifDn (fun c => absurd rfl c) (fun _ => ?_)
              exact ⟨_, _, _, _, _, _, _, _, _, _, _, _, rfl, S.trans s⟩
            · obtain ⟨y4, y5, y6, y7, y8, y9, y10, y12, y13, y14, y15, y16, rfl, S⟩ := px
              exact ⟨_, _, _, _, _, _, _, _, _, _, _, _, _, _, _, rfl, W7.same S⟩
    · obtain ⟨y2, y3, y4, y5, y6, y7, y8, y9, y10, y11, y12, y13, y14, y15, y16, rfl, W3⟩ := pz
      walk_at "go"
      exact q H3
end
theorem all_mk {l : PySem.W.OpenLaw} {w : World} {K : PySem.W.Frag} {h : Heap} {mg : Str → Option Value} {fa : Addr} (X : K.In h) (G : h.Ns mainGlobals mg) (hfa : mg "law" = some (.ref fa))
    {f_is_whole : Addr} {od_is_whole an_is_whole : Option Addr} {sl_is_whole : Array (Option Value)} {oc_is_whole kV_is_whole dc_is_whole pm_is_whole cd_is_whole ct_is_whole : Value}
    {f_is_ascending : Addr} {od_is_ascending an_is_ascending : Option Addr} {sl_is_ascending : Array (Option Value)} {oc_is_ascending kV_is_ascending dc_is_ascending pm_is_ascending cd_is_ascending ct_is_ascending : Value}
    {f_check_size : Addr} {od_check_size an_check_size : Option Addr} {sl_check_size : Array (Option Value)} {oc_check_size kV_check_size dc_check_size pm_check_size cd_check_size ct_check_size : Value}
    {f_table_error : Addr} {od_table_error an_table_error : Option Addr} {sl_table_error : Array (Option Value)} {oc_table_error kV_table_error dc_table_error pm_table_error cd_table_error ct_table_error : Value}
    {f_least : Addr} {od_least an_least : Option Addr} {sl_least : Array (Option Value)} {oc_least kV_least dc_least pm_least cd_least ct_least : Value}
    {f_table_of : Addr} {od_table_of an_table_of : Option Addr} {sl_table_of : Array (Option Value)} {oc_table_of kV_table_of dc_table_of pm_table_of cd_table_of ct_table_of : Value}
    {f_shortest : Addr} {od_shortest an_shortest : Option Addr} {sl_shortest : Array (Option Value)} {oc_shortest kV_shortest dc_shortest pm_shortest cd_shortest ct_shortest : Value}
    {f_alike : Addr} {od_alike an_alike : Option Addr} {sl_alike : Array (Option Value)} {oc_alike kV_alike dc_alike pm_alike cd_alike ct_alike : Value}
    {f_is_least : Addr} {od_is_least an_is_least : Option Addr} {sl_is_least : Array (Option Value)} {oc_is_least kV_is_least dc_is_least pm_is_least cd_is_least ct_is_least : Value}
    {f_moved : Addr} {od_moved an_moved : Option Addr} {sl_moved : Array (Option Value)} {oc_moved kV_moved dc_moved pm_moved cd_moved ct_moved : Value}
    {f_game_error : Addr} {od_game_error an_game_error : Option Addr} {sl_game_error : Array (Option Value)} {oc_game_error kV_game_error dc_game_error pm_game_error cd_game_error ct_game_error : Value}
    {f_lost : Addr} {od_lost an_lost : Option Addr} {sl_lost : Array (Option Value)} {oc_lost kV_lost dc_lost pm_lost cd_lost ct_lost : Value}
    {f_lost_last : Addr} {od_lost_last an_lost_last : Option Addr} {sl_lost_last : Array (Option Value)} {oc_lost_last kV_lost_last dc_lost_last pm_lost_last cd_lost_last ct_lost_last : Value}
    {f_worth_row : Addr} {od_worth_row an_worth_row : Option Addr} {sl_worth_row : Array (Option Value)} {oc_worth_row kV_worth_row dc_worth_row pm_worth_row cd_worth_row ct_worth_row : Value}
    {f_next_worth : Addr} {od_next_worth an_next_worth : Option Addr} {sl_next_worth : Array (Option Value)} {oc_next_worth kV_next_worth dc_next_worth pm_next_worth cd_next_worth ct_next_worth : Value}
    {f_worth : Addr} {od_worth an_worth : Option Addr} {sl_worth : Array (Option Value)} {oc_worth kV_worth dc_worth pm_worth cd_worth ct_worth : Value}
    {f_worth_at : Addr} {od_worth_at an_worth_at : Option Addr} {sl_worth_at : Array (Option Value)} {oc_worth_at kV_worth_at dc_worth_at pm_worth_at cd_worth_at ct_worth_at : Value}
    {f_gworths : Addr} {od_gworths an_gworths : Option Addr} {sl_gworths : Array (Option Value)} {oc_gworths kV_gworths dc_gworths pm_gworths cd_gworths ct_gworths : Value}
    {f_of_worth : Addr} {od_of_worth an_of_worth : Option Addr} {sl_of_worth : Array (Option Value)} {oc_of_worth kV_of_worth dc_of_worth pm_of_worth cd_of_worth ct_of_worth : Value}
    {f_purse_error : Addr} {od_purse_error an_purse_error : Option Addr} {sl_purse_error : Array (Option Value)} {oc_purse_error kV_purse_error dc_purse_error pm_purse_error cd_purse_error ct_purse_error : Value}
    {f_watches_error : Addr} {od_watches_error an_watches_error : Option Addr} {sl_watches_error : Array (Option Value)} {oc_watches_error kV_watches_error dc_watches_error pm_watches_error cd_watches_error ct_watches_error : Value}
    {f_web_error : Addr} {od_web_error an_web_error : Option Addr} {sl_web_error : Array (Option Value)} {oc_web_error kV_web_error dc_web_error pm_web_error cd_web_error ct_web_error : Value}
    {f_maker_error : Addr} {od_maker_error an_maker_error : Option Addr} {sl_maker_error : Array (Option Value)} {oc_maker_error kV_maker_error dc_maker_error pm_maker_error cd_maker_error ct_maker_error : Value}
    {f_wrong_word : Addr} {od_wrong_word an_wrong_word : Option Addr} {sl_wrong_word : Array (Option Value)} {oc_wrong_word kV_wrong_word dc_wrong_word pm_wrong_word cd_wrong_word ct_wrong_word : Value}
    {f_fits_one : Addr} {od_fits_one an_fits_one : Option Addr} {sl_fits_one : Array (Option Value)} {oc_fits_one kV_fits_one dc_fits_one pm_fits_one cd_fits_one ct_fits_one : Value}
    {f_fits_two : Addr} {od_fits_two an_fits_two : Option Addr} {sl_fits_two : Array (Option Value)} {oc_fits_two kV_fits_two dc_fits_two pm_fits_two cd_fits_two ct_fits_two : Value}
    {f_deck : Addr} {od_deck an_deck : Option Addr} {sl_deck : Array (Option Value)} {oc_deck kV_deck dc_deck pm_deck cd_deck ct_deck : Value}
    {f_draw : Addr} {od_draw an_draw : Option Addr} {sl_draw : Array (Option Value)} {oc_draw kV_draw dc_draw pm_draw cd_draw ct_draw : Value}
    {f_one : Addr} {od_one an_one : Option Addr} {sl_one : Array (Option Value)} {oc_one kV_one dc_one pm_one cd_one ct_one : Value}
    {f_far : Addr} {od_far an_far : Option Addr} {sl_far : Array (Option Value)} {oc_far kV_far dc_far pm_far cd_far ct_far : Value}
    {f_lleast : Addr} {od_lleast an_lleast : Option Addr} {sl_lleast : Array (Option Value)} {oc_lleast kV_lleast dc_lleast pm_lleast cd_lleast ct_lleast : Value}
    {f_lsigns : Addr} {od_lsigns an_lsigns : Option Addr} {sl_lsigns : Array (Option Value)} {oc_lsigns kV_lsigns dc_lsigns pm_lsigns cd_lsigns ct_lsigns : Value}
    {f_game : Addr} {od_game an_game : Option Addr} {sl_game : Array (Option Value)} {oc_game kV_game dc_game pm_game cd_game ct_game : Value}
    {f_worths : Addr} {od_worths an_worths : Option Addr} {sl_worths : Array (Option Value)} {oc_worths kV_worths dc_worths pm_worths cd_worths ct_worths : Value}
    {f_lworth_at : Addr} {od_lworth_at an_lworth_at : Option Addr} {sl_lworth_at : Array (Option Value)} {oc_lworth_at kV_lworth_at dc_lworth_at pm_lworth_at cd_lworth_at ct_lworth_at : Value}
    {f_lof : Addr} {od_lof an_lof : Option Addr} {sl_lof : Array (Option Value)} {oc_lof kV_lof dc_lof pm_lof cd_lof ct_lof : Value}
    {f_odd : Addr} {od_odd an_odd : Option Addr} {sl_odd : Array (Option Value)} {oc_odd kV_odd dc_odd pm_odd cd_odd ct_odd : Value}
    {f_bent : Addr} {od_bent an_bent : Option Addr} {sl_bent : Array (Option Value)} {oc_bent kV_bent dc_bent pm_bent cd_bent ct_bent : Value}
    {f_lis_game : Addr} {od_lis_game an_lis_game : Option Addr} {sl_lis_game : Array (Option Value)} {oc_lis_game kV_lis_game dc_lis_game pm_lis_game cd_lis_game ct_lis_game : Value}
    {f_last_row : Addr} {od_last_row an_last_row : Option Addr} {sl_last_row : Array (Option Value)} {oc_last_row kV_last_row dc_last_row pm_last_row cd_last_row ct_last_row : Value}
    {f_law : Addr} {od_law an_law : Option Addr} {sl_law : Array (Option Value)} {oc_law kV_law dc_law pm_law cd_law ct_law : Value}
    (a_is_whole : PySem.W.nsIn K mainGlobals "is_whole" = some (some (.ref f_is_whole)))
    (l_is_whole : K.lookup f_is_whole = some ⟨oc_is_whole, od_is_whole, .func (PySem.W.fnOf "is_whole" "is_whole" (defArgs s_is_whole) (defBody s_is_whole) (defScope s_is_whole) .none kV_is_whole dc_is_whole pm_is_whole an_is_whole cd_is_whole ct_is_whole), sl_is_whole⟩)
    (c_is_whole : PySem.W.codeIn K cd_is_whole "is_whole" = true) (k_is_whole : PySem.W.keepIn K (.ref f_is_whole) = true)
    (a_is_ascending : PySem.W.nsIn K mainGlobals "is_ascending" = some (some (.ref f_is_ascending)))
    (l_is_ascending : K.lookup f_is_ascending = some ⟨oc_is_ascending, od_is_ascending, .func (PySem.W.fnOf "is_ascending" "is_ascending" (defArgs s_is_ascending) (defBody s_is_ascending) (defScope s_is_ascending) .none kV_is_ascending dc_is_ascending pm_is_ascending an_is_ascending cd_is_ascending ct_is_ascending), sl_is_ascending⟩)
    (c_is_ascending : PySem.W.codeIn K cd_is_ascending "is_ascending" = true) (k_is_ascending : PySem.W.keepIn K (.ref f_is_ascending) = true)
    (a_check_size : PySem.W.nsIn K mainGlobals "check_size" = some (some (.ref f_check_size)))
    (l_check_size : K.lookup f_check_size = some ⟨oc_check_size, od_check_size, .func (PySem.W.fnOf "check_size" "check_size" (defArgs s_check_size) (defBody s_check_size) (defScope s_check_size) .none kV_check_size dc_check_size pm_check_size an_check_size cd_check_size ct_check_size), sl_check_size⟩)
    (c_check_size : PySem.W.codeIn K cd_check_size "check_size" = true) (k_check_size : PySem.W.keepIn K (.ref f_check_size) = true)
    (a_table_error : PySem.W.nsIn K mainGlobals "table_error" = some (some (.ref f_table_error)))
    (l_table_error : K.lookup f_table_error = some ⟨oc_table_error, od_table_error, .func (PySem.W.fnOf "table_error" "table_error" (defArgs s_table_error) (defBody s_table_error) (defScope s_table_error) .none kV_table_error dc_table_error pm_table_error an_table_error cd_table_error ct_table_error), sl_table_error⟩)
    (c_table_error : PySem.W.codeIn K cd_table_error "table_error" = true) (k_table_error : PySem.W.keepIn K (.ref f_table_error) = true)
    (a_least : PySem.W.nsIn K mainGlobals "least" = some (some (.ref f_least)))
    (l_least : K.lookup f_least = some ⟨oc_least, od_least, .func (PySem.W.fnOf "least" "least" (defArgs s_least) (defBody s_least) (defScope s_least) .none kV_least dc_least pm_least an_least cd_least ct_least), sl_least⟩)
    (c_least : PySem.W.codeIn K cd_least "least" = true) (k_least : PySem.W.keepIn K (.ref f_least) = true)
    (a_table_of : PySem.W.nsIn K mainGlobals "table_of" = some (some (.ref f_table_of)))
    (l_table_of : K.lookup f_table_of = some ⟨oc_table_of, od_table_of, .func (PySem.W.fnOf "table_of" "table_of" (defArgs s_table_of) (defBody s_table_of) (defScope s_table_of) .none kV_table_of dc_table_of pm_table_of an_table_of cd_table_of ct_table_of), sl_table_of⟩)
    (c_table_of : PySem.W.codeIn K cd_table_of "table_of" = true) (k_table_of : PySem.W.keepIn K (.ref f_table_of) = true)
    (a_shortest : PySem.W.nsIn K mainGlobals "_shortest_turn" = some (some (.ref f_shortest)))
    (l_shortest : K.lookup f_shortest = some ⟨oc_shortest, od_shortest, .func (PySem.W.fnOf "_shortest_turn" "_shortest_turn" (defArgs s_shortest) (defBody s_shortest) (defScope s_shortest) .none kV_shortest dc_shortest pm_shortest an_shortest cd_shortest ct_shortest), sl_shortest⟩)
    (c_shortest : PySem.W.codeIn K cd_shortest "_shortest_turn" = true) (k_shortest : PySem.W.keepIn K (.ref f_shortest) = true)
    (a_alike : PySem.W.nsIn K mainGlobals "_alike_signs" = some (some (.ref f_alike)))
    (l_alike : K.lookup f_alike = some ⟨oc_alike, od_alike, .func (PySem.W.fnOf "_alike_signs" "_alike_signs" (defArgs s_alike) (defBody s_alike) (defScope s_alike) .none kV_alike dc_alike pm_alike an_alike cd_alike ct_alike), sl_alike⟩)
    (c_alike : PySem.W.codeIn K cd_alike "_alike_signs" = true) (k_alike : PySem.W.keepIn K (.ref f_alike) = true)
    (a_is_least : PySem.W.nsIn K mainGlobals "is_least" = some (some (.ref f_is_least)))
    (l_is_least : K.lookup f_is_least = some ⟨oc_is_least, od_is_least, .func (PySem.W.fnOf "is_least" "is_least" (defArgs s_is_least) (defBody s_is_least) (defScope s_is_least) .none kV_is_least dc_is_least pm_is_least an_is_least cd_is_least ct_is_least), sl_is_least⟩)
    (c_is_least : PySem.W.codeIn K cd_is_least "is_least" = true) (k_is_least : PySem.W.keepIn K (.ref f_is_least) = true)
    (a_moved : PySem.W.nsIn K mainGlobals "moved" = some (some (.ref f_moved)))
    (l_moved : K.lookup f_moved = some ⟨oc_moved, od_moved, .func (PySem.W.fnOf "moved" "moved" (defArgs s_moved) (defBody s_moved) (defScope s_moved) .none kV_moved dc_moved pm_moved an_moved cd_moved ct_moved), sl_moved⟩)
    (c_moved : PySem.W.codeIn K cd_moved "moved" = true) (k_moved : PySem.W.keepIn K (.ref f_moved) = true)
    (a_game_error : PySem.W.nsIn K mainGlobals "game_error" = some (some (.ref f_game_error)))
    (l_game_error : K.lookup f_game_error = some ⟨oc_game_error, od_game_error, .func (PySem.W.fnOf "game_error" "game_error" (defArgs s_game_error) (defBody s_game_error) (defScope s_game_error) .none kV_game_error dc_game_error pm_game_error an_game_error cd_game_error ct_game_error), sl_game_error⟩)
    (c_game_error : PySem.W.codeIn K cd_game_error "game_error" = true) (k_game_error : PySem.W.keepIn K (.ref f_game_error) = true)
    (a_lost : PySem.W.nsIn K mainGlobals "lost" = some (some (.ref f_lost)))
    (l_lost : K.lookup f_lost = some ⟨oc_lost, od_lost, .func (PySem.W.fnOf "lost" "lost" (defArgs s_lost) (defBody s_lost) (defScope s_lost) .none kV_lost dc_lost pm_lost an_lost cd_lost ct_lost), sl_lost⟩)
    (c_lost : PySem.W.codeIn K cd_lost "lost" = true) (k_lost : PySem.W.keepIn K (.ref f_lost) = true)
    (a_lost_last : PySem.W.nsIn K mainGlobals "lost_last" = some (some (.ref f_lost_last)))
    (l_lost_last : K.lookup f_lost_last = some ⟨oc_lost_last, od_lost_last, .func (PySem.W.fnOf "lost_last" "lost_last" (defArgs s_lost_last) (defBody s_lost_last) (defScope s_lost_last) .none kV_lost_last dc_lost_last pm_lost_last an_lost_last cd_lost_last ct_lost_last), sl_lost_last⟩)
    (c_lost_last : PySem.W.codeIn K cd_lost_last "lost_last" = true) (k_lost_last : PySem.W.keepIn K (.ref f_lost_last) = true)
    (a_worth_row : PySem.W.nsIn K mainGlobals "_worth_row" = some (some (.ref f_worth_row)))
    (l_worth_row : K.lookup f_worth_row = some ⟨oc_worth_row, od_worth_row, .func (PySem.W.fnOf "_worth_row" "_worth_row" (defArgs s_worth_row) (defBody s_worth_row) (defScope s_worth_row) .none kV_worth_row dc_worth_row pm_worth_row an_worth_row cd_worth_row ct_worth_row), sl_worth_row⟩)
    (c_worth_row : PySem.W.codeIn K cd_worth_row "_worth_row" = true) (k_worth_row : PySem.W.keepIn K (.ref f_worth_row) = true)
    (a_next_worth : PySem.W.nsIn K mainGlobals "_next_worth" = some (some (.ref f_next_worth)))
    (l_next_worth : K.lookup f_next_worth = some ⟨oc_next_worth, od_next_worth, .func (PySem.W.fnOf "_next_worth" "_next_worth" (defArgs s_next_worth) (defBody s_next_worth) (defScope s_next_worth) .none kV_next_worth dc_next_worth pm_next_worth an_next_worth cd_next_worth ct_next_worth), sl_next_worth⟩)
    (c_next_worth : PySem.W.codeIn K cd_next_worth "_next_worth" = true) (k_next_worth : PySem.W.keepIn K (.ref f_next_worth) = true)
    (a_worth : PySem.W.nsIn K mainGlobals "worth" = some (some (.ref f_worth)))
    (l_worth : K.lookup f_worth = some ⟨oc_worth, od_worth, .func (PySem.W.fnOf "worth" "worth" (defArgs s_worth) (defBody s_worth) (defScope s_worth) .none kV_worth dc_worth pm_worth an_worth cd_worth ct_worth), sl_worth⟩)
    (c_worth : PySem.W.codeIn K cd_worth "worth" = true) (k_worth : PySem.W.keepIn K (.ref f_worth) = true)
    (a_worth_at : PySem.W.nsIn K mainGlobals "_worth_at" = some (some (.ref f_worth_at)))
    (l_worth_at : K.lookup f_worth_at = some ⟨oc_worth_at, od_worth_at, .func (PySem.W.fnOf "_worth_at" "_worth_at" (defArgs s_worth_at) (defBody s_worth_at) (defScope s_worth_at) .none kV_worth_at dc_worth_at pm_worth_at an_worth_at cd_worth_at ct_worth_at), sl_worth_at⟩)
    (c_worth_at : PySem.W.codeIn K cd_worth_at "_worth_at" = true) (k_worth_at : PySem.W.keepIn K (.ref f_worth_at) = true)
    (a_gworths : PySem.W.nsIn K mainGlobals "worths" = some (some (.ref f_gworths)))
    (l_gworths : K.lookup f_gworths = some ⟨oc_gworths, od_gworths, .func (PySem.W.fnOf "worths" "worths" (defArgs s_gworths) (defBody s_gworths) (defScope s_gworths) .none kV_gworths dc_gworths pm_gworths an_gworths cd_gworths ct_gworths), sl_gworths⟩)
    (c_gworths : PySem.W.codeIn K cd_gworths "worths" = true) (k_gworths : PySem.W.keepIn K (.ref f_gworths) = true)
    (a_of_worth : PySem.W.nsIn K mainGlobals "of_worth" = some (some (.ref f_of_worth)))
    (l_of_worth : K.lookup f_of_worth = some ⟨oc_of_worth, od_of_worth, .func (PySem.W.fnOf "of_worth" "of_worth" (defArgs s_of_worth) (defBody s_of_worth) (defScope s_of_worth) .none kV_of_worth dc_of_worth pm_of_worth an_of_worth cd_of_worth ct_of_worth), sl_of_worth⟩)
    (c_of_worth : PySem.W.codeIn K cd_of_worth "of_worth" = true) (k_of_worth : PySem.W.keepIn K (.ref f_of_worth) = true)
    (a_purse_error : PySem.W.nsIn K mainGlobals "purse_error" = some (some (.ref f_purse_error)))
    (l_purse_error : K.lookup f_purse_error = some ⟨oc_purse_error, od_purse_error, .func (PySem.W.fnOf "purse_error" "purse_error" (defArgs s_purse_error) (defBody s_purse_error) (defScope s_purse_error) .none kV_purse_error dc_purse_error pm_purse_error an_purse_error cd_purse_error ct_purse_error), sl_purse_error⟩)
    (c_purse_error : PySem.W.codeIn K cd_purse_error "purse_error" = true) (k_purse_error : PySem.W.keepIn K (.ref f_purse_error) = true)
    (a_watches_error : PySem.W.nsIn K mainGlobals "watches_error" = some (some (.ref f_watches_error)))
    (l_watches_error : K.lookup f_watches_error = some ⟨oc_watches_error, od_watches_error, .func (PySem.W.fnOf "watches_error" "watches_error" (defArgs s_watches_error) (defBody s_watches_error) (defScope s_watches_error) .none kV_watches_error dc_watches_error pm_watches_error an_watches_error cd_watches_error ct_watches_error), sl_watches_error⟩)
    (c_watches_error : PySem.W.codeIn K cd_watches_error "watches_error" = true) (k_watches_error : PySem.W.keepIn K (.ref f_watches_error) = true)
    (a_web_error : PySem.W.nsIn K mainGlobals "web_error" = some (some (.ref f_web_error)))
    (l_web_error : K.lookup f_web_error = some ⟨oc_web_error, od_web_error, .func (PySem.W.fnOf "web_error" "web_error" (defArgs s_web_error) (defBody s_web_error) (defScope s_web_error) .none kV_web_error dc_web_error pm_web_error an_web_error cd_web_error ct_web_error), sl_web_error⟩)
    (c_web_error : PySem.W.codeIn K cd_web_error "web_error" = true) (k_web_error : PySem.W.keepIn K (.ref f_web_error) = true)
    (a_maker_error : PySem.W.nsIn K mainGlobals "maker_error" = some (some (.ref f_maker_error)))
    (l_maker_error : K.lookup f_maker_error = some ⟨oc_maker_error, od_maker_error, .func (PySem.W.fnOf "maker_error" "maker_error" (defArgs s_maker_error) (defBody s_maker_error) (defScope s_maker_error) .none kV_maker_error dc_maker_error pm_maker_error an_maker_error cd_maker_error ct_maker_error), sl_maker_error⟩)
    (c_maker_error : PySem.W.codeIn K cd_maker_error "maker_error" = true) (k_maker_error : PySem.W.keepIn K (.ref f_maker_error) = true)
    (a_wrong_word : PySem.W.nsIn K mainGlobals "_wrong_word" = some (some (.ref f_wrong_word)))
    (l_wrong_word : K.lookup f_wrong_word = some ⟨oc_wrong_word, od_wrong_word, .func (PySem.W.fnOf "_wrong_word" "_wrong_word" (defArgs s_wrong_word) (defBody s_wrong_word) (defScope s_wrong_word) .none kV_wrong_word dc_wrong_word pm_wrong_word an_wrong_word cd_wrong_word ct_wrong_word), sl_wrong_word⟩)
    (c_wrong_word : PySem.W.codeIn K cd_wrong_word "_wrong_word" = true) (k_wrong_word : PySem.W.keepIn K (.ref f_wrong_word) = true)
    (a_fits_one : PySem.W.nsIn K mainGlobals "_fits_one" = some (some (.ref f_fits_one)))
    (l_fits_one : K.lookup f_fits_one = some ⟨oc_fits_one, od_fits_one, .func (PySem.W.fnOf "_fits_one" "_fits_one" (defArgs s_fits_one) (defBody s_fits_one) (defScope s_fits_one) .none kV_fits_one dc_fits_one pm_fits_one an_fits_one cd_fits_one ct_fits_one), sl_fits_one⟩)
    (c_fits_one : PySem.W.codeIn K cd_fits_one "_fits_one" = true) (k_fits_one : PySem.W.keepIn K (.ref f_fits_one) = true)
    (a_fits_two : PySem.W.nsIn K mainGlobals "_fits_two" = some (some (.ref f_fits_two)))
    (l_fits_two : K.lookup f_fits_two = some ⟨oc_fits_two, od_fits_two, .func (PySem.W.fnOf "_fits_two" "_fits_two" (defArgs s_fits_two) (defBody s_fits_two) (defScope s_fits_two) .none kV_fits_two dc_fits_two pm_fits_two an_fits_two cd_fits_two ct_fits_two), sl_fits_two⟩)
    (c_fits_two : PySem.W.codeIn K cd_fits_two "_fits_two" = true) (k_fits_two : PySem.W.keepIn K (.ref f_fits_two) = true)
    (a_deck : PySem.W.nsIn K mainGlobals "_law_deck" = some (some (.ref f_deck)))
    (l_deck : K.lookup f_deck = some ⟨oc_deck, od_deck, .func (PySem.W.fnOf "_law_deck" "_law_deck" (defArgs s_deck) (defBody s_deck) (defScope s_deck) .none kV_deck dc_deck pm_deck an_deck cd_deck ct_deck), sl_deck⟩)
    (c_deck : PySem.W.codeIn K cd_deck "_law_deck" = true) (k_deck : PySem.W.keepIn K (.ref f_deck) = true)
    (a_draw : PySem.W.nsIn K mainGlobals "_law_draw" = some (some (.ref f_draw)))
    (l_draw : K.lookup f_draw = some ⟨oc_draw, od_draw, .func (PySem.W.fnOf "_law_draw" "_law_draw" (defArgs s_draw) (defBody s_draw) (defScope s_draw) .none kV_draw dc_draw pm_draw an_draw cd_draw ct_draw), sl_draw⟩)
    (c_draw : PySem.W.codeIn K cd_draw "_law_draw" = true) (k_draw : PySem.W.keepIn K (.ref f_draw) = true)
    (a_one : PySem.W.nsIn K mainGlobals "_law_one" = some (some (.ref f_one)))
    (l_one : K.lookup f_one = some ⟨oc_one, od_one, .func (PySem.W.fnOf "_law_one" "_law_one" (defArgs s_one) (defBody s_one) (defScope s_one) .none kV_one dc_one pm_one an_one cd_one ct_one), sl_one⟩)
    (c_one : PySem.W.codeIn K cd_one "_law_one" = true) (k_one : PySem.W.keepIn K (.ref f_one) = true)
    (a_far : PySem.W.nsIn K mainGlobals "_law_far" = some (some (.ref f_far)))
    (l_far : K.lookup f_far = some ⟨oc_far, od_far, .func (PySem.W.fnOf "_law_far" "_law_far" (defArgs s_far) (defBody s_far) (defScope s_far) .none kV_far dc_far pm_far an_far cd_far ct_far), sl_far⟩)
    (c_far : PySem.W.codeIn K cd_far "_law_far" = true) (k_far : PySem.W.keepIn K (.ref f_far) = true)
    (a_lleast : PySem.W.nsIn K mainGlobals "_law_least" = some (some (.ref f_lleast)))
    (l_lleast : K.lookup f_lleast = some ⟨oc_lleast, od_lleast, .func (PySem.W.fnOf "_law_least" "_law_least" (defArgs s_lleast) (defBody s_lleast) (defScope s_lleast) .none kV_lleast dc_lleast pm_lleast an_lleast cd_lleast ct_lleast), sl_lleast⟩)
    (c_lleast : PySem.W.codeIn K cd_lleast "_law_least" = true) (k_lleast : PySem.W.keepIn K (.ref f_lleast) = true)
    (a_lsigns : PySem.W.nsIn K mainGlobals "_law_signs" = some (some (.ref f_lsigns)))
    (l_lsigns : K.lookup f_lsigns = some ⟨oc_lsigns, od_lsigns, .func (PySem.W.fnOf "_law_signs" "_law_signs" (defArgs s_lsigns) (defBody s_lsigns) (defScope s_lsigns) .none kV_lsigns dc_lsigns pm_lsigns an_lsigns cd_lsigns ct_lsigns), sl_lsigns⟩)
    (c_lsigns : PySem.W.codeIn K cd_lsigns "_law_signs" = true) (k_lsigns : PySem.W.keepIn K (.ref f_lsigns) = true)
    (a_game : PySem.W.nsIn K mainGlobals "_law_game" = some (some (.ref f_game)))
    (l_game : K.lookup f_game = some ⟨oc_game, od_game, .func (PySem.W.fnOf "_law_game" "_law_game" (defArgs s_game) (defBody s_game) (defScope s_game) .none kV_game dc_game pm_game an_game cd_game ct_game), sl_game⟩)
    (c_game : PySem.W.codeIn K cd_game "_law_game" = true) (k_game : PySem.W.keepIn K (.ref f_game) = true)
    (a_worths : PySem.W.nsIn K mainGlobals "_law_worths" = some (some (.ref f_worths)))
    (l_worths : K.lookup f_worths = some ⟨oc_worths, od_worths, .func (PySem.W.fnOf "_law_worths" "_law_worths" (defArgs s_worths) (defBody s_worths) (defScope s_worths) .none kV_worths dc_worths pm_worths an_worths cd_worths ct_worths), sl_worths⟩)
    (c_worths : PySem.W.codeIn K cd_worths "_law_worths" = true) (k_worths : PySem.W.keepIn K (.ref f_worths) = true)
    (a_lworth_at : PySem.W.nsIn K mainGlobals "_law_worth_at" = some (some (.ref f_lworth_at)))
    (l_lworth_at : K.lookup f_lworth_at = some ⟨oc_lworth_at, od_lworth_at, .func (PySem.W.fnOf "_law_worth_at" "_law_worth_at" (defArgs s_lworth_at) (defBody s_lworth_at) (defScope s_lworth_at) .none kV_lworth_at dc_lworth_at pm_lworth_at an_lworth_at cd_lworth_at ct_lworth_at), sl_lworth_at⟩)
    (c_lworth_at : PySem.W.codeIn K cd_lworth_at "_law_worth_at" = true) (k_lworth_at : PySem.W.keepIn K (.ref f_lworth_at) = true)
    (a_lof : PySem.W.nsIn K mainGlobals "_law_of" = some (some (.ref f_lof)))
    (l_lof : K.lookup f_lof = some ⟨oc_lof, od_lof, .func (PySem.W.fnOf "_law_of" "_law_of" (defArgs s_lof) (defBody s_lof) (defScope s_lof) .none kV_lof dc_lof pm_lof an_lof cd_lof ct_lof), sl_lof⟩)
    (c_lof : PySem.W.codeIn K cd_lof "_law_of" = true) (k_lof : PySem.W.keepIn K (.ref f_lof) = true)
    (a_odd : PySem.W.nsIn K mainGlobals "_law_odd" = some (some (.ref f_odd)))
    (l_odd : K.lookup f_odd = some ⟨oc_odd, od_odd, .func (PySem.W.fnOf "_law_odd" "_law_odd" (defArgs s_odd) (defBody s_odd) (defScope s_odd) .none kV_odd dc_odd pm_odd an_odd cd_odd ct_odd), sl_odd⟩)
    (c_odd : PySem.W.codeIn K cd_odd "_law_odd" = true) (k_odd : PySem.W.keepIn K (.ref f_odd) = true)
    (a_bent : PySem.W.nsIn K mainGlobals "_law_bent" = some (some (.ref f_bent)))
    (l_bent : K.lookup f_bent = some ⟨oc_bent, od_bent, .func (PySem.W.fnOf "_law_bent" "_law_bent" (defArgs s_bent) (defBody s_bent) (defScope s_bent) .none kV_bent dc_bent pm_bent an_bent cd_bent ct_bent), sl_bent⟩)
    (c_bent : PySem.W.codeIn K cd_bent "_law_bent" = true) (k_bent : PySem.W.keepIn K (.ref f_bent) = true)
    (a_lis_game : PySem.W.nsIn K mainGlobals "_law_is_game" = some (some (.ref f_lis_game)))
    (l_lis_game : K.lookup f_lis_game = some ⟨oc_lis_game, od_lis_game, .func (PySem.W.fnOf "_law_is_game" "_law_is_game" (defArgs s_lis_game) (defBody s_lis_game) (defScope s_lis_game) .none kV_lis_game dc_lis_game pm_lis_game an_lis_game cd_lis_game ct_lis_game), sl_lis_game⟩)
    (c_lis_game : PySem.W.codeIn K cd_lis_game "_law_is_game" = true) (k_lis_game : PySem.W.keepIn K (.ref f_lis_game) = true)
    (a_last_row : PySem.W.nsIn K mainGlobals "_law_last_row" = some (some (.ref f_last_row)))
    (l_last_row : K.lookup f_last_row = some ⟨oc_last_row, od_last_row, .func (PySem.W.fnOf "_law_last_row" "_law_last_row" (defArgs s_last_row) (defBody s_last_row) (defScope s_last_row) .none kV_last_row dc_last_row pm_last_row an_last_row cd_last_row ct_last_row), sl_last_row⟩)
    (c_last_row : PySem.W.codeIn K cd_last_row "_law_last_row" = true) (k_last_row : PySem.W.keepIn K (.ref f_last_row) = true)
    (a_law : PySem.W.nsIn K mainGlobals "law" = some (some (.ref f_law)))
    (l_law : K.lookup f_law = some ⟨oc_law, od_law, .func (PySem.W.fnOf "law" "law" (defArgs s_law) (defBody s_law) (defScope s_law) .none kV_law dc_law pm_law an_law cd_law ct_law), sl_law⟩)
    (c_law : PySem.W.codeIn K cd_law "law" = true) (k_law : PySem.W.keepIn K (.ref f_law) = true)
    (z_all : PySem.W.nsIn K mainGlobals "all" = some none)
    (z_bool : PySem.W.nsIn K mainGlobals "bool" = some none)
    (z_enumerate : PySem.W.nsIn K mainGlobals "enumerate" = some none)
    (z_int : PySem.W.nsIn K mainGlobals "int" = some none)
    (z_isinstance : PySem.W.nsIn K mainGlobals "isinstance" = some none)
    (z_len : PySem.W.nsIn K mainGlobals "len" = some none)
    (z_list : PySem.W.nsIn K mainGlobals "list" = some none)
    (z_max : PySem.W.nsIn K mainGlobals "max" = some none)
    (z_range : PySem.W.nsIn K mainGlobals "range" = some none)
    (z_repr : PySem.W.nsIn K mainGlobals "repr" = some none)
    (z_sorted : PySem.W.nsIn K mainGlobals "sorted" = some none)
    (z_str : PySem.W.nsIn K mainGlobals "str" = some none)
    (z_sum : PySem.W.nsIn K mainGlobals "sum" = some none)
    (z_tuple : PySem.W.nsIn K mainGlobals "tuple" = some none)
    (z_zip : PySem.W.nsIn K mainGlobals "zip" = some none)
    {f__ITEMS_BEHIND : Addr} {e__ITEMS_BEHIND : Array DictEntry} {n__ITEMS_BEHIND : Nat} (a__ITEMS_BEHIND : PySem.W.nsIn K mainGlobals "_ITEMS_BEHIND" = some (some (.ref f__ITEMS_BEHIND)))
    (l__ITEMS_BEHIND : K.lookup f__ITEMS_BEHIND = some { cls := .type "dict", data := .dict e__ITEMS_BEHIND n__ITEMS_BEHIND })
    (t__ITEMS_BEHIND : PySem.W.KeysLit w.params e__ITEMS_BEHIND.toList) (w__ITEMS_BEHIND : (f__ITEMS_BEHIND == sysModules) = false)
    (y__ITEMS_BEHIND : ∀ z, ∃ r, lookE e__ITEMS_BEHIND z = some r ∧ dvOk [(("table" : Str), 1), (("watches" : Str), 1), (("coins" : Str), 1), (("web" : Str), 1), (("game" : Str), 1), (("book" : Str), 2), (("program" : Str), 2), (("row" : Str), 2), (("saying" : Str), 2)] z r)
    {t_MAX_HEAD : Tok} (m_MAX_HEAD : PySem.W.nsIn K mainGlobals "MAX_HEAD" = some (some (.int 5000 t_MAX_HEAD)))
    {t_MAX_TURN : Tok} (m_MAX_TURN : PySem.W.nsIn K mainGlobals "MAX_TURN" = some (some (.int 5000 t_MAX_TURN)))
    {t_MAX_TAKE : Tok} (m_MAX_TAKE : PySem.W.nsIn K mainGlobals "MAX_TAKE" = some (some (.int 8 t_MAX_TAKE)))
    {t__MOST_TAKES : Tok} (m__MOST_TAKES : PySem.W.nsIn K mainGlobals "_MOST_TAKES" = some (some (.int 8 t__MOST_TAKES)))
    {t__MOST_MAKERS : Tok} (m__MOST_MAKERS : PySem.W.nsIn K mainGlobals "_MOST_MAKERS" = some (some (.int 9 t__MOST_MAKERS)))
    {t__MOST_PATH : Tok} (m__MOST_PATH : PySem.W.nsIn K mainGlobals "_MOST_PATH" = some (some (.int 2 t__MOST_PATH)))
    : ∃ fd : FuncData, (∀ (s : Shared) (v : Value), BindsTo s fd ⟨[v], []⟩ [("_law_script", v)]) ∧ ∀ base : Heap, K.In base → base.Ns mainGlobals mg → HasSys base → FnG l.prog w K mg base 8 fa fd ["_law_script"] (spLaw K) := by
  have e := hfa.symm.trans (PySem.W.mg_of X G a_law)
  cases e
  let T : Tp K mg := {
    a_is_whole := f_is_whole, d_is_whole := _, F_is_whole := fun_mk (st := s_is_whole) l_is_whole c_is_whole k_is_whole, g_is_whole := PySem.W.mg_of X G a_is_whole,
    a_is_ascending := f_is_ascending, d_is_ascending := _, F_is_ascending := fun_mk (st := s_is_ascending) l_is_ascending c_is_ascending k_is_ascending, g_is_ascending := PySem.W.mg_of X G a_is_ascending,
    a_check_size := f_check_size, d_check_size := _, F_check_size := fun_mk (st := s_check_size) l_check_size c_check_size k_check_size, g_check_size := PySem.W.mg_of X G a_check_size,
    a_table_error := f_table_error, d_table_error := _, F_table_error := fun_mk (st := s_table_error) l_table_error c_table_error k_table_error, g_table_error := PySem.W.mg_of X G a_table_error,
    a_least := f_least, d_least := _, F_least := fun_mk (st := s_least) l_least c_least k_least, g_least := PySem.W.mg_of X G a_least,
    a_table_of := f_table_of, d_table_of := _, F_table_of := fun_mk (st := s_table_of) l_table_of c_table_of k_table_of, g_table_of := PySem.W.mg_of X G a_table_of,
    a_shortest := f_shortest, d_shortest := _, F_shortest := fun_mk (st := s_shortest) l_shortest c_shortest k_shortest, g_shortest := PySem.W.mg_of X G a_shortest,
    a_alike := f_alike, d_alike := _, F_alike := fun_mk (st := s_alike) l_alike c_alike k_alike, g_alike := PySem.W.mg_of X G a_alike,
    a_is_least := f_is_least, d_is_least := _, F_is_least := fun_mk (st := s_is_least) l_is_least c_is_least k_is_least, g_is_least := PySem.W.mg_of X G a_is_least,
    a_moved := f_moved, d_moved := _, F_moved := fun_mk (st := s_moved) l_moved c_moved k_moved, g_moved := PySem.W.mg_of X G a_moved,
    a_game_error := f_game_error, d_game_error := _, F_game_error := fun_mk (st := s_game_error) l_game_error c_game_error k_game_error, g_game_error := PySem.W.mg_of X G a_game_error,
    a_lost := f_lost, d_lost := _, F_lost := fun_mk (st := s_lost) l_lost c_lost k_lost, g_lost := PySem.W.mg_of X G a_lost,
    a_lost_last := f_lost_last, d_lost_last := _, F_lost_last := fun_mk (st := s_lost_last) l_lost_last c_lost_last k_lost_last, g_lost_last := PySem.W.mg_of X G a_lost_last,
    a_worth_row := f_worth_row, d_worth_row := _, F_worth_row := fun_mk (st := s_worth_row) l_worth_row c_worth_row k_worth_row, g_worth_row := PySem.W.mg_of X G a_worth_row,
    a_next_worth := f_next_worth, d_next_worth := _, F_next_worth := fun_mk (st := s_next_worth) l_next_worth c_next_worth k_next_worth, g_next_worth := PySem.W.mg_of X G a_next_worth,
    a_worth := f_worth, d_worth := _, F_worth := fun_mk (st := s_worth) l_worth c_worth k_worth, g_worth := PySem.W.mg_of X G a_worth,
    a_worth_at := f_worth_at, d_worth_at := _, F_worth_at := fun_mk (st := s_worth_at) l_worth_at c_worth_at k_worth_at, g_worth_at := PySem.W.mg_of X G a_worth_at,
    a_gworths := f_gworths, d_gworths := _, F_gworths := fun_mk (st := s_gworths) l_gworths c_gworths k_gworths, g_gworths := PySem.W.mg_of X G a_gworths,
    a_of_worth := f_of_worth, d_of_worth := _, F_of_worth := fun_mk (st := s_of_worth) l_of_worth c_of_worth k_of_worth, g_of_worth := PySem.W.mg_of X G a_of_worth,
    a_purse_error := f_purse_error, d_purse_error := _, F_purse_error := fun_mk (st := s_purse_error) l_purse_error c_purse_error k_purse_error, g_purse_error := PySem.W.mg_of X G a_purse_error,
    a_watches_error := f_watches_error, d_watches_error := _, F_watches_error := fun_mk (st := s_watches_error) l_watches_error c_watches_error k_watches_error, g_watches_error := PySem.W.mg_of X G a_watches_error,
    a_web_error := f_web_error, d_web_error := _, F_web_error := fun_mk (st := s_web_error) l_web_error c_web_error k_web_error, g_web_error := PySem.W.mg_of X G a_web_error,
    a_maker_error := f_maker_error, d_maker_error := _, F_maker_error := fun_mk (st := s_maker_error) l_maker_error c_maker_error k_maker_error, g_maker_error := PySem.W.mg_of X G a_maker_error,
    a_wrong_word := f_wrong_word, d_wrong_word := _, F_wrong_word := fun_mk (st := s_wrong_word) l_wrong_word c_wrong_word k_wrong_word, g_wrong_word := PySem.W.mg_of X G a_wrong_word,
    a_fits_one := f_fits_one, d_fits_one := _, F_fits_one := fun_mk (st := s_fits_one) l_fits_one c_fits_one k_fits_one, g_fits_one := PySem.W.mg_of X G a_fits_one,
    a_fits_two := f_fits_two, d_fits_two := _, F_fits_two := fun_mk (st := s_fits_two) l_fits_two c_fits_two k_fits_two, g_fits_two := PySem.W.mg_of X G a_fits_two,
    a_deck := f_deck, d_deck := _, F_deck := fun_mk (st := s_deck) l_deck c_deck k_deck, g_deck := PySem.W.mg_of X G a_deck,
    a_draw := f_draw, d_draw := _, F_draw := fun_mk (st := s_draw) l_draw c_draw k_draw, g_draw := PySem.W.mg_of X G a_draw,
    a_one := f_one, d_one := _, F_one := fun_mk (st := s_one) l_one c_one k_one, g_one := PySem.W.mg_of X G a_one,
    a_far := f_far, d_far := _, F_far := fun_mk (st := s_far) l_far c_far k_far, g_far := PySem.W.mg_of X G a_far,
    a_lleast := f_lleast, d_lleast := _, F_lleast := fun_mk (st := s_lleast) l_lleast c_lleast k_lleast, g_lleast := PySem.W.mg_of X G a_lleast,
    a_lsigns := f_lsigns, d_lsigns := _, F_lsigns := fun_mk (st := s_lsigns) l_lsigns c_lsigns k_lsigns, g_lsigns := PySem.W.mg_of X G a_lsigns,
    a_game := f_game, d_game := _, F_game := fun_mk (st := s_game) l_game c_game k_game, g_game := PySem.W.mg_of X G a_game,
    a_worths := f_worths, d_worths := _, F_worths := fun_mk (st := s_worths) l_worths c_worths k_worths, g_worths := PySem.W.mg_of X G a_worths,
    a_lworth_at := f_lworth_at, d_lworth_at := _, F_lworth_at := fun_mk (st := s_lworth_at) l_lworth_at c_lworth_at k_lworth_at, g_lworth_at := PySem.W.mg_of X G a_lworth_at,
    a_lof := f_lof, d_lof := _, F_lof := fun_mk (st := s_lof) l_lof c_lof k_lof, g_lof := PySem.W.mg_of X G a_lof,
    a_odd := f_odd, d_odd := _, F_odd := fun_mk (st := s_odd) l_odd c_odd k_odd, g_odd := PySem.W.mg_of X G a_odd,
    a_bent := f_bent, d_bent := _, F_bent := fun_mk (st := s_bent) l_bent c_bent k_bent, g_bent := PySem.W.mg_of X G a_bent,
    a_lis_game := f_lis_game, d_lis_game := _, F_lis_game := fun_mk (st := s_lis_game) l_lis_game c_lis_game k_lis_game, g_lis_game := PySem.W.mg_of X G a_lis_game,
    a_last_row := f_last_row, d_last_row := _, F_last_row := fun_mk (st := s_last_row) l_last_row c_last_row k_last_row, g_last_row := PySem.W.mg_of X G a_last_row,
    a_law := fa, d_law := _, F_law := fun_mk (st := s_law) l_law c_law k_law, g_law := PySem.W.mg_of X G a_law,
    n_all := PySem.W.mg_none_of X G z_all,
    n_bool := PySem.W.mg_none_of X G z_bool,
    n_enumerate := PySem.W.mg_none_of X G z_enumerate,
    n_int := PySem.W.mg_none_of X G z_int,
    n_isinstance := PySem.W.mg_none_of X G z_isinstance,
    n_len := PySem.W.mg_none_of X G z_len,
    n_list := PySem.W.mg_none_of X G z_list,
    n_max := PySem.W.mg_none_of X G z_max,
    n_range := PySem.W.mg_none_of X G z_range,
    n_repr := PySem.W.mg_none_of X G z_repr,
    n_sorted := PySem.W.mg_none_of X G z_sorted,
    n_str := PySem.W.mg_none_of X G z_str,
    n_sum := PySem.W.mg_none_of X G z_sum,
    n_tuple := PySem.W.mg_none_of X G z_tuple,
    n_zip := PySem.W.mg_none_of X G z_zip,
    pr := w.params,
    a__ITEMS_BEHIND := f__ITEMS_BEHIND, es__ITEMS_BEHIND := e__ITEMS_BEHIND, n__ITEMS_BEHIND := n__ITEMS_BEHIND, m__ITEMS_BEHIND := PySem.W.mg_of X G a__ITEMS_BEHIND, D__ITEMS_BEHIND := fun wd e => ⟨l__ITEMS_BEHIND, e ▸ t__ITEMS_BEHIND, w__ITEMS_BEHIND⟩, L__ITEMS_BEHIND := fun z => (ns_look l__ITEMS_BEHIND z).symm ▸ y__ITEMS_BEHIND z,
    k_MAX_HEAD := t_MAX_HEAD, m_MAX_HEAD := PySem.W.mg_of X G m_MAX_HEAD,
    k_MAX_TURN := t_MAX_TURN, m_MAX_TURN := PySem.W.mg_of X G m_MAX_TURN,
    k_MAX_TAKE := t_MAX_TAKE, m_MAX_TAKE := PySem.W.mg_of X G m_MAX_TAKE,
    k__MOST_TAKES := t__MOST_TAKES, m__MOST_TAKES := PySem.W.mg_of X G m__MOST_TAKES,
    k__MOST_MAKERS := t__MOST_MAKERS, m__MOST_MAKERS := PySem.W.mg_of X G m__MOST_MAKERS,
    k__MOST_PATH := t__MOST_PATH, m__MOST_PATH := PySem.W.mg_of X G m__MOST_PATH }
  exact ⟨T.d_law, fun s v => .of_eq rfl, fun base _ _ hsy => ok_law T hsy rfl⟩
end G60
open PySem PySem.W PyProof.Rows
set_option maxHeartbeats 0 in
theorem PySem.Challenge.cw_leastmakers_k60_lost_numbers_and_worths_holds : PySem.Challenge.rw_leastmakers_k60_lost_numbers_and_worths.Holds := by
  w_on; o_law; k_head; (case hw => w_witness2)
  k_fill
  refine G1.walkGS (l := PySem.Challenge.rw_leastmakers_k60_lost_numbers_and_worths) (n := 63) (k := 8) (x := "_law_script") (sp := fun K => G60.spLaw K) (by decide +kernel) rfl (by decide) rfl ⟨rfl, by decide, by decide⟩ (fun w h Y => PySem.W.kIn_of Y) ?F (fun K H a ns hl _ hS => ⟨a, ns, rfl, hS, hl, fun _ => rfl⟩)
  case F =>
    intro w mg fa h KX G hmg
    refine' G60.all_mk KX G hmg ?a_is_whole ?l_is_whole ?c_is_whole ?k_is_whole ?a_is_ascending ?l_is_ascending ?c_is_ascending ?k_is_ascending ?a_check_size ?l_check_size ?c_check_size ?k_check_size ?a_table_error ?l_table_error ?c_table_error ?k_table_error ?a_least ?l_least ?c_least ?k_least ?a_table_of ?l_table_of ?c_table_of ?k_table_of ?a_shortest ?l_shortest ?c_shortest ?k_shortest ?a_alike ?l_alike ?c_alike ?k_alike ?a_is_least ?l_is_least ?c_is_least ?k_is_least ?a_moved ?l_moved ?c_moved ?k_moved ?a_game_error ?l_game_error ?c_game_error ?k_game_error ?a_lost ?l_lost ?c_lost ?k_lost ?a_lost_last ?l_lost_last ?c_lost_last ?k_lost_last ?a_worth_row ?l_worth_row ?c_worth_row ?k_worth_row ?a_next_worth ?l_next_worth ?c_next_worth ?k_next_worth ?a_worth ?l_worth ?c_worth ?k_worth ?a_worth_at ?l_worth_at ?c_worth_at ?k_worth_at ?a_gworths ?l_gworths ?c_gworths ?k_gworths ?a_of_worth ?l_of_worth ?c_of_worth ?k_of_worth ?a_purse_error ?l_purse_error ?c_purse_error ?k_purse_error ?a_watches_error ?l_watches_error ?c_watches_error ?k_watches_error ?a_web_error ?l_web_error ?c_web_error ?k_web_error ?a_maker_error ?l_maker_error ?c_maker_error ?k_maker_error ?a_wrong_word ?l_wrong_word ?c_wrong_word ?k_wrong_word ?a_fits_one ?l_fits_one ?c_fits_one ?k_fits_one ?a_fits_two ?l_fits_two ?c_fits_two ?k_fits_two ?a_deck ?l_deck ?c_deck ?k_deck ?a_draw ?l_draw ?c_draw ?k_draw ?a_one ?l_one ?c_one ?k_one ?a_far ?l_far ?c_far ?k_far ?a_lleast ?l_lleast ?c_lleast ?k_lleast ?a_lsigns ?l_lsigns ?c_lsigns ?k_lsigns ?a_game ?l_game ?c_game ?k_game ?a_worths ?l_worths ?c_worths ?k_worths ?a_lworth_at ?l_lworth_at ?c_lworth_at ?k_lworth_at ?a_lof ?l_lof ?c_lof ?k_lof ?a_odd ?l_odd ?c_odd ?k_odd ?a_bent ?l_bent ?c_bent ?k_bent ?a_lis_game ?l_lis_game ?c_lis_game ?k_lis_game ?a_last_row ?l_last_row ?c_last_row ?k_last_row ?a_law ?l_law ?c_law ?k_law ?z_all ?z_bool ?z_enumerate ?z_int ?z_isinstance ?z_len ?z_list ?z_max ?z_range ?z_repr ?z_sorted ?z_str ?z_sum ?z_tuple ?z_zip ?a__ITEMS_BEHIND ?l__ITEMS_BEHIND ?t__ITEMS_BEHIND ?w__ITEMS_BEHIND ?y__ITEMS_BEHIND ?m_MAX_HEAD ?m_MAX_TURN ?m_MAX_TAKE ?m__MOST_TAKES ?m__MOST_MAKERS ?m__MOST_PATH
    (case a_is_whole => k_is); (case l_is_whole => k_is); (case c_is_whole => k_is); (case k_is_whole => k_is); (case a_is_ascending => k_is); (case l_is_ascending => k_is)
    (case c_is_ascending => k_is); (case k_is_ascending => k_is); (case a_check_size => k_is); (case l_check_size => k_is); (case c_check_size => k_is); (case k_check_size => k_is)
    (case a_table_error => k_is); (case l_table_error => k_is); (case c_table_error => k_is); (case k_table_error => k_is); (case a_least => k_is); (case l_least => k_is)
    (case c_least => k_is); (case k_least => k_is); (case a_table_of => k_is); (case l_table_of => k_is); (case c_table_of => k_is); (case k_table_of => k_is)
    (case a_shortest => k_is); (case l_shortest => k_is); (case c_shortest => k_is); (case k_shortest => k_is); (case a_alike => k_is); (case l_alike => k_is)
    (case c_alike => k_is); (case k_alike => k_is); (case a_is_least => k_is); (case l_is_least => k_is); (case c_is_least => k_is); (case k_is_least => k_is)
    (case a_moved => k_is); (case l_moved => k_is); (case c_moved => k_is); (case k_moved => k_is); (case a_game_error => k_is); (case l_game_error => k_is)
    (case c_game_error => k_is); (case k_game_error => k_is); (case a_lost => k_is); (case l_lost => k_is); (case c_lost => k_is); (case k_lost => k_is)
    (case a_lost_last => k_is); (case l_lost_last => k_is); (case c_lost_last => k_is); (case k_lost_last => k_is); (case a_worth_row => k_is); (case l_worth_row => k_is)
    (case c_worth_row => k_is); (case k_worth_row => k_is); (case a_next_worth => k_is); (case l_next_worth => k_is); (case c_next_worth => k_is); (case k_next_worth => k_is)
    (case a_worth => k_is); (case l_worth => k_is); (case c_worth => k_is); (case k_worth => k_is); (case a_worth_at => k_is); (case l_worth_at => k_is)
    (case c_worth_at => k_is); (case k_worth_at => k_is); (case a_gworths => k_is); (case l_gworths => k_is); (case c_gworths => k_is); (case k_gworths => k_is)
    (case a_of_worth => k_is); (case l_of_worth => k_is); (case c_of_worth => k_is); (case k_of_worth => k_is); (case a_purse_error => k_is); (case l_purse_error => k_is)
    (case c_purse_error => k_is); (case k_purse_error => k_is); (case a_watches_error => k_is); (case l_watches_error => k_is); (case c_watches_error => k_is); (case k_watches_error => k_is)
    (case a_web_error => k_is); (case l_web_error => k_is); (case c_web_error => k_is); (case k_web_error => k_is); (case a_maker_error => k_is); (case l_maker_error => k_is)
    (case c_maker_error => k_is); (case k_maker_error => k_is); (case a_wrong_word => k_is); (case l_wrong_word => k_is); (case c_wrong_word => k_is); (case k_wrong_word => k_is)
    (case a_fits_one => k_is); (case l_fits_one => k_is); (case c_fits_one => k_is); (case k_fits_one => k_is); (case a_fits_two => k_is); (case l_fits_two => k_is)
    (case c_fits_two => k_is); (case k_fits_two => k_is); (case a_deck => k_is); (case l_deck => k_is); (case c_deck => k_is); (case k_deck => k_is)
    (case a_draw => k_is); (case l_draw => k_is); (case c_draw => k_is); (case k_draw => k_is); (case a_one => k_is); (case l_one => k_is)
    (case c_one => k_is); (case k_one => k_is); (case a_far => k_is); (case l_far => k_is); (case c_far => k_is); (case k_far => k_is)
    (case a_lleast => k_is); (case l_lleast => k_is); (case c_lleast => k_is); (case k_lleast => k_is); (case a_lsigns => k_is); (case l_lsigns => k_is)
    (case c_lsigns => k_is); (case k_lsigns => k_is); (case a_game => k_is); (case l_game => k_is); (case c_game => k_is); (case k_game => k_is)
    (case a_worths => k_is); (case l_worths => k_is); (case c_worths => k_is); (case k_worths => k_is); (case a_lworth_at => k_is); (case l_lworth_at => k_is)
    (case c_lworth_at => k_is); (case k_lworth_at => k_is); (case a_lof => k_is); (case l_lof => k_is); (case c_lof => k_is); (case k_lof => k_is)
    (case a_odd => k_is); (case l_odd => k_is); (case c_odd => k_is); (case k_odd => k_is); (case a_bent => k_is); (case l_bent => k_is)
    (case c_bent => k_is); (case k_bent => k_is); (case a_lis_game => k_is); (case l_lis_game => k_is); (case c_lis_game => k_is); (case k_lis_game => k_is)
    (case a_last_row => k_is); (case l_last_row => k_is); (case c_last_row => k_is); (case k_last_row => k_is); (case a_law => k_is); (case l_law => k_is)
    (case c_law => k_is); (case k_law => k_is); (case z_all => k_is); (case z_bool => k_is); (case z_enumerate => k_is); (case z_int => k_is)
    (case z_isinstance => k_is); (case z_len => k_is); (case z_list => k_is); (case z_max => k_is); (case z_range => k_is); (case z_repr => k_is)
    (case z_sorted => k_is); (case z_str => k_is); (case z_sum => k_is); (case z_tuple => k_is); (case z_zip => k_is); (case a__ITEMS_BEHIND => k_is)
    (case l__ITEMS_BEHIND => k_is); (case m_MAX_HEAD => k_is); (case m_MAX_TURN => k_is); (case m_MAX_TAKE => k_is); (case m__MOST_TAKES => k_is); (case m__MOST_MAKERS => k_is)
    (case m__MOST_PATH => k_is)
    (case w__ITEMS_BEHIND => rfl); (case t__ITEMS_BEHIND => (unfold PySem.W.KeysLit; repeat (first | exact trivial | refine ⟨⟨_, _, rfl, rfl⟩, ?_⟩))); (case y__ITEMS_BEHIND => (exact G1.look_match (by repeat (first | exact trivial | refine ⟨⟨_, rfl⟩, ⟨_, rfl⟩, ?_⟩))))
