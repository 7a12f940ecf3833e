import PyProof.Rows.All
import Wide.All
import OpenK.AllK
import Wide.FinOn
import HandS.ForMost
import HandS.StrMore
import HandS.Wide
import HandS.IsInst
import HandS.Codes
import HandS.Conv
import HandS.Style
import HandS.Ends
import KE.GoesNew
import HandS.NoneIn
import PySem.Challenge.RW_leastmakers_k13_told_numbers_counted
set_option Elab.async false
set_option linter.all false
set_option maxRecDepth 100000
set_option maxHeartbeats 8000000
/-! repr of whole data, and promises of defs that call it -/
namespace G1
open PySem PySem.Spec PyProof.Rows L2

/-- a promise of a def where no repr is under way around the call -/
structure FnG (P : Program) (w : World) (K : PySem.W.Frag) (mg : Str → Option Value) (base : Heap) (k : Nat) (f : Addr) (fd : FuncData) (ps : List Str) (sp : Sp) : Prop where
  cnt : ∀ vs H Q E, sp vs H Q E → vs.length = ps.length
  go : ∀ (A : Around) (ou : List Env) (s : Shared) (H : Hp) (ar : Args) (us : List Value) (vs : List V) (Q : VK) (E : XK), A.guards = some [] → Room k A →
    Env0 P w K mg base A ou s H → BindsTo s fd ar (ps.zip us) → Vals vs us → sp vs H Q E →
    codeAny (model P w) A (.call (.ref f) ar) (CR CX0 ou P w H s Q E) s

theorem FnG.of {P : Program} {w : World} {K : PySem.W.Frag} {mg : Str → Option Value} {base : Heap} {k : Nat} {f : Addr} {fd : FuncData} {ps : List Str} {sp : Sp}
    (F : FnOk P w K mg base CX0 k f fd ps sp) : FnG P w K mg base k f fd ps sp :=
  ⟨F.len, fun A ou s H ar us vs Q E _ hr he hb hv hs => F.run A ou s H ar us vs Q E hr he hb hv hs⟩

section
variable {P : Program} {w : World} {K : PySem.W.Frag} {mg : Str → Option Value} {base : Heap}
theorem fnG_of {x qual : Str} {st : Stmt} {f : Addr} {fd : FuncData} {N ps : List Str} {k : Nat} {sp : Sp} (F : Fun K x qual st f fd) (S : FnScope N ps (defScope st))
    (cnt : ∀ vs H Q E, sp vs H Q E → vs.length = ps.length)
    (body : ∀ (cdv : Value) (A : Around) (ou : List Env) (s : Shared) (H : Hp) (vs : List V) (Q : VK) (E : XK), A.guards = some [] →
      Room k (A.deeper (envOfC qual (defScope st) s.heap.objs.size f cdv)) → sp vs H Q E →
      ∃ t, PSs (cxOf CX0 P w K mg base N qual (defScope st) f cdv A ou s H E).nox (defBody st) t ∧
        t { nx := fun _ H' => Q .non H', rt := Q } (start N vs) H) :
    FnG P w K mg base (k + 1) f fd ps sp := by
  obtain ⟨oc, od, kV, doc, pm, an, cdv, ct, osl, rfl, lk, hcd⟩ := F.ex
  refine ⟨cnt, fun A ou s H ar us vs Q E hgd hr e0 hb rv hsp => ?_⟩
  have inK : K.In s.heap := e0.mod.kin.keeps fun b o e => (e0.bs b o e).1
  have hlim : s.heap.NoLimit := e0.mod.nolimit.keeps fun b o e => (e0.bs b o e).1
  have kinds : ∀ y ∈ ps.zip us, (defScope st).names.lookup y.1 = some .local ∨
      ((defScope st).names.lookup y.1 = some .cell ∧ ((cellsFrom (s.heap.objs.size + 1) (defScope st).names []).lookup y.1).isSome = true) := by
    intro y hy
    cases S.par y.1 (List.of_mem_zip hy).1 with
    | inl q => exact Or.inl q
    | inr q => exact Or.inr ⟨q, PySem.W.cellsFrom_some _ _ _ (Or.inl q)⟩
  refine codeAny_call_function hr.depth (inK _ _ lk) rfl S.co S.gen rfl (PySem.W.codeRec_of inK hcd) (hb _ _ _ _ ?_)
  refine wpAny_newFunctionEnv_cells S.kind kinds fun env he s1 x => ?_
  subst he
  refine And.intro (hlim.keeps x.toInCall.keep) (codeAny_func ?_)
  obtain ⟨t, ht0, hq⟩ := body cdv A ou s H vs Q E hgd (hr.deeper _) hsp
  have ht := ht0.nox
  have J0 := inv_start (CX := CX0) S hr.hd e0 (cnt _ _ _ _ hsp) rv x (E := E)
  refine wpAny_mono (ht.run [] s1 (start N vs) H _ J0 hq) ?_ (fun e s' hs => hs)
  intro fl s' hs
  cases fl with
  | ret u =>
    obtain ⟨v, σ', H', J, r1, q⟩ := hs
    exact ⟨v, H', J.os, J.bare, J.base, J.hok, r1, q⟩
  | next =>
    obtain ⟨σ', H', J, q⟩ := hs
    exact ⟨V.non, H', J.os, J.bare, J.base, J.hok, rfl, q⟩
  | brk => exact hs.choose_spec.choose_spec.2.elim
  | cont => exact hs.choose_spec.choose_spec.2.elim
end

section
variable {X : Cx} {k : Nat} {f : Addr} {fd : FuncData} {ps ks : List Str} {sp : Sp} {dvs : List V} {ds : List Value} {E : XK} {x : Str} {p pos : Pos} {e : Expr} {es : List Expr} {t : TA}
/-- f(e, ..) of such a def -/
theorem pe_callGd (F : FnG X.prog X.w X.K X.mg X.base k f fd ps sp) (hgd : X.A.guards = some []) (hr : Room k X.A) (hg : Gl X x) (hm : X.mg x = some (.ref f)) (hk : PySem.W.keepIn X.K (.ref f) = true)
    (hb : Binds X.K fd ps []) (ha : PA X (e :: es) t) (hdb : (x == ("__debug__" : Str)) = false := by decide)
    (he : starEach (e :: es) X.env = (false, eval e X.env) :: starEach es X.env := by rfl) (hpl : (backTo pos (starEach es X.env)).any (·.1) = false := by rfl) :
    PE X (.Call (.Name x p) (e :: es) [] pos) (fun σ H Q => t σ H fun vs H1 => sp vs H1 Q E) := by
  refine ⟨fun pins s σ H Q I h => wpAny_Call_Name_kw (ld_glob I hg hm ?_ hdb)⟩
  refine PySem.W.callWith_K (h₀ := X.base) I.ok.mod.kin hk (thn (ha.run pos pins s σ H _ I h) ?_) he hpl
  intro us s1 hus
  obtain ⟨vs, H1, I1, r, q⟩ := hus
  refine ⟨I1.kIn, ?_⟩
  have hl : (us ++ []).length = ps.length := by rw [List.append_nil, ← r.length]; exact F.cnt _ _ _ _ q
  have hbt := hb s1 us I1.kIn hl
  rw [List.append_nil] at hbt
  refine wpAny_call (codeAny_mono (F.go X.A X.stack s1 H1 ⟨us, []⟩ us vs Q E hgd hr I1.env0 hbt r q) ?_)
  intro rr s' hq
  cases rr with
  | error ev => exact hq.elim
  | ok fl =>
    cases fl with
    | ret u => exact I1.after hq
    | next => exact hq.elim
    | brk => exact hq.elim
    | cont => exact hq.elim

/-- repr of a list or a tuple of plain data -/
def rRepr (K : PySem.W.Frag) : List V → Hp → VK → Prop := fun xs H Q => ∃ (a : Addr) (d : PyData), xs = [.ref a] ∧ Dp K H (.ref a) d ∧ d.showable = true ∧ d.hasDict = false ∧ d.depth ≤ 60 ∧
  d.shown.length ≤ sizeLine ∧ Q (.str d.shown) H
theorem call_reprD (hgd : X.A.guards = some []) (hu : X.A.units + 64 < cLine) : CallR X (.builtin "repr") (rRepr X.K) := by
  intro pins s σ H xs us Q I r h
  obtain ⟨a, d, rfl, hd, hs, hnd, hdp, hz, q⟩ := h
  obtain ⟨u, rfl, ru⟩ := vals1 r
  obtain rfl : u = Value.ref a := ru
  obtain ⟨as, r1⟩ := Dp.reads I d (.ref a) (.ref a) hd rfl
  refine repr_of_reads' r1 hs (fun z => by rw [hnd] at z; cases z) hgd (by omega) (fun _ _ e => e) (fun h' tu tk hk => ?_) hz
  refine ⟨.str d.shown, H, ?_, ⟨tu, rfl⟩, q⟩
  exact I.kept (t' := tk) hk
/-- x * n of a text -/
def rMulS : R2 := fun x y H Q => ∃ (z : Str) (n : Int), x = .str z ∧ y = .int n ∧ 0 ≤ n ∧ n < 2 ^ 30 ∧ z.length * n.toNat ≤ 1000000 ∧ Q (.str (Txt.mul z n)) H
end
end G1
/-! the end of a row whose law calls repr -/
namespace G1
open PySem PySem.Spec PyProof.Rows L2

theorem enterG {P : Program} {w : World} {K : PySem.W.Frag} {mg mb : Str → Option Value} {k : Nat} {fa a : Addr} {fd : FuncData} {x : Str} {sp : Sp} {s₁ : Shared} {vs : List Value} {ns : List Int}
    (inK : K.In s₁.heap) (hns : s₁.heap.Ns mainGlobals mg) (hbn : s₁.heap.Ns builtinsNs mb) (hbb : ∀ x : Str, x ≠ "__name__" → mb x = bootBuiltins x) (hlim : s₁.heap.NoLimit) (hg0 : s₁.gens = #[])
    (ha : s₁.heap.get? a = some { cls := .type "list", data := .seq vs.toArray }) (hi : IntsAre vs ns) (hl : ns.length ≤ sizeLine) (hr : Room k callerA)
    (F : ∀ base : Heap, K.In base → base.Ns mainGlobals mg → FnG P w K mg base k fa fd [x] sp)
    (hbind : ∀ (s : Shared) (u : Value), BindsTo s fd ⟨[u], []⟩ [(x, u)])
    (hsp : ∀ H : Hp, Only H → SqL K H a (ns.map V.int) → sp [.ref a] H (fun v _ => v = .bl true) fun _ _ _ => False) :
    codeAny (model P w) callerA (.call (.ref fa) ⟨[.ref a], []⟩)
      (fun r s' => r = .ok (.ret (.bool true)) ∧ OldK s₁.heap s'.heap ∧ s'.os = s₁.os ∧ AllBare s'.gens) s₁ := by
  have rv := vals_ints hi
  have lv := hi.length
  suffices core : ∀ H : Hp, Only H → SqL K H a (ns.map V.int) → HOk P w H s₁.heap → (∀ b, H b ≠ none → b = a ∧ K.lookup a = none) →
      codeAny (model P w) callerA (.call (.ref fa) ⟨[.ref a], []⟩)
        (fun r s' => r = .ok (.ret (.bool true)) ∧ OldK s₁.heap s'.heap ∧ s'.os = s₁.os ∧ AllBare s'.gens) s₁ by
    by_cases hk : K.lookup a = none
    · refine core (fun b => if b = a then some (.frz { cls := .type "list", data := .seq vs.toArray } (.lst (ns.map V.int))) else none) ?_ (Or.inl (Or.inr ⟨_, if_pos rfl⟩)) ?_ ?_
      · intro b
        by_cases hb : b = a
        · exact Or.inr ⟨_, _, if_pos hb⟩
        · exact Or.inl (if_neg hb)
      · intro b u z
        dsimp only at z
        by_cases hb : b = a
        · rw [if_pos hb] at z
          cases z
          subst hb
          exact ⟨ha, by rw [List.length_map]; exact hl, vs, _, rv, ha⟩
        · rw [if_neg hb] at z
          cases z
      · intro b z
        by_cases hb : b = a
        · exact ⟨hb, hk⟩
        · exact absurd (if_neg hb) z
    · obtain ⟨o, ho⟩ := Option.ne_none_iff_exists'.mp hk
      have e := inK a o ho
      rw [ha] at e
      cases e
      exact core (fun _ => none) (fun _ => Or.inl rfl) (Or.inr ⟨_, vs.toArray, _, ho, rfl, rfl, rfl, by rw [List.size_toArray, lv]; exact hl, by simpa using rv⟩)
        (fun b u z => by cases z) (fun b z => absurd rfl z)
  intro H hO hS hok hA
  have untr : ∀ {b : Addr} {o : Obj} {es : Array DictEntry} {ep : Nat}, s₁.heap.get? b = some o → o.data = .dict es ep → H b = none := by
    intro b o es ep e d
    by_cases q : H b = none
    · exact q
    · obtain ⟨rfl, _⟩ := hA b q
      rw [ha] at e
      cases e
      exact nomatch d
  have tohid : ∀ {b : Addr} {m : Str → Option Value}, s₁.heap.Ns b m → (hidT s₁.heap H).Ns b m := by
    rintro b m ⟨o, es, ep, e, d, r⟩
    exact ⟨o, es, ep, hidT_get e (untr e d), d, r⟩
  have hKb : K.In (hidT s₁.heap H) := by
    intro b o e
    refine hidT_get (inK b o e) ?_
    by_cases q : H b = none
    · exact q
    · obtain ⟨rfl, z⟩ := hA b q
      rw [z] at e
      cases e
  obtain ⟨mc, l1, l2⟩ := hlim
  have hM : Mod K mg (hidT s₁.heap H) := ⟨hKb, tohid hns, ⟨mb, tohid hbn, hbb⟩, ⟨mc, tohid l1, l2⟩⟩
  have e0 : Env0 P w K mg (hidT s₁.heap H) callerA [] s₁ H :=
    ⟨rfl, hM, fun b o e => of_hidT e, Nat.le_of_eq (hidT_size _ _), trivial, fun b hb => (List.not_mem_nil hb).elim, hok, .of_eq hg0⟩
  refine codeAny_mono ((F _ hKb (tohid hns)).go callerA [] s₁ H ⟨[.ref a], []⟩ [.ref a] [.ref a] _ _ rfl hr e0 (hbind s₁ (.ref a)) (.cons rfl .nil) (hsp H hO hS)) ?_
  intro r s' h
  cases r with
  | error e => exact h.elim
  | ok fl =>
    cases fl with
    | next => exact h.elim
    | brk => exact h.elim
    | cont => exact h.elim
    | ret u =>
      obtain ⟨v, H', os, bare, un, hok', r', q⟩ := h
      subst q
      obtain rfl : u = Value.bool true := r'
      refine ⟨rfl, OldK.of_keep (fun b o e => ?_), os, bare⟩
      rcases hO b with z | ⟨ob, xs, z⟩
      · exact un.keep b o e z (fun y => (List.not_mem_nil y).elim) List.not_mem_nil
      · obtain ⟨e1, _⟩ := hok b _ z
        obtain ⟨e2, _⟩ := hok' b _ (un.frzs b ob _ z)
        rw [e] at e1
        cases e1
        exact e2

theorem walkG {l : PySem.W.OpenLaw} {n k : Nat} {q : Program} {loose : List Str} {XP : (Str → Option Value) → Heap → Prop} {YP : World → Heap → Prop} {d : DefRec} {K : Params → PySem.W.Frag} {sp : PySem.W.Frag → Sp} {x : Str}
    (hn : l.most = some n) (hn2 : n ≤ sizeLine) (hdf : d.params.defaults = []) (hr : Room k callerA)
    (hY : ∀ (w : World) (h : Heap), YP w h → (K w.params).In h)
    (F : ∀ (w : World) (mg : Str → Option Value) (fa : Addr) (h : Heap), (K w.params).In h → h.Ns mainGlobals mg → mg d.name = some (.ref fa) →
      ∃ fd : FuncData, (∀ (s : Shared) (u : Value), BindsTo s fd ⟨[u], []⟩ [(x, u)]) ∧
        ∀ base : Heap, (K w.params).In base → base.Ns mainGlobals mg → FnG l.prog w (K w.params) mg base k fa fd [x] (sp (K w.params)))
    (hsp : ∀ (K : PySem.W.Frag) (H : Hp) (a : Addr) (ns : List Int), ns.length ≤ n → Only H → SqL K H a (ns.map V.int) → sp K [.ref a] H (fun v _ => v = .bl true) fun _ _ _ => False) :
    PySem.W.WalkO q loose XP YP l.row.toRowW d [] (fun f vs => PySem.call f vs) := by
  refine Att.attach_call hn hdf ?_
  intro w s₀ s₁ mg mb fa o pm cd doc a vs ns G Y ho hd hcd hmg hobj hints hlen hg0
  have inK := hY w _ Y
  obtain ⟨fd, hb, hF⟩ := F w mg fa _ inK G.T.g hmg
  exact enterG inK G.T.g G.T.b G.T.builtins G.T.nolimit hg0 hobj hints (Nat.le_trans hlen hn2) hr hF hb (fun H hO hS => hsp _ H a ns hlen hO hS)
end G1
/-! texts of the signs 0 and 1, as lists of bools -/
namespace G1
open PySem PySem.Spec PyProof.Rows L2

def cB (b : Bool) : Nat := if b then 49 else 48
def B (l : List Bool) : Str := SX.S (l.map cB)
theorem cB_inj {a b : Bool} (h : cB a = cB b) : a = b := by
  cases a <;> cases b <;> first | rfl | (exact absurd h (by decide))
theorem map_cB_inj : ∀ {l m : List Bool}, l.map cB = m.map cB → l = m
  | [], [], _ => rfl
  | [], _ :: _, h => by cases h
  | _ :: _, [], h => by cases h
  | a :: l, b :: m, h => by
    rw [List.map_cons, List.map_cons] at h
    injection h with h1 h2
    rw [cB_inj h1, map_cB_inj h2]
theorem B_inj {l m : List Bool} (h : B l = B m) : l = m := map_cB_inj (SX.S_inj h)
theorem B_dec (l m : List Bool) : decide (V.str (B l) = V.str (B m)) = decide (l = m) := by
  by_cases h : l = m
  · rw [h, decide_eq_true rfl, decide_eq_true rfl]
  · rw [decide_eq_false h, decide_eq_false fun e => h (B_inj (V.str.inj e))]
theorem B_len (l : List Bool) : (B l).length = l.length := by
  unfold B
  rw [SX.S_len, List.length_map]
theorem B_cps (l : List Bool) : (B l).cps.toList = l.map cB := rfl
theorem B_app (l m : List Bool) : B l ++ B m = B (l ++ m) := by
  unfold B
  rw [SX.S_cat, List.map_append]
theorem B_nil : ("" : Str) = B [] := by decide +kernel
theorem B_0 : ("0" : Str) = B [false] := by decide +kernel
theorem B_1 : ("1" : Str) = B [true] := by decide +kernel
theorem B_one (b : Bool) : (⟨#[cB b]⟩ : Str) = B [b] := by cases b <;> decide +kernel
theorem B_str0 : (Str.ofString (toString (0 : Int))) = B [false] := by decide +kernel
theorem B_str1 : (Str.ofString (toString (1 : Int))) = B [true] := by decide +kernel
theorem B_str (i : Int) (h0 : 0 ≤ i) (h2 : i < 2) : (Str.ofString (toString i)) = B [decide (i = 1)] := by
  have h : i = 0 ∨ i = 1 := by omega
  rcases h with rfl | rfl
  · exact B_str0
  · exact B_str1

/-! ### slices -/
theorem B_cut (l : List Bool) (lo hi : Option Int) : cutS (B l) lo hi = B ((l.drop (HT.sIx l.length 0 lo)).take (HT.sIx l.length l.length hi - HT.sIx l.length 0 lo)) := by
  unfold cutS B
  rw [SX.S_len, List.length_map, ← List.map_drop, ← List.map_take]
theorem sIx_of (n d : Nat) {i : Int} (h : 0 ≤ i) : HT.sIx n d (some i) = min i.toNat n := by
  show (if i < 0 then (i + (n : Int)).toNat else min i.toNat n) = _
  rw [if_neg (by omega)]
theorem B_to (l : List Bool) {j : Int} (h : 0 ≤ j) : cutS (B l) none (some j) = B (l.take j.toNat) := by
  rw [B_cut, sIx_of _ _ h]
  show B ((l.drop 0).take (min j.toNat l.length - 0)) = _
  rw [List.drop_zero, Nat.sub_zero, ← List.take_eq_take_min]
theorem B_from (l : List Bool) {i : Int} (h : 0 ≤ i) : cutS (B l) (some i) none = B (l.drop i.toNat) := by
  rw [B_cut, sIx_of _ _ h]
  show B ((l.drop (min i.toNat l.length)).take (l.length - min i.toNat l.length)) = _
  rw [List.take_of_length_le (by rw [List.length_drop]; omega)]
  by_cases hi : i.toNat ≤ l.length
  · rw [Nat.min_eq_left hi]
  · rw [Nat.min_eq_right (by omega), List.drop_length, List.drop_of_length_le (by omega)]
theorem B_mid (l : List Bool) {i j : Int} (h : 0 ≤ i) (hj : 0 ≤ j) : cutS (B l) (some i) (some j) = B ((l.take j.toNat).drop i.toNat) := by
  rw [B_cut, sIx_of _ _ h, sIx_of _ _ hj]
  congr 1
  apply List.ext_getElem?
  intro k
  rw [List.getElem?_take, List.getElem?_drop, List.getElem?_drop, List.getElem?_take]
  by_cases hi : i.toNat ≤ l.length
  · rw [Nat.min_eq_left hi]
    by_cases hj2 : j.toNat ≤ l.length
    · rw [Nat.min_eq_left hj2]
      by_cases h3 : k < j.toNat - i.toNat
      · rw [if_pos h3, if_pos (by omega)]
      · rw [if_neg h3, if_neg (by omega)]
    · rw [Nat.min_eq_right (by omega)]
      by_cases h3 : k < l.length - i.toNat
      · rw [if_pos h3, if_pos (by omega)]
      · rw [if_neg h3]
        split
        · exact (List.getElem?_eq_none (by omega)).symm
        · rfl
  · have hm : min i.toNat l.length = l.length := Nat.min_eq_right (Nat.le_of_lt (Nat.lt_of_not_le hi))
    rw [hm, List.getElem?_eq_none (by omega), List.getElem?_eq_none (by omega)]
    split <;> split <;> rfl

/-! ### signs -/
theorem B_at (l : List Bool) {i : Int} {k : Nat} {b : Bool} (hi : i = (k : Int)) (h : l[k]? = some b) : atI (B l).cps.toList i = some (cB b) := by
  subst hi
  refine atI_nat ?_
  rw [B_cps, List.getElem?_map, h]
  rfl
theorem B_atNeg (l : List Bool) {i : Int} {k : Nat} {b : Bool} (hi : i = -1 - (k : Int)) (hk : k < l.length) (h : l[l.length - 1 - k]? = some b) : atI (B l).cps.toList i = some (cB b) := by
  unfold atI ixN
  have e1 : (B l).cps.toList.length = l.length := by rw [B_cps, List.length_map]
  rw [e1, if_neg (by omega), if_pos (by omega)]
  show (B l).cps.toList[(i + (l.length : Int)).toNat]? = _
  rw [show (i + (l.length : Int)).toNat = l.length - 1 - k by omega, B_cps, List.getElem?_map, h]
  rfl

/-! ### many times -/
def rep (n : Nat) (l : List Bool) : List Bool := (List.replicate n l).flatten
theorem rep_zero (l : List Bool) : rep 0 l = [] := rfl
theorem rep_succ (n : Nat) (l : List Bool) : rep (n + 1) l = l ++ rep n l := by
  unfold rep
  rw [List.replicate_succ, List.flatten_cons]
theorem rep_length (n : Nat) (l : List Bool) : (rep n l).length = n * l.length := by
  induction n with
  | zero => rw [rep_zero, Nat.zero_mul]; rfl
  | succ n ih => rw [rep_succ, List.length_append, ih, Nat.succ_mul, Nat.add_comm]
theorem rep_get (n : Nat) (l : List Bool) (i : Nat) (h : i < n * l.length) : (rep n l)[i]? = l[i % l.length]? := by
  induction n generalizing i with
  | zero => rw [Nat.zero_mul] at h; omega
  | succ n ih =>
    rw [rep_succ]
    by_cases hi : i < l.length
    · rw [List.getElem?_append_left hi, Nat.mod_eq_of_lt hi]
    · have h1 : l.length ≤ i := by omega
      rw [List.getElem?_append_right h1, ih (i - l.length) (by rw [Nat.succ_mul] at h; omega), ← Nat.mod_eq_sub_mod h1]
theorem foldl_app (c : Array Nat) : ∀ (n : Nat) (acc : Array Nat), ((List.replicate n c).foldl (· ++ ·) acc).toList = acc.toList ++ (List.replicate n c.toList).flatten
  | 0, acc => by simp
  | n + 1, acc => by
    rw [List.replicate_succ, List.foldl_cons, foldl_app c n, List.replicate_succ, List.flatten_cons, Array.toList_append, List.append_assoc]
theorem map_rep (n : Nat) (l : List Bool) : (rep n l).map cB = (List.replicate n (l.map cB)).flatten := by
  induction n with
  | zero => rfl
  | succ n ih => rw [rep_succ, List.map_append, ih, List.replicate_succ, List.flatten_cons]
theorem B_mul (l : List Bool) {n : Int} (h : 0 ≤ n) : Txt.mul (B l) n = B (rep n.toNat l) := by
  unfold Txt.mul
  by_cases h1 : n < 1
  · rw [if_pos h1, show n.toNat = 0 by omega, rep_zero]
    rfl
  · rw [if_neg h1]
    by_cases h2 : (n == 1 || (B l).length == 0) = true
    · rw [if_pos h2]
      rw [Bool.or_eq_true, beq_iff_eq, beq_iff_eq, B_len] at h2
      rcases h2 with h2 | h2
      · subst h2
        show B l = B (rep 1 l)
        rw [rep_succ, rep_zero, List.append_nil]
      · rw [List.length_eq_zero_iff] at h2
        subst h2
        congr 1
        have := rep_length n.toNat []
        rw [List.length_nil, Nat.mul_zero, List.length_eq_zero_iff] at this
        exact this.symm
    · rw [if_neg h2]
      unfold B
      rw [map_rep]
      refine TL.ext_tl ?_
      show (List.foldl (· ++ ·) #[] (List.replicate n.toNat (SX.S (l.map cB)).cps)).toList = _
      rw [foldl_app]
      simp [TL.tl]

/-! ### joined -/
theorem join_nil (ls : List (List Bool)) : Txt.join (B []) (ls.map B) = B ls.flatten := by
  have e : ls.map B = (ls.map (List.map cB)).map SX.S := by rw [List.map_map]; rfl
  rw [e]
  show Txt.join (SX.S []) _ = _
  rw [SX.join_S]
  unfold B
  congr 1
  have key : ∀ ms : List (List Nat), TL.joinL [] ms = ms.flatten := by
    intro ms
    induction ms with
    | nil => rfl
    | cons m ms ih =>
      cases ms with
      | nil => simp [TL.joinL]
      | cons k ks =>
        rw [List.flatten_cons, ← ih]
        simp [TL.joinL]
  rw [key, ← List.map_flatten]
end G1
namespace G1
open PySem PySem.Spec PyProof.Rows L2
section
variable {X : Cx}
theorem tooLong_no {n : Nat} (h : n ≤ 1000000) : Builtin.Str.tooLong n = false := by
  unfold Builtin.Str.tooLong
  rw [decide_eq_false_iff_not]
  exact Nat.not_lt.mpr (Nat.le_trans h (by decide))
theorem op_mulS : OpR X (binaryOp .Mult) rMulS := by
  intro pins s σ H x y v u Q I rx ry h
  obtain ⟨z, n, rfl, rfl, h0, h1, h2, q⟩ := h
  obtain ⟨t, rfl⟩ := rx
  obtain ⟨t2, rfl⟩ := ry
  have hb : z.length = 0 ∨ n.toNat = 0 ∨ (z.length ≤ 1000000) := by
    rcases Nat.eq_zero_or_pos z.length with e | e
    · exact .inl e
    · rcases Nat.eq_zero_or_pos n.toNat with e2 | e2
      · exact .inr (.inl e2)
      · refine .inr (.inr (Nat.le_trans ?_ h2))
        exact Nat.le_mul_of_pos_right _ e2
  refine PySem.SB.mul ⟨?_, fun a b c => ?_, fun a b => tooLong_no h2⟩ fun t' k => ⟨.str (Txt.mul z n), H, I.tok _, ⟨_, rfl⟩, q⟩
  · rw [Bool.or_eq_false_iff]
    exact ⟨decide_eq_false (by omega), decide_eq_false (by omega)⟩
  · rw [Bool.or_eq_false_iff] at b
    have hz : z.length ≠ 0 := by
      have := b.2
      simpa using this
    have hz2 : (z.length : Int) ≤ 1000000 := by omega
    have h3 : (2 ^ 63 - 1 : Int) / n ≥ 1000000 := by
      apply Int.le_ediv_of_mul_le (by omega)
      omega
    omega
end
theorem szM {n : Nat} (h : n ≤ 1000000) : n ≤ sizeLine := Nat.le_trans h (by decide)
end G1
namespace G1
open PySem PySem.Spec PyProof.Rows L2
theorem B_last (l : List Bool) : cutS (B l) (some (-1)) none = B (l.drop (l.length - 1)) := by
  rw [B_cut]
  have e : HT.sIx l.length 0 (some (-1)) = l.length - 1 := by
    show (if (-1 : Int) < 0 then (-1 + (l.length : Int)).toNat else min (-1 : Int).toNat l.length) = _
    rw [if_pos (by decide)]
    omega
  rw [e]
  show B ((l.drop (l.length - 1)).take (l.length - (l.length - 1))) = _
  rw [List.take_of_length_le (by rw [List.length_drop]; omega)]
theorem B_init (l : List Bool) : cutS (B l) none (some (-1)) = B (l.take (l.length - 1)) := by
  rw [B_cut]
  have e : HT.sIx l.length l.length (some (-1)) = l.length - 1 := by
    show (if (-1 : Int) < 0 then (-1 + (l.length : Int)).toNat else min (-1 : Int).toNat l.length) = _
    rw [if_pos (by decide)]
    omega
  rw [e]
  show B ((l.drop 0).take (l.length - 1 - 0)) = _
  rw [List.drop_zero, Nat.sub_zero]
end G1
/-! calls by keywords alone; repr of a truth -/
namespace G1
open PySem PySem.Spec PyProof.Rows L2
section
variable {X : Cx} {CX : CXT} {k : Nat} {f : Addr} {fd : FuncData} {ps ks : List Str} {sp : Sp} {E : XK} {x : Str} {p pos : Pos} {kws : List Keyword} {tk : TA}
variable {g : List Value → List Value → List Value} {gV : List V → List V → List V}
/-- f(k = v, ..) -/
theorem pe_callK0 (F : FnOk X.prog X.w X.K X.mg X.base CX k f fd ps sp) (hr : Room k X.A) (hg : Gl X x) (hm : X.mg x = some (.ref f)) (hk : PySem.W.keepIn X.K (.ref f) = true) (hb : KBinds X.K fd ps ks g gV) (hx : Passes CX X E)
    (hkw : PK X kws tk) (hall : (backToKw pos (keywordEach kws X.env)).all (·.1.isSome) = true := by rfl) (hks : (backToKw pos (keywordEach kws X.env)).filterMap (·.1) = ks := by rfl)
    (hdb : (x == ("__debug__" : Str)) = false := by decide)
    (hpl : ((backTo pos (starEach [] X.env)).any (·.1) || (backToKw pos (keywordEach kws X.env)).any (·.1.isNone)) = false := by rfl) :
    PE X (.Call (.Name x p) [] kws pos) (fun σ H Q => tk σ H fun zs H1 => sp (gV [] zs) H1 Q E) := by
  refine ⟨fun pins s σ H Q I h => wpAny_Call_Name_kw (ld_glob I hg hm ?_ hdb)⟩
  refine PySem.W.callWith_KW0 (h₀ := X.base) I.ok.mod.kin hk hall (thn (hkw.run pos pins s σ H _ I h) ?_) hpl
  intro ws s2 hws
  obtain ⟨zs, H2, I2, rz, q2⟩ := hws
  refine ⟨I2.kIn, ?_⟩
  rw [hks]
  exact run_fnk (us := []) (vs := []) F hr hb hx I2 .nil rz q2
end
/-- two keywords, the second parameter's first -/
def swapW {α : Type} : List α → List α → List α
  | [], a :: b :: _ => [b, a]
  | _, _ => []
theorem kbinds_swap {K : PySem.W.Frag} {fd : FuncData} {p0 p1 : Str}
    (h : ∀ a b : Value, bindArgs fd ⟨[], [(p1, a), (p0, b)]⟩ = pure [(p0, b), (p1, a)]) : KBinds K fd [p0, p1] [p1, p0] swapW swapW := by
  refine ⟨fun s us ws _ hl => ?_, fun {vs us zs ws} r1 r2 => ?_⟩
  · cases us with
    | cons u us => cases hl
    | nil =>
      cases ws with
      | nil => cases hl
      | cons a ws =>
        cases ws with
        | nil => cases hl
        | cons b ws => exact .of_eq (h a b)
  · cases r1 with
    | cons q t => exact .nil
    | nil =>
      cases r2 with
      | nil => exact .nil
      | cons q1 t1 =>
        cases t1 with
        | nil => exact .nil
        | cons q2 t2 => exact .cons q2 (.cons q1 .nil)
section
variable {X : Cx}
theorem call_reprB : CallR X (.builtin "repr") (fun xs H Q => ∃ b : Bool, xs = [.bl b] ∧ Q (.str (if b then "True" else "False")) H) := by
  intro pins s σ H xs us Q I r h
  obtain ⟨b, rfl, q⟩ := h
  obtain ⟨u, rfl, ru⟩ := vals1 r
  obtain rfl : u = Value.bool b := ru
  exact PySem.P.repr_of_bool ⟨.str _, H, I.tok _, ⟨_, rfl⟩, q⟩
end
end G1
namespace G1
open PySem PySem.Spec PyProof.Rows L2
/-- one keyword -/
def oneW {α : Type} : List α → List α → List α
  | [], a :: _ => [a]
  | _, _ => []
theorem kbinds_one {K : PySem.W.Frag} {fd : FuncData} {p0 : Str} (h : ∀ a : Value, bindArgs fd ⟨[], [(p0, a)]⟩ = pure [(p0, a)]) : KBinds K fd [p0] [p0] oneW oneW := by
  refine ⟨fun s us ws _ hl => ?_, fun {vs us zs ws} r1 r2 => ?_⟩
  · cases us with
    | cons u us => cases hl
    | nil =>
      cases ws with
      | nil => cases hl
      | cons a ws => exact .of_eq (h a)
  · cases r1 with
    | cons q t => exact .nil
    | nil =>
      cases r2 with
      | nil => exact .nil
      | cons q1 t1 => exact .cons q1 .nil
/-- a value by a word: what follows is shown once -/
theorem pe_cut {X : Cx} {e : Expr} {t : TE} (h : PE X e t) : PE X e (fun σ H Q => ∃ M : V → Hp → Prop, t σ H M ∧ ∀ v H', M v H' → Q v H') := by
  refine ⟨fun pins s σ H Q I hq => ?_⟩
  obtain ⟨M, h1, h2⟩ := hq
  refine thn (h.run pins s σ H M I h1) ?_
  intro u s1 hu
  obtain ⟨v, H1, I1, r1, q1⟩ := hu
  exact ⟨v, H1, I1, r1, h2 v H1 q1⟩
end G1
namespace G1
open PySem PySem.Spec PyProof.Rows L2
theorem cB_small (b : Bool) : cB b < 16 ^ 8 := by cases b <;> decide
theorem leaf_B (l : List Bool) : PyData.leavesShort 8 (.str (B l)) = true := by
  simp only [PyData.leavesShort, List.all_eq_true, decide_eq_true_eq]
  intro c hc
  rw [B_cps] at hc
  obtain ⟨b, _, rfl⟩ := List.mem_map.mp hc
  exact cB_small b
theorem w_B (l : List Bool) : PyData.weight (.str (B l)) = l.length := by
  simp only [PyData.weight]
  exact B_len l
/-- repr of one object, read as data that is not great -/
theorem go_repr {K : PySem.W.Frag} {H : Hp} {R : PyData → Prop} {a : Addr} (d : PyData) (hd : Dp K H (.ref a) d) (h1 : d.showable = true) (h2 : d.hasDict = false) (h3 : d.depth ≤ 60) (h4 : d.leavesShort 8 = true) (h5 : d.weight ≤ 2 ^ 20) (q : R d) :
    ∃ (a' : Addr) (d' : PyData), [V.ref a] = [V.ref a'] ∧ Dp K H (.ref a') d' ∧ d'.showable = true ∧ d'.hasDict = false ∧ d'.depth ≤ 60 ∧ d'.shown.length ≤ sizeLine ∧ R d' :=
  ⟨a, d, rfl, hd, h1, h2, h3, PyData.shown_fits (Nat.le_refl _) (by decide) h4 h5, q⟩
theorem str_refl (z : Str) : decide (V.str z = V.str z) = true := decide_eq_true rfl
end G1
namespace G1
open PySem PySem.Spec PyProof.Rows L2
/-- the data of a table, of lists of texts and of truths -/
def dTab (h t : List Bool) : PyData := .tuple [.str (B h), .str (B t)]
theorem dp_tab {K : PySem.W.Frag} {H : Hp} {p : Addr} {h t : List Bool} (e : H p = some (.tup [.str (B h), .str (B t)])) : Dp K H (.ref p) (dTab h t) :=
  .tup (.inl (.inl e)) (.cons (.str _) (.cons (.str _) .nil))
def dStrs (ls : List (List Bool)) : PyData := .list (ls.map fun l => .str (B l))
def dBools (bs : List Bool) : PyData := .list (bs.map PyData.bool)
theorem dpAll_strs {K : PySem.W.Frag} {H : Hp} : ∀ ls : List (List Bool), DpAll K H (ls.map fun l => V.str (B l)) (ls.map fun l => .str (B l))
  | [] => .nil
  | l :: ls => .cons (.str _) (dpAll_strs ls)
theorem dpAll_bools {K : PySem.W.Frag} {H : Hp} : ∀ bs : List Bool, DpAll K H (bs.map V.bl) (bs.map PyData.bool)
  | [] => .nil
  | b :: bs => .cons (.bl _) (dpAll_bools bs)
/-- repr of a table -/
theorem repr_tab {K : PySem.W.Frag} {H : Hp} {R : PyData → Prop} {a : Addr} {h t : List Bool} (e : H a = some (.tup [.str (B h), .str (B t)])) (h1 : h.length ≤ 5000) (t1 : t.length ≤ 5000) (q : R (dTab h t)) :
    ∃ (a' : Addr) (d' : PyData), [V.ref a] = [V.ref a'] ∧ Dp K H (.ref a') d' ∧ d'.showable = true ∧ d'.hasDict = false ∧ d'.depth ≤ 60 ∧ d'.shown.length ≤ sizeLine ∧ R d' := by
  refine go_repr (dTab h t) (dp_tab e) ?_ ?_ ?_ ?_ ?_ q
  · simp [dTab, PyData.showable, PyData.showableAll]
  · simp [dTab, PyData.hasDict, PyData.hasDictAll]
  · simp [dTab, PyData.depth, PyData.depthAll]
  · simp only [dTab, PyData.leavesShort, PyData.leavesShortAll, Bool.and_eq_true]
    exact ⟨leaf_B h, leaf_B t, trivial⟩
  · simp only [dTab, PyData.weight, PyData.weightAll]
    have e1 := w_B h
    have e2 := w_B t
    simp only [PyData.weight] at e1 e2
    omega
/-- repr of three texts -/
theorem repr_s3 {K : PySem.W.Frag} {H : Hp} {R : PyData → Prop} {a : Addr} {x y z : List Bool} (e : H a = some (.lst [.str (B x), .str (B y), .str (B z)])) (h1 : x.length ≤ 100000) (h2 : y.length ≤ 100000) (h3 : z.length ≤ 100000) (q : R (dStrs [x, y, z])) :
    ∃ (a' : Addr) (d' : PyData), [V.ref a] = [V.ref a'] ∧ Dp K H (.ref a') d' ∧ d'.showable = true ∧ d'.hasDict = false ∧ d'.depth ≤ 60 ∧ d'.shown.length ≤ sizeLine ∧ R d' := by
  refine go_repr (dStrs [x, y, z]) (.lst (.inl (.inl e)) (dpAll_strs [x, y, z])) ?_ ?_ ?_ ?_ ?_ q
  · simp [dStrs, PyData.showable, PyData.showableAll]
  · simp [dStrs, PyData.hasDict, PyData.hasDictAll]
  · simp [dStrs, PyData.depth, PyData.depthAll]
  · simp only [dStrs, List.map_cons, List.map_nil, PyData.leavesShort, PyData.leavesShortAll, Bool.and_eq_true]
    exact ⟨leaf_B x, leaf_B y, leaf_B z, trivial⟩
  · simp only [dStrs, List.map_cons, List.map_nil, PyData.weight, PyData.weightAll]
    have e1 := w_B x
    have e2 := w_B y
    have e3 := w_B z
    simp only [PyData.weight] at e1 e2 e3
    omega
theorem bools_ok : ∀ bs : List Bool, PyData.showableAll (bs.map PyData.bool) = true ∧ PyData.hasDictAll (bs.map PyData.bool) = false ∧ PyData.depthAll (bs.map PyData.bool) = 0 ∧ PyData.leavesShortAll 8 (bs.map PyData.bool) = true ∧ PyData.weightAll (bs.map PyData.bool) ≤ 2 * bs.length
  | [] => by simp [PyData.showableAll, PyData.hasDictAll, PyData.depthAll, PyData.leavesShortAll, PyData.weightAll]
  | b :: bs => by
    obtain ⟨h1, h2, h3, h4, h5⟩ := bools_ok bs
    simp [PyData.showableAll, PyData.hasDictAll, PyData.depthAll, PyData.leavesShortAll, PyData.weightAll, PyData.showable, PyData.hasDict, PyData.depth, PyData.leavesShort, PyData.weight, h1, h2, h3, h4]
    omega
/-- repr of truths -/
theorem repr_bs {K : PySem.W.Frag} {H : Hp} {R : PyData → Prop} {a : Addr} (bs : List Bool) {xs : List V} (e : H a = some (.lst xs)) (ex : xs = bs.map V.bl) (hl : bs.length ≤ 1000) (q : R (dBools bs)) :
    ∃ (a' : Addr) (d' : PyData), [V.ref a] = [V.ref a'] ∧ Dp K H (.ref a') d' ∧ d'.showable = true ∧ d'.hasDict = false ∧ d'.depth ≤ 60 ∧ d'.shown.length ≤ sizeLine ∧ R d' := by
  subst ex
  obtain ⟨h1, h2, h3, h4, h5⟩ := bools_ok bs
  refine go_repr (dBools bs) (.lst (.inl (.inl e)) (dpAll_bools bs)) ?_ ?_ ?_ ?_ ?_ q
  · simp only [dBools, PyData.showable]; exact h1
  · simp only [dBools, PyData.hasDict]; exact h2
  · simp only [dBools, PyData.depth, h3]; omega
  · simp only [dBools, PyData.leavesShort]; exact h4
  · simp only [dBools, PyData.weight]; omega
end G1
namespace G1
open PySem PySem.Spec PyProof.Rows L2
def dMix (a b c : Bool) (x : List Bool) : PyData := .list [.bool a, .bool b, .bool c, .str (B x)]
theorem repr_mix {K : PySem.W.Frag} {H : Hp} {R : PyData → Prop} {p : Addr} {a b c : Bool} {x : List Bool} (e : H p = some (.lst [.bl a, .bl b, .bl c, .str (B x)])) (h1 : x.length ≤ 100000) (q : R (dMix a b c x)) :
    ∃ (a' : Addr) (d' : PyData), [V.ref p] = [V.ref a'] ∧ Dp K H (.ref a') d' ∧ d'.showable = true ∧ d'.hasDict = false ∧ d'.depth ≤ 60 ∧ d'.shown.length ≤ sizeLine ∧ R d' := by
  refine go_repr (dMix a b c x) (.lst (.inl (.inl e)) (.cons (.bl _) (.cons (.bl _) (.cons (.bl _) (.cons (.str _) .nil))))) ?_ ?_ ?_ ?_ ?_ q
  · simp [dMix, PyData.showable, PyData.showableAll]
  · simp [dMix, PyData.hasDict, PyData.hasDictAll]
  · simp [dMix, PyData.depth, PyData.depthAll]
  · simp only [dMix, PyData.leavesShort, PyData.leavesShortAll, Bool.and_eq_true]
    exact ⟨trivial, trivial, trivial, leaf_B x, trivial⟩
  · simp only [dMix, PyData.weight, PyData.weightAll]
    have e1 := w_B x
    simp only [PyData.weight] at e1
    omega
theorem L_01 : Str.ofString "01" = B [false, true] := by decide +kernel
theorem L_001 : Str.ofString "001" = B [false, false, true] := by decide +kernel
theorem L_1000 : Str.ofString "1000" = B [true, false, false, false] := by decide +kernel
end G1
namespace G1
open PySem PySem.Spec PyProof.Rows L2
/-- data that may stand in a list that is shown -/
structure Small (d : PyData) : Prop where
  sh : d.showable = true
  nd : d.hasDict = false
  dp : d.depth ≤ 20
  lv : d.leavesShort 8 = true
  wt : d.weight ≤ 20000
theorem small_bool (b : Bool) : Small (.bool b) := ⟨rfl, rfl, by simp [PyData.depth], rfl, by simp [PyData.weight]⟩
theorem small_none : Small .none := ⟨rfl, rfl, by simp [PyData.depth], rfl, by simp [PyData.weight]⟩
theorem small_B {l : List Bool} (h : l.length ≤ 20000) : Small (.str (B l)) := by
  refine ⟨rfl, rfl, by simp [PyData.depth], leaf_B l, ?_⟩
  rw [w_B]; exact h
theorem small_tab {h t : List Bool} (h1 : h.length ≤ 5000) (t1 : t.length ≤ 5000) : Small (dTab h t) := by
  refine ⟨?_, ?_, ?_, ?_, ?_⟩
  · simp [dTab, PyData.showable, PyData.showableAll]
  · simp [dTab, PyData.hasDict, PyData.hasDictAll]
  · simp [dTab, PyData.depth, PyData.depthAll]
  · simp only [dTab, PyData.leavesShort, PyData.leavesShortAll, Bool.and_eq_true]
    exact ⟨leaf_B h, leaf_B t, trivial⟩
  · simp only [dTab, PyData.weight, PyData.weightAll]
    have e1 := w_B h
    have e2 := w_B t
    simp only [PyData.weight] at e1 e2
    omega
theorem small_all : ∀ ds : List PyData, (∀ d ∈ ds, Small d) → PyData.showableAll ds = true ∧ PyData.hasDictAll ds = false ∧ PyData.depthAll ds ≤ 20 ∧ PyData.leavesShortAll 8 ds = true ∧ PyData.weightAll ds ≤ 20001 * ds.length
  | [], _ => by simp [PyData.showableAll, PyData.hasDictAll, PyData.depthAll, PyData.leavesShortAll, PyData.weightAll]
  | d :: ds, h => by
    obtain ⟨h1, h2, h3, h4, h5⟩ := small_all ds fun e he => h e (List.mem_cons_of_mem _ he)
    have s := h d List.mem_cons_self
    refine ⟨?_, ?_, ?_, ?_, ?_⟩
    · simp [PyData.showableAll, h1, s.sh]
    · simp [PyData.hasDictAll, h2, s.nd]
    · have := s.dp
      simp only [PyData.depthAll]
      omega
    · simp [PyData.leavesShortAll, h4, s.lv]
    · have := s.wt
      simp only [PyData.weightAll, List.length_cons]
      omega
/-- repr of a list of such -/
theorem repr_items {K : PySem.W.Frag} {H : Hp} {R : PyData → Prop} {a : Addr} {xs : List V} (ds : List PyData) (e : H a = some (.lst xs)) (hd : DpAll K H xs ds) (hs : ∀ d ∈ ds, Small d) (hl : ds.length ≤ 40) (q : R (.list ds)) :
    ∃ (a' : Addr) (d' : PyData), [V.ref a] = [V.ref a'] ∧ Dp K H (.ref a') d' ∧ d'.showable = true ∧ d'.hasDict = false ∧ d'.depth ≤ 60 ∧ d'.shown.length ≤ sizeLine ∧ R d' := by
  obtain ⟨h1, h2, h3, h4, h5⟩ := small_all ds hs
  refine go_repr (.list ds) (.lst (.inl (.inl e)) hd) ?_ ?_ ?_ ?_ ?_ q
  · simp only [PyData.showable]; exact h1
  · simp only [PyData.hasDict]; exact h2
  · simp only [PyData.depth]; omega
  · simp only [PyData.leavesShort]; exact h4
  · simp only [PyData.weight]
    have : 20001 * ds.length ≤ 20001 * 40 := Nat.mul_le_mul_left _ hl
    omega
theorem eqv_tab (a b c d : List Bool) : PyData.eqv (dTab a b) (dTab c d) = decide (a = c ∧ b = d) := by
  have e : ∀ x y : List Bool, (B x == B y) = decide (x = y) := fun x y => by
    by_cases h : x = y
    · subst h; simp
    · rw [decide_eq_false h]
      exact beq_eq_false_iff_ne.mpr fun z => h (B_inj z)
  have e2 : PyData.eqv (dTab a b) (dTab c d) = ((B a == B c) && ((B b == B d) && true)) := by simp only [dTab, PyData.eqv, PyData.eqvAll]
  rw [e2, e, e, Bool.and_true, Bool.decide_and]
theorem shaped_tab (h t : List Bool) : SeqAt.shaped (dTab h t) = true := by
  have l : ∀ x : List Bool, PyData.canLay0 (.str (B x)) = true := fun x => by
    simp only [PyData.canLay0, PyData.strOk]
    rw [Array.all_eq_true_iff_forall_mem]
    intro c hc
    have hc2 : c ∈ (B x).cps.toList := Array.mem_toList_iff.mpr hc
    rw [B_cps] at hc2
    obtain ⟨b, _, rfl⟩ := List.mem_map.mp hc2
    cases b <;> decide
  show (PyData.canLay0 (dTab h t) && decide (PyData.depth (dTab h t) ≤ 64)) = true
  rw [Bool.and_eq_true]
  refine ⟨?_, decide_eq_true ?_⟩
  · simp only [dTab, PyData.canLay0, PyData.canLayAll0, Bool.and_eq_true]
    exact ⟨l h, l t, trivial⟩
  · simp [dTab, PyData.depth, PyData.depthAll]
end G1
/-! what draws come from: a list of two lists and a count, changed by each draw; all else stands -/
namespace G1
open PySem PySem.Spec PyProof.Rows L2

/-- the well at w, its great cells at g -/
def WellAt (w g : Addr) (H : Hp) : Prop := ∃ (c : Addr) (gs cs : List Int) (k : Int), w ≠ g ∧ c ≠ g ∧ c ≠ w ∧ H w = some (.lst [.ref g, .ref c, .int k]) ∧
  H g = some (.lst (gs.map V.int)) ∧ H c = some (.lst (cs.map V.int)) ∧ 0 < cs.length ∧ gs.length ≤ 1000 ∧ cs.length ≤ 1000
/-- H' is as H but for the well -/
def Go (w g : Addr) (H H' : Hp) : Prop := ∀ a o, a ≠ w → a ≠ g → H a = some o → H' a = some o
theorem Go.refl {w g : Addr} {H : Hp} : Go w g H H := fun _ _ _ _ h => h
theorem Go.trans {w g : Addr} {H H1 H2 : Hp} (a : Go w g H H1) (b : Go w g H1 H2) : Go w g H H2 := fun x o h1 h2 h => b x o h1 h2 (a x o h1 h2 h)
theorem Go.of {w g : Addr} {H H' : Hp} (h : Same H H') : Go w g H H' := fun x o _ _ e => h x o e
/-- o stands at a, apart from the well -/
structure At (w g : Addr) (H : Hp) (a : Addr) (o : HO) : Prop where
  nw : a ≠ w
  ng : a ≠ g
  at_ : H a = some o
theorem At.go {w g : Addr} {H H' : Hp} {a : Addr} {o : HO} (x : At w g H a o) (s : Go w g H H') : At w g H' a o := ⟨x.nw, x.ng, s a o x.nw x.ng x.at_⟩
theorem same_new {H : Hp} {p : Addr} {o : HO} (h : H p = none) : Same H (upd H p o) := fun b x e => by
  rw [upd_ne (ne_of_none e h)]
  exact e
theorem Same.rfl' {H : Hp} : Same H H := fun _ _ h => h
theorem WellAt.same {w g : Addr} {H H' : Hp} (W : WellAt w g H) (s : Same H H') : WellAt w g H' := by
  obtain ⟨c, gs, cs, k, h1, h2, h3, h4, h5, h6, h7⟩ := W
  exact ⟨c, gs, cs, k, h1, h2, h3, s _ _ h4, s _ _ h5, s _ _ h6, h7⟩
theorem WellAt.fresh {w g p : Addr} {H : Hp} (W : WellAt w g H) (h : H p = none) : p ≠ w ∧ p ≠ g := by
  obtain ⟨c, gs, cs, k, h1, h2, h3, h4, h5, h6, h7⟩ := W
  exact ⟨(ne_of_none h4 h).symm, (ne_of_none h5 h).symm⟩
/-- a new object beside the well -/
theorem new_w {w g : Addr} {H : Hp} {o : HO} {Q : VK} (W : WellAt w g H)
    (h : ∀ p H', H p = none → Same H H' → WellAt w g H' → At w g H' p o → Q (.ref p) H') : ∀ p, H p = none → Q (.ref p) (upd H p o) := fun p hp =>
  h p _ hp (same_new hp) (W.same (same_new hp)) ⟨(W.fresh hp).1, (W.fresh hp).2, upd_same⟩
/-- a new object -/
theorem new_s {H : Hp} {o : HO} {Q : VK} (h : ∀ p H', H p = none → Same H H' → H' p = some o → Q (.ref p) H') : ∀ p, H p = none → Q (.ref p) (upd H p o) :=
  fun p hp => h p _ hp (same_new hp) upd_same
theorem new_of {w g p : Addr} {H H' : Hp} {o : HO} (W : WellAt w g H) (hp : H p = none) (e : upd H p o = H') : Same H H' ∧ WellAt w g H' ∧ At w g H' p o := by
  subst e
  exact ⟨same_new hp, W.same (same_new hp), (W.fresh hp).1, (W.fresh hp).2, upd_same⟩
theorem new_of0 {p : Addr} {H H' : Hp} {o : HO} (hp : H p = none) (e : upd H p o = H') : Same H H' ∧ H' p = some o := by
  subst e
  exact ⟨same_new hp, upd_same⟩
theorem same_mut {H H1 : Hp} {D : Addr} {o : HO} (s : Same H H1) (h : H D = none) : Same H (upd H1 D o) := fun b x e => by
  rw [upd_ne (ne_of_none e h)]
  exact s _ _ e
theorem szl {n : Nat} (h : n ≤ 1000) : n ≤ sizeLine := Nat.le_trans h (by decide)
theorem At.sqL {K : PySem.W.Frag} {w g : Addr} {H : Hp} {a : Addr} {xs : List V} (x : At w g H a (.lst xs)) : SqL K H a xs := .inl (.inl x.at_)
theorem At.sqT {K : PySem.W.Frag} {w g : Addr} {H : Hp} {a : Addr} {xs : List V} (x : At w g H a (.tup xs)) : SqT K H a xs := .inl (.inl x.at_)
theorem sqL_of {K : PySem.W.Frag} {H : Hp} {a : Addr} {xs : List V} (h : H a = some (.lst xs)) : SqL K H a xs := .inl (.inl h)
theorem sqT_of {K : PySem.W.Frag} {H : Hp} {a : Addr} {xs : List V} (h : H a = some (.tup xs)) : SqT K H a xs := .inl (.inl h)
/-- a tuple stands apart from the well -/
theorem WellAt.tup {w g a : Addr} {H : Hp} {xs : List V} (W : WellAt w g H) (h : H a = some (.tup xs)) : At w g H a (.tup xs) := by
  obtain ⟨c, gs, cs, k, h1, h2, h3, h4, h5, h6, h7⟩ := W
  exact ⟨ne_of h h4 (by intro z; cases z), ne_of h h5 (by intro z; cases z), h⟩
end G1
namespace G1
open PySem PySem.Spec PyProof.Rows L2
theorem ifT {A B : Prop} (h : A) : if true = true then A else B := by rw [if_pos rfl]; exact h
theorem ifF {A B : Prop} (h : B) : if false = true then A else B := by rw [if_neg Bool.false_ne_true]; exact h
theorem ifD {c : Prop} [Decidable c] {A B : Prop} (h1 : c → A) (h2 : ¬ c → B) : if decide c = true then A else B := by
  by_cases h : c
  · rw [decide_eq_true h]
    exact ifT (h1 h)
  · rw [decide_eq_false h]
    exact ifF (h2 h)
theorem ifDn {c : Prop} [Decidable c] {A B : Prop} (h1 : ¬ c → A) (h2 : c → B) : if (!decide c) = true then A else B := by
  by_cases h : c
  · rw [decide_eq_true h]
    exact ifF (h2 h)
  · rw [decide_eq_false h]
    exact ifT (h1 h)
theorem ifB {b : Bool} {A B : Prop} (h1 : b = true → A) (h2 : b = false → B) : if b = true then A else B := by
  cases b with
  | true => exact ifT (h1 rfl)
  | false => exact ifF (h2 rfl)
end G1
namespace G1
open PySem PySem.Spec PyProof.Rows L2
theorem dpAll_ints {K : PySem.W.Frag} {H : Hp} : ∀ ns : List Int, DpAll K H (ns.map V.int) (ns.map PyData.int)
  | [] => .nil
  | n :: ns => .cons (.int n) (dpAll_ints ns)
theorem lay_ints : ∀ ns : List Int, PyData.canLayAll0 (ns.map PyData.int) = true
  | [] => by simp [PyData.canLayAll0]
  | n :: ns => by simp [PyData.canLayAll0, PyData.canLay0, lay_ints ns]
theorem depth_ints : ∀ ns : List Int, PyData.depthAll (ns.map PyData.int) = 0
  | [] => by simp [PyData.depthAll]
  | n :: ns => by simp [PyData.depthAll, PyData.depth, depth_ints ns]
theorem shaped_ints (ns : List Int) : SeqAt.shaped (.list (ns.map PyData.int)) = true := by
  show (PyData.canLay0 (.list (ns.map PyData.int)) && decide (PyData.depth (.list (ns.map PyData.int)) ≤ 64)) = true
  rw [Bool.and_eq_true]
  refine ⟨by simp only [PyData.canLay0]; exact lay_ints ns, decide_eq_true ?_⟩
  simp only [PyData.depth, depth_ints]
  omega
theorem eqv_ints_nil (ns : List Int) : PyData.eqv (.list (ns.map PyData.int)) (.list []) = decide (ns = []) := by
  cases ns with
  | nil => simp [PyData.eqv, PyData.eqvAll]
  | cons n ns => simp [PyData.eqv, PyData.eqvAll]
end G1

namespace G1
open PySem PySem.Spec PyProof.Rows L2
theorem ix_zero {n : Nat} (h : 0 < n) : ixN n 0 = some 0 := by
  unfold ixN
  rw [if_pos (by omega), if_pos (by omega)]
  rfl
theorem ix_at {n j : Nat} {i : Int} (e : i = (j : Int)) (h : j < n) : ixN n i = some j := by
  subst e
  unfold ixN
  rw [if_pos (by omega), if_pos (by omega)]
  rfl
end G1

namespace G1
open PySem PySem.Spec PyProof.Rows L2
theorem seq_zero (n : Nat) : seqIndex? 0 (n + 1) = some 0 := by
  unfold seqIndex?
  simp
end G1

namespace G1
open PySem PySem.Spec PyProof.Rows L2
section
variable {K : PySem.W.Frag} {H : Hp} {Q : VK} {p : Addr} {xs : List V} {v : V}
theorem go_ixL {R : V → Prop} {j : Nat} (hs : H p = some (.lst xs)) (hj : xs[j]? = some v) (q : R v) :
    ∃ p' xs' i' v', V.ref p = V.ref p' ∧ V.int (j : Int) = V.int i' ∧ SqL K H p' xs' ∧ atI xs' i' = some v' ∧ R v' :=
  ⟨p, xs, _, v, rfl, rfl, sqL_of hs, atI_nat hj, q⟩
theorem go_ixLi {R : V → Prop} {i : Int} {j : Nat} (hs : H p = some (.lst xs)) (e : i = (j : Int)) (hj : xs[j]? = some v) (q : R v) :
    ∃ p' xs' i' v', V.ref p = V.ref p' ∧ V.int i = V.int i' ∧ SqL K H p' xs' ∧ atI xs' i' = some v' ∧ R v' := by
  subst e
  exact ⟨p, xs, _, v, rfl, rfl, sqL_of hs, atI_nat hj, q⟩
theorem go_ixT {R : V → Prop} {j : Nat} (hs : H p = some (.tup xs)) (hj : xs[j]? = some v) (q : R v) :
    ∃ p' xs' i' v', V.ref p = V.ref p' ∧ V.int (j : Int) = V.int i' ∧ SqT K H p' xs' ∧ atI xs' i' = some v' ∧ R v' :=
  ⟨p, xs, _, v, rfl, rfl, sqT_of hs, atI_nat hj, q⟩
theorem go_ixLast {R : V → Prop} (hs : H p = some (.lst xs)) (hj : xs[xs.length - 1]? = some v) (q : R v) :
    ∃ p' xs' i' v', V.ref p = V.ref p' ∧ V.int (-1) = V.int i' ∧ SqL K H p' xs' ∧ atI xs' i' = some v' ∧ R v' := by
  refine ⟨p, xs, _, v, rfl, rfl, sqL_of hs, ?_, q⟩
  have hl : 0 < xs.length := by
    cases xs with
    | nil => simp at hj
    | cons a l => simp
  unfold atI ixN
  rw [if_neg (by omega), if_pos (by omega)]
  show xs[(-1 + (xs.length : Int)).toNat]? = _
  rw [show (-1 + (xs.length : Int)).toNat = xs.length - 1 by omega]
  exact hj
theorem go_tup {R : List V → Prop} (hs : H p = some (.tup xs)) (q : R xs) : ∃ a ys, V.ref p = V.ref a ∧ SqT K H a ys ∧ R ys := ⟨p, xs, rfl, sqT_of hs, q⟩
theorem go_unl {R : List V → Prop} (hs : H p = some (.lst xs)) (q : R xs) : ∃ a ys, V.ref p = V.ref a ∧ SqL K H a ys ∧ R ys := ⟨p, xs, rfl, sqL_of hs, q⟩
theorem go_lenL {R : List V → Prop} (hs : H p = some (.lst xs)) (q : R xs) : ∃ p' ys, [V.ref p] = [V.ref p'] ∧ (SqL K H p' ys ∨ SqT K H p' ys) ∧ R ys :=
  ⟨p, xs, rfl, Or.inl (sqL_of hs), q⟩
end
end G1

namespace G1
open PySem PySem.Spec PyProof.Rows L2
section
variable {l m : List Bool}
/-- len of a text of two signs -/
theorem go_lenS {R : Str → Prop} (h : l.length ≤ 1000000) (q : R (B l)) : ∃ z, [V.str (B l)] = [V.str z] ∧ z.length ≤ sizeLine ∧ R z :=
  ⟨B l, rfl, by rw [B_len]; exact szM h, q⟩
theorem go_addS {R : Str → Str → Prop} (h : l.length + m.length ≤ 1000000) (q : R (B l) (B m)) : ∃ i j, V.str (B l) = V.str i ∧ V.str (B m) = V.str j ∧ i.length + j.length ≤ sizeLine ∧ R i j :=
  ⟨B l, B m, rfl, rfl, by rw [B_len, B_len]; exact szM h, q⟩
theorem go_mulS {R : Str → Int → Prop} {n : Int} (h : 0 ≤ n ∧ n < 2 ^ 30) (h2 : l.length * n.toNat ≤ 1000000) (q : R (B l) n) :
    ∃ z k, V.str (B l) = V.str z ∧ V.int n = V.int k ∧ 0 ≤ k ∧ k < 2 ^ 30 ∧ z.length * k.toNat ≤ 1000000 ∧ R z k :=
  ⟨B l, n, rfl, rfl, h.1, h.2, by rw [B_len]; exact h2, q⟩
theorem go_sl {R : Str → Prop} (h : l.length ≤ 1000000) (q : R (B l)) : ∃ z, V.str (B l) = V.str z ∧ z.length ≤ sizeLine ∧ R z :=
  ⟨B l, rfl, by rw [B_len]; exact szM h, q⟩
theorem go_ixS {R : Nat → Prop} {i : Int} {k : Nat} {b : Bool} (hi : i = (k : Int)) (h : l.length ≤ 1000000) (hk : l[k]? = some b) (q : R (cB b)) :
    ∃ z i' c, V.str (B l) = V.str z ∧ V.int i = V.int i' ∧ z.length ≤ sizeLine ∧ atI z.cps.toList i' = some c ∧ R c :=
  ⟨B l, i, _, rfl, rfl, by rw [B_len]; exact szM h, B_at l hi hk, q⟩
theorem go_ixSn {R : Nat → Prop} {i : Int} {k : Nat} {b : Bool} (hi : i = -1 - (k : Int)) (h : l.length ≤ 1000000) (hl : k < l.length) (hk : l[l.length - 1 - k]? = some b) (q : R (cB b)) :
    ∃ z i' c, V.str (B l) = V.str z ∧ V.int i = V.int i' ∧ z.length ≤ sizeLine ∧ atI z.cps.toList i' = some c ∧ R c :=
  ⟨B l, i, _, rfl, rfl, by rw [B_len]; exact szM h, B_atNeg l hi hl hk, q⟩
end
end G1
namespace G1
open PySem PySem.Spec PyProof.Rows L2
theorem log_small {i : Int} (h0 : 0 ≤ i) (h1 : i < 2 ^ 64) : i.natAbs.log2 < 1920 := by
  have h : i.natAbs < 2 ^ 64 := by omega
  by_cases hz : i.natAbs = 0
  · rw [hz]; decide
  · exact Nat.lt_of_lt_of_le ((Nat.log2_lt hz).mpr h) (by decide)
theorem go_bit {R : Int → Prop} {i : Int} (h : 0 ≤ i ∧ i < 2) (q : R i) : ∃ k, [V.int i] = [V.int k] ∧ k.natAbs.log2 < 1920 ∧ R k :=
  ⟨i, rfl, log_small h.1 (by omega), q⟩
theorem flat_one : ∀ bs : List Bool, (bs.map fun b => [b]).flatten = bs
  | [] => rfl
  | b :: bs => by rw [List.map_cons, List.flatten_cons, flat_one bs]; rfl
theorem len_one : ∀ bs : List Bool, ((bs.map fun b => B [b]).map (·.length)).sum = bs.length
  | [] => rfl
  | b :: bs => by
    rw [List.map_cons, List.map_cons, List.sum_cons, len_one bs, B_len, List.length_cons, List.length_cons, List.length_nil]
    omega
theorem go_join {K : PySem.W.Frag} {H : Hp} {R : Str → List Str → Prop} {D : Addr} {bs : List Bool} (hD : H D = some (.lst (bs.map fun b => V.str (B [b])))) (hl : bs.length ≤ 1000000) (q : R (B []) (bs.map fun b => B [b])) :
    ∃ a p ys, V.str (B []) = V.str a ∧ [V.ref D] = [V.ref p] ∧ (SqL K H p (List.map V.str ys) ∨ SqT K H p (List.map V.str ys)) ∧ (List.map (fun x => x.length) ys).sum + ys.length * a.length ≤ 16777216 ∧ R a ys := by
  refine ⟨B [], D, bs.map fun b => B [b], rfl, rfl, Or.inl ?_, ?_, q⟩
  · rw [List.map_map]
    exact sqL_of hD
  · rw [len_one, B_len]
    simp
    omega
theorem joined (bs : List Bool) : Txt.join (B []) (bs.map fun b => B [b]) = B bs := by
  have e : (bs.map fun b => B [b]) = (bs.map fun b => [b]).map B := by rw [List.map_map]; rfl
  rw [e, join_nil, flat_one]
end G1
namespace G1
open PySem PySem.Spec PyProof.Rows L2
theorem go_in {K : PySem.W.Frag} {H : Hp} {R : Bool → Prop} {p : Addr} {x : Int} {ys : List Int} {xs : List V} (hs : H p = some (.tup xs)) (e : xs = ys.map V.int) (q : ∀ b, R b) :
    ∃ p' zs, V.ref p = V.ref p' ∧ (SqL K H p' zs ∨ SqT K H p' zs) ∧ flatV (.int x) = true ∧ zs.all flatV = true ∧ R (inV (.int x) zs) := by
  refine ⟨p, xs, rfl, Or.inr (sqT_of hs), rfl, ?_, q _⟩
  subst e
  rw [List.all_eq_true]
  intro v hv
  obtain ⟨i, _, rfl⟩ := List.mem_map.mp hv
  rfl
theorem mul_le {a b n m : Nat} (h1 : a ≤ n) (h2 : b ≤ m) (h : n * m ≤ 1000000) : a * b ≤ 1000000 := Nat.le_trans (Nat.mul_le_mul h1 h2) h
end G1
/-! rows of signs: a head and then a turn again and again; least forms (plain Lean) -/
namespace Row
/-- the sign of a number -/
def sg (h t : List Bool) (n : Nat) : Bool := if n < h.length then h.getD n false else t.getD ((n - h.length) % t.length) false
/-- so many signs of a row from a place on -/
def rng (r : Nat → Bool) (a n : Nat) : List Bool := (List.range n).map fun i => r (a + i)
theorem rng_len (r : Nat → Bool) (a n : Nat) : (rng r a n).length = n := by unfold rng; rw [List.length_map, List.length_range]
theorem rng_get (r : Nat → Bool) (a n i : Nat) (h : i < n) : (rng r a n)[i]? = some (r (a + i)) := by
  unfold rng
  rw [List.getElem?_map, List.getElem?_range h]
  rfl
theorem rng_getD (r : Nat → Bool) (a n i : Nat) (h : i < n) : (rng r a n).getD i false = r (a + i) := by
  rw [List.getD_eq_getElem?_getD, rng_get r a n i h]
  rfl
theorem ext_rng {l : List Bool} {r : Nat → Bool} {a n : Nat} (hl : l.length = n) (h : ∀ i, i < n → l[i]? = some (r (a + i))) : l = rng r a n := by
  apply List.ext_getElem?
  intro i
  by_cases hi : i < n
  · rw [h i hi, rng_get r a n i hi]
  · rw [List.getElem?_eq_none (by omega), List.getElem?_eq_none (by rw [rng_len]; omega)]
theorem getD_some {l : List Bool} {i : Nat} (h : i < l.length) : l[i]? = some (l.getD i false) := by
  rw [List.getD_eq_getElem?_getD, List.getElem?_eq_getElem h]
  rfl
theorem sg_head {h t : List Bool} {n : Nat} (hn : n < h.length) : sg h t n = h.getD n false := by unfold sg; rw [if_pos hn]
theorem sg_turn {h t : List Bool} {n : Nat} (hn : h.length ≤ n) : sg h t n = t.getD ((n - h.length) % t.length) false := by unfold sg; rw [if_neg (by omega)]
/-- far numbers as those nearer by a multiple of the turn -/
theorem sg_back {h t : List Bool} (n k : Nat) (hk : h.length + k * t.length ≤ n) : sg h t (n - k * t.length) = sg h t n := by
  rw [sg_turn (by omega), sg_turn (by omega)]
  congr 1
  rw [show n - k * t.length - h.length = (n - h.length) - k * t.length by omega]
  have e : n - h.length = ((n - h.length) - k * t.length) + k * t.length := by omega
  rw [e, Nat.add_mul_mod_self_right]
  congr 1
  omega

/-! ### turns that come round -/
/-- turned on by k the turn is the same -/
def Rot (t : List Bool) (k : Nat) : Prop := ∀ i, i < t.length → t.getD i false = t.getD ((i + k) % t.length) false
theorem Rot.any {t : List Bool} {k : Nat} (h : Rot t k) (ht : 0 < t.length) (i : Nat) : t.getD (i % t.length) false = t.getD ((i + k) % t.length) false := by
  have := h (i % t.length) (Nat.mod_lt _ ht)
  rw [this, Nat.mod_add_mod]
theorem Rot.mul {t : List Bool} {k : Nat} (h : Rot t k) (ht : 0 < t.length) (m : Nat) : Rot t (m * k) := by
  induction m with
  | zero =>
    intro i hi
    rw [Nat.zero_mul, Nat.add_zero, Nat.mod_eq_of_lt hi]
  | succ m ih =>
    intro i hi
    rw [ih i hi, h.any ht]
    congr 1
    rw [Nat.succ_mul]
    congr 1
    omega
theorem rot_len (t : List Bool) : Rot t t.length := by
  intro i hi
  rw [Nat.add_mod_right, Nat.mod_eq_of_lt hi]
/-- the least way by which the turn is turned on into itself -/
structure IsPer (t : List Bool) (s : Nat) : Prop where
  pos : 1 ≤ s
  le : s ≤ t.length
  rot : Rot t s
  least : ∀ k, 1 ≤ k → k < s → ¬ Rot t k
theorem IsPer.uniq {t : List Bool} {s s' : Nat} (a : IsPer t s) (b : IsPer t s') : s = s' := by
  rcases Nat.lt_trichotomy s s' with h | h | h
  · exact absurd a.rot (b.least s a.pos h)
  · exact h
  · exact absurd b.rot (a.least s' b.pos h)
theorem IsPer.dvd {t : List Bool} {s : Nat} (a : IsPer t s) : t.length % s = 0 := by
  have ht : 0 < t.length := Nat.lt_of_lt_of_le a.pos a.le
  by_cases h : t.length % s = 0
  · exact h
  · exfalso
    have hlt := Nat.mod_lt t.length (show 0 < s from a.pos)
    refine a.least (t.length % s) (by omega) hlt ?_
    -- T = q s + r, turned on by T and back by q s
    intro i hi
    have hq := (a.rot.mul ht (t.length / s)).any ht (i + t.length % s)
    rw [hq]
    have e : i + t.length % s + t.length / s * s = i + t.length := by
      have := Nat.mod_add_div t.length s
      rw [Nat.mul_comm] at this
      omega
    rw [e, Nat.add_mod_right, Nat.mod_eq_of_lt hi]

/-- where the turn begins, if it is s signs long -/
structure IsBeg (h t : List Bool) (s m : Nat) : Prop where
  le : m ≤ h.length
  same : ∀ n, m ≤ n → n < h.length → sg h t n = sg h t (n + s)
  least : m = 0 ∨ sg h t (m - 1) ≠ sg h t (m - 1 + s)
theorem IsBeg.uniq {h t : List Bool} {s m m' : Nat} (a : IsBeg h t s m) (b : IsBeg h t s m') : m = m' := by
  have key : ∀ {m m' : Nat}, IsBeg h t s m → IsBeg h t s m' → ¬ m < m' := by
    intro m m' a b hlt
    rcases b.least with e | e
    · omega
    · exact e (a.same (m' - 1) (by omega) (by have := b.le; omega))
  have k1 := key a b
  have k2 := key b a
  omega
/-- behind the head the row goes on by the turn -/
theorem sg_rot {h t : List Bool} {s : Nat} (ht : 0 < t.length) (r : Rot t s) {n : Nat} (hn : h.length ≤ n) : sg h t n = sg h t (n + s) := by
  rw [sg_turn hn, sg_turn (by omega), r.any ht]
  congr 2
  omega
theorem IsBeg.from {h t : List Bool} {s m : Nat} (a : IsBeg h t s m) (p : IsPer t s) {n : Nat} (hn : m ≤ n) : sg h t n = sg h t (n + s) := by
  by_cases hh : n < h.length
  · exact a.same n hn hh
  · exact sg_rot (Nat.lt_of_lt_of_le p.pos p.le) p.rot (by omega)
theorem IsBeg.mul {h t : List Bool} {s m : Nat} (a : IsBeg h t s m) (p : IsPer t s) {n : Nat} (hn : m ≤ n) (k : Nat) : sg h t n = sg h t (n + k * s) := by
  induction k with
  | zero => rw [Nat.zero_mul, Nat.add_zero]
  | succ k ih =>
    rw [ih, a.from p (by omega), Nat.succ_mul]
    congr 1
    omega
/-- the least form tells the same -/
theorem sg_least {h t : List Bool} {s m : Nat} (a : IsBeg h t s m) (p : IsPer t s) (n : Nat) : sg (rng (sg h t) 0 m) (rng (sg h t) m s) n = sg h t n := by
  by_cases hn : n < m
  · rw [sg_head (by rw [rng_len]; exact hn), rng_getD _ _ _ _ hn, Nat.zero_add]
  · rw [sg_turn (by rw [rng_len]; omega), rng_len, rng_len, rng_getD _ _ _ _ (Nat.mod_lt _ p.pos)]
    have h1 := a.mul p (n := m + (n - m) % s) (by omega) ((n - m) / s)
    rw [h1]
    congr 1
    have := Nat.mod_add_div (n - m) s
    rw [Nat.mul_comm] at this
    omega
end Row
/-! the two ways to a least form: by parts of the turn and the head gone backwards; by turning on and by halving -/
namespace Row
open G1
theorem per_exists {t : List Bool} (ht : 0 < t.length) : ∃ s, IsPer t s := by
  have key : ∀ n, (∃ k, 1 ≤ k ∧ k ≤ n ∧ Rot t k) → ∃ s, 1 ≤ s ∧ s ≤ n ∧ Rot t s ∧ ∀ k, 1 ≤ k → k < s → ¬ Rot t k := by
    intro n
    induction n with
    | zero => rintro ⟨k, h1, h2, _⟩; omega
    | succ n ih =>
      rintro ⟨k, h1, h2, h3⟩
      by_cases h : ∃ k, 1 ≤ k ∧ k ≤ n ∧ Rot t k
      · obtain ⟨s, a, b, c, d⟩ := ih h
        exact ⟨s, a, by omega, c, d⟩
      · refine ⟨k, h1, h2, h3, fun j j1 j2 j3 => h ⟨j, j1, by omega, j3⟩⟩
  obtain ⟨s, a, b, c, d⟩ := key t.length ⟨t.length, ht, Nat.le_refl _, rot_len t⟩
  exact ⟨s, a, b, c, d⟩
theorem rot_part {t : List Bool} {s : Nat} (hs : 1 ≤ s) (hd : t.length % s = 0) (ht : 0 < t.length) (r : Rot t s) (i : Nat) (hi : i < t.length) : t.getD i false = t.getD (i % s) false := by
  have h := (r.mul ht (i / s)) (i % s) (Nat.lt_of_le_of_lt (Nat.mod_le _ _) hi)
  rw [h]
  congr 1
  have := Nat.mod_add_div i s
  rw [Nat.mul_comm] at this
  rw [this, Nat.mod_eq_of_lt hi]
theorem part_get {t : List Bool} {s : Nat} (hs : 1 ≤ s) (hl : s ≤ t.length) (hd : t.length % s = 0) (i : Nat) (hi : i < t.length) : (rep (t.length / s) (t.take s))[i]? = some (t.getD (i % s) false) := by
  have e : (t.take s).length = s := by rw [List.length_take]; omega
  have e2 : t.length / s * s = t.length := by
    have := Nat.mod_add_div t.length s
    rw [Nat.mul_comm] at this
    omega
  have hm := Nat.mod_lt i (show 0 < s from hs)
  rw [rep_get _ _ _ (by rw [e, e2]; exact hi), e, List.getElem?_take, if_pos hm]
  exact getD_some (by omega)
theorem rep_iff {t : List Bool} {s : Nat} (hs : 1 ≤ s) (hl : s ≤ t.length) (hd : t.length % s = 0) : rep (t.length / s) (t.take s) = t ↔ Rot t s := by
  have ht : 0 < t.length := by omega
  have e : (t.take s).length = s := by rw [List.length_take]; omega
  have e2 : t.length / s * s = t.length := by
    have := Nat.mod_add_div t.length s
    rw [Nat.mul_comm] at this
    omega
  constructor
  · intro h i hi
    have k1 : ∀ i, i < t.length → t.getD i false = t.getD (i % s) false := by
      intro i hi
      have h1 := part_get hs hl hd i hi
      rw [h, getD_some hi] at h1
      exact Option.some.inj h1
    rw [k1 i hi, k1 _ (Nat.mod_lt _ ht)]
    congr 1
    obtain ⟨q, hq⟩ : ∃ q, t.length = s * q := ⟨t.length / s, by rw [Nat.mul_comm]; exact e2.symm⟩
    rw [hq, Nat.mod_mul_right_mod, Nat.add_mod_right]
  · intro r
    apply List.ext_getElem?
    intro i
    by_cases hi : i < t.length
    · rw [part_get hs hl hd i hi, getD_some hi, rot_part hs hd ht r i hi]
    · rw [List.getElem?_eq_none (by rw [rep_length, e, e2]; omega), List.getElem?_eq_none (by omega)]

/-! ### the head gone backwards -/
/-- so many of the last signs of the head are as the turn u, gone backwards, has them, and no more -/
structure Alike (h u : List Bool) (a : Nat) : Prop where
  le : a ≤ h.length
  same : ∀ j, j < a → h.getD (h.length - 1 - j) false = u.getD (u.length - 1 - j % u.length) false
  last : a = h.length ∨ h.getD (h.length - 1 - a) false ≠ u.getD (u.length - 1 - a % u.length) false
/-- the row of u, begun anywhere -/
def gg (h u : List Bool) (n : Nat) : Bool := u.getD ((n + h.length * u.length - h.length) % u.length) false
theorem sub_mod_id {s j A : Nat} (hs : 0 < s) (hj : j < A) : (A * s - 1 - j) % s = s - 1 - j % s := by
  have hm := Nat.mod_lt j hs
  have h1 := Nat.mod_add_div j s
  have hq : j / s < A := Nat.lt_of_le_of_lt (Nat.div_le_self j s) hj
  obtain ⟨c, hc⟩ : ∃ c, A = j / s + 1 + c := ⟨A - j / s - 1, by omega⟩
  have e : A * s - 1 - j = (s - 1 - j % s) + s * c := by
    rw [hc, Nat.add_mul, Nat.add_mul, Nat.one_mul, Nat.mul_comm c s, Nat.mul_comm (j / s) s]
    omega
  rw [e, Nat.add_mul_mod_self_left, Nat.mod_eq_of_lt (by omega)]
theorem mul_ge {A s : Nat} (hs : 0 < s) : A ≤ A * s := Nat.le_mul_of_pos_right A hs
theorem gg_head {h u : List Bool} {j : Nat} (hu : 0 < u.length) (hj : j < h.length) : gg h u (h.length - 1 - j) = u.getD (u.length - 1 - j % u.length) false := by
  unfold gg
  congr 1
  rw [← sub_mod_id hu hj]
  congr 1
  have := mul_ge (A := h.length) hu
  omega
theorem gg_add {h u : List Bool} (hu : 0 < u.length) (n : Nat) : gg h u (n + u.length) = gg h u n := by
  unfold gg
  congr 1
  have := mul_ge (A := h.length) hu
  rw [show n + u.length + h.length * u.length - h.length = (n + h.length * u.length - h.length) + u.length by omega, Nat.add_mod_right]
section
variable {h t : List Bool} {s a : Nat}
theorem take_len (p : IsPer t s) : (t.take s).length = s := by rw [List.length_take]; exact Nat.min_eq_left p.le
theorem take_getD {i : Nat} (hi : i < s) : (t.take s).getD i false = t.getD i false := by
  rw [List.getD_eq_getElem?_getD, List.getD_eq_getElem?_getD, List.getElem?_take, if_pos hi]
theorem sg_gg (p : IsPer t s) (x : Alike h (t.take s) a) {n : Nat} (hn : h.length - a ≤ n) : sg h t n = gg h (t.take s) n := by
  have hu : 0 < (t.take s).length := by rw [take_len p]; exact p.pos
  have ht : 0 < t.length := Nat.lt_of_lt_of_le p.pos p.le
  by_cases hh : n < h.length
  · obtain ⟨j, hj⟩ : ∃ j, n = h.length - 1 - j ∧ j < h.length := ⟨h.length - 1 - n, by omega, by omega⟩
    obtain ⟨rfl, hj2⟩ := hj
    rw [sg_head hh, gg_head hu hj2, x.same j (by omega)]
  · rw [sg_turn (by omega)]
    unfold gg
    rw [take_len p]
    rw [take_getD (Nat.mod_lt _ p.pos)]
    rw [rot_part p.pos p.dvd ht p.rot _ (Nat.mod_lt _ ht)]
    congr 1
    obtain ⟨q, hq⟩ : ∃ q, t.length = s * q := ⟨t.length / s, by
      have := Nat.mod_add_div t.length s
      have hd := p.dvd
      omega⟩
    rw [hq, Nat.mod_mul_right_mod]
    have hge := mul_ge (A := h.length) p.pos
    rw [show n + h.length * s - h.length = (n - h.length) + h.length * s by omega, Nat.add_mul_mod_self_right]
theorem beg_of (p : IsPer t s) (x : Alike h (t.take s) a) : IsBeg h t s (h.length - a) := by
  have hu : 0 < (t.take s).length := by rw [take_len p]; exact p.pos
  have hle := x.le
  refine ⟨Nat.sub_le _ _, fun n h1 h2 => ?_, ?_⟩
  · rw [sg_gg p x h1, sg_gg p x (by omega)]
    have := gg_add (h := h) hu n
    rw [take_len p] at this
    exact this.symm
  · rcases x.last with e | e
    · exact .inl (by omega)
    · by_cases h0 : a = h.length
      · exact .inl (by omega)
      · refine .inr fun z => e ?_
        have ha : a < h.length := by omega
        rw [sg_head (by omega), sg_gg p x (n := h.length - a - 1 + s) (by have := p.pos; omega)] at z
        have g1 := gg_add (h := h) hu (h.length - a - 1)
        rw [take_len p] at g1
        rw [g1, show h.length - a - 1 = h.length - 1 - a by omega, gg_head hu ha] at z
        exact z
theorem win_of (p : IsPer t s) (x : Alike h (t.take s) a) :
    (t.take s).drop (s - a % s) ++ (t.take s).take (s - a % s) = rng (sg h t) (h.length - a) s := by
  have hl := take_len p
  have hle := x.le
  have hm := Nat.mod_lt a p.pos
  have hg : ∀ i, i < s → sg h t (h.length - a + i) = gg h (t.take s) (h.length - a + i) := fun i _ => sg_gg p x (by omega)
  unfold gg at hg
  rw [hl] at hg
  have hge := mul_ge (A := h.length) p.pos
  have ha := Nat.mod_add_div a s
  have hq : a / s ≤ h.length := Nat.le_trans (Nat.div_le_self a s) hle
  have hqs : a / s ≤ s * (a / s) := by
    rw [Nat.mul_comm]
    exact mul_ge p.pos
  obtain ⟨c, hc⟩ : ∃ c, h.length = a / s + c := ⟨h.length - a / s, by omega⟩
  have e0 : h.length * s = s * (a / s) + s * c := by
    conv => lhs; rw [hc]
    rw [Nat.add_mul, Nat.mul_comm (a / s) s, Nat.mul_comm c s]
  generalize hlu : t.take s = u at *
  generalize a / s = q at *
  generalize a % s = ρ at *
  generalize h.length * s = A at *
  refine ext_rng (by rw [List.length_append, List.length_drop, List.length_take, hl]; omega) fun i hi => ?_
  rw [hg i hi]
  have e1 : h.length - a + i + A - h.length = s * c + i - ρ := by omega
  rw [e1]
  by_cases h1 : i < ρ
  · rw [List.getElem?_append_left (by rw [List.length_drop, hl]; omega), List.getElem?_drop, getD_some (by rw [hl]; omega)]
    congr 2
    have hc0 : c ≠ 0 := by
      rintro rfl
      rw [Nat.mul_zero] at e0
      omega
    obtain ⟨d, rfl⟩ : ∃ d, c = d + 1 := ⟨c - 1, by omega⟩
    have e5 : s * (d + 1) = s * d + s := Nat.mul_succ s d
    rw [show s * (d + 1) + i - ρ = (s - ρ + i) + s * d by omega, Nat.add_mul_mod_self_left, Nat.mod_eq_of_lt (by omega)]
  · rw [List.getElem?_append_right (by rw [List.length_drop, hl]; omega), List.length_drop, hl, List.getElem?_take, if_pos (by omega), getD_some (by rw [hl]; omega)]
    congr 2
    rw [show s * c + i - ρ = (i - ρ) + s * c by omega, Nat.add_mul_mod_self_left, Nat.mod_eq_of_lt (by omega)]
    omega
theorem head_of (hm : a ≤ h.length) : h.take (h.length - a) = rng (sg h t) 0 (h.length - a) := by
  refine ext_rng (by rw [List.length_take]; omega) fun i hi => ?_
  rw [List.getElem?_take, if_pos hi, Nat.zero_add, sg_head (by omega), getD_some (by omega)]
end
end Row
/-! str.find from a place; the least form by turning on and by halving -/
namespace Row
open G1 PySem PySem.StrLaws PySem.Builtin PySem.Builtin.Str
theorem occ_full (s sub : Str) (hi : Nat) : ∀ (l : List Nat) (st : Array Nat × Nat), 1 ≤ st.fst.size → (forIn l st (occBody s sub hi 1)).run.fst = st.fst
  | [], st, h => rfl
  | a :: l, st, h => by
    rw [List.forIn_cons]
    unfold occBody
    rw [if_neg (fun c => by have := c.1.1.1; omega)]
    exact occ_full s sub hi l _ h
theorem occ_first (s sub : Str) (hi : Nat) : ∀ (n lo free k : Nat), free ≤ lo → lo ≤ k → k < lo + n → (k + sub.length ≤ hi ∧ subAt s sub k = true) →
    (∀ j, lo ≤ j → j < k → ¬ (j + sub.length ≤ hi ∧ subAt s sub j = true)) →
    (forIn (List.range' lo n) ((#[] : Array Nat), free) (occBody s sub hi 1)).run.fst.toList = [k]
  | 0, lo, free, k, _, h1, h2, _, _ => by omega
  | n + 1, lo, free, k, hf, h1, h2, hm, hl => by
    rw [List.range'_succ, List.forIn_cons]
    unfold occBody
    by_cases hk : k = lo
    · subst hk
      have c1 : ((((#[] : Array Nat), free).fst.size < 1 ∧ ((#[] : Array Nat), free).snd ≤ k) ∧ k + sub.length ≤ hi) ∧ subAt s sub k = true := ⟨⟨⟨by simp, hf⟩, hm.1⟩, hm.2⟩
      rw [if_pos c1]
      have h3 := occ_full s sub hi (List.range' (k + 1) n) (((#[] : Array Nat)).push k, k + sub.length) (by simp)
      have h4 : (forIn (List.range' (k + 1) n) (((#[] : Array Nat)).push k, k + sub.length) (occBody s sub hi 1)).run.fst.toList = [k] := by rw [h3]; rfl
      exact h4
    · have c2 : ¬ (((((#[] : Array Nat), free).fst.size < 1 ∧ ((#[] : Array Nat), free).snd ≤ lo) ∧ lo + sub.length ≤ hi) ∧ subAt s sub lo = true) := fun c => hl lo (Nat.le_refl _) (by omega) ⟨c.1.2, c.2⟩
      rw [if_neg c2]
      exact occ_first s sub hi n (lo + 1) free k (by omega) (by omega) (by omega) hm fun j j1 j2 => hl j (by omega) j2
theorem subAt_B (x y : List Bool) (k : Nat) : subAt (B x) (B y) k = true ↔ (x.drop k).take y.length = y := by
  rw [subAt_eq]
  rw [B_len, B_cps, B_cps, beq_iff_eq, ← List.map_drop, ← List.map_take]
  exact ⟨map_cB_inj, fun h => by rw [h]⟩
theorem find3_of {x y : List Bool} {s : Nat} (h1 : 1 ≤ s) (hs : s + y.length ≤ x.length) (hm : (x.drop s).take y.length = y) (hl : ∀ k, 1 ≤ k → k < s → (x.drop k).take y.length ≠ y) :
    Txt.find3 (B x) (B y) 1 = (s : Int) := by
  unfold Txt.find3
  have e : occurrences (B x) (B y) (fromIndex (B x).length 1) (B x).length 1 = [s] := by
    rw [occ_eq]
    have e1 : fromIndex (B x).length 1 = 1 := rfl
    rw [e1]
    refine occ_first (B x) (B y) (B x).length _ 1 1 s (Nat.le_refl _) h1 (by rw [B_len]; omega) ⟨by rw [B_len, B_len]; exact hs, (subAt_B x y s).mpr hm⟩ fun j j1 j2 c => ?_
    exact hl j j1 j2 ((subAt_B x y j).mp c.2)
  rw [e]
theorem twice_get {t : List Bool} {k : Nat} (hk : k ≤ t.length) {i : Nat} (hi : i < t.length) : (((t ++ t).drop k).take t.length)[i]? = some (t.getD ((i + k) % t.length) false) := by
  rw [List.getElem?_take, if_pos hi, List.getElem?_drop]
  by_cases h : k + i < t.length
  · rw [List.getElem?_append_left h, getD_some h, Nat.add_comm i k, Nat.mod_eq_of_lt h]
  · rw [List.getElem?_append_right (by omega), getD_some (by omega), Nat.add_comm i k]
    congr 2
    rw [Nat.mod_eq_sub_mod (by omega), Nat.mod_eq_of_lt (by omega)]
theorem twice_rot {t : List Bool} {k : Nat} (hk : k ≤ t.length) : ((t ++ t).drop k).take t.length = t ↔ Rot t k := by
  constructor
  · intro h i hi
    have h1 := twice_get hk hi
    rw [h, getD_some hi] at h1
    exact Option.some.inj h1
  · intro r
    apply List.ext_getElem?
    intro i
    by_cases hi : i < t.length
    · rw [twice_get hk hi, getD_some hi, r i hi]
    · rw [List.getElem?_eq_none (by rw [List.length_take, List.length_drop, List.length_append]; omega), List.getElem?_eq_none (by omega)]
/-- (t + t).find(t, 1) -/
theorem find_per {t : List Bool} {s : Nat} (p : IsPer t s) : Txt.find3 (B (t ++ t)) (B t) 1 = (s : Int) := by
  have hle := p.le
  refine find3_of p.pos (by rw [List.length_append]; omega) ((twice_rot hle).mpr p.rot) fun k k1 k2 h => ?_
  exact p.least k k1 k2 ((twice_rot (by omega)).mp h)

/-! ### halving -/
/-- the row of a head and its turn twice -/
theorem row2_get {h t : List Bool} {i : Nat} (hi : i < h.length + t.length + t.length) : (h ++ t ++ t)[i]? = some (sg h t i) := by
  by_cases h1 : i < h.length
  · rw [List.append_assoc, List.getElem?_append_left h1, sg_head h1, getD_some h1]
  · rw [sg_turn (by omega), List.append_assoc, List.getElem?_append_right (by omega)]
    have ht : 0 < t.length := by omega
    by_cases h2 : i - h.length < t.length
    · rw [List.getElem?_append_left h2, getD_some h2, Nat.mod_eq_of_lt h2]
    · rw [List.getElem?_append_right (by omega), getD_some (by omega)]
      congr 2
      rw [Nat.mod_eq_sub_mod (by omega), Nat.mod_eq_of_lt (by omega)]
/-- what a turn of the halving asks -/
theorem half_iff {h t : List Bool} {s m : Nat} (hs : s ≤ t.length) (hm : m ≤ h.length) :
    ((h ++ t ++ t).take h.length).drop m = ((h ++ t ++ t).take (h.length + s)).drop (m + s) ↔ ∀ n, m ≤ n → n < h.length → sg h t n = sg h t (n + s) := by
  constructor
  · intro e n h1 h2
    have e2 := congrArg (fun l => l[n - m]?) e
    simp only [List.getElem?_drop, List.getElem?_take] at e2
    rw [if_pos (by omega), if_pos (by omega), row2_get (by omega), row2_get (by omega)] at e2
    have e3 := Option.some.inj e2
    rw [show m + (n - m) = n by omega, show m + s + (n - m) = n + s by omega] at e3
    exact e3
  · intro a
    apply List.ext_getElem?
    intro i
    rw [List.getElem?_drop, List.getElem?_drop, List.getElem?_take, List.getElem?_take]
    by_cases h1 : m + i < h.length
    · rw [if_pos h1, if_pos (by omega), row2_get (by omega), row2_get (by omega), a (m + i) (by omega) h1]
      congr 2
      omega
    · rw [if_neg h1, if_neg (by omega)]
/-- between low and high the place lies -/
structure Half (h t : List Bool) (s lo hi : Nat) : Prop where
  le : lo ≤ hi
  top : hi ≤ h.length
  same : ∀ n, hi ≤ n → n < h.length → sg h t n = sg h t (n + s)
  low : ∀ m, m < lo → ∃ n, m ≤ n ∧ n < h.length ∧ sg h t n ≠ sg h t (n + s)
theorem Half.beg {h t : List Bool} {s lo hi : Nat} (x : Half h t s lo hi) (e : lo = hi) : IsBeg h t s hi := by
  subst e
  refine ⟨x.top, x.same, ?_⟩
  rcases Nat.eq_zero_or_pos lo with z | z
  · exact .inl z
  · refine .inr fun c => ?_
    obtain ⟨n, h1, h2, h3⟩ := x.low (lo - 1) (by omega)
    by_cases e : n = lo - 1
    · subst e
      exact h3 c
    · exact h3 (x.same n (by omega) h2)
theorem beg_exists {h t : List Bool} {s : Nat} : ∃ m, IsBeg h t s m := by
  have key : ∀ d, d ≤ h.length → (∀ n, h.length - d ≤ n → n < h.length → sg h t n = sg h t (n + s)) → ∃ m, IsBeg h t s m := by
    intro d
    induction hk : h.length - d generalizing d with
    | zero => exact fun h1 h2 => ⟨0, Nat.zero_le _, fun n a b => h2 n a b, .inl rfl⟩
    | succ k ih =>
      intro h1 h2
      by_cases c : sg h t k = sg h t (k + s)
      · refine ih (d + 1) (by omega) (by omega) fun n a b => ?_
        by_cases e : n = k
        · subst e; exact c
        · exact h2 n (by omega) b
      · exact ⟨k + 1, by omega, h2, .inr c⟩
  exact key 0 (Nat.zero_le _) fun n a b => by omega
theorem rng_take {h t : List Bool} {m : Nat} (hm : m ≤ h.length + t.length + t.length) : (h ++ t ++ t).take m = rng (sg h t) 0 m := by
  refine ext_rng (by rw [List.length_take, List.length_append, List.length_append]; omega) fun i hi => ?_
  rw [List.getElem?_take, if_pos hi, row2_get (by omega), Nat.zero_add]
theorem rng_mid {h t : List Bool} {m s : Nat} (hm : m + s ≤ h.length + t.length + t.length) : ((h ++ t ++ t).take (m + s)).drop m = rng (sg h t) m s := by
  refine ext_rng (by rw [List.length_drop, List.length_take, List.length_append, List.length_append]; omega) fun i hi => ?_
  rw [List.getElem?_drop, List.getElem?_take, if_pos (by omega), row2_get (by omega)]
/-- the first so many signs -/
theorem row_take {h t : List Bool} {k m : Nat} (ht : 0 < t.length) (hm : m ≤ h.length + k * t.length) : (h ++ rep k t).take m = rng (sg h t) 0 m := by
  refine ext_rng (by rw [List.length_take, List.length_append, rep_length]; omega) fun i hi => ?_
  rw [List.getElem?_take, if_pos hi, Nat.zero_add]
  by_cases h1 : i < h.length
  · rw [List.getElem?_append_left h1, sg_head h1, getD_some h1]
  · rw [List.getElem?_append_right (by omega), rep_get _ _ _ (by omega), sg_turn (by omega), getD_some (Nat.mod_lt _ ht)]
end Row
namespace Row
theorem less_ok {h t : List Bool} {n : Int} (n0 : 0 ≤ n) (t0 : 0 < t.length) :
    0 ≤ n - (if n - (h.length : Int) > 0 then n - (h.length : Int) else 0) / (t.length : Int) * (t.length : Int) ∧
    sg h t (n - (if n - (h.length : Int) > 0 then n - (h.length : Int) else 0) / (t.length : Int) * (t.length : Int)).toNat = sg h t n.toNat := by
  by_cases hn : n - (h.length : Int) > 0
  · rw [if_pos hn]
    obtain ⟨k, hk⟩ : ∃ k, k = (n.toNat - h.length) / t.length := ⟨_, rfl⟩
    have e : (n - (h.length : Int)) / (t.length : Int) = (k : Int) := by
      rw [hk, Int.natCast_ediv]
      congr 1
      omega
    have hm := Nat.div_mul_le_self (n.toNat - h.length) t.length
    rw [← hk] at hm
    rw [e]
    have hc : (k : Int) * (t.length : Int) = ((k * t.length : Nat) : Int) := (Int.natCast_mul _ _).symm
    rw [hc]
    refine ⟨by omega, ?_⟩
    have e2 : (n - ((k * t.length : Nat) : Int)).toNat = n.toNat - k * t.length := by omega
    rw [e2]
    exact sg_back _ _ (by omega)
  · rw [if_neg hn]
    have e : (0 : Int) / (t.length : Int) * (t.length : Int) = 0 := by rw [Int.zero_ediv, Int.zero_mul]
    rw [e, Int.sub_zero]
    exact ⟨n0, rfl⟩
end Row
/-! least tables written otherwise -/
namespace Row
open G1
theorem row_mid {h t : List Bool} {k m s : Nat} (ht : 0 < t.length) (hm : m + s ≤ h.length + k * t.length) : ((h ++ rep k t).take (m + s)).drop m = rng (sg h t) m s := by
  rw [row_take ht hm]
  refine ext_rng (by rw [List.length_drop, rng_len]; omega) fun i hi => ?_
  rw [List.getElem?_drop, rng_get _ _ _ _ (by omega), Nat.zero_add]
/-- the turn can't be shortened, the head does not go on by it -/
structure Prim (h u : List Bool) : Prop where
  per : IsPer u u.length
  last : h.length = 0 ∨ h.getD (h.length - 1) false ≠ u.getD (u.length - 1) false
theorem Prim.pos {h u : List Bool} (x : Prim h u) : 0 < u.length := x.per.pos
theorem Prim.beg {h u : List Bool} (x : Prim h u) : IsBeg h u u.length h.length := by
  refine ⟨Nat.le_refl _, fun n a b => by omega, ?_⟩
  rcases x.last with e | e
  · exact .inl e
  · by_cases h0 : h.length = 0
    · exact .inl h0
    · refine .inr fun z => e ?_
      have hp := x.pos
      rw [sg_head (by omega), sg_turn (by omega), show h.length - 1 + u.length - h.length = u.length - 1 by omega, Nat.mod_eq_of_lt (by omega)] at z
      exact z
theorem Prim.head {h u : List Bool} : rng (sg h u) 0 h.length = h :=
  (ext_rng (a := 0) rfl fun i hi => by rw [Nat.zero_add, sg_head hi, getD_some hi]).symm
theorem Prim.turn {h u : List Bool} : rng (sg h u) h.length u.length = u :=
  (ext_rng (a := h.length) rfl fun i hi => by rw [sg_turn (by omega), show h.length + i - h.length = i by omega, Nat.mod_eq_of_lt hi, getD_some hi]).symm
theorem rep_getD {l : List Bool} {k i : Nat} (hi : i < k * l.length) (hl : 0 < l.length) : (rep k l).getD i false = l.getD (i % l.length) false := by
  rw [List.getD_eq_getElem?_getD, rep_get _ _ _ hi, List.getD_eq_getElem?_getD]
section
variable {h u : List Bool} {M k : Nat}
/-- a sign of the turn that is turned on and repeated -/
theorem wr_getD (hu : 0 < u.length) {i : Nat} (hi : i < k * u.length) : (rep k (rng (sg h u) M u.length)).getD i false = sg h u (M + i % u.length) := by
  rw [rep_getD (by rw [rng_len]; exact hi) (by rw [rng_len]; exact hu), rng_len, rng_getD _ _ _ _ (Nat.mod_lt _ hu)]
theorem wr_len : (rep k (rng (sg h u) M u.length)).length = k * u.length := by rw [rep_length, rng_len]
theorem sg_mul (hu : 0 < u.length) {n j : Nat} (hn : h.length ≤ n) : sg h u (n + u.length * j) = sg h u n := by
  rw [sg_turn (by omega), sg_turn hn, show n + u.length * j - h.length = (n - h.length) + u.length * j by omega, Nat.add_mul_mod_self_left]
theorem sg_mod (hu : 0 < u.length) (hM : h.length ≤ M) (i : Nat) : sg h u (M + i % u.length) = sg h u (M + i) := by
  have e : M + i = (M + i % u.length) + u.length * (i / u.length) := by
    have := Nat.mod_add_div i u.length
    omega
  rw [e, sg_mul hu (by omega)]
theorem wr_sg (hu : 0 < u.length) (hM : h.length ≤ M) (hk : 1 ≤ k) : sg (rng (sg h u) 0 M) (rep k (rng (sg h u) M u.length)) = sg h u := by
  funext n
  have hkl : 0 < k * u.length := Nat.mul_pos hk hu
  by_cases hn : n < M
  · rw [sg_head (by rw [rng_len]; exact hn), rng_getD _ _ _ _ hn, Nat.zero_add]
  · rw [sg_turn (by rw [rng_len]; omega), rng_len, wr_len, wr_getD hu (Nat.mod_lt _ hkl), Nat.mul_comm, Nat.mod_mul_right_mod, sg_mod hu hM]
    congr 1
    omega
theorem wr_per (x : IsPer u u.length) (hM : h.length ≤ M) (hk : 1 ≤ k) : IsPer (rep k (rng (sg h u) M u.length)) u.length := by
  have hu : 0 < u.length := x.pos
  have hkl : u.length ≤ k * u.length := Nat.le_mul_of_pos_left _ hk
  refine ⟨hu, by rw [wr_len]; exact hkl, fun i hi => ?_, fun j j1 j2 r => ?_⟩
  · rw [wr_len] at hi ⊢
    rw [wr_getD hu hi, wr_getD hu (Nat.mod_lt _ (by omega)), Nat.mul_comm, Nat.mod_mul_right_mod, Nat.add_mod_right]
  · refine x.least j j1 j2 fun i hi => ?_
    -- the place in the repeated turn that stands for i
    obtain ⟨a, ha⟩ : ∃ a, a = (i + u.length - (M - h.length) % u.length) % u.length := ⟨_, rfl⟩
    have al : a < u.length := by rw [ha]; exact Nat.mod_lt _ hu
    have hb := Nat.mod_lt (M - h.length) hu
    have e2 : ((M - h.length) + a) % u.length = i := by
      have hd := Nat.mod_add_div (M - h.length) u.length
      rw [ha, Nat.add_mod_mod]
      rw [show M - h.length + (i + u.length - (M - h.length) % u.length) = (i + u.length) + u.length * ((M - h.length) / u.length) by omega]
      rw [Nat.add_mul_mod_self_left, Nat.add_mod_right, Nat.mod_eq_of_lt hi]
    have key : ∀ c, sg h u (M + (a + c)) = u.getD ((i + c) % u.length) false := fun c => by
      rw [sg_turn (by omega)]
      congr 1
      rw [show M + (a + c) - h.length = ((M - h.length) + a) + c by omega, ← Nat.mod_add_mod, e2]
    have r2 := r a (by rw [wr_len]; omega)
    rw [wr_len, wr_getD hu (by omega), wr_getD hu (Nat.mod_lt _ (by omega)), Nat.mul_comm k, Nat.mod_mul_right_mod, sg_mod hu hM, sg_mod hu hM] at r2
    have k0 := key 0
    rw [Nat.add_zero, Nat.add_zero, Nat.mod_eq_of_lt hi] at k0
    rw [← k0, r2, key j]
theorem wr_beg (x : Prim h u) (hM : h.length ≤ M) (hk : 1 ≤ k) : IsBeg (rng (sg h u) 0 M) (rep k (rng (sg h u) M u.length)) u.length h.length := by
  have e := wr_sg (k := k) x.pos hM hk
  refine ⟨by rw [rng_len]; exact hM, fun n a b => ?_, ?_⟩
  · rw [e]
    exact sg_rot x.pos (rot_len u) a
  · rw [e]
    exact x.beg.least
end
/-- the part of a turn by which it goes can't be shortened -/
theorem part_per {t : List Bool} {s : Nat} (p : IsPer t s) : IsPer (t.take s) (t.take s).length := by
  have hl := take_len p
  have hs : 0 < s := p.pos
  have ht : 0 < t.length := Nat.lt_of_lt_of_le p.pos p.le
  refine ⟨by omega, Nat.le_refl _, rot_len _, fun j j1 j2 r => ?_⟩
  rw [hl] at j2
  refine p.least j j1 j2 fun i hi => ?_
  rw [rot_part p.pos p.dvd ht p.rot i hi, rot_part p.pos p.dvd ht p.rot _ (Nat.mod_lt _ ht)]
  obtain ⟨q, hq⟩ : ∃ q, t.length = s * q := ⟨t.length / s, by
    have := Nat.mod_add_div t.length s
    have hd := p.dvd
    omega⟩
  rw [hq, Nat.mod_mul_right_mod]
  have h1 := r (i % s) (by rw [hl]; exact Nat.mod_lt _ hs)
  rw [hl, take_getD (Nat.mod_lt _ hs), take_getD (Nat.mod_lt _ hs), Nat.mod_add_mod] at h1
  exact h1
end Row
/-! text.count of one sign, one sign in a text -/
namespace Row
open G1 PySem PySem.StrLaws PySem.Builtin PySem.Builtin.Str
theorem sub_one (l : List Bool) (b : Bool) (i : Nat) : (i + (B [b]).length ≤ (B l).length ∧ subAt (B l) (B [b]) i = true) ↔ l[i]? = some b := by
  rw [subAt_B, B_len, B_len]
  show (i + 1 ≤ l.length ∧ (l.drop i).take 1 = [b]) ↔ _
  constructor
  · rintro ⟨h1, h2⟩
    have e : ((l.drop i).take 1)[0]? = some b := by rw [h2]; rfl
    rw [List.getElem?_take, if_pos (by decide), List.getElem?_drop] at e
    exact e
  · intro h
    have hi := (List.getElem?_eq_some_iff.mp h).1
    refine ⟨hi, ?_⟩
    apply List.ext_getElem?
    intro k
    rw [List.getElem?_take]
    by_cases hk : k < 1
    · have : k = 0 := by omega
      subst this
      rw [if_pos (by decide), List.getElem?_drop, Nat.add_zero, h]
      rfl
    · rw [if_neg hk, List.getElem?_eq_none (by simp; omega)]
theorem drop_some {l : List Bool} {i : Nat} {b : Bool} (h : l[i]? = some b) : l.drop i = b :: l.drop (i + 1) := by
  obtain ⟨hi, e⟩ := List.getElem?_eq_some_iff.mp h
  rw [List.drop_eq_getElem_cons hi, e]
theorem occ_count (l : List Bool) (b : Bool) : ∀ (n lo : Nat) (found : Array Nat) (free : Nat), free ≤ lo → found.size ≤ lo →
    (forIn (List.range' lo n) (found, free) (occBody (B l) (B [b]) (B l).length ((B l).length + 1))).run.fst.size = found.size + ((l.drop lo).take n).count b
  | 0, lo, found, free, _, _ => by
    show found.size = _
    simp
  | n + 1, lo, found, free, h1, h2 => by
    rw [List.range'_succ, List.forIn_cons]
    unfold occBody
    by_cases hc : l[lo]? = some b
    · have hs := (sub_one l b lo).mpr hc
      have hlt := (List.getElem?_eq_some_iff.mp hc).1
      have c1 : (((found, free).fst.size < (B l).length + 1 ∧ (found, free).snd ≤ lo) ∧ lo + (B [b]).length ≤ (B l).length) ∧ subAt (B l) (B [b]) lo = true :=
        ⟨⟨⟨by rw [B_len]; show found.size < _; omega, h1⟩, hs.1⟩, hs.2⟩
      rw [if_pos c1]
      have ih := occ_count l b n (lo + 1) (found.push lo) (lo + (B [b]).length) (by rw [B_len]; exact Nat.le_refl _) (by rw [Array.size_push]; omega)
      have e : (List.take (n + 1) (l.drop lo)).count b = 1 + (List.take n (l.drop (lo + 1))).count b := by
        rw [drop_some hc, List.take_succ_cons, List.count_cons_self, Nat.add_comm]
      rw [e]
      refine Eq.trans ih ?_
      rw [Array.size_push]
      omega
    · have c2 : ¬ ((((found, free).fst.size < (B l).length + 1 ∧ (found, free).snd ≤ lo) ∧ lo + (B [b]).length ≤ (B l).length) ∧ subAt (B l) (B [b]) lo = true) :=
        fun c => hc ((sub_one l b lo).mp ⟨c.1.2, c.2⟩)
      rw [if_neg c2]
      have ih := occ_count l b n (lo + 1) found free (by omega) (by omega)
      have e : (List.take (n + 1) (l.drop lo)).count b = (List.take n (l.drop (lo + 1))).count b := by
        by_cases hl : lo < l.length
        · obtain ⟨c, hcc⟩ : ∃ c, l[lo]? = some c := ⟨_, List.getElem?_eq_getElem hl⟩
          rw [drop_some hcc, List.take_succ_cons, List.count_cons_of_ne]
          intro z
          exact hc (by rw [hcc, z])
        · rw [List.drop_eq_nil_of_le (by omega), List.drop_eq_nil_of_le (by omega)]
          simp
      rw [e]
      exact ih
theorem B_count (l : List Bool) (b : Bool) : Txt.count (B l) (B [b]) = (l.count b : Nat) := by
  unfold Txt.count
  rw [occ_eq]
  have h := occ_count l b ((B l).length + 1 - 0) 0 #[] 0 (Nat.le_refl _) (Nat.le_refl _)
  rw [Array.length_toList, h, B_len, List.drop_zero, List.take_of_length_le (by omega)]
  simp
theorem B_in (l : List Bool) (b : Bool) : (!(occurrences (B l) (B [b]) 0 (B l).length 1).isEmpty) = l.contains b := by
  rw [Bool.eq_iff_iff, found_iff, List.contains_iff_mem, List.mem_iff_getElem?]
  exact ⟨fun ⟨i, h⟩ => ⟨i, (sub_one l b i).mp h⟩, fun ⟨i, h⟩ => ⟨i, (sub_one l b i).mpr h⟩⟩
end Row
/-! how many are told below a number, and the told ones in order -/
namespace Row
open G1
/-- how many are told below n -/
def cn (f : Nat → Bool) (n : Nat) : Nat := (rng f 0 n).count true
theorem rng_succ (f : Nat → Bool) (n : Nat) : rng f 0 (n + 1) = rng f 0 n ++ [f n] := by
  symm
  refine ext_rng (by rw [List.length_append, rng_len]; rfl) fun i hi => ?_
  rw [Nat.zero_add]
  by_cases h : i < n
  · rw [List.getElem?_append_left (by rw [rng_len]; exact h), rng_get _ _ _ _ h, Nat.zero_add]
  · have e : i = n := by omega
    subst e
    rw [List.getElem?_append_right (by rw [rng_len]; exact Nat.le_refl _), rng_len, Nat.sub_self]
    rfl
theorem cn_zero (f : Nat → Bool) : cn f 0 = 0 := rfl
theorem cn_succ (f : Nat → Bool) (n : Nat) : cn f (n + 1) = cn f n + (if f n = true then 1 else 0) := by
  unfold cn
  rw [rng_succ, List.count_append]
  congr 1
  cases f n <;> rfl
theorem cn_told {f : Nat → Bool} {n : Nat} (h : f n = true) : cn f (n + 1) = cn f n + 1 := by rw [cn_succ, if_pos h]
theorem cn_mono {f : Nat → Bool} {a b : Nat} (h : a ≤ b) : cn f a ≤ cn f b := by
  induction b with
  | zero =>
    have e : a = 0 := by omega
    rw [e]
    exact Nat.le_refl _
  | succ b ih =>
    by_cases c : a = b + 1
    · rw [c]
      exact Nat.le_refl _
    · have := ih (by omega)
      rw [cn_succ]
      omega
/-- k is told, and just so many below it -/
structure IsK (f : Nat → Bool) (place k : Nat) : Prop where
  told : f k = true
  many : cn f k = place
theorem IsK.uniq {f : Nat → Bool} {p k k' : Nat} (a : IsK f p k) (b : IsK f p k') : k = k' := by
  have key : ∀ {x y : Nat}, IsK f p x → IsK f p y → ¬ x < y := fun {x y} u v c => by
    have h1 := cn_told u.told
    have h2 := cn_mono (f := f) (a := x + 1) (b := y) c
    have h3 := u.many
    have h4 := v.many
    omega
  have := key a b
  have := key b a
  omega
theorem IsK.ge {f : Nat → Bool} {n k : Nat} (a : IsK f (cn f n) k) : n ≤ k := by
  rcases Nat.lt_or_ge k n with c | c
  · have h1 := cn_told a.told
    have h2 := cn_mono (f := f) (a := k + 1) (b := n) c
    have h3 := a.many
    omega
  · exact c
theorem cn_list (l : List Bool) {n : Nat} (hn : n ≤ l.length) : cn (fun j => l.getD j false) n = (l.take n).count true := by
  unfold cn
  congr 1
  symm
  refine ext_rng (by rw [List.length_take]; omega) fun i hi => ?_
  rw [List.getElem?_take, if_pos hi, getD_some (by omega), Nat.zero_add]
theorem cn_head {h t : List Bool} {n : Nat} (hn : n ≤ h.length) : cn (sg h t) n = (h.take n).count true := by
  unfold cn
  congr 1
  symm
  refine ext_rng (by rw [List.length_take]; omega) fun i hi => ?_
  rw [List.getElem?_take, if_pos hi, getD_some (by omega), Nat.zero_add, sg_head (by omega)]
theorem rep_count (k : Nat) (l : List Bool) (b : Bool) : (rep k l).count b = k * l.count b := by
  unfold rep
  induction k with
  | zero => simp
  | succ k ih => rw [List.replicate_succ, List.flatten_cons, List.count_append, ih, Nat.add_mul, Nat.one_mul, Nat.add_comm]
theorem rep_snoc (k : Nat) (l : List Bool) : rep (k + 1) l = rep k l ++ l := by
  unfold rep
  rw [List.replicate_succ', List.flatten_append]
  simp
theorem cn_turn {h t : List Bool} {q r : Nat} (ht : 0 < t.length) (hr : r ≤ t.length) :
    cn (sg h t) (h.length + q * t.length + r) = h.count true + q * t.count true + (t.take r).count true := by
  unfold cn
  rw [← row_take (k := q + 1) ht (by rw [Nat.add_mul, Nat.one_mul]; omega), rep_snoc, ← List.append_assoc]
  have e : (h ++ rep q t).length = h.length + q * t.length := by rw [List.length_append, rep_length]
  rw [← e, List.take_append, List.take_of_length_le (by omega), List.count_append, List.count_append, rep_count]
  congr 2
  congr 1
  omega
/-- the told ones below n, in order -/
def pl (f : Nat → Bool) (n : Nat) : List Nat := (List.range n).filter f
theorem pl_succ (f : Nat → Bool) (n : Nat) : pl f (n + 1) = pl f n ++ (if f n = true then [n] else []) := by
  unfold pl
  rw [List.range_succ, List.filter_append]
  congr 1
  cases e : f n <;> simp [e]
theorem pl_len (f : Nat → Bool) (n : Nat) : (pl f n).length = cn f n := by
  induction n with
  | zero => rfl
  | succ n ih =>
    rw [pl_succ, List.length_append, ih, cn_succ]
    congr 1
    split <;> rfl
theorem pl_get {f : Nat → Bool} {n k p : Nat} (h : (pl f n)[k]? = some p) : p < n ∧ IsK f k p := by
  induction n with
  | zero => cases h
  | succ n ih =>
    rw [pl_succ] at h
    by_cases c : k < (pl f n).length
    · rw [List.getElem?_append_left c] at h
      exact ⟨Nat.lt_succ_of_lt (ih h).1, (ih h).2⟩
    · rw [List.getElem?_append_right (by omega)] at h
      by_cases d : f n = true
      · rw [if_pos d] at h
        have hl := (List.getElem?_eq_some_iff.mp h).1
        have e : k - (pl f n).length = 0 := by
          simp at hl
          omega
        rw [e] at h
        obtain rfl := Option.some.inj h
        refine ⟨Nat.lt_succ_self _, d, ?_⟩
        rw [← pl_len]
        omega
      · rw [if_neg d] at h
        cases h
/-- the k-th told sign of a text -/
def pls (l : List Bool) : List Nat := pl (fun j => l.getD j false) l.length
theorem pls_len (l : List Bool) : (pls l).length = l.count true := by
  unfold pls
  rw [pl_len, cn_list l (Nat.le_refl _), List.take_length]
theorem pls_get {l : List Bool} {k p : Nat} (h : (pls l)[k]? = some p) : p < l.length ∧ l.getD p false = true ∧ (l.take p).count true = k := by
  obtain ⟨h1, h2⟩ := pl_get h
  refine ⟨h1, h2.told, ?_⟩
  rw [← cn_list l (Nat.le_of_lt h1)]
  exact h2.many
theorem k_head {h t : List Bool} {k p : Nat} (e : (pls h)[k]? = some p) : IsK (sg h t) k p := by
  obtain ⟨h1, h2, h3⟩ := pls_get e
  exact ⟨by rw [sg_head h1]; exact h2, by rw [cn_head (Nat.le_of_lt h1)]; exact h3⟩
theorem k_turn {h t : List Bool} {q r p : Nat} (e : (pls t)[r]? = some p) : IsK (sg h t) (h.count true + q * t.count true + r) (h.length + q * t.length + p) := by
  obtain ⟨h1, h2, h3⟩ := pls_get e
  have ht : 0 < t.length := by omega
  refine ⟨?_, ?_⟩
  · rw [sg_turn (by omega), show h.length + q * t.length + p - h.length = p + t.length * q by rw [Nat.mul_comm]; omega, Nat.add_mul_mod_self_left, Nat.mod_eq_of_lt h1]
    exact h2
  · rw [cn_turn ht (Nat.le_of_lt h1), h3]
theorem no_more {h t : List Bool} {n : Nat} (z : t.count true = 0) (hc : h.count true ≤ cn (sg h t) n) : ∀ k, n ≤ k → sg h t k = false := by
  intro k hk
  by_cases c : k < h.length
  · rw [sg_head c]
    cases e : h.getD k false with
    | false => rfl
    | true =>
      have h0 : sg h t k = true := by rw [sg_head c]; exact e
      have h1 := cn_told h0
      have h2 := cn_mono (f := sg h t) (a := k + 1) (b := h.length) c
      have h3 := cn_mono (f := sg h t) hk
      have h4 : cn (sg h t) h.length = h.count true := by rw [cn_head (Nat.le_refl _), List.take_length]
      omega
  · rw [sg_turn (by omega)]
    cases e : t.getD ((k - h.length) % t.length) false with
    | false => rfl
    | true =>
      have hm : true ∈ t := by
        rw [List.getD_eq_getElem?_getD] at e
        cases g : t[(k - h.length) % t.length]? with
        | none => rw [g] at e; cases e
        | some b =>
          rw [g] at e
          have e2 : b = true := e
          subst e2
          exact List.mem_of_getElem? g
      have := List.count_pos_iff.mpr hm
      omega
end Row
/-! for i, c in enumerate(text) -/
namespace G1
open PySem PySem.Spec PyProof.Rows L2
/-- the signs of x, each in a new pair with its place -/
def Ites (x : Str) : It :=
  ⟨fun i _ => i < x.cps.size, fun i H v H' => ∃ T c, v = .ref T ∧ H T = none ∧ x.cps[i]? = some c ∧ H' = upd H T (.tup [.int (i : Nat), .str ⟨#[c]⟩]), fun i _ => i = x.cps.size⟩
theorem turn_enumS {P : Program} {w : World} {K : PySem.W.Frag} {elts : List Expr} {kk : Nat} {tpos : Pos} (x : Str) (t : Tok) (e it : Addr) (hne : e ≠ it) :
    Turn P w K (.Tuple elts kk tpos) (Ites x) [e, it] e (fun i h => (∃ old, IsEnum h e it (0 + (i : Int)) old) ∧ h.IsStrIter it (strIterType x) x t i) where
  mem := by simp
  obj := fun i h st b hb => by
    obtain ⟨⟨old, he⟩, ⟨o, ho, hc, hd⟩⟩ := st
    rcases (by simpa using hb : b = e ∨ b = it) with rfl | rfl
    · exact ⟨_, he, fun v z => nomatch z⟩
    · refine ⟨o, ho, fun v z => ?_⟩
      rw [hd] at z
      cases z
  keep := fun i h h' st k => by
    obtain ⟨⟨old, he⟩, o, ho, r⟩ := st
    exact ⟨⟨old, k e (by simp) _ he⟩, o, k it (by simp) o ho, r⟩
  item := by
    intro X hX hW hKK calm i pins s σ H E I away st hg
    subst hX hW hKK
    have D := Draws.text (prog := X.prog) (w := X.w) (A := X.A.in1) (I.ok.hd calm) it x t
    have W := GoesN.enumFrom (elts := elts) (x1 := kk) (pos := tpos) 0 D e hne (by simpa using hne) (by simp)
    refine W.goes i s _ E hg st fun v h' tk hY st' hk htk => ?_
    obtain ⟨T, t', y, ev, hT, ⟨c, u, hcx, ey⟩, hO⟩ := hY
    subst ev ey
    obtain ⟨o, ho, hoc, n, hod⟩ := hO
    have new : ObjOk X.prog X.w (upd H T (.tup [.int (i : Nat), .str ⟨#[c]⟩])) h' T (.tup [.int (i : Nat), .str ⟨#[c]⟩]) :=
      ⟨by show 2 ≤ sizeLine; decide, [.int (0 + (i : Int)) t', .str ⟨#[c]⟩ u], .cons ⟨t', by rw [Int.zero_add]⟩ (.cons ⟨u, rfl⟩ .nil), ⟨o, ho, hoc, n, hod⟩⟩
    have I1 : Inv X pins σ (upd H T (.tup [.int (i : Nat), .str ⟨#[c]⟩])) { s with heap := h', toks := tk } :=
      I.turnedNew (ch := [e, it]) hk away hT new
    refine ⟨.ref T, _, I1, rfl, ⟨T, c, rfl, I.hok.fresh hT, hcx, rfl⟩, st', fun b hb => ?_⟩
    have hb' : b < s.heap.objs.size := by
      obtain ⟨⟨old, he⟩, o2, ho2, _⟩ := st
      rcases (by simpa using hb : b = e ∨ b = it) with rfl | rfl
      · exact Heap.lt_size he
      · exact Heap.lt_size ho2
    rw [upd_ne (Nat.ne_of_lt (Nat.lt_of_lt_of_le hb' hT))]
    exact (away b hb).1
  done := by
    intro X hX hW hKK calm i pins s σ H E I away st hg
    subst hX hW hKK
    replace hg : i = x.cps.size := hg
    subst hg
    have D := Draws.text (prog := X.prog) (w := X.w) (A := X.A.in1) (I.ok.hd calm) it x t
    have W := GoesN.enumFrom (elts := elts) (x1 := kk) (pos := tpos) 0 D e hne (by simpa using hne) (by simp)
    refine W.stops s _ E st fun h' tk hk htk => ?_
    exact I.turnedL (t' := tk) (ch := [e, it]) hk away
  self := fun A i s Q E st q => wpAny_pyIter_enum st.1.choose_spec q
def iEnumS (ta : TA) : TI := fun σ H R => ta σ H fun vs H1 => ∃ x, vs = [.str x] ∧ R (Ites x) H1
theorem pi_enumS {X : Cx} {e : Expr} {ta : TA} {p pos tpos : Pos} {elts : List Expr} {kk : Nat} (hg : Gl X "enumerate") (hm : X.mg "enumerate" = none) (ha : PA X [e] ta) (hs : starEach [e] X.env = [(false, eval e X.env)] := by rfl) :
    PI X (.Tuple elts kk tpos) (.Call (.Name "enumerate" p) [e] [] pos) (iEnumS ta) := by
  refine ⟨fun pn s σ H R Iv told => Call_ (ld_blt Iv hg hm boot_enumerate (PyProof.Rows.callWith_type1 (thn (ha.run pos pn s σ H _ Iv told) ?_) hs rfl))⟩
  rintro us s1 ⟨vs, H1, I1, r1, x, rfl, q⟩
  cases r1 with
  | cons r rr =>
    cases rr
    obtain ⟨t, rfl⟩ := r
    refine call_enumerate_str fun h' he hit hsz hk => wpAny_pyIter_enum he ?_
    refine ⟨s1.heap.objs.size + 1, [s1.heap.objs.size + 1, s1.heap.objs.size], _, _, H1, rfl, I1.kept (t' := s1.toks) hk, turn_enumS x t (s1.heap.objs.size + 1) s1.heap.objs.size (Nat.succ_ne_self _), ⟨⟨.none, he⟩, hit⟩, fun b hb => ?_, q⟩
    have up : s1.heap.objs.size ≤ b := by
      rcases (by simpa using hb : b = s1.heap.objs.size + 1 ∨ b = s1.heap.objs.size) with rfl | rfl
      · exact Nat.le_succ _
      · exact Nat.le_refl _
    exact I1.fpOk up (I1.hok.fresh up)
theorem lc_enumS {x : Str} {g : TG} {tt : TT} {te : TE} {vs : List Nat} {σ : L2.St} {H1 : Hp} {D : Addr} {Qd : Hp → Prop} (Pv : Nat → Hp → Prop) (h0 : Pv 0 (upd H1 D (.lst [])))
    (hs : ∀ i c T H, x.cps[i]? = some c → Pv i H → H T = none → g (.ref T) (wipe σ vs) (upd H T (.tup [.int (i : Nat), .str ⟨#[c]⟩])) fun σ2 H2 => wipe σ2 vs = wipe σ vs ∧ tt σ2 H2 fun b H3 =>
      if b = true then te σ2 H3 fun y H4 => ∃ acc, H4 D = some (.lst acc) ∧ acc.length < sizeLine ∧ Pv (i + 1) (upd H4 D (.lst (acc ++ [y]))) else Pv (i + 1) H3) (hd : ∀ H, Pv x.cps.size H → Qd H) :
    ∃ W : Nat → Nat → Hp → Prop, (∃ m, W 0 m (upd H1 D (.lst []))) ∧ ∀ i m H, W i m H →
      ((Ites x).stop i H ∧ Qd H) ∨ ((Ites x).go i H ∧ ∃ Nx : Hp → Prop, (∀ H', Nx H' → ∃ m', m' < m ∧ W (i + 1) m' H') ∧ ∀ v H', (Ites x).yld i H v H' → g v (wipe σ vs) H' fun σ2 H2 => wipe σ2 vs = wipe σ vs ∧ tt σ2 H2 fun b H3 =>
        if b = true then te σ2 H3 fun y H4 => ∃ acc, H4 D = some (.lst acc) ∧ acc.length < sizeLine ∧ Nx (upd H4 D (.lst (acc ++ [y]))) else Nx H3) := by
  refine ⟨fun i m H => m = x.cps.size - i ∧ i ≤ x.cps.size ∧ Pv i H, ⟨x.cps.size, by simp, Nat.zero_le _, h0⟩, ?_⟩
  rintro i m H ⟨rfl, hi, p⟩
  by_cases hlt : i < x.cps.size
  · refine .inr ⟨hlt, Pv (i + 1), fun H' p' => ⟨x.cps.size - (i + 1), by omega, rfl, hlt, p'⟩, fun v H' y => ?_⟩
    obtain ⟨T, c, rfl, hT, hc, rfl⟩ := y
    exact hs i c T H hc p hT
  · have e : i = x.cps.size := by omega
    subst e
    exact .inl ⟨rfl, hd H p⟩
theorem for_enumS {x : Str} {g : TG} {tb : TS} {D : Ends} {σ : L2.St} {H : Hp} (Pv : Nat → L2.St → Hp → Prop) (h0 : Pv 0 σ H)
    (hs : ∀ i c T σ H, x.cps[i]? = some c → Pv i σ H → H T = none → g (.ref T) σ (upd H T (.tup [.int (i : Nat), .str ⟨#[c]⟩])) fun σ2 H2 => tb { D with nx := Pv (i + 1), ct := Pv (i + 1), bk := D.nx } σ2 H2) (hd : ∀ σ H, Pv x.cps.size σ H → D.nx σ H) :
    ∃ W : Nat → Nat → L2.St → Hp → Prop, (∃ m, W 0 m σ H) ∧ ∀ i m σ H, W i m σ H →
      ((Ites x).stop i H ∧ D.nx σ H) ∨ ((Ites x).go i H ∧ ∃ N : L2.St → Hp → Prop, (∀ σ' H', N σ' H' → ∃ m', m' < m ∧ W (i + 1) m' σ' H') ∧ ∀ v H', (Ites x).yld i H v H' → g v σ H' fun σ2 H2 => tb { D with nx := N, ct := N, bk := D.nx } σ2 H2) := by
  refine ⟨fun i m σ H => m = x.cps.size - i ∧ i ≤ x.cps.size ∧ Pv i σ H, ⟨x.cps.size, by simp, Nat.zero_le _, h0⟩, ?_⟩
  rintro i m σ H ⟨rfl, hi, p⟩
  by_cases hlt : i < x.cps.size
  · refine .inr ⟨hlt, Pv (i + 1), fun σ' H' p' => ⟨x.cps.size - (i + 1), by omega, rfl, hlt, p'⟩, fun v H' y => ?_⟩
    obtain ⟨T, c, rfl, hT, hc, rfl⟩ := y
    exact hs i c T σ H hc p hT
  · have e : i = x.cps.size := by omega
    subst e
    exact .inl ⟨rfl, hd σ H p⟩
end G1
/-! repr of None and of numbers -/
namespace G1
open PySem PySem.Spec PyProof.Rows L2
def shO0 : V → Str
  | .int i => Str.ofString (toString i)
  | _ => "None"
/-- the text of None or of a number -/
@[irreducible] def shO (v : V) : Str := shO0 v
/-- None, or a number that is not too great -/
def Leaf (v : V) : Prop := v = .non ∨ ∃ i : Int, v = .int i ∧ i.natAbs.log2 < 1920
theorem leaf_non : Leaf .non := .inl rfl
theorem leaf_int {i : Int} (h0 : 0 ≤ i) (h1 : i < 2 ^ 1000) : Leaf (.int i) := by
  refine .inr ⟨i, rfl, ?_⟩
  obtain ⟨n, rfl⟩ : ∃ n : Nat, i = (n : Int) := ⟨i.toNat, by omega⟩
  have hn : n < 2 ^ 1000 := by
    have e : ((2 : Int) ^ 1000) = ((2 ^ 1000 : Nat) : Int) := by norm_cast
    rw [e] at h1
    exact Int.ofNat_lt.mp h1
  by_cases z : n = 0
  · subst z
    decide
  · have : n.log2 < 1000 := (Nat.log2_lt z).mpr hn
    show n.log2 < 1920
    omega
section
variable {X : Cx}
theorem call_reprO : CallR X (.builtin "repr") (fun xs H Q => ∃ v : V, xs = [v] ∧ Leaf v ∧ Q (.str (shO v)) H) := by
  intro pn s σ H xs us Q I r told
  obtain ⟨v, rfl, lf, q⟩ := told
  obtain ⟨u, rfl, ru⟩ := vals1 r
  unfold shO at q
  rcases lf with rfl | ⟨i, rfl, hi⟩
  · obtain rfl : u = Value.none := ru
    exact PySem.P.repr_of_none ⟨.str _, H, I.tok _, ⟨_, rfl⟩, q⟩
  · obtain ⟨t, rfl⟩ := ru
    exact PySem.P.repr_of_int hi ⟨.str _, H, I.tok _, ⟨_, rfl⟩, q⟩
end
end G1
/-! repr of lists of numbers and None -/
namespace G1
open PySem PySem.Spec PyProof.Rows L2
/-- None, or a number below 10 ** 30 -/
def Num (d : PyData) : Prop := d = .none ∨ ∃ i : Int, d = .int i ∧ 0 ≤ i ∧ i < 10 ^ 30
theorem num_weight {d : PyData} (h : Num d) : d.weight ≤ 101 := by
  rcases h with rfl | ⟨i, rfl, h0, h1⟩
  · exact Nat.zero_le _
  · show (if i == 0 then 0 else i.natAbs.log2 + 1) ≤ 101
    split
    · omega
    · obtain ⟨n, rfl⟩ : ∃ n : Nat, i = (n : Int) := ⟨i.toNat, by omega⟩
      rename_i hz
      have z : n ≠ 0 := fun e => by rw [e] at hz; exact hz rfl
      have hn : n < 2 ^ 100 := by
        have e : (10 : Int) ^ 30 < ((2 ^ 100 : Nat) : Int) := by decide
        omega
      have : n.log2 < 100 := (Nat.log2_lt z).mpr hn
      show n.log2 + 1 ≤ 101
      omega
theorem num_short {d : PyData} (h : Num d) : d.leavesShort 40 = true := by
  rcases h with rfl | ⟨i, rfl, h0, h1⟩
  · rfl
  · show decide ((PyData.shown (.int i)).length ≤ 40) = true
    rw [decide_eq_true_eq]
    have e := PyProof.Rows.toString_length_le h0 (k := 30) (by decide) h1
    have e2 : (PyData.shown (.int i)).length = (Str.ofString (toString i)).length := rfl
    omega
theorem log_ok {i : Int} (h0 : 0 ≤ i) (h1 : i < 10 ^ 30) : i.natAbs.log2 < 1920 := by
  rcases leaf_int h0 (Int.lt_trans h1 (by decide)) with e | ⟨j, e, h⟩
  · cases e
  · obtain rfl := V.int.inj e
    exact h
theorem num_all : ∀ ds : List PyData, (∀ d ∈ ds, Num d) → PyData.showableAll ds = true ∧ PyData.hasDictAll ds = false ∧ PyData.depthAll ds ≤ 20 ∧ PyData.leavesShortAll 40 ds = true ∧ PyData.weightAll ds ≤ 102 * ds.length
  | [], _ => by simp [PyData.showableAll, PyData.hasDictAll, PyData.depthAll, PyData.leavesShortAll, PyData.weightAll]
  | d :: ds, h => by
    obtain ⟨h1, h2, h3, h4, h5⟩ := num_all ds fun e he => h e (List.mem_cons_of_mem _ he)
    have n := h d List.mem_cons_self
    have nw := num_weight n
    have ns := num_short n
    refine ⟨?_, ?_, ?_, ?_, ?_⟩
    · rcases n with rfl | ⟨i, rfl, i0, i1⟩
      · simp [PyData.showableAll, PyData.showable, h1]
      · simp [PyData.showableAll, PyData.showable, h1, log_ok i0 i1]
    · rcases n with rfl | ⟨i, rfl, _⟩ <;> simp [PyData.hasDictAll, PyData.hasDict, h2]
    · rcases n with rfl | ⟨i, rfl, _⟩ <;> (simp only [PyData.depthAll, PyData.depth]; omega)
    · simp [PyData.leavesShortAll, h4, ns]
    · simp only [PyData.weightAll, List.length_cons]
      omega
theorem repr_nums {K : PySem.W.Frag} {H : Hp} {R : PyData → Prop} {a : Addr} {xs : List V} (ds : List PyData) (e : H a = some (.lst xs)) (hd : DpAll K H xs ds) (hs : ∀ d ∈ ds, Num d) (hl : ds.length ≤ 40) (q : R (.list ds)) :
    ∃ (a' : Addr) (d' : PyData), [V.ref a] = [V.ref a'] ∧ Dp K H (.ref a') d' ∧ d'.showable = true ∧ d'.hasDict = false ∧ d'.depth ≤ 60 ∧ d'.shown.length ≤ sizeLine ∧ R d' := by
  obtain ⟨h1, h2, h3, h4, h5⟩ := num_all ds hs
  refine ⟨a, .list ds, rfl, .lst (.inl (.inl e)) hd, ?_, ?_, ?_, ?_, q⟩
  · simp only [PyData.showable]; exact h1
  · simp only [PyData.hasDict]; exact h2
  · simp only [PyData.depth]; omega
  · have s := PyData.shown_le 40 (by decide) (.list ds) (by simp only [PyData.leavesShort]; exact h4)
    simp only [PyData.weight] at s
    have : 102 * ds.length ≤ 102 * 40 := Nat.mul_le_mul_left _ hl
    exact Nat.le_trans s (Nat.le_trans (by omega : 42 * PyData.weightAll ds + 40 ≤ 200000) (by decide))
end G1
namespace G13
open PySem PySem.Spec PyProof.Rows L2 G1 Row
local macro_rules | `(tactic| walk_at "side") => `(tactic| first
  | assumption
  | omega
  | (constructor <;> omega)
  | rfl
  | decide
  | (dsimp only; decide)
  | (refine szl ?_; simp only [List.length_cons, List.length_nil]; omega)
  | (unfold CMul; omega)
  | (unfold CDiv; omega)
  | (unfold CPow; omega)
  | (unfold CMul; simp; done)
  | (unfold CMul; simp; omega)
  | (simp only [List.length_map, List.length_append, List.length_take, List.length_drop, rep_length, List.length_cons, List.length_nil, Nat.zero_add, Nat.mul_one]; omega))
local macro_rules | `(tactic| walk_at "go1") => `(tactic| first
  | (apply go_bit; (focus walk_at "side"); rw [B_str _ (by walk_at "side") (by walk_at "side")])
  | (apply go_lenS; (focus walk_at "side"); simp only [B_len])
  | (apply go_addS; (focus walk_at "side"); rw [B_app])
  | (apply go_mulS; (focus walk_at "side"); (focus walk_at "side"); rw [B_mul _ (by walk_at "side")])
  | (apply go_sl; (focus walk_at "side"); first | rw [B_last] | rw [B_init] | rw [B_to _ (by walk_at "side")] | rw [B_from _ (by walk_at "side")] | rw [B_mid _ (by walk_at "side") (by walk_at "side")])
  | refine ⟨_, rfl, ?_⟩
  | refine ⟨_, _, rfl, rfl, ?_⟩
  | refine ⟨_, _, _, rfl, rfl, ?_⟩
  | refine ⟨_, _, rfl, ?_⟩
  | refine ⟨_, _, _, rfl, ?_⟩
  | (apply go_tup; assumption)
  | (apply go_unl; assumption)
  | (apply go_ixL; assumption; (first | rfl | assumption))
  | (apply go_ixT; assumption; (first | rfl | assumption))
  | (apply go_lenL; assumption)
  | refine Or.inl ⟨_, rfl, ?_⟩
  | (refine And.intro ?ll ?_; (case ll => walk_at "side")))
local macro_rules | `(tactic| walk_at "go") => `(tactic| repeat (walk_at "go1"))
def topS (i : Nat) : Stmt := PySem.Challenge.pw_leastmakers_k13_told_numbers_counted.main.body.getD i (.Pass ⟨0, 0, 0, 0⟩)
abbrev s_below : Stmt := topS 1
abbrev nm_below : List Str := ["table", "number", "head", "turn", "rounds", "rest"]
theorem sc_below : FnScope nm_below ["table", "number"] (defScope s_below) := ⟨rfl, rfl, rfl, by decide +kernel, rfl, by decide +kernel, by decide +kernel⟩
abbrev s_kth : Stmt := topS 2
abbrev nm_kth : List Str := ["table", "place", "head", "turn", "in_head", "in_turn", "rounds", "rest"]
theorem sc_kth : FnScope nm_kth ["table", "place"] (defScope s_kth) := ⟨rfl, rfl, rfl, by decide +kernel, rfl, by decide +kernel, by decide +kernel⟩
abbrev s_places : Stmt := topS 3
abbrev nm_places : List Str := ["row", "place", "sign"]
theorem sc_places : FnScope nm_places ["row"] (defScope s_places) := ⟨rfl, rfl, rfl, by decide +kernel, rfl, by decide +kernel, by decide +kernel⟩
abbrev s_nextfrom : Stmt := topS 4
abbrev nm_nextfrom : List Str := ["table", "number"]
theorem sc_nextfrom : FnScope nm_nextfrom ["table", "number"] (defScope s_nextfrom) := ⟨rfl, rfl, rfl, by decide +kernel, rfl, by decide +kernel, by decide +kernel⟩
abbrev s_well : Stmt := topS 6
abbrev nm_well : List Str := ["_law_script", "_law_great_here", "_law_cells", "_law_cell"]
theorem sc_well : FnScope nm_well ["_law_script"] (defScope s_well) := ⟨rfl, rfl, rfl, by decide +kernel, rfl, by decide +kernel, by decide +kernel⟩
abbrev s_draw : Stmt := topS 7
abbrev nm_draw : List Str := ["_law_well_here", "_law_size", "_law_rest", "_law_count", "_law_mixed"]
theorem sc_draw : FnScope nm_draw ["_law_well_here", "_law_size"] (defScope s_draw) := ⟨rfl, rfl, rfl, by decide +kernel, rfl, by decide +kernel, by decide +kernel⟩
abbrev s_pick : Stmt := topS 8
abbrev nm_pick : List Str := ["_law_well_here", "_law_items"]
theorem sc_pick : FnScope nm_pick ["_law_well_here", "_law_items"] (defScope s_pick) := ⟨rfl, rfl, rfl, by decide +kernel, rfl, by decide +kernel, by decide +kernel⟩
abbrev s_far : Stmt := topS 9
abbrev nm_far : List Str := ["_law_well_here", "_law_kind", "_law_found"]
theorem sc_far : FnScope nm_far ["_law_well_here"] (defScope s_far) := ⟨rfl, rfl, rfl, by decide +kernel, rfl, by decide +kernel, by decide +kernel⟩
abbrev s_bits : Stmt := topS 10
abbrev nm_bits : List Str := ["_law_well_here", "_law_size", "_law_found", "_law_turn", "_law_mixed", "_law_k"]
theorem sc_bits : FnScope nm_bits ["_law_well_here", "_law_size"] (defScope s_bits) := ⟨rfl, rfl, rfl, by decide +kernel, rfl, by decide +kernel, by decide +kernel⟩
abbrev s_word : Stmt := topS 11
abbrev nm_word : List Str := ["_law_well_here", "_law_size", "_law_kind", "_law_at", "_law_own", "_law_odd", "_law_short", "_law_found"]
theorem sc_word : FnScope nm_word ["_law_well_here", "_law_size"] (defScope s_word) := ⟨rfl, rfl, rfl, by decide +kernel, rfl, by decide +kernel, by decide +kernel⟩
abbrev s_table : Stmt := topS 12
abbrev nm_table : List Str := ["_law_well_here", "_law_tall", "_law_wide"]
theorem sc_table : FnScope nm_table ["_law_well_here", "_law_tall", "_law_wide"] (defScope s_table) := ⟨rfl, rfl, rfl, by decide +kernel, rfl, by decide +kernel, by decide +kernel⟩
abbrev s_written : Stmt := topS 13
abbrev nm_written : List Str := ["_law_well_here", "_law_x", "_law_more", "_law_longer", "_law_often", "_law_row", "_law_cut"]
theorem sc_written : FnScope nm_written ["_law_well_here", "_law_x", "_law_more"] (defScope s_written) := ⟨rfl, rfl, rfl, by decide +kernel, rfl, by decide +kernel, by decide +kernel⟩
abbrev s_sign : Stmt := topS 14
abbrev nm_sign : List Str := ["_law_x", "_law_n"]
theorem sc_sign : FnScope nm_sign ["_law_x", "_law_n"] (defScope s_sign) := ⟨rfl, rfl, rfl, by decide +kernel, rfl, by decide +kernel, by decide +kernel⟩
abbrev s_lbelow : Stmt := topS 15
abbrev nm_lbelow : List Str := ["_law_x", "_law_n", "_law_often", "_law_rest"]
theorem sc_lbelow : FnScope nm_lbelow ["_law_x", "_law_n"] (defScope s_lbelow) := ⟨rfl, rfl, rfl, by decide +kernel, rfl, by decide +kernel, by decide +kernel⟩
abbrev s_left : Stmt := topS 16
abbrev nm_left : List Str := ["_law_x", "_law_n"]
theorem sc_left : FnScope nm_left ["_law_x", "_law_n"] (defScope s_left) := ⟨rfl, rfl, rfl, by decide +kernel, rfl, by decide +kernel, by decide +kernel⟩
abbrev s_isfound : Stmt := topS 17
abbrev nm_isfound : List Str := ["_law_x", "_law_n", "_law_count", "_law_thing"]
theorem sc_isfound : FnScope nm_isfound ["_law_x", "_law_n", "_law_count", "_law_thing"] (defScope s_isfound) := ⟨rfl, rfl, rfl, by decide +kernel, rfl, by decide +kernel, by decide +kernel⟩
abbrev s_isplace : Stmt := topS 18
abbrev nm_isplace : List Str := ["_law_x", "_law_place_of", "_law_thing"]
theorem sc_isplace : FnScope nm_isplace ["_law_x", "_law_place_of", "_law_thing"] (defScope s_isplace) := ⟨rfl, rfl, rfl, by decide +kernel, rfl, by decide +kernel, by decide +kernel⟩
abbrev s_great : Stmt := topS 19
abbrev nm_great : List Str := ["_law_well_here", "_law_head"]
theorem sc_great : FnScope nm_great ["_law_well_here"] (defScope s_great) := ⟨rfl, rfl, rfl, by decide +kernel, rfl, by decide +kernel, by decide +kernel⟩
abbrev s_counts : Stmt := topS 20
abbrev nm_counts : List Str := ["_law_well_here", "_law_x", "_law_h", "_law_t", "_law_ones", "_law_more", "_law_numbers_of", "_law_places_of", "_law_some", "_law_k"]
theorem sc_counts : FnScope nm_counts ["_law_well_here", "_law_x"] (defScope s_counts) := ⟨rfl, rfl, rfl, by decide +kernel, rfl, by decide +kernel, by decide +kernel⟩
abbrev s_arenext : Stmt := topS 21
abbrev nm_arenext : List Str := ["_law_x", "_law_n", "_law_due", "_law_found", "_law_k"]
theorem sc_arenext : FnScope nm_arenext ["_law_x", "_law_n", "_law_due", "_law_found"] (defScope s_arenext) := ⟨rfl, rfl, rfl, by decide +kernel, rfl, by decide +kernel, by decide +kernel⟩
abbrev s_law : Stmt := topS 22
abbrev nm_law : List Str := ["_law_script", "_law_well_here", "_law_turn", "_law_x", "_law_asked_of", "_law_n", "_law_due", "_law_found", "_law_told"]
theorem sc_law : FnScope nm_law ["_law_script"] (defScope s_law) := ⟨rfl, rfl, rfl, by decide +kernel, rfl, by decide +kernel, by decide +kernel⟩
structure Tp (K : PySem.W.Frag) (mg : Str → Option Value) where
  a_below : Addr
  d_below : FuncData
  F_below : Fun K "below" "below" s_below a_below d_below
  g_below : mg "below" = some (.ref a_below)
  a_kth : Addr
  d_kth : FuncData
  F_kth : Fun K "kth" "kth" s_kth a_kth d_kth
  g_kth : mg "kth" = some (.ref a_kth)
  a_places : Addr
  d_places : FuncData
  F_places : Fun K "_told_places" "_told_places" s_places a_places d_places
  g_places : mg "_told_places" = some (.ref a_places)
  a_nextfrom : Addr
  d_nextfrom : FuncData
  F_nextfrom : Fun K "next_from" "next_from" s_nextfrom a_nextfrom d_nextfrom
  g_nextfrom : mg "next_from" = some (.ref a_nextfrom)
  a_well : Addr
  d_well : FuncData
  F_well : Fun K "_law_well" "_law_well" s_well a_well d_well
  g_well : mg "_law_well" = some (.ref a_well)
  a_draw : Addr
  d_draw : FuncData
  F_draw : Fun K "_law_draw" "_law_draw" s_draw a_draw d_draw
  g_draw : mg "_law_draw" = some (.ref a_draw)
  a_pick : Addr
  d_pick : FuncData
  F_pick : Fun K "_law_pick" "_law_pick" s_pick a_pick d_pick
  g_pick : mg "_law_pick" = some (.ref a_pick)
  a_far : Addr
  d_far : FuncData
  F_far : Fun K "_law_far" "_law_far" s_far a_far d_far
  g_far : mg "_law_far" = some (.ref a_far)
  a_bits : Addr
  d_bits : FuncData
  F_bits : Fun K "_law_bits" "_law_bits" s_bits a_bits d_bits
  g_bits : mg "_law_bits" = some (.ref a_bits)
  a_word : Addr
  d_word : FuncData
  F_word : Fun K "_law_word" "_law_word" s_word a_word d_word
  g_word : mg "_law_word" = some (.ref a_word)
  a_table : Addr
  d_table : FuncData
  F_table : Fun K "_law_table" "_law_table" s_table a_table d_table
  g_table : mg "_law_table" = some (.ref a_table)
  a_written : Addr
  d_written : FuncData
  F_written : Fun K "_law_written" "_law_written" s_written a_written d_written
  g_written : mg "_law_written" = some (.ref a_written)
  a_sign : Addr
  d_sign : FuncData
  F_sign : Fun K "_law_sign" "_law_sign" s_sign a_sign d_sign
  g_sign : mg "_law_sign" = some (.ref a_sign)
  a_lbelow : Addr
  d_lbelow : FuncData
  F_lbelow : Fun K "_law_below" "_law_below" s_lbelow a_lbelow d_lbelow
  g_lbelow : mg "_law_below" = some (.ref a_lbelow)
  a_left : Addr
  d_left : FuncData
  F_left : Fun K "_law_left" "_law_left" s_left a_left d_left
  g_left : mg "_law_left" = some (.ref a_left)
  a_isfound : Addr
  d_isfound : FuncData
  F_isfound : Fun K "_law_is_found" "_law_is_found" s_isfound a_isfound d_isfound
  g_isfound : mg "_law_is_found" = some (.ref a_isfound)
  a_isplace : Addr
  d_isplace : FuncData
  F_isplace : Fun K "_law_is_place" "_law_is_place" s_isplace a_isplace d_isplace
  g_isplace : mg "_law_is_place" = some (.ref a_isplace)
  a_great : Addr
  d_great : FuncData
  F_great : Fun K "_law_great" "_law_great" s_great a_great d_great
  g_great : mg "_law_great" = some (.ref a_great)
  a_counts : Addr
  d_counts : FuncData
  F_counts : Fun K "_law_counts" "_law_counts" s_counts a_counts d_counts
  g_counts : mg "_law_counts" = some (.ref a_counts)
  a_arenext : Addr
  d_arenext : FuncData
  F_arenext : Fun K "_law_are_next" "_law_are_next" s_arenext a_arenext d_arenext
  g_arenext : mg "_law_are_next" = some (.ref a_arenext)
  a_law : Addr
  d_law : FuncData
  F_law : Fun K "law" "law" s_law a_law d_law
  g_law : mg "law" = some (.ref a_law)
  n_abs : mg "abs" = none
  n_bool : mg "bool" = none
  n_divmod : mg "divmod" = none
  n_enumerate : mg "enumerate" = none
  n_int : mg "int" = none
  n_isinstance : mg "isinstance" = none
  n_len : mg "len" = none
  n_max : mg "max" = none
  n_min : mg "min" = none
  n_range : mg "range" = none
  n_repr : mg "repr" = none
  n_str : mg "str" = none
  n_sum : mg "sum" = none
section
variable {K : PySem.W.Frag} {mg : Str → Option Value} (T : Tp K mg)
theorem b_below : Binds K T.d_below ["table", "number"] [] := T.F_below.binds (ps := ["table", "number"]) fun _ _ _ _ _ _ us hl => match us, hl with | [_, _], _ => rfl
theorem b_kth : Binds K T.d_kth ["table", "place"] [] := T.F_kth.binds (ps := ["table", "place"]) fun _ _ _ _ _ _ us hl => match us, hl with | [_, _], _ => rfl
theorem b_places : Binds K T.d_places ["row"] [] := T.F_places.binds (ps := ["row"]) fun _ _ _ _ _ _ us hl => match us, hl with | [_], _ => rfl
theorem b_nextfrom : Binds K T.d_nextfrom ["table", "number"] [] := T.F_nextfrom.binds (ps := ["table", "number"]) fun _ _ _ _ _ _ us hl => match us, hl with | [_, _], _ => rfl
theorem b_well : Binds K T.d_well ["_law_script"] [] := T.F_well.binds (ps := ["_law_script"]) fun _ _ _ _ _ _ us hl => match us, hl with | [_], _ => rfl
theorem b_draw : Binds K T.d_draw ["_law_well_here", "_law_size"] [] := T.F_draw.binds (ps := ["_law_well_here", "_law_size"]) fun _ _ _ _ _ _ us hl => match us, hl with | [_, _], _ => rfl
theorem b_pick : Binds K T.d_pick ["_law_well_here", "_law_items"] [] := T.F_pick.binds (ps := ["_law_well_here", "_law_items"]) fun _ _ _ _ _ _ us hl => match us, hl with | [_, _], _ => rfl
theorem b_far : Binds K T.d_far ["_law_well_here"] [] := T.F_far.binds (ps := ["_law_well_here"]) fun _ _ _ _ _ _ us hl => match us, hl with | [_], _ => rfl
theorem b_bits : Binds K T.d_bits ["_law_well_here", "_law_size"] [] := T.F_bits.binds (ps := ["_law_well_here", "_law_size"]) fun _ _ _ _ _ _ us hl => match us, hl with | [_, _], _ => rfl
theorem b_word : Binds K T.d_word ["_law_well_here", "_law_size"] [] := T.F_word.binds (ps := ["_law_well_here", "_law_size"]) fun _ _ _ _ _ _ us hl => match us, hl with | [_, _], _ => rfl
theorem b_table : Binds K T.d_table ["_law_well_here", "_law_tall", "_law_wide"] [] := T.F_table.binds (ps := ["_law_well_here", "_law_tall", "_law_wide"]) fun _ _ _ _ _ _ us hl => match us, hl with | [_, _, _], _ => rfl
theorem b_written : Binds K T.d_written ["_law_well_here", "_law_x", "_law_more"] [] := T.F_written.binds (ps := ["_law_well_here", "_law_x", "_law_more"]) fun _ _ _ _ _ _ us hl => match us, hl with | [_, _, _], _ => rfl
theorem b_sign : Binds K T.d_sign ["_law_x", "_law_n"] [] := T.F_sign.binds (ps := ["_law_x", "_law_n"]) fun _ _ _ _ _ _ us hl => match us, hl with | [_, _], _ => rfl
theorem b_lbelow : Binds K T.d_lbelow ["_law_x", "_law_n"] [] := T.F_lbelow.binds (ps := ["_law_x", "_law_n"]) fun _ _ _ _ _ _ us hl => match us, hl with | [_, _], _ => rfl
theorem b_left : Binds K T.d_left ["_law_x", "_law_n"] [] := T.F_left.binds (ps := ["_law_x", "_law_n"]) fun _ _ _ _ _ _ us hl => match us, hl with | [_, _], _ => rfl
theorem b_isfound : Binds K T.d_isfound ["_law_x", "_law_n", "_law_count", "_law_thing"] [] := T.F_isfound.binds (ps := ["_law_x", "_law_n", "_law_count", "_law_thing"]) fun _ _ _ _ _ _ us hl => match us, hl with | [_, _, _, _], _ => rfl
theorem b_isplace : Binds K T.d_isplace ["_law_x", "_law_place_of", "_law_thing"] [] := T.F_isplace.binds (ps := ["_law_x", "_law_place_of", "_law_thing"]) fun _ _ _ _ _ _ us hl => match us, hl with | [_, _, _], _ => rfl
theorem b_great : Binds K T.d_great ["_law_well_here"] [] := T.F_great.binds (ps := ["_law_well_here"]) fun _ _ _ _ _ _ us hl => match us, hl with | [_], _ => rfl
theorem b_counts : Binds K T.d_counts ["_law_well_here", "_law_x"] [] := T.F_counts.binds (ps := ["_law_well_here", "_law_x"]) fun _ _ _ _ _ _ us hl => match us, hl with | [_, _], _ => rfl
theorem b_arenext : Binds K T.d_arenext ["_law_x", "_law_n", "_law_due", "_law_found"] [] := T.F_arenext.binds (ps := ["_law_x", "_law_n", "_law_due", "_law_found"]) fun _ _ _ _ _ _ us hl => match us, hl with | [_, _, _, _], _ => rfl
theorem b_law : Binds K T.d_law ["_law_script"] [] := T.F_law.binds (ps := ["_law_script"]) fun _ _ _ _ _ _ us hl => match us, hl with | [_], _ => rfl
end
section
variable {P : Program} {wd : World} {K : PySem.W.Frag} {mg : Str → Option Value} {base : Heap} (T : Tp K mg)
/-- a draw: any number below the size -/
def spDraw : Sp := fun vs H Q _ => ∃ (w g : Addr) (n : Int), vs = [.ref w, .int n] ∧ WellAt w g H ∧ 0 < n ∧ n < 1073741824 ∧
  ∀ (d : Int) H', Go w g H H' → WellAt w g H' → 0 ≤ d → d < n → Q (.int d) H'
theorem ok_draw : FnOk P wd K mg base CX0 1 T.a_draw T.d_draw ["_law_well_here", "_law_size"] spDraw := by
  refine T.F_draw.ok sc_draw (fun vs H Q E h => ?_) (fun cdv A outer s H vs Q E hr h => ?_)
  · obtain ⟨w, g, n, rfl, _⟩ := h
    rfl
  · have hu4 : (cxOf CX0 P wd K mg base nm_draw "_law_draw" (defScope s_draw) T.a_draw cdv A outer s H E).A.units + 64 < cLine := hr.units
    obtain ⟨w, g, n, rfl, W, n0, n1, q⟩ := h
    refine ⟨_, (pss_cons (ps_if (pt_cmpR (op_neD hu4) (pe_ix ix_list (pv 0) pe_int (fun _ _ => rfl)) (pe_lst pa_nil) (nomark _)) (pss_cons (ps_set (i := 2) sc_draw.nd rfl (Or.inl rfl) (pe_ix ix_list (pe_ix ix_list (pv 0) pe_int (fun _ _ => rfl)) pe_int (fun _ _ => rfl)))
      (pss_cons (ps_asg (pe_op op_fdiv (pv 2) (pv 1)) (pg_sub (pe_ix ix_list (pv 0) pe_int (fun _ _ => rfl)) pe_int set_list))
      (pss_cons (ps_if (pt_cmpR op_lt (pv 2) (pv 1) (nomark _)) (pss_one (ps_expr (pe_bm PySem.F.plainAttrs_list PySem.F.slot_list_pop PySem.F.type_list_pop mt_popAt (pe_ix ix_list (pv 0) pe_int (fun _ _ => rfl)) (pa_cons pe_int pa_nil)))) pss_nil)
      (pss_one (ps_ret (pe_op op_mod (pe_callTy call_int1 rfl T.n_int (by decide +kernel) (pa_cons (pv 2) pa_nil)) (pv 1))))))) pss_nil)
      (pss_cons (ps_asg (pe_op op_add (pe_ix ix_list (pv 0) pe_int (fun _ _ => rfl)) pe_int) (pg_sub (pv 0) pe_int set_list))
      (pss_cons (ps_set (i := 3) sc_draw.nd rfl (Or.inl rfl) (pe_callTy call_int1 rfl T.n_int (by decide +kernel) (pa_cons (pe_ix ix_list (pv 0) pe_int (fun _ _ => rfl)) pa_nil)))
      (pss_cons (ps_set (i := 4) sc_draw.nd rfl (Or.inl rfl) (pe_op op_mod (pe_callTy call_int1 rfl T.n_int (by decide +kernel) (pa_cons (pe_op op_add (pe_op op_add (pe_op op_mul (pe_ix ix_list (pe_ix ix_list (pv 0) pe_int (fun _ _ => rfl)) (pe_op op_mod (pv 3) (pe_callB call_len_seq rfl T.n_len PySem.boot_len (pa_cons (pe_ix ix_list (pv 0) pe_int (fun _ _ => rfl)) pa_nil))) (fun _ _ => rfl)) pe_int) (pe_op op_mul (pe_ix ix_list (pe_ix ix_list (pv 0) pe_int (fun _ _ => rfl)) (pe_un un_neg pe_int) (fun _ _ => rfl)) pe_int)) (pe_op op_mul (pv 3) pe_int)) pa_nil)) pe_int))
      (pss_cons (ps_set (i := 4) sc_draw.nd rfl (Or.inl rfl) (pe_op op_mod (pe_callTy call_int1 rfl T.n_int (by decide +kernel) (pa_cons (pe_op op_add (pe_op op_mul (pv 4) (pv 4)) (pe_op op_mul (pv 3) pe_int)) pa_nil)) pe_int))
      (pss_one (ps_ret (pe_op op_mod (pe_op op_fdiv (pe_op op_mod (pe_callTy call_int1 rfl T.n_int (by decide +kernel) (pa_cons (pe_op op_add (pe_op op_mul (pv 4) (pv 4)) (pe_op op_mul pe_int (pv 4))) pa_nil)) pe_int) pe_int) (pv 1))))))))), ?_⟩
    obtain ⟨c, gs, cs, k, e1, e2, e3, hw, hg, hc, h0, hgs, hcs⟩ := W
    walk_at "go"
    intro o no
    have nwo := ne_of_none hw no
    have ngo := ne_of_none hg no
    have nco := ne_of_none hc no
    have s1 : Same H (upd H o (.lst [])) := same_new no
    have ho : (upd H o (.lst [])) o = some (.lst []) := upd_same
    generalize upd H o (.lst []) = H1 at s1 ho
    replace hw := s1 _ _ hw
    replace hg := s1 _ _ hg
    replace hc := s1 _ _ hc
    refine ⟨.list (gs.map PyData.int), .list [], .lst (sqL_of hg) (dpAll_ints _), .lst (sqL_of ho) .nil, shaped_ints _, by rfl, _, rfl, ?_⟩
    rw [eqv_ints_nil]
    refine ifDn (fun hne => ?_) (fun he => ?_)
    · obtain ⟨r, gs', rfl⟩ : ∃ r gs', gs = r :: gs' := by
        cases gs with
        | nil => exact absurd rfl hne
        | cons r gs' => exact ⟨r, gs', rfl⟩
      rw [List.map_cons] at hg
      walk_at "go"
      refine ⟨_, _, _, 0, rfl, rfl, hg, ix_zero (by simp), ?_⟩
      -- if rest < size
      have hg2 : (upd H1 g (.lst ((V.int r :: gs'.map V.int).set 0 (V.int (r / n))))) g = some (.lst (((r / n) :: gs').map V.int)) := upd_same
      have hw2 : (upd H1 g (.lst ((V.int r :: gs'.map V.int).set 0 (V.int (r / n))))) w = _ := (upd_ne e1).trans hw
      have hc2 : (upd H1 g (.lst ((V.int r :: gs'.map V.int).set 0 (V.int (r / n))))) c = _ := (upd_ne e2).trans hc
      have s2 : Go w g H (upd H1 g (.lst ((V.int r :: gs'.map V.int).set 0 (V.int (r / n))))) := fun a x n1 n2 e => by
        rw [upd_ne n2]
        exact s1 _ _ e
      generalize upd H1 g (.lst ((V.int r :: gs'.map V.int).set 0 (V.int (r / n)))) = H2 at hg2 hw2 hc2 s2
      walk_at "go"
      refine ifD (fun lt => ?_) (fun nlt => ?_)
      · walk_at "go"
        refine ⟨Or.inl ⟨rfl, _, sqL_of hg2⟩, ?_⟩
        refine ⟨_, _, 0, 0, .int (r / n), rfl, rfl, hg2, by decide, by decide, by rw [List.length_map, List.length_cons]; exact seq_zero _, rfl, ?_⟩
        have hg3 : (upd H2 g (.lst ((((r / n) :: gs').map V.int).eraseIdx 0))) g = some (.lst (gs'.map V.int)) := upd_same
        have hw3 : (upd H2 g (.lst ((((r / n) :: gs').map V.int).eraseIdx 0))) w = _ := (upd_ne e1).trans hw2
        have hc3 : (upd H2 g (.lst ((((r / n) :: gs').map V.int).eraseIdx 0))) c = _ := (upd_ne e2).trans hc2
        have s3 : Go w g H (upd H2 g (.lst ((((r / n) :: gs').map V.int).eraseIdx 0))) := fun a x n1 n2 e => by
          rw [upd_ne n2]
          exact s2 _ _ n1 n2 e
        generalize upd H2 g (.lst ((((r / n) :: gs').map V.int).eraseIdx 0)) = H3 at hg3 hw3 hc3 s3
        walk_at "go"
        exact q _ _ s3 ⟨c, gs', cs, k, e1, e2, e3, hw3, hg3, hc3, h0, by rw [List.length_cons] at hgs; omega, hcs⟩ (Int.emod_nonneg _ (by omega)) (Int.emod_lt_of_pos _ n0)
      · walk_at "go"
        exact q _ _ s2 ⟨c, _, cs, k, e1, e2, e3, hw2, hg2, hc2, h0, by rw [List.length_cons] at hgs ⊢; omega, hcs⟩ (Int.emod_nonneg _ (by omega)) (Int.emod_lt_of_pos _ n0)
    · subst he
      walk_at "go"
      refine ⟨_, _, _, 2, rfl, rfl, hw, ix_at (j := 2) rfl (by simp), ?_⟩
      have hw2 : (upd H1 w (.lst ([V.ref g, V.ref c, V.int k].set 2 (V.int (k + 1))))) w = some (.lst [V.ref g, V.ref c, V.int (k + 1)]) := upd_same
      have hg2 : (upd H1 w (.lst ([V.ref g, V.ref c, V.int k].set 2 (V.int (k + 1))))) g = _ := (upd_ne e1.symm).trans hg
      have hc2 : (upd H1 w (.lst ([V.ref g, V.ref c, V.int k].set 2 (V.int (k + 1))))) c = _ := (upd_ne e3).trans hc
      have s2 : Go w g H (upd H1 w (.lst ([V.ref g, V.ref c, V.int k].set 2 (V.int (k + 1))))) := fun a x n1 n2 e => by
        rw [upd_ne n1]
        exact s1 _ _ e
      generalize upd H1 w (.lst ([V.ref g, V.ref c, V.int k].set 2 (V.int (k + 1)))) = H2 at hg2 hw2 hc2 s2
      have hm : ((k + 1) % (((cs.map V.int).length : Nat) : Int)).toNat < cs.length := by
        rw [List.length_map]
        have h1 := Int.emod_nonneg (k + 1) (show (cs.length : Int) ≠ 0 by omega)
        have h2 := Int.emod_lt_of_pos (k + 1) (show 0 < (cs.length : Int) by omega)
        omega
      obtain ⟨x, hx⟩ : ∃ x, cs[((k + 1) % (((cs.map V.int).length : Nat) : Int)).toNat]? = some x := ⟨_, List.getElem?_eq_getElem hm⟩
      obtain ⟨z, hz⟩ : ∃ z, cs[cs.length - 1]? = some z := ⟨_, List.getElem?_eq_getElem (by omega)⟩
      walk_at "go"
      refine go_ixLi (xs := cs.map V.int) (v := .int x) hc2 (j := ((k + 1) % (((cs.map V.int).length : Nat) : Int)).toNat) ?_ (by rw [List.getElem?_map, hx]; rfl) ?_
      · rw [Int.toNat_of_nonneg (Int.emod_nonneg _ (by rw [List.length_map]; omega))]
      walk_at "go"
      refine go_ixLast (v := .int z) hc2 (by rw [List.length_map, List.getElem?_map, hz]; rfl) ?_
      walk_at "go"
      exact q _ _ s2 ⟨c, [], cs, k + 1, e1, e2, e3, hw2, hg2, hc2, h0, hgs, hcs⟩ (Int.emod_nonneg _ (by omega)) (Int.emod_lt_of_pos _ n0)
/-- one of the items -/
def spPick : Sp := fun vs H Q _ => ∃ (w g l : Addr) (xs : List V), vs = [.ref w, .ref l] ∧ WellAt w g H ∧ At w g H l (.lst xs) ∧ 0 < xs.length ∧ xs.length < 1000000 ∧
  ∀ x H', x ∈ xs → Go w g H H' → WellAt w g H' → Q x H'
theorem ok_pick : FnOk P wd K mg base CX0 2 T.a_pick T.d_pick ["_law_well_here", "_law_items"] spPick := by
  have G_draw : FnOk P wd K mg base CX0 1 T.a_draw T.d_draw ["_law_well_here", "_law_size"] spDraw := ok_draw T
  refine T.F_pick.ok sc_pick (fun vs H Q E h => ?_) (fun cdv A outer s H vs Q E hr h => ?_)
  · obtain ⟨w, g, l, xs, rfl, _⟩ := h
    rfl
  · obtain ⟨w, g, l, xs, rfl, W, L, l0, l1, q⟩ := h
    refine ⟨_, (pss_one (ps_ret (pe_ix ix_list (pv 1) (pe_call G_draw hr rfl T.g_draw T.F_draw.kp (b_draw T) .nil pass0 (pa_cons (pv 0) (pa_cons (pe_callB call_len_seq rfl T.n_len PySem.boot_len (pa_cons (pv 1) pa_nil)) pa_nil))) (fun _ _ => rfl)))), ?_⟩
    have hl := L.at_
    walk_at "go"
    refine ⟨w, g, _, rfl, W, by omega, by omega, fun d H' s1 W1 d0 d1 => ?_⟩
    have L1 := L.go s1
    have hl1 := L1.at_
    obtain ⟨x, hx⟩ : ∃ x, xs[d.toNat]? = some x := ⟨_, List.getElem?_eq_getElem (by omega)⟩
    refine go_ixLi hl1 (j := d.toNat) (by omega) hx ?_
    exact q x H' (List.mem_of_getElem? hx) s1 W1
/-- a far number -/
def spFar : Sp := fun vs H Q _ => ∃ (w g : Addr), vs = [.ref w] ∧ WellAt w g H ∧
  ∀ (d : Int) H', Go w g H H' → WellAt w g H' → 0 ≤ d → d ≤ 1000000000000002000 → Q (.int d) H'
theorem ok_far : FnOk P wd K mg base CX0 2 T.a_far T.d_far ["_law_well_here"] spFar := by
  have G_draw : FnOk P wd K mg base CX0 1 T.a_draw T.d_draw ["_law_well_here", "_law_size"] spDraw := ok_draw T
  refine T.F_far.ok sc_far (fun vs H Q E h => ?_) (fun cdv A outer s H vs Q E hr h => ?_)
  · obtain ⟨w, g, rfl, _⟩ := h
    rfl
  · obtain ⟨w, g, rfl, W, q⟩ := h
    refine ⟨_, (pss_cons (ps_set (i := 1) sc_far.nd rfl (Or.inl rfl) (pe_call G_draw hr rfl T.g_draw T.F_draw.kp (b_draw T) .nil pass0 (pa_cons (pv 0) (pa_cons pe_int pa_nil))))
      (pss_cons (ps_if (pt_cmpR op_lt (pv 1) pe_int (nomark _)) (pss_one (ps_ret (pe_call G_draw hr rfl T.g_draw T.F_draw.kp (b_draw T) .nil pass0 (pa_cons (pv 0) (pa_cons (pe_ix ix_list (pe_lst (pa_cons pe_int (pa_cons pe_int pa_nil))) (pv 1) (fun _ _ => rfl)) pa_nil))))) pss_nil)
      (pss_cons (ps_if (pt_cmpR op_eq (pv 1) pe_int (nomark _)) (pss_one (ps_ret (pe_op op_add (pe_op op_add (pe_op op_pow pe_int pe_int) pe_int) (pe_call G_draw hr rfl T.g_draw T.F_draw.kp (b_draw T) .nil pass0 (pa_cons (pv 0) (pa_cons pe_int pa_nil)))))) pss_nil)
      (pss_cons (ps_if (pt_cmpR op_eq (pv 1) pe_int (nomark _)) (pss_one (ps_ret (pe_op op_sub (pe_op op_pow pe_int pe_int) (pe_call G_draw hr rfl T.g_draw T.F_draw.kp (b_draw T) .nil pass0 (pa_cons (pv 0) (pa_cons pe_int pa_nil)))))) pss_nil)
      (pss_cons (ps_set (i := 2) sc_far.nd rfl (Or.inl rfl) (pe_op op_add (pe_op op_add (pe_call G_draw hr rfl T.g_draw T.F_draw.kp (b_draw T) .nil pass0 (pa_cons (pv 0) (pa_cons (pe_op op_pow pe_int pe_int) pa_nil))) (pe_op op_mul (pe_op op_pow pe_int pe_int) (pe_call G_draw hr rfl T.g_draw T.F_draw.kp (b_draw T) .nil pass0 (pa_cons (pv 0) (pa_cons (pe_op op_pow pe_int pe_int) pa_nil))))) (pe_op op_mul (pe_op op_pow pe_int pe_int) (pe_call G_draw hr rfl T.g_draw T.F_draw.kp (b_draw T) .nil pass0 (pa_cons (pv 0) (pa_cons (pe_op op_pow pe_int pe_int) pa_nil))))))
      (pss_one (ps_ret (pe_ifExp (pt_cmpR op_eq (pv 1) pe_int (nomark _)) (pv 2) (pe_op op_mod (pe_callTy call_int1 rfl T.n_int (by decide +kernel) (pa_cons (pv 2) pa_nil)) (pe_op op_pow pe_int pe_int)))))))))), ?_⟩
    walk_at "go"
    refine ⟨w, g, _, rfl, W, by omega, by omega, fun d H1 s1 W1 d0 d1 => ?_⟩
    walk_at "go"
    refine ifD (fun lt => ?_) (fun nlt => ?_)
    · walk_at "go"
      intro p np
      generalize hU : upd H1 p _ = H2
      obtain ⟨s2, W2, ap⟩ := new_of W1 np hU
      have hp := ap.at_
      have key : ∃ n : Int, [V.int 12, V.int 20000][d.toNat]? = some (.int n) ∧ 0 < n ∧ n ≤ 20000 := by
        have h : d = 0 ∨ d = 1 := by omega
        rcases h with rfl | rfl
        · exact ⟨12, rfl, by omega, by omega⟩
        · exact ⟨20000, rfl, by omega, by omega⟩
      obtain ⟨n, hn, n0, n1⟩ := key
      walk_at "go"
      refine go_ixLi hp (j := d.toNat) (by omega) hn ?_
      refine ⟨w, g, _, rfl, W2, n0, by omega, fun e H3 s3 W3 e0 e1 => ?_⟩
      exact q e H3 ((s1.trans (Go.of s2)).trans s3) W3 e0 (by omega)
    · walk_at "go"
      refine ifD (fun e5 => ?_) (fun n5 => ?_)
      · walk_at "go"
        refine ⟨w, g, _, rfl, W1, by omega, by omega, fun e H3 s3 W3 e0 e1 => ?_⟩
        walk_at "go"
        exact q _ H3 (s1.trans s3) W3 (by simp; omega) (by simp; omega)
      · walk_at "go"
        refine ifD (fun e5 => ?_) (fun n5 => ?_)
        · walk_at "go"
          refine ⟨w, g, _, rfl, W1, by omega, by omega, fun e H3 s3 W3 e0 e1 => ?_⟩
          walk_at "go"
          exact q _ H3 (s1.trans s3) W3 (by simp; omega) (by simp; omega)
        · walk_at "go"
          refine ⟨w, g, _, rfl, W1, by simp, by simp, fun a H2 s2 W2 a0 a1 => ?_⟩
          walk_at "go"
          refine ⟨w, g, _, rfl, W2, by simp, by simp, fun b H3 s3 W3 b0 b1 => ?_⟩
          walk_at "go"
          refine ⟨w, g, _, rfl, W3, by simp, by simp, fun c H4 s4 W4 c0 c1 => ?_⟩
          walk_at "go"
          have S := ((s1.trans s2).trans s3).trans s4
          simp at a1 b1 c1
          refine ifD (fun e3 => ?_) (fun n3 => ?_)
          · walk_at "go"
            exact q _ H4 S W4 (by simp; omega) (by simp; omega)
          · walk_at "go"
            refine q _ H4 S W4 ?_ ?_
            · exact Int.emod_nonneg _ (by decide)
            · exact Int.le_trans (Int.le_of_lt (Int.emod_lt_of_pos _ (by decide))) (by decide)
/-! ### the well -/
theorem sum_of (ns : List Int) : (ns.map V.int) = ns.map V.int := rfl
def spWell (K : PySem.W.Frag) : Sp := fun vs H Q _ => ∃ (a : Addr) (ns : List Int), vs = [.ref a] ∧ SqL K H a (ns.map V.int) ∧ ns.length ≤ 63 ∧
  ∀ w g H', Same H H' → WellAt w g H' → Q (.ref w) H'
theorem cut63 {xs : List V} {n : Nat} (h : xs.length ≤ n) : cutV xs none (some (n : Int)) = xs := by
  unfold cutV
  rw [sIx_of _ _ (by omega)]
  show (xs.drop 0).take (min (n : Int).toNat xs.length - 0) = xs
  rw [List.drop_zero, Nat.sub_zero, Int.toNat_natCast, Nat.min_eq_right h, List.take_length]
theorem ok_well : FnOk P wd K mg base CX0 1 T.a_well T.d_well ["_law_script"] (spWell K) := by
  refine T.F_well.ok sc_well (fun vs H Q E h => ?_) (fun cdv A outer s H vs Q E hr h => ?_)
  · obtain ⟨a, ns, rfl, _⟩ := h
    rfl
  · obtain ⟨a, ns, rfl, hS, hl, q⟩ := h
    refine ⟨_, (pss_cons (ps_setLc (i := 1) (own := [("_law_cell", 3)]) rfl sc_well.nd rfl rfl (sw_true rfl rfl rfl (by decide +kernel)) (pi_list (pe_slice sl_list (pv 0) po_none (po_some pe_int))) (blkOk_by (N := nm_well) (sc := defScope s_well) (by decide +kernel)) (fun _ _ _ _ _ => pg_name (i := 3) sc_well.nd rfl (Or.inl rfl)) (fun _ _ _ _ _ => pts_one (pt_cmpR op_ge (pe_callB call_abs rfl T.n_abs (by decide +kernel) (pa_cons (pv 3) pa_nil)) (pe_op op_pow pe_int pe_int) (nomark _))) (fun _ _ _ _ _ => (pe_callB call_abs rfl T.n_abs (by decide +kernel) (pa_cons (pv 3) pa_nil))))
      (pss_cons (ps_setLc (i := 2) (own := [("_law_cell", 3)]) rfl sc_well.nd rfl rfl (sw_true rfl rfl rfl (by decide +kernel)) (pi_list (pe_slice sl_list (pv 0) po_none (po_some pe_int))) (blkOk_by (N := nm_well) (sc := defScope s_well) (by decide +kernel)) (fun _ _ _ _ _ => pg_name (i := 3) sc_well.nd rfl (Or.inl rfl)) (fun _ _ _ _ _ => pts_nil) (fun _ _ _ _ _ => (pe_ifExp (pt_cmpR op_gt (pv 3) pe_int (nomark _)) (pe_op op_mul pe_int (pv 3)) (pe_op op_sub pe_int (pe_op op_mul pe_int (pv 3))))))
      (pss_one (ps_ret (pe_lst (pa_cons (pv 1) (pa_cons (pe_op op_cat (pv 2) (pe_lst (pa_cons (pe_op op_add (pe_op op_add (pe_callB (cr_sum rfl) rfl T.n_sum (by decide +kernel) (pa_cons (pv 2) pa_nil)) (pe_op op_mul pe_int (pe_callB call_len_seq rfl T.n_len PySem.boot_len (pa_cons (pv 2) pa_nil)))) pe_int) pa_nil))) (pa_cons pe_int pa_nil)))))))), ?_⟩
    walk_at "go"
    refine ⟨a, ns.map V.int, rfl, hS, ?_⟩
    rw [show (63 : Int) = ((63 : Nat) : Int) from rfl, cut63 (by rw [List.length_map]; exact hl)]
    intro c nc
    generalize hU : upd H c _ = H1
    obtain ⟨s1, hc⟩ := new_of0 nc hU
    refine ⟨c, rfl, ⟨_, sqL_of hc⟩, fun D nD => ?_⟩
    have mc : D ≠ c := (ne_of_none hc nD).symm
    refine lc_list (xs := ns.map V.int) (fun i H2 => ∃ gs : List Int, H2 D = some (.lst (gs.map V.int)) ∧ gs.length ≤ i ∧ Same H1 H2) ⟨[], upd_same, Nat.zero_le _, same_new nD⟩
      (fun i H2 _ p => sqL_of (p.choose_spec.2.2 _ _ hc)) (fun i x H2 hx p => ?_) (fun H2 p => ?_)
    · obtain ⟨gs, hD, hg, S⟩ := p
      obtain ⟨z, rfl⟩ : ∃ z, x = V.int z := by
        rw [List.getElem?_map] at hx
        cases e : ns[i]? with
        | none => rw [e] at hx; cases hx
        | some z => rw [e] at hx; exact ⟨z, (Option.some.inj hx).symm⟩
      refine ⟨rfl, ?_⟩
      walk_at "go"
      refine ifD (fun big => ?_) (fun nb => ?_)
      · walk_at "go"
        have hil : i < (ns.map V.int).length := (List.getElem?_eq_some_iff.mp hx).1
        rw [List.length_map] at hil
        refine ⟨_, hD, small1000 (by rw [List.length_map]; omega), gs ++ [_], by rw [upd_same, List.map_append]; rfl, by rw [List.length_append]; simp; omega, same_mut S nD⟩
      · exact ⟨gs, hD, by omega, S⟩
    · obtain ⟨gs, hD, hg, S⟩ := p
      rw [List.length_map] at hg
      walk_at "go"
      have S0 : Same H H2 := s1.trans S
      refine ⟨a, ns.map V.int, rfl, S0.seq hS, ?_⟩
      rw [cut63 (by rw [List.length_map]; exact hl)]
      intro c2 nc2
      generalize hU2 : upd H2 c2 _ = H3
      obtain ⟨s3, hc2⟩ := new_of0 nc2 hU2
      refine ⟨c2, rfl, ⟨_, sqL_of hc2⟩, fun D2 nD2 => ?_⟩
      refine lc_list (xs := ns.map V.int) (fun i H2 => ∃ gs : List Int, H2 D2 = some (.lst (gs.map V.int)) ∧ gs.length = i ∧ Same H3 H2) ⟨[], upd_same, rfl, same_new nD2⟩
        (fun i H2 _ p => sqL_of (p.choose_spec.2.2 _ _ hc2)) (fun i x H2 hx p => ?_) (fun H4 p => ?_)
      · obtain ⟨cs, hD2, hg2, S2⟩ := p
        obtain ⟨z, rfl⟩ : ∃ z, x = V.int z := by
          rw [List.getElem?_map] at hx
          cases e : ns[i]? with
          | none => rw [e] at hx; cases hx
          | some z => rw [e] at hx; exact ⟨z, (Option.some.inj hx).symm⟩
        have hil : i < (ns.map V.int).length := (List.getElem?_eq_some_iff.mp hx).1
        rw [List.length_map] at hil
        refine ⟨rfl, ?_⟩
        walk_at "go"
        refine ifD (fun big => ?_) (fun nb => ?_)
        · walk_at "go"
          refine ⟨_, hD2, small1000 (by rw [List.length_map]; omega), cs ++ [_], by rw [upd_same, List.map_append]; rfl, by rw [List.length_append]; simp; omega, same_mut S2 nD2⟩
        · walk_at "go"
          refine ⟨_, hD2, small1000 (by rw [List.length_map]; omega), cs ++ [_], by rw [upd_same, List.map_append]; rfl, by rw [List.length_append]; simp; omega, same_mut S2 nD2⟩
      · obtain ⟨cs, hD2, hg2, S2⟩ := p
        rw [List.length_map] at hg2
        walk_at "go"
        refine ⟨D2, cs, rfl, sqL_of hD2, ?_⟩
        walk_at "go"
        intro e ne
        generalize hU3 : upd H4 e _ = H5
        obtain ⟨s5, he⟩ := new_of0 ne hU3
        have hD3 := s5 _ _ hD2
        refine ⟨D2, e, _, _, rfl, rfl, hD3, he, ?_, fun p np => ?_⟩
        · exact Nat.le_trans (by rw [List.length_map]; simp; omega) (show 1000 ≤ sizeLine by decide)
        generalize hU6 : upd H5 p _ = H6
        obtain ⟨s6, hp⟩ := new_of0 np hU6
        walk_at "go"
        intro w nw
        generalize hU7 : upd H6 w _ = H7
        obtain ⟨s7, hw⟩ := new_of0 nw hU7
        have hDg : H6 D = some (.lst (gs.map V.int)) := s6 _ _ (s5 _ _ (S2 _ _ (s3 _ _ hD)))
        have Sall : Same H H7 := fun b o z => s7 _ _ (s6 _ _ (s5 _ _ (S2 _ _ (s3 _ _ (S0 _ _ z)))))
        have hpc : ∃ cs2 : List Int, H7 p = some (.lst (cs2.map V.int)) ∧ cs2.length = cs.length + 1 :=
          ⟨cs ++ [_], by rw [List.map_append]; exact s7 _ _ hp, by rw [List.length_append]; rfl⟩
        obtain ⟨cs2, hp2, hl2⟩ := hpc
        refine q w D H7 Sall ⟨p, gs, cs2, 0, (ne_of_none hDg nw).symm, ?_, ?_, hw, s7 _ _ hDg, hp2, by omega, by omega, by omega⟩
        · exact (ne_of_none (s5 _ _ (S2 _ _ (s3 _ _ hD))) np).symm
        · exact ne_of_none hp nw
/-- a text of so many signs -/
def spBits : Sp := fun vs H Q _ => ∃ (w g : Addr) (n : Int), vs = [.ref w, .int n] ∧ WellAt w g H ∧ 0 ≤ n ∧ n ≤ 5000 ∧
  ∀ (l : List Bool) H', Go w g H H' → WellAt w g H' → (l.length : Int) = n → Q (.str (B l)) H'
theorem ok_bits : FnOk P wd K mg base CX0 2 T.a_bits T.d_bits ["_law_well_here", "_law_size"] spBits := by
  have G_draw : FnOk P wd K mg base CX0 1 T.a_draw T.d_draw ["_law_well_here", "_law_size"] spDraw := ok_draw T
  refine T.F_bits.ok sc_bits (fun vs H Q E h => ?_) (fun cdv A outer s H vs Q E hr h => ?_)
  · obtain ⟨w, g, n, rfl, _⟩ := h
    rfl
  · obtain ⟨w, g, n, rfl, W, n0, n1, q⟩ := h
    refine ⟨_, (pss_cons (ps_set (i := 2) sc_bits.nd rfl (Or.inl rfl) pe_str)
      (pss_cons (ps_for PassesOwn.never rfl (pi_range1 rfl T.n_range (pa_cons (pe_op op_add (pe_op op_fdiv (pv 1) pe_int) pe_int) pa_nil)) (pg_name (i := 3) sc_bits.nd rfl (Or.inl rfl)) (pss_cons (ps_set (i := 4) sc_bits.nd rfl (Or.inr rfl) (pe_call G_draw hr rfl T.g_draw T.F_draw.kp (b_draw T) .nil pass0 (pa_cons (pv 0) (pa_cons pe_int pa_nil))))
      (pss_one (ps_set (i := 2) sc_bits.nd rfl (Or.inl rfl) (pe_op op_add_str (pv 2) (pe_bm PySem.F.plainAttrs_str PySem.F.slot_str_join PySem.F.type_str_join mt_join pe_str (pa_cons (pe_lc (own := [("_law_k", 5)]) rfl sc_bits.nd (pi_range1 rfl T.n_range (pa_cons pe_int pa_nil)) (blkOk_by (N := nm_bits) (sc := defScope s_bits) (by decide +kernel)) (fun _ _ _ _ _ => pg_name (i := 5) sc_bits.nd rfl (Or.inl rfl)) (fun _ _ _ _ _ => pts_nil) (fun _ _ _ _ _ => (pe_callTy call_str_int rfl T.n_str (by decide +kernel) (pa_cons (pe_op op_mod (pe_callTy call_int1 rfl T.n_int (by decide +kernel) (pa_cons (pe_op op_shr (pv 4) (pv 5)) pa_nil)) pe_int) pa_nil)))) pa_nil)))))))
      (pss_one (ps_ret (pe_slice sl_str (pv 2) po_none (po_some (pv 1))))))), ?_⟩
    walk_at "go"
    rw [show ("" : Str) = B [] from B_nil]
    refine for_range (n := (n / 16 + 1).toNat) (fun i σ H2 => ∃ (l : List Bool) (y3 y4 y5 : Option V), σ = [some (.ref w), some (.int n), some (.str (B l)), y3, y4, y5] ∧ l.length = 16 * i ∧ Go w g H H2 ∧ WellAt w g H2)
      ⟨[], none, none, none, rfl, rfl, Go.refl, W⟩ (fun i σ H2 hi p => ?_) (fun σ H2 p => ?_)
    · obtain ⟨l, y3, y4, y5, rfl, hl, s2, W2⟩ := p
      walk_at "go"
      refine ⟨w, g, _, rfl, W2, by omega, by omega, fun d H3 s3 W3 d0 d1 => ?_⟩
      walk_at "go"
      intro D nD
      refine lc_range (n := 16) (fun j H4 => ∃ bs : List Bool, H4 D = some (.lst (bs.map fun b => V.str (B [b]))) ∧ bs.length = j ∧ Same H3 H4) ⟨[], upd_same, rfl, same_new nD⟩ (fun j H4 hj p => ?_) (fun H4 p => ?_)
      · obtain ⟨bs, hD, hb, S⟩ := p
        refine ⟨rfl, ?_⟩
        walk_at "go"
        refine ⟨_, hD, small1000 (by rw [List.length_map]; omega), bs ++ [_], by rw [upd_same, List.map_append]; rfl, by rw [List.length_append, hb]; rfl, same_mut S nD⟩
      · obtain ⟨bs, hD, hb, S⟩ := p
        walk_at "go"
        refine go_join hD (by omega) ?_
        rw [joined]
        walk_at "go"
        refine ⟨l ++ bs, _, _, _, rfl, by rw [List.length_append]; omega, (s2.trans s3).trans (Go.of S), W3.same S⟩
    · obtain ⟨l, y3, y4, y5, rfl, hl, s2, W2⟩ := p
      have hl5 : l.length ≤ 6000 := by omega
      walk_at "go"
      refine q _ H2 s2 W2 ?_
      rw [List.length_take]
      omega
/-- a word: a text of so many signs -/
theorem ok_word : FnOk P wd K mg base CX0 3 T.a_word T.d_word ["_law_well_here", "_law_size"] spBits := by
  have G_draw : FnOk P wd K mg base CX0 1 T.a_draw T.d_draw ["_law_well_here", "_law_size"] spDraw := ok_draw T
  have G_bits : FnOk P wd K mg base CX0 2 T.a_bits T.d_bits ["_law_well_here", "_law_size"] spBits := ok_bits T
  refine T.F_word.ok sc_word (fun vs H Q E h => ?_) (fun cdv A outer s H vs Q E hr h => ?_)
  · obtain ⟨w, g, n, rfl, _⟩ := h
    rfl
  · obtain ⟨w, g, n, rfl, W, n0, n1, q⟩ := h
    refine ⟨_, (pss_cons (ps_if (pt_cmpR op_lt (pv 1) pe_int (nomark _)) (pss_one (ps_ret pe_str)) pss_nil)
      (pss_cons (ps_par (i := 2) (j := 3) rfl sc_word.nd rfl rfl (by decide) rfl rfl (pa_cons (pe_call G_draw (hr.mono (by decide)) rfl T.g_draw T.F_draw.kp (b_draw T) .nil pass0 (pa_cons (pv 0) (pa_cons pe_int pa_nil))) (pa_cons (pe_call G_draw (hr.mono (by decide)) rfl T.g_draw T.F_draw.kp (b_draw T) .nil pass0 (pa_cons (pv 0) (pa_cons (pv 1) pa_nil))) pa_nil)) rfl)
      (pss_cons (ps_if (pt_cmpR op_lt (pv 2) pe_int (nomark _)) (pss_cons (ps_asg (pe_ifExp (pt_cmpR op_lt (pv 2) pe_int (nomark _)) (pe_tup (pa_cons pe_str (pa_cons pe_str pa_nil))) (pe_tup (pa_cons pe_str (pa_cons pe_str pa_nil)))) (pg_tup rfl (pgs_cons (pg_name (i := 4) sc_word.nd rfl (Or.inl rfl)) (pgs_cons (pg_name (i := 5) sc_word.nd rfl (Or.inl rfl)) pgs_nil))))
      (pss_one (ps_ret (pe_ifExp (pt_cmpR op_in_seq (pv 2) (pe_tup (pa_cons pe_int (pa_cons pe_int pa_nil))) (by rfl)) (pe_op op_mulS (pv 4) (pv 1)) (pe_op op_add_str (pe_op op_add_str (pe_op op_mulS (pv 4) (pv 3)) (pv 5)) (pe_op op_mulS (pv 4) (pe_op op_sub (pe_op op_sub (pv 1) (pv 3)) pe_int))))))) pss_nil)
      (pss_cons (ps_if (pt_cmpR op_gt (pv 2) pe_int (nomark _)) (pss_one (ps_ret (pe_slice sl_str (pe_op op_mulS (pe_call G_bits hr rfl T.g_bits T.F_bits.kp (b_bits T) .nil pass0 (pa_cons (pv 0) (pa_cons (pe_callB (call_min2 rfl) rfl T.n_min (by decide +kernel) (pa_cons (pv 1) (pa_cons pe_int pa_nil))) pa_nil))) (pe_op op_add (pe_op op_fdiv (pv 1) pe_int) pe_int)) po_none (po_some (pv 1))))) pss_nil)
      (pss_cons (ps_set (i := 6) sc_word.nd rfl (Or.inl rfl) (pe_call G_bits hr rfl T.g_bits T.F_bits.kp (b_bits T) .nil pass0 (pa_cons (pv 0) (pa_cons (pe_op op_add pe_int (pe_call G_draw (hr.mono (by decide)) rfl T.g_draw T.F_draw.kp (b_draw T) .nil pass0 (pa_cons (pv 0) (pa_cons (pe_callB (call_min2 rfl) rfl T.n_min (by decide +kernel) (pa_cons (pv 1) (pa_cons pe_int pa_nil))) pa_nil)))) pa_nil))))
      (pss_cons (ps_set (i := 7) sc_word.nd rfl (Or.inl rfl) (pe_slice sl_str (pe_op op_mulS (pv 6) (pv 1)) po_none (po_some (pv 1))))
      (pss_cons (ps_if (pt_cmpR op_eq (pv 2) pe_int (nomark _)) (pss_one (ps_set (i := 7) sc_word.nd rfl (Or.inl rfl) (pe_op op_add_str (pe_op op_add_str (pe_slice sl_str (pv 7) po_none (po_some (pv 3))) (pe_ifExp (pt_cmpR op_eq (pe_ix ix_str (pv 7) (pv 3) (fun _ _ => rfl)) pe_str (nomark _)) pe_str pe_str)) (pe_slice sl_str (pv 7) (po_some (pe_op op_add (pv 3) pe_int)) po_none)))) pss_nil)
      (pss_one (ps_ret (pv 7)))))))))), ?_⟩
    walk_at "go"
    refine ifD (fun lt => ?_) (fun nlt => ?_)
    · rw [show ("" : Str) = B [] from B_nil]
      walk_at "go"
      exact q [] H Go.refl W (by simp; omega)
    · walk_at "go"
      refine ⟨w, g, _, rfl, W, by omega, by omega, fun d H1 s1 W1 d0 d1 => ?_⟩
      walk_at "go"
      refine ⟨w, g, _, rfl, W1, by omega, by omega, fun a H2 s2 W2 a0 a1 => ?_⟩
      walk_at "go"
      simp only [B_0, B_1]
      refine ifD (fun lt4 => ?_) (fun ge4 => ?_)
      · walk_at "go"
        refine ifD (fun lt2 => ?_) (fun ge2 => ?_)
        all_goals
          walk_at "go"
          intro p np
          generalize hU : upd H2 p _ = H3
          obtain ⟨s3, W3, ap⟩ := new_of W2 np hU
          have hp := ap.at_
          walk_at "go"
          intro p2 np2
          generalize hU2 : upd H3 p2 _ = H4
          obtain ⟨s4, W4, ap2⟩ := new_of W3 np2 hU2
          have S : Go w g H H4 := ((s1.trans s2).trans (Go.of s3)).trans (Go.of s4)
          refine ⟨_, _, rfl, Or.inr (sqT_of ap2.at_), rfl, rfl, ?_⟩
          walk_at "go"
          refine ifB (fun _ => ?_) (fun _ => ?_)
          · walk_at "go"
            exact q _ H4 S W4 (by rw [rep_length]; simp; omega)
          · walk_at "go"
            exact q _ H4 S W4 (by rw [List.length_append, List.length_append, rep_length, rep_length]; simp; omega)
      · walk_at "go"
        refine ifD (fun gt5 => ?_) (fun le5 => ?_)
        · walk_at "go"
          refine ⟨w, g, _, rfl, W2, by split <;> omega, by split <;> omega, fun l H3 s3 W3 hl => ?_⟩
          have S : Go w g H H3 := (s1.trans s2).trans s3
          have hl640 : l.length ≤ 640 := by split at hl <;> omega
          have hk : (n / 640 + 1).toNat ≤ 8 := by omega
          have hm : l.length * (n / 640 + 1).toNat ≤ 1000000 := mul_le hl640 hk (by decide)
          have hr : (rep (n / 640 + 1).toNat l).length ≤ 1000000 := by rw [rep_length, Nat.mul_comm]; exact hm
          walk_at "go"
          refine q _ H3 S W3 ?_
          rw [List.length_take, rep_length]
          have key : n.toNat ≤ (n / 640 + 1).toNat * l.length := by
            by_cases h6 : 640 < n
            · rw [if_pos h6] at hl
              rw [show l.length = 640 by omega]
              omega
            · rw [if_neg h6] at hl
              refine Nat.le_trans (show n.toNat ≤ 1 * l.length by omega) (Nat.mul_le_mul (by omega) (Nat.le_refl _))
          omega
        · walk_at "go"
          refine ⟨w, g, _, rfl, W2, by split <;> omega, by split <;> omega, fun e H3 s3 W3 e0 e1 => ?_⟩
          walk_at "go"
          have e6 : e < 6 := by split at e1 <;> omega
          refine ⟨w, g, _, rfl, W3, by omega, by omega, fun l H4 s4 W4 hl => ?_⟩
          have S : Go w g H H4 := ((s1.trans s2).trans s3).trans s4
          have hl6 : l.length ≤ 6 := by omega
          have hl1 : 1 ≤ l.length := by omega
          have hm : l.length * n.toNat ≤ 1000000 := mul_le hl6 (show n.toNat ≤ 5000 by omega) (by decide)
          have hr1 : (rep n.toNat l).length ≤ 1000000 := by rw [rep_length, Nat.mul_comm]; exact hm
          walk_at "go"
          have key : n.toNat ≤ n.toNat * l.length := Nat.le_mul_of_pos_right _ hl1
          have hr : (rep n.toNat l).length = n.toNat * l.length := rep_length _ _
          have hf : ((rep n.toNat l).take n.toNat).length = n.toNat := by
            rw [List.length_take, hr]
            omega
          generalize (rep n.toNat l).take n.toNat = f at hf
          walk_at "go"
          refine ifD (fun e5 => ?_) (fun n5 => ?_)
          · obtain ⟨x, hx⟩ : ∃ x, f[a.toNat]? = some x := ⟨_, List.getElem?_eq_getElem (by omega)⟩
            walk_at "go"
            refine go_ixS (k := a.toNat) (by omega) (by omega) hx ?_
            rw [B_one]
            walk_at "go"
            rw [B_dec]
            refine ifD (fun ex => ?_) (fun nx => ?_)
            all_goals
              walk_at "go"
              exact q _ H4 S W4 (by simp only [List.length_append, List.length_take, List.length_drop, List.length_cons, List.length_nil]; omega)
          · walk_at "go"
            exact q _ H4 S W4 (by omega)
/-- the table of a head and a turn -/
def Tab (H : Hp) (p : Addr) (h t : List Bool) : Prop := H p = some (.tup [.str (B h), .str (B t)]) ∧ h.length ≤ 5000 ∧ 0 < t.length ∧ t.length ≤ 5000
theorem Tab.same {H H' : Hp} {p : Addr} {h t : List Bool} (x : Tab H p h t) (s : Same H H') : Tab H' p h t := ⟨s _ _ x.1, x.2⟩
theorem mem_ints {x : V} {ns : List Int} {xs : List V} (e : xs = ns.map V.int) (h : x ∈ xs) : ∃ i ∈ ns, x = .int i := by
  subst e
  obtain ⟨i, h1, h2⟩ := List.mem_map.mp h
  exact ⟨i, h1, h2.symm⟩
/-- a table, made of words -/
def GoTab (w g : Addr) (H : Hp) (Q : VK) (hm tm : Int) : Prop := ∀ p H' (h t : List Bool), Go w g H H' → WellAt w g H' → Tab H' p h t → (h.length : Int) ≤ hm → (t.length : Int) ≤ tm → Q (.ref p) H'
def spTable : Sp := fun vs H Q _ => ∃ (w g : Addr) (a b : Int), vs = [.ref w, .int a, .int b] ∧ WellAt w g H ∧ 0 ≤ a ∧ a ≤ 4000 ∧ 1 ≤ b ∧ b ≤ 4000 ∧ GoTab w g H Q a b
theorem ok_table : FnOk P wd K mg base CX0 4 T.a_table T.d_table ["_law_well_here", "_law_tall", "_law_wide"] spTable := by
  have G_draw : FnOk P wd K mg base CX0 1 T.a_draw T.d_draw ["_law_well_here", "_law_size"] spDraw := ok_draw T
  have G_word : FnOk P wd K mg base CX0 3 T.a_word T.d_word ["_law_well_here", "_law_size"] spBits := ok_word T
  refine T.F_table.ok sc_table (fun vs H Q E h => ?_) (fun cdv A outer s H vs Q E hr h => ?_)
  · obtain ⟨w, g, a, b, rfl, _⟩ := h
    rfl
  · obtain ⟨w, g, a, b, rfl, W, a0, a1, b0, b1, q⟩ := h
    refine ⟨_, (pss_one (ps_ret (pe_tup (pa_cons (pe_call G_word hr rfl T.g_word T.F_word.kp (b_word T) .nil pass0 (pa_cons (pv 0) (pa_cons (pe_call G_draw (hr.mono (by decide)) rfl T.g_draw T.F_draw.kp (b_draw T) .nil pass0 (pa_cons (pv 0) (pa_cons (pe_op op_add (pv 1) pe_int) pa_nil))) pa_nil))) (pa_cons (pe_call G_word hr rfl T.g_word T.F_word.kp (b_word T) .nil pass0 (pa_cons (pv 0) (pa_cons (pe_op op_add pe_int (pe_call G_draw (hr.mono (by decide)) rfl T.g_draw T.F_draw.kp (b_draw T) .nil pass0 (pa_cons (pv 0) (pa_cons (pv 2) pa_nil)))) pa_nil))) pa_nil))))), ?_⟩
    walk_at "go"
    refine ⟨w, g, _, rfl, W, by omega, by omega, fun d H1 s1 W1 d0 d1 => ?_⟩
    walk_at "go"
    refine ⟨w, g, _, rfl, W1, by omega, by omega, fun l H2 s2 W2 hl => ?_⟩
    walk_at "go"
    refine ⟨w, g, _, rfl, W2, by omega, by omega, fun e H3 s3 W3 e0 e1 => ?_⟩
    walk_at "go"
    refine ⟨w, g, _, rfl, W3, by omega, by omega, fun m H4 s4 W4 hm => ?_⟩
    walk_at "go"
    intro p np
    generalize hU : upd H4 p _ = H5
    obtain ⟨s5, W5, ap⟩ := new_of W4 np hU
    exact q p H5 l m ((((s1.trans s2).trans s3).trans s4).trans (Go.of s5)) W5 ⟨ap.at_, by omega, by omega, by omega⟩ (by omega) (by omega)
def spGreat : Sp := fun vs H Q _ => ∃ (w g : Addr), vs = [.ref w] ∧ WellAt w g H ∧ GoTab w g H Q 5000 5000
theorem ok_great : FnOk P wd K mg base CX0 4 T.a_great T.d_great ["_law_well_here"] spGreat := by
  have G_draw : FnOk P wd K mg base CX0 1 T.a_draw T.d_draw ["_law_well_here", "_law_size"] spDraw := ok_draw T
  have G_pick : FnOk P wd K mg base CX0 2 T.a_pick T.d_pick ["_law_well_here", "_law_items"] spPick := ok_pick T
  have G_word : FnOk P wd K mg base CX0 3 T.a_word T.d_word ["_law_well_here", "_law_size"] spBits := ok_word T
  refine T.F_great.ok sc_great (fun vs H Q E h => ?_) (fun cdv A outer s H vs Q E hr h => ?_)
  · obtain ⟨w, g, rfl, _⟩ := h
    rfl
  · obtain ⟨w, g, rfl, W, q⟩ := h
    refine ⟨_, (pss_cons (ps_set (i := 1) sc_great.nd rfl (Or.inl rfl) (pe_call G_word hr rfl T.g_word T.F_word.kp (b_word T) .nil pass0 (pa_cons (pv 0) (pa_cons (pe_call G_pick (hr.mono (by decide)) rfl T.g_pick T.F_pick.kp (b_pick T) .nil pass0 (pa_cons (pv 0) (pa_cons (pe_lst (pa_cons pe_int (pa_cons pe_int (pa_cons pe_int (pa_cons pe_int (pa_cons pe_int (pa_cons (pe_call G_draw (hr.mono (by decide)) rfl T.g_draw T.F_draw.kp (b_draw T) .nil pass0 (pa_cons (pv 0) (pa_cons pe_int pa_nil))) pa_nil))))))) pa_nil))) pa_nil))))
      (pss_one (ps_ret (pe_tup (pa_cons (pv 1) (pa_cons (pe_call G_word hr rfl T.g_word T.F_word.kp (b_word T) .nil pass0 (pa_cons (pv 0) (pa_cons (pe_call G_pick (hr.mono (by decide)) rfl T.g_pick T.F_pick.kp (b_pick T) .nil pass0 (pa_cons (pv 0) (pa_cons (pe_lst (pa_cons pe_int (pa_cons pe_int (pa_cons pe_int (pa_cons pe_int (pa_cons pe_int (pa_cons (pe_op op_add pe_int (pe_call G_draw (hr.mono (by decide)) rfl T.g_draw T.F_draw.kp (b_draw T) .nil pass0 (pa_cons (pv 0) (pa_cons pe_int pa_nil)))) pa_nil))))))) pa_nil))) pa_nil))) pa_nil)))))), ?_⟩
    walk_at "go"
    refine ⟨w, g, _, rfl, W, by omega, by omega, fun d H1 s1 W1 d0 d1 => ?_⟩
    walk_at "go"
    intro p1 np1
    generalize hU1 : upd H1 p1 _ = H2
    obtain ⟨s2, W2, ap1⟩ := new_of W1 np1 hU1
    refine ⟨w, g, p1, _, rfl, W2, ap1, by simp, by simp, fun x H3 mx s3 W3 => ?_⟩
    obtain ⟨i, mi, rfl⟩ := mem_ints (ns := [0, 1, 37, 4999, 5000, d]) rfl mx
    have i01 : 0 ≤ i ∧ i ≤ 5000 := by
      simp at mi
      omega
    refine ⟨w, g, _, rfl, W3, i01.1, i01.2, fun l H4 s4 W4 hl => ?_⟩
    walk_at "go"
    refine ⟨w, g, _, rfl, W4, by omega, by omega, fun e H5 s5 W5 e0 e1 => ?_⟩
    walk_at "go"
    intro p2 np2
    generalize hU2 : upd H5 p2 _ = H6
    obtain ⟨s6, W6, ap2⟩ := new_of W5 np2 hU2
    refine ⟨w, g, p2, _, rfl, W6, ap2, by simp, by simp, fun x H7 mx s7 W7 => ?_⟩
    obtain ⟨j, mj, rfl⟩ := mem_ints (ns := [1, 2, 37, 4999, 5000, 1 + e]) rfl mx
    have j01 : 1 ≤ j ∧ j ≤ 5000 := by
      simp at mj
      omega
    refine ⟨w, g, _, rfl, W7, by omega, j01.2, fun m H8 s8 W8 hm => ?_⟩
    walk_at "go"
    intro p np
    generalize hU : upd H8 p _ = H9
    obtain ⟨s9, W9, ap⟩ := new_of W8 np hU
    refine q p H9 l m ?_ W9 ⟨ap.at_, by omega, by omega, by omega⟩ (by omega) (by omega)
    exact ((((((((s1.trans (Go.of s2)).trans s3).trans s4).trans s5).trans (Go.of s6)).trans s7).trans s8).trans (Go.of s9))
end
section
variable {P : Program} {wd : World} {K : PySem.W.Frag} {mg : Str → Option Value} {base : Heap} (T : Tp K mg)
theorem B_sign {l : List Bool} {i c : Nat} (h : (B l).cps[i]? = some c) : ∃ b, l[i]? = some b ∧ (⟨#[c]⟩ : Str) = B [b] := by
  rw [← Array.getElem?_toList, B_cps, List.getElem?_map] at h
  cases e : l[i]? with
  | none => rw [e] at h; cases h
  | some b =>
    rw [e] at h
    obtain rfl := Option.some.inj h
    exact ⟨b, rfl, by cases b <;> rfl⟩
def spPlaces : Sp := fun vs H Q _ => ∃ (l : List Bool), vs = [.str (B l)] ∧ l.length ≤ 5000 ∧ ∀ p H', Same H H' → H' p = some (.lst ((pls l).map fun k => V.int (k : Nat))) → Q (.ref p) H'
theorem ok_places : FnOk P wd K mg base CX0 1 T.a_places T.d_places ["row"] spPlaces := by
  refine T.F_places.ok sc_places (fun vs H Q E h => ?_) (fun cdv A outer s H vs Q E hr h => ?_)
  · obtain ⟨l, rfl, _⟩ := h
    rfl
  · obtain ⟨l, rfl, l5, q⟩ := h
    refine ⟨_, (pss_one (ps_ret (pe_lc (own := [("place", 1), ("sign", 2)]) (g := gTup K 2 (gCons (gName 1) (gCons (gName 2) gNil))) rfl sc_places.nd (pi_enumS rfl T.n_enumerate (pa_cons (pv 0) pa_nil)) (blkOk_by (N := nm_places) (sc := defScope s_places) (by decide +kernel)) (fun _ _ _ _ _ => pg_tup rfl (pgs_cons (pg_name (i := 1) sc_places.nd rfl (Or.inl rfl) (Or.inr rfl)) (pgs_cons (pg_name (i := 2) sc_places.nd rfl (Or.inl rfl) (Or.inr rfl)) pgs_nil))) (fun _ _ _ _ _ => pts_one (pt_cmpR op_eq (pv 2) pe_str (nomark _))) (fun _ _ _ _ _ => (pv 1))))), ?_⟩
    walk_at "go"
    intro D nD
    have hsz : (B l).cps.size = l.length := by rw [← Array.length_toList, B_cps, List.length_map]
    refine lc_enumS (fun i H' => H' D = some (.lst ((pl (fun j => l.getD j false) i).map fun k => V.int (k : Nat))) ∧ Same H H' ∧ i ≤ 5000) ⟨upd_same, same_new nD, by omega⟩ (fun i c T' H' hc px hT => ?_) (fun H' px => ?_)
    · obtain ⟨hD, S, i5⟩ := px
      obtain ⟨b, hb, eb⟩ := B_sign hc
      rw [eb]
      have hTup : (upd H' T' (HO.tup [V.int (i : Nat), V.str (B [b])])) T' = some (HO.tup [V.int (i : Nat), V.str (B [b])]) := upd_same
      have hD1 : (upd H' T' (HO.tup [V.int (i : Nat), V.str (B [b])])) D = some (.lst ((pl (fun j => l.getD j false) i).map fun k => V.int (k : Nat))) := by
        rw [upd_ne (ne_of_none hD hT)]
        exact hD
      have S1 : Same H (upd H' T' (HO.tup [V.int (i : Nat), V.str (B [b])])) := S.trans (same_new hT)
      have il : i < l.length := (List.getElem?_eq_some_iff.mp hb).1
      have eb2 : l.getD i false = b := by rw [List.getD_eq_getElem?_getD, hb]; rfl
      have lp : (pl (fun j => l.getD j false) i).length ≤ i := by
        unfold pl
        exact Nat.le_trans (List.length_filter_le _ _) (by rw [List.length_range]; exact Nat.le_refl _)
      generalize upd H' T' (HO.tup [V.int (i : Nat), V.str (B [b])]) = H2 at hTup hD1 S1
      simp only [B_1]
      walk_at "go"
      rw [B_dec]
      refine ifD (fun e => ?_) (fun n => ?_)
      · walk_at "go"
        have eb3 : b = true := (List.cons.inj e).1
        refine ⟨_, hD1, Nat.lt_of_le_of_lt (by rw [List.length_map]; exact Nat.le_trans lp i5) (by decide), ?_, same_mut S1 nD, by omega⟩
        rw [upd_same, pl_succ, if_pos (by rw [eb2, eb3]), List.map_append]
        rfl
      · have eb3 : ¬ b = true := fun z => n (by rw [z])
        refine ⟨?_, S1, by omega⟩
        rw [pl_succ, if_neg (by rw [eb2]; exact eb3), List.append_nil]
        exact hD1
    · obtain ⟨hD, S, _⟩ := px
      rw [hsz] at hD
      exact q D H' S hD
/-- the formula of below -/
def bel (h t : List Bool) (n : Int) : Int :=
  if n ≤ (h.length : Int) then ((h.take n.toNat).count true : Nat)
  else (h.count true : Nat) + (n - (h.length : Int)) / (t.length : Int) * (t.count true : Nat) + ((t.take ((n - (h.length : Int)) % (t.length : Int)).toNat).count true : Nat)
theorem bel_cn {h t : List Bool} {n : Int} (t0 : 0 < t.length) (n0 : 0 ≤ n) : bel h t n = (cn (sg h t) n.toNat : Nat) := by
  unfold bel
  by_cases c : n ≤ (h.length : Int)
  · rw [if_pos c, cn_head (by omega)]
  · rw [if_neg c]
    obtain ⟨m, hm⟩ : ∃ m : Nat, n - (h.length : Int) = (m : Int) := ⟨(n - (h.length : Int)).toNat, by omega⟩
    rw [hm, ← Int.natCast_ediv, ← Int.natCast_emod, Int.toNat_natCast]
    have e : n.toNat = h.length + m / t.length * t.length + m % t.length := by
      have := Nat.mod_add_div m t.length
      rw [Nat.mul_comm] at this
      omega
    rw [e, cn_turn t0 (Nat.le_of_lt (Nat.mod_lt _ t0))]
    simp only [Int.natCast_add, Int.natCast_mul]
def spBelow : Sp := fun vs H Q _ => ∃ (p : Addr) (h t : List Bool) (n : Int), vs = [.ref p, .int n] ∧ Tab H p h t ∧ 0 ≤ n ∧ n ≤ 10 ^ 24 ∧ ∀ H', Same H H' → Q (.int (bel h t n)) H'
theorem ok_below : FnOk P wd K mg base CX0 1 T.a_below T.d_below ["table", "number"] spBelow := by
  refine T.F_below.ok sc_below (fun vs H Q E h => ?_) (fun cdv A outer s H vs Q E hr h => ?_)
  · obtain ⟨p, h, t, n, rfl, _⟩ := h
    rfl
  · obtain ⟨p, h, t, n, rfl, tb, n0, n1, q⟩ := h
    refine ⟨_, (pss_cons (ps_asg (pv 0) (pg_tup rfl (pgs_cons (pg_name (i := 2) sc_below.nd rfl (Or.inl rfl)) (pgs_cons (pg_name (i := 3) sc_below.nd rfl (Or.inl rfl)) pgs_nil))))
      (pss_cons (ps_if (pt_cmpR op_le (pv 1) (pe_callB call_len_str rfl T.n_len PySem.boot_len (pa_cons (pv 2) pa_nil)) (nomark _)) (pss_one (ps_ret (pe_bm PySem.F.plainAttrs_str PySem.F.slot_str_count PySem.F.type_str_count mt_count (pe_slice sl_str (pv 2) po_none (po_some (pv 1))) (pa_cons pe_str pa_nil)))) pss_nil)
      (pss_cons (ps_asg (pe_callB call_divmod rfl T.n_divmod (by decide +kernel) (pa_cons (pe_op op_sub (pv 1) (pe_callB call_len_str rfl T.n_len PySem.boot_len (pa_cons (pv 2) pa_nil))) (pa_cons (pe_callB call_len_str rfl T.n_len PySem.boot_len (pa_cons (pv 3) pa_nil)) pa_nil))) (pg_tup rfl (pgs_cons (pg_name (i := 4) sc_below.nd rfl (Or.inl rfl)) (pgs_cons (pg_name (i := 5) sc_below.nd rfl (Or.inl rfl)) pgs_nil))))
      (pss_one (ps_ret (pe_op op_add (pe_op op_add (pe_bm PySem.F.plainAttrs_str PySem.F.slot_str_count PySem.F.type_str_count mt_count (pv 2) (pa_cons pe_str pa_nil)) (pe_op op_mul (pv 4) (pe_bm PySem.F.plainAttrs_str PySem.F.slot_str_count PySem.F.type_str_count mt_count (pv 3) (pa_cons pe_str pa_nil)))) (pe_bm PySem.F.plainAttrs_str PySem.F.slot_str_count PySem.F.type_str_count mt_count (pe_slice sl_str (pv 3) po_none (po_some (pv 5))) (pa_cons pe_str pa_nil)))))))), ?_⟩
    have hp := tb.1
    have h5 := tb.2.1
    have t0 := tb.2.2.1
    have t5 := tb.2.2.2
    simp only [B_1]
    walk_at "go"
    refine ifD (fun c => ?_) (fun c => ?_)
    · walk_at "go"
      rw [B_count]
      have e : bel h t n = ((h.take n.toNat).count true : Nat) := if_pos c
      rw [← e]
      exact q H Same.rfl'
    · refine ⟨_, rfl, ?_⟩
      walk_at "go"
      intro p1 np1
      generalize hU : upd H p1 _ = H1
      obtain ⟨s1, ap1⟩ := new_of0 np1 hU
      have m0 := Int.emod_nonneg (n - (h.length : Int)) (b := (t.length : Int)) (by omega)
      have m1 := Int.emod_lt_of_pos (n - (h.length : Int)) (b := (t.length : Int)) (by omega)
      have d0 : 0 ≤ (n - (h.length : Int)) / (t.length : Int) := Int.ediv_nonneg (by omega) (by omega)
      have d1 : (n - (h.length : Int)) / (t.length : Int) ≤ n := Int.le_trans (Int.ediv_le_self _ (by omega)) (by omega)
      have c0 : t.count true ≤ 5000 := Nat.le_trans List.count_le_length t5
      have c1 : h.count true ≤ 5000 := Nat.le_trans List.count_le_length h5
      walk_at "go"
      rw [B_count]
      walk_at "go"
      rw [B_count]
      walk_at "go"
      rw [B_count]
      have e : bel h t n = (h.count true : Nat) + (n - (h.length : Int)) / (t.length : Int) * (t.count true : Nat) + ((t.take ((n - (h.length : Int)) % (t.length : Int)).toNat).count true : Nat) := if_neg c
      have r := q H1 s1
      rw [e] at r
      exact r
/-- what kth tells of a place -/
def KthV (h t : List Bool) (place : Int) (v : V) : Prop :=
  (v = .non ∧ t.count true = 0 ∧ (h.count true : Int) ≤ place) ∨ ∃ k : Nat, v = .int (k : Nat) ∧ IsK (sg h t) place.toNat k ∧ (k : Int) ≤ 5000 * place + 10000
theorem pls_at {l : List Bool} {k : Nat} (h : k < l.count true) : ∃ p, (pls l)[k]? = some p := ⟨_, List.getElem?_eq_getElem (by rw [pls_len]; exact h)⟩
def spKth : Sp := fun vs H Q _ => ∃ (p : Addr) (h t : List Bool) (n : Int), vs = [.ref p, .int n] ∧ Tab H p h t ∧ 0 ≤ n ∧ n ≤ 10 ^ 24 ∧ ∀ v H', Same H H' → KthV h t n v → Q v H'
theorem ok_kth : FnOk P wd K mg base CX0 2 T.a_kth T.d_kth ["table", "place"] spKth := by
  have G_places : FnOk P wd K mg base CX0 1 T.a_places T.d_places ["row"] spPlaces := ok_places T
  refine T.F_kth.ok sc_kth (fun vs H Q E h => ?_) (fun cdv A outer s H vs Q E hr h => ?_)
  · obtain ⟨p, h, t, n, rfl, _⟩ := h
    rfl
  · obtain ⟨p, h, t, n, rfl, tb, n0, n1, q⟩ := h
    refine ⟨_, (pss_cons (ps_asg (pv 0) (pg_tup rfl (pgs_cons (pg_name (i := 2) sc_kth.nd rfl (Or.inl rfl)) (pgs_cons (pg_name (i := 3) sc_kth.nd rfl (Or.inl rfl)) pgs_nil))))
      (pss_cons (ps_set (i := 4) sc_kth.nd rfl (Or.inl rfl) (pe_bm PySem.F.plainAttrs_str PySem.F.slot_str_count PySem.F.type_str_count mt_count (pv 2) (pa_cons pe_str pa_nil)))
      (pss_cons (ps_if (pt_cmpR op_lt (pv 1) (pv 4) (nomark _)) (pss_one (ps_ret (pe_ix ix_list (pe_call G_places hr rfl T.g_places T.F_places.kp (b_places T) .nil pass0 (pa_cons (pv 2) pa_nil)) (pv 1) (fun _ _ => rfl)))) pss_nil)
      (pss_cons (ps_set (i := 5) sc_kth.nd rfl (Or.inl rfl) (pe_bm PySem.F.plainAttrs_str PySem.F.slot_str_count PySem.F.type_str_count mt_count (pv 3) (pa_cons pe_str pa_nil)))
      (pss_cons (ps_if (pt_cmpR op_eq (pv 5) pe_int (nomark _)) (pss_one (ps_ret pe_non)) pss_nil)
      (pss_cons (ps_asg (pe_callB call_divmod rfl T.n_divmod (by decide +kernel) (pa_cons (pe_op op_sub (pv 1) (pv 4)) (pa_cons (pv 5) pa_nil))) (pg_tup rfl (pgs_cons (pg_name (i := 6) sc_kth.nd rfl (Or.inl rfl)) (pgs_cons (pg_name (i := 7) sc_kth.nd rfl (Or.inl rfl)) pgs_nil))))
      (pss_one (ps_ret (pe_op op_add (pe_op op_add (pe_callB call_len_str rfl T.n_len PySem.boot_len (pa_cons (pv 2) pa_nil)) (pe_op op_mul (pv 6) (pe_callB call_len_str rfl T.n_len PySem.boot_len (pa_cons (pv 3) pa_nil)))) (pe_ix ix_list (pe_call G_places hr rfl T.g_places T.F_places.kp (b_places T) .nil pass0 (pa_cons (pv 3) pa_nil)) (pv 7) (fun _ _ => rfl))))))))))), ?_⟩
    have hp := tb.1
    have h5 := tb.2.1
    have t0 := tb.2.2.1
    have t5 := tb.2.2.2
    have c0 : t.count true ≤ 5000 := Nat.le_trans List.count_le_length t5
    have c1 : h.count true ≤ 5000 := Nat.le_trans List.count_le_length h5
    simp only [B_1]
    walk_at "go"
    rw [B_count]
    walk_at "go"
    refine ifD (fun c => ?_) (fun c => ?_)
    · walk_at "go"
      intro L H1 s1 hL
      obtain ⟨k, hk⟩ := pls_at (l := h) (k := n.toNat) (by omega)
      have hk2 : ((pls h).map fun k => V.int (k : Nat))[n.toNat]? = some (V.int (k : Nat)) := by rw [List.getElem?_map, hk]; rfl
      walk_at "go"
      refine go_ixLi hL (j := n.toNat) (by omega) hk2 ?_
      have kl := (pls_get hk).1
      exact q _ H1 s1 (.inr ⟨k, rfl, k_head hk, by omega⟩)
    · refine ⟨_, rfl, ?_⟩
      walk_at "go"
      rw [B_count]
      refine ifD (fun z => ?_) (fun nz => ?_)
      · have z0 : t.count true = 0 := by
          have := V.int.inj z
          omega
        exact q .non H Same.rfl' (.inl ⟨rfl, z0, by omega⟩)
      · have pos : 0 < t.count true := by
          rcases Nat.eq_zero_or_pos (t.count true) with e | e
          · exact absurd (by rw [e]; rfl) nz
          · exact e
        refine ⟨_, rfl, ?_⟩
        walk_at "go"
        intro p1 np1
        generalize hU : upd H p1 _ = H1
        obtain ⟨s1, ap1⟩ := new_of0 np1 hU
        obtain ⟨m, hm⟩ : ∃ m : Nat, n - (h.count true : Nat) = (m : Int) := ⟨(n - (h.count true : Nat)).toNat, by omega⟩
        rw [hm, ← Int.natCast_ediv, ← Int.natCast_emod] at ap1
        have dm := Nat.mod_add_div m (t.count true)
        have ml := Nat.mod_lt m pos
        have dl := Nat.div_le_self m (t.count true)
        generalize eq : m / t.count true = Q1 at ap1 dm dl
        generalize er : m % t.count true = R1 at ap1 dm ml
        walk_at "go"
        intro L H2 s2 hL
        obtain ⟨k, hk⟩ := pls_at (l := t) (k := R1) ml
        have hk2 : ((pls t).map fun k => V.int (k : Nat))[R1]? = some (V.int (k : Nat)) := by rw [List.getElem?_map, hk]; rfl
        have kl := (pls_get hk).1
        have km := k_turn (h := h) (q := Q1) hk
        have qm : Q1 * t.length ≤ m * 5000 := Nat.mul_le_mul dl t5
        rw [show h.count true + Q1 * t.count true + R1 = n.toNat by rw [Nat.mul_comm]; omega] at km
        walk_at "go"
        refine q _ H2 (s1.trans s2) (.inr ⟨h.length + Q1 * t.length + k, ?_, km, by omega⟩)
        simp only [Int.natCast_add, Int.natCast_mul]
def spNext : Sp := fun vs H Q _ => ∃ (p : Addr) (h t : List Bool) (n : Int), vs = [.ref p, .int n] ∧ Tab H p h t ∧ 0 ≤ n ∧ n ≤ 10 ^ 24 ∧ ∀ v H', Same H H' → KthV h t (cn (sg h t) n.toNat : Nat) v → Q v H'
theorem cn_le (f : Nat → Bool) (n : Nat) : cn f n ≤ n := by
  unfold cn
  exact Nat.le_trans List.count_le_length (by rw [rng_len]; exact Nat.le_refl _)
theorem ok_nextfrom : FnOk P wd K mg base CX0 3 T.a_nextfrom T.d_nextfrom ["table", "number"] spNext := by
  have G_kth : FnOk P wd K mg base CX0 2 T.a_kth T.d_kth ["table", "place"] spKth := ok_kth T
  have G_below : FnOk P wd K mg base CX0 1 T.a_below T.d_below ["table", "number"] spBelow := ok_below T
  refine T.F_nextfrom.ok sc_nextfrom (fun vs H Q E h => ?_) (fun cdv A outer s H vs Q E hr h => ?_)
  · obtain ⟨p, h, t, n, rfl, _⟩ := h
    rfl
  · obtain ⟨p, h, t, n, rfl, tb, n0, n1, q⟩ := h
    refine ⟨_, (pss_one (ps_ret (pe_call G_kth hr rfl T.g_kth T.F_kth.kp (b_kth T) .nil pass0 (pa_cons (pv 0) (pa_cons (pe_call G_below (hr.mono (by decide)) rfl T.g_below T.F_below.kp (b_below T) .nil pass0 (pa_cons (pv 0) (pa_cons (pv 1) pa_nil))) pa_nil))))), ?_⟩
    have cl := cn_le (sg h t) n.toNat
    walk_at "go"
    refine ⟨p, h, t, n, rfl, tb, n0, n1, fun H1 s1 => ?_⟩
    rw [bel_cn tb.2.2.1 n0]
    refine ⟨p, h, t, _, rfl, tb.same s1, by omega, by omega, fun v H2 s2 kv => ?_⟩
    exact q v H2 (s1.trans s2) kv
end
section
variable {P : Program} {wd : World} {K : PySem.W.Frag} {mg : Str → Option Value} {base : Heap} (T : Tp K mg)
def spWritten : Sp := fun vs H Q _ => ∃ (w g p : Addr) (h u : List Bool) (n : Int), vs = [.ref w, .ref p, .int n] ∧ WellAt w g H ∧ Tab H p h u ∧ 1 ≤ n ∧ n ≤ 5000 ∧
  ∀ p' H' (L k : Nat), Go w g H H' → WellAt w g H' → 1 ≤ k → Tab H' p' (rng (sg h u) 0 (h.length + L)) (rep k (rng (sg h u) (h.length + L) u.length)) → Q (.ref p') H'
theorem ok_written : FnOk P wd K mg base CX0 2 T.a_written T.d_written ["_law_well_here", "_law_x", "_law_more"] spWritten := by
  have G_draw : FnOk P wd K mg base CX0 1 T.a_draw T.d_draw ["_law_well_here", "_law_size"] spDraw := ok_draw T
  refine T.F_written.ok sc_written (fun vs H Q E h => ?_) (fun cdv A outer s H vs Q E hr h => ?_)
  · obtain ⟨w, g, p, h, u, n, rfl, _⟩ := h
    rfl
  · obtain ⟨w, g, p, h, u, n, rfl, W, tb, n0, n1, q⟩ := h
    refine ⟨_, (pss_cons (ps_set (i := 3) sc_written.nd rfl (Or.inl rfl) (pe_call G_draw hr rfl T.g_draw T.F_draw.kp (b_draw T) .nil pass0 (pa_cons (pv 0) (pa_cons (pe_op op_add (pe_callB (call_min2 rfl) rfl T.n_min (by decide +kernel) (pa_cons (pv 2) (pa_cons (pe_op op_sub pe_int (pe_callB call_len_str rfl T.n_len PySem.boot_len (pa_cons (pe_ix ix_tup (pv 1) pe_int (fun _ _ => rfl)) pa_nil))) pa_nil))) pe_int) pa_nil))))
      (pss_cons (ps_set (i := 4) sc_written.nd rfl (Or.inl rfl) (pe_op op_add pe_int (pe_call G_draw hr rfl T.g_draw T.F_draw.kp (b_draw T) .nil pass0 (pa_cons (pv 0) (pa_cons (pe_callB (call_min2 rfl) rfl T.n_min (by decide +kernel) (pa_cons (pv 2) (pa_cons (pe_op op_fdiv pe_int (pe_callB call_len_str rfl T.n_len PySem.boot_len (pa_cons (pe_ix ix_tup (pv 1) pe_int (fun _ _ => rfl)) pa_nil))) pa_nil))) pa_nil)))))
      (pss_cons (ps_par (i := 5) (j := 6) rfl sc_written.nd rfl rfl (by decide) rfl rfl (pa_cons (pe_op op_add_str (pe_ix ix_tup (pv 1) pe_int (fun _ _ => rfl)) (pe_op op_mulS (pe_ix ix_tup (pv 1) pe_int (fun _ _ => rfl)) (pe_op op_add (pe_op op_fdiv (pv 3) (pe_callB call_len_str rfl T.n_len PySem.boot_len (pa_cons (pe_ix ix_tup (pv 1) pe_int (fun _ _ => rfl)) pa_nil))) pe_int))) (pa_cons (pe_op op_add (pe_callB call_len_str rfl T.n_len PySem.boot_len (pa_cons (pe_ix ix_tup (pv 1) pe_int (fun _ _ => rfl)) pa_nil)) (pv 3)) pa_nil)) rfl)
      (pss_one (ps_ret (pe_tup (pa_cons (pe_slice sl_str (pv 5) po_none (po_some (pv 6))) (pa_cons (pe_op op_mulS (pe_slice sl_str (pv 5) (po_some (pv 6)) (po_some (pe_op op_add (pv 6) (pe_callB call_len_str rfl T.n_len PySem.boot_len (pa_cons (pe_ix ix_tup (pv 1) pe_int (fun _ _ => rfl)) pa_nil))))) (pv 4)) pa_nil)))))))), ?_⟩
    have hp := tb.1
    have h5 := tb.2.1
    have u0 := tb.2.2.1
    have u5 := tb.2.2.2
    walk_at "go"
    refine ⟨w, g, _, rfl, W, by split <;> omega, by split <;> omega, fun d H1 s1 W1 d0 d1 => ?_⟩
    have x1 := (W.tup hp).go s1
    have hp1 := x1.at_
    have dL : d ≤ 5000 - (h.length : Int) := by split at d1 <;> omega
    have q5 : 1 ≤ (5000 : Int) / (u.length : Int) ∧ (5000 : Int) / (u.length : Int) ≤ 5000 := by
      rw [show (5000 : Int) = ((5000 : Nat) : Int) from rfl, ← Int.natCast_ediv]
      have a1 : 1 ≤ 5000 / u.length := (Nat.le_div_iff_mul_le u0).mpr (by omega)
      have a2 := Nat.div_le_self 5000 u.length
      omega
    walk_at "go"
    refine ⟨w, g, _, rfl, W1, by split <;> omega, by split <;> omega, fun e H2 s2 W2 e0 e1 => ?_⟩
    have x2 := x1.go s2
    have hp2 := x2.at_
    have eq5 : e < (5000 : Int) / (u.length : Int) := by split at e1 <;> omega
    obtain ⟨dn, rfl⟩ : ∃ dn : Nat, d = (dn : Int) := ⟨d.toNat, by omega⟩
    obtain ⟨en, rfl⟩ : ∃ en : Nat, e = (en : Int) := ⟨e.toNat, by omega⟩
    have ku : (1 + en) * u.length ≤ 5000 := by
      rw [show (5000 : Int) = ((5000 : Nat) : Int) from rfl, ← Int.natCast_ediv] at eq5
      have a1 : 1 + en ≤ 5000 / u.length := by omega
      exact Nat.le_trans (Nat.mul_le_mul_right _ a1) (Nat.div_mul_le_self _ _)
    have dq : (dn : Int) / (u.length : Int) + 2 = ((dn / u.length + 2 : Nat) : Int) := by
      rw [← Int.natCast_ediv]
      omega
    have c1 : ((dn : Int) / (u.length : Int) + 2).toNat = dn / u.length + 2 := by rw [dq, Int.toNat_natCast]
    have c2 : 0 ≤ (dn : Int) / (u.length : Int) + 2 ∧ (dn : Int) / (u.length : Int) + 2 < 2 ^ 30 := by
      rw [dq]
      have := Nat.div_le_self dn u.length
      omega
    have hdm := Nat.mod_add_div dn u.length
    have hml := Nat.mod_lt dn u0
    have m3 : (dn / u.length + 2) * u.length = u.length * (dn / u.length) + 2 * u.length := by rw [Nat.add_mul, Nat.mul_comm]
    have m1 : u.length * ((dn : Int) / (u.length : Int) + 2).toNat ≤ 1000000 := by
      rw [c1, Nat.mul_comm, m3]
      omega
    have lrow : (h ++ rep ((dn : Int) / (u.length : Int) + 2).toNat u).length ≤ 1000000 := by
      rw [List.length_append, rep_length, c1, m3]
      omega
    have lrow2 : h.length + (rep ((dn : Int) / (u.length : Int) + 2).toNat u).length ≤ 1000000 := by
      rw [List.length_append] at lrow
      exact lrow
    have long : h.length + dn + u.length ≤ h.length + (dn / u.length + 2) * u.length := by omega
    have k1 : ((h.length : Int) + (dn : Int)).toNat = h.length + dn := by omega
    have k2 : ((h.length : Int) + (dn : Int) + (u.length : Int)).toNat = h.length + dn + u.length := by omega
    have lmid : (List.drop ((h.length : Int) + (dn : Int)).toNat (List.take ((h.length : Int) + (dn : Int) + (u.length : Int)).toNat (h ++ rep ((dn : Int) / (u.length : Int) + 2).toNat u))).length * (1 + (en : Int)).toNat ≤ 1000000 := by
      rw [k1, k2, c1, row_mid u0 long, rng_len, show (1 + (en : Int)).toNat = 1 + en by omega, Nat.mul_comm]
      omega
    walk_at "go"
    rw [k1, k2, c1, row_mid u0 long, row_take u0 (by omega), show (1 + (en : Int)).toNat = 1 + en by omega]
    intro p' np
    generalize hU : upd H2 p' _ = H3
    obtain ⟨s3, W3, ap⟩ := new_of W2 np hU
    refine q p' H3 dn (1 + en) ((s1.trans s2).trans (Go.of s3)) W3 (by omega) ⟨ap.at_, ?_, ?_, ?_⟩
    · rw [rng_len]; omega
    · rw [wr_len]; exact Nat.mul_pos (by omega) u0
    · rw [wr_len]; exact ku
theorem one_true (x : Bool) : decide ([x] = [true]) = x := by cases x <;> rfl
def spHas : Sp := fun vs H Q _ => ∃ (p : Addr) (h t : List Bool) (n : Int), vs = [.ref p, .int n] ∧ Tab H p h t ∧ 0 ≤ n ∧ Q (.bl (sg h t n.toNat)) H
theorem ok_sign : FnOk P wd K mg base CX0 1 T.a_sign T.d_sign ["_law_x", "_law_n"] spHas := by
  refine T.F_sign.ok sc_sign (fun vs H Q E h => ?_) (fun cdv A outer s H vs Q E hr h => ?_)
  · obtain ⟨p, h, t, n, rfl, _⟩ := h
    rfl
  · obtain ⟨p, h, t, n, rfl, ⟨hp, h1, t0, t1⟩, n0, q⟩ := h
    refine ⟨_, (pss_cons (ps_if (pt_cmpR op_lt (pv 1) (pe_callB call_len_str rfl T.n_len PySem.boot_len (pa_cons (pe_ix ix_tup (pv 0) pe_int (fun _ _ => rfl)) pa_nil)) (nomark _)) (pss_one (ps_ret (pe_cmpR op_eq (pe_ix ix_str (pe_ix ix_tup (pv 0) pe_int (fun _ _ => rfl)) (pv 1) (fun _ _ => rfl)) pe_str (nomark _)))) pss_nil)
      (pss_one (ps_ret (pe_cmpR op_eq (pe_ix ix_str (pe_ix ix_tup (pv 0) pe_int (fun _ _ => rfl)) (pe_op op_mod (pe_callTy call_int1 rfl T.n_int (by decide +kernel) (pa_cons (pe_op op_sub (pv 1) (pe_callB call_len_str rfl T.n_len PySem.boot_len (pa_cons (pe_ix ix_tup (pv 0) pe_int (fun _ _ => rfl)) pa_nil))) pa_nil)) (pe_callB call_len_str rfl T.n_len PySem.boot_len (pa_cons (pe_ix ix_tup (pv 0) pe_int (fun _ _ => rfl)) pa_nil))) (fun _ _ => rfl)) pe_str (nomark _))))), ?_⟩
    simp only [B_1]
    walk_at "go"
    refine ifD (fun lt => ?_) (fun nlt => ?_)
    · walk_at "go"
      refine go_ixS (k := n.toNat) (by omega) (by omega) (getD_some (by omega)) ?_
      rw [B_one]
      walk_at "go"
      rw [B_dec, one_true]
      rw [sg_head (by omega)] at q
      exact q
    · have hm := Nat.mod_lt (n.toNat - h.length) t0
      have em : (n - (h.length : Int)) % (t.length : Int) = (((n.toNat - h.length) % t.length : Nat) : Int) := by
        rw [Int.natCast_emod]
        congr 1
        omega
      walk_at "go"
      refine go_ixS (k := (n.toNat - h.length) % t.length) em (by omega) (getD_some hm) ?_
      rw [B_one]
      walk_at "go"
      rw [B_dec, one_true]
      rw [sg_turn (by omega)] at q
      exact q
theorem ok_lbelow : FnOk P wd K mg base CX0 1 T.a_lbelow T.d_lbelow ["_law_x", "_law_n"] spBelow := by
  refine T.F_lbelow.ok sc_lbelow (fun vs H Q E h => ?_) (fun cdv A outer s H vs Q E hr h => ?_)
  · obtain ⟨p, h, t, n, rfl, _⟩ := h
    rfl
  · obtain ⟨p, h, t, n, rfl, tb, n0, n1, q⟩ := h
    refine ⟨_, (pss_cons (ps_if (pt_cmpR op_le (pv 1) (pe_callB call_len_str rfl T.n_len PySem.boot_len (pa_cons (pe_ix ix_tup (pv 0) pe_int (fun _ _ => rfl)) pa_nil)) (nomark _)) (pss_one (ps_ret (pe_bm PySem.F.plainAttrs_str PySem.F.slot_str_count PySem.F.type_str_count mt_count (pe_slice sl_str (pe_ix ix_tup (pv 0) pe_int (fun _ _ => rfl)) po_none (po_some (pv 1))) (pa_cons pe_str pa_nil)))) pss_nil)
      (pss_cons (ps_set (i := 2) sc_lbelow.nd rfl (Or.inl rfl) (pe_op op_fdiv (pe_op op_sub (pv 1) (pe_callB call_len_str rfl T.n_len PySem.boot_len (pa_cons (pe_ix ix_tup (pv 0) pe_int (fun _ _ => rfl)) pa_nil))) (pe_callB call_len_str rfl T.n_len PySem.boot_len (pa_cons (pe_ix ix_tup (pv 0) pe_int (fun _ _ => rfl)) pa_nil))))
      (pss_cons (ps_set (i := 3) sc_lbelow.nd rfl (Or.inl rfl) (pe_slice sl_str (pe_ix ix_tup (pv 0) pe_int (fun _ _ => rfl)) po_none (po_some (pe_op op_sub (pe_op op_sub (pv 1) (pe_callB call_len_str rfl T.n_len PySem.boot_len (pa_cons (pe_ix ix_tup (pv 0) pe_int (fun _ _ => rfl)) pa_nil))) (pe_op op_mul (pv 2) (pe_callB call_len_str rfl T.n_len PySem.boot_len (pa_cons (pe_ix ix_tup (pv 0) pe_int (fun _ _ => rfl)) pa_nil)))))))
      (pss_one (ps_ret (pe_op op_add (pe_op op_add (pe_bm PySem.F.plainAttrs_str PySem.F.slot_str_count PySem.F.type_str_count mt_count (pe_ix ix_tup (pv 0) pe_int (fun _ _ => rfl)) (pa_cons pe_str pa_nil)) (pe_op op_mul (pv 2) (pe_bm PySem.F.plainAttrs_str PySem.F.slot_str_count PySem.F.type_str_count mt_count (pe_ix ix_tup (pv 0) pe_int (fun _ _ => rfl)) (pa_cons pe_str pa_nil)))) (pe_bm PySem.F.plainAttrs_str PySem.F.slot_str_count PySem.F.type_str_count mt_count (pv 3) (pa_cons pe_str pa_nil)))))))), ?_⟩
    have hp := tb.1
    have h5 := tb.2.1
    have t0 := tb.2.2.1
    have t5 := tb.2.2.2
    simp only [B_1]
    walk_at "go"
    refine ifD (fun c => ?_) (fun c => ?_)
    · walk_at "go"
      rw [B_count]
      have e : bel h t n = ((h.take n.toNat).count true : Nat) := if_pos c
      rw [← e]
      exact q H Same.rfl'
    · refine ⟨_, rfl, ?_⟩
      have m0 := Int.emod_nonneg (n - (h.length : Int)) (b := (t.length : Int)) (by omega)
      have m1 := Int.emod_lt_of_pos (n - (h.length : Int)) (b := (t.length : Int)) (by omega)
      have d0 : 0 ≤ (n - (h.length : Int)) / (t.length : Int) := Int.ediv_nonneg (by omega) (by omega)
      have d1 : (n - (h.length : Int)) / (t.length : Int) ≤ n := Int.le_trans (Int.ediv_le_self _ (by omega)) (by omega)
      have em : n - (h.length : Int) - (n - (h.length : Int)) / (t.length : Int) * (t.length : Int) = (n - (h.length : Int)) % (t.length : Int) := by
        rw [Int.emod_def, Int.mul_comm]
      have c0 : t.count true ≤ 5000 := Nat.le_trans List.count_le_length t5
      have c1 : h.count true ≤ 5000 := Nat.le_trans List.count_le_length h5
      have cm : CMul ((n - (h.length : Int)) / (t.length : Int)) (t.length : Int) := .inr ⟨by omega, by omega⟩
      walk_at "go"
      rw [B_count]
      walk_at "go"
      rw [B_count]
      walk_at "go"
      rw [B_count, em]
      have e : bel h t n = (h.count true : Nat) + (n - (h.length : Int)) / (t.length : Int) * (t.count true : Nat) + ((t.take ((n - (h.length : Int)) % (t.length : Int)).toNat).count true : Nat) := if_neg c
      have r := q H Same.rfl'
      rw [e] at r
      exact r
def spLeft : Sp := fun vs H Q _ => ∃ (p : Addr) (h t : List Bool) (n : Int), vs = [.ref p, .int n] ∧ Tab H p h t ∧ 0 ≤ n ∧ Q (.bl (t.contains true || (h.drop n.toNat).contains true)) H
theorem ok_left : FnOk P wd K mg base CX0 1 T.a_left T.d_left ["_law_x", "_law_n"] spLeft := by
  refine T.F_left.ok sc_left (fun vs H Q E h => ?_) (fun cdv A outer s H vs Q E hr h => ?_)
  · obtain ⟨p, h, t, n, rfl, _⟩ := h
    rfl
  · obtain ⟨p, h, t, n, rfl, tb, n0, q⟩ := h
    refine ⟨_, (pss_one (ps_ret (pe_or (pe_cmpR op_in_str pe_str (pe_ix ix_tup (pv 0) pe_int (fun _ _ => rfl)) (by rfl)) (pe_one (pe_cmpR op_in_str pe_str (pe_slice sl_str (pe_ix ix_tup (pv 0) pe_int (fun _ _ => rfl)) (po_some (pv 1)) po_none) (by rfl)))))), ?_⟩
    have hp := tb.1
    have h5 := tb.2.1
    simp only [B_1]
    walk_at "go"
    rw [B_in]
    refine ifB (fun e => ?_) (fun e => ?_)
    · rw [e, Bool.true_or] at q
      exact q
    · walk_at "go"
      rw [B_in]
      rw [e, Bool.false_or] at q
      exact q
/-- what is told for a number, or a place -/
def Found (h t : List Bool) (n count : Int) (v : V) : Prop :=
  (v = .non ∧ t.contains true = false ∧ (h.drop n.toNat).contains true = false) ∨ ∃ k : Nat, v = .int (k : Nat) ∧ n ≤ k ∧ (k : Int) ≤ 10 ^ 24 ∧ sg h t k = true ∧ ((cn (sg h t) k : Nat) : Int) = count
def spFound : Sp := fun vs H Q _ => ∃ (p : Addr) (h t : List Bool) (n c : Int) (v : V), vs = [.ref p, .int n, .int c, v] ∧ Tab H p h t ∧ 0 ≤ n ∧ Found h t n c v ∧ ∀ H', Same H H' → Q (.bl true) H'
theorem ok_isfound : FnOk P wd K mg base CX0 2 T.a_isfound T.d_isfound ["_law_x", "_law_n", "_law_count", "_law_thing"] spFound := by
  have G_left : FnOk P wd K mg base CX0 1 T.a_left T.d_left ["_law_x", "_law_n"] spLeft := ok_left T
  have G_sign : FnOk P wd K mg base CX0 1 T.a_sign T.d_sign ["_law_x", "_law_n"] spHas := ok_sign T
  have G_lbelow : FnOk P wd K mg base CX0 1 T.a_lbelow T.d_lbelow ["_law_x", "_law_n"] spBelow := ok_lbelow T
  refine T.F_isfound.ok sc_isfound (fun vs H Q E h => ?_) (fun cdv A outer s H vs Q E hr h => ?_)
  · obtain ⟨p, h, t, n, c, v, rfl, _⟩ := h
    rfl
  · obtain ⟨p, h, t, n, c, v, rfl, tb, n0, fd, q⟩ := h
    refine ⟨_, (pss_cons (ps_if (pt_cmpR op_isN (pv 3) pe_non (nomark _)) (pss_one (ps_ret (pe_not (pe_call G_left hr rfl T.g_left T.F_left.kp (b_left T) .nil pass0 (pa_cons (pv 0) (pa_cons (pv 1) pa_nil)))))) pss_nil)
      (pss_cons (ps_if (PW.pt (pw_or (pt_not (pt_val (pe_callB call_isi rfl T.n_isinstance (by decide +kernel) (pa_cons (pv 3) (pa_cons (pe_bltn (v := .ty "int") rfl T.n_int (by decide +kernel) rfl) pa_nil))))) (pw_or (pt_val (pe_callB call_isi rfl T.n_isinstance (by decide +kernel) (pa_cons (pv 3) (pa_cons (pe_bltn (v := .ty "bool") rfl T.n_bool (by decide +kernel) rfl) pa_nil)))) (pw_or1 (pt_cmpR op_lt (pv 3) (pv 1) (nomark _)))))) (pss_one (ps_ret pe_bl)) pss_nil)
      (pss_one (ps_ret (pe_and (pe_call G_sign hr rfl T.g_sign T.F_sign.kp (b_sign T) .nil pass0 (pa_cons (pv 0) (pa_cons (pv 3) pa_nil))) (pe_one (pe_cmpR op_eq (pe_call G_lbelow hr rfl T.g_lbelow T.F_lbelow.kp (b_lbelow T) .nil pass0 (pa_cons (pv 0) (pa_cons (pv 3) pa_nil))) (pv 2) (nomark _)))))))), ?_⟩
    rcases fd with ⟨rfl, e1, e2⟩ | ⟨k, rfl, nk, kt, sk, ck⟩
    · walk_at "go"
      refine ⟨p, h, t, n, rfl, tb, n0, ?_⟩
      rw [e1, e2]
      walk_at "go"
      exact q H Same.rfl'
    · walk_at "go"
      refine ⟨_, _, .type "int", .type "int", true, rfl, .ty _, .base (.int _), kit_ty (by decide +kernel), ?_⟩
      walk_at "go"
      refine ⟨_, _, .type "int", .type "bool", false, rfl, .ty _, .base (.int _), kit_ty (by decide +kernel), ?_⟩
      walk_at "go"
      refine ifD (fun c => absurd c (by omega)) (fun _ => ?_)
      refine ⟨_, rfl, ?_⟩
      walk_at "go"
      refine ⟨p, h, t, (k : Int), rfl, tb, by omega, ?_⟩
      rw [Int.toNat_natCast, sk]
      walk_at "go"
      refine ⟨p, h, t, (k : Int), rfl, tb, by omega, by omega, fun H1 s1 => ?_⟩
      rw [bel_cn tb.2.2.1 (by omega), Int.toNat_natCast, ck]
      walk_at "go"
      rw [decide_eq_true rfl]
      exact q H1 s1
theorem pls_none {l : List Bool} (z : l.count true = 0) : l.contains true = false := by
  cases e : l.contains true with
  | false => rfl
  | true =>
    have := List.count_pos_iff.mpr (List.contains_iff_mem.mp e)
    omega
/-- what next_from tells is found -/
theorem found_next {h t : List Bool} {n : Int} {v : V} (n0 : 0 ≤ n) (n1 : n ≤ 10 ^ 20) (kv : KthV h t (cn (sg h t) n.toNat : Nat) v) : Found h t n (cn (sg h t) n.toNat : Nat) v := by
  have cl := cn_le (sg h t) n.toNat
  rcases kv with ⟨rfl, z, hc⟩ | ⟨k, rfl, ik, kb⟩
  · refine .inl ⟨rfl, pls_none z, ?_⟩
    have nm := no_more (h := h) (t := t) (n := n.toNat) z (by omega)
    cases e : (h.drop n.toNat).contains true with
    | false => rfl
    | true =>
      obtain ⟨i, hi⟩ := List.mem_iff_getElem?.mp (List.contains_iff_mem.mp e)
      rw [List.getElem?_drop] at hi
      have il := (List.getElem?_eq_some_iff.mp hi).1
      have f := nm (n.toNat + i) (by omega)
      rw [sg_head il, List.getD_eq_getElem?_getD, hi] at f
      cases f
  · rw [Int.toNat_natCast] at ik
    have ge := ik.ge
    exact .inr ⟨k, rfl, by omega, by omega, ik.told, by rw [ik.many]⟩
def spIsPlace : Sp := fun vs H Q _ => ∃ (p : Addr) (h t : List Bool) (n : Int) (v : V), vs = [.ref p, .int n, v] ∧ Tab H p h t ∧ 0 ≤ n ∧ n ≤ 10 ^ 20 ∧ KthV h t n v ∧ ∀ H', Same H H' → Q (.bl true) H'
theorem ok_isplace : FnOk P wd K mg base CX0 3 T.a_isplace T.d_isplace ["_law_x", "_law_place_of", "_law_thing"] spIsPlace := by
  have G_isfound : FnOk P wd K mg base CX0 2 T.a_isfound T.d_isfound ["_law_x", "_law_n", "_law_count", "_law_thing"] spFound := ok_isfound T
  refine T.F_isplace.ok sc_isplace (fun vs H Q E h => ?_) (fun cdv A outer s H vs Q E hr h => ?_)
  · obtain ⟨p, h, t, n, v, rfl, _⟩ := h
    rfl
  · obtain ⟨p, h, t, n, v, rfl, tb, n0, n1, kv, q⟩ := h
    refine ⟨_, (pss_cons (ps_if (pt_cmpR op_isN (pv 2) pe_non (nomark _)) (pss_one (ps_ret (pe_and (pe_cmpR op_notIn_str pe_str (pe_ix ix_tup (pv 0) pe_int (fun _ _ => rfl)) (by rfl)) (pe_one (pe_cmpR op_le (pe_bm PySem.F.plainAttrs_str PySem.F.slot_str_count PySem.F.type_str_count mt_count (pe_ix ix_tup (pv 0) pe_int (fun _ _ => rfl)) (pa_cons pe_str pa_nil)) (pv 1) (nomark _)))))) pss_nil)
      (pss_one (ps_ret (pe_call G_isfound hr rfl T.g_isfound T.F_isfound.kp (b_isfound T) .nil pass0 (pa_cons (pv 0) (pa_cons (pv 1) (pa_cons (pv 1) (pa_cons (pv 2) pa_nil)))))))), ?_⟩
    have hp := tb.1
    simp only [B_1]
    rcases kv with ⟨rfl, z, hc⟩ | ⟨k, rfl, ik, kb⟩
    · walk_at "go"
      rw [B_in, pls_none z]
      refine ifT ?_
      walk_at "go"
      rw [B_count]
      walk_at "go"
      have r := q H Same.rfl'
      rw [← decide_eq_true hc] at r
      exact r
    · have ge : n ≤ (k : Int) := by
        have := cn_le (sg h t) k
        have := ik.many
        omega
      walk_at "go"
      refine ⟨p, h, t, n, n, .int (k : Nat), rfl, tb, n0, .inr ⟨k, rfl, ge, by omega, ik.told, by rw [ik.many]; omega⟩, ?_⟩
      exact q
end
set_option pp.deepTerms false
set_option pp.deepTerms.threshold 6
section
variable {P : Program} {wd : World} {K : PySem.W.Frag} {mg : Str → Option Value} {base : Heap} (T : Tp K mg)
/-- a list of numbers is written: the well stands, even if it should be its own -/
theorem well_upd {w g D : Addr} {H : Hp} {ms : List Int} (W : WellAt w g H) (nw : D ≠ w) (ng : D ≠ g) (m0 : 0 < ms.length) (m1 : ms.length ≤ 1000) : WellAt w g (upd H D (.lst (ms.map V.int))) := by
  obtain ⟨c, gs, cs, k, h1, h2, h3, h4, h5, h6, h7, h8, h9⟩ := W
  by_cases e : c = D
  · subst e
    exact ⟨c, gs, ms, k, h1, h2, h3, by rw [upd_ne nw.symm]; exact h4, by rw [upd_ne ng.symm]; exact h5, upd_same, m0, h8, m1⟩
  · exact ⟨c, gs, cs, k, h1, h2, h3, by rw [upd_ne nw.symm]; exact h4, by rw [upd_ne ng.symm]; exact h5, by rw [upd_ne e]; exact h6, h7, h8, h9⟩
theorem go_upd {w g D : Addr} {H H' : Hp} {o : HO} (S : Go w g H H') (h : H D = none) : Go w g H (upd H' D o) := fun x u h1 h2 e => by
  rw [upd_ne (ne_of_none e h)]
  exact S x u h1 h2 e
/-- one of the numbers drawn is put behind those in D -/
theorem put_on {w g D : Addr} {H13 H' H4 : Hp} {ms zs : List Int} {j : Nat} {x : V} (nD : H13 D = none) (W13 : WellAt w g H13) (hD : H' D = some (.lst (ms.map V.int))) (hl : ms.length = j) (hj : j < 900) (S : Go w g H13 H') (s4 : Go w g H' H4)
    (W4 : WellAt w g H4) (hms : ∀ z ∈ ms, 0 ≤ z ∧ z ≤ 10 ^ 19) (hzs : ∀ z ∈ zs, 0 ≤ z ∧ z ≤ 10 ^ 19) (mx : x ∈ zs.map V.int) :
    ∃ acc, H4 D = some (.lst acc) ∧ acc.length < sizeLine ∧ ∃ ms' : List Int, (upd H4 D (.lst (acc ++ [x]))) D = some (.lst (ms'.map V.int)) ∧ ms'.length = j + 1 ∧ Go w g H13 (upd H4 D (.lst (acc ++ [x]))) ∧ WellAt w g (upd H4 D (.lst (acc ++ [x]))) ∧ ∀ z ∈ ms', 0 ≤ z ∧ z ≤ 10 ^ 19 := by
  obtain ⟨z, hz, rfl⟩ := mem_ints (ns := zs) rfl mx
  have f := W13.fresh nD
  have e : ms.map V.int ++ [V.int z] = (ms ++ [z]).map V.int := by rw [List.map_append]; rfl
  refine ⟨_, s4 D _ f.1 f.2 hD, Nat.lt_of_lt_of_le (by rw [List.length_map]; omega : (ms.map V.int).length < 1000) (szl (Nat.le_refl _)), ms ++ [z], by rw [upd_same, e], by rw [List.length_append]; simp; omega, go_upd (S.trans s4) nD, ?_, fun y hy => ?_⟩
  · rw [e]
    exact well_upd W4 f.1 f.2 (by simp) (by simp; omega)
  · rcases List.mem_append.mp hy with q | q
    · exact hms y q
    · rw [List.mem_singleton.mp q]
      exact hzs z hz
/-- two lists of numbers -/
def spCounts : Sp := fun vs H Q _ => ∃ (w g p : Addr) (h t : List Bool), vs = [.ref w, .ref p] ∧ WellAt w g H ∧ Tab H p h t ∧
  ∀ (r a b : Addr) (xs ys : List Int) (H' : Hp), Go w g H H' → WellAt w g H' → At w g H' r (.lst [.ref a, .ref b]) → At w g H' a (.lst (xs.map V.int)) → At w g H' b (.lst (ys.map V.int)) →
    (∀ z ∈ xs, 0 ≤ z ∧ z ≤ 10 ^ 19) → (∀ z ∈ ys, 0 ≤ z ∧ z ≤ 10 ^ 19) → Q (.ref r) H'
theorem ok_counts : FnOk P wd K mg base CX0 3 T.a_counts T.d_counts ["_law_well_here", "_law_x"] spCounts := by
  have G_draw : FnOk P wd K mg base CX0 1 T.a_draw T.d_draw ["_law_well_here", "_law_size"] spDraw := ok_draw T
  have G_pick : FnOk P wd K mg base CX0 2 T.a_pick T.d_pick ["_law_well_here", "_law_items"] spPick := ok_pick T
  have G_far : FnOk P wd K mg base CX0 2 T.a_far T.d_far ["_law_well_here"] spFar := ok_far T
  refine T.F_counts.ok sc_counts (fun vs H Q E h => ?_) (fun cdv A outer s H vs Q E hr h => ?_)
  · obtain ⟨w, g, p, h, t, rfl, _⟩ := h
    rfl
  · obtain ⟨w, g, p, h, t, rfl, W, tb, q⟩ := h
    refine ⟨_, (pss_cons (ps_asg (pe_tup (pa_cons (pe_callB call_len_str rfl T.n_len PySem.boot_len (pa_cons (pe_ix ix_tup (pv 1) pe_int (fun _ _ => rfl)) pa_nil)) (pa_cons (pe_callB call_len_str rfl T.n_len PySem.boot_len (pa_cons (pe_ix ix_tup (pv 1) pe_int (fun _ _ => rfl)) pa_nil)) (pa_cons (pe_bm PySem.F.plainAttrs_str PySem.F.slot_str_count PySem.F.type_str_count mt_count (pe_ix ix_tup (pv 1) pe_int (fun _ _ => rfl)) (pa_cons pe_str pa_nil)) (pa_cons (pe_bm PySem.F.plainAttrs_str PySem.F.slot_str_count PySem.F.type_str_count mt_count (pe_ix ix_tup (pv 1) pe_int (fun _ _ => rfl)) (pa_cons pe_str pa_nil)) pa_nil))))) (pg_tup rfl (pgs_cons (pg_name (i := 2) sc_counts.nd rfl (Or.inl rfl)) (pgs_cons (pg_name (i := 3) sc_counts.nd rfl (Or.inl rfl)) (pgs_cons (pg_name (i := 4) sc_counts.nd rfl (Or.inl rfl)) (pgs_cons (pg_name (i := 5) sc_counts.nd rfl (Or.inl rfl)) pgs_nil))))))
      (pss_cons (ps_set (i := 6) sc_counts.nd rfl (Or.inr rfl) (pe_lst (pa_cons pe_int (pa_cons pe_int (pa_cons (pe_callB (call_max2 rfl) rfl T.n_max (by decide +kernel) (pa_cons pe_int (pa_cons (pe_op op_sub (pv 2) pe_int) pa_nil))) (pa_cons (pv 2) (pa_cons (pe_op op_add (pv 2) pe_int) (pa_cons (pe_op op_sub (pe_op op_add (pv 2) (pv 3)) pe_int) (pa_cons (pe_op op_add (pv 2) (pv 3)) (pa_cons (pe_op op_add (pe_op op_add (pv 2) (pe_op op_mul pe_int (pv 3))) pe_int) (pa_cons (pe_op op_pow pe_int pe_int) (pa_cons (pe_op op_sub (pe_op op_pow pe_int pe_int) pe_int) (pa_cons (pe_op op_add (pe_op op_pow pe_int pe_int) pe_int) pa_nil)))))))))))))
      (pss_cons (ps_set (i := 7) sc_counts.nd rfl (Or.inr rfl) (pe_lst (pa_cons pe_int (pa_cons pe_int (pa_cons (pe_callB (call_max2 rfl) rfl T.n_max (by decide +kernel) (pa_cons pe_int (pa_cons (pe_op op_sub (pv 4) pe_int) pa_nil))) (pa_cons (pv 4) (pa_cons (pe_op op_add (pv 4) pe_int) (pa_cons (pe_op op_add (pv 4) (pv 5)) (pa_cons (pe_op op_add (pv 4) (pe_op op_mul pe_int (pv 5))) (pa_cons (pe_op op_pow pe_int pe_int) (pa_cons (pe_op op_sub (pe_op op_pow pe_int pe_int) pe_int) pa_nil)))))))))))
      (pss_cons (ps_set (i := 8) sc_counts.nd rfl (Or.inl rfl) (pe_lst (pa_cons (pe_call G_draw (hr.mono (by decide)) rfl T.g_draw T.F_draw.kp (b_draw T) .nil pass0 (pa_cons (pv 0) (pa_cons pe_int pa_nil))) (pa_cons (pe_call G_draw (hr.mono (by decide)) rfl T.g_draw T.F_draw.kp (b_draw T) .nil pass0 (pa_cons (pv 0) (pa_cons pe_int pa_nil))) (pa_cons (pe_call G_far hr rfl T.g_far T.F_far.kp (b_far T) .nil pass0 (pa_cons (pv 0) pa_nil)) (pa_cons (pe_call G_far hr rfl T.g_far T.F_far.kp (b_far T) .nil pass0 (pa_cons (pv 0) pa_nil)) pa_nil))))))
      (pss_cons (ps_asg (pe_tup (pa_cons (pe_op op_cat (pv 6) (pv 8)) (pa_cons (pe_op op_cat (pe_op op_cat (pv 7) (pv 8)) (pe_lst (pa_cons (pe_op op_add (pe_op op_pow pe_int pe_int) pe_int) pa_nil))) pa_nil))) (pg_tup rfl (pgs_cons (pg_name (i := 6) sc_counts.nd rfl (Or.inr rfl)) (pgs_cons (pg_name (i := 7) sc_counts.nd rfl (Or.inr rfl)) pgs_nil))))
      (pss_cons (ps_if (pt_cmpR op_lt (pe_op op_add (pv 2) (pv 3)) pe_int (nomark _)) (pss_one (ps_ret (pe_lst (pa_cons (pv 6) (pa_cons (pv 7) pa_nil))))) pss_nil)
      (pss_one (ps_ret (pe_lst (pa_cons (pe_lc (own := [("_law_k", 9)]) rfl sc_counts.nd (pi_range1 rfl T.n_range (pa_cons pe_int pa_nil)) (blkOk_by (N := nm_counts) (sc := defScope s_counts) (by decide +kernel)) (fun _ _ _ _ _ => pg_name (i := 9) sc_counts.nd rfl (Or.inl rfl)) (fun _ _ _ _ _ => pts_nil) (fun _ _ _ _ _ => (pe_call G_pick hr rfl T.g_pick T.F_pick.kp (b_pick T) .nil pass0 (pa_cons (pv 0) (pa_cons (pv 6) pa_nil))))) (pa_cons (pe_lc (own := [("_law_k", 9)]) rfl sc_counts.nd (pi_range1 rfl T.n_range (pa_cons pe_int pa_nil)) (blkOk_by (N := nm_counts) (sc := defScope s_counts) (by decide +kernel)) (fun _ _ _ _ _ => pg_name (i := 9) sc_counts.nd rfl (Or.inl rfl)) (fun _ _ _ _ _ => pts_nil) (fun _ _ _ _ _ => (pe_call G_pick hr rfl T.g_pick T.F_pick.kp (b_pick T) .nil pass0 (pa_cons (pv 0) (pa_cons (pv 7) pa_nil))))) pa_nil))))))))))), ?_⟩
    have hp := tb.1
    have h5 := tb.2.1
    have t0 := tb.2.2.1
    have t5 := tb.2.2.2
    have x0 := W.tup hp
    have c0 : t.count true ≤ 5000 := Nat.le_trans List.count_le_length t5
    have c1 : h.count true ≤ 5000 := Nat.le_trans List.count_le_length h5
    simp only [B_1]
    walk_at "go"
    rw [B_count]
    walk_at "go"
    rw [B_count]
    walk_at "go"
    intro p1 np1
    generalize hU1 : upd H p1 _ = H1
    obtain ⟨s1, W1, ap1⟩ := new_of W np1 hU1
    have x1 := x0.go (Go.of s1)
    have hp1 := x1.at_
    have ap1' := ap1.at_
    walk_at "go"
    intro q1 nq1
    generalize hU2 : upd H1 q1 _ = H2
    obtain ⟨s2, W2, aq1⟩ := new_of W1 nq1 hU2
    walk_at "go"
    intro q2 nq2
    generalize hU3 : upd H2 q2 _ = H3
    obtain ⟨s3, W3, aq2⟩ := new_of W2 nq2 hU3
    walk_at "go"
    refine ⟨w, g, _, rfl, W3, by omega, by omega, fun d1 H4 s4 W4 d10 d11 => ?_⟩
    walk_at "go"
    refine ⟨w, g, _, rfl, W4, by omega, by omega, fun d2 H5 s5 W5 d20 d21 => ?_⟩
    walk_at "go"
    refine ⟨w, g, rfl, W5, fun d3 H6 s6 W6 d30 d31 => ?_⟩
    walk_at "go"
    refine ⟨w, g, rfl, W6, fun d4 H7 s7 W7 d40 d41 => ?_⟩
    walk_at "go"
    intro q3 nq3
    generalize hU8 : upd H7 q3 _ = H8
    obtain ⟨s8, W8, aq3⟩ := new_of W7 nq3 hU8
    have g8 : Go w g H3 H8 := (((s4.trans s5).trans s6).trans s7).trans (Go.of s8)
    have aq1a := (aq1.go (Go.of s3)).go g8
    have aq2a := aq2.go g8
    have hq1 := aq1a.at_
    have hq2 := aq2a.at_
    have hq3 := aq3.at_
    walk_at "go"
    refine ⟨q1, q3, _, _, rfl, rfl, hq1, hq3, szl (by simp), fun q4 nq4 => ?_⟩
    generalize hU9 : upd H8 q4 _ = H9
    obtain ⟨s9, W9, aq4⟩ := new_of W8 nq4 hU9
    walk_at "go"
    refine ⟨q2, q3, _, _, rfl, rfl, s9 _ _ hq2, s9 _ _ hq3, szl (by simp), fun q5 nq5 => ?_⟩
    generalize hU10 : upd H9 q5 _ = H10
    obtain ⟨s10, W10, aq5⟩ := new_of W9 nq5 hU10
    walk_at "go"
    intro q6 nq6
    generalize hU11 : upd H10 q6 _ = H11
    obtain ⟨s11, W11, aq6⟩ := new_of W10 nq6 hU11
    refine ⟨q5, q6, _, _, rfl, rfl, s11 _ _ aq5.at_, aq6.at_, szl (by simp), fun q7 nq7 => ?_⟩
    generalize hU12 : upd H11 q7 _ = H12
    obtain ⟨s12, W12, aq7⟩ := new_of W11 nq7 hU12
    walk_at "go"
    intro p2 np2
    generalize hU13 : upd H12 p2 _ = H13
    obtain ⟨s13, W13, ap2⟩ := new_of W12 np2 hU13
    have ap2' := ap2.at_
    have aq4a := (((aq4.go (Go.of s10)).go (Go.of s11)).go (Go.of s12)).go (Go.of s13)
    have aq7a := aq7.go (Go.of s13)
    generalize e4 : HO.lst _ = L4 at aq4a
    generalize e7 : HO.lst _ = L7 at aq7a
    have p18 : (10 : Int) ^ Int.toNat 18 = 1000000000000000000 := by decide
    have k4 : ∃ xs : List Int, L4 = .lst (xs.map V.int) ∧ 0 < xs.length ∧ xs.length ≤ 40 ∧ ∀ z ∈ xs, 0 ≤ z ∧ z ≤ 10 ^ 19 := by
      refine ⟨[0, 1, if (h.length : Int) - 1 > 0 then (h.length : Int) - 1 else 0, (h.length : Int), (h.length : Int) + 1, (h.length : Int) + t.length - 1, (h.length : Int) + t.length, (h.length : Int) + 2 * t.length + 1, 10 ^ Int.toNat 18, 10 ^ Int.toNat 18 - 1, 10 ^ Int.toNat 18 + 1] ++ [d1, d2, d3, d4], e4.symm, by simp, by simp, fun z hz => ?_⟩
      rw [p18] at hz
      simp only [List.cons_append, List.nil_append, List.mem_cons, List.not_mem_nil, or_false] at hz
      rcases hz with rfl | rfl | rfl | rfl | rfl | rfl | rfl | rfl | rfl | rfl | rfl | rfl | rfl | rfl | rfl
      all_goals first | omega | (split <;> omega)
    have k7 : ∃ xs : List Int, L7 = .lst (xs.map V.int) ∧ 0 < xs.length ∧ xs.length ≤ 40 ∧ ∀ z ∈ xs, 0 ≤ z ∧ z ≤ 10 ^ 19 := by
      refine ⟨[0, 1, if (h.count true : Int) - 1 > 0 then (h.count true : Int) - 1 else 0, (h.count true : Int), (h.count true : Int) + 1, (h.count true : Int) + t.count true, (h.count true : Int) + 2 * t.count true, 10 ^ Int.toNat 18, 10 ^ Int.toNat 18 - 1] ++ [d1, d2, d3, d4] ++ [10 ^ Int.toNat 18 + 1], e7.symm.trans (by simp only [List.map_append, List.map_cons, List.map_nil]), by simp, by simp, fun z hz => ?_⟩
      rw [p18] at hz
      simp only [List.cons_append, List.nil_append, List.mem_cons, List.not_mem_nil, or_false] at hz
      rcases hz with rfl | rfl | rfl | rfl | rfl | rfl | rfl | rfl | rfl | rfl | rfl | rfl | rfl | rfl
      all_goals first | omega | (split <;> omega)
    obtain ⟨xs, rfl, lx0, lx, hx⟩ := k4
    obtain ⟨ys, rfl, ly0, ly, hy⟩ := k7
    have go13 : Go w g H H13 := ((((((((Go.of s1).trans (Go.of s2)).trans (Go.of s3)).trans g8).trans (Go.of s9)).trans (Go.of s10)).trans (Go.of s11)).trans (Go.of s12)).trans (Go.of s13)
    clear e4 e7
    walk_at "go"
    refine ifD (fun c => ?_) (fun c => ?_)
    · walk_at "go"
      intro r nr
      generalize hU14 : upd H13 r _ = H14
      obtain ⟨s14, W14, ar⟩ := new_of W13 nr hU14
      exact q r q4 q7 xs ys H14 (go13.trans (Go.of s14)) W14 ar (aq4a.go (Go.of s14)) (aq7a.go (Go.of s14)) hx hy
    · refine ⟨_, rfl, ?_⟩
      walk_at "go"
      intro D nD
      refine lc_range (lo := 0) (n := 4) (fun j H' => ∃ ms : List Int, H' D = some (.lst (ms.map V.int)) ∧ ms.length = j ∧ Go w g H13 H' ∧ WellAt w g H' ∧ ∀ z ∈ ms, 0 ≤ z ∧ z ≤ 10 ^ 19) ⟨[], upd_same, rfl, Go.of (same_new nD), W13.same (same_new nD), fun z hz => by cases hz⟩ (fun j H' hj px => ?_) (fun H' px => ?_)
      · obtain ⟨ms, hD, hml, S, W', hms⟩ := px
        refine ⟨rfl, ?_⟩
        walk_at "go"
        refine ⟨w, g, q4, _, rfl, W', aq4a.go S, by rw [List.length_map]; exact lx0, by rw [List.length_map]; omega, fun x H4' mx s4' W4' => ?_⟩
        exact put_on nD W13 hD hml (by omega) S s4' W4' hms hx mx
      · obtain ⟨ms, hD, hml, S, W', hms⟩ := px
        have fD := W13.fresh nD
        have aD : At w g H' D (.lst (ms.map V.int)) := ⟨fD.1, fD.2, hD⟩
        walk_at "go"
        intro D2 nD2
        refine lc_range (lo := 0) (n := 4) (fun j H2' => ∃ ms : List Int, H2' D2 = some (.lst (ms.map V.int)) ∧ ms.length = j ∧ Go w g H' H2' ∧ WellAt w g H2' ∧ ∀ z ∈ ms, 0 ≤ z ∧ z ≤ 10 ^ 19) ⟨[], upd_same, rfl, Go.of (same_new nD2), W'.same (same_new nD2), fun z hz => by cases hz⟩ (fun j H2' hj px => ?_) (fun H2' px => ?_)
        · obtain ⟨ms2, hD2, hml2, S2, W2', hms2⟩ := px
          refine ⟨rfl, ?_⟩
          walk_at "go"
          refine ⟨w, g, q7, _, rfl, W2', (aq7a.go S).go S2, by rw [List.length_map]; exact ly0, by rw [List.length_map]; omega, fun x H4' mx s4' W4' => ?_⟩
          exact put_on nD2 W' hD2 hml2 (by omega) S2 s4' W4' hms2 hy mx
        · obtain ⟨ms2, hD2, hml2, S2, W2', hms2⟩ := px
          have fD2 := W'.fresh nD2
          have aD2 : At w g H2' D2 (.lst (ms2.map V.int)) := ⟨fD2.1, fD2.2, hD2⟩
          walk_at "go"
          intro r nr
          generalize hU14 : upd H2' r _ = H14
          obtain ⟨s14, W14, ar⟩ := new_of W2' nr hU14
          exact q r D D2 ms ms2 H14 (((go13.trans S).trans S2).trans (Go.of s14)) W14 ar ((aD.go S2).go (Go.of s14)) (aD2.go (Go.of s14)) hms hms2
end
set_option pp.deepTerms false
set_option pp.deepTerms.threshold 6
section
variable {P : Program} {wd : World} {K : PySem.W.Frag} {mg : Str → Option Value} {base : Heap} (T : Tp K mg)
theorem kth_leaf {h t : List Bool} {n : Int} {v : V} (n0 : 0 ≤ n) (n1 : n ≤ 10 ^ 24) (kv : KthV h t n v) : Leaf v := by
  rcases kv with ⟨rfl, _⟩ | ⟨k, rfl, _, kb⟩
  · exact leaf_non
  · exact leaf_int (by omega) (by omega)
/-- one place, one answer -/
theorem kth_one {h t : List Bool} {n : Int} {v v' : V} (n0 : 0 ≤ n) (a : KthV h t n v) (b : KthV h t n v') : v = v' := by
  have no : ∀ {k : Nat}, t.count true = 0 → (h.count true : Int) ≤ n → ¬ IsK (sg h t) n.toNat k := fun {k} z hc ik => by
    have := no_more (h := h) (t := t) (n := k) z (by rw [ik.many]; omega) k (Nat.le_refl _)
    rw [ik.told] at this
    cases this
  rcases a with ⟨rfl, z, hc⟩ | ⟨k, rfl, ik, _⟩
  · rcases b with ⟨rfl, _⟩ | ⟨k', rfl, ik', _⟩
    · rfl
    · exact absurd ik' (no z hc)
  · rcases b with ⟨rfl, z, hc⟩ | ⟨k', rfl, ik', _⟩
    · exact absurd ik (no z hc)
    · rw [ik.uniq ik']
def spAreNext : Sp := fun vs H Q _ => ∃ (p : Addr) (h t : List Bool) (n c : Int) (v : V), vs = [.ref p, .int n, .int c, v] ∧ Tab H p h t ∧ 0 ≤ c ∧ c ≤ 10 ^ 20 ∧ KthV h t c v ∧ ∀ H', Same H H' → Q (.bl true) H'
theorem ok_arenext : FnOk P wd K mg base CX0 4 T.a_arenext T.d_arenext ["_law_x", "_law_n", "_law_due", "_law_found"] spAreNext := by
  have G_isfound : FnOk P wd K mg base CX0 2 T.a_isfound T.d_isfound ["_law_x", "_law_n", "_law_count", "_law_thing"] spFound := ok_isfound T
  have G_kth : FnOk P wd K mg base CX0 2 T.a_kth T.d_kth ["table", "place"] spKth := ok_kth T
  have G_nextfrom : FnOk P wd K mg base CX0 3 T.a_nextfrom T.d_nextfrom ["table", "number"] spNext := ok_nextfrom T
  refine T.F_arenext.ok sc_arenext (fun vs H Q E h => ?_) (fun cdv A outer s H vs Q E hr h => ?_)
  · obtain ⟨p, h, t, n, c, v, rfl, _⟩ := h
    rfl
  · obtain ⟨p, h, t, n, c, v, rfl, tb, c0, c1, kv, q⟩ := h
    refine ⟨_, (pss_cons (ps_for PassesOwn.never rfl (pi_range1 rfl T.n_range (pa_cons pe_int pa_nil)) (pg_name (i := 4) sc_arenext.nd rfl (Or.inl rfl)) (pss_one (ps_if (PW.pt (pw_and (pt_cmpR op_notN (pv 3) pe_non (nomark _)) (pw_and1 (pt_cmpR op_lt (pv 3) (pe_op op_pow pe_int pe_int) (nomark _))))) (pss_cons (ps_set (i := 1) sc_arenext.nd rfl (Or.inl rfl) (pe_op op_add (pv 3) pe_int))
      (pss_cons (ps_set (i := 3) sc_arenext.nd rfl (Or.inl rfl) (pe_call G_nextfrom hr rfl T.g_nextfrom T.F_nextfrom.kp (b_nextfrom T) .nil pass0 (pa_cons (pv 0) (pa_cons (pv 1) pa_nil))))
      (pss_one (ps_if (PW.pt (pw_or (pt_not (pt_val (pe_call G_isfound (hr.mono (by decide)) rfl T.g_isfound T.F_isfound.kp (b_isfound T) .nil pass0 (pa_cons (pv 0) (pa_cons (pv 1) (pa_cons (pe_op op_add (pe_op op_add (pv 2) (pv 4)) pe_int) (pa_cons (pv 3) pa_nil))))))) (pw_or1 (pt_cmpR op_ne (pe_callB call_reprO rfl T.n_repr (by decide +kernel) (pa_cons (pe_call G_kth (hr.mono (by decide)) rfl T.g_kth T.F_kth.kp (b_kth T) .nil pass0 (pa_cons (pv 0) (pa_cons (pe_op op_add (pe_op op_add (pv 2) (pv 4)) pe_int) pa_nil))) pa_nil)) (pe_callB call_reprO rfl T.n_repr (by decide +kernel) (pa_cons (pv 3) pa_nil)) (nomark _))))) (pss_one (ps_ret pe_bl)) pss_nil)))) pss_nil)))
      (pss_one (ps_ret pe_bl))), ?_⟩
    walk_at "go"
    refine for_range (lo := 0) (n := 3) (fun i σ H2 => ∃ (m : Int) (u : V) (y4 : Option V), σ = [some (.ref p), some (.int m), some (.int c), some u, y4] ∧ Same H H2 ∧ (u = .non ∨ KthV h t (c + i) u ∨ ∃ k : Nat, u = .int (k : Nat) ∧ ¬ (k : Int) < 1000000000000000000))
      ⟨n, v, none, rfl, Same.rfl', .inr (.inl (by rw [show c + ((0 : Nat) : Int) = c by omega]; exact kv))⟩ (fun i σ H2 hi px => ?_) (fun σ H2 px => ?_)
    · obtain ⟨m, u, y4, rfl, S, hu⟩ := px
      have tb2 := tb.same S
      have p18 : (10 : Int) ^ Int.toNat 18 = 1000000000000000000 := by decide
      rcases hu with rfl | ku | ⟨k, eu, big⟩
      · walk_at "go"
        exact .inl rfl
      · rcases id ku with ⟨rfl, _⟩ | ⟨k, eu, ik, kb⟩
        · walk_at "go"
          exact .inl rfl
        · obtain ⟨z, hz⟩ : ∃ z : Int, (k : Int) = z := ⟨_, rfl⟩
          rw [hz] at eu
          subst eu
          walk_at "go"
          rw [p18]
          refine ifD (fun lt => ?_) (fun nlt => ?_)
          · have ck : (cn (sg h t) (z + 1).toNat : Int) = c + i + 1 := by
              rw [show (z + 1).toNat = k + 1 by omega, cn_told ik.told, ik.many]
              omega
            walk_at "go"
            refine ⟨p, h, t, z + 1, rfl, tb2, by omega, by omega, fun v3 H3 s3 kv3 => ?_⟩
            have fd := found_next (by omega) (by omega) kv3
            rw [ck] at kv3 fd
            have tb3 := tb2.same s3
            walk_at "go"
            refine ⟨p, h, t, _, _, v3, rfl, tb3, by omega, by rw [Int.zero_add]; exact fd, fun H4 s4 => ?_⟩
            walk_at "go"
            refine ⟨p, h, t, _, rfl, tb3.same s4, by omega, by omega, fun v5 H5 s5 kv5 => ?_⟩
            rw [Int.zero_add] at kv5
            have e5 := kth_one (by omega) kv5 kv3
            have lf := kth_leaf (by omega) (by omega) kv3
            rw [e5]
            walk_at "go"
            refine ifDn (fun c => absurd rfl c) (fun _ => ?_)
            refine ⟨_, _, _, rfl, ((S.trans s3).trans s4).trans s5, .inr (.inl ?_)⟩
            rw [show c + ((i + 1 : Nat) : Int) = c + i + 1 by omega]
            exact kv3
          · refine ifF (A := True) ?_
            exact ⟨_, _, _, rfl, S, .inr (.inr ⟨k, by rw [hz], by rw [hz]; exact nlt⟩)⟩
      · obtain ⟨z, hz⟩ : ∃ z : Int, (k : Int) = z := ⟨_, rfl⟩
        rw [hz] at eu big
        subst eu
        walk_at "go"
        rw [p18]
        refine ifD (fun lt => ?_) (fun nlt => ?_)
        · exact absurd lt big
        · refine ifF (A := True) ?_
          exact ⟨_, _, _, rfl, S, .inr (.inr ⟨k, by rw [hz], by rw [hz]; exact big⟩)⟩
    · obtain ⟨m, u, y4, rfl, S, hu⟩ := px
      walk_at "go"
      exact q H2 S
end
set_option pp.deepTerms false
set_option pp.deepTerms.threshold 5
section
variable {P : Program} {wd : World} {K : PySem.W.Frag} {mg : Str → Option Value} {base : Heap} (T : Tp K mg)
theorem kb_below_number_table : KBinds K T.d_below ["table", "number"] ["number", "table"] swapW swapW := by
  obtain ⟨oc, od, kV, doc, pm, an, cdv, ct, osl, e, lk, hcd⟩ := T.F_below.ex
  rw [e]
  exact kbinds_swap fun a b => rfl
theorem kb_nextfrom_number_table : KBinds K T.d_nextfrom ["table", "number"] ["number", "table"] swapW swapW := by
  obtain ⟨oc, od, kV, doc, pm, an, cdv, ct, osl, e, lk, hcd⟩ := T.F_nextfrom.ex
  rw [e]
  exact kbinds_swap fun a b => rfl
theorem kb_kth_place_table : KBinds K T.d_kth ["table", "place"] ["place", "table"] swapW swapW := by
  obtain ⟨oc, od, kV, doc, pm, an, cdv, ct, osl, e, lk, hcd⟩ := T.F_kth.ex
  rw [e]
  exact kbinds_swap fun a b => rfl
theorem Tab.go {w g p : Addr} {H H' : Hp} {h t : List Bool} (x : Tab H p h t) (W : WellAt w g H) (s : Go w g H H') : Tab H' p h t := ⟨((W.tup x.1).go s).at_, x.2⟩
@[irreducible] def dNN (x y : Int) : PyData := .list [.int x, .int y]
theorem repr_nn {K : PySem.W.Frag} {H : Hp} {R : PyData → Prop} {a : Addr} {x y : Int} (e : H a = some (.lst [.int x, .int y])) (hx : 0 ≤ x ∧ x < 10 ^ 30) (hy : 0 ≤ y ∧ y < 10 ^ 30) (q : R (dNN x y)) :
    ∃ (a' : Addr) (d' : PyData), [V.ref a] = [V.ref a'] ∧ Dp K H (.ref a') d' ∧ d'.showable = true ∧ d'.hasDict = false ∧ d'.depth ≤ 60 ∧ d'.shown.length ≤ sizeLine ∧ R d' := by
  unfold dNN at q
  exact repr_nums [.int x, .int y] e (.cons (.int _) (.cons (.int _) .nil)) (List.forall_mem_cons.mpr ⟨.inr ⟨x, rfl, hx.1, hx.2⟩, List.forall_mem_cons.mpr ⟨.inr ⟨y, rfl, hy.1, hy.2⟩, fun _ z => by cases z⟩⟩) (by simp) q
theorem p18n : (10 : Int) ^ Int.toNat 18 = 1000000000000000000 := by decide
abbrev hE : List Bool := [true, false, false, true, false, true, true, false]
theorem e_bel : bel hE [true] 8 = 4 := by decide
theorem e_k4 : KthV hE [true] 4 (.int 8) := .inr ⟨8, rfl, ⟨by decide, by decide⟩, by decide⟩
theorem e_k18 : KthV hE [true] 1000000000000000000 (.int 1000000000000000004) := by
  have c := cn_turn (h := hE) (t := [true]) (q := 999999999999999996) (r := 0) (by decide) (by decide)
  have e : hE.length + 999999999999999996 * [true].length + 0 = 1000000000000000004 := by
    simp only [List.length_cons, List.length_nil]
  have e2 : hE.count true = 4 := by decide
  have e3 : [true].count true = 1 := by decide
  have e4 : (([true] : List Bool).take 0).count true = 0 := by decide
  rw [e, e2, e3, e4] at c
  refine .inr ⟨1000000000000000004, rfl, ⟨?_, ?_⟩, by omega⟩
  · rw [sg_turn (by simp only [List.length_cons, List.length_nil]; omega)]
    have e5 : [true].length = 1 := rfl
    rw [e5, Nat.mod_one]
    rfl
  · rw [c]
    rfl
theorem e_n1 : KthV hE [true] (cn (sg hE [true]) (1 : Int).toNat : Nat) (.int 3) := .inr ⟨3, rfl, ⟨by decide, by decide⟩, by decide⟩
theorem e_n2 : KthV [true] [false] (cn (sg [true] [false]) (1 : Int).toNat : Nat) .non := .inl ⟨rfl, by decide, by decide⟩
theorem e_k0 : KthV [] [false] 0 .non := .inl ⟨rfl, by decide, by decide⟩
@[irreducible] def dEnd : PyData := .list [.int 4, .int 8, .int 1000000000000000004, .int 3, .none, .none]
theorem repr_end {K : PySem.W.Frag} {H : Hp} {R : PyData → Prop} {a : Addr} (e : H a = some (.lst [.int 4, .int 8, .int 1000000000000000004, .int 3, .non, .non])) (q : R dEnd) :
    ∃ (a' : Addr) (d' : PyData), [V.ref a] = [V.ref a'] ∧ Dp K H (.ref a') d' ∧ d'.showable = true ∧ d'.hasDict = false ∧ d'.depth ≤ 60 ∧ d'.shown.length ≤ sizeLine ∧ R d' := by
  unfold dEnd at q
  refine repr_nums [.int 4, .int 8, .int 1000000000000000004, .int 3, .none, .none] e (.cons (.int _) (.cons (.int _) (.cons (.int _) (.cons (.int _) (.cons .non (.cons .non .nil)))))) ?_ (by simp) q
  intro d hd
  simp only [List.mem_cons, List.not_mem_nil, or_false] at hd
  rcases hd with rfl | rfl | rfl | rfl | rfl | rfl
  · exact .inr ⟨_, rfl, by omega, by omega⟩
  · exact .inr ⟨_, rfl, by omega, by omega⟩
  · exact .inr ⟨_, rfl, by omega, by omega⟩
  · exact .inr ⟨_, rfl, by omega, by omega⟩
  · exact .inl rfl
  · exact .inl rfl
theorem L_10010110 : Str.ofString "10010110" = B [true, false, false, true, false, true, true, false] := by decide +kernel
def spLaw (K : PySem.W.Frag) : Sp := fun vs H Q _ => ∃ (a : Addr) (ns : List Int), vs = [.ref a] ∧ SqL K H a (ns.map V.int) ∧ ns.length ≤ 63 ∧ ∀ H', Q (.bl true) H'
theorem ok_law : FnG P wd K mg base 5 T.a_law T.d_law ["_law_script"] (spLaw K) := by
  have G_well : FnOk P wd K mg base CX0 1 T.a_well T.d_well ["_law_script"] (spWell K) := ok_well T
  have G_draw : FnOk P wd K mg base CX0 1 T.a_draw T.d_draw ["_law_well_here", "_law_size"] spDraw := ok_draw T
  have G_pick : FnOk P wd K mg base CX0 2 T.a_pick T.d_pick ["_law_well_here", "_law_items"] spPick := ok_pick T
  have G_word : FnOk P wd K mg base CX0 3 T.a_word T.d_word ["_law_well_here", "_law_size"] spBits := ok_word T
  have G_table : FnOk P wd K mg base CX0 4 T.a_table T.d_table ["_law_well_here", "_law_tall", "_law_wide"] spTable := ok_table T
  have G_great : FnOk P wd K mg base CX0 4 T.a_great T.d_great ["_law_well_here"] spGreat := ok_great T
  have G_written : FnOk P wd K mg base CX0 2 T.a_written T.d_written ["_law_well_here", "_law_x", "_law_more"] spWritten := ok_written T
  have G_counts : FnOk P wd K mg base CX0 3 T.a_counts T.d_counts ["_law_well_here", "_law_x"] spCounts := ok_counts T
  have G_lbelow : FnOk P wd K mg base CX0 1 T.a_lbelow T.d_lbelow ["_law_x", "_law_n"] spBelow := ok_lbelow T
  have G_below : FnOk P wd K mg base CX0 1 T.a_below T.d_below ["table", "number"] spBelow := ok_below T
  have G_kth : FnOk P wd K mg base CX0 2 T.a_kth T.d_kth ["table", "place"] spKth := ok_kth T
  have G_nextfrom : FnOk P wd K mg base CX0 3 T.a_nextfrom T.d_nextfrom ["table", "number"] spNext := ok_nextfrom T
  have G_isfound : FnOk P wd K mg base CX0 2 T.a_isfound T.d_isfound ["_law_x", "_law_n", "_law_count", "_law_thing"] spFound := ok_isfound T
  have G_isplace : FnOk P wd K mg base CX0 3 T.a_isplace T.d_isplace ["_law_x", "_law_place_of", "_law_thing"] spIsPlace := ok_isplace T
  have G_arenext : FnOk P wd K mg base CX0 4 T.a_arenext T.d_arenext ["_law_x", "_law_n", "_law_due", "_law_found"] spAreNext := ok_arenext T
  refine fnG_of T.F_law sc_law (fun vs H Q E h => ?_) (fun cdv A ou s H vs Q E hgd0 hr h => ?_)
  · obtain ⟨a, ns, rfl, _⟩ := h
    rfl
  · have hgd : (cxOf CX0 P wd K mg base nm_law "law" (defScope s_law) T.a_law cdv A ou s H E).nox.A.guards = some [] := hgd0
    have hu4 : (cxOf CX0 P wd K mg base nm_law "law" (defScope s_law) T.a_law cdv A ou s H E).nox.A.units + 64 < cLine := hr.units
    obtain ⟨a, ns, rfl, hS, hl, q⟩ := h
    refine ⟨_, (pss_cons (ps_set (i := 1) sc_law.nd rfl (Or.inl rfl) (pe_call G_well (hr.mono (by decide)) rfl T.g_well T.F_well.kp (b_well T) .nil pass0 (pa_cons (pv 0) pa_nil)))
      (pss_cons (ps_for PassesOwn.never rfl (pi_range1 rfl T.n_range (pa_cons pe_int pa_nil)) (pg_name (i := 2) sc_law.nd rfl (Or.inl rfl)) (pss_cons (ps_set (i := 3) sc_law.nd rfl (Or.inl rfl) (pe_call G_table hr rfl T.g_table T.F_table.kp (b_table T) .nil pass0 (pa_cons (pv 1) (pa_cons (pe_call G_pick (hr.mono (by decide)) rfl T.g_pick T.F_pick.kp (b_pick T) .nil pass0 (pa_cons (pv 1) (pa_cons (pe_lst (pa_cons pe_int (pa_cons pe_int (pa_cons pe_int pa_nil)))) pa_nil))) (pa_cons (pe_call G_pick (hr.mono (by decide)) rfl T.g_pick T.F_pick.kp (b_pick T) .nil pass0 (pa_cons (pv 1) (pa_cons (pe_lst (pa_cons pe_int (pa_cons pe_int (pa_cons pe_int pa_nil)))) pa_nil))) pa_nil)))))
      (C8.pss_cut (ps_if (pt_cmpR op_eq (pv 2) pe_int (nomark _)) (pss_one (ps_set (i := 3) sc_law.nd rfl (Or.inl rfl) (pe_tup (pa_cons (pe_call G_word (hr.mono (by decide)) rfl T.g_word T.F_word.kp (b_word T) .nil pass0 (pa_cons (pv 1) (pa_cons (pe_call G_draw (hr.mono (by decide)) rfl T.g_draw T.F_draw.kp (b_draw T) .nil pass0 (pa_cons (pv 1) (pa_cons pe_int pa_nil))) pa_nil))) (pa_cons pe_str pa_nil))))) pss_nil)
      (C8.pss_cut (ps_set (i := 3) sc_law.nd rfl (Or.inl rfl) (pe_ifExp (pt_cmpR op_lt (pv 2) pe_int (nomark _)) (pe_call G_written (hr.mono (by decide)) rfl T.g_written T.F_written.kp (b_written T) .nil pass0 (pa_cons (pv 1) (pa_cons (pv 3) (pa_cons (pe_call G_pick (hr.mono (by decide)) rfl T.g_pick T.F_pick.kp (b_pick T) .nil pass0 (pa_cons (pv 1) (pa_cons (pe_lst (pa_cons pe_int (pa_cons pe_int (pa_cons pe_int (pa_cons pe_int pa_nil))))) pa_nil))) pa_nil)))) (pe_call G_great hr rfl T.g_great T.F_great.kp (b_great T) .nil pass0 (pa_cons (pv 1) pa_nil))))
      (pss_cons (ps_set (i := 4) sc_law.nd rfl (Or.inl rfl) (pe_call G_counts (hr.mono (by decide)) rfl T.g_counts T.F_counts.kp (b_counts T) .nil pass0 (pa_cons (pv 1) (pa_cons (pv 3) pa_nil))))
      (pss_cons (ps_for PassesOwn.never rfl (pi_list (pe_ix ix_list (pv 4) pe_int (fun _ _ => rfl))) (pg_name (i := 5) sc_law.nd rfl (Or.inl rfl)) (pss_cons (ps_par (i := 6) (j := 7) rfl sc_law.nd rfl rfl (by decide) rfl rfl (pa_cons (pe_call G_lbelow (hr.mono (by decide)) rfl T.g_lbelow T.F_lbelow.kp (b_lbelow T) .nil pass0 (pa_cons (pv 3) (pa_cons (pv 5) pa_nil))) (pa_cons (pe_call G_nextfrom (hr.mono (by decide)) rfl T.g_nextfrom T.F_nextfrom.kp (b_nextfrom T) .nil pass0 (pa_cons (pv 3) (pa_cons (pv 5) pa_nil))) pa_nil)) rfl)
      (pss_cons (ps_if (pt_cmpR op_ne (pe_callB (call_reprD hgd hu4) rfl T.n_repr (by decide +kernel) (pa_cons (pe_lst (pa_cons (pe_call G_below (hr.mono (by decide)) rfl T.g_below T.F_below.kp (b_below T) .nil pass0 (pa_cons (pv 3) (pa_cons (pv 5) pa_nil))) (pa_cons (pe_callK0 G_below (hr.mono (by decide)) rfl T.g_below T.F_below.kp (kb_below_number_table T) pass0 (pk_cons (pv 5) (pk_cons (pv 3) pk_nil))) pa_nil))) pa_nil)) (pe_callB (call_reprD hgd hu4) rfl T.n_repr (by decide +kernel) (pa_cons (pe_lst (pa_cons (pv 6) (pa_cons (pv 6) pa_nil))) pa_nil)) (nomark _)) (pss_one (ps_ret pe_bl)) pss_nil)
      (pss_cons (ps_if (PW.pt (pw_or (pt_not (pt_val (pe_call G_isfound (hr.mono (by decide)) rfl T.g_isfound T.F_isfound.kp (b_isfound T) .nil pass0 (pa_cons (pv 3) (pa_cons (pv 5) (pa_cons (pv 6) (pa_cons (pv 7) pa_nil))))))) (pw_or1 (pt_cmpR op_ne (pe_callB call_reprO rfl T.n_repr (by decide +kernel) (pa_cons (pe_callK0 G_nextfrom (hr.mono (by decide)) rfl T.g_nextfrom T.F_nextfrom.kp (kb_nextfrom_number_table T) pass0 (pk_cons (pv 5) (pk_cons (pv 3) pk_nil))) pa_nil)) (pe_callB call_reprO rfl T.n_repr (by decide +kernel) (pa_cons (pv 7) pa_nil)) (nomark _))))) (pss_one (ps_ret pe_bl)) pss_nil)
      (pss_one (ps_if (PW.pt (pw_or (pt_cmpR op_ne (pe_callB call_reprO rfl T.n_repr (by decide +kernel) (pa_cons (pe_call G_kth (hr.mono (by decide)) rfl T.g_kth T.F_kth.kp (b_kth T) .nil pass0 (pa_cons (pv 3) (pa_cons (pv 6) pa_nil))) pa_nil)) (pe_callB call_reprO rfl T.n_repr (by decide +kernel) (pa_cons (pv 7) pa_nil)) (nomark _)) (pw_or1 (pt_not (pt_val (pe_call G_arenext hr rfl T.g_arenext T.F_arenext.kp (b_arenext T) .nil pass0 (pa_cons (pv 3) (pa_cons (pv 5) (pa_cons (pv 6) (pa_cons (pv 7) pa_nil)))))))))) (pss_one (ps_ret pe_bl)) pss_nil))))))
      (pss_one (ps_for PassesOwn.never rfl (pi_list (pe_ix ix_list (pv 4) pe_int (fun _ _ => rfl))) (pg_name (i := 5) sc_law.nd rfl (Or.inl rfl)) (pss_cons (ps_set (i := 7) sc_law.nd rfl (Or.inl rfl) (pe_call G_kth (hr.mono (by decide)) rfl T.g_kth T.F_kth.kp (b_kth T) .nil pass0 (pa_cons (pv 3) (pa_cons (pv 5) pa_nil))))
      (pss_cons (ps_if (PW.pt (pw_or (pt_not (pt_val (pe_call G_isplace (hr.mono (by decide)) rfl T.g_isplace T.F_isplace.kp (b_isplace T) .nil pass0 (pa_cons (pv 3) (pa_cons (pv 5) (pa_cons (pv 7) pa_nil)))))) (pw_or1 (pt_cmpR op_ne (pe_callB call_reprO rfl T.n_repr (by decide +kernel) (pa_cons (pe_callK0 G_kth (hr.mono (by decide)) rfl T.g_kth T.F_kth.kp (kb_kth_place_table T) pass0 (pk_cons (pv 5) (pk_cons (pv 3) pk_nil))) pa_nil)) (pe_callB call_reprO rfl T.n_repr (by decide +kernel) (pa_cons (pv 7) pa_nil)) (nomark _))))) (pss_one (ps_ret pe_bl)) pss_nil)
      (pss_one (ps_if (PW.pt (pw_and (pt_cmpR op_notN (pv 7) pe_non (nomark _)) (pw_and1 (pt_cmpR op_le (pv 7) (pe_op op_pow pe_int pe_int) (nomark _))))) (pss_one (ps_if (pt_cmpR op_ne (pe_callB (call_reprD hgd hu4) rfl T.n_repr (by decide +kernel) (pa_cons (pe_lst (pa_cons (pe_call G_below (hr.mono (by decide)) rfl T.g_below T.F_below.kp (b_below T) .nil pass0 (pa_cons (pv 3) (pa_cons (pv 7) pa_nil))) (pa_cons (pe_call G_nextfrom (hr.mono (by decide)) rfl T.g_nextfrom T.F_nextfrom.kp (b_nextfrom T) .nil pass0 (pa_cons (pv 3) (pa_cons (pv 7) pa_nil))) pa_nil))) pa_nil)) (pe_callB (call_reprD hgd hu4) rfl T.n_repr (by decide +kernel) (pa_cons (pe_lst (pa_cons (pv 5) (pa_cons (pv 7) pa_nil))) pa_nil)) (nomark _)) (pss_one (ps_ret pe_bl)) pss_nil)) pss_nil))))))))))))
      (pss_cons (ps_set (i := 3) sc_law.nd rfl (Or.inl rfl) (pe_tup (pa_cons pe_str (pa_cons pe_str pa_nil))))
      (pss_cons (ps_set (i := 8) sc_law.nd rfl (Or.inl rfl) (pe_lst (pa_cons (pe_call G_below (hr.mono (by decide)) rfl T.g_below T.F_below.kp (b_below T) .nil pass0 (pa_cons (pv 3) (pa_cons pe_int pa_nil))) (pa_cons (pe_call G_kth (hr.mono (by decide)) rfl T.g_kth T.F_kth.kp (b_kth T) .nil pass0 (pa_cons (pv 3) (pa_cons pe_int pa_nil))) (pa_cons (pe_call G_kth (hr.mono (by decide)) rfl T.g_kth T.F_kth.kp (b_kth T) .nil pass0 (pa_cons (pv 3) (pa_cons (pe_op op_pow pe_int pe_int) pa_nil))) (pa_cons (pe_call G_nextfrom (hr.mono (by decide)) rfl T.g_nextfrom T.F_nextfrom.kp (b_nextfrom T) .nil pass0 (pa_cons (pv 3) (pa_cons pe_int pa_nil))) (pa_cons (pe_call G_nextfrom (hr.mono (by decide)) rfl T.g_nextfrom T.F_nextfrom.kp (b_nextfrom T) .nil pass0 (pa_cons (pe_tup (pa_cons pe_str (pa_cons pe_str pa_nil))) (pa_cons pe_int pa_nil))) (pa_cons (pe_call G_kth (hr.mono (by decide)) rfl T.g_kth T.F_kth.kp (b_kth T) .nil pass0 (pa_cons (pe_tup (pa_cons pe_str (pa_cons pe_str pa_nil))) (pa_cons pe_int pa_nil))) pa_nil))))))))
      (pss_one (ps_ret (pe_cmpR op_eq (pe_callB (call_reprD hgd hu4) rfl T.n_repr (by decide +kernel) (pa_cons (pv 8) pa_nil)) (pe_callB (call_reprD hgd hu4) rfl T.n_repr (by decide +kernel) (pa_cons (pe_lst (pa_cons pe_int (pa_cons pe_int (pa_cons (pe_op op_add (pe_op op_pow pe_int pe_int) pe_int) (pa_cons pe_int (pa_cons pe_non (pa_cons pe_non pa_nil))))))) pa_nil)) (nomark _)))))))), ?_⟩
    walk_at "go"
    refine ⟨a, ns, rfl, hS, hl, fun w g H1 s1 W1 => ?_⟩
    walk_at "go"
    refine for_range (lo := 0) (n := 8) (fun i σ H2 => ∃ y2 y3 y4 y5 y6 y7 y8 : Option V, σ = [some (.ref a), some (.ref w), y2, y3, y4, y5, y6, y7, y8] ∧ WellAt w g H2)
      ⟨_, _, _, _, _, _, _, rfl, W1⟩ (fun i σ H2 hi px => ?_) (fun σ H2 px => ?_)
    · obtain ⟨y2, y3, y4, y5, y6, y7, y8, rfl, W2⟩ := px
      walk_at "go"
      intro p1 np1
      generalize hU1 : upd H2 p1 _ = H3
      obtain ⟨s3, W3, ap1⟩ := new_of W2 np1 hU1
      refine ⟨w, g, p1, _, rfl, W3, ap1, by simp, by simp, fun x H4 mx s4 W4 => ?_⟩
      obtain ⟨j, mj, rfl⟩ := mem_ints (ns := [0, 3, 12]) rfl mx
      have j01 : 0 ≤ j ∧ j ≤ 12 := by
        simp at mj
        omega
      walk_at "go"
      intro p2 np2
      generalize hU2 : upd H4 p2 _ = H5
      obtain ⟨s5, W5, ap2⟩ := new_of W4 np2 hU2
      refine ⟨w, g, p2, _, rfl, W5, ap2, by simp, by simp, fun x H6 mx s6 W6 => ?_⟩
      obtain ⟨k, mk, rfl⟩ := mem_ints (ns := [1, 4, 12]) rfl mx
      have k01 : 1 ≤ k ∧ k ≤ 12 := by
        simp at mk
        omega
      refine ⟨w, g, j, k, rfl, W6, j01.1, by omega, k01.1, by omega, fun p H7 h t s7 W7 tb _ _ => ?_⟩
      simp only [B_0]
      refine ⟨fun σ' H' => ∃ (p : Addr) (h t : List Bool), σ' = [some (.ref a), some (.ref w), some (.int (0 + (i : Int))), some (.ref p), y4, y5, y6, y7, y8] ∧ WellAt w g H' ∧ Tab H' p h t, ?_, ?_⟩
      · walk_at "go"
        refine ifD (fun e6 => ?_) (fun n6 => ?_)
        · walk_at "go"
          refine ⟨w, g, _, rfl, W7, by omega, by omega, fun d H8 s8 W8 d0 d1 => ?_⟩
          walk_at "go"
          refine ⟨w, g, _, rfl, W8, by omega, by omega, fun l H9 s9 W9 hl => ?_⟩
          walk_at "go"
          intro p3 np3
          generalize hU3 : upd H9 p3 _ = H10
          obtain ⟨s10, W10, ap3⟩ := new_of W9 np3 hU3
          exact ⟨p3, l, [false], rfl, W10, ⟨ap3.at_, by omega, by decide, by decide⟩⟩
        · exact ⟨p, h, t, rfl, W7, tb⟩
      · rintro σ' H8 ⟨p, h, t, rfl, W8, tb8⟩
        refine ⟨fun σ' H' => ∃ (p : Addr) (h t : List Bool), σ' = [some (.ref a), some (.ref w), some (.int (0 + (i : Int))), some (.ref p), y4, y5, y6, y7, y8] ∧ WellAt w g H' ∧ Tab H' p h t, ?_, ?_⟩
        · walk_at "go"
          refine ifD (fun lt => ?_) (fun nlt => ?_)
          · walk_at "go"
            intro p4 np4
            generalize hU4 : upd H8 p4 _ = H9
            obtain ⟨s9, W9, ap4⟩ := new_of W8 np4 hU4
            refine ⟨w, g, p4, _, rfl, W9, ap4, by simp, by simp, fun x H10 mx s10 W10 => ?_⟩
            obtain ⟨m, mm, rfl⟩ := mem_ints (ns := [1, 6, 6, 5000]) rfl mx
            have m01 : 1 ≤ m ∧ m ≤ 5000 := by
              simp at mm
              omega
            refine ⟨w, g, p, h, t, m, rfl, W10, (tb8.same s9).go W9 s10, m01.1, m01.2, fun py H11 L k s11 W11 k1 ty => ?_⟩
            exact ⟨py, _, _, rfl, W11, ty⟩
          · walk_at "go"
            refine ⟨w, g, rfl, W8, fun p H9 h t s9 W9 tb9 _ _ => ?_⟩
            exact ⟨p, h, t, rfl, W9, tb9⟩
        · rintro σ' H9 ⟨p, h, t, rfl, W9, tx⟩
          walk_at "go"
          refine ⟨w, g, p, h, t, rfl, W9, tx, fun r ra rb xs ys H10 s10 W10 ar aa ab hx hy => ?_⟩
          have tx10 := tx.go W9 s10
          have har := ar.at_
          walk_at "go"
          refine ⟨⟨_, aa.sqL⟩, ?_⟩
          refine for_list (xs := xs.map V.int) (fun j σ H11 => ∃ y5 y6 y7 y8 : Option V, σ = [some (.ref a), some (.ref w), some (.int (0 + (i : Int))), some (.ref p), some (.ref r), y5, y6, y7, y8] ∧
            WellAt w g H11 ∧ Go w g H10 H11) ⟨_, _, _, _, rfl, W10, Go.refl⟩ (fun j σ H11 _ px => ?_) (fun j v σ H11 hv px => ?_) (fun σ H11 px => ?_)
          · obtain ⟨_, _, _, _, _, _, S⟩ := px
            exact (aa.go S).sqL
          · obtain ⟨y5, y6, y7, y8, rfl, W11, S11⟩ := px
            obtain ⟨z, hz, rfl⟩ := mem_ints (x := v) (ns := xs) rfl (List.mem_of_getElem? hv)
            have z01 := hx z hz
            have tx11 := tx10.go W10 S11
            have eb := bel_cn (h := h) tx.2.2.1 z01.1
            have cl := cn_le (sg h t) z.toNat
            have fd := fun v => found_next (h := h) (t := t) (n := z) (v := v) z01.1 (by omega)
            generalize ec : cn (sg h t) z.toNat = c at eb cl fd
            walk_at "go"
            refine ⟨p, h, t, z, rfl, tx11, z01.1, by omega, fun H12 s12 => ?_⟩
            rw [eb]
            walk_at "go"
            refine ⟨p, h, t, z, rfl, tx11.same s12, z01.1, by omega, fun v H13 s13 kv => ?_⟩
            have tx13 := (tx11.same s12).same s13
            have W13 := (W11.same s12).same s13
            rw [ec] at kv
            have lf := kth_leaf (by omega) (by omega) kv
            replace fd := fd v kv
            walk_at "go"
            refine ⟨p, h, t, z, rfl, tx13, z01.1, by omega, fun H14 s14 => ?_⟩
            rw [eb]
            have tx14 := tx13.same s14
            walk_at "go"
            refine ⟨p, h, t, z, rfl, tx14, z01.1, by omega, fun H15 s15 => ?_⟩
            rw [eb]
            have tx15 := tx14.same s15
            have W15 := (W13.same s14).same s15
            walk_at "go"
            intro l1 nl1
            generalize hV1 : upd H15 l1 _ = H16
            obtain ⟨s16, W16, al1⟩ := new_of W15 nl1 hV1
            have tx16 := tx15.same s16
            refine repr_nn al1.at_ ⟨by omega, by omega⟩ ⟨by omega, by omega⟩ ?_
            walk_at "go"
            intro l2 nl2
            generalize hV2 : upd H16 l2 _ = H17
            obtain ⟨s17, W17, al2⟩ := new_of W16 nl2 hV2
            have tx17 := tx16.same s17
            refine repr_nn al2.at_ ⟨by omega, by omega⟩ ⟨by omega, by omega⟩ ?_
            walk_at "go"
            refine ifDn (fun c => absurd rfl c) (fun _ => ?_)
            walk_at "go"
            refine ⟨p, h, t, z, _, v, rfl, tx17, z01.1, fd, fun H18 s18 => ?_⟩
            have tx18 := tx17.same s18
            have W18 := W17.same s18
            walk_at "go"
            refine ⟨p, h, t, z, rfl, tx18, z01.1, by omega, fun v2 H19 s19 kv2 => ?_⟩
            rw [ec] at kv2
            obtain rfl := kth_one (by omega) kv2 kv
            have tx19 := tx18.same s19
            have W19 := W18.same s19
            walk_at "go"
            refine ifDn (fun c => absurd rfl c) (fun _ => ?_)
            walk_at "go"
            refine ⟨p, h, t, c, rfl, tx19, by omega, by omega, fun v3 H20 s20 kv3 => ?_⟩
            obtain rfl := kth_one (by omega) kv3 kv
            have tx20 := tx19.same s20
            have W20 := W19.same s20
            walk_at "go"
            refine ifDn (fun c => absurd rfl c) (fun _ => ?_)
            walk_at "go"
            refine ⟨p, h, t, z, c, _, rfl, tx20, by omega, by omega, kv, fun H21 s21 => ?_⟩
            have W21 := W20.same s21
            walk_at "go"
            refine ⟨_, _, _, _, rfl, W21, S11.trans ((((((((((Go.of s12).trans (Go.of s13)).trans (Go.of s14)).trans (Go.of s15)).trans (Go.of s16)).trans (Go.of s17)).trans (Go.of s18)).trans (Go.of s19)).trans (Go.of s20)).trans (Go.of s21))⟩
          · obtain ⟨y5, y6, y7, y8, rfl, W11, S11⟩ := px
            have har11 := (ar.go S11).at_
            have tx11 := tx10.go W10 S11
            have ab11 := ab.go S11
            walk_at "go"
            refine ⟨⟨_, ab11.sqL⟩, ?_⟩
            refine for_list (xs := ys.map V.int) (fun j σ H12 => ∃ y5 y6 y7 y8 : Option V, σ = [some (.ref a), some (.ref w), some (.int (0 + (i : Int))), some (.ref p), some (.ref r), y5, y6, y7, y8] ∧
              WellAt w g H12 ∧ Go w g H11 H12) ⟨_, _, _, _, rfl, W11, Go.refl⟩ (fun j σ H12 _ px => ?_) (fun j v σ H12 hv px => ?_) (fun σ H12 px => ?_)
            · obtain ⟨_, _, _, _, _, _, S⟩ := px
              exact (ab11.go S).sqL
            · obtain ⟨y5, y6, y7, y8, rfl, W12, S12⟩ := px
              obtain ⟨z, hz, rfl⟩ := mem_ints (x := v) (ns := ys) rfl (List.mem_of_getElem? hv)
              have z01 := hy z hz
              have tx12 := tx11.go W11 S12
              walk_at "go"
              refine ⟨p, h, t, z, rfl, tx12, z01.1, by omega, fun v H13 s13 kv => ?_⟩
              have tx13 := tx12.same s13
              have W13 := W12.same s13
              have lf := kth_leaf (by omega) (by omega) kv
              walk_at "go"
              refine ⟨p, h, t, z, _, rfl, tx13, z01.1, by omega, kv, fun H14 s14 => ?_⟩
              have tx14 := tx13.same s14
              have W14 := W13.same s14
              walk_at "go"
              refine ⟨p, h, t, z, rfl, tx14, z01.1, by omega, fun v2 H15 s15 kv2 => ?_⟩
              obtain rfl := kth_one (by omega) kv2 kv
              have tx15 := tx14.same s15
              have W15 := W14.same s15
              walk_at "go"
              refine ifDn (fun c => absurd rfl c) (fun _ => ?_)
              walk_at "go"
              rcases id kv with ⟨rfl, _⟩ | ⟨k, ev, ik, kb⟩
              · walk_at "go"
                exact ⟨_, _, _, _, rfl, W15, S12.trans (((Go.of s13).trans (Go.of s14)).trans (Go.of s15))⟩
              · obtain ⟨u, hu⟩ : ∃ u : Int, (k : Int) = u := ⟨_, rfl⟩
                rw [hu] at ev
                subst ev
                have p18 : (10 : Int) ^ Int.toNat 18 = 1000000000000000000 := by decide
                have tk : u.toNat = k := by omega
                walk_at "go"
                rw [p18]
                refine ifD (fun le => ?_) (fun nle => ?_)
                · walk_at "go"
                  have ebu : bel h t u = z := by
                    rw [bel_cn tx.2.2.1 (by omega), tk, ik.many]
                    omega
                  refine ⟨p, h, t, u, rfl, tx15, by omega, by omega, fun H16 s16 => ?_⟩
                  rw [ebu]
                  have tx16 := tx15.same s16
                  walk_at "go"
                  refine ⟨p, h, t, u, rfl, tx16, by omega, by omega, fun v4 H17 s17 kv4 => ?_⟩
                  rw [tk, ik.many, Int.toNat_of_nonneg z01.1] at kv4
                  obtain rfl := kth_one (by omega) kv kv4
                  have W17 := (W15.same s16).same s17
                  walk_at "go"
                  intro l1 nl1
                  generalize hV1 : upd H17 l1 _ = H18
                  obtain ⟨s18, W18, al1⟩ := new_of W17 nl1 hV1
                  refine repr_nn al1.at_ ⟨by omega, by omega⟩ ⟨by omega, by omega⟩ ?_
                  walk_at "go"
                  intro l2 nl2
                  generalize hV2 : upd H18 l2 _ = H19
                  obtain ⟨s19, W19, al2⟩ := new_of W18 nl2 hV2
                  refine repr_nn al2.at_ ⟨by omega, by omega⟩ ⟨by omega, by omega⟩ ?_
                  walk_at "go"
                  refine ifDn (fun c => absurd rfl c) (fun _ => ?_)
                  exact ⟨_, _, _, _, rfl, W19, S12.trans (((((((Go.of s13).trans (Go.of s14)).trans (Go.of s15)).trans (Go.of s16)).trans (Go.of s17)).trans (Go.of s18)).trans (Go.of s19))⟩
                · refine ifF (A := True) ?_
                  exact ⟨_, _, _, _, rfl, W15, S12.trans (((Go.of s13).trans (Go.of s14)).trans (Go.of s15))⟩
            · obtain ⟨y5, y6, y7, y8, rfl, W12, S12⟩ := px
              exact ⟨_, _, _, _, _, _, _, rfl, W12⟩
    · obtain ⟨y2, y3, y4, y5, y6, y7, y8, rfl, W2⟩ := px
      simp only [B_0, B_1, B_nil, L_10010110]
      walk_at "go"
      intro p1 np1
      generalize hU1 : upd H2 p1 _ = H3
      obtain ⟨s3, ap1⟩ := new_of0 np1 hU1
      have tx : Tab H3 p1 [true, false, false, true, false, true, true, false] [true] := ⟨ap1, by decide, by decide, by decide⟩
      walk_at "go"
      refine ⟨p1, _, _, 8, rfl, tx, by omega, by omega, fun H4 s4 => ?_⟩
      have tx4 := tx.same s4
      rw [e_bel]
      walk_at "go"
      refine ⟨p1, _, _, 4, rfl, tx4, by omega, by omega, fun v1 H5 s5 kv1 => ?_⟩
      obtain rfl := kth_one (by omega) kv1 e_k4
      have tx5 := tx4.same s5
      walk_at "go"
      refine ⟨p1, _, _, 10 ^ Int.toNat 18, rfl, tx5, by decide, by decide, fun v2 H6 s6 kv2 => ?_⟩
      rw [p18n] at kv2
      obtain rfl := kth_one (by omega) kv2 e_k18
      have tx6 := tx5.same s6
      walk_at "go"
      refine ⟨p1, _, _, 1, rfl, tx6, by omega, by omega, fun v3 H7 s7 kv3 => ?_⟩
      obtain rfl := kth_one (by omega) kv3 e_n1
      walk_at "go"
      intro p2 np2
      generalize hU2 : upd H7 p2 _ = H8
      obtain ⟨s8, ap2⟩ := new_of0 np2 hU2
      have ty : Tab H8 p2 [true] [false] := ⟨ap2, by decide, by decide, by decide⟩
      refine ⟨p2, _, _, 1, rfl, ty, by omega, by omega, fun v4 H9 s9 kv4 => ?_⟩
      obtain rfl := kth_one (by omega) kv4 e_n2
      walk_at "go"
      intro p3 np3
      generalize hU3 : upd H9 p3 _ = H10
      obtain ⟨s10, ap3⟩ := new_of0 np3 hU3
      have tz : Tab H10 p3 [] [false] := ⟨ap3, by decide, by decide, by decide⟩
      refine ⟨p3, _, _, 0, rfl, tz, by omega, by omega, fun v5 H11 s11 kv5 => ?_⟩
      obtain rfl := kth_one (by omega) kv5 e_k0
      walk_at "go"
      intro l1 nl1
      generalize hV1 : upd H11 l1 _ = H12
      obtain ⟨s12, al1⟩ := new_of0 nl1 hV1
      walk_at "go"
      refine repr_end al1 ?_
      walk_at "go"
      dsimp only
      rw [p18n]
      intro l2 nl2
      generalize hV2 : upd H12 l2 _ = H13
      obtain ⟨s13, al2⟩ := new_of0 nl2 hV2
      refine repr_end al2 ?_
      walk_at "go"
      rw [decide_eq_true rfl]
      exact q H13
end
theorem all_mk {l : PySem.W.OpenLaw} {w : World} {K : PySem.W.Frag} {h : Heap} {mg : Str → Option Value} {fa : Addr} (X : K.In h) (G : h.Ns mainGlobals mg) (hfa : mg "law" = some (.ref fa))
    {f_below : Addr} {od_below an_below : Option Addr} {sl_below : Array (Option Value)} {oc_below kV_below dc_below pm_below cd_below ct_below : Value}
    {f_kth : Addr} {od_kth an_kth : Option Addr} {sl_kth : Array (Option Value)} {oc_kth kV_kth dc_kth pm_kth cd_kth ct_kth : Value}
    {f_places : Addr} {od_places an_places : Option Addr} {sl_places : Array (Option Value)} {oc_places kV_places dc_places pm_places cd_places ct_places : Value}
    {f_nextfrom : Addr} {od_nextfrom an_nextfrom : Option Addr} {sl_nextfrom : Array (Option Value)} {oc_nextfrom kV_nextfrom dc_nextfrom pm_nextfrom cd_nextfrom ct_nextfrom : Value}
    {f_well : Addr} {od_well an_well : Option Addr} {sl_well : Array (Option Value)} {oc_well kV_well dc_well pm_well cd_well ct_well : Value}
    {f_draw : Addr} {od_draw an_draw : Option Addr} {sl_draw : Array (Option Value)} {oc_draw kV_draw dc_draw pm_draw cd_draw ct_draw : Value}
    {f_pick : Addr} {od_pick an_pick : Option Addr} {sl_pick : Array (Option Value)} {oc_pick kV_pick dc_pick pm_pick cd_pick ct_pick : Value}
    {f_far : Addr} {od_far an_far : Option Addr} {sl_far : Array (Option Value)} {oc_far kV_far dc_far pm_far cd_far ct_far : Value}
    {f_bits : Addr} {od_bits an_bits : Option Addr} {sl_bits : Array (Option Value)} {oc_bits kV_bits dc_bits pm_bits cd_bits ct_bits : Value}
    {f_word : Addr} {od_word an_word : Option Addr} {sl_word : Array (Option Value)} {oc_word kV_word dc_word pm_word cd_word ct_word : Value}
    {f_table : Addr} {od_table an_table : Option Addr} {sl_table : Array (Option Value)} {oc_table kV_table dc_table pm_table cd_table ct_table : Value}
    {f_written : Addr} {od_written an_written : Option Addr} {sl_written : Array (Option Value)} {oc_written kV_written dc_written pm_written cd_written ct_written : Value}
    {f_sign : Addr} {od_sign an_sign : Option Addr} {sl_sign : Array (Option Value)} {oc_sign kV_sign dc_sign pm_sign cd_sign ct_sign : Value}
    {f_lbelow : Addr} {od_lbelow an_lbelow : Option Addr} {sl_lbelow : Array (Option Value)} {oc_lbelow kV_lbelow dc_lbelow pm_lbelow cd_lbelow ct_lbelow : Value}
    {f_left : Addr} {od_left an_left : Option Addr} {sl_left : Array (Option Value)} {oc_left kV_left dc_left pm_left cd_left ct_left : Value}
    {f_isfound : Addr} {od_isfound an_isfound : Option Addr} {sl_isfound : Array (Option Value)} {oc_isfound kV_isfound dc_isfound pm_isfound cd_isfound ct_isfound : Value}
    {f_isplace : Addr} {od_isplace an_isplace : Option Addr} {sl_isplace : Array (Option Value)} {oc_isplace kV_isplace dc_isplace pm_isplace cd_isplace ct_isplace : Value}
    {f_great : Addr} {od_great an_great : Option Addr} {sl_great : Array (Option Value)} {oc_great kV_great dc_great pm_great cd_great ct_great : Value}
    {f_counts : Addr} {od_counts an_counts : Option Addr} {sl_counts : Array (Option Value)} {oc_counts kV_counts dc_counts pm_counts cd_counts ct_counts : Value}
    {f_arenext : Addr} {od_arenext an_arenext : Option Addr} {sl_arenext : Array (Option Value)} {oc_arenext kV_arenext dc_arenext pm_arenext cd_arenext ct_arenext : Value}
    {f_law : Addr} {od_law an_law : Option Addr} {sl_law : Array (Option Value)} {oc_law kV_law dc_law pm_law cd_law ct_law : Value}
    (a_below : PySem.W.nsIn K mainGlobals "below" = some (some (.ref f_below)))
    (l_below : K.lookup f_below = some ⟨oc_below, od_below, .func (PySem.W.fnOf "below" "below" (defArgs s_below) (defBody s_below) (defScope s_below) .none kV_below dc_below pm_below an_below cd_below ct_below), sl_below⟩)
    (c_below : PySem.W.codeIn K cd_below "below" = true) (k_below : PySem.W.keepIn K (.ref f_below) = true)
    (a_kth : PySem.W.nsIn K mainGlobals "kth" = some (some (.ref f_kth)))
    (l_kth : K.lookup f_kth = some ⟨oc_kth, od_kth, .func (PySem.W.fnOf "kth" "kth" (defArgs s_kth) (defBody s_kth) (defScope s_kth) .none kV_kth dc_kth pm_kth an_kth cd_kth ct_kth), sl_kth⟩)
    (c_kth : PySem.W.codeIn K cd_kth "kth" = true) (k_kth : PySem.W.keepIn K (.ref f_kth) = true)
    (a_places : PySem.W.nsIn K mainGlobals "_told_places" = some (some (.ref f_places)))
    (l_places : K.lookup f_places = some ⟨oc_places, od_places, .func (PySem.W.fnOf "_told_places" "_told_places" (defArgs s_places) (defBody s_places) (defScope s_places) .none kV_places dc_places pm_places an_places cd_places ct_places), sl_places⟩)
    (c_places : PySem.W.codeIn K cd_places "_told_places" = true) (k_places : PySem.W.keepIn K (.ref f_places) = true)
    (a_nextfrom : PySem.W.nsIn K mainGlobals "next_from" = some (some (.ref f_nextfrom)))
    (l_nextfrom : K.lookup f_nextfrom = some ⟨oc_nextfrom, od_nextfrom, .func (PySem.W.fnOf "next_from" "next_from" (defArgs s_nextfrom) (defBody s_nextfrom) (defScope s_nextfrom) .none kV_nextfrom dc_nextfrom pm_nextfrom an_nextfrom cd_nextfrom ct_nextfrom), sl_nextfrom⟩)
    (c_nextfrom : PySem.W.codeIn K cd_nextfrom "next_from" = true) (k_nextfrom : PySem.W.keepIn K (.ref f_nextfrom) = true)
    (a_well : PySem.W.nsIn K mainGlobals "_law_well" = some (some (.ref f_well)))
    (l_well : K.lookup f_well = some ⟨oc_well, od_well, .func (PySem.W.fnOf "_law_well" "_law_well" (defArgs s_well) (defBody s_well) (defScope s_well) .none kV_well dc_well pm_well an_well cd_well ct_well), sl_well⟩)
    (c_well : PySem.W.codeIn K cd_well "_law_well" = true) (k_well : PySem.W.keepIn K (.ref f_well) = true)
    (a_draw : PySem.W.nsIn K mainGlobals "_law_draw" = some (some (.ref f_draw)))
    (l_draw : K.lookup f_draw = some ⟨oc_draw, od_draw, .func (PySem.W.fnOf "_law_draw" "_law_draw" (defArgs s_draw) (defBody s_draw) (defScope s_draw) .none kV_draw dc_draw pm_draw an_draw cd_draw ct_draw), sl_draw⟩)
    (c_draw : PySem.W.codeIn K cd_draw "_law_draw" = true) (k_draw : PySem.W.keepIn K (.ref f_draw) = true)
    (a_pick : PySem.W.nsIn K mainGlobals "_law_pick" = some (some (.ref f_pick)))
    (l_pick : K.lookup f_pick = some ⟨oc_pick, od_pick, .func (PySem.W.fnOf "_law_pick" "_law_pick" (defArgs s_pick) (defBody s_pick) (defScope s_pick) .none kV_pick dc_pick pm_pick an_pick cd_pick ct_pick), sl_pick⟩)
    (c_pick : PySem.W.codeIn K cd_pick "_law_pick" = true) (k_pick : PySem.W.keepIn K (.ref f_pick) = true)
    (a_far : PySem.W.nsIn K mainGlobals "_law_far" = some (some (.ref f_far)))
    (l_far : K.lookup f_far = some ⟨oc_far, od_far, .func (PySem.W.fnOf "_law_far" "_law_far" (defArgs s_far) (defBody s_far) (defScope s_far) .none kV_far dc_far pm_far an_far cd_far ct_far), sl_far⟩)
    (c_far : PySem.W.codeIn K cd_far "_law_far" = true) (k_far : PySem.W.keepIn K (.ref f_far) = true)
    (a_bits : PySem.W.nsIn K mainGlobals "_law_bits" = some (some (.ref f_bits)))
    (l_bits : K.lookup f_bits = some ⟨oc_bits, od_bits, .func (PySem.W.fnOf "_law_bits" "_law_bits" (defArgs s_bits) (defBody s_bits) (defScope s_bits) .none kV_bits dc_bits pm_bits an_bits cd_bits ct_bits), sl_bits⟩)
    (c_bits : PySem.W.codeIn K cd_bits "_law_bits" = true) (k_bits : PySem.W.keepIn K (.ref f_bits) = true)
    (a_word : PySem.W.nsIn K mainGlobals "_law_word" = some (some (.ref f_word)))
    (l_word : K.lookup f_word = some ⟨oc_word, od_word, .func (PySem.W.fnOf "_law_word" "_law_word" (defArgs s_word) (defBody s_word) (defScope s_word) .none kV_word dc_word pm_word an_word cd_word ct_word), sl_word⟩)
    (c_word : PySem.W.codeIn K cd_word "_law_word" = true) (k_word : PySem.W.keepIn K (.ref f_word) = true)
    (a_table : PySem.W.nsIn K mainGlobals "_law_table" = some (some (.ref f_table)))
    (l_table : K.lookup f_table = some ⟨oc_table, od_table, .func (PySem.W.fnOf "_law_table" "_law_table" (defArgs s_table) (defBody s_table) (defScope s_table) .none kV_table dc_table pm_table an_table cd_table ct_table), sl_table⟩)
    (c_table : PySem.W.codeIn K cd_table "_law_table" = true) (k_table : PySem.W.keepIn K (.ref f_table) = true)
    (a_written : PySem.W.nsIn K mainGlobals "_law_written" = some (some (.ref f_written)))
    (l_written : K.lookup f_written = some ⟨oc_written, od_written, .func (PySem.W.fnOf "_law_written" "_law_written" (defArgs s_written) (defBody s_written) (defScope s_written) .none kV_written dc_written pm_written an_written cd_written ct_written), sl_written⟩)
    (c_written : PySem.W.codeIn K cd_written "_law_written" = true) (k_written : PySem.W.keepIn K (.ref f_written) = true)
    (a_sign : PySem.W.nsIn K mainGlobals "_law_sign" = some (some (.ref f_sign)))
    (l_sign : K.lookup f_sign = some ⟨oc_sign, od_sign, .func (PySem.W.fnOf "_law_sign" "_law_sign" (defArgs s_sign) (defBody s_sign) (defScope s_sign) .none kV_sign dc_sign pm_sign an_sign cd_sign ct_sign), sl_sign⟩)
    (c_sign : PySem.W.codeIn K cd_sign "_law_sign" = true) (k_sign : PySem.W.keepIn K (.ref f_sign) = true)
    (a_lbelow : PySem.W.nsIn K mainGlobals "_law_below" = some (some (.ref f_lbelow)))
    (l_lbelow : K.lookup f_lbelow = some ⟨oc_lbelow, od_lbelow, .func (PySem.W.fnOf "_law_below" "_law_below" (defArgs s_lbelow) (defBody s_lbelow) (defScope s_lbelow) .none kV_lbelow dc_lbelow pm_lbelow an_lbelow cd_lbelow ct_lbelow), sl_lbelow⟩)
    (c_lbelow : PySem.W.codeIn K cd_lbelow "_law_below" = true) (k_lbelow : PySem.W.keepIn K (.ref f_lbelow) = true)
    (a_left : PySem.W.nsIn K mainGlobals "_law_left" = some (some (.ref f_left)))
    (l_left : K.lookup f_left = some ⟨oc_left, od_left, .func (PySem.W.fnOf "_law_left" "_law_left" (defArgs s_left) (defBody s_left) (defScope s_left) .none kV_left dc_left pm_left an_left cd_left ct_left), sl_left⟩)
    (c_left : PySem.W.codeIn K cd_left "_law_left" = true) (k_left : PySem.W.keepIn K (.ref f_left) = true)
    (a_isfound : PySem.W.nsIn K mainGlobals "_law_is_found" = some (some (.ref f_isfound)))
    (l_isfound : K.lookup f_isfound = some ⟨oc_isfound, od_isfound, .func (PySem.W.fnOf "_law_is_found" "_law_is_found" (defArgs s_isfound) (defBody s_isfound) (defScope s_isfound) .none kV_isfound dc_isfound pm_isfound an_isfound cd_isfound ct_isfound), sl_isfound⟩)
    (c_isfound : PySem.W.codeIn K cd_isfound "_law_is_found" = true) (k_isfound : PySem.W.keepIn K (.ref f_isfound) = true)
    (a_isplace : PySem.W.nsIn K mainGlobals "_law_is_place" = some (some (.ref f_isplace)))
    (l_isplace : K.lookup f_isplace = some ⟨oc_isplace, od_isplace, .func (PySem.W.fnOf "_law_is_place" "_law_is_place" (defArgs s_isplace) (defBody s_isplace) (defScope s_isplace) .none kV_isplace dc_isplace pm_isplace an_isplace cd_isplace ct_isplace), sl_isplace⟩)
    (c_isplace : PySem.W.codeIn K cd_isplace "_law_is_place" = true) (k_isplace : PySem.W.keepIn K (.ref f_isplace) = true)
    (a_great : PySem.W.nsIn K mainGlobals "_law_great" = some (some (.ref f_great)))
    (l_great : K.lookup f_great = some ⟨oc_great, od_great, .func (PySem.W.fnOf "_law_great" "_law_great" (defArgs s_great) (defBody s_great) (defScope s_great) .none kV_great dc_great pm_great an_great cd_great ct_great), sl_great⟩)
    (c_great : PySem.W.codeIn K cd_great "_law_great" = true) (k_great : PySem.W.keepIn K (.ref f_great) = true)
    (a_counts : PySem.W.nsIn K mainGlobals "_law_counts" = some (some (.ref f_counts)))
    (l_counts : K.lookup f_counts = some ⟨oc_counts, od_counts, .func (PySem.W.fnOf "_law_counts" "_law_counts" (defArgs s_counts) (defBody s_counts) (defScope s_counts) .none kV_counts dc_counts pm_counts an_counts cd_counts ct_counts), sl_counts⟩)
    (c_counts : PySem.W.codeIn K cd_counts "_law_counts" = true) (k_counts : PySem.W.keepIn K (.ref f_counts) = true)
    (a_arenext : PySem.W.nsIn K mainGlobals "_law_are_next" = some (some (.ref f_arenext)))
    (l_arenext : K.lookup f_arenext = some ⟨oc_arenext, od_arenext, .func (PySem.W.fnOf "_law_are_next" "_law_are_next" (defArgs s_arenext) (defBody s_arenext) (defScope s_arenext) .none kV_arenext dc_arenext pm_arenext an_arenext cd_arenext ct_arenext), sl_arenext⟩)
    (c_arenext : PySem.W.codeIn K cd_arenext "_law_are_next" = true) (k_arenext : PySem.W.keepIn K (.ref f_arenext) = true)
    (a_law : PySem.W.nsIn K mainGlobals "law" = some (some (.ref f_law)))
    (l_law : K.lookup f_law = some ⟨oc_law, od_law, .func (PySem.W.fnOf "law" "law" (defArgs s_law) (defBody s_law) (defScope s_law) .none kV_law dc_law pm_law an_law cd_law ct_law), sl_law⟩)
    (c_law : PySem.W.codeIn K cd_law "law" = true) (k_law : PySem.W.keepIn K (.ref f_law) = true)
    (z_abs : PySem.W.nsIn K mainGlobals "abs" = some none)
    (z_bool : PySem.W.nsIn K mainGlobals "bool" = some none)
    (z_divmod : PySem.W.nsIn K mainGlobals "divmod" = some none)
    (z_enumerate : PySem.W.nsIn K mainGlobals "enumerate" = some none)
    (z_int : PySem.W.nsIn K mainGlobals "int" = some none)
    (z_isinstance : PySem.W.nsIn K mainGlobals "isinstance" = some none)
    (z_len : PySem.W.nsIn K mainGlobals "len" = some none)
    (z_max : PySem.W.nsIn K mainGlobals "max" = some none)
    (z_min : PySem.W.nsIn K mainGlobals "min" = some none)
    (z_range : PySem.W.nsIn K mainGlobals "range" = some none)
    (z_repr : PySem.W.nsIn K mainGlobals "repr" = some none)
    (z_str : PySem.W.nsIn K mainGlobals "str" = some none)
    (z_sum : PySem.W.nsIn K mainGlobals "sum" = some none)
    : ∃ fd : FuncData, (∀ (s : Shared) (v : Value), BindsTo s fd ⟨[v], []⟩ [("_law_script", v)]) ∧ ∀ base : Heap, K.In base → base.Ns mainGlobals mg → FnG l.prog w K mg base 5 fa fd ["_law_script"] (spLaw K) := by
  have e := hfa.symm.trans (PySem.W.mg_of X G a_law)
  cases e
  let T : Tp K mg := {
    a_below := f_below, d_below := _, F_below := fun_mk (st := s_below) l_below c_below k_below, g_below := PySem.W.mg_of X G a_below,
    a_kth := f_kth, d_kth := _, F_kth := fun_mk (st := s_kth) l_kth c_kth k_kth, g_kth := PySem.W.mg_of X G a_kth,
    a_places := f_places, d_places := _, F_places := fun_mk (st := s_places) l_places c_places k_places, g_places := PySem.W.mg_of X G a_places,
    a_nextfrom := f_nextfrom, d_nextfrom := _, F_nextfrom := fun_mk (st := s_nextfrom) l_nextfrom c_nextfrom k_nextfrom, g_nextfrom := PySem.W.mg_of X G a_nextfrom,
    a_well := f_well, d_well := _, F_well := fun_mk (st := s_well) l_well c_well k_well, g_well := PySem.W.mg_of X G a_well,
    a_draw := f_draw, d_draw := _, F_draw := fun_mk (st := s_draw) l_draw c_draw k_draw, g_draw := PySem.W.mg_of X G a_draw,
    a_pick := f_pick, d_pick := _, F_pick := fun_mk (st := s_pick) l_pick c_pick k_pick, g_pick := PySem.W.mg_of X G a_pick,
    a_far := f_far, d_far := _, F_far := fun_mk (st := s_far) l_far c_far k_far, g_far := PySem.W.mg_of X G a_far,
    a_bits := f_bits, d_bits := _, F_bits := fun_mk (st := s_bits) l_bits c_bits k_bits, g_bits := PySem.W.mg_of X G a_bits,
    a_word := f_word, d_word := _, F_word := fun_mk (st := s_word) l_word c_word k_word, g_word := PySem.W.mg_of X G a_word,
    a_table := f_table, d_table := _, F_table := fun_mk (st := s_table) l_table c_table k_table, g_table := PySem.W.mg_of X G a_table,
    a_written := f_written, d_written := _, F_written := fun_mk (st := s_written) l_written c_written k_written, g_written := PySem.W.mg_of X G a_written,
    a_sign := f_sign, d_sign := _, F_sign := fun_mk (st := s_sign) l_sign c_sign k_sign, g_sign := PySem.W.mg_of X G a_sign,
    a_lbelow := f_lbelow, d_lbelow := _, F_lbelow := fun_mk (st := s_lbelow) l_lbelow c_lbelow k_lbelow, g_lbelow := PySem.W.mg_of X G a_lbelow,
    a_left := f_left, d_left := _, F_left := fun_mk (st := s_left) l_left c_left k_left, g_left := PySem.W.mg_of X G a_left,
    a_isfound := f_isfound, d_isfound := _, F_isfound := fun_mk (st := s_isfound) l_isfound c_isfound k_isfound, g_isfound := PySem.W.mg_of X G a_isfound,
    a_isplace := f_isplace, d_isplace := _, F_isplace := fun_mk (st := s_isplace) l_isplace c_isplace k_isplace, g_isplace := PySem.W.mg_of X G a_isplace,
    a_great := f_great, d_great := _, F_great := fun_mk (st := s_great) l_great c_great k_great, g_great := PySem.W.mg_of X G a_great,
    a_counts := f_counts, d_counts := _, F_counts := fun_mk (st := s_counts) l_counts c_counts k_counts, g_counts := PySem.W.mg_of X G a_counts,
    a_arenext := f_arenext, d_arenext := _, F_arenext := fun_mk (st := s_arenext) l_arenext c_arenext k_arenext, g_arenext := PySem.W.mg_of X G a_arenext,
    a_law := fa, d_law := _, F_law := fun_mk (st := s_law) l_law c_law k_law, g_law := PySem.W.mg_of X G a_law,
    n_abs := PySem.W.mg_none_of X G z_abs,
    n_bool := PySem.W.mg_none_of X G z_bool,
    n_divmod := PySem.W.mg_none_of X G z_divmod,
    n_enumerate := PySem.W.mg_none_of X G z_enumerate,
    n_int := PySem.W.mg_none_of X G z_int,
    n_isinstance := PySem.W.mg_none_of X G z_isinstance,
    n_len := PySem.W.mg_none_of X G z_len,
    n_max := PySem.W.mg_none_of X G z_max,
    n_min := PySem.W.mg_none_of X G z_min,
    n_range := PySem.W.mg_none_of X G z_range,
    n_repr := PySem.W.mg_none_of X G z_repr,
    n_str := PySem.W.mg_none_of X G z_str,
    n_sum := PySem.W.mg_none_of X G z_sum }
  exact ⟨T.d_law, fun s v => .of_eq rfl, fun base _ _ => ok_law T⟩
end G13
open PySem PySem.W PyProof.Rows
set_option maxHeartbeats 0 in
theorem PySem.Challenge.cw_leastmakers_k13_told_numbers_counted_holds : PySem.Challenge.rw_leastmakers_k13_told_numbers_counted.Holds := by
  w_on; o_law; k_head; (case hw => w_witness2)
  k_fill
  refine G1.walkG (l := PySem.Challenge.rw_leastmakers_k13_told_numbers_counted) (n := 63) (k := 5) (x := "_law_script") (sp := fun K => G13.spLaw K) rfl (by decide) rfl ⟨rfl, by decide, by decide⟩ (fun w h Y => PySem.W.kIn_of Y) ?F (fun K H a ns hl _ hS => ⟨a, ns, rfl, hS, hl, fun _ => rfl⟩)
  case F =>
    intro w mg fa h KX G hmg
    refine' G13.all_mk KX G hmg ?a_below ?l_below ?c_below ?k_below ?a_kth ?l_kth ?c_kth ?k_kth ?a_places ?l_places ?c_places ?k_places ?a_nextfrom ?l_nextfrom ?c_nextfrom ?k_nextfrom ?a_well ?l_well ?c_well ?k_well ?a_draw ?l_draw ?c_draw ?k_draw ?a_pick ?l_pick ?c_pick ?k_pick ?a_far ?l_far ?c_far ?k_far ?a_bits ?l_bits ?c_bits ?k_bits ?a_word ?l_word ?c_word ?k_word ?a_table ?l_table ?c_table ?k_table ?a_written ?l_written ?c_written ?k_written ?a_sign ?l_sign ?c_sign ?k_sign ?a_lbelow ?l_lbelow ?c_lbelow ?k_lbelow ?a_left ?l_left ?c_left ?k_left ?a_isfound ?l_isfound ?c_isfound ?k_isfound ?a_isplace ?l_isplace ?c_isplace ?k_isplace ?a_great ?l_great ?c_great ?k_great ?a_counts ?l_counts ?c_counts ?k_counts ?a_arenext ?l_arenext ?c_arenext ?k_arenext ?a_law ?l_law ?c_law ?k_law ?z_abs ?z_bool ?z_divmod ?z_enumerate ?z_int ?z_isinstance ?z_len ?z_max ?z_min ?z_range ?z_repr ?z_str ?z_sum
    (case a_below => k_is); (case l_below => k_is); (case c_below => k_is); (case k_below => k_is); (case a_kth => k_is); (case l_kth => k_is)
    (case c_kth => k_is); (case k_kth => k_is); (case a_places => k_is); (case l_places => k_is); (case c_places => k_is); (case k_places => k_is)
    (case a_nextfrom => k_is); (case l_nextfrom => k_is); (case c_nextfrom => k_is); (case k_nextfrom => k_is); (case a_well => k_is); (case l_well => k_is)
    (case c_well => k_is); (case k_well => k_is); (case a_draw => k_is); (case l_draw => k_is); (case c_draw => k_is); (case k_draw => k_is)
    (case a_pick => k_is); (case l_pick => k_is); (case c_pick => k_is); (case k_pick => k_is); (case a_far => k_is); (case l_far => k_is)
    (case c_far => k_is); (case k_far => k_is); (case a_bits => k_is); (case l_bits => k_is); (case c_bits => k_is); (case k_bits => k_is)
    (case a_word => k_is); (case l_word => k_is); (case c_word => k_is); (case k_word => k_is); (case a_table => k_is); (case l_table => k_is)
    (case c_table => k_is); (case k_table => k_is); (case a_written => k_is); (case l_written => k_is); (case c_written => k_is); (case k_written => k_is)
    (case a_sign => k_is); (case l_sign => k_is); (case c_sign => k_is); (case k_sign => k_is); (case a_lbelow => k_is); (case l_lbelow => k_is)
    (case c_lbelow => k_is); (case k_lbelow => k_is); (case a_left => k_is); (case l_left => k_is); (case c_left => k_is); (case k_left => k_is)
    (case a_isfound => k_is); (case l_isfound => k_is); (case c_isfound => k_is); (case k_isfound => k_is); (case a_isplace => k_is); (case l_isplace => k_is)
    (case c_isplace => k_is); (case k_isplace => k_is); (case a_great => k_is); (case l_great => k_is); (case c_great => k_is); (case k_great => k_is)
    (case a_counts => k_is); (case l_counts => k_is); (case c_counts => k_is); (case k_counts => k_is); (case a_arenext => k_is); (case l_arenext => k_is)
    (case c_arenext => k_is); (case k_arenext => k_is); (case a_law => k_is); (case l_law => k_is); (case c_law => k_is); (case k_law => k_is)
    (case z_abs => k_is); (case z_bool => k_is); (case z_divmod => k_is); (case z_enumerate => k_is); (case z_int => k_is); (case z_isinstance => k_is)
    (case z_len => k_is); (case z_max => k_is); (case z_min => k_is); (case z_range => k_is); (case z_repr => k_is); (case z_str => k_is)
    (case z_sum => k_is)
