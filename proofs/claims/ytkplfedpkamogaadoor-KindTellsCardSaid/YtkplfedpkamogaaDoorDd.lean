/- Calls at the top; loops by rounds; what a call leaves. Of no program; conditions: those that each statement names. -/
import Derived.Test.YtkplfedpkamogaaDoorDc
import Derived.Below
import Derived.LoopN

namespace Go.Proofs.De
open Go.RowKit

section
variable {X : Cx} {w : World} {ρ : Rho} {hp : List Ob}

theorem at_nil {et : TypeId} {wd i : Nat} {y : Ob} (h1 : (hp ++ [Ob.row et wd []])[i]? = some y) : hp[i]? = some y ∨ (i = hp.length ∧ y = .row et wd []) := by
  rw [List.getElem?_append] at h1
  split at h1
  · exact .inl h1
  · rename_i hn
    right
    have h2 : i - hp.length = 0 := by
      rcases Nat.eq_zero_or_pos (i - hp.length) with h | h
      · exact h
      · obtain ⟨k, hk⟩ : ∃ k, i - hp.length = k + 1 := ⟨i - hp.length - 1, by omega⟩
        rw [hk] at h1; cases h1
    rw [h2] at h1
    cases h1
    exact ⟨by omega, rfl⟩
theorem blk_nil {et : TypeId} {wd b : Nat} (h : Blk (ρ.upd hp.length (.slice none 0 0)) hp.length b (.row et wd [])) : False := by
  obtain ⟨v, h1, h2⟩ := h
  rw [Rho.upd_same] at h1
  cases h1
  cases h2
theorem key_nil {et : TypeId} {wd i b : Nat} {y : Ob} (h1 : (hp ++ [Ob.row et wd []])[i]? = some y) (h2 : Blk (ρ.upd hp.length (.slice none 0 0)) i b y) : hp[i]? = some y ∧ Blk ρ i b y := by
  rcases at_nil h1 with h | ⟨rfl, rfl⟩
  · refine ⟨h, (Blk_upd ?_).1 h2⟩
    have := (List.getElem?_eq_some_iff.1 h).1
    omega
  · exact (blk_nil h2).elim
theorem Own_nil {et : TypeId} {wd b : Nat} : Own (ρ.upd hp.length (.slice none 0 0)) (hp ++ [.row et wd []]) b ↔ Own ρ hp b := by
  constructor
  · rintro ⟨i, y, h1, h2⟩
    obtain ⟨k1, k2⟩ := key_nil h1 h2
    exact ⟨i, y, k1, k2⟩
  · rintro ⟨i, y, h1, h2⟩
    have hlt := (List.getElem?_eq_some_iff.1 h1).1
    exact ⟨i, y, by rw [List.getElem?_append_left hlt]; exact h1, (Blk_upd (by omega)).2 h2⟩
theorem own_nil {et : TypeId} {wd : Nat} : Own (ρ.upd hp.length (.slice none 0 0)) (hp ++ [.row et wd []]) = Own ρ hp := funext fun _ => propext Own_nil
theorem Hp.nil (h : Hp X w ρ hp) (et : TypeId) (wd : Nat) : Hp X w (ρ.upd hp.length (.slice none 0 0)) (hp ++ [.row et wd []]) := by
  have hle : ρ.le (ρ.upd hp.length (.slice none 0 0)) := Rho.le_upd (h.free _ (Nat.le_refl _)) _
  refine ⟨h.glob, h.ng, fun i v b h1 h2 => ?_, fun b k => h.low b (Own_nil.1 k), fun i j x y b a1 a2 b1 b2 => ?_, fun i y hi => ?_, fun i hi => ?_⟩
  · by_cases e : i = hp.length
    · subst e; rw [Rho.upd_same] at h1; cases h1; cases h2
    · rw [Rho.upd_ne _ _ e] at h1; exact h.lt i v b h1 h2
  · obtain ⟨k1, k2⟩ := key_nil a1 a2
    obtain ⟨k3, k4⟩ := key_nil b1 b2
    exact h.inj i j x y b k1 k2 k3 k4
  · rcases at_nil hi with hi | ⟨rfl, rfl⟩
    · refine ObRep.mono ⟨rfl, rfl, rfl, Nat.le_refl _, fun b _ hn => ⟨rfl, fun k => hn (Own_nil.1 k)⟩⟩ hle (fun _ _ => rfl) (fun v b e1 e2 => h.lt i v b e1 e2) (h.has i y hi)
    · exact ⟨_, [], Rho.upd_same _ _ _, ⟨(by simp), .inl ⟨rfl, rfl⟩⟩, fun i r hr => (by cases hr), fun u hu => (by cases hu)⟩
  · rw [List.length_append] at hi
    have hi' : hp.length + 1 ≤ i := hi
    rw [Rho.upd_ne _ _ (by omega)]
    exact h.free i (by omega)
end

/-- Slot k, in which there is nothing, as a row without parts. -/
theorem Weak.nil {X : Cx} {s : St} (k : Nat) (et : TypeId) (wd : Nat) (hk : nth s.env k = .lit (.slice none 0 0)) :
    Weak X s ⟨setN s.env k (.slc s.hp.length wd 0 0), s.hp ++ [.row et wd []], s.base⟩ := by
  rintro B a w ⟨ρ, r⟩
  have hfree := r.hp.free _ (Nat.le_refl _)
  have hle : ρ.le (ρ.upd s.hp.length (.slice none 0 0)) := Rho.le_upd hfree _
  have ht : Tr w (Own ρ s.hp) w (Own (ρ.upd s.hp.length (.slice none 0 0)) (s.hp ++ [.row et wd []])) := ⟨rfl, rfl, rfl, Nat.le_refl _, fun b _ hn => ⟨rfl, fun k => hn (Own_nil.1 k)⟩⟩
  refine ⟨ρ.upd s.hp.length (.slice none 0 0), r.hp.nil et wd, ?_, fun t c hc => ?_, r.defers, r.tr.trans ht, r.ext.trans hle, r.base, r.bfree⟩
  · simp only [setN_eq, List.length_set]; exact r.len
  · simp only [setN_eq] at hc
    by_cases e : k = t
    · subst e
      rw [List.getElem?_set, if_pos rfl] at hc
      split at hc
      · rename_i hlt
        cases hc
        rw [nth_eq, List.getElem?_eq_getElem hlt] at hk
        obtain ⟨u, e1, e2⟩ := r.env k _ (List.getElem?_eq_getElem hlt)
        simp only [Option.getD_some] at hk
        rw [hk] at e2
        obtain ⟨rfl, _⟩ := RepV_lit.1 e2
        refine ⟨_, e1, ?_⟩
        simp only [RepV, RepA, RepC, RepB]
        exact ⟨none, 0, 0, none, Rho.upd_same _ _ _, rfl, Nat.le_refl _, fun _ => rfl, fun h => absurd rfl h, fun _ => rfl, fun y hy => by cases hy⟩
      · cases hc
    · rw [List.getElem?_set, if_neg e] at hc
      obtain ⟨u, e1, e2⟩ := r.env t c hc
      exact ⟨u, e1, e2.mono ht hle⟩

/-- A call at the top: what it is handed lies in memory that was there before. -/
theorem PureCall.calls {X : Cx} {f : FuncId} {args : List AV} {r : AV} (h : PureCall X f args r) {w : World} (hg : X.G w) (hn : X.ng ≤ w.heap.size) {vs : Array Value} (hs : vs.size = args.length)
    (hv : ∀ (j : Nat) (c : AV), args[j]? = some c → ∃ u : Value, vs[j]? = some u ∧ RepV w (fun _ => False) (fun _ => none) c u) :
    Calls X.P f vs w fun e w' => ∃ v hp' ρ', e = .returned v ∧ Below w.heap.size w w' ∧ X.G w' ∧ Hp X w' ρ' hp' ∧ RepV w' (Own ρ' hp') ρ' r v := by
  have hown : Own (fun _ => none) [Ob.ext fun _ => none] = fun _ => False := by
    funext b
    refine propext ⟨?_, fun k => False.elim k⟩
    rintro ⟨i, x, h1, h2⟩
    cases i with
    | zero => cases h1; cases h2
    | succ i => cases h1
  have hhp : Hp X w (fun _ => none) [Ob.ext fun _ => none] := by
    refine ⟨hg, hn, fun i v b h => (by cases h), fun b h => ?_, fun i j x y b a1 a2 b1 b2 => ?_, fun i x hi => ?_, fun _ _ => rfl⟩
    · rw [hown] at h; exact h.elim
    · have : Own (fun _ => none) [Ob.ext fun _ => none] b := ⟨i, x, a1, a2⟩
      rw [hown] at this; exact this.elim
    · cases i with
      | zero => cases hi; exact fun b o e => by cases e
      | succ i => cases hi
  refine ((h fun _ => none).sim (fun _ => none) w vs hhp hs (fun j c hc => ?_)).mono ?_
  · rw [hown]; exact hv j c hc
  · rintro e w' ⟨v, c, hp', ρ', rfl, ⟨rfl, _⟩, h1, h2, _, h4⟩
    exact ⟨v, hp', ρ', rfl, ⟨h2.os, h2.tape, h2.output, h2.size, fun k hk => (h2.keep k hk (by rw [hown]; exact id)).1⟩, h1.glob, h1, h4⟩
theorem PureCall.calls_lit {X : Cx} {f : FuncId} {args : List AV} {v : Value} (h : PureCall X f args (.lit v)) {w : World} (hg : X.G w) (hn : X.ng ≤ w.heap.size) {vs : Array Value} (hs : vs.size = args.length)
    (hv : ∀ (j : Nat) (c : AV), args[j]? = some c → ∃ u : Value, vs[j]? = some u ∧ RepV w (fun _ => False) (fun _ => none) c u) :
    Calls X.P f vs w fun e w' => e = .returned v ∧ Below w.heap.size w w' :=
  (h.calls hg hn hs hv).mono fun _ _ ⟨_, _, _, h1, h2, _, _, h3⟩ => ⟨by rw [h1, (RepV_lit.1 h3).1], h2⟩
end Go.Proofs.De

namespace Go.Proofs.De
open Go.RowKit

/-- So many rounds at most. -/
noncomputable def loopN (X : Cx) (c : Code) (Q : Exit → St → Prop) (n : Nat) : St → Prop :=
  @Nat.rec (fun _ => St → Prop) (fun _ => Stuck "rounds") (fun _ ih s => aev X c (seqQ ih Q) s) n
theorem loopN_ok {X : Cx} {c : Code} {Q : Exit → St → Prop} {B : Base} : ∀ (n : Nat) (s : St) (a : Act) (w : World), loopN X c Q n s → Rel X B s a w →
    Code.rounds X.P c (fun e a' w' => ∃ s', Q e s' ∧ Rel X B s' a' w') n a w
  | 0, _, _, _, h, _ => h.x.elim
  | n + 1, s, a, w, h, r => by
    refine wp_mono (aev_sound c h B a w r) fun e a' w' ⟨s', k, r'⟩ => ?_
    cases e with
    | normal => exact loopN_ok n s' a' w' k r'
    | _ => exact ⟨s', k, r'⟩
theorem LoopK.rounds {X : Cx} {c : Code} {Q : Exit → St → Prop} {s : St} (n : Nat) (h : loopN X c Q n s) : LoopK X c Q s :=
  ⟨fun _ a w r => wp_loop_rounds n (loopN_ok n s a w h r)⟩


/-- What a hop leaves, told in full. -/
theorem HopK.full {X : Cx} {s : St} {o : Oper} {looks sel : List Nat} {nx : Nat} {K : Step → Nat → Prop} (c : AV) (os : List Ob)
    (h1 : ∀ M, aop X (locSt looks sel s M) o fun c' hp' => f2 c' fun c' => fH hp' fun hp' => c' = c ∧ ∃ extra, hp' = .ext M :: (os ++ extra))
    (h2 : Need (Nat.ble sel.length os.length = true) (K ⟨o.dst, looks, sel, sel ++ upTo nx (os.length - sel.length), os, renV (toGlob (sel ++ upTo nx (os.length - sel.length))) c⟩ (nx + (os.length - sel.length)))) : HopK X s o looks sel nx K := by
  simp only [f2_eq, fH_eq] at h1
  exact .intro c os h1 h2.p h2.a

/-- Arguments, told in full. -/
def fArgs : List AV → (List AV → Prop) → Prop
  | [], K => K []
  | c :: l, K => f2 c fun c => fArgs l fun l => K (c :: l)
theorem fArgs_eq : ∀ (l : List AV) (K : List AV → Prop), fArgs l K = K l
  | [], _ => rfl
  | c :: l, K => by simp only [fArgs, f2_eq, fArgs_eq l]
/-- A call by the function's body, its arguments told in full. -/
theorem SimCall.body {X : Cx} {f : FuncId} {fn : Func} (hf : X.P.funcs[f]? = some fn) (hn : (fn.name == "runtime.NumGoroutine") = false) {args : List AV} {hp : List Ob} {R : AV → List Ob → Prop}
    (hk : fArgs args fun args => fH hp fun hp => afun X fn args hp R) : SimCall X f args hp R := by
  rw [fArgs_eq, fH_eq] at hk
  exact .of_body hf hn hk

/-- Bytes of rows that are told in full. -/
def bytesOf : List (List AV) → Option (List UInt8)
  | [] => some []
  | [.lit (.int .u8 z)] :: l => match bytesOf l with | some bs => some (UInt8.ofNat z.toNat :: bs) | none => none
  | _ => none
def bytesIn : List (List AV) → Bool
  | [] => true
  | [.lit (.int .u8 z)] :: l => decide (0 ≤ z) && decide (z < 256) && bytesIn l
  | _ => false
theorem bytesOf_ok : ∀ {rows : List (List AV)} {bs : List UInt8}, bytesOf rows = some bs → bytesIn rows = true → rows = bs.map (fun b => [.lit (.int .u8 b.toNat)]) := by
  intro rows
  induction rows with
  | nil => intro bs h _; cases h; rfl
  | cons r l ih =>
    intro bs h hi
    unfold bytesOf at h
    split at h
    · rename_i e; cases e
    · rename_i z l' e
      cases e
      split at h
      · rename_i bs' e'
        cases h
        simp only [bytesIn, Bool.and_eq_true, decide_eq_true_eq] at hi
        obtain ⟨⟨h0, h1⟩, h2⟩ := hi
        rw [ih e' h2, List.map_cons]
        congr 1
        have : ((UInt8.ofNat z.toNat).toNat : Int) = z := by
          have : (UInt8.ofNat z.toNat).toNat = z.toNat % 256 := by simp
          rw [this]
          omega
        rw [this]
      · cases h
    · cases h
theorem BytesK.told {rows : List (List AV)} {K : List UInt8 → Prop} (h : match bytesOf rows with | some bs => Need (bytesIn rows = true) (K bs) | none => Stuck "bytes of") : BytesK rows K := by
  split at h
  · rename_i bs e; exact ⟨⟨bs, bytesOf_ok e h.p, h.a⟩⟩
  · exact h.x.elim
end Go.Proofs.De

namespace Go.Proofs.De
open Go.RowKit

def zN (n : Nat) (K : Nat → Prop) : Prop := match n with | 0 => K 0 | m + 1 => K (m + 1)
theorem zN_eq (n : Nat) (K : Nat → Prop) : zN n K = K n := by cases n <;> rfl
def zI (z : Int) (K : Int → Prop) : Prop := match z with | .ofNat n => zN n fun n => K (.ofNat n) | .negSucc n => zN n fun n => K (.negSucc n)
theorem zI_eq (z : Int) (K : Int → Prop) : zI z K = K z := by cases z <;> simp [zI, zN_eq]
def zB (l : List UInt8) (K : List UInt8 → Prop) : Prop := match l with | [] => K [] | b :: l => zN b.toNat fun n => zB l fun l => K (UInt8.ofNat n :: l)
theorem zB_eq : ∀ (l : List UInt8) (K : List UInt8 → Prop), zB l K = K l
  | [], _ => rfl
  | b :: l, K => by simp only [zB, zN_eq, zB_eq l, UInt8.ofNat_toNat]
def zS (s : ByteArray) (K : ByteArray → Prop) : Prop := match s with | ⟨⟨l⟩⟩ => zB l fun l => K ⟨⟨l⟩⟩
theorem zS_eq (s : ByteArray) (K : ByteArray → Prop) : zS s K = K s := by cases s with | mk d => cases d with | mk l => simp only [zS, zB_eq]
def zV (v : Value) (K : Value → Prop) : Prop :=
  match v with
  | .int k n => zI n fun n => K (.int k n)
  | .string s => zS s fun s => K (.string s)
  | .bool true => K (.bool true)
  | .bool false => K (.bool false)
  | v => K v
theorem zV_eq (v : Value) (K : Value → Prop) : zV v K = K v := by
  cases v <;> simp only [zV, zI_eq, zS_eq]
  case bool b => cases b <;> rfl
def z0 (c : AV) (K : AV → Prop) : Prop :=
  match c with
  | .lit v => zV v fun v => K (.lit v)
  | .slc id wd i n => zN id fun id => zN wd fun wd => zN i fun i => zN n fun n => K (.slc id wd i n)
  | .bptr id f => zN id fun id => zN f fun f => K (.bptr id f)
  | .eptr id wd i f => zN id fun id => zN wd fun wd => zN i fun i => zN f fun f => K (.eptr id wd i f)
  | .rslc wd n row => zN wd fun wd => zN n fun n => K (.rslc wd n row)
  | .rptr cs f => zN f fun f => K (.rptr cs f)
  | c => K c
theorem z0_eq (c : AV) (K : AV → Prop) : z0 c K = K c := by cases c <;> simp only [z0, zV_eq, zN_eq]
def zL : List AV → (List AV → Prop) → Prop
  | [], K => K []
  | c :: l, K => z0 c fun c => zL l fun l => K (c :: l)
theorem zL_eq : ∀ (l : List AV) (K : List AV → Prop), zL l K = K l
  | [], _ => rfl
  | c :: l, K => by simp only [zL, z0_eq, zL_eq l]
def z1 (c : AV) (K : AV → Prop) : Prop :=
  match c with
  | .agg cs => zL cs fun cs => K (.agg cs)
  | .fn f caps => zL caps fun caps => K (.fn f caps)
  | .rptr cs f => zL cs fun cs => zN f fun f => K (.rptr cs f)
  | c => z0 c K
theorem z1_eq (c : AV) (K : AV → Prop) : z1 c K = K c := by cases c <;> simp only [z1, z0_eq, zL_eq, zN_eq]
def zL1 : List AV → (List AV → Prop) → Prop
  | [], K => K []
  | c :: l, K => z1 c fun c => zL1 l fun l => K (c :: l)
theorem zL1_eq : ∀ (l : List AV) (K : List AV → Prop), zL1 l K = K l
  | [], _ => rfl
  | c :: l, K => by simp only [zL1, z1_eq, zL1_eq l]
def zRows : List (List AV) → (List (List AV) → Prop) → Prop
  | [], K => K []
  | c :: l, K => zL c fun c => zRows l fun l => K (c :: l)
theorem zRows_eq : ∀ (l : List (List AV)) (K : List (List AV) → Prop), zRows l K = K l
  | [], _ => rfl
  | c :: l, K => by simp only [zRows, zL_eq, zRows_eq l]
def zOb (o : Ob) (K : Ob → Prop) : Prop :=
  match o with
  | .box cs => zL cs fun cs => K (.box cs)
  | .iter s p => zN p fun p => K (.iter s p)
  | o => K o
theorem zOb_eq (o : Ob) (K : Ob → Prop) : zOb o K = K o := by cases o <;> simp only [zOb, zL_eq, zN_eq]
def zH : List Ob → (List Ob → Prop) → Prop
  | [], K => K []
  | c :: l, K => zOb c fun c => zH l fun l => K (c :: l)
theorem zH_eq : ∀ (l : List Ob) (K : List Ob → Prop), zH l K = K l
  | [], _ => rfl
  | c :: l, K => by simp only [zH, zOb_eq, zH_eq l]
def zSt (s : St) (K : St → Prop) : Prop :=
  match s with
  | ⟨e, h, b⟩ => zL1 e fun e => zH h fun h => zN b fun b => K ⟨e, h, b⟩
theorem zSt_eq (s : St) (K : St → Prop) : zSt s K = K s := by cases s; simp only [zSt, zL1_eq, zH_eq, zN_eq]

/-- A call by the function's body, what it is handed reckoned. -/
theorem SimCall.closed {X : Cx} {f : FuncId} {fn : Func} (hf : X.P.funcs[f]? = some fn) (hn : (fn.name == "runtime.NumGoroutine") = false) {args : List AV} {hp : List Ob} {R : AV → List Ob → Prop}
    (hk : zL1 args fun args => zH hp fun hp => afun X fn args hp R) : SimCall X f args hp R := by
  rw [zL1_eq, zH_eq] at hk
  exact .of_body hf hn hk
/-- So many rounds at most, the state reckoned ahead of each. -/
noncomputable def loopZ (X : Cx) (c : Code) (Q : Exit → St → Prop) (n : Nat) : St → Prop :=
  @Nat.rec (fun _ => St → Prop) (fun _ => Stuck "rounds") (fun _ ih s => zSt s fun s => aev X c (seqQ ih Q) s) n
theorem loopZ_ok {X : Cx} {c : Code} {Q : Exit → St → Prop} {B : Base} : ∀ (n : Nat) (s : St) (a : Act) (w : World), loopZ X c Q n s → Rel X B s a w →
    Code.rounds X.P c (fun e a' w' => ∃ s', Q e s' ∧ Rel X B s' a' w') n a w
  | 0, _, _, _, h, _ => h.x.elim
  | n + 1, s, a, w, h, r => by
    have h : zSt s fun s => aev X c (seqQ (loopZ X c Q n) Q) s := h
    rw [zSt_eq] at h
    refine wp_mono (aev_sound c h B a w r) fun e a' w' ⟨s', k, r'⟩ => ?_
    cases e with
    | normal => exact loopZ_ok n s' a' w' k r'
    | _ => exact ⟨s', k, r'⟩
theorem LoopK.closed {X : Cx} {c : Code} {Q : Exit → St → Prop} {s : St} (n : Nat) (h : loopZ X c Q n s) : LoopK X c Q s :=
  ⟨fun _ a w r => wp_loop_rounds n (loopZ_ok n s a w h r)⟩
end Go.Proofs.De

namespace Go.Proofs.De

/-- These slots hold these. -/
def slotsAre (env : List AV) : List (Nat × AV) → Prop
  | [] => True
  | (t, c) :: l => nth env t = c ∧ slotsAre env l
theorem leE_any : ∀ (env : List AV), leE env (List.replicate env.length .any)
  | [] => trivial
  | _ :: l => ⟨.inl rfl, leE_any l⟩
theorem leE_set : ∀ {env env' : List AV} {t : Nat} {c : AV}, leE env env' → nth env t = c → leE env (setN env' t c)
  | [], [], _, _, _, _ => trivial
  | [], _ :: _, _, _, h, _ => h.elim
  | _ :: _, [], _, _, h, _ => h.elim
  | _ :: _, _ :: _, 0, _, h, hc => ⟨.inr hc, h.2⟩
  | _ :: _, _ :: _, _ + 1, _, h, hc => ⟨h.1, leE_set h.2 hc⟩
theorem leE_mkE {env : List AV} {n : Nat} (hn : env.length = n) : ∀ {l : List (Nat × AV)}, slotsAre env l → leE env (mkE n l)
  | [], _ => by subst hn; exact leE_any env
  | (_, _) :: _, h => leE_set (leE_mkE hn h.2) h.1
theorem Weak.slots {X : Cx} {s : St} {n : Nat} {l : List (Nat × AV)} {hp : List Ob} {b : Nat} (hn : s.env.length = n) (h : slotsAre s.env l) (hh : s.hp = hp) (hb : s.base = b) : Weak X s ⟨mkE n l, hp, b⟩ :=
  Weak.le ⟨leE_mkE hn h, hh, hb⟩
theorem Weak.nslots {X : Cx} {s : St} (ids : List Nat) (hf : fixes ids 0 s.base = true) (hd : distinct ids = true) {n : Nat} {l : List (Nat × AV)} {hp : List Ob} {b : Nat} (hn : (s.ren ids).env.length = n) (h : slotsAre (s.ren ids).env l) (hh : (s.ren ids).hp = hp) (hb : s.base = b) : Weak X s ⟨mkE n l, hp, b⟩ :=
  Weak.norm ids hf hd ⟨leE_mkE hn h, hh, hb⟩
end Go.Proofs.De

namespace Go.Proofs.De
open Go.RowKit

/-- The second tells no more than the first. -/
inductive AVle : AV → AV → Prop
  | refl (c : AV) : AVle c c
  | nil (wd : Nat) (row : Nat → List AV) : AVle (.lit (.slice none 0 0)) (.rslc wd 0 row)
  | rows (wd n : Nat) (row row' : Nat → List AV) (h1 : ∀ i, i < n → (row i).length = wd) (h2 : ∀ i, i < n → (row' i).length = wd) (h3 : ∀ i j, i < n → j < wd → AVle (nth (row i) j) (nth (row' i) j)) : AVle (.rslc wd n row) (.rslc wd n row')

theorem nth_at {l : List AV} {j : Nat} {c : AV} (h : l[j]? = some c) : nth l j = c := by rw [nth_eq, h]; rfl
theorem AVle.rep {w : World} {O : Nat → Prop} {c d : AV} (h : AVle c d) : ∀ {u : Value}, RepI w O c u → RepI w O d u := by
  induction h with
  | refl c => intro u k; exact k
  | nil wd row =>
    intro u k
    cases k
    exact .rslc wd 0 row none 0 0 0 (fun _ _ => .bool true) (Nat.le_refl _) (fun _ => rfl) (fun h => absurd rfl h) (fun i h => absurd h (Nat.not_lt_zero _)) (fun i j h => absurd h (Nat.not_lt_zero _)) (fun i j c h => absurd h (Nat.not_lt_zero _))
  | rows wd n row row' h1 h2 h3 ih =>
    intro u k
    cases k with
    | rslc _ _ _ base cap g o us q0 qb q1 q2 q3 q4 =>
      refine .rslc wd n row' base cap g o us q0 qb q1 h2 q3 (fun i j c hi hc => ?_)
      have hj : j < wd := by rw [← h2 i hi]; exact (List.getElem?_eq_some_iff.1 hc).1
      have hjr : j < (row i).length := by rw [h1 i hi]; exact hj
      have := ih i j hi hj (q4 i j _ hi (by rw [nth_at (List.getElem?_eq_getElem hjr), List.getElem?_eq_getElem hjr]))
      rw [nth_at hc] at this; exact this

/-- Parts, one by one. -/
def leI : List AV → List AV → Prop
  | [], [] => True
  | c :: l, d :: l' => AVle c d ∧ leI l l'
  | _, _ => False
theorem leI_at : ∀ {l l' : List AV}, leI l l' → l'.length = l.length ∧ ∀ (j : Nat) (d : AV), l'[j]? = some d → ∃ c : AV, l[j]? = some c ∧ AVle c d
  | [], [], _ => ⟨rfl, fun j d h => by cases h⟩
  | c :: l, d :: l', h => by
    obtain ⟨h1, h2⟩ := leI_at h.2
    refine ⟨by simp [h1], fun j e he => ?_⟩
    cases j with
    | zero => cases he; exact ⟨c, rfl, h.1⟩
    | succ j => exact h2 j e he
  | [], _ :: _, h => h.elim
  | _ :: _, [], h => h.elim

/-- A value of a call, frozen, and as r. -/
def frzA (hp : List Ob) (c r : AV) (K : List Ob → Prop) : Prop :=
  match c, r with
  | .agg cs, .agg ds => reifysK hp cs fun l hp' => leI l ds ∧ K hp'
  | c, d => reifyK hp c fun c' hp' => AVle c' d ∧ K hp'
def frzAs (hp : List Ob) : List AV → List AV → (List Ob → Prop) → Prop
  | [], [], K => K hp
  | c :: l, d :: l', K => frzA hp c d fun hp' => frzAs hp' l l' K
  | _, _, _ => Stuck "parts"
def frzV (hp : List Ob) (c r : AV) (K : List Ob → Prop) : Prop :=
  match c, r with
  | .tup vs, .tup ds => frzAs hp vs ds K
  | c, d => frzA hp c d K

section
variable {X : Cx} {B : Base} {ρ : Rho} {w : World}
theorem RepA_C {O : Nat → Prop} {c : AV} {u : Value} (hc : ∀ cs, c ≠ .agg cs) (h : RepA w O ρ c u) : RepC w O ρ c u := by
  cases c <;> first | exact absurd rfl (hc _) | (simpa only [RepA] using h)
theorem RepV_A {O : Nat → Prop} {c : AV} {u : Value} (h1 : ∀ cs, c ≠ .tup cs) (h2 : c ≠ .any) (h : RepV w O ρ c u) : RepA w O ρ c u := by
  cases c <;> first | exact absurd rfl (h1 _) | exact absurd rfl h2 | (simpa only [RepV] using h)
theorem frzA_ok {hp : List Ob} (hh : Hp X w ρ hp) {c r : AV} {u : Value} (hr : RepA w (Own ρ hp) ρ c u) {K : List Ob → Prop} (hk : frzA hp c r K) :
    ∃ hp', K hp' ∧ Hp X w ρ hp' ∧ Tr w (Own ρ hp) w (Own ρ hp') ∧ RepA w (Own ρ hp') ρ r u := by
  unfold frzA at hk
  split at hk
  · rename_i cs ds
    obtain ⟨us, rfl, e2, e3⟩ := hr
    obtain ⟨l', hp', ⟨k1, k2⟩, hh', ht, _, hl, hi⟩ := reifysK_ok cs hh (fun j => us[j]?) e3 hk
    obtain ⟨q1, q2⟩ := leI_at k1
    refine ⟨hp', k2, hh', ht, us, rfl, by rw [q1, hl]; exact e2, fun j d hj => ?_⟩
    obtain ⟨c, p1, p2⟩ := q2 j d hj
    obtain ⟨x, p3, p4⟩ := hi j c p1
    exact ⟨x, p3, RepI_RepC (p2.rep p4)⟩
  · rename_i hne
    have hc : RepC w (Own ρ hp) ρ c u := by
      cases c with
      | agg cs => simp only [reifyK] at hk; exact hk.x.elim
      | _ => exact RepA_C (fun _ => by intro e; cases e) hr
    obtain ⟨c', hp', ⟨k1, k2⟩, hh', ht, _, hi⟩ := reifyK_ok hh hc hk
    exact ⟨hp', k2, hh', ht, RepC_RepA (RepI_RepC (k1.rep hi))⟩
theorem frzAs_ok : ∀ (l l' : List AV) {hp : List Ob} (_ : Hp X w ρ hp) (us : Nat → Option Value) (_ : ∀ (j : Nat) (c : AV), l[j]? = some c → ∃ x : Value, us j = some x ∧ RepA w (Own ρ hp) ρ c x) {K : List Ob → Prop} (_ : frzAs hp l l' K),
    ∃ hp', K hp' ∧ Hp X w ρ hp' ∧ Tr w (Own ρ hp) w (Own ρ hp') ∧ l'.length = l.length ∧ ∀ (j : Nat) (d : AV), l'[j]? = some d → ∃ x : Value, us j = some x ∧ RepA w (Own ρ hp') ρ d x
  | [], [], hp, hh, us, _, K, hk => ⟨hp, hk, hh, Tr.refl _ _, rfl, fun j c e => by cases e⟩
  | c :: l, d :: l', hp, hh, us, hc, K, hk => by
    obtain ⟨x, k1, k2⟩ := hc 0 c rfl
    obtain ⟨hp', hk', hh', ht, hi⟩ := frzA_ok hh k2 hk
    obtain ⟨hp'', hk'', hh'', ht', hll, hi'⟩ := frzAs_ok l l' hh' (fun j => us (j + 1)) (fun j c e => let ⟨x, q1, q2⟩ := hc (j + 1) c e; ⟨x, q1, q2.mono ht (Rho.le.refl ρ)⟩) hk'
    refine ⟨hp'', hk'', hh'', ht.trans ht', by simp [hll], fun j e he => ?_⟩
    cases j with
    | zero => cases he; exact ⟨x, k1, hi.mono ht' (Rho.le.refl ρ)⟩
    | succ j => exact hi' j e he
  | [], _ :: _, _, _, _, _, _, hk => hk.x.elim
  | _ :: _, [], _, _, _, _, _, hk => hk.x.elim
theorem frzV_ok {hp : List Ob} (hh : Hp X w ρ hp) {c r : AV} {u : Value} (hr : RepV w (Own ρ hp) ρ c u) {K : List Ob → Prop} (hk : frzV hp c r K) (hany : c ≠ .any) :
    ∃ hp', K hp' ∧ Hp X w ρ hp' ∧ Tr w (Own ρ hp) w (Own ρ hp') ∧ RepV w (Own ρ hp') ρ r u := by
  unfold frzV at hk
  split at hk
  · rename_i vs ds
    obtain ⟨us, rfl, e2, e3⟩ := hr
    obtain ⟨hp', k2, hh', ht, hl, hi⟩ := frzAs_ok vs ds hh (fun j => us[j]?) e3 hk
    exact ⟨hp', k2, hh', ht, us, rfl, by rw [hl]; exact e2, hi⟩
  · rename_i hne
    have hc : RepA w (Own ρ hp) ρ c u := by
      cases c with
      | any => exact absurd rfl hany
      | tup cs => simp only [frzA, reifyK] at hk; exact hk.x.elim
      | _ => exact RepV_A (fun _ => by intro e; cases e) (by intro e; cases e) hr
    obtain ⟨hp', k2, hh', ht, hi⟩ := frzA_ok hh hc hk
    exact ⟨hp', k2, hh', ht, RepA_RepV hi⟩
end

def isAny : AV → Bool
  | .any => true
  | _ => false
/-- What a call gives, frozen and renamed. -/
theorem SimCall.frz {X : Cx} {f : FuncId} {args : List AV} {hp : List Ob} {r : AV} {K : List Ob → Prop} (h : SimCall X f args hp fun c hp' => isAny c = false ∧ frzV hp' c r K) : SimCall X f args hp fun c hp' => c = r ∧ K hp' := by
  obtain ⟨h1, h2⟩ := h
  refine ⟨h1, fun ρ w vs q1 q2 q3 => (h2 ρ w vs q1 q2 q3).mono ?_⟩
  rintro e w' ⟨v, c, hp', ρ', rfl, ⟨ka, k⟩, k1, k2, k3, k4⟩
  obtain ⟨hp'', k5, k6, k7, k8⟩ := frzV_ok k1 k4 k (by rintro rfl; cases ka)
  exact ⟨v, r, hp'', ρ', rfl, ⟨rfl, k5⟩, k6, k2.trans k7, k3, k8⟩
theorem PureCall.frz {X : Cx} {f : FuncId} {args : List AV} {r : AV} (h : ∀ M, SimCall X f args [.ext M] fun c hp' => isAny c = false ∧ frzV hp' c r fun hp'' => hp''[0]? = some (.ext M)) : PureCall X f args r := fun M => (h M).frz
end Go.Proofs.De

namespace Go.Proofs.De
def zObR (o : Ob) (K : Ob → Prop) : Prop :=
  match o with
  | .box cs => zL cs fun cs => K (.box cs)
  | .row et wd rows => zRows rows fun rows => K (.row et wd rows)
  | .iter s p => zN p fun p => K (.iter s p)
  | .none => K .none
  | .fz et wd rows => K (.fz et wd rows)
  | .ext M => K (.ext M)
theorem zObR_eq (o : Ob) (K : Ob → Prop) : zObR o K = K o := by cases o <;> simp only [zObR, zL_eq, zN_eq, zRows_eq]
def zHR : List Ob → (List Ob → Prop) → Prop
  | [], K => K []
  | c :: l, K => zObR c fun c => zHR l fun l => K (c :: l)
theorem zHR_eq : ∀ (l : List Ob) (K : List Ob → Prop), zHR l K = K l
  | [], _ => rfl
  | c :: l, K => by simp only [zHR, zObR_eq, zHR_eq l]
/-- A call by the function's body, what it is handed reckoned, rows and all. -/
theorem SimCall.closedR {X : Cx} {f : FuncId} {fn : Func} (hf : X.P.funcs[f]? = some fn) (hn : (fn.name == "runtime.NumGoroutine") = false) {args : List AV} {hp : List Ob} {R : AV → List Ob → Prop}
    (hk : zL1 args fun args => zHR hp fun hp => afun X fn args hp R) : SimCall X f args hp R := by
  rw [zL1_eq, zHR_eq] at hk
  exact .of_body hf hn hk
end Go.Proofs.De

namespace Go.Proofs.De
open Go.RowKit

/-- New number k is old number i; with false nothing lies there any more. -/
def idxB : List (Nat × Bool) → Nat → Option Nat
  | [], _ => none
  | (x, b) :: l, i => if b = true ∧ x = i then some 0 else match idxB l i with | some k => some (k + 1) | none => none
theorem idxB_at : ∀ {l : List (Nat × Bool)} {i k : Nat}, idxB l i = some k → l[k]? = some (i, true)
  | [], i, k, h => by cases h
  | (x, b) :: l, i, k, h => by
    simp only [idxB] at h
    split at h
    · rename_i e; cases h; rw [e.1, e.2]; rfl
    · split at h
      · rename_i k' e; cases h; exact idxB_at (l := l) (k := k') e
      · cases h
theorem idxB_some : ∀ {l : List (Nat × Bool)} {k i : Nat}, l[k]? = some (i, true) → (idxB l i).isSome = true
  | [], k, i, h => by cases h
  | (x, b) :: l, 0, i, h => by cases h; simp [idxB]
  | (x, b) :: l, k + 1, i, h => by
    have := idxB_some (l := l) (k := k) h
    simp only [idxB]
    split
    · rfl
    · cases hi : idxB l i with
      | none => rw [hi] at this; cases this
      | some q => rfl
def distinctB : List (Nat × Bool) → Bool
  | [] => true
  | (x, b) :: l => (!b || (idxB l x).isNone) && distinctB l
theorem distinctB_at : ∀ {l : List (Nat × Bool)} {i j x : Nat}, distinctB l = true → l[i]? = some (x, true) → l[j]? = some (x, true) → i = j
  | [], i, j, x, _, h, _ => by cases h
  | (y, b) :: l, i, j, x, hd, h1, h2 => by
    simp only [distinctB, Bool.and_eq_true] at hd
    have hno : ∀ (k : Nat), b = true → l[k]? ≠ some (y, true) := by
      intro k hb hk
      have := idxB_some hk
      have h3 := hd.1
      rw [hb] at h3
      cases hi : idxB l y with
      | none => rw [hi] at this; cases this
      | some q => rw [hi] at h3; cases h3
    cases i with
    | zero =>
      cases j with
      | zero => rfl
      | succ j => cases h1; exact absurd h2 (hno j rfl)
    | succ i =>
      cases j with
      | zero => cases h2; exact absurd h1 (hno i rfl)
      | succ j => exact congrArg (· + 1) (distinctB_at hd.2 h1 h2)
def pickOs (m : Nat → Option Nat) (hp : List Ob) : List (Nat × Bool) → List Ob
  | [] => []
  | (i, true) :: l => (match hp[i]? with | some o => renO m o | none => .none) :: pickOs m hp l
  | (_, false) :: l => .none :: pickOs m hp l
def Rho.pick (ρ : Rho) (ids : List (Nat × Bool)) : Rho := fun k => match ids[k]? with | some (i, _) => ρ i | none => none
theorem pickOs_len {m : Nat → Option Nat} {hp : List Ob} : ∀ (l : List (Nat × Bool)), (pickOs m hp l).length = l.length
  | [] => rfl
  | (_, true) :: l => congrArg (· + 1) (pickOs_len l)
  | (_, false) :: l => congrArg (· + 1) (pickOs_len l)
theorem pickOs_at {m : Nat → Option Nat} {hp : List Ob} : ∀ {l : List (Nat × Bool)} {j : Nat} {o : Ob}, (pickOs m hp l)[j]? = some o → o = .none ∨ ∃ i x, l[j]? = some (i, true) ∧ hp[i]? = some x ∧ o = renO m x
  | [], j, c, h => by cases h
  | (y, true) :: l, 0, c, h => by
    simp only [pickOs, List.getElem?_cons_zero, Option.some.injEq] at h
    split at h
    · rename_i x e; exact .inr ⟨y, x, rfl, e, h.symm⟩
    · exact .inl h.symm
  | (y, false) :: l, 0, c, h => by cases h; exact .inl rfl
  | (y, true) :: l, j + 1, c, h => pickOs_at (l := l) h
  | (y, false) :: l, j + 1, c, h => pickOs_at (l := l) h

section
variable {X : Cx} {w : World} {ρ : Rho} {hp : List Ob} {ids : List (Nat × Bool)}
theorem carries_pick (ρ : Rho) (ids : List (Nat × Bool)) : Carries (idxB ids) ρ (ρ.pick ids) := by
  intro i k v h hv
  unfold Rho.pick
  rw [idxB_at h]; exact hv
theorem Blk_pick {j b : Nat} {o : Ob} (h1 : (pickOs (idxB ids) hp ids)[j]? = some o) (h2 : Blk (ρ.pick ids) j b o) : ∃ i x, ids[j]? = some (i, true) ∧ hp[i]? = some x ∧ o = renO (idxB ids) x ∧ Blk ρ i b x := by
  rcases pickOs_at h1 with rfl | ⟨i, x, e1, e3, rfl⟩
  · exact h2.elim
  · refine ⟨i, x, e1, e3, rfl, ?_⟩
    have hr : ρ.pick ids j = ρ i := by unfold Rho.pick; rw [e1]
    cases x <;> simp only [renO, Blk, hr] at h2 ⊢ <;> exact h2
theorem pick_ok (hh : Hp X w ρ hp) (hd : distinctB ids = true) :
    Hp X w (ρ.pick ids) (pickOs (idxB ids) hp ids) ∧ Tr w (Own ρ hp) w (Own (ρ.pick ids) (pickOs (idxB ids) hp ids)) ∧
      ∀ (c : AV) (u : Value), RepV w (Own ρ hp) ρ c u → RepV w (Own (ρ.pick ids) (pickOs (idxB ids) hp ids)) (ρ.pick ids) (renV (idxB ids) c) u := by
  have hsub : ∀ b, Own (ρ.pick ids) (pickOs (idxB ids) hp ids) b → Own ρ hp b := by
    rintro b ⟨j, o, h1, h2⟩
    obtain ⟨i, x, _, k1, _, k2⟩ := Blk_pick h1 h2
    exact ⟨i, x, k1, k2⟩
  have ht : Tr w (Own ρ hp) w (Own (ρ.pick ids) (pickOs (idxB ids) hp ids)) := ⟨rfl, rfl, rfl, Nat.le_refl _, fun b _ hn => ⟨rfl, fun k => hn (hsub b k)⟩⟩
  have hval : ∀ k v, ρ.pick ids k = some v → ∃ i, ρ i = some v := by
    intro k v h
    unfold Rho.pick at h
    split at h
    · rename_i i _ e; exact ⟨i, h⟩
    · cases h
  refine ⟨⟨hh.glob, hh.ng, fun k v b h1 h2 => let ⟨i, e⟩ := hval k v h1; hh.lt i v b e h2, fun b k => hh.low b (hsub b k), ?_, ?_, ?_⟩, ht, fun c u hr => renV_rep (carries_pick ρ ids) hsub hr⟩
  · intro i j x y b a1 a2 b1 b2
    obtain ⟨i', x', c0, c1, _, c2⟩ := Blk_pick a1 a2
    obtain ⟨j', y', d0, d1, _, d2⟩ := Blk_pick b1 b2
    have := hh.inj i' j' x' y' b c1 c2 d1 d2
    subst this
    exact distinctB_at hd c0 d0
  · intro k o hk
    rcases pickOs_at hk with rfl | ⟨i, x, e1, e3, rfl⟩
    · trivial
    · have hr : ρ.pick ids k = ρ i := by unfold Rho.pick; rw [e1]
      have hq := hh.has i x e3
      cases x with
      | none => trivial
      | box cs =>
        obtain ⟨g, et, vs, q1, q2, q3, q4⟩ := hq
        refine ⟨g, et, vs, hr.trans q1, q2, by rw [renCs_len]; exact q3, fun j c hc => ?_⟩
        obtain ⟨d, p1, rfl⟩ := renCs_at hc
        obtain ⟨u, p2, p3⟩ := q4 j d p1
        exact ⟨u, p2, renC_rep (carries_pick ρ ids) hsub p3⟩
      | row et wd rows =>
        obtain ⟨v, xs, q1, q2, q3, q4⟩ := hq
        exact ⟨v, xs, hr.trans q1, q2, q3.mono ht, q4⟩
      | fz et wd rows =>
        obtain ⟨v, xs, q1, q2, q3, q4, q5⟩ := hq
        exact ⟨v, xs, hr.trans q1, q2, q3.mono ht, q4, fun b hb k => q5 b hb (hsub b k)⟩
      | ext M => exact hq
      | iter s p => obtain ⟨g, q1, q2⟩ := hq; exact ⟨g, hr.trans q1, q2⟩
  · intro k hk
    rw [pickOs_len] at hk
    unfold Rho.pick
    rw [List.getElem?_eq_none hk]
end
def fixesB : List (Nat × Bool) → Nat → Nat → Bool
  | _, _, 0 => true
  | [], _, _ + 1 => false
  | (x, _) :: l, k, n + 1 => (x == k) && fixesB l (k + 1) n
theorem fixesB_at : ∀ {l : List (Nat × Bool)} {k n : Nat}, fixesB l k n = true → ∀ i, i < n → ∃ b, l[i]? = some (k + i, b)
  | _, _, 0, _, i, hi => absurd hi (Nat.not_lt_zero _)
  | [], _, n + 1, h, _, _ => by cases h
  | (x, b) :: l, k, n + 1, h, i, hi => by
    simp only [fixesB, Bool.and_eq_true, beq_iff_eq] at h
    cases i with
    | zero => exact ⟨b, by rw [h.1]; rfl⟩
    | succ i =>
      obtain ⟨b', e⟩ := fixesB_at h.2 i (by omega)
      exact ⟨b', by rw [List.getElem?_cons_succ, e, show k + 1 + i = k + (i + 1) by omega]⟩
theorem SimCall.pick {X : Cx} {f : FuncId} {args : List AV} {hp : List Ob} {R : AV → List Ob → Prop} (ids : List (Nat × Bool)) (hf : fixesB ids 0 hp.length = true) (hd : distinctB ids = true)
    (h : SimCall X f args hp fun c hp' => R (renV (idxB ids) c) (pickOs (idxB ids) hp' ids)) : SimCall X f args hp R := by
  obtain ⟨h1, h2⟩ := h
  refine ⟨h1, fun ρ w vs q1 q2 q3 => (h2 ρ w vs q1 q2 q3).mono ?_⟩
  rintro e w' ⟨v, c, hp', ρ', rfl, k, k1, k2, k3, k4⟩
  obtain ⟨p1, p2, p3⟩ := pick_ok k1 hd
  refine ⟨v, _, _, _, rfl, k, p1, k2.trans p2, ?_, p3 c v k4⟩
  intro id u hu
  have hlt : id < hp.length := by
    rcases Nat.lt_or_ge id hp.length with h | h
    · exact h
    · rw [q1.free id h] at hu; cases hu
  obtain ⟨b, e⟩ := fixesB_at hf id hlt
  unfold Rho.pick
  rw [e]
  simpa using k3 id u hu
end Go.Proofs.De

namespace Go.Proofs.De
/-- A small number, all of it. -/
def zNN : Nat → (Nat → Prop) → Prop
  | 0, K => K 0
  | n + 1, K => zNN n fun m => K (m + 1)
theorem zNN_eq : ∀ (n : Nat) (K : Nat → Prop), zNN n K = K n
  | 0, _ => rfl
  | n + 1, K => zNN_eq n fun m => K (m + 1)
def zT0 (c : AV) (K : AV → Prop) : Prop :=
  match c with
  | .slc id wd i n => zNN id fun id => zNN wd fun wd => zNN i fun i => zNN n fun n => K (.slc id wd i n)
  | .bptr id f => zNN id fun id => zNN f fun f => K (.bptr id f)
  | .eptr id wd i f => zNN id fun id => zNN wd fun wd => zNN i fun i => zNN f fun f => K (.eptr id wd i f)
  | c => z0 c K
theorem zT0_eq (c : AV) (K : AV → Prop) : zT0 c K = K c := by cases c <;> simp only [zT0, z0_eq, zNN_eq]
def zTL : List AV → (List AV → Prop) → Prop
  | [], K => K []
  | c :: l, K => zT0 c fun c => zTL l fun l => K (c :: l)
theorem zTL_eq : ∀ (l : List AV) (K : List AV → Prop), zTL l K = K l
  | [], _ => rfl
  | c :: l, K => by simp only [zTL, zT0_eq, zTL_eq l]
def zT1 (c : AV) (K : AV → Prop) : Prop :=
  match c with
  | .agg cs => zTL cs fun cs => K (.agg cs)
  | .fn f caps => zTL caps fun caps => K (.fn f caps)
  | c => zT0 c K
theorem zT1_eq (c : AV) (K : AV → Prop) : zT1 c K = K c := by cases c <;> simp only [zT1, zT0_eq, zTL_eq]
def zTL1 : List AV → (List AV → Prop) → Prop
  | [], K => K []
  | c :: l, K => zT1 c fun c => zTL1 l fun l => K (c :: l)
theorem zTL1_eq : ∀ (l : List AV) (K : List AV → Prop), zTL1 l K = K l
  | [], _ => rfl
  | c :: l, K => by simp only [zTL1, zT1_eq, zTL1_eq l]
def zT (c : AV) (K : AV → Prop) : Prop :=
  match c with
  | .tup vs => zTL1 vs fun vs => K (.tup vs)
  | c => zT1 c K
theorem zT_eq (c : AV) (K : AV → Prop) : zT c K = K c := by cases c <;> simp only [zT, zT1_eq, zTL1_eq]
theorem HopK.told {X : Cx} {s : St} {o : Oper} {looks sel : List Nat} {nx : Nat} {K : Step → Nat → Prop} (c : AV) (os : List Ob)
    (h1 : ∀ M, aop X (locSt looks sel s M) o fun c' hp' => zT c' fun c' => zHR hp' fun hp' => c' = c ∧ ∃ extra, hp' = .ext M :: (os ++ extra))
    (h2 : Need (Nat.ble sel.length os.length = true) (K ⟨o.dst, looks, sel, sel ++ upTo nx (os.length - sel.length), os, renV (toGlob (sel ++ upTo nx (os.length - sel.length))) c⟩ (nx + (os.length - sel.length)))) : HopK X s o looks sel nx K := by
  simp only [zT_eq, zHR_eq] at h1
  exact .intro c os h1 h2.p h2.a
end Go.Proofs.De

namespace Go.Proofs.De
open Go.RowKit
def isTA : AV → Bool
  | .any => true
  | .tup _ => true
  | _ => false
def noTA : List AV → Bool
  | [] => true
  | c :: l => !isTA c && noTA l
theorem noTA_at : ∀ {l : List AV} {j : Nat} {c : AV}, noTA l = true → l[j]? = some c → isTA c = false
  | [], _, _, _, h => by cases h
  | y :: l, 0, c, h, e => by cases e; simp only [noTA, Bool.and_eq_true, Bool.not_eq_true'] at h; exact h.1
  | y :: l, j + 1, c, h, e => by simp only [noTA, Bool.and_eq_true] at h; exact noTA_at (l := l) h.2 e
/-- The arguments frozen, and as these. -/
theorem SimCall.lend {X : Cx} {f : FuncId} {args : List AV} {hp : List Ob} {R : AV → List Ob → Prop} (args' : List AV) (ha : noTA args = true) (h : frzAs hp args args' fun hp' => SimCall X f args' hp' R)
    (hfn : ∃ fn, X.P.funcs[f]? = some fn ∧ (fn.name == "runtime.NumGoroutine") = false ∧ fn.body.isNone = false) : SimCall X f args hp R := by
  refine ⟨hfn, fun ρ w vs q1 q2 q3 => ?_⟩
  obtain ⟨hp', hk, hh', ht, hl, hi⟩ := frzAs_ok (X := X) args args' q1 (fun j => vs[j]?) (fun j c hj => by
    obtain ⟨x, e1, e2⟩ := q3 j c hj
    have hc := noTA_at ha hj
    exact ⟨x, e1, RepV_A (by rintro cs rfl; cases hc) (by rintro rfl; cases hc) e2⟩) h
  obtain ⟨_, hs⟩ := hk
  refine (hs ρ w vs hh' (by rw [hl]; exact q2) (fun j c hj => let ⟨x, e1, e2⟩ := hi j c hj; ⟨x, e1, RepA_RepV e2⟩)).mono ?_
  rintro e w' ⟨v, c, hp'', ρ', rfl, k, k1, k2, k3, k4⟩
  exact ⟨v, c, hp'', ρ', rfl, k, k1, ht.trans k2, k3, k4⟩
end Go.Proofs.De

namespace Go.Proofs.De
open Go.RowKit
section
variable {X : Cx} {w : World} {ρ : Rho} {hp : List Ob}
theorem Hp.nilBox (h : Hp X w ρ hp) {id : Nat} (hid : hp[id]? = some (.box [.lit (.slice none 0 0)])) (et wd : Nat) :
    Hp X w (ρ.upd hp.length (.slice none 0 0)) ((hp ++ [Ob.row et wd []]).set id (Ob.box [.slc hp.length wd 0 0])) ∧ Tr w (Own ρ hp) w (Own (ρ.upd hp.length (.slice none 0 0)) ((hp ++ [Ob.row et wd []]).set id (Ob.box [.slc hp.length wd 0 0]))) := by
  have h1 := h.nil et wd
  have hlt : id < hp.length := (List.getElem?_eq_some_iff.1 hid).1
  have hid' : (hp ++ [Ob.row et wd []])[id]? = some (.box [.lit (.slice none 0 0)]) := by rw [List.getElem?_append_left hlt]; exact hid
  obtain ⟨g, et', vs, q1, q2, q3, q4⟩ := h1.has id _ hid'
  have hg : w.grownBy w (some g) := ⟨rfl, rfl, rfl, Nat.le_refl _, fun _ _ _ => rfl⟩
  have hb : Blk (ρ.upd hp.length (.slice none 0 0)) id g (.box [.lit (.slice none 0 0)]) := ⟨_, q1, rfl⟩
  have ht := h1.write_tr (ob := .box [.slc hp.length wd 0 0]) hid' (fun b => Iff.rfl) hb hg
  have hh := h1.write (ob := .box [.slc hp.length wd 0 0]) hid' (fun b => Iff.rfl) hb hg (by
    refine ⟨g, et', vs, q1, q2, q3, fun j c hc => ?_⟩
    cases j with
    | zero =>
      cases hc
      obtain ⟨u, e1, e2⟩ := q4 0 _ rfl
      obtain ⟨rfl, _⟩ := RepC_lit.1 e2
      refine ⟨_, e1, ?_⟩
      simp only [RepC, RepB]
      exact ⟨none, 0, 0, none, Rho.upd_same _ _ _, rfl, Nat.le_refl _, fun _ => rfl, fun h => absurd rfl h, fun _ => rfl, fun y hy => by cases hy⟩
    | succ j => cases hc)
  rw [own_nil] at ht
  exact ⟨hh, ht⟩
end
theorem SimCall.nilBox {X : Cx} {f : FuncId} {args : List AV} {hp : List Ob} {R : AV → List Ob → Prop} (id et wd : Nat) (hid : hp[id]? = some (.box [.lit (.slice none 0 0)]))
    (h : SimCall X f args (setN (hp ++ [.row et wd []]) id (.box [.slc hp.length wd 0 0])) R) : SimCall X f args hp R := by
  rw [setN_eq] at h
  obtain ⟨h1, h2⟩ := h
  refine ⟨h1, fun ρ w vs q1 q2 q3 => ?_⟩
  obtain ⟨k1, k2⟩ := q1.nilBox hid et wd
  have hle : ρ.le (ρ.upd hp.length (.slice none 0 0)) := Rho.le_upd (q1.free _ (Nat.le_refl _)) _
  refine (h2 _ w vs k1 q2 (fun j c hj => let ⟨x, e1, e2⟩ := q3 j c hj; ⟨x, e1, e2.mono k2 hle⟩)).mono ?_
  rintro e w' ⟨v, c, hp', ρ', rfl, k, p1, p2, p3, p4⟩
  exact ⟨v, c, hp', ρ', rfl, k, p1, k2.trans p2, hle.trans p3, p4⟩
/-- Whatever it gives. -/
theorem SimCall.forget {X : Cx} {f : FuncId} {args : List AV} {hp : List Ob} {R : AV → List Ob → Prop} (h : SimCall X f args hp fun _ hp' => R .any hp') : SimCall X f args hp R := by
  obtain ⟨h1, h2⟩ := h
  refine ⟨h1, fun ρ w vs q1 q2 q3 => (h2 ρ w vs q1 q2 q3).mono ?_⟩
  rintro e w' ⟨v, c, hp', ρ', rfl, k, p1, p2, p3, p4⟩
  exact ⟨v, .any, hp', ρ', rfl, k, p1, p2, p3, trivial⟩
theorem SimCall.mono {X : Cx} {f : FuncId} {args : List AV} {hp : List Ob} {R R' : AV → List Ob → Prop} (h : SimCall X f args hp R) (hr : ∀ c hp', R c hp' → R' c hp') : SimCall X f args hp R' := by
  obtain ⟨h1, h2⟩ := h
  refine ⟨h1, fun ρ w vs q1 q2 q3 => (h2 ρ w vs q1 q2 q3).mono ?_⟩
  rintro e w' ⟨v, c, hp', ρ', rfl, k, p1, p2, p3, p4⟩
  exact ⟨v, c, hp', ρ', rfl, hr c hp' k, p1, p2, p3, p4⟩
/-- What it gives frozen; its own blocks counted anew. -/
theorem SimCall.pickFrz {X : Cx} {f : FuncId} {args : List AV} {hp : List Ob} {r : AV} {K : List Ob → Prop} (ids : List (Nat × Bool)) (hf : fixesB ids 0 hp.length = true) (hd : distinctB ids = true) (hr : renV (idxB ids) r = r)
    (h : SimCall X f args hp fun c hp' => isAny c = false ∧ frzV hp' c r fun hp'' => K (pickOs (idxB ids) hp'' ids)) : SimCall X f args hp fun c hp' => c = r ∧ K hp' :=
  SimCall.pick ids hf hd (h.frz.mono fun c hp' ⟨h1, h2⟩ => ⟨by rw [h1]; exact hr, h2⟩)
/-- A state whose own blocks are counted anew. -/
theorem Weak.pick {X : Cx} {s : St} (ids : List (Nat × Bool)) (hf : fixesB ids 0 s.base = true) (hd : distinctB ids = true) : Weak X s ⟨renVs (idxB ids) s.env, pickOs (idxB ids) s.hp ids, s.base⟩ := by
  rintro B a w ⟨ρ, r⟩
  obtain ⟨p1, p2, p3⟩ := pick_ok r.hp hd
  refine ⟨ρ.pick ids, p1, ?_, fun t c hc => ?_, r.defers, r.tr.trans p2, ?_, r.base, r.bfree⟩
  · simp only [renVs_len]; exact r.len
  · obtain ⟨d, e1, rfl⟩ := renVs_at hc
    obtain ⟨u, e2, e3⟩ := r.env t d e1
    exact ⟨u, e2, p3 d u e3⟩
  · intro id v hv
    have hlt : id < B.hp.length := by
      rcases Nat.lt_or_ge id B.hp.length with h | h
      · exact h
      · rw [r.bfree id h] at hv; cases hv
    obtain ⟨b, e⟩ := fixesB_at hf id (by rw [r.base]; exact hlt)
    unfold Rho.pick
    rw [e]
    simpa using r.ext id v hv
theorem Weak.pslots {X : Cx} {s : St} (ids : List (Nat × Bool)) (hf : fixesB ids 0 s.base = true) (hd : distinctB ids = true) {n : Nat} {l : List (Nat × AV)} {hp : List Ob} {b : Nat} (hn : (renVs (idxB ids) s.env).length = n) (h : slotsAre (renVs (idxB ids) s.env) l)
    (hh : pickOs (idxB ids) s.hp ids = hp) (hb : s.base = b) : Weak X s ⟨mkE n l, hp, b⟩ := (Weak.pick ids hf hd).trans (Weak.slots hn h hh hb)
end Go.Proofs.De

namespace Go.Proofs.De
open Go.RowKit
section
variable {X : Cx} {w : World} {ρ : Rho} {hp : List Ob}
theorem Hp.nilCell (h : Hp X w ρ hp) {id f : Nat} {cs : List AV} (hid : hp[id]? = some (.box cs)) (hf : cs[f]? = some (.lit (.slice none 0 0))) (et wd : Nat) :
    Hp X w (ρ.upd hp.length (.slice none 0 0)) ((hp ++ [Ob.row et wd []]).set id (Ob.box (cs.set f (.slc hp.length wd 0 0)))) ∧ Tr w (Own ρ hp) w (Own (ρ.upd hp.length (.slice none 0 0)) ((hp ++ [Ob.row et wd []]).set id (Ob.box (cs.set f (.slc hp.length wd 0 0))))) := by
  have h1 := h.nil et wd
  have hlt : id < hp.length := (List.getElem?_eq_some_iff.1 hid).1
  have hid' : (hp ++ [Ob.row et wd []])[id]? = some (.box cs) := by rw [List.getElem?_append_left hlt]; exact hid
  obtain ⟨g, et', vs, q1, q2, q3, q4⟩ := h1.has id _ hid'
  have hg : w.grownBy w (some g) := ⟨rfl, rfl, rfl, Nat.le_refl _, fun _ _ _ => rfl⟩
  have hb : Blk (ρ.upd hp.length (.slice none 0 0)) id g (.box cs) := ⟨_, q1, rfl⟩
  have ht := h1.write_tr (ob := .box (cs.set f (.slc hp.length wd 0 0))) hid' (fun b => Iff.rfl) hb hg
  have hh := h1.write (ob := .box (cs.set f (.slc hp.length wd 0 0))) hid' (fun b => Iff.rfl) hb hg (by
    refine ⟨g, et', vs, q1, q2, by rw [List.length_set]; exact q3, fun j c hc => ?_⟩
    rw [List.getElem?_set] at hc
    split at hc
    · rename_i e
      subst e
      split at hc
      · cases hc
        obtain ⟨u, e1, e2⟩ := q4 f _ hf
        obtain ⟨rfl, _⟩ := RepC_lit.1 e2
        refine ⟨_, e1, ?_⟩
        simp only [RepC, RepB]
        exact ⟨none, 0, 0, none, Rho.upd_same _ _ _, rfl, Nat.le_refl _, fun _ => rfl, fun h => absurd rfl h, fun _ => rfl, fun y hy => by cases hy⟩
      · cases hc
    · obtain ⟨u, e1, e2⟩ := q4 j c hc
      exact ⟨u, e1, e2.mono ht (Rho.le.refl _)⟩)
  rw [own_nil] at ht
  exact ⟨hh, ht⟩
end
theorem Weak.nilCell {X : Cx} {s : St} (id f et wd : Nat) (cs : List AV) (hid : s.hp[id]? = some (.box cs)) (hf : cs[f]? = some (.lit (.slice none 0 0))) :
    Weak X s ⟨s.env, setN (s.hp ++ [.row et wd []]) id (.box (setN cs f (.slc s.hp.length wd 0 0))), s.base⟩ := by
  rintro B a w ⟨ρ, r⟩
  rw [setN_eq, setN_eq]
  obtain ⟨k1, k2⟩ := r.hp.nilCell hid hf et wd
  have hle : ρ.le (ρ.upd s.hp.length (.slice none 0 0)) := Rho.le_upd (r.hp.free _ (Nat.le_refl _)) _
  exact ⟨_, k1, r.len, fun t c hc => let ⟨u, e1, e2⟩ := r.env t c hc; ⟨u, e1, e2.mono k2 hle⟩, r.defers, r.tr.trans k2, r.ext.trans hle, r.base, r.bfree⟩
end Go.Proofs.De
