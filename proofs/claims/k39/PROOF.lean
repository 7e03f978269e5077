import PyProof.Rows.All
import Wide.All
import OpenK.AllK
import Wide.FinOn
import HandS.Iter
import HandS.Comp
import HandS.Text
import HandS.Codes
import HandS.Call
import HandS.Walk
import PyProof.EnumMake
import KE.GoesMore
import KE.GoesEnum
import KE.GoesNew
import KE.KDictZip
import HandS.Dict
import HandS.List
import HandS.Words
import HandS.Replace
import HandS.ForMost
import HandS.IsInst
import HandS.Zip
import OpenK.KMore
import HandS.Exc
import HandS.ExcInit
import HandS.ExcField
import HandS.HotCalls
import HandS.Lambda
import HandS.WordsExc
import HandS.CallSlots
import KE.KTryMore
import HandS.More
import PyProof.CollectStr
import HandS.Property
import HandS.Style
import HandS.OwnEq
import HandS.TryOnly
import HandS.Star
import HandS.FStr
import HandS.RaiseMore
import HandS.TupAny
import HandS.MakeKw
import HandS.MakeKwOnly
import KE.KCallOwn
import HandS.ReplaceList
import HandS.ReplaceLit
import HandS.DictComp
import HandS.ClsMeth
import HandS.Defaults
import HandS.Nested
import HandS.StrMore
import HandS.SortRule
import HandS.SetBool
import HandS.Conv
import PyProof.SetRoads
import PyProof.Rows.SetFrom
import KE.KDictKeyed
import HandS.TupLen
import KE.KOpsOwn
import HandS.Flow
import KE.GoesZip
import KE.KDictDisplayH
import HandS.SetFor
import HandS.Strs
import HandS.Head2
import HandS.HeadHook4
import HandS.HeadNt
import HandS.HeadWalk
import HandS.HeadEnd
import KE.KExcInit
import HandS.ExcBuiltin
import HandS.Wide
import HandS.RevRange
import PyProof.Rows.StrLawsPart
import HandS.SortInts
import HandS.GenList
import HandS.Rev
import PyProof.NeKinds
import PyProof.Rows.EqBoolInt
import HandS.HeadHook3
import OpenK.KMeth
import HandS.ExcInitHot
import HandS.RaiseFrom
import HandS.SuiteRaise
import HandS.WordsDict
import HandS.EndTab
import PySem.Challenge.RW_ownfill_k39_texts_of_conditions_refused
set_option Elab.async false
set_option linter.all false
set_option maxRecDepth 100000
set_option maxHeartbeats 4000000
namespace Own
open PySem PySem.Spec PyProof.Rows L2

/-! ### walks that give a new tuple at each turn -/
/-- what an iterator of new tuples gives, in the library's words (GoesN), is a turn of the hand layer: at turn i the tuple's items are some vs with R i vs -/
theorem turn_tuples {P : Program} {w : World} {K : PySem.W.Frag} {tg : Expr} {I : Addr} {fp wr : List Addr} {n : Nat} {St : Nat → Heap → Prop}
    {Y : Nat → Heap → Value → Heap → Prop} {R : Nat → List V → Prop} {J : It} (W : ∀ A : Around, A.handled = none → GoesN P w A tg I fp wr n Y St)
    (hY : ∀ i h0 u h, Y i h0 u h → ∃ T vs us, u = .ref T ∧ h0.objs.size ≤ T ∧ vs.length ≤ sizeLine ∧ R i vs ∧ Vals vs us ∧ h.IsTuple T us.toArray)
    (mem : I ∈ fp) (obj : ∀ i h, St i h → ∀ b ∈ fp, ∃ o, h.get? b = some o ∧ ∀ v, o.data ≠ .cell v)
    (self : ∀ (A : Around) (i : Nat) (s : Shared) (Q : Value → Shared → Prop) (E : Value → Shared → Prop), St i s.heap → Q (.ref I) s → wpAny (model P w) A (pyIter (.ref I)) Q E s)
    (go : ∀ i H, J.go i H → i < n) (stop : ∀ i H, J.stop i H → i = n) (yld : ∀ i H T vs, H T = none → R i vs → J.yld i H (.ref T) (upd H T (.tup vs))) :
    Turn P w K tg J fp I St := by
  refine ⟨mem, obj, fun i h h' st k => (W callerA rfl).frame i h h' st k, ?_, ?_, self⟩
  · rintro X rfl rfl rfl calm i pins s σ H E I0 off st hg
    have G := W X.A (I0.ok.hd calm)
    refine G.goes i s (fun u s2 => ∃ x H', Inv X pins σ H' s2 ∧ RelV x u ∧ J.yld i H x H' ∧ St (i + 1) s2.heap ∧ ∀ b ∈ fp, H' b = none) E (go i H hg) st fun u h tk y st' rest _ => ?_
    obtain ⟨T, vs, us, rfl, young, len, r, rel, tup⟩ := hY _ _ _ _ y
    refine ⟨.ref T, upd H T (.tup vs), ?_, rfl, yld i H T vs (I0.hok.fresh young) r, st', fun b hb => ?_⟩
    · refine I0.turnedNew (t' := tk) (ch := fp) (fun b o nb q => rest b o (fun m => nb (G.sub b m)) q) off young ?_
      obtain ⟨o, e1, e2, e3⟩ := tup
      exact ⟨len, us, rel, o, e1, e2, e3⟩
    · obtain ⟨o, ho, _⟩ := obj i s.heap st b hb
      rw [upd_ne (Nat.ne_of_lt (Nat.lt_of_lt_of_le (Heap.lt_size ho) young))]
      exact (off b hb).1
  · rintro X rfl rfl rfl calm i pins s σ H E I0 off st hg
    have G := W X.A (I0.ok.hd calm)
    rw [stop i H hg] at st
    exact G.stops s (fun s1 => Inv X pins σ H s1) E st fun h tk rest _ => I0.turnedL (t' := tk) (ch := fp) (fun b o nb q => rest b o (fun m => nb (G.sub b m)) q) off

/-! ### a text's signs numbered -/
def ItE (z : Str) : It :=
  ⟨fun i _ => i < z.cps.size,
   fun i H v H' => ∃ T c, v = .ref T ∧ H T = none ∧ z.cps[i]? = some c ∧
     H' = upd H T (.tup [.int (i : Nat), .str ⟨#[c]⟩]),
   fun i _ => i = z.cps.size⟩

theorem turnE {P : Program} {w : World} {K : PySem.W.Frag} {elts : List Expr} {kk : Nat} {tpos : Pos} (z : Str) (t : Tok) (e it : Addr) (ne : e ≠ it) :
    Turn P w K (.Tuple elts kk tpos) (ItE z) [e, it] e
      (fun i h => (∃ old, IsEnum h e it (0 + (i : Int)) old) ∧ h.IsStrIter it (strIterType z) z t i) := by
  refine turn_tuples (R := fun i vs => ∃ c, z.cps[i]? = some c ∧ vs = [.int (i : Nat), .str ⟨#[c]⟩])
    (fun A hh => GoesN.enumFrom (elts := elts) (x1 := kk) (pos := tpos) 0 (Draws.text (prog := P) (w := w) (A := A.in1) hh it z t) e ne
      (fun m => ne (List.mem_singleton.mp m)) (List.mem_singleton.mpr rfl)) ?_ List.mem_cons_self ?_ ?_ (fun _ _ h => h) (fun _ _ h => h) ?_
  · rintro i h0 u h ⟨T, k, x, rfl, young, ⟨c, v, hc, rfl⟩, tup⟩
    rw [Int.zero_add] at tup
    exact ⟨T, _, [_, _], rfl, young, by show 2 ≤ sizeLine; decide, ⟨c, hc, rfl⟩, .cons ⟨_, rfl⟩ (.cons ⟨_, rfl⟩ .nil), tup⟩
  · rintro i h ⟨⟨old, he⟩, ⟨o, ho, _, hd⟩⟩
    simp only [List.forall_mem_cons]
    exact ⟨⟨_, he, fun v => nofun⟩, ⟨o, ho, fun v q => by rw [hd] at q; cases q⟩, fun _ q => nomatch q⟩
  · rintro A i s Q E ⟨⟨_, he⟩, _⟩ h
    exact wpAny_pyIter_enum he h
  · rintro i H T vs free ⟨c, hc, rfl⟩
    exact ⟨T, c, rfl, free, hc, rfl⟩

def iEnS (ta : TA) : TI := fun σ H R => ta σ H fun vs H1 => ∃ z, vs = [.str z] ∧ R (ItE z) H1

theorem pi_enS {X : Cx} {e : Expr} {ta : TA} {p pos tpos : Pos} {elts : List Expr} {kk : Nat}
    (hg : Gl X "enumerate") (hm : X.mg "enumerate" = none) (ha : PA X [e] ta)
    (hs : starEach [e] X.env = [(false, eval e X.env)] := by rfl) :
    PI X (.Tuple elts kk tpos) (.Call (.Name "enumerate" p) [e] [] pos) (iEnS ta) := by
  constructor
  intro pins s σ H R I h
  refine Call_ (ld_blt I hg hm boot_enumerate (PyProof.Rows.callWith_type1 (thn (ha.run pos pins s σ H _ I h) ?_) hs rfl))
  rintro us s1 ⟨vs, H1, I1, r1, z, rfl, q⟩
  obtain ⟨u, rfl, t, rfl⟩ := vals1 r1
  refine call_enumerate_str fun h' he hit _ hk => wpAny_pyIter_enum he ?_
  refine ⟨s1.heap.objs.size + 1, [s1.heap.objs.size + 1, s1.heap.objs.size], _, _, H1, rfl, I1.kept hk, turnE z t _ _ (Nat.succ_ne_self _), ⟨⟨.none, he⟩, hit⟩, ?_, q⟩
  have young : ∀ b, s1.heap.objs.size ≤ b → FpOk X pins H1 b := fun b lb => I1.fpOk lb (I1.hok.fresh lb)
  simp only [List.forall_mem_cons]
  exact ⟨young _ (Nat.le_add_right _ _), young _ (Nat.le_refl _), fun _ q => nomatch q⟩

theorem walkE {z : Str} : Walk (ItE z) z.cps.size (fun _ => True)
    (fun i H v H' => ∃ T c, v = .ref T ∧ H T = none ∧ z.cps[i]? = some c ∧
      H' = upd H T (.tup [.int (i : Nat), .str ⟨#[c]⟩])) :=
  ⟨fun _ _ h _ => h, fun _ _ => rfl, fun _ _ _ _ _ _ h => h⟩
end Own

namespace Own
open PySem PySem.Spec PyProof.Rows L2
/-! ### dict(zip(s, t)): a zip of any two iterators as a source of pairs -/
section
variable {P : Program} {w : World} {A : Around} {z TI TO T i1 i2 d : Addr} {f1 f2 : List Addr} {n1 n2 i : Nat} {s : Shared}
variable {R1 R2 : Nat → Value → Prop} {S1 S2 : Nat → Heap → Prop}

/-- all outside of some places stays -/
def Rest (l : List Addr) (h h' : Heap) : Prop := ∀ b o, b ∉ l → h.get? b = some o → h'.get? b = some o
theorem Rest.of {h h' : Heap} {x : Addr} (e : Heap.SameBut x h h') : Rest [x] h h' :=
  fun b o hb q => e.extBut b o (fun r => hb (List.mem_singleton.mpr r)) q
theorem Rest.push {h : Heap} {o : Obj} : Rest [] h (h.push o) := fun _ _ _ q => Heap.get?_push_of_some _ q
theorem Rest.seq {l1 l2 : List Addr} {h h1 h2 : Heap} (a : Rest l1 h h1) (b : Rest l2 h1 h2) : Rest (l1 ++ l2) h h2 :=
  fun c o hc q => b c o (fun r => hc (List.mem_append_right _ r)) (a c o (fun r => hc (List.mem_append_left _ r)) q)
theorem Rest.more {l1 l2 : List Addr} {h h' : Heap} (a : Rest l1 h h') (b : ∀ c ∈ l1, c ∈ l2) : Rest l2 h h' :=
  fun c o hc q => a c o (fun r => hc (b c r)) q

end

end Own

namespace Own
open PySem PySem.Spec PyProof.Rows L2
end Own

namespace Own
open PySem PySem.Spec PyProof.Rows L2 SX
/-! ### texts -/
theorem idx_of {c : Nat} : ∀ (a : List Nat) (i : Nat), a[i]? = some c → (∀ k, k < i → a[k]? ≠ some c) → a.idxOf c = i
  | [], i, h, _ => by simp at h
  | x :: r, 0, h, _ => by
    have e : x = c := Option.some.inj h
    rw [e, List.idxOf_cons_self]
  | x :: r, i + 1, h, hk => by
    have ne : x ≠ c := fun e => hk 0 (Nat.succ_pos _) (by rw [e]; rfl)
    have ih := idx_of r i h fun k lt e => hk (k + 1) (Nat.succ_lt_succ lt) e
    have nb : (x == c) = false := beq_eq_false_iff_ne.mpr ne
    rw [List.idxOf_cons, nb, ih]
    rfl
theorem occ1 {a : List Nat} {c : Nat} (h : c ∈ a) :
    ∃ rest, Builtin.Str.occurrences (S a) (S [c]) 0 (S a).length 1 = a.idxOf c :: rest := by
  obtain ⟨j, hj⟩ := List.mem_iff_getElem?.mp h
  rcases StrLaws.occ_head (S a) (S [c]) 1 (Nat.le_refl _) with ⟨_, hn⟩ | ⟨i, r, e, hi, hk⟩
  · exact absurd ((StrLaws.subAt_one (S a) c j).mpr hj) (hn j)
  · have h1 : a[i]? = some c := (StrLaws.subAt_one (S a) c i).mp hi
    have e2 := idx_of a i h1 fun k lt q => hk k lt ((StrLaws.subAt_one (S a) c k).mpr q)
    exact ⟨r, by rw [e, e2]⟩
theorem join1 : ∀ cs : List Nat, TL.joinL [] (cs.map fun c => [c]) = cs
  | [] => rfl
  | [_] => rfl
  | x :: y :: r => by
    show [x] ++ ([] ++ TL.joinL [] ((y :: r).map fun c => [c])) = x :: y :: r
    rw [join1 (y :: r)]
    rfl
theorem empty_S : Str.ofString "" = S [] := rfl
theorem joinC (cs : List Nat) : Txt.join (Str.ofString "") (cs.map fun c => S [c]) = S cs := by
  rw [empty_S]
  have e := join_S [] (cs.map fun c => [c])
  rw [List.map_map, join1] at e
  exact e
theorem joinT (ts : List (List Nat)) : Txt.join (Str.ofString "") (ts.map S) = S ts.flatten := by
  rw [empty_S, join_S]
  congr 2
  induction ts with
  | nil => rfl
  | cons x r ih =>
    cases r with
    | nil => simp [TL.joinL]
    | cons y r =>
      show x ++ ([] ++ TL.joinL [] (y :: r)) = _
      rw [ih]
      rfl
theorem one_len (cs : List Nat) : ((cs.map fun c => S [c]).map (·.length)).sum = cs.length := by
  induction cs with
  | nil => rfl
  | cons c r ih =>
    rw [List.map_cons, List.map_cons, List.sum_cons, ih, List.length_cons, S_len]
    show 1 + r.length = _
    omega
theorem az : Str.ofString "abcdefghijklmnopqrstuvwxyz" = S (List.range' 97 26) := by decide +kernel

/-! ### turns -/
theorem get_idx {gs : List Nat} {c : Nat} (h : c ∈ gs) : gs[gs.idxOf c]? = some c := by
  rw [List.getElem?_eq_getElem (List.idxOf_lt_length_of_mem h), List.getElem_idxOf]
def tau (gs p : List Nat) (c : Nat) : Nat := p.getD (gs.idxOf c) 0
theorem tau_at {gs p : List Nat} {c : Nat} (h : c ∈ gs) (hl : p.length = gs.length) : p[gs.idxOf c]? = some (tau gs p c) := by
  have lt : gs.idxOf c < p.length := by rw [hl]; exact List.idxOf_lt_length_of_mem h
  unfold tau
  rw [List.getD_eq_getElem?_getD, List.getElem?_eq_getElem lt]
  rfl
theorem tau_self {gs : List Nat} {c : Nat} (h : c ∈ gs) : tau gs gs c = c := by
  have e := tau_at h (rfl : gs.length = gs.length)
  have e2 : gs[gs.idxOf c]? = some c := get_idx h
  rw [e] at e2
  exact Option.some.inj e2
theorem tau_map {gs m : List Nat} (f : Nat → Nat) {c : Nat} (h : c ∈ gs) (hl : m.length = gs.length) :
    tau gs (m.map f) c = f (tau gs m c) := by
  have e := tau_at (p := m.map f) h (by rw [List.length_map, hl])
  rw [List.getElem?_map, tau_at h hl] at e
  exact (Option.some.inj e).symm
theorem idx_get {y : List Nat} (nd : y.Nodup) {i c : Nat} (h : y[i]? = some c) : y.idxOf c = i := by
  refine idx_of y i h fun k lt e => ?_
  obtain ⟨h1, e1⟩ := List.getElem?_eq_some_iff.mp h
  obtain ⟨h2, e2⟩ := List.getElem?_eq_some_iff.mp e
  have : k = i := (List.getElem_inj nd).mp (e2.trans e1.symm)
  omega
/-! ### how often -/
def it (gs t : List Nat) : Nat → List Nat
  | 0 => t
  | j + 1 => (it gs t j).map (tau gs t)
def lists (n : Nat) : Nat → List (List Nat)
  | 0 => [[]]
  | k + 1 => (List.range n).flatMap fun a => (lists n k).map fun l => a :: l
/-! ### letters -/
def lets (f s n : Nat) : List Nat := (List.range n).map fun k => 97 + (f + s * k) % 26
theorem lets_nd : ∀ f ∈ List.range 26, ∀ s ∈ [1, 3, 5, 25, 7], ∀ n ∈ [2, 3, 4], (lets f s n).Nodup := by
  decide +kernel
structure Good (gs : List Nat) : Prop where
  lo : 2 ≤ gs.length
  hi : gs.length ≤ 4
  nd : gs.Nodup
  az : ∀ c ∈ gs, 97 ≤ c ∧ c ≤ 122
theorem lets_good {f s n : Nat} (hf : f < 26) (hs : s ∈ [1, 3, 5, 25, 7]) (hn : n ∈ [2, 3, 4]) : Good (lets f s n) := by
  have hl : (lets f s n).length = n := by unfold lets; rw [List.length_map, List.length_range]
  have h2 : 2 ≤ n ∧ n ≤ 4 := by
    simp only [List.mem_cons, List.not_mem_nil, or_false] at hn
    omega
  refine ⟨by omega, by omega, lets_nd f (List.mem_range.mpr hf) s hs n hn, fun c hc => ?_⟩
  obtain ⟨k, _, rfl⟩ := List.mem_map.mp hc
  omega

/-! ### the dict of two texts -/
end Own

namespace Own
open PySem PySem.Spec PyProof.Rows L2 SX RZ
/-! ### the drawer -/
def RngV (H : Hp) (r l : Addr) (ns : List Int) (i b s c : Int) : Prop :=
  0 ≤ i ∧ H r = some (.lst [.ref l, .int i, .int b, .int s, .int c]) ∧ H l = some (.lst (ns.map V.int))
def RngL (H : Hp) (r l : Addr) : Prop := ∃ ns i b s c, RngV H r l ns i b s c
def Rng (H : Hp) (r : Addr) : Prop := ∃ l, RngL H r l
/-- all but r as before, and at r a drawer over the same cells -/
def Go (r : Addr) (H H' : Hp) : Prop :=
  (∀ b o, b ≠ r → H b = some o → H' b = some o) ∧ ∃ l, RngL H r l ∧ RngL H' r l

theorem ints_ne {a : List Int} {l : Addr} {xs : List V} : HO.lst (a.map V.int) ≠ HO.lst (V.ref l :: xs) := by
  intro h
  injection h with h
  cases a with
  | nil => cases h
  | cons x r =>
    injection h with h1 h2
    cases h1
theorem RngV.ne {H : Hp} {r l : Addr} {ns : List Int} {i b s c : Int} (h : RngV H r l ns i b s c) : l ≠ r :=
  ne_of h.2.2 h.2.1 ints_ne
theorem RngV.put {H : Hp} {r l : Addr} {ns : List Int} {i b s c i' b' s' c' : Int}
    (h : RngV H r l ns i b s c) (hi : 0 ≤ i') :
    RngV (upd H r (.lst [.ref l, .int i', .int b', .int s', .int c'])) r l ns i' b' s' c' :=
  ⟨hi, upd_same, by rw [upd_ne h.ne]; exact h.2.2⟩
theorem RngL.inj {r l l' : Addr} {H : Hp} (a : RngL H r l) (b : RngL H r l') : l = l' := by
  obtain ⟨ns, i, b', s, c, R⟩ := a
  obtain ⟨ns', i', b'', s', c', R'⟩ := b
  have e := R.2.1.symm.trans R'.2.1
  injection e with e
  injection e with e
  injection e with e1 e2
  injection e1
theorem RngL.same {r l : Addr} {H H' : Hp} (h : RngL H r l) (s : Same H H') : RngL H' r l := by
  obtain ⟨ns, i, b, z, c, R⟩ := h
  exact ⟨ns, i, b, z, c, R.1, s _ _ R.2.1, s _ _ R.2.2⟩
theorem Rng.same {r : Addr} {H H' : Hp} (h : Rng H r) (s : Same H H') : Rng H' r := let ⟨l, h⟩ := h; ⟨l, h.same s⟩
theorem Go.rng {r : Addr} {H H' : Hp} (g : Go r H H') : Rng H' r := let ⟨l, _, h⟩ := g.2; ⟨l, h⟩
theorem Go.rng0 {r : Addr} {H H' : Hp} (g : Go r H H') : Rng H r := let ⟨l, h, _⟩ := g.2; ⟨l, h⟩
theorem Go.trans {r : Addr} {H H1 H2 : Hp} (a : Go r H H1) (b : Go r H1 H2) : Go r H H2 := by
  obtain ⟨a1, l, a2, a3⟩ := a
  obtain ⟨b1, l', b2, b3⟩ := b
  have e := a3.inj b2
  subst e
  exact ⟨fun x o nx e => b1 x o nx (a1 x o nx e), l, a2, b3⟩
theorem Go.refl {r : Addr} {H : Hp} (h : Rng H r) : Go r H H := let ⟨l, h⟩ := h; ⟨fun _ _ _ e => e, l, h, h⟩
theorem Go.of {r : Addr} {H H' : Hp} (h : Rng H r) (s : Same H H') : Go r H H' :=
  let ⟨l, h⟩ := h; ⟨fun _ _ _ e => s _ _ e, l, h, h.same s⟩
theorem Go.same {r : Addr} {H H1 H2 : Hp} (a : Go r H H1) (s : Same H1 H2) : Go r H H2 := a.trans (Go.of a.rng s)
theorem Go.after {r : Addr} {H H1 H2 : Hp} (h : Rng H r) (s : Same H H1) (a : Go r H1 H2) : Go r H H2 := (Go.of h s).trans a
theorem RngL.ex {r l : Addr} {H : Hp} (h : RngL H r l) : (∃ xs, H r = some (.lst xs)) ∧ ∃ xs, H l = some (.lst xs) := by
  obtain ⟨ns, i, b, s, c, R⟩ := h
  exact ⟨⟨_, R.2.1⟩, ⟨_, R.2.2⟩⟩
theorem Rng.ex {r : Addr} {H : Hp} (h : Rng H r) : ∃ xs, H r = some (.lst xs) := let ⟨_, h⟩ := h; h.ex.1
/-- a list made on the way, new at H, is written -/
theorem Go.put {r D : Addr} {H H' : Hp} {o : HO} (g : Go r H H') (nD : H D = none) : Go r H (upd H' D o) := by
  obtain ⟨g1, l, h, h'⟩ := g
  obtain ⟨⟨x1, e1⟩, ⟨x2, e2⟩⟩ := h.ex
  have n1 : r ≠ D := ne_of_none e1 nD
  have n2 : l ≠ D := ne_of_none e2 nD
  refine ⟨fun b u nb e => ?_, l, h, ?_⟩
  · rw [upd_ne (ne_of_none e nD)]
    exact g1 b u nb e
  · obtain ⟨ns, i, b, z, c, R⟩ := h'
    exact ⟨ns, i, b, z, c, R.1, by rw [upd_ne n1]; exact R.2.1, by rw [upd_ne n2]; exact R.2.2⟩
theorem same_new {H : Hp} {p : Addr} {o : HO} (h : H p = none) : Same H (upd H p o) := fun b x e => by
  rw [upd_ne (ne_of_none e h)]
  exact e
theorem Go.seq {K : PySem.W.Frag} {r a : Addr} {H H' : Hp} {xs : List V} (g : Go r H H') (ne : a ≠ r) (h : SqL K H a xs) : SqL K H' a xs := by
  rcases h with (h | ⟨o, h⟩) | h
  · exact .inl (.inl (g.1 _ _ ne h))
  · exact .inl (.inr ⟨o, g.1 _ _ ne h⟩)
  · exact .inr h
theorem small {n : Nat} (h : n ≤ 1000) : n ≤ sizeLine := Nat.le_of_lt (small1000 h)
/-! ### equal data -/
def Flat : V → Prop
  | .non => True
  | .bl _ => True
  | .int _ => True
  | .str _ => True
  | _ => False
/-- two values that are the same data, less than n deep -/
def Eqd (K : PySem.W.Frag) (H : Hp) : Nat → V → V → Prop
  | 0, _, _ => False
  | n + 1, x, y => (x = y ∧ Flat x) ∨ ∃ a b xs ys, x = .ref a ∧ y = .ref b ∧
      ((SqL K H a xs ∧ SqL K H b ys) ∨ (SqT K H a xs ∧ SqT K H b ys)) ∧ xs.length ≤ 1000 ∧ xs.length = ys.length ∧
      ∀ (i : Nat) u v, xs[i]? = some u → ys[i]? = some v → Eqd K H n u v
theorem same_t {K : PySem.W.Frag} {H H' : Hp} {a : Addr} {xs : List V} (e : Same H H') (h : SqT K H a xs) : SqT K H' a xs := by
  rcases h with (h | ⟨o, h⟩) | h
  · exact .inl (.inl (e _ _ h))
  · exact .inl (.inr ⟨o, e _ _ h⟩)
  · exact .inr h
theorem Eqd.same {K : PySem.W.Frag} {H H' : Hp} (s : Same H H') : ∀ {n : Nat} {x y : V}, Eqd K H n x y → Eqd K H' n x y
  | 0, _, _, h => h.elim
  | n + 1, x, y, h => by
    rcases h with h | ⟨a, b, xs, ys, e1, e2, h, l1, l2, k⟩
    · exact Or.inl h
    · refine Or.inr ⟨a, b, xs, ys, e1, e2, ?_, l1, l2, fun i u v hu hv => (k i u v hu hv).same s⟩
      rcases h with ⟨h1, h2⟩ | ⟨h1, h2⟩
      · exact .inl ⟨s.seq h1, s.seq h2⟩
      · exact .inr ⟨same_t s h1, same_t s h2⟩
theorem Eqd.refl {K : PySem.W.Frag} {H : Hp} {n : Nat} {x : V} (h : Flat x) : Eqd K H (n + 1) x x := Or.inl ⟨rfl, h⟩
/-- two lists of flat things -/
theorem Eqd.lst {K : PySem.W.Frag} {H : Hp} {n : Nat} {a b : Addr} {xs : List V} (h1 : H a = some (.lst xs)) (h2 : H b = some (.lst xs)) (hl : xs.length ≤ 1000) (hf : ∀ x ∈ xs, Flat x) :
    Eqd K H (n + 2) (.ref a) (.ref b) := by
  refine Or.inr ⟨a, b, xs, xs, rfl, rfl, .inl ⟨.inl (.inl h1), .inl (.inl h2)⟩, hl, rfl, fun i u v hu hv => ?_⟩
  have e := Option.some.inj (hu.symm.trans hv)
  subst e
  exact Eqd.refl (hf _ (List.mem_of_getElem? hu))
def spDraws (K : PySem.W.Frag) : Sp := fun vs H Q _ => ∃ (a : Addr) (ns : List Int), vs = [.ref a] ∧
  SqL K H a (ns.map V.int) ∧ ∀ H' r, Same H H' → H r = none → Rng H' r → Q (.ref r) H'
def spDraw : Sp := fun vs H Q _ => ∃ (r : Addr) (n : Int), vs = [.ref r, .int n] ∧ 0 < n ∧ n < 1000000 ∧
  Rng H r ∧ ∀ H' k, Go r H H' → 0 ≤ k → k < n → Q (.int k) H'
def spPick (K : PySem.W.Frag) : Sp := fun vs H Q _ => ∃ (r : Addr) (x : V), vs = [.ref r, x] ∧ Rng H r ∧
  ((∃ a xs, x = .ref a ∧ a ≠ r ∧ SqL K H a xs ∧ 0 < xs.length ∧ xs.length ≤ 1000 ∧ ∀ H' v, Go r H H' → v ∈ xs → Q v H') ∨
   (∃ cs : List Nat, x = .str (S cs) ∧ 0 < cs.length ∧ cs.length ≤ 1000 ∧ ∀ H' c, Go r H H' → c ∈ cs → Q (.str (S [c])) H'))
def spLetters : Sp := fun vs H Q _ => ∃ (r : Addr) (m : Int), vs = [.ref r, .int m] ∧ 2 ≤ m ∧ Rng H r ∧
  ∀ H' gs, Go r H H' → Good gs → (gs.length : Int) ≤ m → Q (.str (S gs)) H'
def spTurn : Sp := fun vs H Q _ => ∃ (r : Addr) (gs : List Nat), vs = [.ref r, .str (S gs)] ∧ gs.length ≤ 1000 ∧ Rng H r ∧
  ∀ H' t, Go r H H' → t.Perm gs → Q (.str (S t)) H'
/-! ### calls in short -/
structure Cl (P : Program) (w : World) (K : PySem.W.Frag) (mg : Str → Option Value) (base : Heap) (x : Str) (k : Nat) (ps : List Str) (sp : Sp) (f : Addr) (fd : FuncData) : Prop where
  ok : FnOk P w K mg base CX0 k f fd ps sp
  gl : mg x = some (.ref f)
  kp : PySem.W.keepIn K (.ref f) = true
  bd : Binds K fd ps []
section
variable {X : Cx} {k j : Nat} {f : Addr} {fd : FuncData} {ps ks : List Str} {sp : Sp} {x : Str} {p pos : Pos} {e : Expr} {es : List Expr} {kws : List Keyword} {t tk : TA}
theorem pe_cl (C : Cl X.prog X.w X.K X.mg X.base x k ps sp f fd) (hr : Room j X.A) (hk : k ≤ j) (hg : Gl X x) (ha : PA X (e :: es) t)
    (hdb : (x == ("__debug__" : Str)) = false := by decide) (he : starEach (e :: es) X.env = (false, eval e X.env) :: starEach es X.env := by rfl)
    (hpl : (backTo pos (starEach es X.env)).any (·.1) = false := by rfl) :
    PE X (.Call (.Name x p) (e :: es) [] pos) (tCall sp [] E0 t) :=
  pe_call C.ok (hr.mono hk) hg C.gl C.kp C.bd .nil pass0 ha hdb he hpl
end
end Own

namespace Own
open PySem PySem.Spec PyProof.Rows L2 SX
/-! ### try: .. except (A, B) as e: .. -/
theorem fly_keep {B h h' : Heap} {l : List Env} {a : Addr} {Z : Obj → Prop} (x : HandSPX.FlyingZ B l a Z h)
    (k : ∀ b o, h.get? b = some o → h'.get? b = some o) : HandSPX.FlyingZ B l a Z h' := by
  obtain ⟨x1, x2, x3, oe, vs, T, oT, ts, e1, e2, e3, e4, e5, e6, e7, e8, e9⟩ := x
  refine ⟨fun b o e => k b o (x1 b o e), x2, x3.of_keeps fun b o e _ => ⟨o, k b o e, rfl⟩, ?_⟩
  exact ⟨oe, vs, T, oT, ts, k _ _ e1, e2, e3, e4, e5, e6, k _ _ e7, e8, e9⟩

def dropN (i : Nat) (D : Ends) : Ends := { nx := fun σ' H' => D.nx (σ'.set i none) H', rt := D.rt, bk := fun σ' H' => D.bk (σ'.set i none) H', ct := fun σ' H' => D.ct (σ'.set i none) H' }
/-- what the clause «except (x1, x2) as n» wishes: the exception is one of them; slot i is n's -/
def wTwo (K : PySem.W.Frag) (c1 c2 : Value) (nn i : Nat) (ts : Addr → Value → Option Addr → TS) (D : Ends) : WX :=
  fun cls d σ H => PySem.W.exmAny K cls [c1, c2] = some true ∧ ∀ a, H a = none → σ.length = nn →
    ts a cls d (dropN i D) (σ.set i (some (.ref a))) H

/-- a caught exception at a as a clause looks at it, over the def's own state -/
structure Seen (X : Cx) (pins : List (Addr × Obj)) (B : Heap) (a : Addr) (cls : Value) (d : Option Addr) (σ : L2.St) (H : Hp) (s : Shared) : Prop where
  inv : Inv X pins σ H s
  fly : HandSPX.FlyingZ B (X.env :: X.outer) a (Zc cls d) s.heap
  free : H a = none
/-- the exception is none of the frames, so the suite may run with it pinned -/
theorem Seen.go {X : Cx} {pins : List (Addr × Obj)} {B : Heap} {a : Addr} {cls : Value} {d : Option Addr} {σ : L2.St} {H : Hp} {s : Shared}
    (g : Seen X pins B a cls d σ H s) (hf : X.env.frame = some X.env.locals) :
    ∃ oe, s.heap.get? a = some oe ∧ Zc cls d oe ∧ (∃ vs, oe.data = .fields vs) ∧ Inv (X.suite a ((a, oe) :: (X.pn ++ pins))) [] σ H s := by
  obtain ⟨oe, vs, e, hz, hd⟩ := g.fly.there
  have apart : ∀ v ∈ X.env :: X.outer, v.frame ≠ some a := fun v hv q => by
    obtain ⟨_, o', e', n⟩ := g.fly.2.2.1.mem (List.mem_filterMap.mpr ⟨v, hv, q⟩)
    cases e.symm.trans e'
    exact n _ hd
  refine ⟨oe, e, hz, ⟨vs, hd⟩, g.inv.suite e hd g.free (fun q => apart _ List.mem_cons_self (by rw [hf, q])) fun hm => ?_⟩
  obtain ⟨v, hv, q⟩ := List.mem_filterMap.mp hm
  exact apart v (List.mem_cons_of_mem _ hv) q

section
variable {X : Cx} {x1 x2 n : Str} {c1 c2 : Value} {i k : Nat} {body suite : List Stmt} {b0 : Stmt}
variable {p1 p2 pt pos pos' : Pos} {tb : WX → TS} {ts : Addr → Value → Option Addr → TS}
/-- (x1, x2) of two classes of the module, while an exception is handled -/
theorem two_classes {a : Addr} {pn : List (Addr × Obj)} {pins : List (Addr × Obj)} {σ : L2.St} {H : Hp} {s : Shared} {Q : Value → Shared → Prop} {E : Value → Shared → Prop}
    (I : Inv (X.suite a pn) pins σ H s) (g1 : Gl X x1) (m1 : X.mg x1 = some c1) (d1 : (x1 == ("__debug__" : Str)) = false)
    (g2 : Gl X x2) (m2 : X.mg x2 = some c2) (d2 : (x2 == ("__debug__" : Str)) = false)
    (q : Q (.ref s.heap.objs.size) { s with heap := s.heap.push { cls := .type "tuple", data := .seq [c1, c2].toArray } }) :
    wpAny (model X.prog X.w) (X.A.mark (some (.ref a))) (eval (.Tuple [.Name x1 p1, .Name x2 p2] k pt) X.env) Q E s :=
  wpAny_Tuple_spliced (Calls.spliced_cons (x := eval (.Name x1 p1) X.env) (rest := backTo pt (starEach [.Name x2 p2] X.env)) (ld_glob (X := X.suite a pn) I g1 m1
    (Calls.spliced_cons (x := eval (.Name x2 p2) X.env) (rest := backTo pt (starEach [] X.env)) (ld_glob (X := X.suite a pn) I g2 m2
      (Calls.spliced_nil ⟨by show 2 ≤ sizeLine; decide, q⟩) d2)) d1))
/-- the suite's end: n is gone, and what was pinned is the def's own again -/
theorem ends_two {a : Addr} {pins : List (Addr × Obj)} {oe : Obj} {D : Ends} {fl : Flow} {s : Shared} {E : Value → Shared → Prop}
    (ok : X.Ok) (hN : X.N.Nodup) (hi : X.N[i]? = some n) (hln : X.env.kindOf n = some .local)
    (h : SP (X.suite a ((a, oe) :: (X.pn ++ pins))) [] (dropN i D) fl s) :
    wpAny (model X.prog X.w) X.A (do bindName X.env n .none; unbindBehindTheSuite X.env n pos') (fun _ s' => SP X pins D fl s') E s := by
  cases fl with
  | ret u =>
    obtain ⟨v, σ', H', S, r, q⟩ := h
    exact gone_ok (S.unsuite ok) hN hi hln fun s' J => ⟨v, _, H', J, r, q⟩
  | _ =>
    obtain ⟨σ', H', S, q⟩ := h
    exact gone_ok (S.unsuite ok) hN hi hln fun s' J => ⟨_, H', J, q⟩
theorem ps_two (hs : X.stack = X.env :: X.outer) (hf : X.env.frame = some X.env.locals) (hN : X.N.Nodup)
    (hi : X.N[i]? = some n) (hln : X.env.kindOf n = some .local)
    (g1 : Gl X x1) (m1 : X.mg x1 = some c1) (d1 : (x1 == ("__debug__" : Str)) = false)
    (g2 : Gl X x2) (m2 : X.mg x2 = some c2) (d2 : (x2 == ("__debug__" : Str)) = false)
    (hb : ∀ (W : WX) (pn : List (Addr × Obj)) (xe : Value → Shared → Prop), Takes (X.tr pn xe) W →
      PassesOwn (model X.prog X.w) X.A X.env xe → PSs (X.tr pn xe) body (tb W))
    (hsu : ∀ (a : Addr) (oe : Obj) (cls : Value) (d : Option Addr) (pn : List (Addr × Obj)), Zc cls d oe →
      (∃ vs, oe.data = .fields vs) → PSs (X.suite a ((a, oe) :: pn)) (b0 :: suite) (ts a cls d)) :
    PS X (.Try body [.ExceptHandler (some (.Tuple [.Name x1 p1, .Name x2 p2] k pt)) (some n) (b0 :: suite) pos'] [] [] pos)
      (fun D σ H => tb (wTwo X.K c1 c2 X.N.length i ts D) D σ H) := by
  constructor
  intro pins s σ H D I h
  have ok := I.ok
  refine wpAny_Try_except (wpAny_mono ((hb (wTwo X.K c1 c2 X.N.length i ts D) (X.pn ++ pins) _ ?_ PassesOwn.looking).run [] s σ H D (I.toTry _) h) ?_ fun _ _ e => e)
  · rintro u s' ⟨a, B, sI, pins', σ', H', cls, d, rfl, J', nb, up, sky, na, os, ag, two, wish⟩
    have J := J'.ofTry (pins := pins) ok
    refine Sky.land Zc.steady (by rw [ok.frames, hs]) hf (by rw [← hs]; exact sky) fun h1 f1 u1 => ?_
    have seen1 : Seen X pins B a cls d σ' H' { s' with heap := h1 } := ⟨J.landed nb f1.1 (up.trans u1) os ag, f1, na⟩
    obtain ⟨o1, e1, z1, _, S1⟩ := seen1.go hf
    -- the tuple of the two classes lies behind all that was there
    have grow : ∀ b o, h1.get? b = some o → (h1.push { cls := .type "tuple", data := .seq [c1, c2].toArray }).get? b = some o :=
      fun _ _ e => Heap.get?_push_of_some _ e
    have there : (h1.push { cls := .type "tuple", data := .seq [c1, c2].toArray }).get? h1.objs.size =
        some { cls := .type "tuple", data := .seq [c1, c2].toArray } := Heap.get?_push_size _ rfl
    refine wpAny_handleBy_cons (codeAny_handlers_test (two_classes S1 g1 m1 d1 g2 m2 d2 ?_)) (fun q => nomatch q)
    refine (PySem.W.exm_tup2 (M := model X.prog X.w) (seen1.inv.kept (t' := s'.toks) grow).kIn
      (fun A Q E s k q => wpAny_typeOf_ref (k _ _ (grow _ _ e1)) (by rw [z1.1]; exact q)) there two).here
        (codeAny_handlers_suite_as (HandSPX.lands_againZ (fly_keep f1 grow) fun h2 f2 u2 => ?_))
    have seen2 : Seen X pins B a cls d σ' H' { s' with heap := h2 } :=
      ⟨J.landed nb f2.1 (((up.trans u1).trans (Heap.UpToSlots.of_keeps grow)).trans u2) os ag, f2, na⟩
    obtain ⟨o2, _, z2, v2, S2⟩ := seen2.go hf
    refine store_ok (X := X.suite a ((a, o2) :: (X.pn ++ pins))) (v := .ref a) S2 hN hi (.inl hln) rfl (fun s3 S3 => ?_) (.inr hln)
    exact wpAny_mono ((hsu a o2 cls d (X.pn ++ pins) z2 v2).run [] s3 _ H' _ S3 (wish a na J.len))
      (fun fl s4 hs4 => ends_two ok hN hi hln hs4) fun _ _ no => no.elim
  · intro fl s1 h1
    cases fl with
    | next => obtain ⟨σ', H', K', q⟩ := h1; exact wpAny_execs_nil ⟨σ', H', K'.ofTry ok, q⟩
    | ret u => obtain ⟨v, σ', H', K', r, q⟩ := h1; exact ⟨v, σ', H', K'.ofTry ok, r, q⟩
    | _ => obtain ⟨σ', H', K', q⟩ := h1; exact ⟨σ', H', K'.ofTry ok, q⟩
end
end Own

namespace Own
open PySem PySem.Spec PyProof.Rows L2 SX
/-- what is known of a caught exception: a its object, cls its class, d its dict -/
def tXg (K : PySem.W.Frag) (a : Addr) (cls : Value) (d : Option Addr) (f : Str) (te : TE) : TE := fun σ H Q => te σ H fun x H1 =>
  x = .ref a ∧ ∃ (C dd : Addr) (fs : List (Str × V)) (v : V), cls = .ref C ∧ XfC K C ∧ PySem.W.findIn K (.ref C) f = some none ∧
    d = some dd ∧ H1 dd = some (.xd fs) ∧ fs.lookup f = some v ∧ Q v H1
theorem pe_xg {X : Cx} {a : Addr} {oe : Obj} {cls : Value} {d : Option Addr} {e : Expr} {te : TE} {pos : Pos} {n : Str}
    (hp : (a, oe) ∈ X.pn) (hz : Zc cls d oe) (hf : ∃ vs, oe.data = .fields vs) (he : PE X e te)
    (hb : attributeBase e n X.env (eval e X.env) = eval e X.env := by rfl) :
    PE X (.Attribute e n pos) (tXg X.K a cls d n te) := by
  constructor
  intro pins s σ H Q I h
  refine attr_of hb (thn (he.run pins s σ H _ I h) ?_)
  rintro u s1 ⟨_, H1, I1, rx, rfl, C, dd, fs, v, rfl, T, none', rfl, lies, look, q⟩
  have eu : u = .ref a := rx
  subst eu
  obtain ⟨vs, hd⟩ := hf
  obtain ⟨m, ns, all⟩ := (show ObjOk X.prog X.w H1 s1.heap dd (.xd fs) from I1.hok dd _ lies)
  obtain ⟨od, od_at, od_look⟩ := lookIn_ns ns
  obtain ⟨u', mu, ru⟩ := RelO.some_of (o := m n) (v := v) (look ▸ all n)
  refine HandSPX.exc_get I1.kIn (C := C) (ox := oe) (od := some od) ?_ T.ga T.gg T.exC (PySem.W.findObj_own T.hdC none' rfl (by rw [od_look, mu])) (handed_of ru) ⟨v, H1, I1.tok _, ru, q⟩
  refine ⟨(I1.pin (a, oe) (List.mem_append_left _ hp)).1, hz.1, ?_, hz.2 ▸ od_at⟩
  rw [PySem.W.notCls, hd]

/-! ### a def called with the caught exception -/
abbrev SpX := Addr → Value → Option Addr → Sp
structure FnP (P : Program) (w : World) (K : PySem.W.Frag) (mg : Str → Option Value) (base : Heap) (k : Nat) (f : Addr) (fd : FuncData) (ps : List Str) (sp : SpX) : Prop where
  len : ∀ a cls d vs H Q E, sp a cls d vs H Q E → vs.length = ps.length
  run : ∀ (A : Around) (outer : List Env) (s : Shared) (H : Hp) (args : Args) (us : List Value) (vs : List V) (Q : VK) (a : Addr) (oe : Obj) (cls : Value) (d : Option Addr),
    L2H.RoomH k A → L2H.PinOk outer H s (a, oe) → Zc cls d oe → (∃ vs, oe.data = .fields vs) → Env0 P w K mg base A outer s H →
    BindsTo s fd args (ps.zip us) → Vals vs us → sp a cls d vs H Q E0 → codeAny (model P w) A (.call (.ref f) args) (CR CX0 outer P w H s Q E0) s

theorem fn_ofP {P : Program} {w : World} {K : PySem.W.Frag} {mg : Str → Option Value} {base : Heap} {k : Nat} {f : Addr} {x qual : Str} {st : Stmt} {fd : FuncData}
    {N ps : List Str} {sp : SpX} (F : Fun K x qual st f fd) (S : FnScope N ps (defScope st)) (len : ∀ a cls d vs H Q E, sp a cls d vs H Q E → vs.length = ps.length)
    (hbody : ∀ (cdv : Value) (A : Around) (outer : List Env) (s : Shared) (H : Hp) (vs : List V) (Q : VK) (a : Addr) (oe : Obj) (cls : Value) (d : Option Addr),
      Zc cls d oe → (∃ vs, oe.data = .fields vs) → L2H.RoomH k (A.deeper (envOfC qual (defScope st) s.heap.objs.size f cdv)) → sp a cls d vs H Q E0 →
      ∃ t, PSs (L2H.cxH CX0 P w K mg base N qual (defScope st) f cdv A outer s H E0 (a, oe)) (defBody st) t ∧ t { nx := fun _ H' => Q .non H', rt := Q } (L2.start N vs) H) :
    FnP P w K mg base (k + 1) f fd ps sp := by
  refine ⟨len, ?_⟩
  intro A outer s H args us vs Q a oe cls d room pin hz hf env bind rel asks
  obtain ⟨_, _, _, _, _, _, cdv, _, _, rfl, at_, code⟩ := F.ex
  have kept : ∀ b o, base.get? b = some o → s.heap.get? b = some o := fun b o e => (env.bs b o e).1
  have frag := env.mod.kin.keeps kept
  refine codeAny_call_function room.depth (frag _ _ at_) rfl S.co S.gen rfl (PySem.W.codeRec_of frag code) (bind _ _ _ _ (wpAny_newFunctionEnv_cells S.kind ?_ ?_))
  · rintro ⟨y, v⟩ hy
    exact (S.par y (List.of_mem_zip hy).1).imp id fun q => ⟨q, PySem.W.cellsFrom_some _ _ _ (.inl q)⟩
  · rintro _ rfl s1 begun
    obtain ⟨t, body, wish⟩ := hbody cdv A outer s H vs Q a oe cls d hz hf (room.deeper _) asks
    have I := L2H.inv_startH (CX := CX0) (E := E0) S pin env (len _ _ _ _ _ _ _ asks) rel begun
    refine ⟨(env.mod.nolimit.keeps kept).keeps begun.toInCall.keep, codeAny_func (wpAny_mono (body.run [] s1 (L2.start N vs) H _ I wish) ?_ fun _ _ no => no)⟩
    intro fl s' out
    rcases fl with _ | u | _ | _
    all_goals first
      | (obtain ⟨_, _, _, no⟩ := out; exact no.elim)
      | (obtain ⟨σ', H', J, q⟩ := out; exact ⟨V.non, H', J.os, J.bare, J.base, J.hok, rfl, q⟩)
      | (obtain ⟨v, σ', H', J, rv, q⟩ := out; exact ⟨v, H', J.os, J.bare, J.base, J.hok, rv, q⟩)

theorem pe_callP {X : Cx} {k : Nat} {f a : Addr} {oe : Obj} {cls : Value} {d : Option Addr} {fd : FuncData} {ps : List Str} {sp : SpX} {x : Str} {p pos : Pos} {e : Expr} {es : List Expr} {t : TA}
    (hp : (a, oe) ∈ X.pn) (hz : Zc cls d oe) (hf : ∃ vs, oe.data = .fields vs)
    (F : FnP X.prog X.w X.K X.mg X.base k f fd ps sp) (hr : L2H.RoomH k X.A) (hg : Gl X x) (hm : X.mg x = some (.ref f)) (hk : PySem.W.keepIn X.K (.ref f) = true) (hb : Binds X.K fd ps [])
    (ha : PA X (e :: es) t) (hdb : (x == ("__debug__" : Str)) = false := by decide)
    (he : starEach (e :: es) X.env = (false, eval e X.env) :: starEach es X.env := by rfl) (hpl : (backTo pos (starEach es X.env)).any (·.1) = false := by rfl) :
    PE X (.Call (.Name x p) (e :: es) [] pos) (fun σ H Q => t σ H fun vs H1 => sp a cls d vs H1 Q E0) := by
  constructor
  intro pins s σ H Q I h
  refine wpAny_Call_Name_kw (ld_glob I hg hm (PySem.W.callWith_K (h₀ := X.base) I.ok.mod.kin hk (thn (ha.run pos pins s σ H _ I h) ?_) he hpl) hdb)
  rintro us s1 ⟨vs, H1, I1, rel, asks⟩
  have bound : BindsTo s1 fd ⟨us, []⟩ (ps.zip us) := by
    have := hb s1 us I1.kIn (by rw [List.append_nil, ← rel.length]; exact F.len _ _ _ _ _ _ _ asks)
    rwa [List.append_nil] at this
  obtain ⟨lies, free, c1, c2, c3⟩ := I1.pin (a, oe) (List.mem_append_left _ hp)
  have pin : L2H.PinOk X.stack H1 s1 (a, oe) := ⟨lies, free, fun m => (List.mem_cons.mp (I1.stkSub _ m)).elim c1 c2, c3⟩
  refine ⟨I1.kIn, wpAny_call (codeAny_mono (F.run X.A X.stack s1 H1 ⟨us, []⟩ us vs Q a oe cls d hr pin hz hf I1.env0 bound rel asks) ?_)⟩
  rintro (er | (_ | u | _ | _)) s' out
  all_goals first | exact I1.after out | exact (show False from out).elim

/-! ### the fields of errors -/
end Own

namespace Own
open PySem PySem.Spec PyProof.Rows L2 SX
/-- C() of an error class with an own __init__ -/
theorem pmk0 {X : Cx} {CX : CXT} {x : Str} {C fI : Addr} {k : Nat} {fd : FuncData} {ps : List Str} {sp : Sp} {p pos : Pos} (T : OexC X.K C)
    (iC : PySem.W.findIn X.K (.ref C) "__init__" = some (some (.ref fI))) (tI : PySem.W.typeIn X.K (.ref fI) = some (.type "function"))
    (F1 : FnOk X.prog X.w X.K X.mg X.base CX k fI fd ps sp) (hr : Room (k + 1) X.A) (hb : Binds X.K fd ps []) (hx : Passes CX X (fun _ _ _ => False))
    (hg : Gl X x) (hm : X.mg x = some (.ref C)) (hdb : (x == ("__debug__" : Str)) = false := by decide) :
    PMk X (.Call (.Name x p) [] [] pos) (tMkO C sp [] tNil) := by
  rintro pins ⟨hp, g, dr, tk, os⟩ σ H Q I ⟨_, asks⟩
  obtain ⟨_, _, _, _, bm, _, _, _, _, _, _, _, _, _, _, cls, refs⟩ := T.cls
  -- the error lies right behind its empty tuple of arguments
  let a : Addr := hp.objs.size + 1
  let h2 := (hp.push (PySem.W.kdv_tup [])).push (PySem.HandSPX.excO C hp.objs.size)
  have young : hp.objs.size ≤ a := Nat.le_add_right _ _
  have wish := asks a (I.hok.fresh young)
  have stays : ∀ b o, hp.get? b = some o → h2.get? b = some o := fun b o e => by
    have e1 : (hp.push (PySem.W.kdv_tup [])).get? b = some o := Heap.get?_push_of_some _ e
    exact Heap.get?_push_of_some _ e1
  have lies : h2.get? a = some (PySem.HandSPX.excO C hp.objs.size) := by
    show ((hp.push (PySem.W.kdv_tup [])).push (PySem.HandSPX.excO C hp.objs.size)).get? (hp.objs.size + 1) = _
    heap_get
  have I2 : Inv X pins σ (upd H a (exo a C none)) ⟨h2, g, dr, tk, os⟩ := I.laid (t' := tk) stays young (exo_ok lies)
  have rel : Vals [V.ref a] [Value.ref a] := .cons rfl .nil
  have init := F1.run _ X.stack ⟨h2, g, dr, tk, os⟩ _ ⟨[.ref a], []⟩ [.ref a] _ _ (fun _ _ _ => False)
    (hr.make C [] []) (I2.env0.make C [] []) (hb _ [.ref a] I2.kIn (F1.len _ _ _ _ wish)) rel wish
  refine wpAny_Call_Name_kw (ld_glob I hg hm (PySem.W.callWith_K0 I.kIn T.kC (wpAny_call
    (PySem.HandSPX.call_own F.excBase_ValueError (fun Y => PySem.HandSPX.refsVE_contains Y bm refs) (I.kIn _ _ cls)
      (PySem.W.looks_findIn I.kIn iC) (fun self => PySem.W.bind_fn I.kIn self tI) (Nat.zero_le _) (codeAny_mono init ?_)))) hdb)
  rintro (er | fl) s' out
  · exact hx pins σ _ _ er s' I2 out
  · cases fl with
    | ret u =>
      obtain ⟨_, H2, o1, o2, o3, o4, rv, rfl, d, fs, ea, ed, hd, q⟩ := out
      exact ⟨rv, mk_end (raises_own T.exC T.tyC) I young stays o3 o4 o1 o2 ea ed hd q⟩
    | _ => exact out.elim

/-- self.code = «code» -/
def spI0 (K : PySem.W.Frag) (C : Addr) (code : Str) : Sp := fun vs H Q _ => ∃ a, vs = [.ref a] ∧ H a = some (exo a C none) ∧
  ∀ dx, H dx = none → dx ≠ a → Q .non (upd (upd H dx (exd dx [("code", .str code)])) a (exo a C (some dx)))
/-- self.code = «code»; self.position = position -/
def spI1 (K : PySem.W.Frag) (C : Addr) (code : Str) : Sp := fun vs H Q _ => ∃ a v, vs = [.ref a, v] ∧ H a = some (exo a C none) ∧
  ∀ dx, H dx = none → dx ≠ a → Q .non (upd (upd (upd H dx (exd dx [("code", .str code)])) a (exo a C (some dx))) dx (exd dx [("position", v), ("code", .str code)]))
/-- what is left behind a raise -/
theorem after0 {H1 : Hp} {a dx C : Addr} {fs : List (Str × V)} {o : HO} (na : H1 a = none) (nd : (upd H1 a o) dx = none) (ne : dx ≠ a) :
    H1 dx = none ∧ Same H1 (upd (del (upd (upd (upd H1 a o) dx (exd dx fs)) a (exo a C (some dx))) a) dx (.xd fs)) := by
  have n1 : H1 dx = none := by rw [upd_ne ne] at nd; exact nd
  refine ⟨n1, fun b u e => ?_⟩
  have b1 : b ≠ a := ne_of_none e na
  have b2 : b ≠ dx := ne_of_none e n1
  rw [upd_ne b2, del_ne b1, upd_ne b1, upd_ne b2, upd_ne b1]
  exact e
theorem after1 {H1 : Hp} {a dx C : Addr} {fs gs : List (Str × V)} {o : HO} (na : H1 a = none) (nd : (upd H1 a o) dx = none) (ne : dx ≠ a) :
    H1 dx = none ∧ Same H1 (upd (del (upd (upd (upd (upd H1 a o) dx (exd dx gs)) a (exo a C (some dx))) dx (exd dx fs)) a) dx (.xd fs)) := by
  have n1 : H1 dx = none := by rw [upd_ne ne] at nd; exact nd
  refine ⟨n1, fun b u e => ?_⟩
  have b1 : b ≠ a := ne_of_none e na
  have b2 : b ≠ dx := ne_of_none e n1
  rw [upd_ne b2, del_ne b1, upd_ne b2, upd_ne b1, upd_ne b2, upd_ne b1]
  exact e
/-- the facts of an error class -/
structure ErrC (K : PySem.W.Frag) (mg : Str → Option Value) (x : Str) (C : Addr) : Prop where
  ox : OexC K C
  gl : mg x = some (.ref C)
  nc : PySem.W.findIn K (.ref C) "code" = some none
  np : PySem.W.findIn K (.ref C) "position" = some none
  xf : XfC K C

/-! ### _law_try -/
/-- valid letters -/
structure Valid (cs : List Nat) : Prop where
  lo : 2 ≤ cs.length
  hi : cs.length ≤ 4
  az : ∀ c ∈ cs, 97 ≤ c ∧ c ≤ 122
  nd : cs.Nodup
def spCL (C : Addr) : Sp := fun vs H Q E => ∃ cs, vs = [.str (S cs)] ∧ cs.length ≤ 1000 ∧ (Valid cs → ∀ H', Same H H' → Q .non H') ∧
  (¬ Valid cs → ∀ H' d, Same H H' → H' d = some (.xd [("code", .str "InvalidLetters")]) → E (.ref C) (some d) H')
end Own

namespace Own
open PySem PySem.Spec PyProof.Rows L2 SX
/-! ### tables of code objects, and the drawer -/
theorem Same.extN {H H' : Hp} (s : Same H H') : LamX.ExtN H H' := fun b o h _ => s b o h
theorem tabs_same {T : List (Addr × Str)} {H H' : Hp} (t : LamX.Tabs T H) (s : Same H H') : LamX.Tabs T H' := t.ext s
theorem tabs_go {T : List (Addr × Str)} {r : Addr} {H H' : Hp} (t : LamX.Tabs T H) (g : Go r H H') : LamX.Tabs T H' := by
  intro p hp
  obtain ⟨ps, h1, h2, h3⟩ := t p hp
  obtain ⟨xs, er⟩ := g.rng0.ex
  refine ⟨ps, g.1 _ _ (ne_of h1 er fun e => by cases e) h1, h2, fun pos cv hc => ?_⟩
  obtain ⟨c, e1, e2⟩ := h3 pos cv hc
  exact ⟨c, e1, g.1 _ _ (ne_of e2 er fun e => by unfold LamX.CodeO at e; cases e) e2⟩
theorem rng_extN {r : Addr} {H H' : Hp} (R : Rng H r) (e : LamX.ExtN H H') : Rng H' r := by
  obtain ⟨l, ns, i, b, z, c, R⟩ := R
  exact ⟨l, ns, i, b, z, c, R.1, e _ _ R.2.1 (fun ps h => by cases h), e _ _ R.2.2 (fun ps h => by cases h)⟩
/-- all but the tables and the drawer at r stay; there is a drawer -/
structure Keep (T : List (Addr × Str)) (r : Addr) (H : Hp) : Prop where
  rng : Rng H r
  tab : LamX.Tabs T H
theorem Keep.same {T : List (Addr × Str)} {r : Addr} {H H' : Hp} (k : Keep T r H) (s : Same H H') : Keep T r H' := ⟨k.rng.same s, tabs_same k.tab s⟩
theorem Keep.go {T : List (Addr × Str)} {r : Addr} {H H' : Hp} (k : Keep T r H) (g : Go r H H') : Keep T r H' := ⟨g.rng, tabs_go k.tab g⟩
theorem Keep.ext {T : List (Addr × Str)} {r : Addr} {H H' : Hp} (k : Keep T r H) (e : LamX.ExtN H H') (t : LamX.Tabs T H') : Keep T r H' := ⟨rng_extN k.rng e, t⟩
theorem Keep.new {T : List (Addr × Str)} {r p : Addr} {H : Hp} {o : HO} (k : Keep T r H) (n : H p = none) : Keep T r (upd H p o) := k.same (same_new n)
/-! ### two calls tried -/
section
variable {K : PySem.W.Frag} {mg : Str → Option Value} {T : List (Addr × Str)} {CF CM C : Addr} {H : Hp} {σ : L2.St} {Q : VK} {x : Str} {ta : TA}
/-- the first sign of xs that is none of gs -/
def Bad (gs xs : List Nat) (i : Nat) : Prop := ∃ c : Nat, xs[i]? = some c ∧ c ∉ gs ∧ ∀ (j c' : Nat), j < i → xs[j]? = some c' → c' ∈ gs
theorem Bad.one {gs xs : List Nat} {i j : Nat} (a : Bad gs xs i) (b : Bad gs xs j) : i = j := by
  obtain ⟨c, h1, h2, h3⟩ := a
  obtain ⟨d, k1, k2, k3⟩ := b
  rcases Nat.lt_trichotomy i j with h | h | h
  · exact absurd (k3 i c h h1) h2
  · exact h
  · exact absurd (h3 j d h k1) k2
end
/-! ### signs that stand twice, signs that are none of the letters -/
/-! ### lists of ints compared with nothing -/
/-- two tuples of flat things -/
theorem Eqd.tup {K : PySem.W.Frag} {H : Hp} {n : Nat} {a b : Addr} {xs : List V} (h1 : H a = some (.tup xs)) (h2 : H b = some (.tup xs)) (hl : xs.length ≤ 1000) (hf : ∀ x ∈ xs, Flat x) :
    Eqd K H (n + 2) (.ref a) (.ref b) := by
  refine Or.inr ⟨a, b, xs, xs, rfl, rfl, .inr ⟨.inl (.inl h1), .inl (.inl h2)⟩, hl, rfl, fun i u v hu hv => ?_⟩
  have e := Option.some.inj (hu.symm.trans hv)
  subst e
  exact Eqd.refl (hf _ (List.mem_of_getElem? hu))
theorem dp_two {K : PySem.W.Frag} {H : Hp} {t : Addr} {z : Str} (h : H t = some (.tup [.str z, .non])) : Dp K H (.ref t) (.tuple [.str z, .none]) :=
  .tup (.inl (.inl h)) (.cons (.str _) (.cons .non .nil))
/-! ### readings with one end -/
/-- what is due of a text to be checked -/
def Alt (gs xs : List Nat) (code : Str) (v : V) : Prop :=
  (∀ c ∈ xs, c ∈ gs) ∧ code = Str.ofString "value" ∧ v = .non ∨ ∃ i : Nat, Bad gs xs i ∧ code = Str.ofString "UnknownLetter" ∧ v = .int (i : Nat)
theorem Alt.one {gs xs : List Nat} {z z' : Str} {v v' : V} (a : Alt gs xs z v) (b : Alt gs xs z' v') : z = z' ∧ v = v' := by
  rcases a with ⟨h, rfl, rfl⟩ | ⟨i, B, rfl, rfl⟩ <;> rcases b with ⟨h', rfl, rfl⟩ | ⟨j, B', rfl, rfl⟩
  · exact ⟨rfl, rfl⟩
  · obtain ⟨c, h1, h2, _⟩ := B'
    exact absurd (h c (List.mem_of_getElem? h1)) h2
  · obtain ⟨c, h1, h2, _⟩ := B
    exact absurd (h' c (List.mem_of_getElem? h1)) h2
  · rw [B.one B']
    exact ⟨rfl, rfl⟩
theorem Alt.flat {gs xs : List Nat} {z : Str} {v : V} (a : Alt gs xs z v) : Flat v := by
  rcases a with ⟨h, rfl, rfl⟩ | ⟨i, B, rfl, rfl⟩ <;> trivial
theorem eq_two {z : Str} (h : SeqAt.shaped (.tuple [.str z, .none]) = true) : PyData.eqv (.tuple [.str z, .none]) (.tuple [.str z, .none]) = true := SeqAt.eqv_refl _ (SeqAt.canLay_of_shaped h)
end Own

namespace Own
open PySem PySem.Spec PyProof.Rows L2 SX
/-! ### three texts zipped -/
def n3 (x y z : Str) : Nat := min (min x.cps.size y.cps.size) z.cps.size
end Own

namespace Own
open PySem PySem.Spec PyProof.Rows L2 SX
/-! ### what turns make -/
inductive InC (gs : List Nat) (ts : List (List Nat)) : List Nat → Prop
  | one : InC gs ts gs
  | step {x t : List Nat} : InC gs ts x → t ∈ ts → InC gs ts (x.map (tau gs t))
theorem map_tau {gs t : List Nat} (nd : gs.Nodup) (hl : t.length = gs.length) : gs.map (tau gs t) = t := by
  refine List.ext_getElem? fun i => ?_
  rw [List.getElem?_map]
  by_cases h : i < gs.length
  · have h2 : i < t.length := by omega
    rw [List.getElem?_eq_getElem h, List.getElem?_eq_getElem h2]
    show some (t.getD (gs.idxOf gs[i]) 0) = some t[i]
    rw [idx_get nd (List.getElem?_eq_getElem h), List.getD_eq_getElem?_getD, List.getElem?_eq_getElem h2]
    rfl
  · rw [List.getElem?_eq_none (by omega), List.getElem?_eq_none (by omega)]
    rfl
theorem mul_perm {gs x t : List Nat} (nd : gs.Nodup) (hx : x.Perm gs) (ht : t.Perm gs) : (x.map (tau gs t)).Perm gs := by
  refine (hx.map _).trans ?_
  rw [map_tau nd ht.length_eq]
  exact ht
theorem InC.perm {gs : List Nat} {ts : List (List Nat)} (nd : gs.Nodup) (hts : ∀ t ∈ ts, t.Perm gs) {x : List Nat} (h : InC gs ts x) : x.Perm gs := by
  induction h with
  | one => exact List.Perm.refl _
  | step _ ht ih => exact mul_perm nd ih (hts _ ht)
theorem InC.mul {gs : List Nat} {ts : List (List Nat)} (nd : gs.Nodup) (hts : ∀ t ∈ ts, t.Perm gs) {x y : List Nat} (hx : InC gs ts x) (hy : InC gs ts y) :
    InC gs ts (x.map (tau gs y)) := by
  have px := hx.perm nd hts
  induction hy with
  | one =>
    have e : x.map (tau gs gs) = x := (List.map_congr_left fun c hc => tau_self (px.mem_iff.mp hc)).trans (List.map_id x)
    rw [e]
    exact hx
  | step hy' ht ih =>
    rename_i y' t
    have py := hy'.perm nd hts
    have e : x.map (tau gs (y'.map (tau gs t))) = (x.map (tau gs y')).map (tau gs t) := by
      rw [List.map_map]
      exact List.map_congr_left fun c hc => tau_map _ (px.mem_iff.mp hc) py.length_eq
    rw [e]
    exact InC.step ih ht
theorem InC.it {gs : List Nat} {ts : List (List Nat)} (nd : gs.Nodup) (hts : ∀ t ∈ ts, t.Perm gs) {x : List Nat} (hx : InC gs ts x) : ∀ j, InC gs ts (it gs x j)
  | 0 => hx
  | j + 1 => (InC.it nd hts hx j).mul nd hts hx
theorem few : ∀ n ∈ List.range 5, ((lists n n).filter fun p => decide p.Nodup).length ≤ 24 := by decide +kernel
def Closed (gs : List Nat) (ts fs : List (List Nat)) : Prop := ∀ x ∈ fs, ∀ t ∈ ts, x.map (tau gs t) ∈ fs
theorem InC.sub {gs : List Nat} {ts fs : List (List Nat)} (h0 : gs ∈ fs) (hc : Closed gs ts fs) {x : List Nat} (h : InC gs ts x) : x ∈ fs := by
  induction h with
  | one => exact h0
  | step _ ht ih => exact hc _ ih _ ht

/-! ### sorted -/
theorem rising_pw : ∀ (l : List (List Nat)) (p : List Nat), risingS (S p) (l.map S) = true → (p :: l).Pairwise (fun a b => ¬ b < a)
  | [], p, _ => List.pairwise_singleton ..
  | x :: r, p, h => by
    have h' : (!ltCps x p && risingS (S x) (r.map S)) = true := h
    rw [Bool.and_eq_true, Bool.not_eq_true', ltCps_eq, decide_eq_false_iff_not] at h'
    have ih := rising_pw r x h'.2
    refine List.pairwise_cons.mpr ⟨fun y hy => ?_, ih⟩
    rcases List.mem_cons.mp hy with e | hy
    · rw [e]; exact h'.1
    · have h2 : ¬ y < x := (List.pairwise_cons.mp ih).1 y hy
      exact fun lt => absurd (List.le_trans (List.not_lt.mp h'.1) (List.not_lt.mp h2)) (List.not_le.mpr lt)
theorem sorted_pw : ∀ (l : List (List Nat)), sortedS (l.map S) = true → l.Pairwise (fun a b => ¬ b < a)
  | [], _ => List.Pairwise.nil
  | x :: r, h => rising_pw r x h
theorem sorted_one : ∀ (l m : List (List Nat)), l.Pairwise (fun a b => ¬ b < a) → m.Pairwise (fun a b => ¬ b < a) → l.Nodup → m.Nodup → (∀ x, x ∈ l ↔ x ∈ m) → l = m
  | [], [], _, _, _, _, _ => rfl
  | [], y :: s, _, _, _, _, h => by have := (h y).mpr (List.mem_cons_self ..); simp at this
  | x :: r, [], _, _, _, _, h => by have := (h x).mp (List.mem_cons_self ..); simp at this
  | x :: r, y :: s, p1, p2, n1, n2, h => by
    have q1 := List.pairwise_cons.mp p1
    have q2 := List.pairwise_cons.mp p2
    have m1 := List.nodup_cons.mp n1
    have m2 := List.nodup_cons.mp n2
    have e : x = y := by
      have hx := (h x).mp (List.mem_cons_self ..)
      have hy := (h y).mpr (List.mem_cons_self ..)
      rcases List.mem_cons.mp hx with e | hx
      · exact e
      · rcases List.mem_cons.mp hy with e | hy
        · exact e.symm
        · exact List.le_antisymm (List.not_lt.mp (q1.1 y hy)) (List.not_lt.mp (q2.1 x hx))
    subst e
    have ih := sorted_one r s q1.2 q2.2 m1.2 m2.2 fun z => by
      constructor
      · intro hz
        rcases List.mem_cons.mp ((h z).mp (List.mem_cons_of_mem _ hz)) with e | e
        · rw [e] at hz; exact absurd hz m1.1
        · exact e
      · intro hz
        rcases List.mem_cons.mp ((h z).mpr (List.mem_cons_of_mem _ hz)) with e | e
        · rw [e] at hz; exact absurd hz m2.1
        · exact e
    rw [ih]
/-- the sorted list of what is made -/
structure Clo (gs : List Nat) (ts cs : List (List Nat)) : Prop where
  nd : cs.Nodup
  mem : ∀ x, x ∈ cs ↔ InC gs ts x
  srt : sortedS (cs.map S) = true
theorem Clo.one {gs : List Nat} {ts cs ds : List (List Nat)} (a : Clo gs ts cs) (b : Clo gs ts ds) : cs = ds :=
  sorted_one cs ds (sorted_pw cs a.srt) (sorted_pw ds b.srt) a.nd b.nd fun x => (a.mem x).trans (b.mem x).symm
/-- a sorted list of texts that is a rearrangement -/
theorem Clo.of {gs : List Nat} {ts fs : List (List Nat)} {ys : List Str} (nd : fs.Nodup) (h0 : gs ∈ fs) (hc : Closed gs ts fs) (hi : ∀ x ∈ fs, InC gs ts x)
    (hp : ys.Perm (fs.map S)) (hs : sortedS ys = true) : ∃ cs, ys = cs.map S ∧ Clo gs ts cs := by
  have e : (ys.map fun y => y.cps.toList).map S = ys := by
    rw [List.map_map]
    exact (List.map_congr_left fun y _ => S_tl y).trans (List.map_id ys)
  have hp2 : (ys.map fun y => y.cps.toList).Perm fs := by
    have h := hp.map fun y => y.cps.toList
    rw [List.map_map] at h
    have e2 : fs.map ((fun y : Str => y.cps.toList) ∘ S) = fs := (List.map_congr_left fun _ _ => rfl).trans (List.map_id fs)
    rw [e2] at h
    exact h
  refine ⟨_, e.symm, hp2.nodup_iff.mpr nd, fun x => ⟨fun h => hi x (hp2.mem_iff.mp h), fun h => hp2.mem_iff.mpr (h.sub h0 hc)⟩, ?_⟩
  rw [e]
  exact hs
end Own

namespace Own
open PySem PySem.Spec PyProof.Rows L2 SX
/-! ### sorted(text) -/
theorem strs_of {xs : List Str} : ∀ {us : List Value}, us.length = xs.length → (∀ (j : Nat) (v : Value), us[j]? = some v → ∃ y t, xs[j]? = some y ∧ v = .str y t) → StrsAre us xs := by
  induction xs with
  | nil =>
    intro us hl _
    cases us with
    | nil => exact .nil
    | cons _ _ => cases hl
  | cons x r ih =>
    intro us hl h
    cases us with
    | nil => cases hl
    | cons u us =>
      obtain ⟨y, t, e1, rfl⟩ := h 0 u rfl
      cases e1
      exact .cons _ _ (ih (Nat.succ.inj hl) fun j v e => h (j + 1) v e)
section
variable {X : Cx}
theorem call_sortedTx (hcalm : X.calm = true) : CallR X (.builtin "sorted") (fun xs H Q => ∃ (z : Str), xs = [.str z] ∧ z.cps.size < 64 ∧
    ∀ ys p, ys.Perm (z.cps.toList.map fun c => (⟨#[c]⟩ : Str)) → sortedS ys = true → H p = none → Q (.ref p) (upd H p (.lst (ys.map V.str)))) := by
  rintro pins s σ H _ us Q I r ⟨z, rfl, few, q⟩
  obtain ⟨_, rfl, t, rfl⟩ := vals1 r
  have line : z.cps.size ≤ sizeLine := Nat.le_trans (Nat.le_of_lt few) (by rw [sizeLine_eq]; decide)
  have body := Calls.call_function_entry (prog := X.prog) (w := X.w) (A := X.A) (E := X.xe) (s := s) (Q := EP X pins σ Q) kind_sorted plain_sorted entry_sorted (args_sorted1 (.str z t))
  refine body ?_
  rw [Builtin.«sorted»]
  refine wpAny_bind (m := checkCount "sorted" 1 1 _) (wpAny_pure (wpAny_bind (wpAny_collect_str (A := X.A.in1) (I.ok.hd hcalm) z t ?_ line)))
  rintro ⟨g, gens, drawn, tk, os⟩ acc keep (rfl : gens = s.gens) (rfl : drawn = s.drawn) (rfl : os = s.os) ⟨size, signs⟩
  -- the signs, one by one, in a list of their own
  have many : acc.toList.length = z.cps.size := by simpa using size
  have tx1 : StrsAre acc.toList (z.cps.toList.map fun c => (⟨#[c]⟩ : Str)) := by
    refine strs_of (by simpa using size) fun j v e => ?_
    obtain ⟨c, u, at_, rfl⟩ := signs j v (by simpa using e)
    exact ⟨_, u, by simp [at_], rfl⟩
  have made : (g.push (seqObj "list" acc.toList.toArray 0)).get? g.objs.size = some (seqObj "list" acc.toList.toArray 0) := Heap.get?_push_size _ rfl
  refine wpAny_bind (wpAny_newList (wpAny_bind (wpAny_holding (wpAny_call_entry slot_list_sort ⟨_, made, rfl⟩ entry_list_sort (list_sort_treeK strKind_oneLt
    (s := { s with heap := g.push (seqObj "list" acc.toList.toArray 0), toks := tk }) made tx1.keysOf (fun _ _ _ e => keyKind_strs (e ▸ tx1)) (many ▸ few) ?_) (args_list_sort _)))) (many ▸ line))
  intro st perm srt
  refine ⟨_, rfl, ?_⟩
  obtain ⟨ys, out, same, inOrder⟩ := sorted_out_str tx1 perm srt
  obtain ⟨n, lies⟩ := sortedHeap_at (vs := acc.toList) (out := (arrOf st).map (·.2)) made
  have I1 : Inv X pins σ H { s with heap := g, toks := tk } := I.kept keep
  refine wpAny_pure ⟨_, rfl, .ref g.objs.size, upd H g.objs.size (.lst (ys.map V.str)), I1.laid (t' := tk) (fun b o e => ?_) (Nat.le_refl _) ?_, rfl, q ys _ same inOrder (I1.hok.fresh (Nat.le_refl _))⟩
  · have lt := Heap.lt_size e
    exact (sortedHeap_old (Nat.ne_of_lt lt) (by rw [size_push']; exact Nat.lt_add_right 1 lt)).trans (Heap.get?_push_of_some _ e)
  · have short : (ys.map V.str).length ≤ sizeLine := by simpa [same.length_eq] using line
    exact (show ObjOk X.prog X.w _ _ _ (.lst (ys.map V.str)) from ⟨short, _, n, vals_of_strs out, lies.trans (by rw [Array.toArray_toList])⟩)
end
/-! ### count of one sign -/
theorem cnt_run (a : List Nat) (c lim : Nat) : ∀ (n lo : Nat) (st : Array Nat × Nat), lo + n = a.length + 1 → st.2 ≤ lo → st.1.size + n ≤ lim →
    (forIn (List.range' lo n) st (StrLaws.occBody (S a) (S [c]) a.length lim)).run.fst.size = st.1.size + (a.drop lo).count c := by
  intro n
  induction n with
  | zero =>
    intro lo st h1 _ _
    rw [List.drop_eq_nil_of_le (by omega)]
    rfl
  | succ n ih =>
    intro lo st h1 h2 h3
    rw [List.range'_succ, List.forIn_cons]
    unfold StrLaws.occBody
    by_cases hc : a[lo]? = some c
    · have hsub := (StrLaws.subAt_one (S a) c lo).mpr hc
      have hlt : lo < a.length := (List.getElem?_eq_some_iff.mp hc).1
      have e : a.drop lo = c :: a.drop (lo + 1) := by
        rw [List.drop_eq_getElem_cons hlt]
        rw [(List.getElem?_eq_some_iff.mp hc).2]
      rw [if_pos ⟨⟨⟨by omega, h2⟩, hsub.1⟩, hsub.2⟩]
      have := ih (lo + 1) (st.1.push lo, lo + 1) (by omega) (Nat.le_refl _) (by simp only [Array.size_push]; omega)
      refine this.trans ?_
      rw [e, List.count_cons_self, Array.size_push]
      omega
    · rw [if_neg fun h => hc ((StrLaws.subAt_one (S a) c lo).mp ⟨h.1.2, h.2⟩)]
      have := ih (lo + 1) (st.1, st.2) (by omega) (by show st.2 ≤ _; omega) (by show st.1.size + _ ≤ _; omega)
      refine this.trans ?_
      by_cases hlt : lo < a.length
      · have e : a.drop lo = a[lo] :: a.drop (lo + 1) := List.drop_eq_getElem_cons hlt
        rw [e, List.count_cons_of_ne (fun e => hc (by rw [List.getElem?_eq_getElem hlt, e]))]
      · rw [List.drop_eq_nil_of_le (by omega), List.drop_eq_nil_of_le (by omega)]
theorem count_S (a : List Nat) (c : Nat) : Txt.count (S a) (S [c]) = ((a.count c : Nat) : Int) := by
  unfold Txt.count
  rw [StrLaws.occ_eq, Array.length_toList]
  have := cnt_run a c (a.length + 1) (a.length + 1) 0 (#[], 0) (by omega) (Nat.le_refl _) (by show 0 + _ ≤ _; omega)
  rw [S_len]
  show (((forIn (List.range' 0 (a.length + 1)) (#[], 0) (StrLaws.occBody (S a) (S [c]) a.length (a.length + 1))).run.fst.size : Nat) : Int) = _
  rw [this]
  show ((0 + (a.drop 0).count c : Nat) : Int) = _
  rw [Nat.zero_add, List.drop_zero]
/-! ### sorted signs -/
theorem signs_of {zs : List Nat} {ys : List Str} (hp : ys.Perm (zs.map fun c => (⟨#[c]⟩ : Str))) : ∃ ls : List (List Nat), ys = ls.map S ∧ ls.Perm (zs.map fun c => [c]) := by
  refine ⟨ys.map fun y => y.cps.toList, ?_, ?_⟩
  · rw [List.map_map]
    refine ((List.map_congr_left fun y hy => ?_).trans (List.map_id ys)).symm
    obtain ⟨c, _, rfl⟩ := List.mem_map.mp (hp.mem_iff.mp hy)
    rfl
  · have := hp.map fun y => y.cps.toList
    rw [List.map_map] at this
    exact this
theorem signs_eq {zs ws : List Nat} {ls ms : List (List Nat)} (h1 : ls.Perm (zs.map fun c => [c])) (h2 : ms.Perm (ws.map fun c => [c])) (s1 : sortedS (ls.map S) = true) (s2 : sortedS (ms.map S) = true) :
    decide (ls = ms) = decide (zs.Perm ws) := by
  rw [decide_eq_decide]
  constructor
  · intro e
    subst e
    have := (h1.symm.trans h2).map fun l => l.headD 0
    simp only [List.map_map] at this
    have e1 : zs.map ((fun l : List Nat => l.headD 0) ∘ fun c => [c]) = zs := (List.map_congr_left fun _ _ => rfl).trans (List.map_id zs)
    have e2 : ws.map ((fun l : List Nat => l.headD 0) ∘ fun c => [c]) = ws := (List.map_congr_left fun _ _ => rfl).trans (List.map_id ws)
    rw [e1, e2] at this
    exact this
  · intro p
    refine List.Perm.eq_of_pairwise (le := fun a b => ¬ b < a) (fun a b _ _ h1 h2 => ?_) (sorted_pw _ s1) (sorted_pw _ s2) ((h1.trans (p.map _)).trans h2.symm)
    exact List.le_antisymm (List.not_lt.mp h1) (List.not_lt.mp h2)
theorem eqvAll_tx : ∀ ls ms : List (List Nat), PyData.eqvAll (ls.map fun c => PyData.str (S c)) (ms.map fun c => PyData.str (S c)) = decide (ls = ms)
  | [], [] => rfl
  | [], _ :: _ => by rw [decide_eq_false (fun e => by cases e)]; rfl
  | _ :: _, [] => by rw [decide_eq_false (fun e => by cases e)]; rfl
  | a :: r, b :: s => by
    show (PyData.eqv (.str (S a)) (.str (S b)) && PyData.eqvAll (r.map fun c => PyData.str (S c)) (s.map fun c => PyData.str (S c))) = _
    rw [eqvAll_tx r s]
    have e : PyData.eqv (.str (S a)) (.str (S b)) = decide (a = b) := by
      show (S a == S b) = _
      rw [Bool.eq_iff_iff, beq_iff_eq, decide_eq_true_iff]
      exact ⟨fun h => S_inj h, fun h => by rw [h]⟩
    rw [e, Bool.eq_iff_iff, Bool.and_eq_true, decide_eq_true_iff, decide_eq_true_iff, decide_eq_true_iff, List.cons.injEq]
/-! ### lists of texts as data -/
theorem lay_tx : ∀ (cs : List (List Nat)), (∀ c ∈ cs, ∀ k ∈ c, k < 128) → PyData.canLayAll0 (cs.map fun c => PyData.str (S c)) = true
  | [], _ => rfl
  | c :: r, h => by
    show (PyData.canLay0 (.str (S c)) && PyData.canLayAll0 (r.map fun c => PyData.str (S c))) = true
    rw [lay_tx r fun x hx => h x (List.mem_cons_of_mem _ hx), Bool.and_true]
    have h1 := h c (List.mem_cons_self ..)
    show ((c.toArray).all (fun k => decide (k < 1114112))) = true
    rw [List.all_toArray, List.all_eq_true]
    intro k hk
    have := h1 k hk
    exact decide_eq_true (by omega)
theorem dep_tx : ∀ (cs : List (List Nat)), PyData.depthAll (cs.map fun c => PyData.str (S c)) = 0
  | [] => rfl
  | c :: r => by
    show max (PyData.depth (.str (S c))) (PyData.depthAll (r.map fun c => PyData.str (S c))) = 0
    rw [dep_tx r]
    rfl
theorem shp_tx {cs : List (List Nat)} (h : ∀ c ∈ cs, ∀ k ∈ c, k < 128) : SeqAt.shaped (.list (cs.map fun c => PyData.str (S c))) = true := by
  unfold SeqAt.shaped
  have e : (PyData.list (cs.map fun c => PyData.str (S c))).depth = 1 := by
    show PyData.depthAll (cs.map fun c => PyData.str (S c)) + 1 = 1
    rw [dep_tx]
  rw [e]
  show (PyData.canLayAll0 (cs.map fun c => PyData.str (S c)) && decide (1 ≤ 64)) = true
  rw [lay_tx cs h]
  rfl
theorem dp_all {K : PySem.W.Frag} {H : Hp} : ∀ cs : List (List Nat), DpAll K H ((cs.map S).map V.str) (cs.map fun c => PyData.str (S c))
  | [] => .nil
  | c :: r => .cons (.str _) (dp_all r)
theorem small_of {zs : List Nat} {ls : List (List Nat)} (hp : ls.Perm (zs.map fun c => [c])) (h : ∀ c ∈ zs, c < 128) : ∀ c ∈ ls, ∀ k ∈ c, k < 128 := by
  intro c hc k hk
  obtain ⟨x, hx, rfl⟩ := List.mem_map.mp (hp.mem_iff.mp hc)
  rw [List.mem_singleton.mp hk]
  exact h x hx
theorem same_put {H H' : Hp} {p : Addr} {o : HO} (s : Same H H') (h : H p = none) : Same H (upd H' p o) := fun b u e => by
  rw [upd_ne (ne_of_none e h)]
  exact s _ _ e
/-! ### the promises -/
def spIs : Sp := fun vs H Q _ => ∃ gs t : List Nat, vs = [.str (S gs), .str (S t)] ∧ gs.length < 64 ∧ t.length < 64 ∧ (∀ c ∈ gs, c < 128) ∧ (∀ c ∈ t, c < 128) ∧
  ∀ H', Same H H' → Q (.bl (decide (t.Perm gs))) H'
section
variable {K : PySem.W.Frag} {mg : Str → Option Value} {T : List (Addr × Str)} {CF CM C : Addr} {H : Hp} {σ : L2.St} {Q : VK} {x : Str} {ta : TA}
end
end Own

namespace Own
open PySem PySem.Spec PyProof.Rows L2 SX
/-! ### a list or a tuple walked -/
def SqA (K : PySem.W.Frag) (H : Hp) (a : Addr) (xs : List V) : Prop := SqL K H a xs ∨ SqT K H a xs
theorem SqA.same {K : PySem.W.Frag} {H H' : Hp} {a : Addr} {xs : List V} (h : SqA K H a xs) (s : Same H H') : SqA K H' a xs := h.imp (fun h => s.seq h) (fun h => same_t s h)
theorem pi_or {X : Cx} {tg l : Expr} {w1 w2 : TI} (h1 : PI X tg l w1) (h2 : PI X tg l w2) : PI X tg l (fun σ H R => w1 σ H R ∨ w2 σ H R) :=
  ⟨fun pins s σ H R I h => h.elim (fun h => h1.run pins s σ H R I h) (fun h => h2.run pins s σ H R I h)⟩
def iAny (K : PySem.W.Frag) (tl : TE) : TI := fun σ H R => iList K tl σ H R ∨ iTup K tl σ H R
theorem pi_any {X : Cx} {tg l : Expr} {tl : TE} (h : PE X l tl) : PI X tg l (iAny X.K tl) := pi_or (pi_list h) (pi_tup h)
theorem it_any {K : PySem.W.Frag} {σ : L2.St} {H H0 : Hp} {R : It → Hp → Prop} {a : Addr} {xs : List V} {tl : TE} (h : ∀ k : VK, k (.ref a) H → tl σ H k) (hs : SqA K H0 a xs) (s0 : Same H0 H)
    (hR : ∀ J : It, Walk J xs.length (fun H' => Same H0 H') (fun i H1 x H2 => H2 = H1 ∧ xs[i]? = some x) → R J H) : iAny K tl σ H R := by
  rcases hs with hs | hs
  · refine .inl (h _ ⟨a, rfl, ⟨xs, s0.seq hs⟩, hR _ ?_⟩)
    exact ⟨fun i H' hi s => (walk_list (K := K) (a := a) (xs := xs)).goes i H' hi (s.seq hs), fun H' s => (walk_list (K := K) (a := a) (xs := xs)).stops H' (s.seq hs), fun i H' x H'' hi s y => (walk_list (K := K) (a := a) (xs := xs)).yields i H' x H'' hi (s.seq hs) y⟩
  · refine .inr (h _ ⟨a, rfl, ⟨xs, same_t s0 hs⟩, hR _ ?_⟩)
    exact ⟨fun i H' hi s => (walk_tup (K := K) (a := a) (xs := xs)).goes i H' hi (same_t s hs), fun H' s => (walk_tup (K := K) (a := a) (xs := xs)).stops H' (same_t s hs), fun i H' x H'' hi s y => (walk_tup (K := K) (a := a) (xs := xs)).yields i H' x H'' hi (same_t s hs) y⟩
/-! ### items of templates -/
abbrev tx (c : List Nat) : V := .str (S c)
/-- letters that may be: 2 to 4 different ones -/
def Row (gs : List Nat) (its : List (List Nat)) : Prop := ∀ x ∈ its, (∃ c, c ∈ gs ∧ x = [c]) ∨ x.Perm gs
def iTx (gs x : List Nat) : List Nat := if 1 < x.length then (if x = gs then [123, 125] else [123] ++ x ++ [125]) else x
def rTx (gs : List Nat) (its : List (List Nat)) : List Nat := if its = [] then [45] else (its.map (iTx gs)).flatten
theorem iTx_len {gs x : List Nat} : (iTx gs x).length ≤ x.length + 2 := by
  unfold iTx
  split
  · split
    · show 2 ≤ _
      omega
    · rw [List.length_append, List.length_append]
      show 1 + _ + 1 ≤ _
      omega
  · omega
theorem flat_len {f : List Nat → List Nat} {m : Nat} : ∀ {its : List (List Nat)}, (∀ x ∈ its, (f x).length ≤ m) → (its.map f).flatten.length ≤ its.length * m
  | [], _ => by simp
  | x :: r, h => by
    have h1 := h x (List.mem_cons_self ..)
    have h2 := flat_len (its := r) fun y hy => h y (List.mem_cons_of_mem _ hy)
    show (f x ++ (r.map f).flatten).length ≤ (r.length + 1) * m
    rw [List.length_append, Nat.add_mul]
    omega
theorem sum_len : ∀ ts : List (List Nat), ((ts.map S).map (·.length)).sum = ts.flatten.length
  | [] => rfl
  | x :: r => by
    show (S x).length + ((r.map S).map (·.length)).sum = (x ++ r.flatten).length
    rw [sum_len r, S_len, List.length_append]
/-! ### promises -/
def spBk : Sp := fun vs H Q _ => ∃ x : List Nat, vs = [tx x] ∧ x.length ≤ 1000 ∧ ∀ H', Same H H' → Q (.bl (decide (1 < x.length))) H'
def spIt : Sp := fun vs H Q _ => ∃ gs x : List Nat, vs = [tx gs, tx x] ∧ gs.length ≤ 1000 ∧ x.length ≤ 1000 ∧ ∀ H', Same H H' → Q (tx (iTx gs x)) H'
def spRt (K : PySem.W.Frag) : Sp := fun vs H Q _ => ∃ (gs : List Nat) (a : Addr) (its : List (List Nat)), vs = [tx gs, .ref a] ∧ gs.length ≤ 1000 ∧ SqA K H a (its.map tx) ∧ its.length ≤ 900 ∧ (∀ x ∈ its, x.length ≤ 900) ∧
  ∀ H', Same H H' → Q (tx (rTx gs its)) H'
/-- the inner items in the place of each blank -/
def putL (gs : List Nat) (its inn : List (List Nat)) : List (List Nat) := (its.map fun x => if 1 < x.length then inn.map fun y => y.map (tau gs x) else [x]).flatten
theorem get_tx {cs : List (List Nat)} {i : Nat} {y : V} (h : (cs.map tx)[i]? = some y) : ∃ c, cs[i]? = some c ∧ y = tx c := by
  rw [List.getElem?_map] at h
  cases e : cs[i]? with
  | none => rw [e] at h; cases h
  | some c => rw [e] at h; exact ⟨c, rfl, (Option.some.inj h).symm⟩
end Own

namespace Own
open PySem PySem.Spec PyProof.Rows L2 SX
theorem slice_mid {a : List Nat} {i j : Nat} : Txt.slice (S a) (some (i : Int)) (some (j : Int)) = S ((a.take j).drop i) := by
  rw [← C8.cutS_slice]
  unfold cutS
  show (⟨_⟩ : Str) = _
  congr 1
  rw [HT.sIx_nat, HT.sIx_nat, S_len]
  congr 1
  show (a.drop (min i a.length)).take (min j a.length - min i a.length) = (a.take j).drop i
  rw [List.drop_take]
  by_cases hi : i ≤ a.length
  · rw [Nat.min_eq_left hi]
    by_cases hj : j ≤ a.length
    · rw [Nat.min_eq_left hj]
    · rw [Nat.min_eq_right (by omega), List.take_of_length_le (by rw [List.length_drop]; omega), List.take_of_length_le (by rw [List.length_drop]; omega)]
  · have e : min i a.length = a.length := Nat.min_eq_right (by omega)
    rw [e, List.drop_eq_nil_of_le (Nat.le_refl _), List.drop_eq_nil_of_le (show a.length ≤ i by omega), List.take_nil, List.take_nil]
theorem mid_app {p z q : List Nat} {i j : Int} (h1 : i = (p.length : Int)) (h2 : j = ((p.length + z.length : Nat) : Int)) : Txt.slice (S (p ++ z ++ q)) (some i) (some j) = S z := by
  subst h1
  subst h2
  rw [slice_mid, List.take_append_of_le_length (by rw [List.length_append]; exact Nat.le_refl _), List.take_of_length_le (by rw [List.length_append]; exact Nat.le_refl _), List.drop_left]
/-! ### forms of items -/
inductive Form (gs : List Nat) : List Nat → List Nat → Prop
  | one {c : Nat} : c ∈ gs → Form gs [c] [c]
  | turn {x : List Nat} : x.Perm gs → Form gs x ([123] ++ x ++ [125])
  | plain : Form gs gs [123, 125]
inductive Forms (gs : List Nat) : List (List Nat) → List (List Nat) → Prop
  | nil : Forms gs [] []
  | cons {x z : List Nat} {its zs : List (List Nat)} : Form gs x z → Forms gs its zs → Forms gs (x :: its) (z :: zs)
/-- a text of the items -/
def Rd (gs : List Nat) (its : List (List Nat)) (t : List Nat) : Prop := (its = [] ∧ t = [45]) ∨ (its ≠ [] ∧ ∃ zs, Forms gs its zs ∧ t = zs.flatten)
theorem form_i {gs x : List Nat} (hg : 2 ≤ gs.length) (h : (∃ c, c ∈ gs ∧ x = [c]) ∨ x.Perm gs) : Form gs x (iTx gs x) := by
  rcases h with ⟨c, hc, rfl⟩ | p
  · have e : iTx gs [c] = [c] := by unfold iTx; rw [if_neg (by show ¬ 1 < 1; omega)]
    rw [e]
    exact .one hc
  · have hl : 1 < x.length := by rw [p.length_eq]; omega
    unfold iTx
    rw [if_pos hl]
    split
    · rename_i e
      rw [e]
      exact .plain
    · exact .turn p
theorem forms_r {gs : List Nat} (hg : 2 ≤ gs.length) : ∀ {its : List (List Nat)}, Row gs its → Forms gs its (its.map (iTx gs))
  | [], _ => .nil
  | x :: r, h => .cons (form_i hg (h x (List.mem_cons_self ..))) (forms_r hg fun y hy => h y (List.mem_cons_of_mem _ hy))
theorem rd_r {gs : List Nat} (hg : 2 ≤ gs.length) {its : List (List Nat)} (h : Row gs its) : Rd gs its (rTx gs its) := by
  unfold rTx
  by_cases e : its = []
  · rw [if_pos e]
    exact .inl ⟨e, rfl⟩
  · rw [if_neg e]
    exact .inr ⟨e, _, forms_r hg h, rfl⟩
theorem form_ne {gs x z : List Nat} (h : Form gs x z) : z ≠ [] := by
  cases h <;> simp
theorem form_head {gs x z : List Nat} (hg : Good gs) (h : Form gs x z) : ∃ c r, z = c :: r ∧ c ≠ 45 := by
  cases h with
  | one hc => exact ⟨_, _, rfl, by have := hg.az _ hc; omega⟩
  | turn p => exact ⟨123, _, rfl, by decide⟩
  | plain => exact ⟨123, _, rfl, by decide⟩
/-! ### promises -/
def spBw : Sp := fun vs H Q _ => ∃ (gs pre post x z : List Nat), vs = [tx gs, tx (pre ++ z ++ post), .int (pre.length : Int)] ∧ Good gs ∧ (pre ++ z ++ post).length ≤ 1000 ∧
  ((z = [123, 125] ∧ ∀ H', Same H H' → Q (.int 2) H') ∨ (x.Perm gs ∧ z = [123] ++ x ++ [125] ∧ ∀ H', Same H H' → Q (.int ((gs.length : Int) + 2)) H'))
def spRd : Sp := fun vs H Q _ => ∃ (gs t : List Nat) (its : List (List Nat)), vs = [tx gs, tx t] ∧ Good gs ∧ t.length ≤ 1000 ∧ Rd gs its t ∧
  ∀ H' p, Same H H' → H p = none → H' p = some (.lst (its.map tx)) → Q (.ref p) H'
def spCLn : Sp := fun vs H Q _ => ∃ gs : List Nat, vs = [tx gs] ∧ Good gs ∧ ∀ H', Same H H' → Q .non H'
/-! ### templates as they lie -/
/-- the template at a: its letters and its items -/
def Tm (C : Addr) (H : Hp) (a : Addr) (gs : List Nat) (its : List (List Nat)) : Prop :=
  ∃ dx p, H a = some (.ins C dx [(Str.ofString "alphabet", tx gs), (Str.ofString "places", V.ref p)]) ∧ H p = some (.tup (its.map tx))
theorem Tm.same {C : Addr} {H H' : Hp} {a : Addr} {gs : List Nat} {its : List (List Nat)} (t : Tm C H a gs its) (s : Same H H') : Tm C H' a gs its := by
  obtain ⟨dx, p, h1, h4⟩ := t
  exact ⟨dx, p, s _ _ h1, s _ _ h4⟩
theorem Tm.go {C : Addr} {H H' : Hp} {a r : Addr} {gs : List Nat} {its : List (List Nat)} (t : Tm C H a gs its) (g : Go r H H') : Tm C H' a gs its := by
  obtain ⟨dx, p, h1, h4⟩ := t
  obtain ⟨xs, er⟩ := g.rng0.ex
  exact ⟨dx, p, g.1 _ _ (ne_of h1 er fun e => by cases e) h1, g.1 _ _ (ne_of h4 er fun e => by cases e) h4⟩
/-- the class -/
structure TmC (K : PySem.W.Frag) (C : Addr) : Prop where
  cls : Cls K C
  na : NoAttr K C "alphabet"
  np : NoAttr K C "places"
/-- __init__: the new instance x gets its two fields -/
def spTi (C : Addr) : Sp := fun vs H Q _ => ∃ (x dx : Addr) (gs t : List Nat) (its : List (List Nat)), vs = [.ref x, tx gs, tx t] ∧ H x = some (.ins C dx []) ∧ Good gs ∧ t.length ≤ 1000 ∧ Rd gs its t ∧
  ∀ H', (∀ b o, b ≠ x → H b = some o → H' b = some o) → Tm C H' x gs its → Q .non H'
def spText (C : Addr) : Sp := fun vs H Q _ => ∃ (a : Addr) (gs : List Nat) (its : List (List Nat)), vs = [.ref a] ∧ Tm C H a gs its ∧ gs.length ≤ 1000 ∧ its.length ≤ 900 ∧ (∀ x ∈ its, x.length ≤ 900) ∧ ∀ H', Same H H' → Q (tx (rTx gs its)) H'
def fillL (gs : List Nat) (its : List (List Nat)) (xs : List Nat) : List Nat := (putL gs its [xs]).flatten
theorem row_len {gs : List Nat} (hg : Good gs) {its : List (List Nat)} (h : Row gs its) : ∀ x ∈ its, x.length ≤ 4 := by
  intro x hx
  have := hg.hi
  rcases h x hx with ⟨c, _, rfl⟩ | p
  · show 1 ≤ 4; omega
  · rw [p.length_eq]; exact hg.hi
theorem row_mem {gs : List Nat} {its : List (List Nat)} (h : Row gs its) : ∀ x ∈ its, ∀ c ∈ x, c ∈ gs := by
  intro x hx c hc
  rcases h x hx with ⟨d, hd, rfl⟩ | p
  · rw [List.mem_singleton.mp hc]; exact hd
  · exact p.mem_iff.mp hc
theorem rTx_len {gs : List Nat} (hg : Good gs) {its : List (List Nat)} (h : Row gs its) (hl : its.length ≤ 160) : (rTx gs its).length ≤ 1000 := by
  unfold rTx
  split
  · show 1 ≤ 1000; omega
  · have := flat_len (f := iTx gs) (m := 6) (its := its) fun x hx => Nat.le_trans iTx_len (by have := row_len hg h x hx; omega)
    omega
end Own

namespace Own
open PySem PySem.Spec PyProof.Rows L2 SX
/-! ### promises of the laws' own helpers -/
def spItems : Sp := fun vs H Q _ => ∃ (r : Addr) (gs : List Nat) (m : Int), vs = [.ref r, tx gs, .int m] ∧ Good gs ∧ 0 ≤ m ∧ m ≤ 100 ∧ Rng H r ∧
  ∀ H' p its, Go r H H' → H p = none → H' p = some (.lst (its.map tx)) → Row gs its → (its.length : Int) ≤ m → Q (.ref p) H'
def spLx (K : PySem.W.Frag) : Sp := fun vs H Q _ => ∃ (gs : List Nat) (a : Addr) (its : List (List Nat)), vs = [tx gs, .ref a] ∧ Good gs ∧ Row gs its ∧ its.length ≤ 100 ∧ SqL K H a (its.map tx) ∧ ∀ H', Same H H' → Q (tx (rTx gs its)) H'
theorem Tm.ext {C : Addr} {H H' : Hp} {a : Addr} {gs : List Nat} {its : List (List Nat)} (t : Tm C H a gs its) (e : LamX.ExtN H H') : Tm C H' a gs its := by
  obtain ⟨dx, p, h1, h4⟩ := t
  exact ⟨dx, p, e _ _ h1 (fun ps h => by cases h), e _ _ h4 (fun ps h => by cases h)⟩
def lf1 (gs : List Nat) (xs x : List Nat) : List Nat := if x.length = 1 then x else xs.map (tau gs x)
theorem lf_eq {gs : List Nat} (hg : Good gs) {its : List (List Nat)} (h : Row gs its) (xs : List Nat) : (its.map (lf1 gs xs)).flatten = fillL gs its xs := by
  unfold fillL putL
  induction its with
  | nil => rfl
  | cons x r ih =>
    have ih := ih fun y hy => h y (List.mem_cons_of_mem _ hy)
    rw [List.map_cons, List.flatten_cons, ih, List.map_cons, List.flatten_cons, List.flatten_append]
    congr 1
    have hx := h x (List.mem_cons_self ..)
    unfold lf1
    rcases hx with ⟨c, _, rfl⟩ | p
    · rw [if_pos (show [c].length = 1 from rfl), if_neg (by show ¬ 1 < 1; omega)]
      simp
    · have := p.length_eq
      have := hg.lo
      rw [if_neg (by omega), if_pos (by omega)]
      simp
theorem row_pos {gs : List Nat} (hg : Good gs) {its : List (List Nat)} (h : Row gs its) : ∀ x ∈ its, 0 < x.length := by
  intro x hx
  rcases h x hx with ⟨c, _, rfl⟩ | p
  · show 0 < 1; omega
  · rw [p.length_eq]; have := hg.lo; omega
end Own

namespace Own
open PySem PySem.Spec PyProof.Rows L2 SX
/-! ### x[::-1] of texts and of tuples -/
end Own

namespace Own
open PySem PySem.Spec PyProof.Rows L2 SX
/-! ### a == b, a != b of two instances of one class, by its own __eq__, either answer -/
section
variable {P : Program} {w : World} {A : Around} {E : Value → Shared → Prop} {s : Shared} {K : PySem.W.Frag} {x y C f : Addr} {ox oy : Obj} {dx dy : Option Obj}
end
section
variable {X : Cx} {CX : CXT} {n : Nat} {C f : Addr} {fd : FuncData} {ps : List Str} {sp : Sp} {E : XK}
end
end Own

namespace Own
open PySem PySem.Spec PyProof.Rows L2 SX
/-! ### templates compared, mirrored; promises -/
end Own

namespace Own
open PySem PySem.Spec PyProof.Rows L2 SX
/-! ### templates put into one another -/
theorem none_of {H H' : Hp} (s : Same H H') {p : Addr} (h : H' p = none) : H p = none := by
  cases e : H p with
  | none => rfl
  | some o => rw [s _ _ e] at h; cases h
/-- a template stays where a list is written -/
theorem Tm.put {C : Addr} {H : Hp} {a D : Addr} {gs : List Nat} {its : List (List Nat)} {xs ys : List V} (t : Tm C H a gs its) (hD : H D = some (.lst xs)) : Tm C (upd H D (.lst ys)) a gs its := by
  obtain ⟨dx, p, h1, h4⟩ := t
  exact ⟨dx, p, by rw [upd_ne (ne_of h1 hD fun e => by cases e)]; exact h1, by rw [upd_ne (ne_of h4 hD fun e => by cases e)]; exact h4⟩
/-! ### promises -/
end Own

namespace Own
open PySem PySem.Spec PyProof.Rows L2 SX
/-! ### a == v, a + b by an own class -/
section
variable {X : Cx} {CX : CXT} {n : Nat} {C f : Addr} {fd : FuncData} {ps : List Str} {sp : Sp} {E : XK}
end
/-! ### lists cut -/
/-! ### promises -/
end Own

namespace Own
open PySem PySem.Spec PyProof.Rows L2 SX
/-! ### len(o), str(o), repr(o) by an own class -/
section
variable {X : Cx} {CX : CXT} {n : Nat} {C f : Addr} {fd : FuncData} {ps : List Str} {sp : Sp} {E : XK}
/-- a method of the class that a built-in asks for -/
structure DunOf (K : PySem.W.Frag) (C : Addr) (m : Str) (f : Addr) : Prop where
  at_ : PySem.W.findIn K (.ref C) m = some (some (.ref f))
  fn : PySem.W.isFn K (.ref f) = true
end
/-! ### for i, x in enumerate(t), t a tuple -/
end Own

namespace Own
open PySem PySem.Spec PyProof.Rows L2 SX
/-! ### parts: (true, turn) for a blank, (false, text) for fixed letters side by side -/
abbrev Part := Bool × List Nat
/-! ### parts as they lie -/
def kd (b : Bool) : V := .str (Str.ofString (if b then "blank" else "text"))
inductive PsA (H : Hp) : List Addr → List Part → Prop
  | nil : PsA H [] []
  | cons {a : Addr} {p : Part} {as : List Addr} {ps : List Part} : H a = some (.tup [kd p.1, tx p.2]) → PsA H as ps → PsA H (a :: as) (p :: ps)
theorem PsA.same {H H' : Hp} (s : Same H H') {as : List Addr} {ps : List Part} (h : PsA H as ps) : PsA H' as ps := by
  induction h with
  | nil => exact .nil
  | cons h _ ih => exact .cons (s _ _ h) ih
theorem PsA.put {H : Hp} {D : Addr} {xs ys : List V} (hD : H D = some (.lst xs)) {as : List Addr} {ps : List Part} (h : PsA H as ps) : PsA (upd H D (.lst ys)) as ps := by
  induction h with
  | nil => exact .nil
  | cons h _ ih => exact .cons (by rw [upd_ne (ne_of h hD fun e => by cases e)]; exact h) ih
theorem PsA.app {H : Hp} {as bs : List Addr} {ps qs : List Part} (h : PsA H as ps) (h' : PsA H bs qs) : PsA H (as ++ bs) (ps ++ qs) := by
  induction h with
  | nil => exact h'
  | cons h _ ih => exact .cons h ih
theorem PsA.len {H : Hp} {as : List Addr} {ps : List Part} (h : PsA H as ps) : as.length = ps.length := by
  induction h with
  | nil => rfl
  | cons _ _ ih => rw [List.length_cons, List.length_cons, ih]
theorem PsA.one {H : Hp} {a : Addr} {p : Part} (h : H a = some (.tup [kd p.1, tx p.2])) : PsA H [a] [p] := .cons h .nil
theorem PsA.get {H : Hp} {as : List Addr} {ps : List Part} (h : PsA H as ps) : ∀ (i : Nat) (a : Addr) (p : Part), as[i]? = some a → ps[i]? = some p → H a = some (.tup [kd p.1, tx p.2]) := by
  induction h with
  | nil => intro i a p h; simp at h
  | cons h _ ih =>
    intro i a p ha hp
    cases i with
    | zero => cases ha; cases hp; exact h
    | succ i => exact ih i a p ha hp
/-- the last one apart -/
theorem PsA.last {H : Hp} {as : List Addr} {F : List Part} {p : Part} (h : PsA H as (F ++ [p])) : ∃ bs a, as = bs ++ [a] ∧ PsA H bs F ∧ H a = some (.tup [kd p.1, tx p.2]) := by
  induction F generalizing as with
  | nil =>
    cases h with
    | cons h r =>
      cases r
      exact ⟨[], _, rfl, .nil, h⟩
  | cons q F ih =>
    cases h with
    | cons h r =>
      obtain ⟨bs, a, rfl, h1, h2⟩ := ih r
      exact ⟨_ :: bs, a, rfl, .cons h h1, h2⟩
/-- a list of parts at l -/
def PsL (H : Hp) (l : Addr) (ps : List Part) : Prop := ∃ as, H l = some (.lst (as.map V.ref)) ∧ PsA H as ps
theorem PsL.same {H H' : Hp} {l : Addr} {ps : List Part} (h : PsL H l ps) (s : Same H H') : PsL H' l ps := let ⟨as, h1, h2⟩ := h; ⟨as, s _ _ h1, h2.same s⟩
/-! ### parts as data -/
theorem lay_str {c : List Nat} (h : ∀ k ∈ c, k < 128) : PyData.canLay0 (.str (S c)) = true := by
  have := lay_tx [c] (fun x hx k hk => by rw [List.mem_singleton.mp hx] at hk; exact h k hk)
  show ((c.toArray).all (fun k => decide (k < 1114112))) = true
  rw [List.all_toArray, List.all_eq_true]
  intro k hk
  have := h k hk
  exact decide_eq_true (show k < 1114112 by omega)
theorem len_app (a b : Str) : (a ++ b).length = a.length + b.length := Array.size_append
/-! ### promises -/
end Own

namespace Own
open PySem PySem.Spec PyProof.Rows L2 SX
/-! ### texts of templates that cannot be read -/
/-- neither a letter nor a whole blank begins here -/
def Stuck (gs rest : List Nat) : Prop := rest ≠ [] ∧ (∀ c r, rest = c :: r → c ∉ gs) ∧ (∀ post, rest ≠ [123, 125] ++ post) ∧ ∀ x post, rest = [123] ++ x ++ [125] ++ post → ¬ x.Perm gs
/-- the first character that cannot stand there -/
def Fault (gs t : List Nat) (n : Nat) : Prop := t ≠ [45] ∧ ((t = [] ∧ n = 0) ∨ ∃ its zs rest, Forms gs its zs ∧ t = zs.flatten ++ rest ∧ Stuck gs rest ∧ n = zs.flatten.length)
theorem forms_snoc {gs : List Nat} {its zs : List (List Nat)} {x z : List Nat} (h : Forms gs its zs) (hx : Form gs x z) : Forms gs (its ++ [x]) (zs ++ [z]) := by
  induction h with
  | nil => exact .cons hx .nil
  | cons h _ ih => exact .cons h ih
theorem flat_snoc (zs : List (List Nat)) (z : List Nat) : (zs ++ [z]).flatten = zs.flatten ++ z := by simp
/-- what begins at a place -/
theorem begins (gs rest : List Nat) : rest = [] ∨ (∃ c r, rest = c :: r ∧ c ∈ gs) ∨ ((∀ c r, rest = c :: r → c ∉ gs) ∧ ∃ post, rest = [123, 125] ++ post) ∨
    ((∀ c r, rest = c :: r → c ∉ gs) ∧ ∃ x post, rest = [123] ++ x ++ [125] ++ post ∧ x.Perm gs) ∨ Stuck gs rest := by
  by_cases h0 : rest = []
  · exact .inl h0
  by_cases h1 : ∃ c r, rest = c :: r ∧ c ∈ gs
  · exact .inr (.inl h1)
  have n1 : ∀ c r, rest = c :: r → c ∉ gs := fun c r e h => h1 ⟨c, r, e, h⟩
  by_cases h2 : ∃ post, rest = [123, 125] ++ post
  · exact .inr (.inr (.inl ⟨n1, h2⟩))
  by_cases h3 : ∃ x post, rest = [123] ++ x ++ [125] ++ post ∧ x.Perm gs
  · exact .inr (.inr (.inr (.inl ⟨n1, h3⟩)))
  exact .inr (.inr (.inr (.inr ⟨h0, n1, fun post e => h2 ⟨post, e⟩, fun x post e p => h3 ⟨x, post, e, p⟩⟩)))
/-- a text is read to its end, or up to a fault -/
theorem parse (gs : List Nat) : ∀ (n : Nat) (t : List Nat), t.length ≤ n → ∃ its zs rest, Forms gs its zs ∧ t = zs.flatten ++ rest ∧ (rest = [] ∨ Stuck gs rest) := by
  intro n
  induction n with
  | zero =>
    intro t h
    exact ⟨[], [], [], .nil, List.length_eq_zero_iff.mp (Nat.le_zero.mp h), .inl rfl⟩
  | succ n ih =>
    intro t h
    have go : ∀ (x z post : List Nat), t = z ++ post → 0 < z.length → Form gs x z → ∃ its zs rest, Forms gs its zs ∧ t = zs.flatten ++ rest ∧ (rest = [] ∨ Stuck gs rest) := by
      intro x z post e hz hf
      rw [e, List.length_append] at h
      obtain ⟨its, zs, rest, h1, h2, h3⟩ := ih post (by omega)
      exact ⟨x :: its, z :: zs, rest, .cons hf h1, by rw [e, h2]; simp, h3⟩
    rcases begins gs t with e | ⟨c, r, e, hc⟩ | ⟨_, post, e⟩ | ⟨_, x, post, e, hp⟩ | hs
    · exact ⟨[], [], [], .nil, e, .inl rfl⟩
    · exact go [c] [c] r e Nat.one_pos (.one hc)
    · exact go gs [123, 125] post e (by decide) .plain
    · exact go x ([123] ++ x ++ [125]) post e (by simp) (.turn hp)
    · exact ⟨[], [], t, .nil, rfl, .inr hs⟩
theorem reads (gs t : List Nat) : (∃ its, Rd gs its t) ∨ ∃ n, Fault gs t n := by
  by_cases h0 : t = [45]
  · exact .inl ⟨[], .inl ⟨rfl, h0⟩⟩
  by_cases h1 : t = []
  · exact .inr ⟨0, h0, .inl ⟨h1, rfl⟩⟩
  obtain ⟨its, zs, rest, h2, h3, h4⟩ := parse gs t.length t (Nat.le_refl _)
  rcases h4 with e | hs
  · rw [e, List.append_nil] at h3
    refine .inl ⟨its, .inr ⟨fun e => ?_, zs, h2, h3⟩⟩
    subst e
    cases h2
    exact h1 h3
  · exact .inr ⟨_, h0, .inr ⟨its, zs, rest, h2, h3, hs, rfl⟩⟩
theorem cut_rest {pre rest : List Nat} {i j : Int} {a b : Nat} (h1 : i = ((pre.length + a : Nat) : Int)) (h2 : j = ((pre.length + b : Nat) : Int)) : Txt.slice (S (pre ++ rest)) (some i) (some j) = S ((rest.take b).drop a) := by
  rw [h1, h2, slice_mid, List.take_length_add_append, List.drop_length_add_append]
/-! ### promises -/
def spBw0 : Sp := fun vs H Q _ => ∃ (gs pre rest : List Nat), vs = [tx gs, tx (pre ++ rest), .int (pre.length : Int)] ∧ Good gs ∧ (pre ++ rest).length ≤ 1000 ∧ (∀ c ∈ rest, c < 128) ∧ Stuck gs rest ∧ ∀ H', Same H H' → Q (.int 0) H'
def spRdX (C : Addr) : Sp := fun vs H Q E => ∃ (gs t : List Nat), vs = [tx gs, tx t] ∧ Good gs ∧ t.length ≤ 1000 ∧ (∀ c ∈ t, c < 128) ∧
  (∀ its, Rd gs its t → ∀ H' p, Same H H' → H p = none → H' p = some (.lst (its.map tx)) → Q (.ref p) H') ∧
  ∀ n, Fault gs t n → ∀ H' d, Same H H' → H' d = some (.xd [("position", .int (n : Nat)), ("code", .str "ParseError")]) → E (.ref C) (some d) H'
theorem both {t1 t3 : TE} {σ : L2.St} {H : Hp} {Q : VK} {b1 b3 : Bool} (h1 : ∀ k : VK, k (.bl b1) H → t1 σ H k)
    (h3 : ∀ k : VK, (∀ H', Same H H' → k (.bl b3) H') → t3 σ H k) (q : ∀ H', Same H H' → Q (.bl (b1 && b3)) H') : tAndV t1 t3 σ H Q := by
  refine h1 _ ⟨b1, rfl, ?_⟩
  cases b1 with
  | false => exact iteF (q _ (Same.refl _))
  | true => exact iteT (h3 _ fun H' s => q _ s)
theorem pe_or {X : Cx} {e : Expr} {t1 t2 : TE} (h1 : PE X e t1) (h2 : PE X e t2) : PE X e (fun σ H Q => t1 σ H Q ∨ t2 σ H Q) :=
  ⟨fun pins s σ H Q I h => h.elim (h1.run pins s σ H Q I) (h2.run pins s σ H Q I)⟩
end Own

namespace Own
open PySem PySem.Spec PyProof.Rows L2 SX PySem.StrLaws
/-! ### t.replace("{" + letters + "}", "{}") of a text that can be read is the text in its shortest form -/
abbrev wide1 (gs : List Nat) : List Nat := 123 :: (gs ++ [125])
theorem repl_skip {gs z : List Nat} : ∀ (x r : List Nat), 123 ∉ x → replL (wide1 gs) z (x ++ r) = x ++ replL (wide1 gs) z r
  | [], r, _ => rfl
  | c :: x, r, h => by
    rw [List.cons_append, replL_miss (fun e => h ?_), repl_skip x r (fun m => h (List.mem_cons_of_mem _ m))]
    · rfl
    · have : c = 123 := (List.cons.inj (show c :: _ = 123 :: _ from e)).1
      rw [this]
      exact List.mem_cons_self ..
theorem repl_form {gs x f : List Nat} (hg : Good gs) (h : Form gs x f) (r : List Nat) : replL (wide1 gs) [123, 125] (f ++ r) = iTx gs x ++ replL (wide1 gs) [123, 125] r := by
  have n123 : 123 ∉ gs := fun h => by have := hg.az _ h; omega
  have n125 : 125 ∉ gs := fun h => by have := hg.az _ h; omega
  have hlo := hg.lo
  have e1 : 1 < gs.length := by omega
  cases h with
  | @one c hc =>
    have e : iTx gs [c] = [c] := by unfold iTx; rw [if_neg (by show ¬ 1 < 1; omega)]
    rw [e]
    exact repl_skip [c] r (fun m => n123 (by rw [List.mem_singleton.mp m]; exact hc))
  | plain =>
    have e : iTx gs gs = [123, 125] := by unfold iTx; rw [if_pos e1, if_pos rfl]
    obtain ⟨g, gr, eg⟩ := List.exists_cons_of_ne_nil (List.length_pos_iff.mp (show 0 < gs.length by omega))
    rw [e, show [123, 125] ++ r = 123 :: (125 :: r) from rfl, replL_miss (fun e => ?_), show (125 :: r : List Nat) = [125] ++ r from rfl, repl_skip [125] r (by decide)]
    · rfl
    · rw [eg] at e
      have := (List.cons.inj (List.cons.inj (show 123 :: 125 :: _ = 123 :: g :: _ from e)).2).1
      exact n125 (by rw [eg, this]; exact List.mem_cons_self ..)
  | turn p =>
    have hxl := p.length_eq
    have hx : 1 < x.length := by omega
    have nx : 123 ∉ x := fun m => n123 (p.mem_iff.mp m)
    have ef : [123] ++ x ++ [125] ++ r = 123 :: (x ++ [125] ++ r) := by simp
    have et : (123 :: (x ++ [125] ++ r)).take (wide1 gs).length = 123 :: (x ++ [125]) := by
      have el : (gs ++ [125]).length = (x ++ [125]).length := by rw [List.length_append, List.length_append, hxl]
      have e2 : (x ++ [125] ++ r).take (gs ++ [125]).length = x ++ [125] := by
        rw [el]
        exact List.take_left' rfl
      show 123 :: (x ++ [125] ++ r).take (gs ++ [125]).length = _
      rw [e2]
    by_cases e : x = gs
    · have ei : iTx gs x = [123, 125] := by unfold iTx; rw [if_pos hx, if_pos e]
      rw [ei, ef, replL_hit (List.cons_ne_nil _ _) (by rw [et, e])]
      congr 2
      show (x ++ [125] ++ r).drop (gs ++ [125]).length = r
      rw [← e]; exact List.drop_left' rfl
    · have ei : iTx gs x = [123] ++ x ++ [125] := by unfold iTx; rw [if_pos hx, if_neg e]
      rw [ei, ef, replL_miss (fun h => e ?_), repl_skip (x ++ [125]) r (fun m => (List.mem_append.mp m).elim nx (by decide))]
      · simp
      · rw [et] at h
        exact List.append_cancel_right (List.cons.inj h).2
end Own

namespace Own
open PySem PySem.Spec PyProof.Rows L2 SX
/-- o.replace("c" + m + "d", "z"): the sought text is made here, so it is no other object's -/
def tReplB (to tm : TE) (c d z : Str) : TE := fun σ H Q => to σ H fun v H1 => ∃ x : Str, v = .str x ∧ tm σ H1 fun g H2 => ∃ y : Str, g = .str y ∧ 0 < c.length ∧ 0 < d.length ∧ 0 < y.length ∧ c.length + y.length + d.length ≤ 1000 ∧
  (c ++ y ++ d == z) = false ∧ x.length + (x.length + 1) * z.length ≤ 16777216 ∧ Q (.str (Txt.replace x (c ++ y ++ d) z)) H2
theorem pe_replB {X : Cx} {o m : Expr} {to tm : TE} {c d z : Str} {j1 j2 j3 : Nat} {p1 p2 p3 q1 q2 apos pos : Pos} (ho : PE X o to) (hm : PE X m tm)
    (hst : starEach [.BinOp (.BinOp (.Constant (.str c) j1 p1) .Add m q1) .Add (.Constant (.str d) j2 p2) q2, .Constant (.str z) j3 p3] X.env = [(false, eval (.BinOp (.BinOp (.Constant (.str c) j1 p1) .Add m q1) .Add (.Constant (.str d) j2 p2) q2) X.env), (false, eval (.Constant (.str z) j3 p3) X.env)] := by rfl)
    (hbase : attributeBase o "replace" X.env (eval o X.env) = eval o X.env := by rfl) (hline : (apos.endLine == pos.line) = true := by rfl) :
    PE X (.Call (.Attribute o "replace" apos) [.BinOp (.BinOp (.Constant (.str c) j1 p1) .Add m q1) .Add (.Constant (.str d) j2 p2) q2, .Constant (.str z) j3 p3] [] pos) (tReplB to tm c d z) := by
  refine ⟨fun pins s σ H Q I asks => PySem.Call_method2 hbase hst hline (thn (ho.run pins s σ H _ I asks) fun v s1 ⟨v', H1, I1, r1, x, ex, asks1⟩ => ?_)⟩
  subst ex
  obtain ⟨t1, rfl⟩ := r1
  refine ⟨"str", _, PySem.F.plainAttrs_str, PySem.F.slot_str_replace, PySem.F.type_str_replace, typeIs_str _ _ _, (fun _ e => nomatch e), Calls.callWith_builtin rfl (Calls.evalArgs_plain (Calls.spliced_cons ?_))⟩
  refine wpAny_BinOp (wpAny_BinOp (Calls.Constant_str ?_))
  have I2 := I1.tok (s1.toks + 1)
  refine wpAny_mono (PySem.wpAny_toks (hm.run pins { s1 with toks := s1.toks + 1 } σ H1 _ I2 asks1)) (fun g s2 q => ?_) fun _ _ e => e.2
  obtain ⟨more, g', H2, I3, r2, y, ey, hc, hd, hy, hlen, hyz, hb, q⟩ := q
  subst ey
  obtain ⟨t2, rfl⟩ := r2
  have more : s1.toks + 1 ≤ s2.toks := more
  have n0 : (c.length == 0) = false := beq_eq_false_iff_ne.mpr (by omega)
  have n1 : (y.length == 0) = false := beq_eq_false_iff_ne.mpr (by omega)
  have n2 : (d.length == 0) = false := beq_eq_false_iff_ne.mpr (by omega)
  have n3 : ((c ++ y).length == 0) = false := beq_eq_false_iff_ne.mpr (by rw [len_app]; omega)
  refine PySem.P.add_str ?_
  rw [n0, n1]
  refine ⟨small (by rw [len_app]; omega), Calls.Constant_str (PySem.P.add_str ?_)⟩
  rw [n3, n2]
  refine ⟨small (by rw [len_app, len_app]; omega), Calls.spliced_cons (Calls.Constant_str (Calls.spliced_nil ?_))⟩
  exact PySem.SC.replace (by show s2.toks + 1 + 1 ≠ 0; omega) (by show s2.toks + 1 + 1 + 1 ≠ 0; omega) (by show s2.toks + 1 + 1 ≠ s2.toks + 1 + 1 + 1; omega) hyz hb fun t' k => ⟨.str (Txt.replace x (c ++ y ++ d) z), H2, I3.tok k, ⟨t', rfl⟩, q⟩
end Own

namespace Own
open PySem PySem.Spec PyProof.Rows L2 SX
/-! ### promises with wider limits -/
/-! ### one text, one template -/
/-! ### chains -/
/-- templates in a row, as they lie -/
def Tms (C : Addr) (H : Hp) (gs : List Nat) (ms : List Addr) (l : List (List (List Nat))) : Prop := ms.length = l.length ∧ ∀ (i : Nat) (m : Addr) (its : List (List Nat)), ms[i]? = some m → l[i]? = some its → Tm C H m gs its
theorem Tms.same {C : Addr} {H H' : Hp} {gs : List Nat} {ms : List Addr} {l : List (List (List Nat))} (t : Tms C H gs ms l) (s : Same H H') : Tms C H' gs ms l := ⟨t.1, fun i m its h1 h2 => (t.2 i m its h1 h2).same s⟩
theorem Tms.drop {C : Addr} {H : Hp} {gs : List Nat} {ms : List Addr} {l : List (List (List Nat))} (t : Tms C H gs ms l) (s : Nat) : Tms C H gs (ms.drop s) (l.drop s) := by
  refine ⟨by rw [List.length_drop, List.length_drop, t.1], fun i m its h1 h2 => ?_⟩
  rw [List.getElem?_drop] at h1 h2
  exact t.2 _ m its h1 h2
theorem Tms.at {C : Addr} {H : Hp} {gs : List Nat} {ms : List Addr} {l : List (List (List Nat))} (t : Tms C H gs ms l) {i : Nat} {m : Addr} (h : ms[i]? = some m) : ∃ its, l[i]? = some its ∧ Tm C H m gs its := by
  have hi := (List.getElem?_eq_some_iff.mp h).1
  rw [t.1] at hi
  exact ⟨_, List.getElem?_eq_getElem hi, t.2 i m _ h (List.getElem?_eq_getElem hi)⟩
/-! ### promises of chains -/
/-! ### a class held by a name, made -/
/-! ### a dict comprehension over what is walked -/
theorem dc_it {J : It} {n : Nat} {G : Hp → Prop} {Y : Nat → Hp → V → Hp → Prop} {g : TG} {tt : TT} {tk tv : TE} {vs : List Nat} {σ : L2.St} {H1 : Hp} {D : Addr} {Qd : Hp → Prop} (w : Walk J n G Y) (Pv : Nat → Hp → Prop)
    (h0 : Pv 0 (upd H1 D (.dK []))) (hG : ∀ i H, i ≤ n → Pv i H → G H)
    (turn : ∀ i x H H', i < n → Pv i H → Y i H x H' → g x (wipe σ vs) H' fun σ2 H2 => wipe σ2 vs = wipe σ vs ∧ tt σ2 H2 fun b H3 =>
      if b = true then tk σ2 H3 fun y H4 => tv σ2 H4 fun z H5 => ∃ kvs k, y = kV k ∧ H5 D = some (.dK kvs) ∧ kvs.length < sizeLine ∧ Pv (i + 1) (upd H5 D (.dK (putK kvs k z))) else Pv (i + 1) H3)
    (last : ∀ H, Pv n H → Qd H) :
    ∃ W : Nat → Nat → Hp → Prop, (∃ m, W 0 m (upd H1 D (.dK []))) ∧ ∀ i m H, W i m H →
      (J.stop i H ∧ Qd H) ∨ (J.go i H ∧ ∃ Nx : Hp → Prop, (∀ H', Nx H' → ∃ m', m' < m ∧ W (i + 1) m' H') ∧ ∀ x H', J.yld i H x H' → g x (wipe σ vs) H' fun σ2 H2 => wipe σ2 vs = wipe σ vs ∧ tt σ2 H2 fun b H3 =>
        if b = true then tk σ2 H3 fun y H4 => tv σ2 H4 fun z H5 => ∃ kvs k, y = kV k ∧ H5 D = some (.dK kvs) ∧ kvs.length < sizeLine ∧ Nx (upd H5 D (.dK (putK kvs k z))) else Nx H3) := by
  refine ⟨fun i m H => i + m = n ∧ Pv i H, ⟨n, Nat.zero_add _, h0⟩, ?_⟩
  rintro i m H ⟨em, p⟩
  have le : i ≤ n := by omega
  have stands := hG i H le p
  cases m with
  | zero =>
    have : i = n := em
    subst this
    exact .inl ⟨w.stops H stands, last H p⟩
  | succ m =>
    have lt : i < n := by omega
    refine .inr ⟨w.goes i H lt stands, Pv (i + 1), fun H' p' => ⟨m, Nat.lt_succ_self _, by omega, p'⟩, ?_⟩
    intro x H' y
    exact turn i x H H' lt p (w.yields i H x H' lt stands y)
end Own

namespace Own
open PySem PySem.Spec PyProof.Rows L2 SX
/-! ### fills one after the other -/
/-! ### lists of items, as they lie beside the drawer -/
def Lsts (H : Hp) (r : Addr) (qs : List Addr) (l : List (List (List Nat))) : Prop := qs.length = l.length ∧ ∀ (i : Nat) (q : Addr) (its : List (List Nat)), qs[i]? = some q → l[i]? = some its → q ≠ r ∧ H q = some (.lst (its.map tx))
theorem Lsts.same {H H' : Hp} {r : Addr} {qs : List Addr} {l : List (List (List Nat))} (h : Lsts H r qs l) (s : Same H H') : Lsts H' r qs l := ⟨h.1, fun i q its h1 h2 => ⟨(h.2 i q its h1 h2).1, s _ _ (h.2 i q its h1 h2).2⟩⟩
theorem Lsts.go {H H' : Hp} {r : Addr} {qs : List Addr} {l : List (List (List Nat))} (h : Lsts H r qs l) (g : Go r H H') : Lsts H' r qs l :=
  ⟨h.1, fun i q its h1 h2 => ⟨(h.2 i q its h1 h2).1, g.1 _ _ (h.2 i q its h1 h2).1 (h.2 i q its h1 h2).2⟩⟩
theorem Lsts.at {H : Hp} {r : Addr} {qs : List Addr} {l : List (List (List Nat))} (h : Lsts H r qs l) {i : Nat} {q : Addr} (e : qs[i]? = some q) : ∃ its, l[i]? = some its ∧ q ≠ r ∧ H q = some (.lst (its.map tx)) := by
  have hi := (List.getElem?_eq_some_iff.mp e).1
  rw [h.1] at hi
  exact ⟨_, List.getElem?_eq_getElem hi, h.2 i q _ e (List.getElem?_eq_getElem hi)⟩
theorem Lsts.put {H : Hp} {r D : Addr} {o : HO} {qs : List Addr} {l : List (List (List Nat))} (h : Lsts H r qs l) (n : ∀ q ∈ qs, q ≠ D) : Lsts (upd H D o) r qs l :=
  ⟨h.1, fun i q its h1 h2 => ⟨(h.2 i q its h1 h2).1, by rw [upd_ne (n q (List.mem_of_getElem? h1))]; exact (h.2 i q its h1 h2).2⟩⟩
/-- what is told of drawn rows -/
structure Rows (gs : List Nat) (b n : Nat) (l : List (List (List Nat))) : Prop where
  row : ∀ its ∈ l, Row gs its
  wid : ∀ its ∈ l, its.length ≤ b
  len : l.length ≤ n
theorem Rows.sub {gs : List Nat} {b n : Nat} {l m : List (List (List Nat))} (h : Rows gs b n l) (hm : ∀ x ∈ m, x ∈ l) (hn : m.length ≤ n) : Rows gs b n m := ⟨fun x hx => h.row x (hm x hx), fun x hx => h.wid x (hm x hx), hn⟩
end Own

namespace Own
open PySem PySem.Spec PyProof.Rows L2 SX
/-! ### text * number -/
/-! ### text[::k] -/
end Own

namespace Own
open PySem PySem.Spec PyProof.Rows L2 SX LamX
/-! ### a lambda that lies somewhere -/
structure LF where
  params : Arguments
  body : Expr
  scope : Scope
  q : Str
  cl : List (Str × Addr)
  c : Addr
  d : Option (Addr × V)
def LF.dV (F : LF) : Value := match F.d with
  | none => .none
  | some (t, _) => .ref t
abbrev LF.fd (F : LF) (pm ctv : Value) : FuncData :=
  { name := "<lambda>", qualname := F.q, params := F.params, body := .expr F.body, scope := F.scope, globals := mainGlobals, closure := F.cl, defaults := F.dV, kwdefaults := .none, doc := .none, pyModule := pm, annotations := none, code := .ref F.c, closureTuple := ctv, builtins := builtinsNs }
def LamO (f : Addr) (F : LF) : HO := .ext fun h => ∃ (od : Option Addr) (sl : Array (Option Value)) (pm ctv : Value), h.get? f = some (⟨.type "function", od, .func (F.fd pm ctv), sl⟩ : Obj)
/-- the lambda F lies at f, its code object and its default beside it -/
structure LamAt (H : Hp) (f : Addr) (F : LF) : Prop where
  fn : H f = some (LamO f F)
  code : H F.c = some (CodeO F.c F.q)
  dflt : ∀ t v, F.d = some (t, v) → H t = some (.tup [v])
theorem LamAt.same {H H' : Hp} {f : Addr} {F : LF} (l : LamAt H f F) (s : Same H H') : LamAt H' f F := ⟨s _ _ l.fn, s _ _ l.code, fun t v e => s _ _ (l.dflt t v e)⟩
theorem LamAt.ext {H H' : Hp} {f : Addr} {F : LF} (l : LamAt H f F) (e : ExtN H H') : LamAt H' f F :=
  ⟨e _ _ l.fn (fun ps z => by unfold LamO at z; cases z), e _ _ l.code codeO_ne, fun t v h => e _ _ (l.dflt t v h) (fun ps z => by cases z)⟩
theorem LamAt.go {H H' : Hp} {f r : Addr} {F : LF} (l : LamAt H f F) (g : Go r H H') : LamAt H' f F := by
  obtain ⟨xs, er⟩ := g.rng0.ex
  exact ⟨g.1 _ _ (ne_of l.fn er fun z => by unfold LamO at z; cases z) l.fn, g.1 _ _ (ne_of l.code er fun z => by unfold CodeO at z; cases z) l.code, fun t v h => g.1 _ _ (ne_of (l.dflt t v h) er fun z => by cases z) (l.dflt t v h)⟩
/-! ### its making -/
section
variable {M : Model} {A : Around} {E : Value → Shared → Prop} {s : Shared}
end
section
variable {X : Cx} {pins : List (Addr × Obj)} {σ : L2.St} {H : Hp} {s : Shared}
end
/-! ### its call -/
section
variable {X : Cx} {pins : List (Addr × Obj)} {σ : L2.St} {H HZ : Hp} {s s1 : Shared}
end
end Own

namespace Own
open PySem PySem.Spec PyProof.Rows L2 SX LamX
section
variable {X : Cx}
end
end Own

namespace Own
open PySem PySem.Spec PyProof.Rows L2 SX LamX
/-! ### templates of a text -/
end Own

namespace Own
open PySem PySem.Spec PyProof.Rows L2 SX
/-! ### the question -/
def qL (gs : List Nat) (M : Nat) : List Nat := (gs.map fun c => List.replicate M c).flatten
theorem qL_cons (c : Nat) (r : List Nat) (M : Nat) : qL (c :: r) M = List.replicate M c ++ qL r M := rfl
theorem qL_len (M : Nat) : ∀ gs : List Nat, (qL gs M).length = M * gs.length
  | [] => rfl
  | c :: r => by
    rw [qL_cons, List.length_append, List.length_replicate, qL_len M r, List.length_cons, Nat.mul_add, Nat.mul_one, Nat.add_comm]
theorem qL_mem {M : Nat} {c : Nat} : ∀ {gs : List Nat}, c ∈ qL gs M → c ∈ gs := by
  intro gs h
  obtain ⟨l, hl, hc⟩ := List.mem_flatten.mp h
  obtain ⟨d, hd, rfl⟩ := List.mem_map.mp hl
  rw [(List.mem_replicate.mp hc).2]
  exact hd
theorem qL_map (M : Nat) (f : Nat → Nat) : ∀ gs : List Nat, (qL gs M).map f = qL (gs.map f) M
  | [] => rfl
  | c :: r => by rw [qL_cons, List.map_append, List.map_replicate, qL_map M f r, List.map_cons, qL_cons]
theorem qL_tau {gs t : List Nat} {M : Nat} (hg : Good gs) (pt : t.Perm gs) : (qL gs M).map (tau gs t) = qL t M := by rw [qL_map, map_tau hg.nd pt.length_eq]
/-- what stands in the place of a blank -/
theorem fill_bl {gs t : List Nat} {M : Nat} (hg : Good gs) (pt : t.Perm gs) {r : List (List Nat)} (hr : Row gs r) : fillL gs (t :: r) (qL gs M) = qL t M ++ fillL gs r (qL gs M) := by
  have hR : Row gs (t :: r) := fun x hx => by
    rcases List.mem_cons.mp hx with rfl | h
    · exact .inr pt
    · exact hr x h
  rw [← lf_eq hg hR, ← lf_eq hg hr, List.map_cons, List.flatten_cons]
  congr 1
  unfold lf1
  have := pt.length_eq
  have := hg.lo
  rw [if_neg (by omega), qL_tau hg pt]
theorem fill_lt {gs : List Nat} {c : Nat} (hg : Good gs) (hc : c ∈ gs) {r : List (List Nat)} (hr : Row gs r) (xs : List Nat) : fillL gs ([c] :: r) xs = c :: fillL gs r xs := by
  have hR : Row gs ([c] :: r) := fun x hx => by
    rcases List.mem_cons.mp hx with rfl | h
    · exact .inl ⟨c, hc, rfl⟩
    · exact hr x h
  rw [← lf_eq hg hR, ← lf_eq hg hr, List.map_cons, List.flatten_cons]
  rfl
/-- a text read: blanks first -/
inductive Reads (gs : List Nat) (M : Nat) : List Nat → List (List Nat) → Prop
  | nil : Reads gs M [] []
  | blank {t w : List Nat} {r : List (List Nat)} : t.Perm gs → Reads gs M w r → Reads gs M (qL t M ++ w) (t :: r)
  | letter {c : Nat} {w : List Nat} {r : List (List Nat)} : c ∈ gs → (∀ t : List Nat, t.Perm gs → ¬ (qL t M <+: c :: w)) → Reads gs M w r → Reads gs M (c :: w) ([c] :: r)
theorem Reads.row {gs : List Nat} {M : Nat} {w : List Nat} {r : List (List Nat)} (h : Reads gs M w r) : Row gs r := by
  induction h with
  | nil => exact fun x hx => nomatch hx
  | blank pt _ ih =>
    intro x hx
    rcases List.mem_cons.mp hx with rfl | h
    · exact .inr pt
    · exact ih x h
  | letter hc _ _ ih =>
    intro x hx
    rcases List.mem_cons.mp hx with rfl | h
    · exact .inl ⟨_, hc, rfl⟩
    · exact ih x h
theorem Reads.len {gs : List Nat} {M : Nat} (hg : Good gs) (hM : 0 < M) {w : List Nat} {r : List (List Nat)} (h : Reads gs M w r) : r.length ≤ w.length := by
  induction h with
  | nil => exact Nat.le_refl _
  | blank pt _ ih =>
    rw [List.length_cons, List.length_append, qL_len, pt.length_eq]
    have : 1 * 2 ≤ M * gs.length := Nat.mul_le_mul hM hg.lo
    omega
  | letter _ _ _ ih =>
    rw [List.length_cons, List.length_cons]
    omega
theorem Reads.fill {gs : List Nat} {M : Nat} (hg : Good gs) {w : List Nat} {r : List (List Nat)} (h : Reads gs M w r) : fillL gs r (qL gs M) = w := by
  induction h with
  | nil => rfl
  | blank pt h ih => rw [fill_bl hg pt h.row, ih]
  | letter hc _ h ih => rw [fill_lt hg hc h.row, ih]
theorem Reads.mem {gs : List Nat} {M : Nat} {w : List Nat} {r : List (List Nat)} (h : Reads gs M w r) : ∀ c ∈ w, c ∈ gs := by
  induction h with
  | nil => exact fun c hc => nomatch hc
  | blank pt _ ih =>
    intro c hc
    rcases List.mem_append.mp hc with h | h
    · exact pt.mem_iff.mp (qL_mem h)
    · exact ih c h
  | letter hc _ _ ih =>
    intro c h
    rcases List.mem_cons.mp h with rfl | h
    · exact hc
    · exact ih c h
/-! ### promises -/
end Own

namespace Own
open PySem PySem.Spec PyProof.Rows L2 SX
/-! ### the fields of errors, for all codes -/
def fldA : List V := [.str (Str.ofString "UnknownLetter"), .str (Str.ofString "ParseError")]
def fldB : List V := [.str (Str.ofString "TooLong"), .str (Str.ofString "TooMany"), .str (Str.ofString "LimitReached")]
def fldC : List V := [.str (Str.ofString "InvalidName"), .str (Str.ofString "WrongKind"), .str (Str.ofString "CircularName"), .str (Str.ofString "NameInUse"), .str (Str.ofString "DuplicateName"), .str (Str.ofString "UnknownName")]
def fldD : List V := [.str (Str.ofString "InvalidGame"), .str (Str.ofString "InvalidCommand")]
/-- the name of the field that an error of this code has -/
def fldOf (code : Str) : Option Str :=
  if inV (.str code) fldA = true then some "position" else if inV (.str code) fldB = true then some "limit" else if inV (.str code) fldC = true then some "name"
  else if inV (.str code) fldD = true then some "index" else if decide (V.str code = V.str (Str.ofString "InvalidMachine")) = true then some "room" else none
/-- an error as it lies, of any code -/
def ErrN (K : PySem.W.Frag) (cls : Value) (d : Option Addr) (H : Hp) (code : Str) (v : V) : Prop :=
  ∃ (C dd : Addr) (fs : List (Str × V)), cls = .ref C ∧ d = some dd ∧ H dd = some (.xd fs) ∧ XfC K C ∧ PySem.W.findIn K (.ref C) "code" = some none ∧ fs.lookup ("code" : Str) = some (V.str code) ∧
    (∀ x, fldOf code = some x → PySem.W.findIn K (.ref C) x = some none ∧ fs.lookup x = some v) ∧ (fldOf code = none → v = .non)
def spFldN (K : PySem.W.Frag) : SpX := fun a cls d vs H Q _ => ∃ code v, vs = [.ref a] ∧ ErrN K cls d H code v ∧ ∀ H', Same H H' → Q v H'
def TryN (K : PySem.W.Frag) (CF CM : Addr) : (XK → Hp → VK → Prop) → Hp → VK → Prop := fun tl H Q =>
  tl (fun cls d H' => PySem.W.exmAny K cls [.ref CF, .ref CM] = some true ∧ ∃ code v, ErrN K cls d H' code v ∧
      ∀ H'' t, Same H' H'' → H'' t = none → Q (.ref t) (upd H'' t (.tup [.str code, v]))) H
    (fun v H' => 2 ≤ sizeLine ∧ ∀ t, H' t = none → Q (.ref t) (upd H' t (.tup [.str (Str.ofString "value"), v])))
section
variable {K : PySem.W.Frag} {mg : Str → Option Value} {x : Str} {C d : Addr} {H : Hp}
/-- an error of a code that has no field -/
theorem errN_0 {code : Str} (T : ErrC K mg x C) (h : H d = some (.xd [("code", .str code)])) (e : fldOf code = none) : ErrN K (.ref C) (some d) H code .non :=
  ⟨C, d, _, rfl, rfl, h, T.xf, T.nc, rfl, (fun y hy => by rw [e] at hy; cases hy), fun _ => rfl⟩
end
/-! ### a text that stands in another one from a place on -/
theorem sw3 {xs ys : List Nat} {i : Nat} (hi : i ≤ xs.length) : Txt.startswith3 (S xs) (S ys) (i : Int) = decide (ys <+: xs.drop i) := by
  unfold Txt.startswith3
  have e : PySem.fromIndex (S xs).length (i : Int) = i := by
    unfold PySem.fromIndex
    rw [if_neg (by omega)]
    omega
  rw [e, PySem.StrLaws.subAt_eq, S_len, S_len]
  show (decide (i + ys.length ≤ xs.length) && ((xs.drop i).take ys.length == ys)) = _
  by_cases h : ys <+: xs.drop i
  · have hl := h.length_le
    rw [List.length_drop] at hl
    rw [decide_eq_true h, decide_eq_true (by omega), ← List.prefix_iff_eq_take.mp h]
    simp
  · rw [decide_eq_false h]
    have : ((xs.drop i).take ys.length == ys) = false := by
      rw [beq_eq_false_iff_ne]
      exact fun z => h (List.prefix_iff_eq_take.mpr z.symm)
    rw [this, Bool.and_false]
/-! ### every text of the letters is read -/
/-! ### the turns that an exchange of two and the turning round of all make -/
/-! ### promises -/
end Own

namespace Own
open PySem PySem.Spec PyProof.Rows L2 SX
/-! ### wide bounds: lists of up to four million things -/
end Own

namespace Mch
/-! machines as rows: what the walk of a word is, the order of first occurrences, classes -/
def dl (rows : List (List Nat)) (r p : Nat) : Nat := (rows.getD r []).getD p 0
def wk (rows : List (List Nat)) : Nat → List Nat → Nat
  | r, [] => r
  | r, p :: w => wk rows (dl rows r p) w
structure Ok (d : Nat) (rows : List (List Nat)) : Prop where
  pos : 0 < rows.length
  row : ∀ x ∈ rows, x.length = d
  tg : ∀ x ∈ rows, ∀ t ∈ x, t < rows.length
theorem getD_lt {α : Type} {l : List α} {i : Nat} {d : α} (h : i < l.length) : l.getD i d = l[i] := by
  rw [List.getD_eq_getElem?_getD, List.getElem?_eq_getElem h]; rfl
theorem getD_ge {α : Type} {l : List α} {i : Nat} {d : α} (h : l.length ≤ i) : l.getD i d = d := by
  rw [List.getD_eq_getElem?_getD, List.getElem?_eq_none h]; rfl
theorem getD_map {α β : Type} {l : List α} {i : Nat} {d : α} {e : β} {f : α → β} (h : i < l.length) : (l.map f).getD i e = f (l.getD i d) := by
  rw [getD_lt (by simpa using h), getD_lt h, List.getElem_map]
theorem Ok.dl_lt {d : Nat} {rows : List (List Nat)} (o : Ok d rows) {r p : Nat} (h : r < rows.length) : dl rows r p < rows.length := by
  unfold dl
  rw [getD_lt h]
  by_cases hp : p < rows[r].length
  · rw [getD_lt hp]
    exact o.tg _ (List.getElem_mem h) _ (List.getElem_mem hp)
  · rw [getD_ge (by omega)]
    exact o.pos
theorem Ok.wk_lt {d : Nat} {rows : List (List Nat)} (o : Ok d rows) : ∀ {w : List Nat} {r : Nat}, r < rows.length → wk rows r w < rows.length
  | [], _, h => h
  | p :: w, r, h => Ok.wk_lt o (w := w) (o.dl_lt h)
theorem wk_app {rows : List (List Nat)} : ∀ {u v : List Nat} {r : Nat}, wk rows r (u ++ v) = wk rows (wk rows r u) v
  | [], _, _ => rfl
  | p :: u, v, r => wk_app (u := u) (v := v)
/-! ### first occurrences, in order -/
section
variable {α : Type} [DecidableEq α]
def nubA : List α → List α → List α
  | acc, [] => acc
  | acc, x :: l => nubA (if x ∈ acc then acc else acc ++ [x]) l
theorem nubA_pre : ∀ {l acc : List α}, ∃ r, nubA acc l = acc ++ r
  | [], acc => ⟨[], (List.append_nil _).symm⟩
  | x :: l, acc => by
    obtain ⟨r, hr⟩ := nubA_pre (l := l) (acc := if x ∈ acc then acc else acc ++ [x])
    unfold nubA
    rw [hr]
    split
    · exact ⟨r, rfl⟩
    · exact ⟨x :: r, by rw [List.append_assoc]; rfl⟩
theorem nubA_mem : ∀ {l acc : List α} {x : α}, x ∈ nubA acc l ↔ x ∈ acc ∨ x ∈ l
  | [], acc, x => by simp [nubA]
  | y :: l, acc, x => by
    unfold nubA
    rw [nubA_mem (l := l), List.mem_cons]
    split
    · rename_i h
      constructor
      · rintro (a | a)
        · exact .inl a
        · exact .inr (.inr a)
      · rintro (a | a | a)
        · exact .inl a
        · exact .inl (a ▸ h)
        · exact .inr a
    · rw [List.mem_append, List.mem_singleton, or_assoc]
theorem nubA_nodup : ∀ {l acc : List α}, acc.Nodup → (nubA acc l).Nodup
  | [], _, h => h
  | x :: l, acc, h => by
    unfold nubA
    refine nubA_nodup (l := l) ?_
    split
    · exact h
    · rename_i hx
      rw [List.nodup_append]
      exact ⟨h, by simp, fun a ha b hb => by rw [List.mem_singleton.mp hb]; exact fun e => hx (e ▸ ha)⟩
/-- for each the number of its kind, in the order of first occurrences -/
def numb (l : List α) : List Nat := l.map fun x => (nubA [] l).idxOf x
theorem idxOf_lt {l : List α} {x : α} (h : x ∈ l) : l.idxOf x < l.length := List.idxOf_lt_length_iff.mpr h
theorem idxOf_get {l : List α} {x : α} (h : x ∈ l) : l[l.idxOf x]? = some x := by
  rw [List.getElem?_eq_getElem (idxOf_lt h), List.getElem_idxOf]
theorem idxOf_of_get {l : List α} (nd : l.Nodup) {i : Nat} {x : α} (h : l[i]? = some x) : l.idxOf x = i := by
  obtain ⟨hi, e⟩ := List.getElem?_eq_some_iff.mp h
  rw [← e]
  exact List.Nodup.idxOf_getElem nd i hi
end
theorem nodup_len {l : List Nat} {n : Nat} (nd : l.Nodup) (h : ∀ x ∈ l, x < n) : l.length ≤ n := by
  induction n generalizing l with
  | zero => cases l with
    | nil => exact Nat.le_refl _
    | cons x l => exact absurd (h x (List.mem_cons_self ..)) (by omega)
  | succ n ih =>
    have h1 : (l.erase n).length ≤ n := ih (nd.erase n) fun x hx => by
      have h2 := h x (List.mem_of_mem_erase hx)
      have h3 : x ≠ n := fun e => by
        subst e
        exact (List.Nodup.not_mem_erase nd) hx
      omega
    have h4 := List.length_erase (a := n) (l := l)
    split at h4 <;> omega
end Mch

namespace Mch
/-! ### the rooms that texts lead to, the classes of rooms that are alike, the least machine -/
def rowOf (rows : List (List Nat)) (r : Nat) : List Nat := rows.getD r []
structure Reach (rows : List (List Nat)) (order : List Nat) : Prop where
  eq : order = nubA [0] (order.flatMap (rowOf rows))
  run : ∀ i, i < order.length → i < (nubA [0] ((order.take i).flatMap (rowOf rows))).length
def waysOf (rows : List (List Nat)) (order : List Nat) : List (List Nat) := order.map fun r => (rowOf rows r).map order.idxOf
section
variable {A : Type} (dA : A)
def toldOf (ans : List A) (order : List Nat) : List A := order.map fun r => ans.getD r dA
/-- classes of rooms: alike ones, and those that no text tells apart -/
structure Alike (d : Nat) (ways : List (List Nat)) (told : List A) (l : List Nat) : Prop where
  len : l.length = ways.length
  ans : ∀ p q, p < ways.length → q < ways.length → l.getD p 0 = l.getD q 0 → told.getD p dA = told.getD q dA
  tgt : ∀ p q, p < ways.length → q < ways.length → l.getD p 0 = l.getD q 0 → ∀ a, a < d → l.getD (dl ways p a) 0 = l.getD (dl ways q a) 0
  eqv : ∀ p q, p < ways.length → q < ways.length → (∀ w, (∀ a ∈ w, a < d) → told.getD (wk ways p w) dA = told.getD (wk ways q w) dA) → l.getD p 0 = l.getD q 0
def leastW (ways : List (List Nat)) (l : List Nat) : List (List Nat) := (nubA [] l).map fun x => (rowOf ways (l.idxOf x)).map fun t => (numb l).getD t 0
def leastT (told : List A) (l : List Nat) : List A := (nubA [] l).map fun x => told.getD (l.idxOf x) dA
def Least (d : Nat) (rows : List (List Nat)) (ans : List A) (W : List (List Nat)) (T : List A) : Prop :=
  ∃ order l, Reach rows order ∧ Alike dA d (waysOf rows order) (toldOf dA ans order) l ∧ W = leastW (waysOf rows order) l ∧ T = leastT dA (toldOf dA ans order) l
end
/-! ### what is known of the rooms reached -/
section
variable {d : Nat} {rows : List (List Nat)} {order : List Nat}
theorem Reach.nd (h : Reach rows order) : order.Nodup := by
  rw [h.eq]
  exact nubA_nodup (by simp)
theorem Reach.pre (h : Reach rows order) : ∃ r, order = 0 :: r := by
  obtain ⟨r, e⟩ := nubA_pre (l := order.flatMap (rowOf rows)) (acc := [0])
  exact ⟨r, h.eq.trans e⟩
theorem Reach.zero (h : Reach rows order) : order.idxOf 0 = 0 := by
  obtain ⟨r, e⟩ := h.pre
  rw [e]
  rfl
theorem Reach.closed (h : Reach rows order) {x t : Nat} (hx : x ∈ order) (ht : t ∈ rowOf rows x) : t ∈ order := by
  rw [h.eq, nubA_mem]
  exact .inr (List.mem_flatMap.mpr ⟨x, hx, ht⟩)
theorem rowOf_mem {rows : List (List Nat)} {r t : Nat} (h : t ∈ rowOf rows r) : r < rows.length ∧ rowOf rows r ∈ rows := by
  unfold rowOf at h ⊢
  by_cases hr : r < rows.length
  · rw [getD_lt hr]
    exact ⟨hr, List.getElem_mem hr⟩
  · rw [getD_ge (by omega)] at h
    cases h
theorem Reach.lt (o : Ok d rows) (h : Reach rows order) : ∀ x ∈ order, x < rows.length := by
  intro x hx
  rw [h.eq, nubA_mem] at hx
  rcases hx with e | e
  · rw [List.mem_singleton.mp e]; exact o.pos
  · obtain ⟨y, _, hy⟩ := List.mem_flatMap.mp e
    exact o.tg _ (rowOf_mem hy).2 _ hy
theorem Reach.len (o : Ok d rows) (h : Reach rows order) : order.length ≤ rows.length := nodup_len h.nd (h.lt o)
theorem rowOf_len (o : Ok d rows) {r : Nat} (h : r < rows.length) : (rowOf rows r).length = d := by
  unfold rowOf
  rw [getD_lt h]
  exact o.row _ (List.getElem_mem h)
theorem waysOf_len : (waysOf rows order).length = order.length := List.length_map ..
theorem waysOf_row {i : Nat} (h : i < order.length) : rowOf (waysOf rows order) i = (rowOf rows order[i]).map order.idxOf := by
  unfold waysOf
  show (List.map _ _).getD i [] = _
  rw [getD_map (d := 0) h, getD_lt h]
theorem waysOf_ok (o : Ok d rows) (h : Reach rows order) : Ok d (waysOf rows order) := by
  refine ⟨?_, ?_, ?_⟩
  · obtain ⟨r, e⟩ := h.pre
    rw [waysOf_len, e]
    exact Nat.succ_pos _
  · intro x hx
    obtain ⟨r, hr, e⟩ := List.mem_map.mp hx
    rw [← e, List.length_map]
    exact rowOf_len o (h.lt o r hr)
  · intro x hx t ht
    obtain ⟨r, hr, e⟩ := List.mem_map.mp hx
    rw [← e] at ht
    obtain ⟨u, hu, e2⟩ := List.mem_map.mp ht
    rw [waysOf_len, ← e2]
    exact idxOf_lt (h.closed hr hu)
theorem dl_eq {rows : List (List Nat)} {r p : Nat} : dl rows r p = (rowOf rows r).getD p 0 := rfl
/-- a step among the reached rooms -/
theorem reach_dl (o : Ok d rows) (h : Reach rows order) {i a : Nat} (hi : i < order.length) (ha : a < d) :
    dl (waysOf rows order) i a < order.length ∧ order.getD (dl (waysOf rows order) i a) 0 = dl rows (order.getD i 0) a := by
  have hx : order[i] ∈ order := List.getElem_mem hi
  have hl := rowOf_len o (h.lt o _ hx)
  have e : dl (waysOf rows order) i a = order.idxOf ((rowOf rows order[i]).getD a 0) := by
    rw [dl_eq, waysOf_row hi, getD_map (d := 0) (by omega)]
  have hm : (rowOf rows order[i]).getD a 0 ∈ order := by
    rw [getD_lt (by omega)]
    exact h.closed hx (List.getElem_mem _)
  rw [e]
  refine ⟨idxOf_lt hm, ?_⟩
  rw [getD_lt hi, getD_lt (idxOf_lt hm), List.getElem_idxOf]
  rfl
theorem reach_wk (o : Ok d rows) (h : Reach rows order) : ∀ {w : List Nat} {i : Nat}, i < order.length → (∀ a ∈ w, a < d) →
    wk (waysOf rows order) i w < order.length ∧ order.getD (wk (waysOf rows order) i w) 0 = wk rows (order.getD i 0) w
  | [], i, hi, _ => ⟨hi, rfl⟩
  | a :: w, i, hi, hw => by
    obtain ⟨h1, h2⟩ := reach_dl o h hi (hw a (List.mem_cons_self ..))
    have q := reach_wk o h (w := w) h1 fun b hb => hw b (List.mem_cons_of_mem _ hb)
    rw [h2] at q
    exact q
theorem reach_wk0 (o : Ok d rows) (h : Reach rows order) {w : List Nat} (hw : ∀ a ∈ w, a < d) :
    wk (waysOf rows order) 0 w < order.length ∧ order.getD (wk (waysOf rows order) 0 w) 0 = wk rows 0 w := by
  obtain ⟨r, e⟩ := h.pre
  have h0 : 0 < order.length := by rw [e]; exact Nat.succ_pos _
  have q := reach_wk o h (w := w) h0 hw
  have e0 : order.getD 0 0 = 0 := by rw [e]; rfl
  rw [e0] at q
  exact q
end
/-! ### the least machine's rows -/
section
variable {d : Nat} {ways : List (List Nat)} {l : List Nat}
theorem nub_mem {l : List Nat} {x : Nat} : x ∈ nubA [] l ↔ x ∈ l := by
  rw [nubA_mem]
  simp
theorem numb_at {l : List Nat} {i : Nat} (h : i < l.length) : (numb l).getD i 0 = (nubA [] l).idxOf (l.getD i 0) := by
  unfold numb
  rw [getD_map (d := 0) h]
theorem numb_lt {l : List Nat} {i : Nat} (h : i < l.length) : (numb l).getD i 0 < (nubA [] l).length := by
  rw [numb_at h]
  exact idxOf_lt (nub_mem.mpr (by rw [getD_lt h]; exact List.getElem_mem h))
theorem leastW_len : (leastW ways l).length = (nubA [] l).length := List.length_map ..
theorem leastW_row {c : Nat} (h : c < (nubA [] l).length) : rowOf (leastW ways l) c = (rowOf ways (l.idxOf (nubA [] l)[c])).map fun t => (numb l).getD t 0 := by
  unfold leastW
  show (List.map _ _).getD c [] = _
  rw [getD_map (d := 0) h, getD_lt h]
/-- the first room of a class -/
theorem first_lt {x : Nat} (h : x ∈ nubA [] l) : l.idxOf x < l.length ∧ l.getD (l.idxOf x) 0 = x := by
  have h' := nub_mem.mp h
  exact ⟨idxOf_lt h', by rw [getD_lt (idxOf_lt h'), List.getElem_idxOf]⟩
theorem nub_le_len : (nubA [] l).length ≤ l.length := by
  have aux : ∀ (m acc : List Nat), (nubA acc m).length ≤ acc.length + m.length := by
    intro m
    induction m with
    | nil => intro acc; exact Nat.le_refl _
    | cons x m ih =>
      intro acc
      unfold nubA
      refine Nat.le_trans (ih _) ?_
      rw [List.length_cons]
      split
      · omega
      · rw [List.length_append]
        show acc.length + 1 + _ ≤ _
        omega
  have := aux l []
  simpa using this
section
variable {A : Type} {dA : A} {told : List A}
theorem least_ok (o : Ok d ways) (a : Alike dA d ways told l) : Ok d (leastW ways l) := by
  have hl := a.len
  refine ⟨?_, ?_, ?_⟩
  · rw [leastW_len]
    have : l.getD 0 0 ∈ nubA [] l := nub_mem.mpr (by rw [getD_lt (by rw [hl]; exact o.pos)]; exact List.getElem_mem _)
    exact List.length_pos_of_mem this
  · intro x hx
    obtain ⟨y, hy, e⟩ := List.mem_map.mp hx
    rw [← e, List.length_map]
    exact rowOf_len o (by rw [← hl]; exact (first_lt hy).1)
  · intro x hx t ht
    obtain ⟨y, hy, e⟩ := List.mem_map.mp hx
    rw [← e] at ht
    obtain ⟨u, hu, e2⟩ := List.mem_map.mp ht
    rw [leastW_len, ← e2]
    refine numb_lt ?_
    rw [hl]
    exact o.tg _ (rowOf_mem hu).2 _ hu
/-- a step between classes -/
theorem least_dl (o : Ok d ways) (a : Alike dA d ways told l) {r p : Nat} (hr : r < ways.length) (hp : p < d) :
    dl (leastW ways l) ((numb l).getD r 0) p = (numb l).getD (dl ways r p) 0 := by
  have hl := a.len
  have hc : (numb l).getD r 0 < (nubA [] l).length := numb_lt (by omega)
  have hx : (nubA [] l)[(numb l).getD r 0] = l.getD r 0 := by
    have e := numb_at (l := l) (i := r) (by omega)
    have hm : l.getD r 0 ∈ nubA [] l := nub_mem.mpr (by rw [getD_lt (by omega)]; exact List.getElem_mem _)
    have q := idxOf_get hm
    rw [← e] at q
    exact (List.getElem?_eq_some_iff.mp q).2
  rw [dl_eq, leastW_row hc, hx]
  have hm : l.getD r 0 ∈ nubA [] l := nub_mem.mpr (by rw [getD_lt (by omega)]; exact List.getElem_mem _)
  obtain ⟨f1, f2⟩ := first_lt hm
  have hw : (rowOf ways (l.idxOf (l.getD r 0))).length = d := rowOf_len o (by omega)
  rw [getD_map (d := 0) (by omega)]
  show (numb l).getD (dl ways (l.idxOf (l.getD r 0)) p) 0 = _
  have ht := a.tgt _ r (by omega) hr f2 p hp
  have h1 := o.dl_lt (r := l.idxOf (l.getD r 0)) (p := p) (by omega)
  have h2 := o.dl_lt (p := p) hr
  rw [numb_at (by omega), numb_at (by omega), ht]
theorem least_wk (o : Ok d ways) (a : Alike dA d ways told l) : ∀ {w : List Nat} {r : Nat}, r < ways.length → (∀ b ∈ w, b < d) →
    wk (leastW ways l) ((numb l).getD r 0) w = (numb l).getD (wk ways r w) 0
  | [], _, _, _ => rfl
  | p :: w, r, hr, hw => by
    show wk _ (dl (leastW ways l) ((numb l).getD r 0) p) w = _
    rw [least_dl o a hr (hw p (List.mem_cons_self ..))]
    exact least_wk o a (w := w) (o.dl_lt hr) fun b hb => hw b (List.mem_cons_of_mem _ hb)
theorem least_told (o : Ok d ways) (a : Alike dA d ways told l) {r : Nat} (hr : r < ways.length) : (leastT dA told l).getD ((numb l).getD r 0) dA = told.getD r dA := by
  have hl := a.len
  have hc : (numb l).getD r 0 < (nubA [] l).length := numb_lt (by omega)
  have hm : l.getD r 0 ∈ nubA [] l := nub_mem.mpr (by rw [getD_lt (by omega)]; exact List.getElem_mem _)
  have hx : (nubA [] l).getD ((numb l).getD r 0) 0 = l.getD r 0 := by
    have e := numb_at (l := l) (i := r) (by omega)
    have q := idxOf_get hm
    rw [← e] at q
    obtain ⟨h1, h2⟩ := List.getElem?_eq_some_iff.mp q
    rw [getD_lt h1, h2]
  unfold leastT
  rw [getD_map (d := 0) hc, hx]
  obtain ⟨f1, f2⟩ := first_lt hm
  exact a.ans _ r (by omega) hr f2
theorem numb_zero (h : 0 < l.length) : (numb l).getD 0 0 = 0 := by
  rw [numb_at h]
  cases l with
  | nil => exact absurd h (by simp)
  | cons x l =>
    obtain ⟨r, hr⟩ := nubA_pre (l := l) (acc := [x])
    have e : nubA [] (x :: l) = nubA [x] l := by simp [nubA]
    rw [e, hr]
    simp
/-- the least machine answers every text as the rooms do -/
theorem Least.same {rows : List (List Nat)} {ans : List A} {W : List (List Nat)} {T : List A} (o : Ok d rows) (h : Least dA d rows ans W T) {w : List Nat} (hw : ∀ a ∈ w, a < d) :
    T.getD (wk W 0 w) dA = ans.getD (wk rows 0 w) dA := by
  obtain ⟨order, l, hr, ha, rfl, rfl⟩ := h
  have o2 := waysOf_ok o hr
  have e0 := numb_zero (l := l) (by rw [ha.len]; exact o2.pos)
  have q := least_wk o2 ha (w := w) o2.pos hw
  rw [e0] at q
  obtain ⟨h1, h2⟩ := reach_wk0 o hr hw
  rw [q, least_told o2 ha (by rw [waysOf_len]; exact h1)]
  unfold toldOf
  rw [getD_map (d := 0) h1, h2]
theorem Least.ok {rows : List (List Nat)} {ans : List A} {W : List (List Nat)} {T : List A} (o : Ok d rows) (h : Least dA d rows ans W T) : Ok d W ∧ T.length = W.length ∧ W.length ≤ rows.length := by
  obtain ⟨order, l, hr, ha, rfl, rfl⟩ := h
  have o2 := waysOf_ok o hr
  refine ⟨least_ok o2 ha, ?_, ?_⟩
  · rw [leastW_len]
    exact List.length_map ..
  · rw [leastW_len]
    refine Nat.le_trans nub_le_len ?_
    rw [ha.len, waysOf_len]
    exact hr.len o
theorem Least.mem {rows : List (List Nat)} {ans : List A} {W : List (List Nat)} {T : List A} (o : Ok d rows) (hn : ans.length = rows.length) (h : Least dA d rows ans W T) : ∀ x ∈ T, x ∈ ans := by
  obtain ⟨order, l, hr, ha, rfl, rfl⟩ := h
  intro x hx
  obtain ⟨y, hy, e⟩ := List.mem_map.mp hx
  have h1 := (first_lt hy).1
  rw [ha.len, waysOf_len] at h1
  rw [← e]
  unfold toldOf
  rw [getD_map (d := 0) h1, getD_lt h1, getD_lt (by rw [hn]; exact hr.lt o _ (List.getElem_mem h1))]
  exact List.getElem_mem _
end
end
end Mch

namespace Mch
/-! ### pairs in runs -/
/-- pairs in order by their keys, none twice -/
structure Pairs (ps : List (Nat × Nat)) : Prop where
  ord : ps.Pairwise fun x y => x.1 ≤ y.1
  nd : ps.Nodup
theorem Pairs.tail {x : Nat × Nat} {ps : List (Nat × Nat)} (h : Pairs (x :: ps)) : Pairs ps := ⟨(List.pairwise_cons.mp h.ord).2, (List.nodup_cons.mp h.nd).2⟩
/-! ### the same members, the same size -/
theorem len_of_mem {a b : List Nat} (ha : a.Nodup) (h : ∀ x ∈ a, x ∈ b) : a.length ≤ b.length := by
  induction a generalizing b with
  | nil => exact Nat.zero_le _
  | cons x a ih =>
    have h1 := List.nodup_cons.mp ha
    have h2 : a.length ≤ (b.erase x).length := ih h1.2 fun y hy => by
      refine (List.mem_erase_of_ne ?_).mpr (h y (List.mem_cons_of_mem _ hy))
      exact fun e => h1.1 (e ▸ hy)
    have h3 := List.length_erase (a := x) (l := b)
    rw [if_pos (h x (List.mem_cons_self ..))] at h3
    have h4 := List.length_pos_of_mem (h x (List.mem_cons_self ..))
    rw [List.length_cons]
    omega
theorem all_of_len {a b : List Nat} (ha : a.Nodup) (h : ∀ x ∈ a, x ∈ b) (hl : b.length ≤ a.length) : ∀ x ∈ b, x ∈ a := by
  intro x hx
  by_cases q : x ∈ a
  · exact q
  · have h1 := len_of_mem (a := x :: a) (List.nodup_cons.mpr ⟨q, ha⟩) (b := b) fun y hy => by
      rcases List.mem_cons.mp hy with e | e
      · rw [e]; exact hx
      · exact h y e
    rw [List.length_cons] at h1
    omega
/-! ### stores -/
def setAll (cl : List Nat) : List Nat → Nat → List Nat
  | [], _ => cl
  | r :: rs, c => setAll (cl.set r c) rs c
theorem setAll_len {cl : List Nat} {c : Nat} : ∀ {rs : List Nat}, (setAll cl rs c).length = cl.length := by
  intro rs
  induction rs generalizing cl with
  | nil => rfl
  | cons r rs ih =>
    unfold setAll
    rw [ih, List.length_set]
theorem setAll_get {c r : Nat} : ∀ {rs cl : List Nat}, r < cl.length → (setAll cl rs c).getD r 0 = if r ∈ rs then c else cl.getD r 0 := by
  intro rs
  induction rs with
  | nil => intro cl h; simp [setAll]
  | cons x rs ih =>
    intro cl h
    unfold setAll
    rw [ih (by simpa using h)]
    by_cases q : r ∈ rs
    · rw [if_pos q, if_pos (List.mem_cons_of_mem _ q)]
    · rw [if_neg q]
      by_cases e : x = r
      · subst e
        rw [if_pos (List.mem_cons_self ..), getD_lt (by simpa using h), List.getElem_set_self]
      · rw [if_neg (by rw [List.mem_cons]; exact fun z => z.elim (fun z => e z.symm) q), getD_lt (by simpa using h), getD_lt h, List.getElem_set_ne e]
end Mch

namespace Mch
/-! ### classes that are split until no letter tells rooms of one class apart -/
def cnt (R : Nat) (cl : List Nat) (c : Nat) : Nat := ((List.range R).filter fun r => decide (cl.getD r 0 = c)).length
section
variable {A : Type} (dA : A) (d R : Nat) (ways : List (List Nat)) (told : List A)
def Eqv (p q : Nat) : Prop := ∀ w, (∀ a ∈ w, a < d) → told.getD (wk ways p w) dA = told.getD (wk ways q w) dA
structure HInv (cl : List Nat) (ms : List (List Nat)) (sz : List Nat) : Prop where
  clen : cl.length = R
  slen : sz.length = ms.length
  clt : ∀ r, r < R → cl.getD r 0 < ms.length
  mnd : ∀ c, c < ms.length → (ms.getD c []).Nodup
  mlt : ∀ c, c < ms.length → ∀ r ∈ ms.getD c [], r < R
  mem : ∀ r, r < R → r ∈ ms.getD (cl.getD r 0) []
  siz : ∀ c, c < ms.length → sz.getD c 0 = cnt R cl c
  pos : ∀ c, c < ms.length → 0 < sz.getD c 0
  ans : ∀ p q, p < R → q < R → cl.getD p 0 = cl.getD q 0 → told.getD p dA = told.getD q dA
  eqv : ∀ p q, p < R → q < R → Eqv dA d ways told p q → cl.getD p 0 = cl.getD q 0
/-- rooms of a class that a letter parts: some waiting class tells them, or it is still to come -/
def Sep (cl wt : List Nat) (rem : Nat → Nat → Prop) (Y : Nat → Prop) : Prop := ∀ p q a, p < R → q < R → a < d → cl.getD p 0 = cl.getD q 0 → cl.getD (dl ways p a) 0 ≠ cl.getD (dl ways q a) 0 →
  (∃ c ∈ wt, ¬ (cl.getD (dl ways p a) 0 = c ↔ cl.getD (dl ways q a) 0 = c)) ∨ (rem a (cl.getD p 0) ∧ ¬ (Y (dl ways p a) ↔ Y (dl ways q a)))
end
section
variable {A : Type} {dA : A} {d R : Nat} {ways : List (List Nat)} {told : List A} {cl : List Nat} {ms : List (List Nat)} {sz wt : List Nat}
theorem cnt_mem {c r : Nat} : r ∈ (List.range R).filter (fun r => decide (cl.getD r 0 = c)) ↔ r < R ∧ cl.getD r 0 = c := by
  rw [List.mem_filter, decide_eq_true_iff, List.mem_range]
theorem cnt_nd {c : Nat} : ((List.range R).filter (fun r => decide (cl.getD r 0 = c))).Nodup := List.nodup_range.filter _
theorem HInv.all (I : HInv dA d R ways told cl ms sz) {c : Nat} (hc : c < ms.length) {hit : List Nat} (hnd : hit.Nodup) (hin : ∀ r ∈ hit, r < R ∧ cl.getD r 0 = c) (hl : hit.length = sz.getD c 0) :
    ∀ r, r < R → cl.getD r 0 = c → r ∈ hit := by
  intro r h1 h2
  refine all_of_len hnd (b := (List.range R).filter fun r => decide (cl.getD r 0 = c)) (fun x hx => cnt_mem.mpr (hin x hx)) ?_ r (cnt_mem.mpr ⟨h1, h2⟩)
  rw [hl, I.siz c hc]
  exact Nat.le_refl _
/-- how a class is parted: the rooms that go, the lists behind it -/
structure Part (c : Nat) (hit small : List Nat) (ms1 : List (List Nat)) : Prop where
  nd : small.Nodup
  inn : ∀ r ∈ small, r < R ∧ cl.getD r 0 = c
  ne : small ≠ []
  lt : small.length < sz.getD c 0
  iff : ∀ p q, p < R → q < R → cl.getD p 0 = c → cl.getD q 0 = c → ((p ∈ small ↔ q ∈ small) ↔ (p ∈ hit ↔ q ∈ hit))
  len : ms1.length = ms.length
  els : ∀ x, x ≠ c → ms1.getD x [] = ms.getD x []
  mnd : (ms1.getD c []).Nodup
  mlt : ∀ r ∈ ms1.getD c [], r < R
  mem : ∀ r, r < R → cl.getD r 0 = c → r ∉ small → r ∈ ms1.getD c []
theorem getD_snoc_lt {α : Type} {l : List α} {x dx : α} {i : Nat} (h : i < l.length) : (l ++ [x]).getD i dx = l.getD i dx := by
  rw [getD_lt (by rw [List.length_append]; omega), getD_lt h, List.getElem_append_left h]
theorem getD_snoc_eq {α : Type} {l : List α} {x dx : α} : (l ++ [x]).getD l.length dx = x := by
  rw [getD_lt (by rw [List.length_append]; show _ < _ + 1; omega), List.getElem_append_right (Nat.le_refl _)]
  simp
/-- the classes behind the split -/
theorem Part.cls {c : Nat} {hit small : List Nat} {ms1 : List (List Nat)} (I : HInv dA d R ways told cl ms sz) (P : Part (R := R) (cl := cl) (ms := ms) (sz := sz) c hit small ms1) {r : Nat} (h : r < R) :
    (setAll cl small ms.length).getD r 0 = if r ∈ small then ms.length else cl.getD r 0 := setAll_get (by rw [I.clen]; exact h)
theorem Part.same {c : Nat} {hit small : List Nat} {ms1 : List (List Nat)} (I : HInv dA d R ways told cl ms sz) (P : Part (R := R) (cl := cl) (ms := ms) (sz := sz) c hit small ms1) {p q : Nat} (hp : p < R) (hq : q < R) :
    (setAll cl small ms.length).getD p 0 = (setAll cl small ms.length).getD q 0 ↔ cl.getD p 0 = cl.getD q 0 ∧ (cl.getD p 0 = c → (p ∈ hit ↔ q ∈ hit)) := by
  rw [P.cls I hp, P.cls I hq]
  have a1 := I.clt p hp
  have a2 := I.clt q hq
  by_cases h1 : p ∈ small <;> by_cases h2 : q ∈ small
  · rw [if_pos h1, if_pos h2]
    have e1 := (P.inn p h1).2
    have e2 := (P.inn q h2).2
    refine ⟨fun _ => ⟨by rw [e1, e2], fun _ => (P.iff p q hp hq e1 e2).mp ⟨fun _ => h2, fun _ => h1⟩⟩, fun _ => rfl⟩
  · rw [if_pos h1, if_neg h2]
    have e1 := (P.inn p h1).2
    refine ⟨fun z => by omega, fun z => ?_⟩
    have e2 : cl.getD q 0 = c := by rw [← z.1]; exact e1
    exact absurd (((P.iff p q hp hq e1 e2).mpr (z.2 e1)).mp h1) h2
  · rw [if_neg h1, if_pos h2]
    have e2 := (P.inn q h2).2
    refine ⟨fun z => by omega, fun z => ?_⟩
    have e1 : cl.getD p 0 = c := by rw [z.1]; exact e2
    exact absurd (((P.iff p q hp hq e1 e2).mpr (z.2 e1)).mpr h2) h1
  · rw [if_neg h1, if_neg h2]
    refine ⟨fun z => ⟨z, fun e1 => (P.iff p q hp hq e1 (by rw [← z]; exact e1)).mp ⟨fun y => absurd y h1, fun y => absurd y h2⟩⟩, fun z => z.1⟩
theorem HInv.split (I : HInv dA d R ways told cl ms sz) {c : Nat} (hc : c < ms.length) {hit small : List Nat} {ms1 : List (List Nat)} (P : Part (R := R) (cl := cl) (ms := ms) (sz := sz) c hit small ms1)
    (sat : ∀ p q, p < R → q < R → cl.getD p 0 = c → cl.getD q 0 = c → Eqv dA d ways told p q → (p ∈ hit ↔ q ∈ hit)) :
    HInv dA d R ways told (setAll cl small ms.length) (ms1 ++ [small]) (sz.set c (sz.getD c 0 - small.length) ++ [small.length]) := by
  have hl : (ms1 ++ [small]).length = ms.length + 1 := by rw [List.length_append, P.len]; rfl
  have hcs : c < sz.length := by rw [I.slen]; exact hc
  have cnts : ∀ x, x < ms.length + 1 → cnt R (setAll cl small ms.length) x = if x = ms.length then small.length else if x = c then sz.getD c 0 - small.length else cnt R cl x := by
    intro x hx
    have ec := I.siz c hc
    by_cases e1 : x = ms.length
    · rw [if_pos e1]
      refine Nat.le_antisymm ?_ ?_
      · refine len_of_mem cnt_nd fun r hr => ?_
        obtain ⟨q1, q2⟩ := cnt_mem.mp hr
        rw [P.cls I q1] at q2
        by_cases q : r ∈ small
        · exact q
        · rw [if_neg q] at q2
          have := I.clt r q1
          omega
      · refine len_of_mem P.nd fun r hr => cnt_mem.mpr ⟨(P.inn r hr).1, ?_⟩
        rw [P.cls I (P.inn r hr).1, if_pos hr, e1]
    · rw [if_neg e1]
      by_cases e2 : x = c
      · rw [if_pos e2, ec]
        have hs : small.length + cnt R (setAll cl small ms.length) x = cnt R cl c := by
          refine Nat.le_antisymm ?_ ?_
          · unfold cnt
            rw [← List.length_append]
            refine len_of_mem (List.nodup_append.mpr ⟨P.nd, cnt_nd, fun a ha b hb => ?_⟩) fun r hr => ?_
            · intro eab
              obtain ⟨q1, q2⟩ := cnt_mem.mp hb
              rw [P.cls I q1, ← eab, if_pos ha] at q2
              omega
            · rcases List.mem_append.mp hr with z | z
              · exact cnt_mem.mpr (P.inn r z)
              · obtain ⟨q1, q2⟩ := cnt_mem.mp z
                rw [P.cls I q1] at q2
                by_cases q : r ∈ small
                · rw [if_pos q] at q2; omega
                · rw [if_neg q] at q2
                  exact cnt_mem.mpr ⟨q1, by rw [q2, e2]⟩
          · unfold cnt
            rw [← List.length_append]
            refine len_of_mem cnt_nd fun r hr => ?_
            obtain ⟨q1, q2⟩ := cnt_mem.mp hr
            by_cases q : r ∈ small
            · exact List.mem_append_left _ q
            · refine List.mem_append_right _ (cnt_mem.mpr ⟨q1, ?_⟩)
              rw [P.cls I q1, if_neg q, q2, e2]
        omega
      · rw [if_neg e2]
        unfold cnt
        congr 1
        refine List.filter_congr fun r hr => ?_
        have q1 := List.mem_range.mp hr
        rw [P.cls I q1]
        by_cases q : r ∈ small
        · rw [if_pos q, (P.inn r q).2]
          rw [decide_eq_false (fun z => e1 z.symm), decide_eq_false (fun z => e2 z.symm)]
        · rw [if_neg q]
  have ge : ∀ x, x < ms.length → (ms1 ++ [small]).getD x [] = ms1.getD x [] := fun x hx => getD_snoc_lt (by rw [P.len]; exact hx)
  have gn : (ms1 ++ [small]).getD ms.length [] = small := by rw [← P.len]; exact getD_snoc_eq
  have zn : (sz.set c (sz.getD c 0 - small.length) ++ [small.length]).getD ms.length 0 = small.length := by
    have e : (sz.set c (sz.getD c 0 - small.length)).length = ms.length := by rw [List.length_set, I.slen]
    rw [← e]
    exact getD_snoc_eq
  have zc : (sz.set c (sz.getD c 0 - small.length) ++ [small.length]).getD c 0 = sz.getD c 0 - small.length := by
    rw [getD_snoc_lt (by rw [List.length_set]; exact hcs), getD_lt (by rw [List.length_set]; exact hcs), List.getElem_set_self]
  have ze : ∀ x, x < ms.length → x ≠ c → (sz.set c (sz.getD c 0 - small.length) ++ [small.length]).getD x 0 = sz.getD x 0 := fun x hx hn => by
    rw [getD_snoc_lt (by rw [List.length_set, I.slen]; exact hx), getD_lt (by rw [List.length_set, I.slen]; exact hx), List.getElem_set_ne (fun z => hn z.symm), getD_lt (l := sz) (i := x) (by rw [I.slen]; exact hx)]
  have cases3 : ∀ x, x < (ms1 ++ [small]).length → x = ms.length ∨ (x < ms.length ∧ x = c) ∨ (x < ms.length ∧ x ≠ c) := fun x hx => by
    rw [hl] at hx
    by_cases q : x = ms.length
    · exact .inl q
    · by_cases q2 : x = c
      · exact .inr (.inl ⟨by omega, q2⟩)
      · exact .inr (.inr ⟨by omega, q2⟩)
  refine ⟨by rw [setAll_len, I.clen], ?_, ?_, ?_, ?_, ?_, ?_, ?_, ?_, ?_⟩
  · rw [hl, List.length_append, List.length_set, I.slen]; rfl
  · intro r hr
    rw [P.cls I hr, hl]
    have := I.clt r hr
    split <;> omega
  · intro x hx
    rcases cases3 x hx with e | ⟨h1, e⟩ | ⟨h1, e⟩
    · rw [e, gn]; exact P.nd
    · rw [ge x h1, e]; exact P.mnd
    · rw [ge x h1, P.els x e]; exact I.mnd x h1
  · intro x hx
    rcases cases3 x hx with e | ⟨h1, e⟩ | ⟨h1, e⟩
    · rw [e, gn]; exact fun r hr => (P.inn r hr).1
    · rw [ge x h1, e]; exact P.mlt
    · rw [ge x h1, P.els x e]; exact I.mlt x h1
  · intro r hr
    rw [P.cls I hr]
    by_cases q : r ∈ small
    · rw [if_pos q, gn]; exact q
    · rw [if_neg q, ge _ (I.clt r hr)]
      by_cases e : cl.getD r 0 = c
      · rw [e]; exact P.mem r hr e q
      · rw [P.els _ e]; exact I.mem r hr
  · intro x hx
    rw [cnts x (by rw [hl] at hx; exact hx)]
    rcases cases3 x hx with e | ⟨h1, e⟩ | ⟨h1, e⟩
    · rw [if_pos e, e]; exact zn
    · rw [if_neg (by omega), if_pos e, e]; exact zc
    · rw [if_neg (by omega), if_neg e, ze x h1 e]; exact I.siz x h1
  · intro x hx
    rcases cases3 x hx with e | ⟨h1, e⟩ | ⟨h1, e⟩
    · rw [e, zn]; exact List.length_pos_iff.mpr P.ne
    · rw [e, zc]; have := P.lt; omega
    · rw [ze x h1 e]; exact I.pos x h1
  · intro p q hp hq e
    exact I.ans p q hp hq ((P.same I hp hq).mp e).1
  · intro p q hp hq e
    have e1 := I.eqv p q hp hq e
    exact (P.same I hp hq).mpr ⟨e1, fun h => sat p q hp hq h (by rw [← e1]; exact h) e⟩
/-- what waits tells all that is parted, also behind a split -/
theorem Sep.split {rem rem' : Nat → Nat → Prop} {Y : Nat → Prop} (o : Ok d ways) (hR : R = ways.length) (I : HInv dA d R ways told cl ms sz) (S : Sep d R ways cl wt rem Y) (hw : ∀ x ∈ wt, x < ms.length) {c k : Nat} (hc : c < ms.length) {hit small : List Nat} {ms1 : List (List Nat)}
    (P : Part (R := R) (cl := cl) (ms := ms) (sz := sz) c hit small ms1) (hY : ∀ r, r < R → cl.getD r 0 = c → (r ∈ hit ↔ Y (dl ways r k)))
    (hrem : ∀ a x, rem a x → (a = k ∧ x = c) ∨ (rem' a x ∧ (x = c → rem' a ms.length))) : Sep d R ways (setAll cl small ms.length) (wt ++ [ms.length]) rem' Y := by
  intro p q a hp hq ha e hne
  obtain ⟨e1, e2⟩ := (P.same I hp hq).mp e
  have hdp : dl ways p a < R := by rw [hR]; exact o.dl_lt (by omega)
  have hdq : dl ways q a < R := by rw [hR]; exact o.dl_lt (by omega)
  have new : ms.length ∈ wt ++ [ms.length] := List.mem_append_right _ (List.mem_cons_self ..)
  by_cases h : cl.getD (dl ways p a) 0 = cl.getD (dl ways q a) 0
  · -- the targets' class was split
    have hn : ¬ (cl.getD (dl ways p a) 0 = c → (dl ways p a ∈ hit ↔ dl ways q a ∈ hit)) := fun z => hne ((P.same I hdp hdq).mpr ⟨h, z⟩)
    refine .inl ⟨ms.length, new, fun z => hne ?_⟩
    rw [P.cls I hdp, P.cls I hdq] at z ⊢
    have l1 := I.clt _ hdp
    have l2 := I.clt _ hdq
    by_cases s1 : dl ways p a ∈ small <;> by_cases s2 : dl ways q a ∈ small
    · rw [if_pos s1, if_pos s2]
    · rw [if_pos s1, if_neg s2] at z; have := z.mp rfl; omega
    · rw [if_neg s1, if_pos s2] at z; have := z.mpr rfl; omega
    · rw [if_neg s1, if_neg s2]; exact h
  · rcases S p q a hp hq ha e1 h with ⟨x, hx, hs⟩ | ⟨hr, hs⟩
    · left
      have hxl := hw x hx
      by_cases ex : x = c
      · subst ex
        -- one of the two lies in the class that was split
        have key : ∀ u v, u < R → v < R → cl.getD u 0 = x → cl.getD v 0 ≠ x → ∃ y ∈ wt ++ [ms.length], ((setAll cl small ms.length).getD u 0 = y) ∧ (setAll cl small ms.length).getD v 0 ≠ y := by
          intro u v hu hv q1 q2
          have nv : v ∉ small := fun z => q2 (P.inn v z).2
          by_cases s1 : u ∈ small
          · refine ⟨ms.length, new, ?_, ?_⟩
            · rw [P.cls I hu, if_pos s1]
            · rw [P.cls I hv, if_neg nv]; have := I.clt v hv; omega
          · refine ⟨x, List.mem_append_left _ hx, ?_, ?_⟩
            · rw [P.cls I hu, if_neg s1]; exact q1
            · rw [P.cls I hv, if_neg nv]; exact q2
        by_cases q1 : cl.getD (dl ways p a) 0 = x
        · have q2 : cl.getD (dl ways q a) 0 ≠ x := fun z => h (q1.trans z.symm)
          obtain ⟨y, hy, y1, y2⟩ := key _ _ hdp hdq q1 q2
          exact ⟨y, hy, fun z => y2 (z.mp y1)⟩
        · have q2 : cl.getD (dl ways q a) 0 = x := by
            by_cases q2 : cl.getD (dl ways q a) 0 = x
            · exact q2
            · exact absurd ⟨fun z => absurd z q1, fun z => absurd z q2⟩ hs
          obtain ⟨y, hy, y1, y2⟩ := key _ _ hdq hdp q2 q1
          exact ⟨y, hy, fun z => y2 (z.mpr y1)⟩
      · have tr : ∀ u, u < R → ((setAll cl small ms.length).getD u 0 = x ↔ cl.getD u 0 = x) := fun u hu => by
          rw [P.cls I hu]
          by_cases s1 : u ∈ small
          · rw [if_pos s1, (P.inn u s1).2]
            exact ⟨fun z => by omega, fun z => absurd z.symm ex⟩
          · rw [if_neg s1]
        refine ⟨x, List.mem_append_left _ hx, fun z => hs ?_⟩
        rw [tr _ hdp, tr _ hdq] at z
        exact z
    · rcases hrem a _ hr with ⟨ea, ec⟩ | ⟨hr', hr''⟩
      · exfalso
        subst ea
        refine hs ?_
        rw [← hY p hp ec, ← hY q hq (by rw [← e1]; exact ec)]
        exact e2 ec
      · refine .inr ⟨?_, hs⟩
        rw [P.cls I hp]
        split
        · rename_i s1
          exact hr'' (P.inn p s1).2
        · exact hr'
/-- what is still to come may shrink where it parts nothing -/
theorem Sep.mono {rem rem' : Nat → Nat → Prop} {Y : Nat → Prop} (S : Sep d R ways cl wt rem Y)
    (h : ∀ p q a, p < R → q < R → cl.getD p 0 = cl.getD q 0 → rem a (cl.getD p 0) → ¬ (Y (dl ways p a) ↔ Y (dl ways q a)) → rem' a (cl.getD p 0)) : Sep d R ways cl wt rem' Y := by
  intro p q a hp hq ha e hne
  rcases S p q a hp hq ha e hne with z | ⟨z1, z2⟩
  · exact .inl z
  · exact .inr ⟨h p q a hp hq e z1 z2, z2⟩
/-- nothing waits: the classes are alike -/
theorem HInv.alike {Y : Nat → Prop} (hR : R = ways.length) (o : Ok d ways) (I : HInv dA d R ways told cl ms sz) (S : Sep d R ways cl [] (fun _ _ => False) Y) : Alike dA d ways told cl := by
  subst hR
  refine ⟨I.clen, I.ans, fun p q hp hq e a ha => ?_, I.eqv⟩
  by_cases h : cl.getD (dl ways p a) 0 = cl.getD (dl ways q a) 0
  · exact h
  · rcases S p q a hp hq ha e h with ⟨x, hx, _⟩ | ⟨z, _⟩
    · cases hx
    · exact z.elim
/-- rooms that no text parts have such targets -/
theorem Eqv.step {p q a : Nat} (e : Eqv dA d ways told p q) (ha : a < d) : Eqv dA d ways told (dl ways p a) (dl ways q a) := fun w hw => e (a :: w) fun b hb => by
  rcases List.mem_cons.mp hb with h | h
  · rw [h]; exact ha
  · exact hw b h
/-- not more classes than rooms -/
theorem HInv.few (I : HInv dA d R ways told cl ms sz) : ms.length ≤ R := by
  have h : ∀ c, c < ms.length → ∃ r, r < R ∧ cl.getD r 0 = c := fun c hc => by
    have h1 := I.pos c hc
    rw [I.siz c hc] at h1
    obtain ⟨r, hr⟩ := List.exists_mem_of_length_pos h1
    exact ⟨r, cnt_mem.mp hr⟩
  have h2 := len_of_mem (a := List.range ms.length) (b := (List.range R).map fun r => cl.getD r 0) List.nodup_range fun c hc => by
    obtain ⟨r, h3, h4⟩ := h c (List.mem_range.mp hc)
    exact List.mem_map.mpr ⟨r, List.mem_range.mpr h3, h4⟩
  rw [List.length_range, List.length_map, List.length_range] at h2
  exact h2
end
end Mch

namespace Own
open PySem PySem.Spec PyProof.Rows L2 SX RZ
/-! ### whole numbers as values -/
abbrev iv (n : Nat) : V := .int (n : Int)
abbrev ivs (l : List Nat) : List V := l.map iv
/-! ### subscripts of lists and tuples, the written part named -/
section
variable {X : Cx} {K : PySem.W.Frag}
theorem ixL (h : X.K = K) : IxR X (rIxL K) := by subst h; exact ix_list
theorem ixT (h : X.K = K) : IxR X (rIxT K) := by subst h; exact ix_tup
end
section
variable {K : PySem.W.Frag} {H : Hp} {a : Addr} {xs : List V} {i : Nat} {v : V} {Q : VK}
theorem sqL (h : H a = some (.lst xs)) : SqL K H a xs := .inl (.inl h)
theorem sqT (h : H a = some (.tup xs)) : SqT K H a xs := .inl (.inl h)
end
/-! ### comprehensions that only make -/
section
variable {J : It} {n : Nat} {G : Hp → Prop} {Y : Nat → Hp → V → Hp → Prop} {g : TG} {tt : TT} {te : TE} {vs : List Nat} {σ : L2.St} {H1 : Hp} {D : Addr} {Qd : Hp → Prop}
end
/-! ### a test that changes nothing -/
theorem if_pick {t : TT} {T E : TS} {D : Ends} {σ : L2.St} {H : Hp} (cond : Prop) (fin1 : cond → T D σ H) (fin2 : ¬ cond → E D σ H) (h : ∀ k : Bool → Hp → Prop, (cond → k true H) → (¬ cond → k false H) → t σ H k) : tIfS t T E D σ H :=
  h _ (fun c => fin1 c) (fun c => fin2 c)
/-! ### set(list of whole numbers); k not in it -/
section
variable {X : Cx} {K : PySem.W.Frag}
end
/-! ### dicts by any kind of key -/
section
variable {P : Program} {w : World} {κ : Type} [DecidableEq κ]
end
section
variable {X : Cx} {κ : Type} [DecidableEq κ] {P : Program} {w : World} {knd : PySem.KeyKind P w κ} {enc : κ → V} {pins : List (Addr × Obj)} {σ : L2.St} {H : Hp} {s : Shared} {a : Addr} {kvs : List (κ × V)}
end
end Own

namespace Mch
/-! ### the classes at the beginning -/
section
variable {κ : Type} [DecidableEq κ] {dA : κ} {d : Nat} {ways : List (List Nat)} {ks : List κ}
end
end Mch

namespace Mch
section
variable {α β : Type} [DecidableEq α] [DecidableEq β] {f : α → β} (hf : ∀ a b, f a = f b → a = b)
include hf
end
end Mch

namespace Mch
/-! ### counts of texts -/
end Mch

namespace Mch
/-! ### rooms numbered by the texts that lead to them; machines that are least are equal if their answers are -/
/-- behind a room named for the first time all lesser ones are known; each room is named by an earlier one -/
structure Canon (d : Nat) (W : List (List Nat)) : Prop where
  low : ∀ c p y, c < W.length → p < d → y < dl W c p → y = 0 ∨ ∃ c' p', (c' < c ∨ (c' = c ∧ p' < p)) ∧ p' < d ∧ dl W c' p' = y
  src : ∀ j, 0 < j → j < W.length → ∃ i p, i < j ∧ p < d ∧ dl W i p = j
def Redu {A : Type} (dA : A) (d : Nat) (W : List (List Nat)) (T : List A) : Prop := ∀ r q, r < W.length → q < W.length → (∀ w, (∀ a ∈ w, a < d) → T.getD (wk W r w) dA = T.getD (wk W q w) dA) → r = q
section
variable {A : Type} {dA : A} {d : Nat} {W W' : List (List Nat)} {T T' : List A}
/-- rooms that one text leads to -/
def Rl (d : Nat) (W W' : List (List Nat)) (r s : Nat) : Prop := ∃ w, (∀ a ∈ w, a < d) ∧ wk W 0 w = r ∧ wk W' 0 w = s
theorem app_lt {d : Nat} {u v : List Nat} (h1 : ∀ a ∈ u, a < d) (h2 : ∀ a ∈ v, a < d) : ∀ a ∈ u ++ v, a < d := fun a ha => by
  rcases List.mem_append.mp ha with z | z
  · exact h1 a z
  · exact h2 a z
theorem Rl.fut {r s : Nat} (same : ∀ w, (∀ a ∈ w, a < d) → T.getD (wk W 0 w) dA = T'.getD (wk W' 0 w) dA) (h : Rl d W W' r s) : ∀ v, (∀ a ∈ v, a < d) → T.getD (wk W r v) dA = T'.getD (wk W' s v) dA := fun v hv => by
  obtain ⟨w, w1, w2, w3⟩ := h
  have := same (w ++ v) (app_lt w1 hv)
  rw [wk_app, wk_app, w2, w3] at this
  exact this
theorem Rl.fn {r s s' : Nat} (o' : Ok d W') (red' : Redu dA d W' T') (same : ∀ w, (∀ a ∈ w, a < d) → T.getD (wk W 0 w) dA = T'.getD (wk W' 0 w) dA) (h : Rl d W W' r s) (h' : Rl d W W' r s') : s = s' := by
  have f1 := h.fut same
  have f2 := h'.fut same
  obtain ⟨w, _, _, w3⟩ := h
  obtain ⟨w', _, _, w3'⟩ := h'
  exact red' s s' (by rw [← w3]; exact o'.wk_lt o'.pos) (by rw [← w3']; exact o'.wk_lt o'.pos) fun v hv => (f1 v hv).symm.trans (f2 v hv)
theorem Rl.inj {r r' s : Nat} (o : Ok d W) (red : Redu dA d W T) (same : ∀ w, (∀ a ∈ w, a < d) → T.getD (wk W 0 w) dA = T'.getD (wk W' 0 w) dA) (h : Rl d W W' r s) (h' : Rl d W W' r' s) : r = r' := by
  have f1 := h.fut same
  have f2 := h'.fut same
  obtain ⟨w, _, w2, _⟩ := h
  obtain ⟨w', _, w2', _⟩ := h'
  exact red r r' (by rw [← w2]; exact o.wk_lt o.pos) (by rw [← w2']; exact o.wk_lt o.pos) fun v hv => (f1 v hv).trans (f2 v hv).symm
theorem Rl.step {r s p : Nat} (h : Rl d W W' r s) (hp : p < d) : Rl d W W' (dl W r p) (dl W' s p) := by
  obtain ⟨w, w1, w2, w3⟩ := h
  refine ⟨w ++ [p], app_lt w1 (fun a ha => by rw [List.mem_singleton.mp ha]; exact hp), ?_, ?_⟩
  · rw [wk_app, w2]; rfl
  · rw [wk_app, w3]; rfl
/-- each room goes with the room of the same number -/
theorem Rl.self (o : Ok d W) (o' : Ok d W') (c : Canon d W) (c' : Canon d W') (red : Redu dA d W T) (red' : Redu dA d W' T') (same : ∀ w, (∀ a ∈ w, a < d) → T.getD (wk W 0 w) dA = T'.getD (wk W' 0 w) dA) :
    ∀ k, k < W.length → Rl d W W' k k := by
  intro k
  induction k using Nat.strongRecOn with
  | ind k ih =>
    intro hk
    by_cases h0 : k = 0
    · subst h0
      exact ⟨[], fun _ h => (List.not_mem_nil h).elim, rfl, rfl⟩
    · have aux : ∀ N i p, i * d + p = N → i < k → p < d → dl W i p = k → Rl d W W' k k := by
        intro N
        induction N using Nat.strongRecOn with
        | ind N ihN =>
          intro i p hN hi hp e
          have hs := (ih i hi (by omega)).step hp
          rw [e] at hs
          -- the room that goes with k
          by_cases hm : dl W' i p = k
          · rw [hm] at hs; exact hs
          · have il' : i < W'.length := by
              obtain ⟨w, _, _, w3⟩ := ih i hi (by omega)
              rw [← w3]
              exact o'.wk_lt o'.pos
            have ge : k < dl W' i p := by
              by_cases z : dl W' i p < k
              · have h2 := ih (dl W' i p) z (by omega)
                exact absurd (Rl.inj o red same h2 hs) (by omega)
              · omega
            rcases c'.low i p k il' hp ge with z | ⟨i', p', z1, z2, z3⟩
            · exact absurd z h0
            · have hi' : i' < k := by rcases z1 with z | z <;> omega
              have hs' := (ih i' hi' (by omega)).step z2
              rw [z3] at hs'
              have lt1 : i' * d + p' < i * d + p := by
                rcases z1 with z | ⟨z, z'⟩
                · have : (i' + 1) * d ≤ i * d := Nat.mul_le_mul_right d z
                  rw [Nat.add_mul, Nat.one_mul] at this
                  omega
                · rw [z]; omega
              by_cases u1 : dl W i' p' < k
              · have h2 := ih _ u1 (by omega)
                have := Rl.fn o' red' same h2 hs'
                omega
              · by_cases u2 : dl W i' p' = k
                · rw [u2] at hs'; exact hs'
                · rcases c.low i' p' k (by omega) z2 (by omega) with y | ⟨i2, p2, y1, y2, y3⟩
                  · exact absurd y h0
                  · have hi2 : i2 < k := by rcases y1 with z | z <;> omega
                    have lt2 : i2 * d + p2 < i' * d + p' := by
                      rcases y1 with z | ⟨z, z'⟩
                      · have : (i2 + 1) * d ≤ i' * d := Nat.mul_le_mul_right d z
                        rw [Nat.add_mul, Nat.one_mul] at this
                        omega
                      · rw [z]; omega
                    exact ihN (i2 * d + p2) (by omega) i2 p2 rfl hi2 y2 y3
      obtain ⟨i, p, h1, h2, h3⟩ := c.src k (by omega) hk
      exact aux _ i p rfl h1 h2 h3
end
/-! ### the least machine is so -/
section
variable {A : Type} {dA : A} {d : Nat} {ways : List (List Nat)} {told : List A} {l : List Nat}
end
section
variable {d : Nat} {rows : List (List Nat)} {order : List Nat}
end
end Mch

namespace Mch
/-! ### short texts tell machines apart (Moore) -/
section
variable {A : Type}
theorem countP_eq {α : Type} {p q : α → Bool} : ∀ {l : List α}, (∀ x ∈ l, p x = true → q x = true) → l.countP p ≤ l.countP q ∧ (l.countP q ≤ l.countP p → ∀ x ∈ l, q x = true → p x = true)
  | [], _ => ⟨Nat.le_refl _, fun _ x h => (List.not_mem_nil h).elim⟩
  | y :: l, h => by
    obtain ⟨i1, i2⟩ := countP_eq (l := l) fun x hx => h x (List.mem_cons_of_mem _ hx)
    have hy := h y (List.mem_cons_self ..)
    rw [List.countP_cons, List.countP_cons]
    cases hp : p y <;> cases hq : q y
    · refine ⟨by simpa using i1, fun e x hx qx => ?_⟩
      rcases List.mem_cons.mp hx with z | z
      · rw [z, hq] at qx; cases qx
      · exact i2 (by simpa using e) x z qx
    · refine ⟨by simp; omega, fun e => ?_⟩
      simp at e
      omega
    · rw [hp, hq] at hy
      exact absurd (hy rfl) (by decide)
    · refine ⟨by simpa using i1, fun e x hx qx => ?_⟩
      rcases List.mem_cons.mp hx with z | z
      · rw [z]; exact hp
      · exact i2 (by simpa using e) x z qx
def go (f : Nat → Nat → Nat) : Nat → List Nat → Nat
  | r, [] => r
  | r, p :: w => go f (f r p) w
/-- alike for texts of at most k letters -/
def Ek (d : Nat) (f : Nat → Nat → Nat) (out : Nat → A) (k r q : Nat) : Prop := ∀ w, w.length ≤ k → (∀ a ∈ w, a < d) → out (go f r w) = out (go f q w)
variable {d N : Nat} {f : Nat → Nat → Nat} {out : Nat → A}
theorem Ek.symm {k r q : Nat} (h : Ek d f out k r q) : Ek d f out k q r := fun w a b => (h w a b).symm
theorem Ek.trans {k r q s : Nat} (h : Ek d f out k r q) (h' : Ek d f out k q s) : Ek d f out k r s := fun w a b => (h w a b).trans (h' w a b)
theorem Ek.refl {k r : Nat} : Ek d f out k r r := fun _ _ _ => rfl
theorem Ek.down {k j r q : Nat} (h : Ek d f out k r q) (hj : j ≤ k) : Ek d f out j r q := fun w a b => h w (by omega) b
theorem Ek.step {k r q p : Nat} (h : Ek d f out (k + 1) r q) (hp : p < d) : Ek d f out k (f r p) (f q p) := fun w a b =>
  h (p :: w) (by rw [List.length_cons]; omega) fun x hx => by
    rcases List.mem_cons.mp hx with z | z
    · rw [z]; exact hp
    · exact b x z
/-- what does not grow finer once never does -/
theorem Ek.stable {k : Nat} (hf : ∀ r p, r < N → f r p < N) (st : ∀ r q, r < N → q < N → Ek d f out k r q → Ek d f out (k + 1) r q) :
    ∀ w r q, r < N → q < N → (∀ a ∈ w, a < d) → Ek d f out k r q → out (go f r w) = out (go f q w)
  | [], r, q, _, _, _, h => h [] (Nat.zero_le _) (fun _ h => (List.not_mem_nil h).elim)
  | p :: w, r, q, hr, hq, hw, h => Ek.stable hf st w (f r p) (f q p) (hf r p hr) (hf q p hq) (fun a ha => hw a (List.mem_cons_of_mem _ ha)) ((st r q hr hq h).step (hw p (List.mem_cons_self ..)))
open Classical in
noncomputable def isF (d : Nat) (f : Nat → Nat → Nat) (out : Nat → A) (k r : Nat) : Bool := decide (∀ q, q < r → ¬ Ek d f out k r q)
open Classical in
theorem isF_iff {k r : Nat} : isF d f out k r = true ↔ ∀ q, q < r → ¬ Ek d f out k r q := by
  unfold isF
  exact decide_eq_true_iff
theorem isF_up {k r : Nat} (h : isF d f out k r = true) : isF d f out (k + 1) r = true := isF_iff.mpr fun q hq e => isF_iff.mp h q hq (e.down (by omega))
theorem to_first {k : Nat} : ∀ r, ∃ r', r' ≤ r ∧ Ek d f out k r r' ∧ isF d f out k r' = true := by
  intro r
  induction r using Nat.strongRecOn with
  | ind r ih =>
    by_cases h : isF d f out k r = true
    · exact ⟨r, Nat.le_refl _, Ek.refl, h⟩
    · have : ∃ q, q < r ∧ Ek d f out k r q := by
        apply Classical.byContradiction
        intro z
        exact h (isF_iff.mpr fun q hq e => z ⟨q, hq, e⟩)
      obtain ⟨q, q1, q2⟩ := this
      obtain ⟨r', a, b, c⟩ := ih q q1
      exact ⟨r', by omega, q2.trans b, c⟩
theorem isF_eq {k r q : Nat} (hr : isF d f out k r = true) (hq : isF d f out k q = true) (h : Ek d f out k r q) : r = q := by
  by_cases z : q < r
  · exact absurd h (isF_iff.mp hr q z)
  · by_cases z' : r < q
    · exact absurd h.symm (isF_iff.mp hq r z')
    · omega
noncomputable def cls (N d : Nat) (f : Nat → Nat → Nat) (out : Nat → A) (k : Nat) : Nat := (List.range N).countP (isF d f out k)
theorem cls_step (k : Nat) : cls N d f out k < cls N d f out (k + 1) ∨ ∀ r q, r < N → q < N → Ek d f out k r q → Ek d f out (k + 1) r q := by
  by_cases h : cls N d f out k < cls N d f out (k + 1)
  · exact .inl h
  · right
    have hh := (countP_eq (l := List.range N) (p := isF d f out k) (q := isF d f out (k + 1)) fun x _ hx => isF_up hx).2 (by unfold cls at h; omega)
    intro r q hr hq e
    obtain ⟨r', r1, r2, r3⟩ := to_first (d := d) (f := f) (out := out) (k := k + 1) r
    obtain ⟨q', q1, q2, q3⟩ := to_first (d := d) (f := f) (out := out) (k := k + 1) q
    have fr := hh r' (List.mem_range.mpr (by omega)) r3
    have fq := hh q' (List.mem_range.mpr (by omega)) q3
    have := isF_eq fr fq (((r2.down (Nat.le_succ k)).symm.trans e).trans (q2.down (Nat.le_succ k)))
    rw [this] at r2
    exact r2.trans q2.symm
theorem cls_all {k : Nat} (h : N ≤ cls N d f out k) {r q : Nat} (hr : r < N) (hq : q < N) (e : Ek d f out k r q) : r = q := by
  have hh := (countP_eq (l := List.range N) (p := isF d f out k) (q := fun _ => true) fun _ _ _ => rfl).2 (by
    rw [List.countP_true, List.length_range]
    exact h)
  exact isF_eq (hh r (List.mem_range.mpr hr) rfl) (hh q (List.mem_range.mpr hq) rfl) e
theorem moore_aux (hf : ∀ r p, r < N → f r p < N) : ∀ k, (∀ w r q, r < N → q < N → (∀ a ∈ w, a < d) → Ek d f out k r q → out (go f r w) = out (go f q w)) ∨ k + 1 ≤ cls N d f out k ∨ N = 0
  | 0 => by
    by_cases z : N = 0
    · exact .inr (.inr z)
    · refine .inr (.inl ?_)
      unfold cls
      refine List.countP_pos_iff.mpr ⟨0, List.mem_range.mpr (by omega), isF_iff.mpr fun q hq => absurd hq (Nat.not_lt_zero _)⟩
  | k + 1 => by
    rcases moore_aux hf k with h | h | h
    · exact .inl fun w r q hr hq hw e => h w r q hr hq hw (e.down (Nat.le_succ k))
    · rcases cls_step (N := N) (d := d) (f := f) (out := out) k with s | s
      · exact .inr (.inl (by omega))
      · refine .inl fun w r q hr hq hw e => Ek.stable hf s w r q hr hq hw (e.down (Nat.le_succ k))
    · exact .inr (.inr h)
/-- rooms that texts of fewer letters than there are rooms do not tell apart, no text does -/
theorem moore (hf : ∀ r p, r < N → f r p < N) {k : Nat} (hk : N ≤ k + 1) : ∀ w r q, r < N → q < N → (∀ a ∈ w, a < d) → Ek d f out k r q → out (go f r w) = out (go f q w) := by
  intro w r q hr hq hw e
  rcases moore_aux (out := out) (d := d) hf k with h | h | h
  · exact h w r q hr hq hw e
  · rw [cls_all (by omega) hr hq e]
  · omega
end
section
variable {A : Type} {dA : A} {d : Nat} {R R' : List (List Nat)} {S S' : List A}
def two (R R' : List (List Nat)) (r p : Nat) : Nat := if r < R.length then dl R r p else R.length + dl R' (r - R.length) p
def twoT (dA : A) (n : Nat) (S S' : List A) (r : Nat) : A := if r < n then S.getD r dA else S'.getD (r - n) dA
theorem two_fst (o : Ok d R) : ∀ (w : List Nat) (r : Nat), r < R.length → go (two R R') r w = wk R r w
  | [], _, _ => rfl
  | p :: w, r, h => by
    show go (two R R') (two R R' r p) w = wk R (dl R r p) w
    rw [show two R R' r p = dl R r p from if_pos h]
    exact two_fst o w _ (o.dl_lt h)
theorem two_snd : ∀ (w : List Nat) (r : Nat), go (two R R') (R.length + r) w = R.length + wk R' r w
  | [], _ => rfl
  | p :: w, r => by
    show go (two R R') (two R R' (R.length + r) p) w = R.length + wk R' (dl R' r p) w
    rw [show two R R' (R.length + r) p = R.length + dl R' r p by
      unfold two
      rw [if_neg (by omega), Nat.add_sub_cancel_left]]
    exact two_snd w _
/-- two machines that texts of at most k letters do not tell apart answer every text alike -/
theorem short (o : Ok d R) (o' : Ok d R') {k : Nat} (hk : R.length + R'.length ≤ k + 1)
    (h : ∀ w, w.length ≤ k → (∀ a ∈ w, a < d) → S.getD (wk R 0 w) dA = S'.getD (wk R' 0 w) dA) :
    ∀ w, (∀ a ∈ w, a < d) → S.getD (wk R 0 w) dA = S'.getD (wk R' 0 w) dA := by
  have e1 : ∀ w, twoT dA R.length S S' (go (two R R') 0 w) = S.getD (wk R 0 w) dA := fun w => by
    rw [two_fst o w 0 o.pos]
    exact if_pos (o.wk_lt o.pos)
  have e2 : ∀ w, twoT dA R.length S S' (go (two R R') (R.length + 0) w) = S'.getD (wk R' 0 w) dA := fun w => by
    rw [two_snd w 0]
    unfold twoT
    rw [if_neg (by omega), Nat.add_sub_cancel_left]
  have hp := o.pos
  have hp' := o'.pos
  intro w hw
  rw [← e1 w, ← e2 w]
  refine moore (N := R.length + R'.length) (d := d) (fun r p hr => ?_) hk w 0 (R.length + 0) (by omega) (by omega) hw fun v hv hv' => ?_
  · unfold two
    split
    · rename_i hl
      have := o.dl_lt (p := p) hl
      omega
    · have := o'.dl_lt (r := r - R.length) (p := p) (by omega)
      omega
  · rw [e1 v, e2 v]
    exact h v hv hv'
end
end Mch

namespace Mch
/-! ### a machine looked at from outside: its rooms in order, its rooms apart -/
/-- the numbers 0, 1, .. as far as they go -/
structure Dense (m : List Nat) (N : Nat) : Prop where
  lt : ∀ x ∈ m, x < N
  on : ∀ y, y < N → y ∈ m
section
variable {κ : Type} [DecidableEq κ]
theorem nubG_mem {l : List κ} {x : κ} : x ∈ nubA [] l ↔ x ∈ l := by
  rw [nubA_mem]
  simp
theorem numbG_at {l : List κ} {i : Nat} {x : κ} (h : l[i]? = some x) : (numb l)[i]? = some ((nubA [] l).idxOf x) := by
  unfold numb
  rw [List.getElem?_map, h]
  rfl
theorem numb_dense {l : List κ} : Dense (numb l) (nubA [] l).length := by
  refine ⟨fun x hx => ?_, fun y hy => ?_⟩
  · obtain ⟨z, hz, e⟩ := List.mem_map.mp hx
    rw [← e]
    exact idxOf_lt (nubG_mem.mpr hz)
  · have hm : (nubA [] l)[y] ∈ l := nubG_mem.mp (List.getElem_mem hy)
    refine List.mem_map.mpr ⟨_, hm, ?_⟩
    exact idxOf_of_get (nubA_nodup List.nodup_nil) (List.getElem?_eq_getElem hy)
theorem numb_eq {l : List κ} {i j : Nat} {x y : κ} (hi : l[i]? = some x) (hj : l[j]? = some y) : (numb l)[i]? = (numb l)[j]? ↔ x = y := by
  rw [numbG_at hi, numbG_at hj]
  constructor
  · intro e
    have mx := nubG_mem.mpr (List.mem_of_getElem? hi)
    have my := nubG_mem.mpr (List.mem_of_getElem? hj)
    have e' := Option.some.inj e
    have gx := idxOf_get mx
    rw [e', idxOf_get my] at gx
    exact (Option.some.inj gx).symm
  · rintro rfl
    rfl
end
theorem Dense.le {m : List Nat} {N : Nat} (h : Dense m N) : N ≤ m.length := by
  have nd : ((List.range N).map m.idxOf).Nodup := by
    rw [List.nodup_iff_pairwise_ne, List.pairwise_map]
    refine List.Pairwise.imp_of_mem (fun {a b} ha hb ne e => ne ?_) (List.nodup_iff_pairwise_ne.mp List.nodup_range)
    have ga := idxOf_get (h.on a (List.mem_range.mp ha))
    have gb := idxOf_get (h.on b (List.mem_range.mp hb))
    rw [e] at ga
    exact Option.some.inj (ga.symm.trans gb)
  have := nodup_len nd fun x hx => by
    obtain ⟨y, hy, e⟩ := List.mem_map.mp hx
    rw [← e]
    exact idxOf_lt (h.on y (List.mem_range.mp hy))
  simpa using this
/-- a finer numbering has no fewer numbers; with as many it is the same -/
theorem Dense.finer {m m' : List Nat} {N N' : Nat} (h : Dense m N) (h' : Dense m' N') (hl : m'.length = m.length)
    (f : ∀ r q, r < m.length → q < m.length → m'.getD r 0 = m'.getD q 0 → m.getD r 0 = m.getD q 0) :
    N ≤ N' ∧ (N' ≤ N → ∀ r q, r < m.length → q < m.length → m.getD r 0 = m.getD q 0 → m'.getD r 0 = m'.getD q 0) := by
  have hi : ∀ y, y < N → m.idxOf y < m.length ∧ m.getD (m.idxOf y) 0 = y := fun y hy => by
    have l1 := idxOf_lt (h.on y hy)
    exact ⟨l1, by rw [getD_lt l1, List.getElem_idxOf]⟩
  have lt' : ∀ r, r < m.length → m'.getD r 0 < N' := fun r hr => by
    rw [getD_lt (by omega)]
    exact h'.lt _ (List.getElem_mem _)
  have nd : ((List.range N).map fun y => m'.getD (m.idxOf y) 0).Nodup := by
    rw [List.nodup_iff_pairwise_ne, List.pairwise_map]
    refine List.Pairwise.imp_of_mem (fun {a b} ha hb ne e => ne ?_) (List.nodup_iff_pairwise_ne.mp List.nodup_range)
    obtain ⟨a1, a2⟩ := hi a (List.mem_range.mp ha)
    obtain ⟨b1, b2⟩ := hi b (List.mem_range.mp hb)
    have := f _ _ a1 b1 e
    rw [a2, b2] at this
    exact this
  have sub : ∀ x ∈ (List.range N).map fun y => m'.getD (m.idxOf y) 0, x < N' := fun x hx => by
    obtain ⟨y, hy, e⟩ := List.mem_map.mp hx
    rw [← e]
    exact lt' _ (hi y (List.mem_range.mp hy)).1
  have len1 : N ≤ N' := by simpa using nodup_len nd sub
  refine ⟨len1, fun hle => ?_⟩
  have one : ∀ r, r < m.length → m'.getD r 0 = m'.getD (m.idxOf (m.getD r 0)) 0 := fun r hr => by
    by_cases z : m'.getD r 0 ∈ (List.range N).map fun y => m'.getD (m.idxOf y) 0
    · obtain ⟨y, hy, e⟩ := List.mem_map.mp z
      obtain ⟨y1, y2⟩ := hi y (List.mem_range.mp hy)
      have := f r _ hr y1 e.symm
      rw [y2] at this
      rw [this]
      exact e.symm
    · have nd2 : (((List.range N).map fun y => m'.getD (m.idxOf y) 0) ++ [m'.getD r 0]).Nodup := by
        rw [List.nodup_append]
        refine ⟨nd, by simp, fun a ha b hb => ?_⟩
        rw [List.mem_singleton.mp hb]
        exact fun e => z (e ▸ ha)
      have := nodup_len nd2 fun x hx => by
        rcases List.mem_append.mp hx with y | y
        · exact sub x y
        · rw [List.mem_singleton.mp y]
          exact lt' r hr
      simp at this
      omega
  intro r q hr hq e
  rw [one r hr, one q hq, e]
theorem dense_inj {m : List Nat} {N : Nat} (h : Dense m N) (inj : ∀ r q, r < m.length → q < m.length → m.getD r 0 = m.getD q 0 → r = q) : m.length ≤ N := by
  have nd : m.Nodup := by
    rw [List.nodup_iff_pairwise_ne, List.pairwise_iff_getElem]
    intro i j hi hj hij e
    have := inj i j hi hj (by rw [getD_lt hi, getD_lt hj, e])
    omega
  exact nodup_len nd h.lt
/-! ### finer and finer -/
def finerL (W : List (List Nat)) (m : List Nat) : List (List Nat) := W.map fun row => row.map fun t => m.getD t 0
/-- the numbers of a turn, the count before -/
structure Ref {A : Type} (dA : A) (W : List (List Nat)) (T : List A) (i : Nat) (m : List Nat) (c N : Nat) : Prop where
  len : m.length = W.length
  den : Dense m N
  ans : ∀ r q, r < W.length → q < W.length → m.getD r 0 = m.getD q 0 → T.getD r dA = T.getD q dA
  at_ : (c < N ∧ i < N) ∨ (c = N ∧ N = W.length)
section
variable {A : Type} {dA : A} {d : Nat} {W : List (List Nat)} {T : List A}
theorem numb_length {κ : Type} [DecidableEq κ] {l : List κ} : (numb l).length = l.length := List.length_map ..
theorem getD_of_some {α : Type} {l : List α} {i : Nat} {x d : α} (h : l[i]? = some x) : l.getD i d = x := by
  rw [List.getD_eq_getElem?_getD, h]; rfl
theorem some_getD {α : Type} {l : List α} {i : Nat} {d : α} (h : i < l.length) : l[i]? = some (l.getD i d) := by
  rw [getD_lt h, List.getElem?_eq_getElem h]
theorem numb_iff {κ : Type} [DecidableEq κ] {l : List κ} {i j : Nat} {x y : κ} (hi : l[i]? = some x) (hj : l[j]? = some y) : (numb l).getD i 0 = (numb l).getD j 0 ↔ x = y := by
  rw [← numb_eq hi hj, getD_of_some (numbG_at hi), getD_of_some (numbG_at hj), numbG_at hi, numbG_at hj, Option.some.injEq]
theorem Ref.start [DecidableEq A] (hT : T.length = W.length) (hp : 0 < W.length) : Ref dA W T 0 (numb T) 0 (nubA [] T).length := by
  have h0 : 0 < (nubA [] T).length := by
    have : T.getD 0 dA ∈ nubA [] T := nubG_mem.mpr (by rw [getD_lt (by omega)]; exact List.getElem_mem _)
    exact List.length_pos_of_mem this
  refine ⟨by rw [numb_length, hT], numb_dense, fun r q hr hq e => ?_, .inl ⟨h0, h0⟩⟩
  exact (numb_iff (some_getD (by omega)) (some_getD (by omega))).mp e
theorem Ref.skip {i c N : Nat} {m : List Nat} (R : Ref dA W T i m c N) (h : ¬ c < N) : Ref dA W T (i + 1) m c N :=
  ⟨R.len, R.den, R.ans, .inr (R.at_.resolve_left fun z => h z.1)⟩
theorem Ref.step (o : Ok d W) (red : Redu dA d W T) {i c N : Nat} {m : List Nat} (R : Ref dA W T i m c N) (h : c < N) :
    Ref dA W T (i + 1) (numb (m.zip (finerL W m))) N (nubA [] (m.zip (finerL W m))).length := by
  have hl := R.len
  have lf : (finerL W m).length = W.length := List.length_map ..
  have lz : (m.zip (finerL W m)).length = W.length := by
    rw [List.length_zip, lf, hl, Nat.min_self]
  have gz : ∀ r, r < W.length → (m.zip (finerL W m))[r]? = some (m.getD r 0, (rowOf W r).map fun t => m.getD t 0) := fun r hr => by
    rw [List.getElem?_zip_eq_some]
    refine ⟨some_getD (by omega), ?_⟩
    unfold finerL rowOf
    rw [List.getElem?_map, some_getD (d := []) hr]
    rfl
  have iff : ∀ r q, r < W.length → q < W.length → ((numb (m.zip (finerL W m))).getD r 0 = (numb (m.zip (finerL W m))).getD q 0 ↔
      m.getD r 0 = m.getD q 0 ∧ ((rowOf W r).map fun t => m.getD t 0) = (rowOf W q).map fun t => m.getD t 0) := fun r q hr hq => by
    rw [numb_iff (gz r hr) (gz q hq), Prod.mk.injEq]
  have iN : i < N := by
    rcases R.at_ with z | z
    · exact z.2
    · omega
  have dn := numb_dense (l := m.zip (finerL W m))
  obtain ⟨f1, f2⟩ := R.den.finer dn (by rw [numb_length, lz, hl]) fun r q hr hq e => ((iff r q (by omega) (by omega)).mp e).1
  refine ⟨by rw [numb_length, lz], dn, fun r q hr hq e => R.ans r q hr hq ((iff r q hr hq).mp e).1, ?_⟩
  by_cases z : (nubA [] (m.zip (finerL W m))).length ≤ N
  · right
    have st := f2 z
    -- nothing grew finer
    have go : ∀ (w : List Nat) (r q : Nat), r < W.length → q < W.length → (∀ a ∈ w, a < d) → m.getD r 0 = m.getD q 0 → T.getD (wk W r w) dA = T.getD (wk W q w) dA := by
      intro w
      induction w with
      | nil => intro r q hr hq _ e; exact R.ans r q hr hq e
      | cons p w ih =>
        intro r q hr hq hw e
        have hp := hw p (List.mem_cons_self ..)
        have e2 := ((iff r q hr hq).mp (st r q (by omega) (by omega) e)).2
        refine ih (dl W r p) (dl W q p) (o.dl_lt hr) (o.dl_lt hq) (fun a ha => hw a (List.mem_cons_of_mem _ ha)) ?_
        have g : ∀ x, x < W.length → ((rowOf W x).map fun t => m.getD t 0)[p]? = some (m.getD (dl W x p) 0) := fun x hx => by
          have lx := rowOf_len o hx
          rw [List.getElem?_map, some_getD (d := 0) (by omega)]
          rfl
        have := g r hr
        rw [e2, g q hq] at this
        exact (Option.some.inj this).symm
    have inj : ∀ r q, r < m.length → q < m.length → m.getD r 0 = m.getD q 0 → r = q := fun r q hr hq e => red r q (by omega) (by omega) fun w hw => go w r q (by omega) (by omega) hw e
    have n1 := dense_inj R.den inj
    have n2 := R.den.le
    have : N = (nubA [] (m.zip (finerL W m))).length := by omega
    exact ⟨this, by omega⟩
  · left
    omega
theorem Ref.done {c N : Nat} {m : List Nat} (R : Ref dA W T W.length m c N) : N = W.length := by
  have h1 := R.den.le
  have h2 := R.len
  rcases R.at_ with z | z <;> omega
/-! ### rooms in the order of their texts -/
end
end Mch

namespace Own
open PySem PySem.Spec PyProof.Rows L2 SX RZ
/-! ### dicts by keys that are tuples of any depth: what lies at the dict's own place; the keys' tuples are told apart -/
section
variable {P : Program} {w : World} {κ : Type} [DecidableEq κ]
end
section
variable {X : Cx} {κ : Type} [DecidableEq κ] {P : Program} {w : World} {knd : PySem.HeapKind P w κ} {kin : Hp → κ → Addr → Prop} {pins : List (Addr × Obj)} {σ : L2.St} {H : Hp} {s : Shared} {a : Addr} {kvs : List (κ × Addr × V)}
end
/-! ### a number and a tuple of numbers, as a key -/
def nkOf (k : Nat × List Nat) : NestedKey := .tup [.num k.1, .tup (k.2.map fun (n : Nat) => .num n)]
def kinN (H : Hp) (k : NestedKey) (b : Addr) : Prop := ∃ (m : Nat) (l : List Nat) (c : Addr), k = nkOf (m, l) ∧ H b = some (.tup [iv m, .ref c]) ∧ H c = some (.tup (ivs l))
theorem kinN.same {H H' : Hp} {k : NestedKey} {b : Addr} (h : kinN H k b) (s : Same H H') : kinN H' k b := by
  obtain ⟨m, l, c, e, h1, h2⟩ := h
  exact ⟨m, l, c, e, s _ _ h1, s _ _ h2⟩
end Own

namespace Own
open PySem PySem.Spec PyProof.Rows L2 SX RZ
/-! ### answers that are truths or texts, as keys -/
end Own

namespace Own
open PySem PySem.Spec PyProof.Rows L2 SX RZ
/-! ### dicts by any kind of key: displays, get with a default, compared -/
section
variable {X : Cx} {κ : Type} [DecidableEq κ] {P : Program} {w : World} {knd : PySem.KeyKind P w κ} {enc : κ → V} {pins : List (Addr × Obj)} {σ : L2.St} {H : Hp} {s : Shared} {a : Addr} {kvs : List (κ × V)}
end
end Own

namespace Own
open PySem PySem.Spec PyProof.Rows L2 SX RZ
/-! ### calls with keywords alone: of a def, of a classmethod -/
section
variable {X : Cx} {CX : CXT} {k n : Nat} {f C p g : Addr} {mc : Value} {fd : FuncData} {ps ks : List Str} {sp : Sp} {E : XK} {x m : Str} {np pos apos : Pos} {o : Expr} {kws : List Keyword} {ta : TE} {tk : TA} {gg : List Value → List Value → List Value} {gV : List V → List V → List V} {pl : Sem Bool}
end
end Own

namespace Own
open PySem PySem.Spec PyProof.Rows L2 SX
/-! ### a & b, a | b, ~a by an own class's dunders -/
section
variable {X : Cx} {CX : CXT} {n : Nat} {C f : Addr} {fd : FuncData} {ps : List Str} {sp : Sp} {E : XK}
end
end Own

namespace Mch
/-! ### the machine of one text -/
section
variable {gs xs : List Nat}
variable {W : List (List Nat)} {T : List Bool}
end
end Mch

namespace Mch
/-! ### two machines side by side -/
/-- the pairs found so far and the rows of the first ones -/
structure Prs (d : Nat) (W V : List (List Nat)) (pairs : List (Nat × Nat)) (made : List (List Nat)) : Prop where
  nd : pairs.Nodup
  zero : pairs[0]? = some (0, 0)
  lt : ∀ p ∈ pairs, p.1 < W.length ∧ p.2 < V.length
  le : made.length ≤ pairs.length
  row : ∀ (i : Nat) (r : List Nat) (p : Nat × Nat), made[i]? = some r → pairs[i]? = some p → r.length = d ∧ ∀ a, a < d → pairs[r.getD a 0]? = some (dl W p.1 a, dl V p.2 a)
section
variable {d : Nat} {W V : List (List Nat)} {pairs : List (Nat × Nat)} {made : List (List Nat)}
theorem Prs.start (oW : Ok d W) (oV : Ok d V) : Prs d W V [(0, 0)] [] :=
  ⟨by simp, rfl, fun p hp => by rw [List.mem_singleton.mp hp]; exact ⟨oW.pos, oV.pos⟩, by simp, fun i r p h => by simp at h⟩
theorem prod_nodup {n m : Nat} {l : List (Nat × Nat)} (nd : l.Nodup) (h : ∀ p ∈ l, p.1 < n ∧ p.2 < m) : l.length ≤ n * m := by
  have hinj : ∀ p ∈ l, ∀ q ∈ l, p.1 * m + p.2 = q.1 * m + q.2 → p = q := by
    intro p hp q hq e
    have h1 := (h p hp).2
    have h2 := (h q hq).2
    have m0 : 0 < m := by omega
    have e1 : p.1 = q.1 := by
      have a1 : (p.1 * m + p.2) / m = p.1 := by rw [Nat.add_comm, Nat.add_mul_div_right _ _ m0, Nat.div_eq_of_lt h1, Nat.zero_add]
      have a2 : (q.1 * m + q.2) / m = q.1 := by rw [Nat.add_comm, Nat.add_mul_div_right _ _ m0, Nat.div_eq_of_lt h2, Nat.zero_add]
      rw [← a1, ← a2, e]
    have e2 : p.2 = q.2 := by rw [e1] at e; omega
    exact Prod.ext e1 e2
  have nd2 : (l.map fun p => p.1 * m + p.2).Nodup := by
    refine List.pairwise_map.mpr (List.Pairwise.imp_of_mem ?_ nd)
    intro p q hp hq ne e
    exact ne (hinj p hp q hq e)
  have := nodup_len nd2 (n := n * m) fun x hx => by
    obtain ⟨p, hp, rfl⟩ := List.mem_map.mp hx
    obtain ⟨h1, h2⟩ := h p hp
    have : (p.1 + 1) * m ≤ n * m := Nat.mul_le_mul_right m h1
    rw [Nat.succ_mul] at this
    omega
  rw [List.length_map] at this
  exact this
theorem Prs.few (h : Prs d W V pairs made) : pairs.length ≤ W.length * V.length := prod_nodup h.nd h.lt
/-- a pair that is new -/
theorem Prs.more (h : Prs d W V pairs made) {p : Nat × Nat} (hn : p ∉ pairs) (hp : p.1 < W.length ∧ p.2 < V.length) : Prs d W V (pairs ++ [p]) made := by
  refine ⟨?_, ?_, ?_, ?_, ?_⟩
  · refine List.nodup_append.mpr ⟨h.nd, by simp, fun x hx y hy e => ?_⟩
    rw [List.mem_singleton.mp hy] at e
    exact hn (e ▸ hx)
  · have := (List.getElem?_eq_some_iff.mp h.zero).1
    rw [List.getElem?_append_left this]
    exact h.zero
  · intro q hq
    rcases List.mem_append.mp hq with z | z
    · exact h.lt q z
    · rw [List.mem_singleton.mp z]; exact hp
  · rw [List.length_append]; have := h.le; omega
  · intro i r q hr hq
    have hi : i < pairs.length := Nat.lt_of_lt_of_le (List.getElem?_eq_some_iff.mp hr).1 h.le
    rw [List.getElem?_append_left hi] at hq
    obtain ⟨h1, h2⟩ := h.row i r q hr hq
    refine ⟨h1, fun a ha => ?_⟩
    have := h2 a ha
    rw [List.getElem?_append_left (List.getElem?_eq_some_iff.mp this).1]
    exact this
/-- a row is done -/
theorem Prs.done (h : Prs d W V pairs made) {p : Nat × Nat} {r : List Nat} (hp : pairs[made.length]? = some p) (hr : r.length = d) (hg : ∀ a, a < d → pairs[r.getD a 0]? = some (dl W p.1 a, dl V p.2 a)) : Prs d W V pairs (made ++ [r]) := by
  refine ⟨h.nd, h.zero, h.lt, by rw [List.length_append]; exact (List.getElem?_eq_some_iff.mp hp).1, fun i r' q hr' hq => ?_⟩
  by_cases hi : i < made.length
  · rw [List.getElem?_append_left hi] at hr'
    exact h.row i r' q hr' hq
  · have hl := (List.getElem?_eq_some_iff.mp hr').1
    rw [List.length_append] at hl
    have e1 : [r].length = 1 := rfl
    have ei : i = made.length := by omega
    subst ei
    rw [List.getElem?_append_right (Nat.le_refl _), Nat.sub_self] at hr'
    cases hr'
    rw [hp] at hq
    cases hq
    exact ⟨hr, hg⟩
/-- all rows are done -/
theorem Prs.ok (h : Prs d W V pairs made) (e : made.length = pairs.length) : Ok d made := by
  have h0 := (List.getElem?_eq_some_iff.mp h.zero).1
  refine ⟨by omega, fun x hx => ?_, fun x hx t ht => ?_⟩
  · obtain ⟨i, hi⟩ := List.mem_iff_getElem?.mp hx
    have hl := (List.getElem?_eq_some_iff.mp hi).1
    exact (h.row i x _ hi (List.getElem?_eq_getElem (by omega))).1
  · obtain ⟨i, hi⟩ := List.mem_iff_getElem?.mp hx
    have hl := (List.getElem?_eq_some_iff.mp hi).1
    obtain ⟨h1, h2⟩ := h.row i x _ hi (List.getElem?_eq_getElem (by omega))
    obtain ⟨a, ha⟩ := List.mem_iff_getElem?.mp ht
    have hal := (List.getElem?_eq_some_iff.mp ha).1
    have h3 := h2 a (by omega)
    rw [List.getD_eq_getElem?_getD, ha] at h3
    have := (List.getElem?_eq_some_iff.mp h3).1
    rw [e]
    exact this
theorem Prs.walk (h : Prs d W V pairs made) (e : made.length = pairs.length) : ∀ {w : List Nat} {i : Nat} {p : Nat × Nat}, (∀ a ∈ w, a < d) → pairs[i]? = some p → pairs[wk made i w]? = some (wk W p.1 w, wk V p.2 w)
  | [], _, _, _, hp => hp
  | a :: w, i, p, hw, hp => by
    have hi := (List.getElem?_eq_some_iff.mp hp).1
    have hr : made[i]? = some made[i] := List.getElem?_eq_getElem (by omega)
    obtain ⟨_, h2⟩ := h.row i _ p hr hp
    have h3 := h2 a (hw a (List.mem_cons_self ..))
    have ed : dl made i a = made[i].getD a 0 := by
      rw [dl_eq, show rowOf made i = made[i] by
        unfold rowOf
        rw [List.getD_eq_getElem?_getD, hr]
        rfl]
    show pairs[Mch.wk made (dl made i a) w]? = _
    rw [ed]
    exact Prs.walk h e (p := (dl W p.1 a, dl V p.2 a)) (fun b hb => hw b (List.mem_cons_of_mem _ hb)) h3
/-- the answers of the pairs -/
theorem Prs.answer {κ : Type} {dA : κ} {g : Nat × Nat → κ} (h : Prs d W V pairs made) (e : made.length = pairs.length) {w : List Nat} (hw : ∀ a ∈ w, a < d) : (pairs.map g).getD (wk made 0 w) dA = g (wk W 0 w, wk V 0 w) := by
  have := h.walk e hw h.zero
  rw [List.getD_eq_getElem?_getD, List.getElem?_map, this]
  rfl
end
end Mch

namespace Own
open PySem PySem.Spec PyProof.Rows L2 SX RZ
/-! ### zip of two lists or of two tuples, its pairs kept: what was given out may be there still, or not -/
section
variable {prog : Program} {w : World} {A : Around} {E : Value → Shared → Prop} {s : Shared} {z TI TO i1 i2 : Addr} {f1 f2 : List Addr} {n1 n2 i : Nat} {P1 P2 : Nat → Value → Prop} {S1 S2 : Nat → Heap → Prop} {a1 a2 v : Value} {b : Bool}
end
def ItQ (q : Bool) (h : Heap) (it a : Addr) (i : Nat) : Prop := if q = true then h.IsTupleIter it a i else h.IsListIter it a i
theorem ItQ.at {q : Bool} {h h' : Heap} {it a : Addr} {i : Nat} (t : ItQ q h it a i) (k : ∀ o, h.get? it = some o → h'.get? it = some o) : ItQ q h' it a i := by
  cases q
  · obtain ⟨o, e, r⟩ := t
    exact ⟨o, k o e, r⟩
  · obtain ⟨o, e, r⟩ := t
    exact ⟨o, k o e, r⟩
theorem ItQ.obj {q : Bool} {h : Heap} {it a : Addr} {i : Nat} (t : ItQ q h it a i) : ∃ o, h.get? it = some o ∧ ∀ v, o.data ≠ .cell v := by
  cases q
  · obtain ⟨o, e, _, r⟩ := t
    exact ⟨o, e, fun v z => by rw [r] at z; cases z⟩
  · obtain ⟨o, e, _, r⟩ := t
    exact ⟨o, e, fun v z => by rw [r] at z; cases z⟩
section
variable {X : Cx} {pins : List (Addr × Obj)} {σ : L2.St} {H : Hp} {s : Shared} {a it : Addr} {xs ys : List V} {q : Bool}
end
/-! ### {(a, b): c} -/
end Own

namespace Own
open PySem PySem.Spec PyProof.Rows L2 SX LamX NdefX
/-! ### functions that are handed to a def -/
section
variable {X : Cx} {pins : List (Addr × Obj)} {σ : L2.St} {H : Hp} {s : Shared} {cl : List (Str × Addr)} {fr : List Str} {ws : List (Option V)}
end
/-- the promise of a lambda -/
structure LOk (P : Program) (w : World) (K : PySem.W.Frag) (mg : Str → Option Value) (base : Heap) (CX : CXT) (k : Nat) (f : Addr) (F : LF) (ps fr : List Str) (sp : List (Option V) → Sp) : Prop where
  len : ∀ ws vs H Q E, sp ws vs H Q E → vs.length = ps.length
  run : ∀ (A : Around) (outer : List Env) (s : Shared) (H : Hp) (us : List Value) (vs : List V) (ws : List (Option V)) (Q : VK) (E : XK), Room k A → Env0 P w K mg base A outer s H → LamAt H f F →
    CellsAt F.cl fr ws s.heap H → Vals vs us → sp ws vs H Q E → codeAny (model P w) A (.call (.ref f) ⟨us, []⟩) (CR CX outer P w H s Q E) s
theorem LOk.mono {P : Program} {w : World} {K : PySem.W.Frag} {mg : Str → Option Value} {base : Heap} {CX : CXT} {j k : Nat} {f : Addr} {F : LF} {ps fr : List Str} {sp : List (Option V) → Sp} (o : LOk P w K mg base CX j f F ps fr sp) (h : j ≤ k) : LOk P w K mg base CX k f F ps fr sp := ⟨o.len, fun A outer s H us vs ws Q E hr => o.run A outer s H us vs ws Q E (hr.mono h)⟩
/-! ### what a frame may call -/
section
variable {X : Cx} {f : Addr} {sp : Sp} {at_ : Hp → Prop} {i j k : Nat} {x y : Str} {t : TA} {e : Expr} {es : List Expr} {p q pos : Pos}
end
/-! ### {a: b}, a a tuple of any kind -/
section
variable {X : Cx} {κ : Type} [DecidableEq κ] {P : Program} {w : World} {knd : PySem.HeapKind P w κ} {kin : Hp → κ → Addr → Prop}
end
end Own

namespace Own
open PySem PySem.Spec PyProof.Rows L2 SX LamX NdefX
/-! ### a lambda as a value, in a def that makes other functions too -/
section
variable {X : Cx} {pins : List (Addr × Obj)} {σ : L2.St} {H : Hp} {s : Shared}
end
end Own

namespace Own
open PySem PySem.Spec PyProof.Rows L2 SX LamX NdefX
/-! ### a nested def with cells of its own beside the captured ones -/
section
variable {M : Model} {A : Around} {E : Value → Shared → Prop} {s₀ s : Shared} {m cm : Str → Option Value} {env : Env} {cs : List (Str × Addr)}
end
section
variable {CX : CXT} {P : Program} {w : World} {K : PySem.W.Frag} {mg : Str → Option Value} {base : Heap} {N ps fr : List Str} {F : NF} {f : Addr} {k j : Nat} {sp sp' : List (Option V) → Sp} {A : Around} {outer : List Env} {s s1 : Shared} {H : Hp} {E : XK} {us : List Value} {vs : List V} {ws : List (Option V)}
end
end Own

namespace Own
open PySem PySem.Spec PyProof.Rows L2 SX RZ
/-! ### set(l) of a list of whole numbers, with what sorted(set(l)) asks of it -/
section
variable {P : Program} {w : World} {A : Around} {E : Value → Shared → Prop} {s : Shared}
end
section
variable {X : Cx} {K : PySem.W.Frag}
end
end Own

namespace Own
open PySem PySem.Spec PyProof.Rows L2 SX LamX NdefX
/-! ### a nested def that calls another one: the other one's cells beside its own -/
structure NO2 (P : Program) (w : World) (K : PySem.W.Frag) (mg : Str → Option Value) (base : Heap) (CX : CXT) (k : Nat) (f : Addr) (F : NF) (ps fr : List Str) (sp : List (Option V) → Sp) (cl2 : List (Str × Addr)) (fr2 : List Str) (ws2 : List (Option V)) : Prop where
  len : ∀ ws vs H Q E, sp ws vs H Q E → vs.length = ps.length
  run : ∀ (A : Around) (outer : List Env) (s : Shared) (H : Hp) (us : List Value) (vs : List V) (ws : List (Option V)) (Q : VK) (E : XK), Room k A → Env0 P w K mg base A outer s H → H f = some (FnO f F) → H F.c = some (CodeO F.c F.qual) →
    CellsAt F.cl fr ws s.heap H → CellsAt cl2 fr2 ws2 s.heap H → Vals vs us → sp ws vs H Q E → codeAny (model P w) A (.call (.ref f) ⟨us, []⟩) (CR CX outer P w H s Q E) s
section
variable {CX : CXT} {P : Program} {w : World} {K : PySem.W.Frag} {mg : Str → Option Value} {base : Heap} {N ps fr fr2 : List Str} {F : NF} {f : Addr} {k j : Nat} {sp : List (Option V) → Sp} {cl2 : List (Str × Addr)} {ws2 : List (Option V)}
theorem NO2.mono (o : NO2 P w K mg base CX j f F ps fr sp cl2 fr2 ws2) (h : j ≤ k) : NO2 P w K mg base CX k f F ps fr sp cl2 fr2 ws2 := ⟨o.len, fun A outer s H us vs ws Q E hr => o.run A outer s H us vs ws Q E (hr.mono h)⟩
end
end Own

namespace Own
open PySem PySem.Spec PyProof.Rows L2 SX LamX NdefX
section
variable {X : Cx}
end
end Own

namespace Own
open PySem PySem.Spec PyProof.Rows L2 SX
/-! ### a head told by facts: one Bool over the written part, the defs, the tables of code objects -/
abbrev Fct : Type := PySem.W.Frag → Bool
/-- the table of a def's code object -/
def codT (K : PySem.W.Frag) (f : Addr) : Addr × Addr := match K.lookup f with
  | some ⟨_, _, .func fd, _⟩ => (match fd.code with
    | .ref c => (c, He.tabOf K c)
    | _ => (0, 0))
  | _ => (0, 0)
structure Told (fs : List Fct) (fn : List He5.DefA) (tf : List (PySem.W.Frag → Addr)) (h : Heap) (K : PySem.W.Frag) : Prop where
  facts : (fs.all fun f => f K) = true
  oks : (fn.all fun d => d.ok K) = true
  defs : (fn.map fun d => He5.fnA K (d.at_ K)) = fn.map He5.DefA.val
  hd : ∀ p ∈ tf, PySem.W.codeHdIn K (codT K (p K)).1 (codT K (p K)).2 = true
  out : ∀ p ∈ tf, K.lookup (codT K (p K)).2 = none
  empty : ∀ p ∈ tf, h.get? (codT K (p K)).2 = some { cls := .none, data := .fields #[] }
def tabB (g : Addr → Option Obj) (tf : List (PySem.W.Frag → Addr)) (K : PySem.W.Frag) : Bool := tf.all fun p => PySem.W.codeHdIn K (codT K (p K)).1 (codT K (p K)).2 && (match g (codT K (p K)).2 with
  | some o => He.emptyTab o
  | none => false)
abbrev partO (n : List Addr) (g : Addr → Option Obj) : PySem.W.Frag := He.frT g n
def obsO (n : List Addr) (fs : List Fct) (fn : List He5.DefA) (tf : List (PySem.W.Frag → Addr)) (g : Addr → Option Obj) : Bool × List He.FnW :=
  ((fs.all fun f => f (partO n g)) && ((fn.all fun d => d.ok (partO n g)) && tabB g tf (partO n g)), fn.map fun d => He5.fnA (partO n g) (d.at_ (partO n g)))
theorem told_of {n : List Addr} {fs : List Fct} {fn : List He5.DefA} {tf : List (PySem.W.Frag → Addr)} {h : Heap} (e : obsO n fs fn tf h.get? = (true, fn.map He5.DefA.val)) : Told fs fn tf h (partO n h.get?) := by
  obtain ⟨e1, e2⟩ := Prod.mk.injEq .. ▸ e
  obtain ⟨c1, c2⟩ := Bool.and_eq_true_iff.mp e1
  obtain ⟨c3, c4⟩ := Bool.and_eq_true_iff.mp c2
  have each : ∀ p ∈ tf, PySem.W.codeHdIn (partO n h.get?) (codT (partO n h.get?) (p (partO n h.get?))).1 (codT (partO n h.get?) (p (partO n h.get?))).2 = true ∧ ∃ o, h.get? (codT (partO n h.get?) (p (partO n h.get?))).2 = some o ∧ He.emptyTab o = true := fun p hp => by
    obtain ⟨d1, d2⟩ := Bool.and_eq_true_iff.mp (List.all_eq_true.mp c4 p hp)
    refine ⟨d1, ?_⟩
    generalize h.get? (codT (partO n h.get?) (p (partO n h.get?))).2 = x at d2
    cases x with
    | none => cases d2
    | some o => exact ⟨o, rfl, d2⟩
  refine ⟨c1, c3, e2, fun p hp => (each p hp).1, fun p hp => ?_, fun p hp => ?_⟩
  · obtain ⟨_, o, q, z⟩ := each p hp
    exact He.frT_none q z
  · obtain ⟨_, o, q, z⟩ := each p hp
    rw [q, He.emptyTab_eq z]
section
variable {fs : List Fct} {fn : List He5.DefA} {tf : List (PySem.W.Frag → Addr)} {h : Heap} {K : PySem.W.Frag}
theorem Told.fact (c : Told fs fn tf h K) (i : Nat) {f : Fct} (e : fs[i]? = some f := by rfl) : f K = true := List.all_eq_true.mp c.facts f (List.mem_of_getElem? e)
theorem Told.def_ (c : Told fs fn tf h K) (i : Nat) {d : He5.DefA} (e : fn[i]? = some d := by rfl) : ∃ fd, FunD K d.name d.qual d.params d.body d.scope (d.dvs K) (d.kws K) (d.at_ K) fd := by
  have e2 : (fn.map fun d => He5.fnA K (d.at_ K))[i]? = (fn.map He5.DefA.val)[i]? := by rw [c.defs]
  rw [List.getElem?_map, List.getElem?_map, e] at e2
  exact He5.DefA.funD (Option.some.inj e2) (List.all_eq_true.mp c.oks d (List.mem_of_getElem? e))
end
/-! ### facts -/
def wfP (K : PySem.W.Frag) (C : Addr) (m : Str) : Addr := He5.wf K C "property" m
def propB (C m : Str) : Fct := fun K => He.eqO (PySem.W.findIn K (.ref (He.ga K C)) m) (some (some (.ref (He.ma K (He.ga K C) m)))) && (decide (PySem.W.specialIn K (.ref (He.ma K (He.ga K C) m)) "__get__" = some (some (.builtin "property.__get__"))) &&
  (decide (PySem.W.takesIn K (.ref (He.ma K (He.ga K C) m)) = some true) && (match PySem.W.recIn K (He.ma K (He.ga K C) m) "property" with
    | some (.ref f :: _) => decide (f = wfP K (He.ga K C) m)
    | _ => false)))
def slotB : List (Option Value) → Bool
  | [_, _, _, _, some (.builtin id), _] => decide (id = "ValueError.__new__")
  | _ => false
theorem slot_ok {l : List (Option Value)} (h : slotB l = true) : ∃ k0 k1 k2 k3 k5, l = [k0, k1, k2, k3, some (.builtin "ValueError.__new__"), k5] := by
  unfold slotB at h
  split at h
  · exact ⟨_, _, _, _, _, by rw [of_decide_eq_true h]⟩
  · cases h
/-- one of the program's own errors over ValueError -/
def oexB (C : Addr) : Fct := fun K => (match K.lookup C with
  | some ⟨.type t, _, .cls cd, sl⟩ => decide (t = "type") && ((match cd.mro with
      | c :: bm => decide (c = .ref C) && PySem.HandSPX.refsVE bm
      | [] => false) && (cd.hasDict && (!cd.hasDel && slotB sl.toList)))
  | _ => false) && (decide (PySem.W.findIn K (.ref C) "__setattr__" = some (some (.builtin "object.__setattr__"))) && (decide (PySem.W.subIn K (.ref C) (.type "BaseException") = some true) &&
    (decide (PySem.W.typeIn K (.ref C) = some (.type "type")) && PySem.W.keepIn K (.ref C))))
theorem oex_ok {K : PySem.W.Frag} {C : Addr} (h : oexB C K = true) : OexC K C := by
  obtain ⟨h1, h⟩ := Bool.and_eq_true_iff.mp h
  obtain ⟨h2, h⟩ := Bool.and_eq_true_iff.mp h
  obtain ⟨h3, h⟩ := Bool.and_eq_true_iff.mp h
  obtain ⟨h4, h5⟩ := Bool.and_eq_true_iff.mp h
  refine ⟨?_, of_decide_eq_true h2, of_decide_eq_true h3, of_decide_eq_true h4, h5⟩
  generalize hx : K.lookup C = x at h1
  cases x with
  | none => cases h1
  | some o =>
    obtain ⟨oc, od, dt, sl⟩ := o
    cases oc with
    | type t =>
      cases dt with
      | cls cd =>
        obtain ⟨nm, bs, mro, ns, qn, hdct, sn, sub, ab, col, hdel⟩ := cd
        obtain ⟨a1, a⟩ := Bool.and_eq_true_iff.mp h1
        obtain ⟨a2, a⟩ := Bool.and_eq_true_iff.mp a
        obtain ⟨a3, a⟩ := Bool.and_eq_true_iff.mp a
        obtain ⟨a4, a5⟩ := Bool.and_eq_true_iff.mp a
        have e1 := of_decide_eq_true a1
        cases mro with
        | nil => cases a2
        | cons c bm =>
          obtain ⟨b1, b2⟩ := Bool.and_eq_true_iff.mp a2
          have e2 : c = .ref C := of_decide_eq_true b1
          have e3 : hdct = true := a3
          have e4 : hdel = false := by cases hdel with
            | false => rfl
            | true => cases a4
          obtain ⟨l⟩ := sl
          obtain ⟨k0, k1, k2, k3, k5, e5⟩ := slot_ok (l := l) a5
          subst e1 e2 e3 e4 e5
          exact ⟨nm, qn, ns, bs, bm, sn, sub, ab, col, od, k0, k1, k2, k3, k5, rfl, b2⟩
      | _ => cases h1
    | _ => cases dt <;> cases h1
def errB (C : Str) (bs : List Str) : Fct := fun K => oexB (He.ga K C) K && (xfB K (He.ga K C) && (decide (PySem.W.findIn K (.ref (He.ga K C)) "code" = some none) && (decide (PySem.W.findIn K (.ref (He.ga K C)) "position" = some none) && decide (PySem.W.exmAny K (.ref (He.ga K C)) (bs.map fun b => .ref (He.ga K b)) = some true))))
theorem err_ok {K : PySem.W.Frag} {mg : Str → Option Value} {C : Str} {bs : List Str} (g : mg C = some (.ref (He.ga K C))) (h : errB C bs K = true) : ErrC K mg C (He.ga K C) ∧ PySem.W.exmAny K (.ref (He.ga K C)) (bs.map fun b => .ref (He.ga K b)) = some true := by
  obtain ⟨h1, h⟩ := Bool.and_eq_true_iff.mp h
  obtain ⟨h2, h⟩ := Bool.and_eq_true_iff.mp h
  obtain ⟨h3, h⟩ := Bool.and_eq_true_iff.mp h
  obtain ⟨h4, h5⟩ := Bool.and_eq_true_iff.mp h
  exact ⟨⟨oex_ok h1, g, of_decide_eq_true h3, of_decide_eq_true h4, xfB_ok h2⟩, of_decide_eq_true h5⟩
/-- the __init__ of an error -/
def einB (C : Str) : Fct := fun K => He.eqO (PySem.W.findIn K (.ref (He.ga K C)) "__init__") (some (some (.ref (He.ma K (He.ga K C) "__init__")))) && decide (PySem.W.typeIn K (.ref (He.ma K (He.ga K C) "__init__")) = some (.type "function"))
theorem ein_ok {K : PySem.W.Frag} {C : Str} (h : einB C K = true) : PySem.W.findIn K (.ref (He.ga K C)) "__init__" = some (some (.ref (He.ma K (He.ga K C) "__init__"))) ∧ PySem.W.typeIn K (.ref (He.ma K (He.ga K C) "__init__")) = some (.type "function") := by
  obtain ⟨h1, h2⟩ := Bool.and_eq_true_iff.mp h
  exact ⟨He.eqO_ok h1, of_decide_eq_true h2⟩
abbrev faB (f : He.Fa) : Fct := fun K => f.ok K
/-- an own def, where it stands -/
abbrev dG (x : Str) (st : Stmt) : He5.DefA := { at_ := fun K => He.ga K x, name := x, qual := x, params := defArgs st, body := defBody st, scope := defScope st }
abbrev dM (C m q : Str) (st : Stmt) : He5.DefA := { at_ := fun K => He.ma K (He.ga K C) m, name := m, qual := q, params := defArgs st, body := defBody st, scope := defScope st }
/-- the law's own table -/
theorem law_tab {fs : List Fct} {fn : List He5.DefA} {tf : List (PySem.W.Frag → Addr)} {h : Heap} {K : PySem.W.Frag} {p : PySem.W.Frag → Addr} {oc : Value} {od : Option Addr} {fd : FuncData} {sl : Array (Option Value)} {cc : Addr}
    (c : Told fs fn tf h K) (hp : p ∈ tf) (lk : K.lookup (p K) = some ⟨oc, od, .func fd, sl⟩) (e : fd.code = .ref cc) :
    h.get? (He.tabOf K cc) = some (PySem.W.tabObj #[]) ∧ K.lookup (He.tabOf K cc) = none ∧ PySem.W.codeHdIn K cc (He.tabOf K cc) = true := by
  have q : codT K (p K) = (cc, He.tabOf K cc) := by
    unfold codT
    rw [lk]
    show (match fd.code with | .ref c => (c, He.tabOf K c) | _ => (0, 0)) = _
    rw [e]
  have h1 := c.hd p hp
  have h2 := c.out p hp
  have h3 := c.empty p hp
  rw [q] at h1 h2 h3
  exact ⟨h3, h2, h1⟩
/-- behind world's special-get-raises both ways -/
theorem two_ways {R : PySem.W.OpenRow} {q : Program} {H : PySem.W.Hook} {ob : PySem.W.SharedT → H.α} {M : Nat} {loose : List Str} (hf : ∀ w : World, HandSHeadRun.RunEq R q H ob M loose (w.withFollow "special-get-raises" false))
    (ht : ∀ w : World, HandSHeadRun.RunEq R q H ob M loose (w.withFollow "special-get-raises" true)) (w : World) : HandSHeadRun.RunEq R q H ob M loose w := PySem.W.byRow2 "special-get-raises" hf ht w
end Own

namespace Own
open PySem PySem.Spec PyProof.Rows L2 SX RZ
open Builtin Builtin.ObjectAttr
/-! ### own errors over LookupError -/
section
variable {prog : Program} {w : World} {A : Around} {R : Result → Shared → Prop} {hp : Heap} {gens : Array GenState} {dr : Drawn} {tk0 : Nat} {os : OsState} {K : PySem.W.Frag} {nm : Str} {tk : Tok} {v : Value} {e C : Addr} {fv : Array Value} {cd : ClassData}
end
section
variable {X : Cx} {pins : List (Addr × Obj)} {σ : L2.St} {H : Hp} {s : Shared} {a C : Addr} {f : Str} {y : V} {u : Value} {Q : Unit → Shared → Prop} {E : Value → Shared → Prop} {A : Around}
end
/-! the facts, computed -/
end Own

namespace Own
open PySem PySem.Spec PyProof.Rows L2 SX
/-! ### a place in a filled row -/
/-! ### lengths and letters along fills -/
/-! ### turns done one after the other -/
/-! ### promises -/
/-- rows of items as they lie; the sizes beside them -/
def LstsN (H : Hp) (qs : List Addr) (l : List (List (List Nat))) : Prop := qs.length = l.length ∧ ∀ (i : Nat) (q : Addr) (its : List (List Nat)), qs[i]? = some q → l[i]? = some its → H q = some (.lst (its.map tx))
theorem LstsN.same {H H' : Hp} {qs : List Addr} {l : List (List (List Nat))} (h : LstsN H qs l) (s : Same H H') : LstsN H' qs l := ⟨h.1, fun i q its h1 h2 => s _ _ (h.2 i q its h1 h2)⟩
theorem Lsts.n {H : Hp} {r : Addr} {qs : List Addr} {l : List (List (List Nat))} (h : Lsts H r qs l) : LstsN H qs l := ⟨h.1, fun i q its h1 h2 => (h.2 i q its h1 h2).2⟩
end Own

/-! Cnd1: conditions, their texts; patterns as they are checked -/
namespace Cnd
inductive Cd where
  | named (n : List Nat)
  | mat (p : List Nat)
  | len (r m : Nat)
  | tpl (k : Nat) (a b x y : List Nat)
  | no (c : Cd)
  | two (w : Bool) (a b : Cd)
  deriving DecidableEq
/-! ### the scan of a pattern -/
def can (gs : List Nat) (b s d : Nat) : Bool :=
  if s = 42 then decide (b ∈ gs) || (decide (b = 46) || decide (b = 41)) else if s = 41 then decide (0 < d) else decide (s ∈ gs) || (decide (s = 46) || (decide (s = 124) || decide (s = 40)))
/-- depth behind a sign -/
def dep (d s : Nat) : Nat := if s = 40 then d + 1 else if s = 41 then d - 1 else d
def scan (gs : List Nat) : Nat → Nat → List Nat → Option (Nat × Nat)
  | b, d, [] => some (b, d)
  | b, d, s :: p => if can gs b s d then scan gs s (dep d s) p else none
theorem scan_app {gs : List Nat} : ∀ {p q : List Nat} {b d : Nat}, scan gs b d (p ++ q) = (scan gs b d p).bind fun z => scan gs z.1 z.2 q
  | [], q, b, d => rfl
  | s :: p, q, b, d => by
    show (if can gs b s d then scan gs s (dep d s) (p ++ q) else none) = (if can gs b s d then scan gs s (dep d s) p else none).bind _
    by_cases h : can gs b s d = true
    · rw [if_pos h, if_pos h, scan_app]
    · rw [if_neg h, if_neg h]; rfl
/-- the place of the parenthesis that closes, counted from i -/
def clo : Nat → List Nat → Nat → Option Nat
  | _, [], _ => none
  | d, s :: p, i => if dep d s = 0 then some i else clo (dep d s) p (i + 1)
/-- a pattern in itself -/
structure Pat (gs p : List Nat) : Prop where
  scn : ∀ b d, ∃ b', scan gs b d p = some (b', d)
  bal : ∀ d q i, clo (d + 1) (p ++ q) i = clo (d + 1) q (i + p.length)
  low : ∀ c ∈ p, c < 128
/-- signs that are no parentheses -/
theorem bal_plain : ∀ {p : List Nat}, (∀ c ∈ p, c ≠ 40 ∧ c ≠ 41) → ∀ d q i, clo (d + 1) (p ++ q) i = clo (d + 1) q (i + p.length)
  | [], _, d, q, i => rfl
  | s :: p, h, d, q, i => by
    obtain ⟨h1, h2⟩ := h s (List.mem_cons_self ..)
    have e : dep (d + 1) s = d + 1 := by unfold dep; rw [if_neg h1, if_neg h2]
    show (if dep (d + 1) s = 0 then some i else clo (dep (d + 1) s) (p ++ q) (i + 1)) = _
    rw [e, if_neg (Nat.succ_ne_zero _), bal_plain fun c hc => h c (List.mem_cons_of_mem _ hc)]
    congr 1
    rw [List.length_cons]
    omega
theorem clo_at {p q : List Nat} (hb : ∀ d q i, clo (d + 1) (p ++ q) i = clo (d + 1) q (i + p.length)) {i : Nat} : clo 1 (p ++ 41 :: q) i = some (i + p.length) := by
  rw [hb 0 (41 :: q) i]
  rfl
theorem Pat.nil {gs : List Nat} : Pat gs [] := ⟨fun b d => ⟨b, rfl⟩, fun d q i => rfl, fun _ h => nomatch h⟩
theorem Pat.app {gs p q : List Nat} (h : Pat gs p) (k : Pat gs q) : Pat gs (p ++ q) := by
  refine ⟨fun b d => ?_, fun d r i => ?_, fun c hc => (List.mem_append.mp hc).elim (h.low c) (k.low c)⟩
  · obtain ⟨b1, e1⟩ := h.scn b d
    obtain ⟨b2, e2⟩ := k.scn b1 d
    exact ⟨b2, by rw [scan_app, e1]; exact e2⟩
  · rw [List.append_assoc, h.bal, k.bal, List.length_append, Nat.add_assoc]
/-- letters, points and bars stand anywhere -/
def free (gs : List Nat) (s : Nat) : Prop := s ∈ gs ∨ s = 46 ∨ s = 124
theorem one_scan {gs : List Nat} (az : ∀ c ∈ gs, 97 ≤ c ∧ c ≤ 122) {s : Nat} (h : free gs s) (b d : Nat) : scan gs b d [s] = some (s, d) := by
  have hs : s ≠ 42 ∧ s ≠ 41 ∧ s ≠ 40 ∧ s < 128 := by
    rcases h with h | rfl | rfl
    · have := az s h; omega
    · decide
    · decide
  have e1 : can gs b s d = true := by
    unfold can
    rw [if_neg hs.1, if_neg hs.2.1]
    rcases h with h | rfl | rfl
    · rw [decide_eq_true h]; rfl
    · simp
    · simp
  have e2 : dep d s = d := by unfold dep; rw [if_neg hs.2.2.1, if_neg hs.2.1]
  show (if can gs b s d then scan gs s (dep d s) [] else none) = _
  rw [e1, if_pos rfl, e2]
  rfl
theorem Pat.one {gs : List Nat} (az : ∀ c ∈ gs, 97 ≤ c ∧ c ≤ 122) {s : Nat} (h : free gs s) : Pat gs [s] := by
  have hs : s ≠ 42 ∧ s ≠ 41 ∧ s ≠ 40 ∧ s < 128 := by
    rcases h with h | rfl | rfl
    · have := az s h; omega
    · decide
    · decide
  exact ⟨fun b d => ⟨s, one_scan az h b d⟩, bal_plain fun c hc => by rw [List.mem_singleton.mp hc]; exact ⟨hs.2.2.1, hs.2.1⟩, fun c hc => by rw [List.mem_singleton.mp hc]; exact hs.2.2.2⟩
theorem bal_par {p : List Nat} (hb : ∀ d q i, clo (d + 1) (p ++ q) i = clo (d + 1) q (i + p.length)) : ∀ d q i, clo (d + 1) ((40 :: (p ++ [41])) ++ q) i = clo (d + 1) q (i + (40 :: (p ++ [41])).length) := fun d q i => by
  show (if dep (d + 1) 40 = 0 then some i else clo (dep (d + 1) 40) ((p ++ [41]) ++ q) (i + 1)) = _
  have e : dep (d + 1) 40 = d + 1 + 1 := rfl
  rw [e, if_neg (Nat.succ_ne_zero _), List.append_assoc, hb]
  show (if dep (d + 1 + 1) 41 = 0 then some _ else clo (dep (d + 1 + 1) 41) q _) = _
  have e2 : dep (d + 1 + 1) 41 = d + 1 := rfl
  rw [e2, if_neg (Nat.succ_ne_zero _)]
  congr 1
  rw [List.length_cons, List.length_append]
  show _ = i + (p.length + 1 + 1)
  omega
theorem Pat.par {gs p : List Nat} (h : Pat gs p) : Pat gs (40 :: (p ++ [41])) := by
  refine ⟨fun b d => ⟨41, ?_⟩, bal_par h.bal, fun c hc => ?_⟩
  · obtain ⟨b1, e1⟩ := h.scn 40 (d + 1)
    show (if can gs b 40 d then scan gs 40 (d + 1) (p ++ [41]) else none) = _
    have e0 : can gs b 40 d = true := by unfold can; simp
    rw [e0, if_pos rfl, scan_app, e1]
    show (if can gs b1 41 (d + 1) then scan gs 41 (dep (d + 1) 41) [] else none) = _
    have e2 : can gs b1 41 (d + 1) = true := by unfold can; simp
    rw [e2, if_pos rfl]
    rfl
  · rcases List.mem_cons.mp hc with rfl | hc
    · decide
    · rcases List.mem_append.mp hc with hc | hc
      · exact h.low c hc
      · rw [List.mem_singleton.mp hc]; decide
/-- ( .. )* -/
theorem Pat.star {gs p : List Nat} (h : Pat gs p) : Pat gs ((40 :: (p ++ [41])) ++ [42]) := by
  refine ⟨fun b d => ⟨42, ?_⟩, fun d q i => ?_, fun c hc => ?_⟩
  · have h1 : scan gs b d (40 :: (p ++ [41])) = some (41, d) := by
      obtain ⟨b1, e1⟩ := h.scn 40 (d + 1)
      show (if can gs b 40 d then scan gs 40 (d + 1) (p ++ [41]) else none) = _
      have e0 : can gs b 40 d = true := by unfold can; simp
      rw [e0, if_pos rfl, scan_app, e1]
      show (if can gs b1 41 (d + 1) then scan gs 41 (dep (d + 1) 41) [] else none) = _
      have e2 : can gs b1 41 (d + 1) = true := by unfold can; simp
      rw [e2, if_pos rfl]
      rfl
    rw [scan_app, h1]
    show (if can gs 41 42 d then scan gs 42 (dep d 42) [] else none) = _
    have e2 : can gs 41 42 d = true := by unfold can; simp
    rw [e2, if_pos rfl]
    rfl
  · rw [List.append_assoc, h.par.bal, bal_plain (p := [42]) (fun c hc => by rw [List.mem_singleton.mp hc]; decide), List.length_append, Nat.add_assoc]
  · rcases List.mem_append.mp hc with hc | hc
    · exact h.par.low c hc
    · rw [List.mem_singleton.mp hc]; decide
/-- a letter or the point, and a star -/
theorem Pat.lstar {gs : List Nat} (az : ∀ c ∈ gs, 97 ≤ c ∧ c ≤ 122) {s : Nat} (h : s ∈ gs ∨ s = 46) : Pat gs [s, 42] := by
  have f : free gs s := h.elim .inl fun z => .inr (.inl z)
  have h1 := Pat.one az f
  refine ⟨fun b d => ⟨42, ?_⟩, fun d q i => ?_, fun c hc => ?_⟩
  · have e := one_scan az f b d
    rw [show [s, 42] = [s] ++ [42] from rfl, scan_app, e]
    show (if can gs s 42 d then scan gs 42 (dep d 42) [] else none) = _
    have e2 : can gs s 42 d = true := by
      unfold can
      rw [if_pos rfl]
      rcases h with h | rfl
      · rw [decide_eq_true h]; rfl
      · simp
    rw [e2, if_pos rfl]
    rfl
  · rw [show [s, 42] ++ q = [s] ++ ([42] ++ q) from rfl, h1.bal, bal_plain (p := [42]) (fun c hc => by rw [List.mem_singleton.mp hc]; decide)]
    rfl
  · rcases List.mem_cons.mp hc with rfl | hc
    · exact h1.low _ (List.mem_singleton.mpr rfl)
    · rw [List.mem_singleton.mp hc]; decide
end Cnd
namespace Cnd
theorem scan_at {gs : List Nat} {b d : Nat} {z : Nat × Nat} : ∀ {p : List Nat} (_ : scan gs b d p = some z) (i : Nat), ∃ b' d', scan gs b d (p.take i) = some (b', d')
  | [], h, i => ⟨b, d, by rw [List.take_nil]; rfl⟩
  | s :: p, h, i => by
    have e := List.take_append_drop i (s :: p)
    rw [← e, scan_app] at h
    cases q : scan gs b d ((s :: p).take i) with
    | none => rw [q] at h; cases h
    | some y => exact ⟨y.1, y.2, rfl⟩
theorem scan_step {gs : List Nat} {b0 d0 b d s i : Nat} {z : Nat × Nat} {p : List Nat} (h : scan gs b0 d0 p = some z) (hi : scan gs b0 d0 (p.take i) = some (b, d)) (hs : p[i]? = some s) :
    can gs b s d = true ∧ scan gs b0 d0 (p.take (i + 1)) = some (s, dep d s) := by
  have et : p.take (i + 1) = p.take i ++ [s] := by rw [List.take_add_one, hs]; rfl
  obtain ⟨b2, d2, h2⟩ := scan_at h (i + 1)
  rw [et, scan_app, hi] at h2
  have h3 : (if can gs b s d then scan gs s (dep d s) [] else none) = some (b2, d2) := h2
  by_cases c : can gs b s d = true
  · refine ⟨c, ?_⟩
    rw [et, scan_app, hi]
    show (if can gs b s d then scan gs s (dep d s) [] else none) = _
    rw [if_pos c]
    rfl
  · rw [if_neg c] at h3; cases h3
end Cnd

/-! Cnd2: the texts of conditions; how they are read: what has begun, what is left -/
namespace Cnd
def dec (n : Nat) : List Nat := if n < 10 then [48 + n] else [48 + n / 10, 48 + n % 10]
abbrev wdT (w : Bool) : List Nat := if w then [97, 110, 100] else [111, 114]
abbrev notT : List Nat := [110, 111, 116, 32]
abbrev namT : List Nat := [110, 97, 109, 101, 100, 32]
abbrev matT : List Nat := [109, 97, 116, 99, 104]
abbrev lenT : List Nat := [108, 101, 110, 103, 116, 104]
def kwT : Nat → List Nat
  | 0 => [115, 97, 109, 101]
  | 1 => [98, 101, 103, 105, 110, 115]
  | 2 => [101, 110, 100, 115]
  | _ => [108, 101, 115, 115]
/-- the text -/
def cTx : Cd → List Nat
  | .named n => namT ++ n
  | .mat p => matT ++ (40 :: (p ++ [41]))
  | .len r m => lenT ++ (40 :: ((dec r ++ 44 :: dec m) ++ [41]))
  | .tpl k a b _ _ => kwT k ++ (40 :: ((a ++ 44 :: b) ++ [41]))
  | .no c => notT ++ cTx c
  | .two w a b => 40 :: (cTx a ++ (32 :: (wdT w ++ (32 :: (cTx b ++ [41])))))
def leaf : Cd → Bool
  | .no _ => false
  | .two _ _ _ => false
  | _ => true
inductive Fr where
  | no
  | lft (w : Bool) (r : Cd)
  | rgt (w : Bool) (l : Cd)
/-- what still comes behind a condition; the innermost first -/
def rest (z : List Nat) : List Fr → List Nat
  | [] => z
  | .no :: fs => rest z fs
  | .lft w r :: fs => 32 :: (wdT w ++ (32 :: (cTx r ++ (41 :: rest z fs))))
  | .rgt _ _ :: fs => 41 :: rest z fs
def plug : List Fr → Cd → Cd
  | [], c => c
  | .no :: fs, c => plug fs (.no c)
  | .lft w r :: fs, c => plug fs (.two w c r)
  | .rgt w l :: fs, c => plug fs (.two w l c)
/-- what begins at the beginning of a condition; the outermost first -/
def newF : Cd → List Fr
  | .no c => .no :: newF c
  | .two w a b => .lft w b :: newF a
  | _ => []
def leafOf : Cd → Cd
  | .no c => leafOf c
  | .two _ a _ => leafOf a
  | c => c
/-- the signs of what begins: true for not, false for a parenthesis -/
def marks : Cd → List Bool
  | .no c => true :: marks c
  | .two _ a _ => false :: marks a
  | _ => []
abbrev mkT (b : Bool) : List Nat := if b then notT else [40]
def preT (l : List Bool) : List Nat := l.flatMap mkT
def markF : Fr → Bool
  | .no => true
  | _ => false
theorem marks_new : ∀ c : Cd, marks c = (newF c).map markF
  | .no c => by show true :: marks c = true :: (newF c).map markF; rw [marks_new c]
  | .two w a b => by show false :: marks a = false :: (newF a).map markF; rw [marks_new a]
  | .named _ | .mat _ | .len _ _ | .tpl _ _ _ _ _ => rfl
theorem leaf_of : ∀ c : Cd, leaf (leafOf c) = true
  | .no c => leaf_of c
  | .two _ a _ => leaf_of a
  | .named _ | .mat _ | .len _ _ | .tpl _ _ _ _ _ => rfl
theorem text_of {z : List Nat} : ∀ (c : Cd) (fs : List Fr), cTx c ++ rest z fs = preT (marks c) ++ (cTx (leafOf c) ++ rest z ((newF c).reverse ++ fs))
  | .no c, fs => by
    show notT ++ cTx c ++ rest z fs = (mkT true ++ preT (marks c)) ++ (cTx (leafOf c) ++ rest z ((Fr.no :: newF c).reverse ++ fs))
    rw [List.reverse_cons, List.append_assoc, List.append_assoc, List.append_assoc]
    show notT ++ (cTx c ++ rest z (.no :: fs)) = notT ++ _
    rw [text_of c (.no :: fs)]
    rfl
  | .two w a b, fs => by
    show (40 :: (cTx a ++ (32 :: (wdT w ++ (32 :: (cTx b ++ [41])))))) ++ rest z fs = (mkT false ++ preT (marks a)) ++ (cTx (leafOf a) ++ rest z ((Fr.lft w b :: newF a).reverse ++ fs))
    rw [List.reverse_cons, List.append_assoc (newF a).reverse]
    have e := text_of (z := z) a (.lft w b :: fs)
    show _ = (mkT false ++ preT (marks a)) ++ (cTx (leafOf a) ++ rest z ((newF a).reverse ++ (.lft w b :: fs)))
    rw [List.append_assoc, ← e]
    have e2 : (40 :: (cTx a ++ (32 :: (wdT w ++ (32 :: (cTx b ++ [41])))))) ++ rest z fs = 40 :: (cTx a ++ (32 :: (wdT w ++ (32 :: (cTx b ++ (41 :: rest z fs)))))) := by
      rw [List.cons_append, List.append_assoc, List.cons_append, List.append_assoc, List.cons_append, List.append_assoc]
      rfl
    exact e2
  | .named _, _ | .mat _, _ | .len _ _, _ | .tpl _ _ _ _ _, _ => rfl
theorem plug_of : ∀ (c : Cd) (fs : List Fr), plug ((newF c).reverse ++ fs) (leafOf c) = plug fs c
  | .no c, fs => by
    show plug ((Fr.no :: newF c).reverse ++ fs) (leafOf c) = _
    rw [List.reverse_cons, List.append_assoc]
    exact plug_of c (.no :: fs)
  | .two w a b, fs => by
    show plug ((Fr.lft w b :: newF a).reverse ++ fs) (leafOf a) = _
    rw [List.reverse_cons, List.append_assoc]
    exact plug_of a (.lft w b :: fs)
  | .named _, _ | .mat _, _ | .len _ _, _ | .tpl _ _ _ _ _, _ => rfl
/-- how much is left to read -/
def size : Cd → Nat
  | .no c => size c + 1
  | .two _ a b => size a + size b + 1
  | _ => 1
def left : List Fr → Nat
  | [] => 0
  | .lft _ r :: fs => size r + left fs
  | _ :: fs => left fs
theorem left_app : ∀ (a b : List Fr), left (a ++ b) = left a + left b
  | [], b => (Nat.zero_add _).symm
  | .no :: a, b => left_app a b
  | .rgt _ _ :: a, b => left_app a b
  | .lft _ r :: a, b => by show size r + left (a ++ b) = size r + left a + left b; rw [left_app a b]; omega
theorem left_new : ∀ c : Cd, left (newF c).reverse < size c
  | .no c => by
    show left (Fr.no :: newF c).reverse < size c + 1
    rw [List.reverse_cons, left_app]
    have := left_new c
    show _ + 0 < _
    omega
  | .two w a b => by
    show left (Fr.lft w b :: newF a).reverse < size a + size b + 1
    rw [List.reverse_cons, left_app]
    have := left_new a
    show _ + (size b + 0) < _
    omega
  | .named _ | .mat _ | .len _ _ | .tpl _ _ _ _ _ => Nat.one_pos
/-- a leaf begins neither with not nor with a parenthesis -/
theorem lead : ∀ {c : Cd} (_ : leaf c = true) (z : List Nat), ¬ notT <+: (cTx c ++ z) ∧ ¬ [40] <+: (cTx c ++ z)
  | .named n, _, z => ⟨fun ⟨t, e⟩ => by simp [cTx] at e, fun ⟨t, e⟩ => by simp [cTx] at e⟩
  | .mat p, _, z => ⟨fun ⟨t, e⟩ => by simp [cTx] at e, fun ⟨t, e⟩ => by simp [cTx] at e⟩
  | .len r m, _, z => ⟨fun ⟨t, e⟩ => by simp [cTx] at e, fun ⟨t, e⟩ => by simp [cTx] at e⟩
  | .tpl k a b _ _, _, z => by
    match k with
    | 0 | 1 | 2 | _ + 3 => exact ⟨fun ⟨t, e⟩ => by simp [cTx, kwT] at e, fun ⟨t, e⟩ => by simp [cTx, kwT] at e⟩
  | .no _, h, _ => by cases h
  | .two _ _ _, h, _ => by cases h
end Cnd
namespace Cnd
/-- the word of a leaf that is no name, and what stands between its parentheses -/
def kd : Cd → List Nat
  | .mat _ => matT
  | .len _ _ => lenT
  | .tpl k _ _ _ _ => kwT k
  | _ => []
def inn : Cd → List Nat
  | .mat p => p
  | .len r m => dec r ++ 44 :: dec m
  | .tpl _ a b _ _ => a ++ 44 :: b
  | _ => []
def isNamed : Cd → Bool
  | .named _ => true
  | _ => false
theorem leaf_text : ∀ {c : Cd} (_ : leaf c = true) (_ : isNamed c = false), cTx c = kd c ++ (40 :: (inn c ++ [41]))
  | .mat _, _, _ | .len _ _, _, _ | .tpl _ _ _ _ _, _, _ => rfl
  | .named _, _, h => by cases h
  | .no _, h, _ => by cases h
  | .two _ _ _, h, _ => by cases h
theorem kd_no : ∀ (c : Cd), 40 ∉ kd c
  | .mat _ => by show 40 ∉ matT; decide
  | .len _ _ => by show 40 ∉ lenT; decide
  | .tpl 0 _ _ _ _ => by show 40 ∉ kwT 0; decide
  | .tpl 1 _ _ _ _ => by show 40 ∉ kwT 1; decide
  | .tpl 2 _ _ _ _ => by show 40 ∉ kwT 2; decide
  | .tpl (_ + 3) _ _ _ _ => by show 40 ∉ kwT 3; decide
  | .named _ => fun h => nomatch h
  | .no _ => fun h => nomatch h
  | .two _ _ _ => fun h => nomatch h
theorem not_named : ∀ {c : Cd} (_ : leaf c = true) (_ : isNamed c = false) (z : List Nat), ¬ namT <+: (cTx c ++ z)
  | .mat p, _, _, z => fun ⟨t, e⟩ => by simp [cTx] at e
  | .len r m, _, _, z => fun ⟨t, e⟩ => by simp [cTx] at e
  | .tpl k a b _ _, _, _, z => by
    match k with
    | 0 | 1 | 2 | _ + 3 => exact fun ⟨t, e⟩ => by simp [cTx, kwT] at e
  | .named _, _, h, _ => by cases h
  | .no _, h, _, _ => by cases h
  | .two _ _ _, h, _, _ => by cases h
theorem dec_plain {n : Nat} : ∀ c ∈ dec n, c ≠ 40 ∧ c ≠ 41 := by
  intro c hc
  unfold dec at hc
  split at hc
  · rw [List.mem_singleton.mp hc]; omega
  · simp only [List.mem_cons, List.not_mem_nil, or_false] at hc
    rcases hc with rfl | rfl <;> omega
end Cnd
namespace Cnd
theorem rest_head {z : List Nat} (hz : ∀ d r, z = d :: r → ¬ (97 ≤ d ∧ d ≤ 122)) : ∀ (fs : List Fr) (d : Nat) (r : List Nat), rest z fs = d :: r → ¬ (97 ≤ d ∧ d ≤ 122)
  | [], d, r, h => hz d r h
  | .no :: fs, d, r, h => rest_head hz fs d r h
  | .lft w c :: fs, d, r, h => by
    have h : 32 :: (wdT w ++ (32 :: (cTx c ++ (41 :: rest z fs)))) = d :: r := h
    injection h with h1 _
    omega
  | .rgt w c :: fs, d, r, h => by
    have h : 41 :: rest z fs = d :: r := h
    injection h with h1 _
    omega
def dpt : Cd → Nat
  | .no c => dpt c + 1
  | .two _ a b => max (dpt a) (dpt b) + 1
  | _ => 1
theorem dpt_plug : ∀ (fs : List Fr) (c : Cd), dpt c ≤ dpt (plug fs c)
  | [], c => Nat.le_refl _
  | .no :: fs, c => Nat.le_trans (Nat.le_succ _) (dpt_plug fs (.no c))
  | .lft w r :: fs, c => Nat.le_trans (Nat.le_trans (Nat.le_max_left _ _) (Nat.le_succ _)) (dpt_plug fs (.two w c r))
  | .rgt w l :: fs, c => Nat.le_trans (Nat.le_trans (Nat.le_max_right _ _) (Nat.le_succ _)) (dpt_plug fs (.two w l c))
theorem dpt_rgt : ∀ {fs : List Fr} {c : Cd} {w : Bool} {l : Cd}, Fr.rgt w l ∈ fs → dpt l ≤ dpt (plug fs c)
  | f :: fs, c, w, l, h => by
    rcases List.mem_cons.mp h with e | h2
    · subst e
      exact Nat.le_trans (Nat.le_trans (Nat.le_max_left _ _) (Nat.le_succ _)) (dpt_plug fs (.two w l c))
    · cases f with
      | no => exact dpt_rgt (c := .no c) h2
      | lft w2 r => exact dpt_rgt (c := .two w2 c r) h2
      | rgt w2 l2 => exact dpt_rgt (c := .two w2 l2 c) h2
end Cnd

namespace Own
open PySem PySem.Spec PyProof.Rows L2 SX
/-! ### conditions as they lie; texts cut at a sign -/
theorem sub_S {xs : List Nat} {i j : Nat} : Builtin.Str.strSub (S xs) i j = S ((xs.drop i).take (j - i)) := by
  have h := StrLaws.strSub_toList (S xs) i j
  show _ = (⟨_⟩ : Str)
  have : (Builtin.Str.strSub (S xs) i j) = ⟨((xs.drop i).take (j - i)).toArray⟩ := by
    cases e : Builtin.Str.strSub (S xs) i j with
    | mk a =>
      rw [e] at h
      congr 1
      exact Array.toList_inj.mp h
  exact this
theorem idx_app {a b : List Nat} {c : Nat} (h : c ∉ a) : (a ++ c :: b).idxOf c = a.length := by
  induction a with
  | nil => simp [List.idxOf_cons]
  | cons x a ih =>
    have hx : x ≠ c := fun e => h (by rw [e]; exact List.mem_cons_self ..)
    rw [List.cons_append, List.idxOf_cons, ih fun z => h (List.mem_cons_of_mem _ z), beq_eq_false_iff_ne.mpr hx]
    rfl
theorem part_at {a b : List Nat} {c : Nat} (h : c ∉ a) : (Txt.partition (S (a ++ c :: b)) (S [c])).1 = S a := by
  obtain ⟨r, e⟩ := occ1 (a := a ++ c :: b) (c := c) (List.mem_append_right _ (List.mem_cons_self ..))
  have e2 := idx_app (b := b) h
  unfold Txt.partition
  rw [e, e2]
  show Builtin.Str.strSub _ 0 a.length = S a
  rw [sub_S, List.drop_zero, Nat.sub_zero, List.take_left]
theorem split_two {a b : List Nat} {c : Nat} (ha : c ∉ a) (hb : c ∉ b) (h256 : c < 256) : Txt.split (S (a ++ c :: b)) (S [c]) = [S a, S b] := by
  have hn : (a ++ c :: b).count c = 1 := by
    rw [List.count_append, List.count_cons_self, List.count_eq_zero_of_not_mem ha, List.count_eq_zero_of_not_mem hb]
  have hc := count_S (a ++ c :: b) c
  rw [hn] at hc
  have e2 := idx_app (b := b) ha
  have hl : (S (a ++ c :: b)).length = a.length + (b.length + 1) := by rw [S_len, List.length_append, List.length_cons]
  rcases StrLaws.occ_head (S (a ++ c :: b)) (S [c]) ((S (a ++ c :: b)).length + 1) (Nat.succ_pos _) with ⟨e0, _⟩ | ⟨i, r, e, hi, hk2⟩
  · unfold Txt.count at hc
    rw [e0] at hc
    cases hc
  · unfold Txt.count at hc
    rw [e] at hc
    have hr : r = [] := by
      cases r with
      | nil => rfl
      | cons x r =>
        have : ((i :: x :: r).length : Int) = 1 := hc
        rw [List.length_cons, List.length_cons] at this
        omega
    subst hr
    have h1 : (a ++ c :: b)[i]? = some c := (StrLaws.subAt_one (S (a ++ c :: b)) c i).mp hi
    have ei := idx_of (a ++ c :: b) i h1 fun k lt q => hk2 k lt ((StrLaws.subAt_one (S (a ++ c :: b)) c k).mpr q)
    have ei : i = a.length := by rw [← e2]; exact ei.symm
    subst ei
    unfold Txt.split
    rw [if_neg (by
      rw [Bool.or_eq_true, decide_eq_true_iff, decide_eq_true_iff]
      rintro (h | h)
      · rw [hl] at h
        have : (S [c]).length = 1 := rfl
        omega
      · have k1 : Builtin.Str.strKind (S [c]) = 1 := by
          unfold Builtin.Str.strKind
          rw [if_pos (by simp [S, h256])]
        rw [k1] at h
        unfold Builtin.Str.strKind at h
        split at h
        · omega
        · split at h <;> omega), e, if_neg (fun z => by cases z), StrLaws.partsBetween_eq]
    show [Builtin.Str.strSub _ 0 a.length, Builtin.Str.strSub _ (a.length + 1) _] = _
    rw [sub_S, sub_S, List.drop_zero, Nat.sub_zero, List.take_left]
    congr 2
    rw [show (a ++ c :: b).drop (a.length + 1) = b by
      rw [← List.drop_drop, List.drop_left]; rfl, hl]
    congr 1
    exact List.take_of_length_le (by omega)
theorem dec_to : ∀ n, n ≤ 60 → (toString ((n : Nat) : Int) : Str) = S (Cnd.dec n) := by decide +kernel
theorem dec_no : ∀ n, n ≤ 60 → ∀ c ∈ Cnd.dec n, 48 ≤ c ∧ c ≤ 57 := by decide +kernel
abbrev rLenQ (K : PySem.W.Frag) : List V → Hp → VK → Prop := fun xs H Q => ∃ p ys, xs = [.ref p] ∧ (SqL K H p ys ∨ SqT K H p ys) ∧ Q (.int ys.length) H
theorem callLenC {X : Cx} {K : PySem.W.Frag} (h : X.K = K) : CallR X (.builtin "len") (rLenQ K) := by subst h; exact call_len_seq
theorem dec_str {a b : List Nat} : decide (V.str (S a) = V.str (S b)) = decide (a = b) := by
  by_cases e : a = b
  · rw [e, decide_eq_true rfl, decide_eq_true rfl]
  · rw [decide_eq_false e]
    exact decide_eq_false fun h => e (S_inj (V.str.inj h))
theorem inV_tx {m : List Nat} : ∀ {l : List (List Nat)}, inV (tx m) (l.map tx) = decide (m ∈ l)
  | [] => rfl
  | n :: l => by
    have ih := inV_tx (m := m) (l := l)
    have h1 : inV (tx m) ((n :: l).map tx) = (eqV (tx n) (tx m) || inV (tx m) (l.map tx)) := rfl
    have h2 : eqV (tx n) (tx m) = decide (n = m) := by
      show (S n == S m) = _
      by_cases e : n = m
      · rw [e, decide_eq_true rfl, beq_self_eq_true]
      · rw [decide_eq_false e]
        exact beq_eq_false_iff_ne.mpr fun h => e (S_inj h)
    rw [h1, ih, h2]
    by_cases e : n = m
    · subst e; simp
    · simp [e, Ne.symm e]
theorem cutN_mid {xs : List Nat} {a b : Nat} (h : a ≤ b) (hb : b ≤ xs.length) : cutS (S xs) (some ((a : Nat) : Int)) (some ((b : Nat) : Int)) = S ((xs.drop a).take (b - a)) := by
  unfold cutS
  rw [S_len, HT.sIx_nat, HT.sIx_nat, Nat.min_eq_left (show a ≤ xs.length by omega), Nat.min_eq_left hb]
theorem cutN_from {xs : List Nat} {a : Nat} (h : a ≤ xs.length) : cutS (S xs) (some ((a : Nat) : Int)) none = S (xs.drop a) := by
  unfold cutS
  rw [S_len, HT.sIx_nat, HT.sIx_none, Nat.min_eq_left h]
  show (⟨((xs.drop a).take (xs.length - a)).toArray⟩ : Str) = ⟨(xs.drop a).toArray⟩
  rw [List.take_of_length_le (by rw [List.length_drop]; omega)]
theorem dec_lt {a b : Nat} : decide (((a : Nat) : Int) < ((b : Nat) : Int)) = decide (a < b) := by
  by_cases h : a < b
  · rw [decide_eq_true h]; exact decide_eq_true (by omega)
  · rw [decide_eq_false h]; exact decide_eq_false (by omega)
/-! ### conditions as they lie -/
def kwS : Nat → Str
  | 0 => Str.ofString "same"
  | 1 => Str.ofString "begins"
  | 2 => Str.ofString "ends"
  | _ => Str.ofString "less"
theorem kwS_T (k : Nat) : kwS k = S (Cnd.kwT k) := by
  match k with
  | 0 | 1 | 2 | _ + 3 => rfl
abbrev wdS (w : Bool) : Str := if w then Str.ofString "and" else Str.ofString "or"
theorem wdS_T (w : Bool) : wdS w = S (Cnd.wdT w) := by cases w <;> rfl
open Cnd in
/-- a condition as it lies -/
def CdH (H : Hp) : Cd → V → Prop
  | .named n, v => ∃ a, v = .ref a ∧ H a = some (.tup [.str (Str.ofString "named"), tx n])
  | .mat p, v => ∃ a, v = .ref a ∧ H a = some (.tup [.str (Str.ofString "match"), tx p])
  | .len r m, v => ∃ a, v = .ref a ∧ H a = some (.tup [.str (Str.ofString "length"), iv r, iv m])
  | .tpl k _ _ x y, v => ∃ a, v = .ref a ∧ H a = some (.tup [.str (kwS k), tx x, tx y])
  | .no c, v => ∃ a x, v = .ref a ∧ H a = some (.tup [.str (Str.ofString "not"), x]) ∧ CdH H c x
  | .two w c d, v => ∃ a x y, v = .ref a ∧ H a = some (.tup [.str (wdS w), x, y]) ∧ CdH H c x ∧ CdH H d y
theorem CdH.keep {H H' : Hp} (k : ∀ a xs, H a = some (.tup xs) → H' a = some (.tup xs)) : ∀ {c : Cnd.Cd} {v : V}, CdH H c v → CdH H' c v
  | .named _, _, ⟨a, e, h⟩ => ⟨a, e, k _ _ h⟩
  | .mat _, _, ⟨a, e, h⟩ => ⟨a, e, k _ _ h⟩
  | .len _ _, _, ⟨a, e, h⟩ => ⟨a, e, k _ _ h⟩
  | .tpl _ _ _ _ _, _, ⟨a, e, h⟩ => ⟨a, e, k _ _ h⟩
  | .no _, _, ⟨a, x, e, h, i⟩ => ⟨a, x, e, k _ _ h, CdH.keep k i⟩
  | .two _ _ _, _, ⟨a, x, y, e, h, i, j⟩ => ⟨a, x, y, e, k _ _ h, CdH.keep k i, CdH.keep k j⟩
theorem CdH.same {H H' : Hp} {c : Cnd.Cd} {v : V} (h : CdH H c v) (s : Same H H') : CdH H' c v := h.keep fun _ _ e => s _ _ e
theorem CdH.go {H H' : Hp} {r : Addr} {c : Cnd.Cd} {v : V} (h : CdH H c v) (R : Rng H r) (g : Go r H H') : CdH H' c v := h.keep fun a xs e => g.1 _ _ (fun z => by
  obtain ⟨ys, er⟩ := R.ex
  rw [z, er] at e
  cases e) e
theorem CdH.ref {H : Hp} : ∀ {c : Cnd.Cd} {v : V}, CdH H c v → ∃ a k xs, v = .ref a ∧ H a = some (.tup (.str k :: xs))
  | .named _, _, ⟨a, e, h⟩ => ⟨a, _, _, e, h⟩
  | .mat _, _, ⟨a, e, h⟩ => ⟨a, _, _, e, h⟩
  | .len _ _, _, ⟨a, e, h⟩ => ⟨a, _, _, e, h⟩
  | .tpl _ _ _ _ _, _, ⟨a, e, h⟩ => ⟨a, _, _, e, h⟩
  | .no _, _, ⟨a, x, e, h, _⟩ => ⟨a, _, _, e, h⟩
  | .two _ _ _, _, ⟨a, x, y, e, h, _⟩ => ⟨a, _, _, e, h⟩
/-- signs that stand in the text of a template -/
theorem row_signs {gs : List Nat} (hg : Good gs) {its : List (List Nat)} (h : Row gs its) : ∀ c ∈ rTx gs its, c ≠ 40 ∧ c ≠ 41 ∧ c ≠ 44 ∧ c < 128 := by
  intro c hc
  have az : ∀ c ∈ gs, c ≠ 40 ∧ c ≠ 41 ∧ c ≠ 44 ∧ c < 128 := fun c hc => by have := hg.az c hc; omega
  unfold rTx at hc
  split at hc
  · rw [List.mem_singleton.mp hc]; decide
  · obtain ⟨l, hl, hcl⟩ := List.mem_flatten.mp hc
    obtain ⟨x, hx, rfl⟩ := List.mem_map.mp hl
    have hxm : ∀ c ∈ x, c ∈ gs := fun c hc => row_mem h x hx c hc
    unfold iTx at hcl
    split at hcl
    · split at hcl
      · simp only [List.mem_cons, List.not_mem_nil, or_false] at hcl
        rcases hcl with rfl | rfl <;> decide
      · simp only [List.mem_append, List.mem_cons, List.not_mem_nil, or_false] at hcl
        rcases hcl with (rfl | h2) | rfl
        · decide
        · exact az c (hxm c h2)
        · decide
    · exact az c (hxm c hcl)
/-- what is asked of the text of a condition: names of one to eight letters, patterns, numbers, texts of templates (a, b; x, y as templates themselves write them) -/
inductive OkS (gs : List Nat) : Cnd.Cd → Prop
  | named {n : List Nat} : 0 < n.length → n.length ≤ 8 → (∀ c ∈ n, 97 ≤ c ∧ c ≤ 122) → OkS gs (.named n)
  | mat {p : List Nat} : Cnd.Pat gs p → p.length ≤ 1000 → OkS gs (.mat p)
  | len {r m : Nat} : r < m → m ≤ 60 → OkS gs (.len r m)
  | tpl {k : Nat} {a b : List Nat} {i j : List (List Nat)} : k ≤ 3 → Row gs i → Row gs j → i.length ≤ 100 → j.length ≤ 100 → Rd gs i a → Rd gs j b → a.length ≤ 1000 → b.length ≤ 1000 → (∀ c ∈ a, c ≠ 40 ∧ c ≠ 41 ∧ c ≠ 44) → (∀ c ∈ b, c ≠ 40 ∧ c ≠ 41 ∧ c ≠ 44) → OkS gs (.tpl k a b (rTx gs i) (rTx gs j))
  | no {c : Cnd.Cd} : OkS gs c → OkS gs (.no c)
  | two {w : Bool} {c d : Cnd.Cd} : OkS gs c → OkS gs d → OkS gs (.two w c d)
/-- the same, as the law writes it -/
inductive OkC (gs : List Nat) : Cnd.Cd → Prop
  | named {n : List Nat} : 0 < n.length → n.length ≤ 8 → (∀ c ∈ n, 97 ≤ c ∧ c ≤ 122) → OkC gs (.named n)
  | mat {p : List Nat} : Cnd.Pat gs p → p.length ≤ 1000 → OkC gs (.mat p)
  | len {r m : Nat} : r < m → m ≤ 60 → OkC gs (.len r m)
  | tpl {k : Nat} {i j : List (List Nat)} : k ≤ 3 → Row gs i → Row gs j → i.length ≤ 100 → j.length ≤ 100 → OkC gs (.tpl k (rTx gs i) (rTx gs j) (rTx gs i) (rTx gs j))
  | no {c : Cnd.Cd} : OkC gs c → OkC gs (.no c)
  | two {w : Bool} {c d : Cnd.Cd} : OkC gs c → OkC gs d → OkC gs (.two w c d)
theorem OkC.src {gs : List Nat} (hg : Good gs) {c : Cnd.Cd} (h : OkC gs c) : OkS gs c := by
  induction h with
  | named a b c => exact .named a b c
  | mat a b => exact .mat a b
  | len a b => exact .len a b
  | tpl hk hi hj li lj => exact .tpl hk hi hj li lj (rd_r hg.lo hi) (rd_r hg.lo hj) (rTx_len hg hi (by omega)) (rTx_len hg hj (by omega)) (fun c hc => ⟨(row_signs hg hi c hc).1, (row_signs hg hi c hc).2.1, (row_signs hg hi c hc).2.2.1⟩) (fun c hc => ⟨(row_signs hg hj c hc).1, (row_signs hg hj c hc).2.1, (row_signs hg hj c hc).2.2.1⟩)
  | no _ ih => exact .no ih
  | two _ _ i j => exact .two i j
/-! ### conditions as data -/
open Cnd in
def cdD : Cd → PyData
  | .named n => .tuple [.str (Str.ofString "named"), .str (S n)]
  | .mat p => .tuple [.str (Str.ofString "match"), .str (S p)]
  | .len r m => .tuple [.str (Str.ofString "length"), .int (r : Nat), .int (m : Nat)]
  | .tpl k _ _ x y => .tuple [.str (kwS k), .str (S x), .str (S y)]
  | .no c => .tuple [.str (Str.ofString "not"), cdD c]
  | .two w a b => .tuple [.str (wdS w), cdD a, cdD b]
theorem dp_cd {K : PySem.W.Frag} {H : Hp} : ∀ {c : Cnd.Cd} {v : V}, CdH H c v → Dp K H v (cdD c)
  | .named n, _, ⟨a, e, h⟩ => by subst e; exact .tup (sqT h) (.cons (.str _) (.cons (.str _) .nil))
  | .mat p, _, ⟨a, e, h⟩ => by subst e; exact .tup (sqT h) (.cons (.str _) (.cons (.str _) .nil))
  | .len r m, _, ⟨a, e, h⟩ => by subst e; exact .tup (sqT h) (.cons (.str _) (.cons (.int _) (.cons (.int _) .nil)))
  | .tpl k _ _ x y, _, ⟨a, e, h⟩ => by subst e; exact .tup (sqT h) (.cons (.str _) (.cons (.str _) (.cons (.str _) .nil)))
  | .no c, _, ⟨a, x, e, h, i⟩ => by subst e; exact .tup (sqT h) (.cons (.str _) (.cons (dp_cd i) .nil))
  | .two w c d, _, ⟨a, x, y, e, h, i, j⟩ => by subst e; exact .tup (sqT h) (.cons (.str _) (.cons (dp_cd i) (.cons (dp_cd j) .nil)))
open Cnd in
/-- all signs are plain -/
def Low : Cd → Prop
  | .named n => ∀ c ∈ n, c < 128
  | .mat p => ∀ c ∈ p, c < 128
  | .len _ _ => True
  | .tpl _ _ _ x y => (∀ c ∈ x, c < 128) ∧ ∀ c ∈ y, c < 128
  | .no c => Low c
  | .two _ a b => Low a ∧ Low b
theorem OkS.low {gs : List Nat} (hg : Good gs) {c : Cnd.Cd} (h : OkS gs c) : Low c := by
  induction h with
  | named _ _ h => exact fun c hc => by have := h c hc; omega
  | mat h _ => exact h.low
  | len _ _ => trivial
  | tpl _ hi hj _ _ _ _ _ _ _ _ => exact ⟨fun c hc => (row_signs hg hi c hc).2.2.2, fun c hc => (row_signs hg hj c hc).2.2.2⟩
  | no _ ih => exact ih
  | two _ _ i j => exact ⟨i, j⟩
theorem lay_kw (k : Nat) : PyData.canLay0 (.str (kwS k)) = true := by
  match k with
  | 0 | 1 | 2 => decide +kernel
  | _ + 3 => exact (by decide +kernel : PyData.canLay0 (.str (Str.ofString "less")) = true)
theorem lay_wd (w : Bool) : PyData.canLay0 (.str (wdS w)) = true := by cases w <;> decide +kernel
theorem lay_cd : ∀ {c : Cnd.Cd}, Low c → PyData.canLay0 (cdD c) = true
  | .named n, h => by show (PyData.canLay0 (.str (Str.ofString "named")) && (PyData.canLay0 (.str (S n)) && true)) = true; rw [lay_str h]; decide +kernel
  | .mat p, h => by show (PyData.canLay0 (.str (Str.ofString "match")) && (PyData.canLay0 (.str (S p)) && true)) = true; rw [lay_str h]; decide +kernel
  | .len r m, _ => by show (PyData.canLay0 (.str (Str.ofString "length")) && (true && (true && true))) = true; decide +kernel
  | .tpl k _ _ x y, ⟨h, i⟩ => by show (PyData.canLay0 (.str (kwS k)) && (PyData.canLay0 (.str (S x)) && (PyData.canLay0 (.str (S y)) && true))) = true; rw [lay_kw, lay_str h, lay_str i]; rfl
  | .no c, h => by
    have h : Low c := h
    show (PyData.canLay0 (.str (Str.ofString "not")) && (PyData.canLay0 (cdD c) && true)) = true; rw [lay_cd h]; decide +kernel
  | .two w a b, h => by
    have h : Low a ∧ Low b := h
    show (PyData.canLay0 (.str (wdS w)) && (PyData.canLay0 (cdD a) && (PyData.canLay0 (cdD b) && true))) = true; rw [lay_wd, lay_cd h.1, lay_cd h.2]; rfl
theorem dep_cd : ∀ (c : Cnd.Cd), PyData.depth (cdD c) ≤ Cnd.dpt c
  | .named _ | .mat _ | .len _ _ | .tpl _ _ _ _ _ => Nat.le_refl _
  | .no c => by
    have := dep_cd c
    show max 0 (max (PyData.depth (cdD c)) 0) + 1 ≤ Cnd.dpt c + 1
    omega
  | .two w a b => by
    have h1 := dep_cd a
    have h2 := dep_cd b
    show max 0 (max (PyData.depth (cdD a)) (max (PyData.depth (cdD b)) 0)) + 1 ≤ max (Cnd.dpt a) (Cnd.dpt b) + 1
    omega
/-! ### what has begun, as it lies -/
def FrV (H : Hp) : Cnd.Fr → V → Prop
  | .no, v => v = .str (Str.ofString "not")
  | .lft _ _, v => v = .str (Str.ofString "(")
  | .rgt w l, v => ∃ a x, v = .ref a ∧ H a = some (.tup [.str (wdS w), x]) ∧ CdH H l x
theorem FrV.keep {H H' : Hp} (k : ∀ a xs, H a = some (.tup xs) → H' a = some (.tup xs)) : ∀ {f : Cnd.Fr} {v : V}, FrV H f v → FrV H' f v
  | .no, _, h => h
  | .lft _ _, _, h => h
  | .rgt _ _, _, ⟨a, x, e, h, i⟩ => ⟨a, x, e, k _ _ h, i.keep k⟩
def FsOk (gs : List Nat) (fs : List Cnd.Fr) : Prop := ∀ f ∈ fs, match f with
  | .no => True
  | .lft _ r => OkS gs r
  | .rgt _ l => OkS gs l
theorem new_ok {gs : List Nat} {c : Cnd.Cd} (h : OkS gs c) : FsOk gs (Cnd.newF c) ∧ OkS gs (Cnd.leafOf c) := by
  induction h with
  | named a b c => exact ⟨fun _ h => (nomatch h), .named a b c⟩
  | mat a b => exact ⟨fun _ h => (nomatch h), .mat a b⟩
  | len a b => exact ⟨fun _ h => (nomatch h), .len a b⟩
  | tpl a b c d e f g h i j k => exact ⟨fun _ h => (nomatch h), .tpl a b c d e f g h i j k⟩
  | no _ ih => exact ⟨fun f hf => (List.mem_cons.mp hf).elim (fun e => by subst e; trivial) (ih.1 f), ih.2⟩
  | two _ hb i _ => exact ⟨fun f hf => (List.mem_cons.mp hf).elim (fun e => by subst e; exact hb) (i.1 f), i.2⟩
end Own

namespace Own
open PySem PySem.Spec PyProof.Rows L2 SX RZ
/-! ### a plain name that takes what a comprehension has made -/
/-- what holds in each frame that a comprehension may run in -/
abbrev InBlk (X : Cx) (scope : Scope) (p : Cx → Prop) : Prop := ∀ (s : Shared) (H : Hp) (C : Addr) (cl : List (Str × Addr)) (fp : List Addr), p (X.blk s H scope (compEnvC scope cl C X.env) fp)
section
variable {X : Cx}
/-- the name takes the new object while the comprehension's frame is still there -/
theorem takes_made {pins : List (Addr × Obj)} {σ : L2.St} {H : Hp} {s : Shared} {i : Nat} {m : Str → Option Value} {y : Str} {py : Pos} {L C : Addr} {D : Ends} (I : Inv X pins σ H s) (hN : X.N.Nodup) (hy : X.N[i]? = some y) (hyl : X.env.scope.names.lookup y = some .local) (hn : s.heap.Ns C m) (hf : FpOk X pins H C)
    (hq : gName i (.ref L) σ H D.nx) : compPost (model X.prog X.w) X.A X.xe (some (assign (.Name y py) X.env)) (fun _ s' => SP X pins D .next s') (.ref L) C (.ok .next) s := by
  show wpAny _ _ (assign (.Name y py) X.env (.ref L)) _ _ _
  have loc : X.env.scope.names.lookup y = some .local ∨ X.env.scope.names.lookup y = some .cell := .inl hyl
  refine wpAny_assign_Name (store_ok2 (v := V.ref L) I hN hy loc rfl (fun s2 I2 ⟨a, sb, ha⟩ => ⟨m, hn.sameBut sb ?_, fun h3 sb3 => ⟨_, H, ?_, hq⟩⟩) (.inr hyl))
  · rcases ha with z | z
    · exact fun e => hf.2.1 (e.trans z)
    · exact fun e => hf.2.2.2.2.1 y a z e.symm
  · exact I2.turned (t' := s2.toks) (fun b o hb e => (sb3.2 b hb).trans e) hf.1 hf.2.1 hf.2.2.2.1 hf.2.2.2.2.1 hf.2.2.2.2.2
theorem sw_trueD {kx vx : Expr} {gs : List Comprehension} {scope : Scope} {pos py : Pos} {y : Str} {l : Nat} {env : Env} (hk : env.scope.kind = .function) (hy : env.scope.names.lookup y = some .local) (hl : (py.line == pos.line) = true)
    (ha : (scope.names.any fun z => z.1 == y && (z.2 == .local || z.2 == .cell)) = false) : swapsWith (.DictComp kx vx gs scope pos) (some (.Name y py)) l env = pure true := by
  have e1 : env.kindOf y = some .local := hy
  have e2 : env.blockKind = .function := by
    show (match env.scope.kind with | k => _) = _
    unfold Env.blockKind at *
    rw [hk]
    rfl
  simp only [swapsWith, e1, e2, Expr.pos, hl, ha]
  rfl
theorem ps_setDc {i : Nat} {y : Str} {py : Pos} {kx vx tg iter : Expr} {ifs : List Expr} {scope : Scope} {own : List (Str × Nat)} {pos spos : Pos} {wi : TI} {g : TG} {tt : TT} {tk tv : TE} (hc : X.calm = true) (hN : X.N.Nodup) (hy : X.N[i]? = some y) (hyl : X.env.scope.names.lookup y = some .local)
    (hsw : swapsWith (.DictComp kx vx [⟨tg, iter, ifs, 0⟩] scope pos) (some (.Name y py)) spos.line X.env = pure true) (hi : PI X tg iter wi) (ok : BlkOk X.N X.env.scope scope own)
    (hg : InBlk X scope fun B => PG B tg g) (ht : InBlk X scope fun B => PTs B ifs tt) (hk : InBlk X scope fun B => PE B kx tk) (he : InBlk X scope fun B => PE B vx tv) (hs : ∀ x, foldedSetIterable iter X.env x = pure x := by intro _; rfl) :
    PS X (.Assign [.Name y py] (.DictComp kx vx [⟨tg, iter, ifs, 0⟩] scope pos) spos) (tAsg (tDc wi g tt tk tv (own.map (·.2))) (gName i)) := by
  refine ⟨fun pins s σ H D I h => ?_⟩
  have made := dc_core (pos := pos) (pos' := firstIterPos [⟨tg, iter, ifs, 0⟩] pos) (use := some (assign (.Name y py) X.env)) (Qf := fun _ s' => SP X pins D .next s') hc hN I hi ok hg ht hk he hs (Q := fun x H1 => gName i x σ H1 D.nx) h
    fun L C s' m H' I' q hn f => takes_made I' hN hy hyl hn f q
  rw [exec_Assign_Name_used _ _ _ _ hsw]
  exact wpAny_bind (wpAny_standAt (wpAny_bind (wpAny_bind (thn made fun _ s' hq => wpAny_pure (wpAny_pure hq)))))
end
/-! ### d.setdefault(k, x), the keys tuples of ints and texts -/
end Own

namespace Own
open PySem PySem.Spec PyProof.Rows L2 SX GenW
/-! ### generators whose consumer changes some objects of its own while they sleep -/
/-- while the generator sleeps, only what stands at cs may change -/
structure Nap (cs : List Addr) (s s' : Shared) : Prop where
  os : s'.os = s.os
  bare : AllBare s'.gens
  keep : ∀ b o, b ∉ cs → s.heap.get? b = some o → s'.heap.get? b = some o
  held : ∀ c ∈ cs, ∃ o, s'.heap.get? c = some o ∧ ∀ v, o.data ≠ .cell v
/-- what the consumer changes is none of the generator's -/
structure Far (X : Cx) (cs : List Addr) (ip : List (Addr × Obj)) : Prop where
  young : ∀ c ∈ cs, X.s_0.heap.objs.size ≤ c
  cell : ∀ c ∈ cs, ∀ x d, X.env.cells.lookup x = some d → d ≠ c
  pins : ∀ p ∈ X.pn ++ ip, p.1 ∉ cs
/-- the generator runs: the consumer's objects stand as they stood when it was woken, at s₀ -/
def Run (X : Cx) (cs : List Addr) (ip : List (Addr × Obj)) (σ : L2.St) (H : Hp) (s₀ s : Shared) : Prop := ∃ cp : List (Addr × Obj), cp.map (·.1) = cs ∧ (∀ p ∈ cp, s₀.heap.get? p.1 = some p.2) ∧ Inv X (cp ++ ip) σ H s
section
variable {X : Cx} {cs : List Addr} {ip : List (Addr × Obj)} {σ : L2.St} {H : Hp} {s₀ s s' : Shared}
theorem Run.off (r : Run X cs ip σ H s₀ s) : ∀ c ∈ cs, H c = none ∧ c ≠ X.env.locals ∧ c ∉ X.fs ∧ ∃ o, s₀.heap.get? c = some o ∧ s.heap.get? c = some o := fun c hc => by
  obtain ⟨cp, e, e0, I⟩ := r
  rw [← e] at hc
  obtain ⟨p, hp, rfl⟩ := List.mem_map.mp hc
  obtain ⟨h1, h2, h3, h4, _⟩ := I.pin p (List.mem_append_right _ (List.mem_append_left _ hp))
  exact ⟨h2, h3, h4, p.2, e0 p hp, h1⟩
theorem Run.inv (r : Run X cs ip σ H s₀ s) : Inv X ip σ H s := by
  obtain ⟨cp, _, _, I⟩ := r
  exact I.pins_of fun p hp => I.pin p (List.mem_append_right _ (List.mem_append_right _ hp))
theorem Run.woken (F : Far X cs ip) (r : Run X cs ip σ H s₀ s) (z : Nap cs s s') : Run X cs ip σ H s' s' := by
  have off := r.off
  have I := r.inv
  obtain ⟨hh, g, d, t, o⟩ := s'
  have ho : o = s.os := z.os
  subst ho
  have J : Inv X ip σ H { s with heap := hh, gens := g, drawn := d, toks := t } := by
    refine I.step (g' := g) (t' := t) (d' := d) (ch := cs) (fun c hc => ⟨.inr (F.young c hc), (off c hc).2.1, F.cell c hc, fun p hp e => F.pins p hp (e ▸ hc)⟩)
      (fun b ob _ _ hc q _ => z.keep b ob hc q) (fun b ob _ _ hc q _ => ⟨ob.slots, z.keep b ob hc q⟩) (fun _ _ _ _ n => n) (fun b ob hc q => ⟨ob, z.keep b ob hc q⟩)
      (fun _ _ q => q) (fun _ _ _ q => q) (fun b ps q => ⟨#[], by rw [q]; simp⟩) (fun m hm => ?_) (fun b u q => ?_) z.bare
    · obtain ⟨ob, es, ep, ho, r⟩ := hm
      exact ⟨ob, es, ep, z.keep _ ob (fun hc => (off _ hc).2.1 rfl) ho, r⟩
    · refine (I.hok b u q).stay (fun c v hc y => z.keep c v (fun hm => ?_) y) (fun _ y => y) fun _ _ y => y
      have e := (off c hm).1
      rcases hc with y | y
      · rw [y, q] at e; cases e
      · rw [e] at y; cases y
  refine ⟨cs.map fun c => (c, (hh.get? c).getD { cls := .none, data := .fields #[] }), by rw [List.map_map]; exact List.map_id _, fun p hp => ?_, J.pins_of fun p hp => ?_⟩
  · obtain ⟨c, hc, rfl⟩ := List.mem_map.mp hp
    obtain ⟨ob, e, _⟩ := z.held c hc
    have e' : hh.get? c = some ob := e
    show hh.get? c = some ((hh.get? c).getD _)
    rw [e']; rfl
  rcases List.mem_append.mp hp with hp | hp
  · obtain ⟨c, hc, rfl⟩ := List.mem_map.mp hp
    obtain ⟨ob, e, nd⟩ := z.held c hc
    have e' : hh.get? c = some ob := e
    obtain ⟨h1, h2, h3, _⟩ := off c hc
    refine ⟨?_, h1, h2, h3, ?_⟩
    · show hh.get? c = some ((hh.get? c).getD _)
      rw [e']; rfl
    · show ∀ v, ((hh.get? c).getD _).data ≠ .cell v
      rw [e']; exact nd
  · exact J.pin p (List.mem_append_right _ hp)
end
/-- what is wanted behind a statement of a generator, by the number of items that are out -/
structure EndsK where
  nx : Nat → L2.St → Hp → Prop
  rt : Nat → VK
  bk : Nat → L2.St → Hp → Prop := fun _ _ _ => False
  ct : Nat → L2.St → Hp → Prop := fun _ _ _ => False
def EndsK.at (D : EndsK) (k : Nat) : Ends := { nx := D.nx k, rt := D.rt k, bk := D.bk k, ct := D.ct k }
/-- where the code stands, and what follows a statement -/
structure Spot (X : Cx) (cs : List Addr) (ip : List (Addr × Obj)) (A : Around) (c : Code) (fs : List Frame) (gd : Bool → Bool) : Prop where
  far : Far X cs ip
  over : A.over c fs = X.A
  split : splitAtGen fs = none
  guard : fs.any Frame.guarded = false
  gd : gd false = false
section
variable {X : Cx} {out : List V} {st : Stmt} {rest : List Stmt}
end
end Own

namespace Own
open PySem PySem.Spec PyProof.Rows L2 SX GenW
/-! ### a run that does not wake some generators does the same whatever they are -/
/-- a frame that only looks like another -/
def dumF (f : Frame) : Frame := .ret (fun _ => .unsupported "asleep") none f.guarded [] f.where_.1 f.where_.2 []
/-- a generator that only looks like another: it cannot be woken -/
def pz : GenState → GenState
  | .suspended _ l c p fs cl => .suspended (fun _ => .unsupported "asleep") l c p (fs.map dumF) cl
  | x => x
def Sus : GenState → Prop
  | .suspended _ _ _ _ _ _ => True
  | _ => False
theorem seen_pz (x : GenState) : (pz x).seen = x.seen := by
  cases x with
  | suspended k l c p fs cl =>
    have e : (fs.map dumF).map Frame.where_ = fs.map Frame.where_ := by
      rw [List.map_map]
      exact List.map_congr_left fun f _ => rfl
    show (GenStatus.suspended, some ((c, p) :: (fs.map dumF).map Frame.where_)) = (GenStatus.suspended, some ((c, p) :: fs.map Frame.where_))
    rw [e]
  | _ => rfl
/-- the table g, and the table G in which the generators told by O stand in the place of those that only look like them -/
def RelG (O : Nat → Option GenState) (g G : Array GenState) : Prop := G.size = g.size ∧ ∀ i, (∀ x, O i = some x → Sus x ∧ g[i]? = some (pz x) ∧ G[i]? = some x) ∧ (O i = none → G[i]? = g[i]?)
/-- no generator that sleeps has another one under it -/
def CleanG (g : Array GenState) : Prop := ∀ (i : Nat) k l c p fs cl, g[i]? = some (.suspended k l c p fs cl) → splitAtGen fs = none
def CleanE : End → Prop
  | .ret _ => True
  | .susp _ _ _ _ _ _ fs => splitAtGen fs = none
theorem split_ret {k h g l c p kp} {fs : List Frame} (e : splitAtGen (.ret k h g l c p kp :: fs) = none) : splitAtGen fs = none := by
  have e : (splitAtGen fs).map _ = none := e
  exact Option.map_eq_none_iff.mp e
theorem split_app : ∀ {a b : List Frame}, splitAtGen a = none → splitAtGen b = none → splitAtGen (a ++ b) = none
  | [], b, _, h => h
  | .gen _ _ _ _ _ :: a, b, h, _ => by cases h
  | .ret k hd g l c p kp :: a, b, h, hb => by
    show (splitAtGen (a ++ b)).map _ = none
    rw [split_app (split_ret h) hb]; rfl
theorem no_asleep {M : Model} {Γ : PySem.Ctx} {p : Pos} {w : String} {t : Sem PySem.Fin} {fs : List Frame} {s s' : Shared} {e : End} (h : Runs M Γ p t fs s e s') : t ≠ .unsupported w := by
  induction h with
  | segRet _ _ ih _ => exact ih
  | segGen _ _ ih _ => exact ih
  | segSuspOut _ _ ih => exact ih
  | segSuspGen _ _ _ _ ih _ => exact ih
  | _ => intro z; cases z
section
variable {O : Nat → Option GenState} {g G : Array GenState}
theorem RelG.at_none (r : RelG O g G) {i : Nat} {x : GenState} (e : g[i]? = some x) (n : ∀ y, O i = some y → False) : O i = none ∧ G[i]? = some x := by
  have z : O i = none := by
    cases q : O i with
    | none => rfl
    | some y => exact (n y q).elim
  exact ⟨z, by rw [(r.2 i).2 z]; exact e⟩
theorem RelG.set (r : RelG O g G) {i : Nat} {x : GenState} (z : O i = none) : RelG O (g.setIfInBounds i x) (G.setIfInBounds i x) := by
  refine ⟨by rw [Array.size_setIfInBounds, Array.size_setIfInBounds, r.1], fun j => ?_⟩
  by_cases hj : i = j
  · subst hj
    refine ⟨fun y hy => (by rw [z] at hy; cases hy), fun _ => ?_⟩
    rw [Array.getElem?_setIfInBounds_self, Array.getElem?_setIfInBounds_self, r.1]
  · rw [Array.getElem?_setIfInBounds_ne hj, Array.getElem?_setIfInBounds_ne hj]
    exact r.2 j
theorem RelG.push (r : RelG O g G) {x : GenState} : RelG O (g.push x) (G.push x) := by
  refine ⟨by rw [Array.size_push, Array.size_push, r.1], fun j => ⟨fun y hy => ?_, fun hn => ?_⟩⟩
  · obtain ⟨a, b, c⟩ := (r.2 j).1 y hy
    have l1 := (Array.getElem?_eq_some_iff.mp b).1
    have l2 := (Array.getElem?_eq_some_iff.mp c).1
    refine ⟨a, ?_, ?_⟩
    · rw [Array.getElem?_push_lt l1, ← b, Array.getElem?_eq_getElem l1]
    · rw [Array.getElem?_push_lt l2, ← c, Array.getElem?_eq_getElem l2]
  · rw [Array.getElem?_push, Array.getElem?_push, r.1, (r.2 j).2 hn]
theorem CleanG.set (c : CleanG g) {i : Nat} {x : GenState} (hx : ∀ k l d p fs cl, x = .suspended k l d p fs cl → splitAtGen fs = none) : CleanG (g.setIfInBounds i x) := fun j k l d p fs cl e => by
  by_cases hj : i = j
  · subst hj
    rw [Array.getElem?_setIfInBounds_self] at e
    split at e
    · exact hx k l d p fs cl (Option.some.inj e)
    · cases e
  · rw [Array.getElem?_setIfInBounds_ne hj] at e
    exact c j k l d p fs cl e
theorem CleanG.push (c : CleanG g) {d : Code} : CleanG (g.push (.fresh d)) := fun j k l d p fs cl e => by
  rw [Array.getElem?_push] at e
  split at e
  · cases e
  · exact c j k l d p fs cl e
end
theorem cleanE_state {e : End} (h : CleanE e) : ∀ k l d p fs cl, e.genState = .suspended k l d p fs cl → splitAtGen fs = none := by
  intro k l d p fs cl q
  cases e with
  | ret r => cases q
  | susp v g l' k' c' p' fs' => cases q; exact h
theorem runs_sim {M : Model} {O : Nat → Option GenState} {Γ : PySem.Ctx} {p : Pos} {t : Sem PySem.Fin} {fs : List Frame} {s s' : Shared} {e : End} (h : Runs M Γ p t fs s e s') :
    CleanG s.gens → splitAtGen fs = none → ∀ G, RelG O s.gens G → CleanG s'.gens ∧ CleanE e ∧ ∃ G', RelG O s'.gens G' ∧ Runs M Γ p t fs { s with gens := G } e { s' with gens := G' } := by
  induction h with
  | done => intro c _ G r; exact ⟨c, True.intro, G, r, .done⟩
  | raise => intro c _ G r; exact ⟨c, True.intro, G, r, .raise⟩
  | again hq _ ih => intro c f G r; obtain ⟨a, b, G', r', q⟩ := ih c f G r; exact ⟨a, b, G', r', .again hq q⟩
  | rule _ ih => intro c f G r; obtain ⟨a, b, G', r', q⟩ := ih c f G r; exact ⟨a, b, G', r', .rule q⟩
  | «at» _ ih => intro c f G r; obtain ⟨a, b, G', r', q⟩ := ih c f G r; exact ⟨a, b, G', r', .at q⟩
  | load ho _ ih => intro c f G r; obtain ⟨a, b, G', r', q⟩ := ih c f G r; exact ⟨a, b, G', r', .load ho q⟩
  | update ho _ ih => intro c f G r; obtain ⟨a, b, G', r', q⟩ := ih c f G r; exact ⟨a, b, G', r', .update ho q⟩
  | loadIfAlive _ ih => intro c f G r; obtain ⟨a, b, G', r', q⟩ := ih c f G r; exact ⟨a, b, G', r', .loadIfAlive q⟩
  | point _ ih => intro c f G r; obtain ⟨a, b, G', r', q⟩ := ih c f G r; exact ⟨a, b, G', r', .point q⟩
  | alloc _ ih => intro c f G r; obtain ⟨a, b, G', r', q⟩ := ih c f G r; exact ⟨a, b, G', r', .alloc q⟩
  | fresh _ ih => intro c f G r; obtain ⟨a, b, G', r', q⟩ := ih c f G r; exact ⟨a, b, G', r', .fresh q⟩
  | ask _ ih => intro c f G r; obtain ⟨a, b, G', r', q⟩ := ih c f G r; exact ⟨a, b, G', r', .ask q⟩
  | choose hn _ ih => intro c f G r; obtain ⟨a, b, G', r', q⟩ := ih c f G r; exact ⟨a, b, G', r', .choose hn q⟩
  | os _ ih => intro c f G r; obtain ⟨a, b, G', r', q⟩ := ih c f G r; exact ⟨a, b, G', r', .os q⟩
  | handled _ ih => intro c f G r; obtain ⟨a, b, G', r', q⟩ := ih c f G r; exact ⟨a, b, G', r', .handled q⟩
  | stack _ ih => intro c f G r; obtain ⟨a, b, G', r', q⟩ := ih c f G r; exact ⟨a, b, G', r', .stack q⟩
  | thread _ ih => intro c f G r; obtain ⟨a, b, G', r', q⟩ := ih c f G r; exact ⟨a, b, G', r', .thread q⟩
  | @genState i st Γ p k s e s' hst _ ih =>
    intro c f G r
    obtain ⟨a, b, G', r', q⟩ := ih c f G r
    cases z : O i with
    | none => exact ⟨a, b, G', r', .genState (s := { s with gens := G }) (((r.2 i).2 z).trans hst) q⟩
    | some x =>
      obtain ⟨_, h1, h2⟩ := (r.2 i).1 x z
      rw [hst] at h1
      have h1 := Option.some.inj h1
      subst h1
      rw [seen_pz] at q
      exact ⟨a, b, G', r', .genState (s := { s with gens := G }) h2 q⟩
  | newGen _ ih =>
    intro c f G r
    obtain ⟨a, b, G', r', q⟩ := ih c.push f _ r.push
    refine ⟨a, b, G', r', .newGen ?_⟩
    rw [← r.1] at q
    exact q
  | call _ _ ih1 ih2 =>
    intro c f G r
    obtain ⟨a, b, G', r', q⟩ := ih1 c rfl G r
    obtain ⟨a2, b2, G2, r2, q2⟩ := ih2 a rfl G' r'
    exact ⟨a2, b2, G2, r2, .call q q2⟩
  | callSusp _ ih =>
    intro c f G r
    obtain ⟨a, b, G', r', q⟩ := ih c rfl G r
    exact ⟨a, split_app b rfl, G', r', .callSusp q⟩
  | yield => intro c _ G r; exact ⟨c, rfl, G, r, .yield⟩
  | @resumeFresh Γ p i l k s d e₁ s₁ e s' hst _ hq _ ih1 ih2 =>
    intro c f G r
    obtain ⟨z, hG⟩ := r.at_none hst fun y hy => by
      obtain ⟨h0, h1, _⟩ := (r.2 i).1 y hy
      rw [hst] at h1
      cases y with
      | suspended => cases h1
      | _ => exact h0.elim
    obtain ⟨a, b, G', r', q⟩ := ih1 (c.set fun _ _ _ _ _ _ w => nomatch w) rfl (G.setIfInBounds i .running) (r.set z)
    obtain ⟨a2, b2, G2, r2, q2⟩ := ih2 (a.set (cleanE_state b)) rfl (G'.setIfInBounds i e₁.genState) (r'.set z)
    exact ⟨a2, b2, G2, r2, .resumeFresh (s := { s with gens := G }) hG q hq q2⟩
  | @resumeSuspended Γ p i w l k s k₀ l₀ c₀ p₀ fs cl e₁ s₁ e s' hst h1 hq _ ih1 ih2 =>
    intro c f G r
    obtain ⟨z, hG⟩ := r.at_none hst fun y hy => by
      obtain ⟨h0, h2, _⟩ := (r.2 i).1 y hy
      rw [hst] at h2
      cases y with
      | suspended _ _ _ _ _ _ =>
        have h2 := Option.some.inj h2
        injection h2 with h3 _ _ _ _ _
        rw [h3] at h1
        exact no_asleep h1 rfl
      | _ => exact h0.elim
    obtain ⟨a, b, G', r', q⟩ := ih1 (c.set fun _ _ _ _ _ _ w => nomatch w) (c i _ _ _ _ _ _ hst) (G.setIfInBounds i .running) (r.set z)
    obtain ⟨a2, b2, G2, r2, q2⟩ := ih2 (a.set (cleanE_state b)) rfl (G'.setIfInBounds i e₁.genState) (r'.set z)
    exact ⟨a2, b2, G2, r2, .resumeSuspended (s := { s with gens := G }) hG q hq q2⟩
  | @resumeJustStarted i v Γ p k s e s' l d hst hv _ ih =>
    intro c f G r
    obtain ⟨z, hG⟩ := r.at_none hst fun y hy => by
      obtain ⟨h0, h1, _⟩ := (r.2 i).1 y hy
      rw [hst] at h1
      cases y with
      | suspended => cases h1
      | _ => exact h0.elim
    obtain ⟨a, b, G', r', q⟩ := ih c f G r
    exact ⟨a, b, G', r', .resumeJustStarted (s := { s with gens := G }) hG hv q⟩
  | @resumeThrowFresh i Γ p k e s' x l s d hst _ ih =>
    intro c f G r
    obtain ⟨z, hG⟩ := r.at_none hst fun y hy => by
      obtain ⟨h0, h1, _⟩ := (r.2 i).1 y hy
      rw [hst] at h1
      cases y with
      | suspended => cases h1
      | _ => exact h0.elim
    obtain ⟨a, b, G', r', q⟩ := ih (c.set fun _ _ _ _ _ _ w => nomatch w) rfl (G.setIfInBounds i .finished) (r.set z)
    exact ⟨a, b, G', r', .resumeThrowFresh (s := { s with gens := G }) hG q⟩
  | @resumeRunning i Γ p k s e s' w l hst _ ih =>
    intro c f G r
    obtain ⟨z, hG⟩ := r.at_none hst fun y hy => by
      obtain ⟨h0, h1, _⟩ := (r.2 i).1 y hy
      rw [hst] at h1
      cases y with
      | suspended => cases h1
      | _ => exact h0.elim
    obtain ⟨a, b, G', r', q⟩ := ih c f G r
    exact ⟨a, b, G', r', .resumeRunning (s := { s with gens := G }) hG q⟩
  | @resumeFinished i Γ p k s e s' w l hst _ ih =>
    intro c f G r
    obtain ⟨z, hG⟩ := r.at_none hst fun y hy => by
      obtain ⟨h0, h1, _⟩ := (r.2 i).1 y hy
      rw [hst] at h1
      cases y with
      | suspended => cases h1
      | _ => exact h0.elim
    obtain ⟨a, b, G', r', q⟩ := ih c f G r
    exact ⟨a, b, G', r', .resumeFinished (s := { s with gens := G }) hG q⟩
  | segRet _ _ ih1 ih2 =>
    intro c f G r
    obtain ⟨a, b, G', r', q⟩ := ih1 c rfl G r
    obtain ⟨a2, b2, G2, r2, q2⟩ := ih2 a (split_ret f) G' r'
    exact ⟨a2, b2, G2, r2, .segRet q q2⟩
  | segGen _ _ _ _ => intro c f G r; cases f
  | segSuspOut hs _ ih =>
    intro c f G r
    obtain ⟨a, b, G', r', q⟩ := ih c rfl G r
    exact ⟨a, split_app b f, G', r', .segSuspOut hs q⟩
  | segSuspGen hs _ _ _ _ _ => intro c f G r; rw [f] at hs; cases hs

/-- t is s with its generators in the place of those that only look like them -/
def Sim (O : Nat → Option GenState) (s t : Shared) : Prop := CleanG s.gens ∧ RelG O s.gens t.gens ∧ t = { s with gens := t.gens }
theorem Sim.at {O : Nat → Option GenState} {s : Shared} {G : Array GenState} (c : CleanG s.gens) (r : RelG O s.gens G) : Sim O s { s with gens := G } := ⟨c, r, rfl⟩
theorem wakes_sim {M : Model} {O : Nat → Option GenState} {Γ : PySem.Ctx} {p : Pos} {i : Nat} {w : Resume} {s s' t : Shared} {res : GenResult} (S : Sim O s t) (h : Wakes M Γ p i w s res s') : ∃ t', Sim O s' t' ∧ Wakes M Γ p i w t res t' := by
  obtain ⟨c, r, e⟩ := S
  generalize t.gens = G at r e
  subst e
  unfold Wakes at h
  split at h
  · exact h.elim
  · rename_i d hst
    obtain ⟨z, hG⟩ := r.at_none hst fun y hy => by
      obtain ⟨h0, h1, _⟩ := (r.2 i).1 y hy
      rw [hst] at h1
      cases y with
      | suspended => cases h1
      | _ => exact h0.elim
    split at h
    · obtain ⟨e₁, s₁, hr, hq, rfl, rfl⟩ := h
      obtain ⟨a, b, G', r', q⟩ := runs_sim hr (c.set fun _ _ _ _ _ _ w => nomatch w) rfl (G.setIfInBounds i .running) (r.set z)
      refine ⟨_, .at (a.set (cleanE_state b)) (r'.set z), ?_⟩
      unfold Wakes
      show match G[i]? with | _ => _
      rw [hG]
      exact ⟨e₁, _, q, hq, rfl, rfl⟩
    · obtain ⟨rfl, rfl⟩ := h
      refine ⟨_, .at c r, ?_⟩
      unfold Wakes
      show match G[i]? with | _ => _
      rw [hG]
      rename_i v hv
      cases v with
      | none => exact (hv rfl).elim
      | _ => exact ⟨rfl, rfl⟩
    · obtain ⟨rfl, rfl⟩ := h
      refine ⟨_, .at (c.set fun _ _ _ _ _ _ w => nomatch w) (r.set z), ?_⟩
      unfold Wakes
      show match G[i]? with | _ => _
      rw [hG]
      exact ⟨rfl, rfl⟩
  · rename_i k₀ l₀ c₀ p₀ fs cl hst
    obtain ⟨e₁, s₁, hr, hq, rfl, rfl⟩ := h
    obtain ⟨z, hG⟩ := r.at_none hst fun y hy => by
      obtain ⟨h0, h2, _⟩ := (r.2 i).1 y hy
      rw [hst] at h2
      cases y with
      | suspended _ _ _ _ _ _ =>
        have h2 := Option.some.inj h2
        injection h2 with h3 _ _ _ _ _
        rw [h3] at hr
        exact no_asleep hr rfl
      | _ => exact h0.elim
    obtain ⟨a, b, G', r', q⟩ := runs_sim hr (c.set fun _ _ _ _ _ _ w => nomatch w) (c i _ _ _ _ _ _ hst) (G.setIfInBounds i .running) (r.set z)
    refine ⟨_, .at (a.set (cleanE_state b)) (r'.set z), ?_⟩
    unfold Wakes
    show match G[i]? with | _ => _
    rw [hG]
    exact ⟨e₁, _, q, hq, rfl, rfl⟩
  · rename_i hst
    obtain ⟨rfl, rfl⟩ := h
    obtain ⟨z, hG⟩ := r.at_none hst fun y hy => by
      obtain ⟨h0, h1, _⟩ := (r.2 i).1 y hy
      rw [hst] at h1
      cases y with
      | suspended => cases h1
      | _ => exact h0.elim
    refine ⟨_, .at c r, ?_⟩
    unfold Wakes
    show match G[i]? with | _ => _
    rw [hG]
    exact ⟨rfl, rfl⟩
  · rename_i hst
    obtain ⟨rfl, rfl⟩ := h
    obtain ⟨z, hG⟩ := r.at_none hst fun y hy => by
      obtain ⟨h0, h1, _⟩ := (r.2 i).1 y hy
      rw [hst] at h1
      cases y with
      | suspended => cases h1
      | _ => exact h0.elim
    refine ⟨_, .at c r, ?_⟩
    unfold Wakes
    show match G[i]? with | _ => _
    rw [hG]
    exact ⟨rfl, rfl⟩
theorem wp_sim {α : Type} {M : Model} {O : Nat → Option GenState} {Γ : PySem.Ctx} (x : Sem α) : ∀ (Q : α → Pos → Shared → Prop) (E : Value → Pos → Shared → Prop) (p : Pos) (s t : Shared), Sim O s t → Sem.wp M Γ x Q E p s →
    Sem.wp M Γ x (fun a p' t' => ∃ s', Sim O s' t' ∧ Q a p' s') (fun e p' t' => ∃ s', Sim O s' t' ∧ E e p' s') p t := by
  induction x with
  | pure a => intro Q E p s t S h; exact ⟨s, S, h⟩
  | raise e => intro Q E p s t S h; exact ⟨s, S, h⟩
  | unsupported _ => intro Q E p s t _ h; exact h
  | finish _ => intro Q E p s t _ h; exact h
  | register _ _ => intro Q E p s t _ h; exact h
  | yield _ _ _ _ => intro Q E p s t _ h; exact h
  | fork _ _ => intro Q E p s t _ h; exact h
  | await _ _ _ _ _ => intro Q E p s t _ h; exact h
  | rule _ k ih => intro Q E p s t S h; exact ih () Q E p s t S h
  | «at» p' k ih => intro Q E p s t S h; exact ih () Q E p' s t S h
  | point _ k ih => intro Q E p s t S h; exact ih () Q E p s t S h
  | ask k ih => intro Q E p s t S h; exact ih _ Q E p s t S h
  | handled own k ih => intro Q E p s t S h; exact ih _ Q E p s t S h
  | stack k ih => intro Q E p s t S h; exact ih _ Q E p s t S h
  | thread k ih => intro Q E p s t S h; exact ih _ Q E p s t S h
  | load a _ k ih => intro Q E p s t S h; obtain ⟨o, ho, h⟩ := h; exact ⟨o, by rw [S.2.2]; exact ho, ih o Q E p s t S h⟩
  | loadIfAlive a k ih =>
    intro Q E p s t S h
    have e : t.heap.get? a = s.heap.get? a := by rw [S.2.2]
    show Sem.wp M Γ (k (t.heap.get? a)) _ _ p t
    rw [e]
    exact ih _ Q E p s t S h
  | update a _ f k ih =>
    intro Q E p s t S h
    obtain ⟨c, r, e⟩ := S
    generalize t.gens = G at r e
    subst e
    exact ⟨h.1, ih () Q E p _ _ (Sim.at (s := { s with heap := s.heap.update a f }) c r) h.2⟩
  | alloc o k ih =>
    intro Q E p s t S h
    obtain ⟨c, r, e⟩ := S
    generalize t.gens = G at r e
    subst e
    exact ih _ Q E p _ _ (Sim.at (s := { s with heap := s.heap.push o }) c r) h
  | fresh k ih =>
    intro Q E p s t S h
    obtain ⟨c, r, e⟩ := S
    generalize t.gens = G at r e
    subst e
    exact ih _ Q E p _ _ (Sim.at (s := { s with toks := s.toks + 1 }) c r) h
  | choose src m k ih =>
    intro Q E p s t S h
    obtain ⟨c, r, e⟩ := S
    generalize t.gens = G at r e
    subst e
    exact ⟨h.1, ih _ Q E p _ _ (Sim.at (s := { s with drawn := s.drawn.bump src }) c r) h.2⟩
  | os q _ k ih =>
    intro Q E p s t S h
    obtain ⟨c, r, e⟩ := S
    generalize t.gens = G at r e
    subst e
    exact ih _ Q E p _ _ (Sim.at (s := { s with os := (Os.step s.os q).1 }) c r) h
  | call d hd _ _ k ih =>
    intro Q E p s t S h
    obtain ⟨y, s', hr, h⟩ := h
    obtain ⟨c, r, e⟩ := S
    obtain ⟨a, b, G', r', q⟩ := runs_sim hr c rfl t.gens r
    rw [← e] at q
    exact ⟨y, _, q, ih y Q E p s' _ (Sim.at a r') h⟩
  | genState g k ih =>
    intro Q E p s t S h
    obtain ⟨st, hs, h⟩ := h
    obtain ⟨c, r, e⟩ := id S
    cases z : O g with
    | none => exact ⟨st, ((r.2 g).2 z).trans hs, ih _ Q E p s t S h⟩
    | some x =>
      obtain ⟨_, h1, h2⟩ := (r.2 g).1 x z
      rw [hs] at h1
      have h1 := Option.some.inj h1
      subst h1
      rw [seen_pz] at h
      exact ⟨x, h2, ih _ Q E p s t S h⟩
  | newGen d k ih =>
    intro Q E p s t S h
    obtain ⟨c, r, e⟩ := S
    generalize t.gens = G at r e
    subst e
    show Sem.wp M Γ (k G.size) _ _ p { s with gens := G.push (.fresh d) }
    rw [r.1]
    exact ih _ Q E p { s with gens := s.gens.push (.fresh d) } { s with gens := G.push (.fresh d) } ⟨c.push, r.push, rfl⟩ h
  | resume g w _ k ih =>
    intro Q E p s t S h
    obtain ⟨res, s', hw, h⟩ := h
    obtain ⟨t', S', hw'⟩ := wakes_sim S hw
    exact ⟨res, t', hw', ih res Q E p s' t' S' h⟩
section
variable {α : Type} {M : Model} {A : Around} {O : Nat → Option GenState} {s t : Shared} {x : Sem α} {Q : α → Shared → Prop} {E : Value → Shared → Prop}
theorem wpAny_sim (S : Sim O s t) (h : wpAny M A x Q E s) : wpAny M A x (fun a t' => ∃ s', Sim O s' t' ∧ Q a s') (fun e t' => ∃ s', Sim O s' t' ∧ E e s') t :=
  fun Γ p hΓ => wp_sim x _ _ p s t S (h Γ p hΓ)
theorem sim_same (c : CleanG s.gens) : Sim (fun _ => none) s s := ⟨c, ⟨rfl, fun i => ⟨fun y h => (nomatch h), fun _ => rfl⟩⟩, rfl⟩
theorem Sim.eq (S : Sim (fun _ => none) s t) : t = s := by
  obtain ⟨c, r, e⟩ := S
  have : t.gens = s.gens := Array.ext_getElem? fun i => (r.2 i).2 rfl
  rw [e, this]
theorem wpAny_clean (c : CleanG s.gens) (h : wpAny M A x Q E s) : wpAny M A x (fun a s' => CleanG s'.gens ∧ Q a s') (fun e s' => CleanG s'.gens ∧ E e s') s :=
  wpAny_mono (wpAny_sim (sim_same c) h) (fun _ _ ⟨s', S, q⟩ => by rw [S.eq]; exact ⟨S.1, q⟩) fun _ _ ⟨s', S, q⟩ => by rw [S.eq]; exact ⟨S.1, q⟩
end
end Own

namespace Own
open PySem PySem.Spec PyProof.Rows L2 SX GenW
/-! ### loops in generators -/
section
variable {prog : Program} {w : World} {A : Around} {R : GenEnd} {Y : Protocol} {n : Nat} {s₀ s : Shared} {fs : List Frame} {env : Env}
end
/-- the frame under a loop's code -/
abbrev back (env : Env) (x : Value) : Sem Unit := do
  if (← field x 1) == Value.none then unsupported "frame.own-activation:exception-without-traceback"
  setFlight x env.frame
abbrev under (env : Env) (K : Flow → Sem PySem.Fin) (J : Value → Sem PySem.Fin) (gd : Bool → Bool) (lv : List Value → List Value) : Result → Sem PySem.Fin :=
  fun r => ((match r with | .ok f => (.pure f : Sem Flow) | .error e => .raise e).onRaise (back env)).wrap K J gd lv
abbrev loopF (env : Env) (K : Flow → Sem PySem.Fin) (J : Value → Sem PySem.Fin) (gd : Bool → Bool) (lv : List Value → List Value) (c : Code) (p : Pos) : Frame := .ret (under env K J gd lv) none (gd false) (lv []) c p []
section
variable {X : Cx} {cs : List Addr} {ip : List (Addr × Obj)} {out : List V} {A : Around} {R : GenEnd} {c : Code} {fs : List Frame} {K : Flow → Sem PySem.Fin} {J : Value → Sem PySem.Fin} {gd : Bool → Bool} {lv : List Value → List Value} {D : EndsK} {n k : Nat} {s₀ s : Shared}
theorem Spot.loop {c' : Code} {p : Pos} (g : Spot X cs ip A c fs gd) (hw : c'.weight = 0) (hu : c'.cUnits = 0) : Spot X cs ip A c' (loopF X.env K J gd lv c p :: fs) id where
  far := g.far
  over := (over_loop hw hu).trans g.over
  split := by
    show Option.map _ (splitAtGen fs) = none
    rw [g.split]; rfl
  guard := by
    show (gd false || _) = false
    rw [g.gd, Bool.false_or]
    exact g.guard
  gd := rfl
end
end Own

namespace Own
open PySem PySem.Spec PyProof.Rows L2 SX GenW
/-! ### a generator def by its body: what it hands out is known beforehand -/
section
variable {P : Program} {w : World} {K : PySem.W.Frag} {mg : Str → Option Value} {base : Heap}
end
end Own

namespace Own
open PySem PySem.Spec PyProof.Rows L2 SX GenW
/-! ### what is gone stays gone; heaps cut off -/
/-- nothing comes back -/
def Onw (h h' : Heap) : Prop := h.objs.size ≤ h'.objs.size ∧ ∀ b, b < h.objs.size → h.get? b = none → h'.get? b = none
theorem Onw.refl {h : Heap} : Onw h h := ⟨Nat.le_refl _, fun _ _ e => e⟩
theorem Onw.trans {a b c : Heap} (x : Onw a b) (y : Onw b c) : Onw a c := ⟨Nat.le_trans x.1 y.1, fun d hd e => y.2 d (Nat.lt_of_lt_of_le hd x.1) (x.2 d hd e)⟩
theorem onw_push {h : Heap} {o : Obj} : Onw h (h.push o) := by
  refine ⟨by rw [Heap.size_push]; exact Nat.le_succ _, fun b hb e => ?_⟩
  have q : (h.push o).objs[b]? = h.objs[b]? := by
    cases h
    show (Array.push _ o)[b]? = _
    rw [Array.getElem?_push_lt hb, Array.getElem?_eq_getElem hb]
  unfold Heap.get? at e ⊢
  rw [q]; exact e
theorem onw_update {h : Heap} {a : Addr} {f : Obj → Obj} (ha : (h.get? a).isSome) : Onw h (h.update a f) := by
  refine ⟨by rw [Heap.size_update]; exact Nat.le_refl _, fun b hb e => ?_⟩
  have ne : b ≠ a := fun z => by rw [← z, e] at ha; cases ha
  rw [Heap.get?_update_ne _ _ _ _ ne]; exact e
theorem runs_onw {M : Model} {Γ : PySem.Ctx} {p : Pos} {t : Sem PySem.Fin} {fs : List Frame} {s s' : Shared} {e : End} (h : Runs M Γ p t fs s e s') : Onw s.heap s'.heap := by
  induction h with
  | done => exact .refl
  | raise => exact .refl
  | yield => exact .refl
  | update ha _ ih => exact (onw_update ha).trans ih
  | alloc _ ih => exact onw_push.trans ih
  | call _ _ a b => exact a.trans b
  | resumeFresh _ _ _ _ a b => exact a.trans b
  | resumeSuspended _ _ _ _ a b => exact a.trans b
  | segRet _ _ a b => exact a.trans b
  | segGen _ _ a b => exact a.trans b
  | segSuspGen _ _ _ _ a b => exact a.trans b
  | _ => assumption
theorem wakes_onw {M : Model} {Γ : PySem.Ctx} {p : Pos} {i : Nat} {w : Resume} {s s' : Shared} {res : GenResult} (h : Wakes M Γ p i w s res s') : Onw s.heap s'.heap := by
  unfold Wakes at h
  split at h
  · exact h.elim
  · split at h
    · obtain ⟨e₁, s₁, hr, _, _, rfl⟩ := h
      exact (runs_onw (s := s.setGen i .running) hr : Onw s.heap s₁.heap)
    · rw [h.2]; exact .refl
    · rw [h.2]; exact .refl
  · obtain ⟨e₁, s₁, hr, _, _, rfl⟩ := h
    exact (runs_onw (s := s.setGen i .running) hr : Onw s.heap s₁.heap)
  · rw [h.2]; exact .refl
  · rw [h.2]; exact .refl
theorem wp_onw {α : Type} {M : Model} {Γ : PySem.Ctx} {h0 : Heap} (x : Sem α) : ∀ (Q : α → Pos → Shared → Prop) (E : Value → Pos → Shared → Prop) (p : Pos) (s : Shared), Onw h0 s.heap → Sem.wp M Γ x Q E p s →
    Sem.wp M Γ x (fun a p' t' => Onw h0 t'.heap ∧ Q a p' t') (fun e p' t' => Onw h0 t'.heap ∧ E e p' t') p s := by
  induction x with
  | pure a => intro Q E p s n h; exact ⟨n, h⟩
  | raise e => intro Q E p s n h; exact ⟨n, h⟩
  | unsupported _ => intro Q E p s _ h; exact h
  | finish _ => intro Q E p s _ h; exact h
  | register _ _ => intro Q E p s _ h; exact h
  | yield _ _ _ _ => intro Q E p s _ h; exact h
  | fork _ _ => intro Q E p s _ h; exact h
  | await _ _ _ _ _ => intro Q E p s _ h; exact h
  | rule _ k ih => intro Q E p s n h; exact ih () Q E p s n h
  | «at» p' k ih => intro Q E p s n h; exact ih () Q E p' s n h
  | point _ k ih => intro Q E p s n h; exact ih () Q E p s n h
  | ask k ih => intro Q E p s n h; exact ih _ Q E p s n h
  | handled own k ih => intro Q E p s n h; exact ih _ Q E p s n h
  | stack k ih => intro Q E p s n h; exact ih _ Q E p s n h
  | thread k ih => intro Q E p s n h; exact ih _ Q E p s n h
  | load a _ k ih => intro Q E p s n h; obtain ⟨o, ho, h⟩ := h; exact ⟨o, ho, ih o Q E p s n h⟩
  | loadIfAlive a k ih => intro Q E p s n h; exact ih _ Q E p s n h
  | update a _ f k ih => intro Q E p s n h; exact ⟨h.1, ih () Q E p { s with heap := s.heap.update a f } (n.trans (onw_update h.1)) h.2⟩
  | alloc o k ih => intro Q E p s n h; exact ih _ Q E p { s with heap := s.heap.push o } (n.trans onw_push) h
  | fresh k ih => intro Q E p s n h; exact ih _ Q E p { s with toks := s.toks + 1 } n h
  | choose src m k ih => intro Q E p s n h; exact ⟨h.1, ih _ Q E p { s with drawn := s.drawn.bump src } n h.2⟩
  | os q _ k ih => intro Q E p s n h; exact ih _ Q E p { s with os := (Os.step s.os q).1 } n h
  | call d hd _ _ k ih => intro Q E p s n h; obtain ⟨y, s', hr, h⟩ := h; exact ⟨y, s', hr, ih y Q E p s' (n.trans (runs_onw hr)) h⟩
  | genState g k ih => intro Q E p s n h; obtain ⟨st, hs, h⟩ := h; exact ⟨st, hs, ih _ Q E p s n h⟩
  | newGen d k ih => intro Q E p s n h; exact ih _ Q E p { s with gens := s.gens.push (.fresh d) } n h
  | resume g w _ k ih => intro Q E p s n h; obtain ⟨res, s', hw, h⟩ := h; exact ⟨res, s', hw, ih res Q E p s' (n.trans (wakes_onw hw)) h⟩
theorem wpAny_onw {α : Type} {M : Model} {A : Around} {s : Shared} {x : Sem α} {Q : α → Shared → Prop} {E : Value → Shared → Prop} (h : wpAny M A x Q E s) :
    wpAny M A x (fun a t => Onw s.heap t.heap ∧ Q a t) (fun e t => Onw s.heap t.heap ∧ E e t) s := fun Γ p hΓ => wp_onw x _ _ p s .refl (h Γ p hΓ)
/-- the first n objects -/
def cutH (h : Heap) (n : Nat) : Heap := { h with objs := h.objs.extract 0 n }
theorem cutH_lt {h : Heap} {n b : Nat} (hb : b < n) : (cutH h n).get? b = h.get? b := by
  have q : (cutH h n).objs[b]? = h.objs[b]? := by
    show (h.objs.extract 0 n)[b]? = _
    rw [Array.getElem?_extract]
    split
    · rw [Nat.zero_add]
    · rename_i hn
      rw [Array.getElem?_eq_none]
      omega
  unfold Heap.get?
  rw [q]
theorem cutH_ge {h : Heap} {n b : Nat} (hb : n ≤ b) : (cutH h n).get? b = none := by
  have q : (cutH h n).objs[b]? = none := by
    show (h.objs.extract 0 n)[b]? = _
    rw [Array.getElem?_extract, if_neg (by omega)]
  unfold Heap.get?
  rw [q]
theorem cutH_size {h : Heap} {n : Nat} (hn : n ≤ h.objs.size) : (cutH h n).objs.size = n := by
  show (h.objs.extract 0 n).size = n
  rw [Array.size_extract]; omega
theorem cutH_some {h : Heap} {n b : Nat} {o : Obj} (e : (cutH h n).get? b = some o) : b < n ∧ h.get? b = some o := by
  by_cases hb : b < n
  · rw [cutH_lt hb] at e; exact ⟨hb, e⟩
  · rw [cutH_ge (Nat.le_of_not_lt hb)] at e; cases e
theorem fun_frames {h h' base : Heap} : ∀ {l : List Env}, h.FunFrames base l → (∀ b ∈ frs l, ∀ o, h.get? b = some o → ∃ o', h'.get? b = some o' ∧ o'.data = o.data) → h'.FunFrames base l
  | [], _, _ => trivial
  | env :: l, ⟨hk, ⟨L, o, hf, hn, ho, hd⟩, hr⟩, k => by
    have hL : L ∈ frs (env :: l) := by unfold frs; rw [List.filterMap_cons, hf]; exact List.mem_cons_self
    obtain ⟨o', e, ed⟩ := k L hL o ho
    refine ⟨hk, ⟨L, o', hf, hn, e, by rw [ed]; exact hd⟩, fun_frames hr fun b hb => k b ?_⟩
    unfold frs at hb ⊢
    rw [List.filterMap_cons, hf]
    exact List.mem_cons_of_mem _ hb
end Own

namespace Own
open PySem PySem.Spec PyProof.Rows L2 SX GenW
/-! ### generators whose consumer may change all that is not theirs -/
/-- the object that stands behind a name of a frame -/
def refAt (L : Addr) (h : Heap) (x : Str) : Option Addr := match h.nsMap L x with
  | some (.ref a) => some a
  | _ => none
/-- what belongs to a generator: its object, its frame, what stands behind the names nm -/
def ownF (a L : Addr) (nm : List Str) (h : Heap) : List Addr := a :: L :: nm.filterMap (refAt L h)
theorem ownF_same {a L : Addr} {nm : List Str} {h h' : Heap} (e : h'.get? L = h.get? L) : ownF a L nm h' = ownF a L nm h := by
  have q : h'.nsMap L = h.nsMap L := by
    funext x
    unfold Heap.nsMap
    rw [e]
  have q2 : refAt L h' = refAt L h := by
    funext x
    unfold refAt
    rw [q]
  unfold ownF
  rw [q2]
/-- where a generator lives: the heap ahead of its call, its object, its frame, the names of its lists -/
structure Gp where
  P : Program
  w : World
  base : Heap
  outer : List Env
  Hg : Hp
  sz : Nat
  os : OsState
  a : Addr
  go : Obj
  nm : List Str
abbrev Gp.own (g : Gp) (h : Heap) : List Addr := ownF g.a g.sz g.nm h
def NoC (o : Obj) : Prop := ∀ v, o.data ≠ .cell v
/-- the generator has run from h to h' -/
structure KeptG (g : Gp) (h h' : Heap) : Prop where
  keep : ∀ b o, h.get? b = some o → g.Hg b = none → b ∉ g.own h → (b < g.sz ∨ NoC o) → b ∉ frs g.outer → h'.get? b = some o
  slot : ∀ b o, h.get? b = some o → b ∈ frs g.outer → ∃ sl, h'.get? b = some { o with slots := sl }
  tups : ∀ b xs, g.Hg b = some (.tup xs) → ObjOk g.P g.w g.Hg h' b (.tup xs)
/-- the consumer has run from s to s' -/
structure Nap2 (g : Gp) (s s' : Shared) : Prop where
  os : s'.os = s.os
  bare : AllBare s'.gens
  sz : g.sz ≤ s'.heap.objs.size
  own : ∀ b ∈ g.own s.heap, g.sz ≤ b ∧ s'.heap.get? b = s.heap.get? b
  base : ∀ b o, g.base.get? b = some o → s'.heap.get? b = some o
  tups : ∀ b xs, g.Hg b = some (.tup xs) → ObjOk g.P g.w g.Hg s'.heap b (.tup xs)
  funs : s'.heap.FunFrames g.base g.outer
/-- an item is out -/
def Item2 (g : Gp) (out : List V) : Protocol := fun n s₀ v s1 kap =>
  s1.os = g.os ∧ AllBare s1.gens ∧ s1.heap.NoLimit ∧ s1.heap.get? g.a = some g.go ∧ KeptG g s₀.heap s1.heap ∧ (∃ (k : Nat) (x : V), n + 1 + k = sizeLine ∧ out[k]? = some x ∧ RelV x v) ∧
  (∀ b ∈ g.own s1.heap, (∃ o, s1.heap.get? b = some o ∧ NoC o) ∧ (b ∈ g.own s₀.heap ∨ s₀.heap.get? b = none ∨ (g.sz ≤ b ∧ ∃ o, s₀.heap.get? b = some o ∧ ¬ NoC o))) ∧ ∀ s', Nap2 g s1 s' → kap (.send .none) s' ∧ kap (.send .ellipsis) s'
def Done2 (g : Gp) (out : List V) (n : Nat) (s₀ s1 : Shared) : Prop := n + out.length = sizeLine ∧ s1.os = g.os ∧ AllBare s1.gens ∧ KeptG g s₀.heap s1.heap
def Over2 (g : Gp) (out : List V) : GenEnd := fun n s₀ r s1 => ((r = .ok (.ret .none) ∨ r = .ok .next) ∧ Done2 g out n s₀ s1) ∨ ∃ e, r = .error e ∧ (fun (_ : Value) (_ : Shared) => False) e s1
/-- the context with another beginning -/
abbrev rr (X : Cx) (s0 : Shared) : Cx := { X with s_0 := s0 }
abbrev root (X : Cx) (s : Shared) : Shared := { X.s_0 with heap := cutH s.heap X.s_0.heap.objs.size }
/-- the place of the generator whose body runs in X -/
def gpOf (X : Cx) (a : Addr) (go : Obj) (nm : List Str) : Gp := ⟨X.prog, X.w, X.base, X.outer, X.H_0, X.s_0.heap.objs.size, X.s_0.os, a, go, nm⟩
structure GOk (X : Cx) (a : Addr) (go : Obj) (nm : List Str) : Prop where
  cells : X.env.cells = []
  ex : X.ex = []
  loc : X.env.locals = X.s_0.heap.objs.size
  pn : X.pn = [(a, go)]
  lo : X.s_0.heap.objs.size ≤ a
  go : NoC go
  tups : ∀ b o, X.H_0 b = some o → b < X.s_0.heap.objs.size ∧ ∃ xs, o = .tup xs
/-- the generator runs; it was woken at s₀ -/
def Run2 (X : Cx) (a : Addr) (go : Obj) (nm : List Str) (σ : L2.St) (H : Hp) (s₀ s : Shared) : Prop :=
  ∃ cp : List (Addr × Obj), (∀ b o, s₀.heap.get? b = some o → X.s_0.heap.objs.size ≤ b → b ∉ (gpOf X a go nm).own s₀.heap → NoC o → (b, o) ∈ cp) ∧ Inv (rr X (root X s₀)) cp σ H s
section
variable {X : Cx} {a : Addr} {go : Obj} {nm : List Str} {σ : L2.St} {H : Hp} {s₀ s s' : Shared}
theorem Run2.fs (r : Run2 X a go nm σ H s₀ s) : ∀ b ∈ X.fs, b < X.s_0.heap.objs.size ∧ ∃ o, s₀.heap.get? b = some o := fun b hb => by
  obtain ⟨cp, _, I⟩ := r
  obtain ⟨_, o, ho, _⟩ := I.ok.funs.mem hb
  obtain ⟨h1, h2⟩ := cutH_some ho
  exact ⟨h1, o, h2⟩
theorem Run2.kept (G : GOk X a go nm) (r : Run2 X a go nm σ H s₀ s) (sm : Same X.H_0 H) : KeptG (gpOf X a go nm) s₀.heap s.heap := by
  have hfs := r.fs
  obtain ⟨cp, cov, I⟩ := r
  have nex : ∀ b, b ∉ X.ex := fun b z => by rw [G.ex] at z; cases z
  refine ⟨fun b o e n no hc nf => ?_, fun b o e hb => ?_, fun b xs e => ?_⟩
  · by_cases hlt : b < X.s_0.heap.objs.size
    · exact I.base.keep b o ((cutH_lt hlt).trans e) n nf (nex b)
    · rcases hc with hc | hc
      · exact absurd hc hlt
      · exact (I.pin (b, o) (List.mem_append_right _ (cov b o e (Nat.le_of_not_lt hlt) no hc))).1
  · exact I.base.slot b o ((cutH_lt (hfs b hb).1).trans e) (I.ok.frf b hb) hb (nex b)
  · have q := I.hok b _ (sm b _ e)
    exact q
/-- the generator goes on where the consumer has left all that is its own -/
theorem wokenI {s0 : Shared} {cp : List (Addr × Obj)} (G : GOk X a go nm) (I : Inv (rr X s0) cp σ H s) (h1 : s0.heap.objs.size ≤ X.s_0.heap.objs.size) (h2 : s0.os = X.s_0.os) (z : Nap2 (gpOf X a go nm) s s')
    (hw : ∀ b ∈ nm.filterMap (refAt X.env.locals s.heap), ∃ xs, H b = some (.lst xs) ∧ X.H_0 b = none) :
    Run2 X a go nm σ (fun b => if b ∈ nm.filterMap (refAt X.env.locals s.heap) then H b else X.H_0 b) s' s' := by
  have hfs : ∀ b ∈ X.fs, b < X.s_0.heap.objs.size := fun b hb => by
    obtain ⟨_, o, ho, _⟩ := I.ok.funs.mem hb
    exact Nat.lt_of_lt_of_le (Heap.lt_size ho) h1
  obtain ⟨hp, g, d, t, o⟩ := s'
  have ho : o = s.os := z.os
  subst ho
  have eL : X.s_0.heap.objs.size = X.env.locals := G.loc.symm
  have mws : ∀ b ∈ nm.filterMap (refAt X.env.locals s.heap), b ∈ (gpOf X a go nm).own s.heap := fun b hb => by
    show b ∈ a :: X.s_0.heap.objs.size :: nm.filterMap (refAt X.s_0.heap.objs.size s.heap)
    rw [eL]
    exact List.mem_cons_of_mem _ (List.mem_cons_of_mem _ hb)
  have own : ∀ b ∈ (gpOf X a go nm).own s.heap, X.s_0.heap.objs.size ≤ b ∧ hp.get? b = s.heap.get? b := z.own
  have oL := own X.s_0.heap.objs.size (List.mem_cons_of_mem _ (List.mem_cons_self ..))
  have oA := own a (List.mem_cons_self ..)
  have pA := I.pin (a, go) (List.mem_append_left _ (by show (a, go) ∈ X.pn; rw [G.pn]; exact List.mem_singleton.mpr rfl))
  have h0lt : ∀ b o, X.H_0 b = some o → b < X.s_0.heap.objs.size := fun b o e => (G.tups b o e).1
  have h0none : ∀ b, X.s_0.heap.objs.size ≤ b → X.H_0 b = none := fun b hb => by
    cases q : X.H_0 b with
    | none => rfl
    | some u => exact absurd (h0lt b u q) (Nat.not_lt.mpr hb)
  generalize hws : nm.filterMap (refAt X.env.locals s.heap) = ws at *
  have wlst : ∀ b ∈ ws, ∃ xs, H b = some (.lst xs) ∧ X.H_0 b = none := hw
  have fL : H X.env.locals = none := I.free
  have nL : X.env.locals ∉ ws := fun m => by
    obtain ⟨xs, e, _⟩ := wlst _ m
    rw [fL] at e; cases e
  have nA : a ∉ ws := fun m => by
    obtain ⟨xs, e, _⟩ := wlst _ m
    have e2 : H a = none := pA.2.1
    rw [e2] at e; cases e
  have cutNone : ∀ b, X.s_0.heap.objs.size ≤ b → b ∉ ws → (if b ∈ ws then H b else X.H_0 b) = none := fun b hb n => by
    rw [if_neg n]; exact h0none b hb
  have cut0 : ∀ b, b < X.s_0.heap.objs.size → (if b ∈ ws then H b else X.H_0 b) = X.H_0 b := fun b hb => if_neg fun m => absurd hb (Nat.not_lt.mpr (own b (mws b m)).1)
  have zf : hp.FunFrames X.base X.outer := z.funs
  have zb : ∀ b o, X.base.get? b = some o → hp.get? b = some o := z.base
  have zt : ∀ b xs, X.H_0 b = some (.tup xs) → ObjOk X.prog X.w X.H_0 hp b (.tup xs) := z.tups
  have zs : X.s_0.heap.objs.size ≤ hp.objs.size := z.sz
  have hsz : (cutH hp X.s_0.heap.objs.size).objs.size = X.s_0.heap.objs.size := cutH_size zs
  have bsz : X.base.objs.size ≤ X.s_0.heap.objs.size := by
    exact Nat.le_trans I.ok.bsz h1
  refine ⟨(List.range hp.objs.size).filterMap fun b => if X.s_0.heap.objs.size ≤ b ∧ b ∉ (gpOf X a go nm).own hp then (hp.get? b).bind fun o => match o.data with
      | .cell _ => none
      | _ => some (b, o) else none, fun b o e h1 h2 h3 => ?_, ?_⟩
  · refine List.mem_filterMap.mpr ⟨b, List.mem_range.mpr (Heap.lt_size e), ?_⟩
    have e' : hp.get? b = some o := e
    rw [if_pos ⟨h1, h2⟩, e']
    show (match o.data with | .cell _ => none | _ => some (b, o)) = _
    split
    · rename_i v hd
      exact (h3 v hd).elim
    · rfl
  have hcp : ∀ p ∈ (List.range hp.objs.size).filterMap (fun b => if X.s_0.heap.objs.size ≤ b ∧ b ∉ (gpOf X a go nm).own hp then (hp.get? b).bind fun o => match o.data with
      | .cell _ => none
      | _ => some (b, o) else none), hp.get? p.1 = some p.2 ∧ X.s_0.heap.objs.size ≤ p.1 ∧ p.1 ∉ (gpOf X a go nm).own hp ∧ NoC p.2 := fun p hp' => by
    obtain ⟨b, _, e⟩ := List.mem_filterMap.mp hp'
    split at e
    · rename_i hc
      cases q : hp.get? b with
      | none => rw [q] at e; cases e
      | some ob =>
        rw [q] at e
        have e : (match ob.data with | .cell _ => none | _ => some (b, ob)) = some p := e
        split at e
        · cases e
        · rename_i hn
          cases e
          exact ⟨q, hc.1, hc.2, fun v hv => hn v hv⟩
    · cases e
  have ownEq : (gpOf X a go nm).own hp = (gpOf X a go nm).own s.heap := ownF_same oL.2
  have locK : hp.get? X.env.locals = s.heap.get? X.env.locals := by rw [← eL]; exact oL.2
  refine ⟨⟨I.ok.mod, I.ok.kind, I.ok.glob, I.ok.blt, ?_, I.ok.inj, I.ok.has, fun x c _ e => ?_, I.ok.hd, I.ok.frames, I.ok.stk, I.ok.exf, fun b o e => ⟨?_, (I.ok.bs b o e).2⟩, ?_, I.ok.noex, I.ok.exfs, ?_, I.ok.frf⟩,
    (I.os.trans h2 : s.os = X.s_0.os), z.bare, ⟨?_, ?_, ?_, ?_, ?_, ?_, ?_⟩, ?_, fun x c e => ?_, ?_, fun x c e => ?_, fun p hp' => ?_, fun b u e => ?_, I.len⟩
  · show (cutH hp _).objs.size ≤ X.env.locals
    rw [hsz, ← eL]; exact Nat.le_refl _
  · have e : X.env.cells.lookup x = some c := e
    rw [G.cells] at e; cases e
  · show (cutH hp _).get? b = some o
    have e : X.base.get? b = some o := e
    rw [cutH_lt (Nat.lt_of_lt_of_le (Heap.lt_size e) bsz)]
    exact zb b o e
  · show X.base.objs.size ≤ (cutH hp _).objs.size
    rw [hsz]; exact bsz
  · refine fun_frames zf fun b hb o e => ⟨o, ?_, rfl⟩
    show (cutH hp _).get? b = some o
    rw [cutH_lt (hfs b hb)]; exact e
  · intro b o e _ _ _
    exact (cutH_some e).2
  · intro b o e _ _ _
    exact ⟨o.slots, (cutH_some e).2⟩
  · intro b o e n _
    rw [cut0 b (cutH_some e).1]; exact n
  · intro b o e _
    exact ⟨o, (cutH_some e).2⟩
  · intro b xs e
    have e : X.H_0 b = some (.tup xs) := e
    rw [cut0 b (h0lt b _ e)]; exact e
  · intro b o u e
    have e : X.H_0 b = some (.frz o u) := e
    rw [cut0 b (h0lt b _ e)]; exact e
  · intro b ps e
    have e : X.H_0 b = some (.tbl ps) := e
    obtain ⟨_, xs, q⟩ := G.tups b _ e
    cases q
  · obtain ⟨m, hn, hl⟩ := I.loc
    refine ⟨m, hn.at' fun o e => ?_, fun i x v e1 e2 e3 => ?_⟩
    · show hp.get? X.env.locals = some o
      rw [locK]; exact e
    · obtain ⟨u, r, l⟩ := hl i x v e1 e2 e3
      refine ⟨u, r, ?_⟩
      rcases l with l | ⟨k, c, e, _⟩
      · exact .inl l
      · have e : X.env.cells.lookup x = some c := e
        rw [G.cells] at e; cases e
  · have e : X.env.cells.lookup x = some c := e
    rw [G.cells] at e; cases e
  · exact cutNone _ (by rw [eL]; exact Nat.le_refl _) nL
  · have e : X.env.cells.lookup x = some c := e
    rw [G.cells] at e; cases e
  · rcases List.mem_append.mp hp' with hp' | hp'
    · have hp' : p ∈ X.pn := hp'
      rw [G.pn] at hp'
      rw [List.mem_singleton.mp hp']
      exact ⟨oA.2.trans pA.1, cutNone a G.lo nA, pA.2.2.1, pA.2.2.2.1, pA.2.2.2.2⟩
    · obtain ⟨e, h1, h2, h3⟩ := hcp p hp'
      rw [ownEq] at h2
      refine ⟨e, cutNone _ h1 fun m => h2 (mws _ m), fun q => h2 ?_, fun hb => absurd (hfs _ hb) (Nat.not_lt.mpr h1), h3⟩
      have q : p.1 = X.env.locals := q
      rw [q, ← eL]
      exact List.mem_cons_of_mem _ (List.mem_cons_self ..)
  · show ObjOk X.prog X.w (fun b => if b ∈ ws then H b else X.H_0 b) hp b u
    by_cases hb : b ∈ ws
    · rw [if_pos hb] at e
      obtain ⟨xs, e2, _⟩ := wlst b hb
      rw [e2] at e
      cases e
      obtain ⟨l, its, n, v, q⟩ := I.hok b _ e2
      exact ⟨l, its, n, v, by rw [(own b (mws b hb)).2]; exact q⟩
    · rw [if_neg hb] at e
      obtain ⟨_, xs, q⟩ := G.tups b u e
      subst q
      exact zt b xs e
theorem cut_le {h : Heap} {n : Nat} : (cutH h n).objs.size ≤ n := by
  show (h.objs.extract 0 n).size ≤ n
  rw [Array.size_extract]; omega
theorem Run2.woken (G : GOk X a go nm) (r : Run2 X a go nm σ H s₀ s) (z : Nap2 (gpOf X a go nm) s s')
    (hw : ∀ b ∈ nm.filterMap (refAt X.env.locals s.heap), ∃ xs, H b = some (.lst xs) ∧ X.H_0 b = none) :
    Run2 X a go nm σ (fun b => if b ∈ nm.filterMap (refAt X.env.locals s.heap) then H b else X.H_0 b) s' s' :=
  let ⟨_, _, I⟩ := r
  wokenI G I cut_le rfl z hw
end
end Own

namespace Own
open PySem PySem.Spec PyProof.Rows L2 SX GenW
/-! ### the bodies of such generators -/
structure Spot2 (X : Cx) (A : Around) (c : Code) (fs : List Frame) (gd : Bool → Bool) : Prop where
  over : A.over c fs = X.A
  split : splitAtGen fs = none
  guard : fs.any Frame.guarded = false
  gd : gd false = false
section
variable {X : Cx} {a : Addr} {go : Obj} {nm : List Str} {out : List V} {st : Stmt} {rest : List Stmt}
/-! ### while -/
variable {A : Around} {R : GenEnd} {c : Code} {fs : List Frame} {K : Flow → Sem PySem.Fin} {J : Value → Sem PySem.Fin} {gd : Bool → Bool} {lv : List Value → List Value} {D : EndsK} {n k : Nat} {s₀ s : Shared}
theorem Spot2.loop {c' : Code} {p : Pos} (g : Spot2 X A c fs gd) (hw : c'.weight = 0) (hu : c'.cUnits = 0) : Spot2 X A c' (loopF X.env K J gd lv c p :: fs) id :=
  ⟨(over_loop hw hu).trans g.over, by show Option.map _ (splitAtGen fs) = none; rw [g.split]; rfl, by show (gd false || _) = false; rw [g.gd, Bool.false_or]; exact g.guard, rfl⟩
end
end Own

namespace Own
open PySem PySem.Spec PyProof.Rows L2 SX GenW
/-! ### a call of such a generator def -/
abbrev SpT := List V → Hp → List V → Prop
section
variable {P : Program} {w : World} {K : PySem.W.Frag} {mg : Str → Option Value} {base : Heap}
end
end Own

namespace Own
open PySem PySem.Spec PyProof.Rows L2 SX GenW
/-! ### for x in g(..): any body -/
/-- all that is young is no cell -/
def Good2 (n : Nat) (H : Hp) (h : Heap) : Prop := ∀ b o u, H b = some o → h.get? b = some u → b < n ∨ NoC u
section
variable {P : Program} {w : World} {H H' : Hp} {h : Heap} {b : Addr} {o : HO}
end
section
variable {n : Nat} {h : Heap} {H : Hp} {b : Addr} {o : HO}
end
section
variable {X : Cx} {pins : List (Addr × Obj)} {σ : L2.St} {H : Hp} {s : Shared} {n : Nat}
/-- the generator has run: the consumer's things stand as they stood -/
theorem after_gen {g : Gp} {s1 : Shared} (I : Inv X pins σ H s) (K : KeptG g s.heap s1.heap) (hP : g.P = X.prog) (hw : g.w = X.w) (ho : g.outer = X.stack) (hG : Good2 g.sz H s.heap) (sub : ∀ b o, g.Hg b = some o → H b = some o ∧ ∃ xs, o = .tup xs)
    (own : ∀ b ∈ g.own s.heap, FpOk X pins H b) (os : s1.os = s.os) (bare : AllBare s1.gens) (l0 : X.s_0.heap.objs.size ≤ g.sz) (lL : X.env.locals < g.sz) (lC : ∀ x c, X.env.cells.lookup x = some c → c < g.sz) : Inv X pins σ H s1 := by
  obtain ⟨P, w, base, outer, Hg, sz, os0, a, go, nm⟩ := g
  cases hP
  cases hw
  have ho : outer = X.stack := ho
  subst ho
  have gn : ∀ b, H b = none → Hg b = none := fun b e => by
    cases q : Hg b with
    | none => rfl
    | some o => rw [(sub b o q).1] at e; cases e
  obtain ⟨ch, hch⟩ : ∃ ch : List Addr, ∀ b, b ∈ ch ↔ b < s.heap.objs.size ∧ (b ∈ (⟨X.prog, X.w, base, X.stack, Hg, sz, os0, a, go, nm⟩ : Gp).own s.heap ∨ (sz ≤ b ∧ ∃ o, s.heap.get? b = some o ∧ ¬ NoC o)) := by
    classical
    exact ⟨(List.range s.heap.objs.size).filter fun b => decide (b ∈ (⟨X.prog, X.w, base, X.stack, Hg, sz, os0, a, go, nm⟩ : Gp).own s.heap ∨ (sz ≤ b ∧ ∃ o, s.heap.get? b = some o ∧ ¬ NoC o)), fun b => by
      rw [List.mem_filter, List.mem_range, decide_eq_true_iff]⟩
  have nch : ∀ b o, s.heap.get? b = some o → b ∉ ch → b ∉ (⟨X.prog, X.w, base, X.stack, Hg, sz, os0, a, go, nm⟩ : Gp).own s.heap ∧ (b < sz ∨ NoC o) := fun b o e n => by
    refine ⟨fun z => n ((hch b).mpr ⟨Heap.lt_size e, .inl z⟩), ?_⟩
    by_cases hb : b < sz
    · exact .inl hb
    · refine .inr (Classical.byContradiction fun z => n ((hch b).mpr ⟨Heap.lt_size e, .inr ⟨Nat.le_of_not_lt hb, o, e, z⟩⟩))
  have any : ∀ b o, s.heap.get? b = some o → H b = none → b ∉ ch → b ∉ frs X.stack → s1.heap.get? b = some o := fun b o e n hc hf => K.keep b o e (gn b n) (nch b o e hc).1 (nch b o e hc).2 hf
  have trk : ∀ b o u, H b = some o → (∀ xs, o ≠ .tup xs) → s.heap.get? b = some u → s1.heap.get? b = some u := fun b o u e nt eu => by
    refine K.keep b u eu ?_ (fun z => ?_) (hG b o u e eu) fun z => ?_
    · cases q : Hg b with
      | none => exact q
      | some v =>
        obtain ⟨e2, xs, e3⟩ := sub b v q
        rw [e] at e2
        cases e2
        exact (nt xs e3).elim
    · rw [(own b z).1] at e; cases e
    · rw [I.stkFree b z] at e; cases e
  refine I.call' (ch := ch) os ⟨fun b o e n hf hc => any b o e n hc hf, fun b o e _ hb _ => K.slot b o e hb, fun b o _ n _ => n, fun b o e hc => ?_, fun _ _ e => e, fun _ _ _ e => e, fun b ps e => ⟨#[], by rw [e]; simp⟩⟩ (fun b o e => ?_) bare fun b hb => ?_
  · by_cases hf : b ∈ frs X.stack
    · obtain ⟨sl, q⟩ := K.slot b o e hf
      exact ⟨_, q⟩
    · cases q : H b with
      | none => exact ⟨o, any b o e q hc hf⟩
      | some v =>
        cases q2 : Hg b with
        | none => exact ⟨o, K.keep b o e q2 (nch b o e hc).1 (nch b o e hc).2 hf⟩
        | some z =>
          obtain ⟨e2, xs, e3⟩ := sub b z q2
          subst e3
          obtain ⟨_, its, _, ob, eo, _⟩ := K.tups b xs q2
          exact ⟨ob, eo⟩
  · cases q2 : Hg b with
    | some z =>
      obtain ⟨e2, xs, e3⟩ := sub b z q2
      subst e3
      rw [e] at e2
      cases e2
      exact K.tups b xs q2
    | none =>
      refine (I.hok b o e).stay (fun c u hc eu => ?_) (fun _ e => e) fun _ _ e => e
      rcases hc with rfl | hc
      · refine K.keep _ u eu q2 (fun z => ?_) (hG _ o u e eu) fun z => ?_
        · rw [(own _ z).1] at e; cases e
        · rw [I.stkFree _ z] at e; cases e
      · exact trk c _ u hc (fun xs z => nomatch z) eu
  · obtain ⟨h1, h2⟩ := (hch b).mp hb
    rcases h2 with h2 | ⟨h2, ob, h3, h4⟩
    · obtain ⟨_, f1, _, f3, f4, f5⟩ := own b h2
      exact ⟨f3, f1, f4, f5⟩
    · refine ⟨.inr (Nat.le_trans l0 h2), fun z => ?_, fun x c e z => ?_, fun p hp z => ?_⟩
      · rw [z] at h2; exact absurd lL (Nat.not_lt.mpr h2)
      · rw [← z] at h2; exact absurd (lC x c e) (Nat.not_lt.mpr h2)
      · obtain ⟨q1, _, _, _, q5⟩ := I.pin p hp
        rw [z, h3] at q1
        cases q1
        exact h4 q5
end

/-! ### what does not ask which generators sleep -/
def GF (X : Cx) : Prop := ∀ O s t e, Sim O s t → (∀ i y, O i = some y → y.bare = true) → X.xe e s → X.xe e t
theorem GF.never {X : Cx} (h : ∀ e s, ¬ X.xe e s) : GF X := fun _ s _ e _ _ x => (h e s x).elim
section
variable {X : Cx} {pins : List (Addr × Obj)} {σ : L2.St} {H : Hp} {s t : Shared} {O : Nat → Option GenState} {D : Ends} {f : Flow}
theorem Sim.heap (S : Sim O s t) : t.heap = s.heap ∧ t.os = s.os := by
  obtain ⟨_, _, e⟩ := S
  rw [e]; exact ⟨rfl, rfl⟩
end
end Own

namespace Own
open PySem PySem.Spec PyProof.Rows L2 SX GenW
/-! ### a comprehension over a generator: [x for x in o.m(..)] -/
section
variable {P : Program} {w : World} {A : Around} {outer : List Env} {H : Hp} {sc : Shared} {out : List V} {Qe : Hp → Prop} {C D a : Addr} {g : Nat}
end
/-- the names of its own scope -/
def OneN (ns : List (Str × NameKind)) (x : Str) : Prop := ns = [(x, NameKind.local)] ∨ (ns = [(Str.ofString ".0", NameKind.local), (x, NameKind.local)] ∧ (x == Str.ofString ".0") = false)
theorem OneN.loc {ns : List (Str × NameKind)} {x : Str} (h : OneN ns x) : ∀ y ∈ ns, y.2 = .local := fun y hy => by
  rcases h with h | ⟨h, _⟩
  · rw [h] at hy
    rw [List.mem_singleton.mp hy]
  · rw [h] at hy
    rcases List.mem_cons.mp hy with rfl | hy
    · rfl
    · rw [List.mem_singleton.mp hy]
theorem OneN.at {ns : List (Str × NameKind)} {x : Str} (h : OneN ns x) : ns.lookup x = some .local := by
  rcases h with h | ⟨h, e⟩
  · rw [h, List.lookup_cons, beq_self_eq_true]
  · rw [h, List.lookup_cons, e, List.lookup_cons, beq_self_eq_true]
theorem OneN.all {ns : List (Str × NameKind)} {x : Str} (h : OneN ns x) : ∀ y ∈ ns, ns.lookup y.1 = some .local := fun y hy => by
  have a := h.at
  rcases h with h | ⟨h, e⟩
  · rw [h] at hy
    rw [List.mem_singleton.mp hy]; exact a
  · rw [h] at hy
    rcases List.mem_cons.mp hy with rfl | hy
    · rw [h, List.lookup_cons]; rfl
    · rw [List.mem_singleton.mp hy]; exact a
theorem OneN.cells {ns : List (Str × NameKind)} {x : Str} (h : OneN ns x) (k : Heap) : pushCells k ns = k := by
  rcases h with h | ⟨h, _⟩ <;> rw [h] <;> rfl
section
variable {X : Cx} {k : Nat}
end
end Own

namespace Own
open PySem PySem.Spec PyProof.Rows L2 SX GenW
/-! ### the loop -/
def KeepT (H1 H : Hp) : Prop := ∀ b xs, H1 b = some (.tup xs) → H b = some (.tup xs)
section
variable {X : Cx} {k : Nat} {nm : List Str}
/-- what stands at the beginning of a turn -/
structure Turn2 (X : Cx) (pins : List (Addr × Obj)) (gp : Gp) (out : List V) (g : Nat) (i : Nat) (σ : L2.St) (H : Hp) (gs : GenState) (s : Shared) : Prop where
  inv : Inv X pins σ H s
  clean : CleanG s.gens
  good : Good2 gp.sz H s.heap
  own : ∀ b ∈ gp.own s.heap, gp.sz ≤ b ∧ FpOk X pins H b ∧ ∃ o, s.heap.get? b = some o ∧ NoC o
  goat : s.heap.get? gp.a = some gp.go
  size : gp.sz ≤ s.heap.objs.size
  le : i ≤ out.length
  goes : s.gens[g]? = some gs ∧ gs.Goes (model X.prog X.w) X.A.in1 (Over2 gp out) (Item2 gp out) (sizeLine - i) (.send .none) (s.setGen g .running)
theorem asked {gp : Gp} {out : List V} {pins : List (Addr × Obj)} {g i : Nat} {σ : L2.St} {H : Hp} {gs : GenState} {s : Shared} (hc : X.calm = true) (hr : Room (k + 3) X.A) (T : Turn2 X pins gp out g i σ H gs s) (hg : ∀ h : Heap, h.get? gp.a = some gp.go → h.IsGen gp.a g) :
    wpAny (model X.prog X.w) X.A (pyNext (.ref gp.a)) (fun r s4 => CleanG s4.gens ∧ Onw s.heap s4.heap ∧ g + 1 ≤ s4.gens.size ∧ match r with
      | some v => ∃ s₁ gs', gs'.bare = true ∧ Item2 gp out (sizeLine - i - 1) (s.setGen g .running) v s₁ (fun r' s'' => match sizeLine - i with
          | 0 => False
          | m + 1 => gs'.Goes (model X.prog X.w) X.A.in1 (Over2 gp out) (Item2 gp out) m r' s'') ∧ s4 = s₁.setGen g gs'
      | none => ∃ s₁ h', Done2 gp out (sizeLine - i) (s.setGen g .running) s₁ ∧ (∀ b o, s₁.heap.get? b = some o → h'.get? b = some o) ∧ s4 = { s₁.setGen g .finished with heap := h' }) (fun _ _ => False) s := by
  have hgl : g + 1 ≤ s.gens.size := (Array.getElem?_eq_some_iff.mp T.goes.1).1
  have base : wpAny (model X.prog X.w) X.A (pyNext (.ref gp.a)) (fun r s4 => match r with
      | some v => ∃ s₁ gs', gs'.bare = true ∧ Item2 gp out (sizeLine - i - 1) (s.setGen g .running) v s₁ (fun r' s'' => match sizeLine - i with
          | 0 => False
          | m + 1 => gs'.Goes (model X.prog X.w) X.A.in1 (Over2 gp out) (Item2 gp out) m r' s'') ∧ s4 = s₁.setGen g gs'
      | none => ∃ s₁ h', Done2 gp out (sizeLine - i) (s.setGen g .running) s₁ ∧ (∀ b o, s₁.heap.get? b = some o → h'.get? b = some o) ∧ s4 = { s₁.setGen g .finished with heap := h' }) (fun _ _ => False) s := by
    refine next_genG (Er := fun _ _ => False) (F := Done2 gp out) (T.inv.ok.hd hc) T.inv.nolimit ?_ (hg _ T.goat) T.goes.1 T.goes.2 (fun v s₁ gs' hb hv => ⟨s₁, gs', hb, hv, rfl⟩) (fun s₁ hp h' hk => ⟨s₁, h', hp, hk, rfl⟩) fun e s₁ he => he.elim
    have := hr.dp
    omega
  refine wpAny_gsz hgl (wpAny_mono (wpAny_onw (wpAny_clean T.clean base)) (fun r s4 h hsz => ⟨h.2.1, h.1, hsz, h.2.2⟩) fun e s4 h _ => h.2.2.elim)

/-- what is known throughout a loop over a generator -/
structure Over_ (X : Cx) (gp : Gp) (H1 : Hp) : Prop where
  P : gp.P = X.prog
  w : gp.w = X.w
  base : gp.base = X.base
  outer : gp.outer = X.stack
  os : gp.os = X.s_0.os
  sub : ∀ b o, gp.Hg b = some o → H1 b = some o ∧ ∃ xs, o = .tup xs
  old : ∀ b o, H1 b = some o → b < gp.sz
  l0 : X.s_0.heap.objs.size ≤ gp.sz
  lL : X.env.locals < gp.sz
  lC : ∀ x c, X.env.cells.lookup x = some c → c < gp.sz
  frz : ∀ b o u, X.H_0 b = some (.frz o u) → b < gp.sz
theorem Over_.tup {gp : Gp} {H1 H : Hp} (V : Over_ X gp H1) (k : KeepT H1 H) : ∀ b o, gp.Hg b = some o → H b = some o ∧ ∃ xs, o = .tup xs := fun b o e => by
  obtain ⟨h, xs, rfl⟩ := V.sub b o e
  exact ⟨k b xs h, xs, rfl⟩
/-- an item has been handed out -/
theorem handed {gp : Gp} {out : List V} {pins : List (Addr × Obj)} {g i : Nat} {σ : L2.St} {H H1 : Hp} {gs gs' : GenState} {s s₁ s4 : Shared} {v : Value} {kap : Resume → Shared → Prop} (V : Over_ X gp H1) (hk : KeepT H1 H) (T : Turn2 X pins gp out g i σ H gs s)
    (hb : gs'.bare = true) (it : Item2 gp out (sizeLine - i - 1) (s.setGen g .running) v s₁ kap) (e4 : s4 = s₁.setGen g gs') (onw : Onw s.heap s4.heap) :
    Inv X pins σ H s4 ∧ (∀ b ∈ gp.own s4.heap, gp.sz ≤ b ∧ FpOk X pins H b ∧ ∃ o, s4.heap.get? b = some o ∧ NoC o) ∧ s4.heap.get? gp.a = some gp.go := by
  obtain ⟨y1, y2, y3, y4, y5, y6, y7, y8⟩ := it
  have I := T.inv
  have h4 : s4.heap = s₁.heap := by rw [e4]; rfl
  have b4 : AllBare s4.gens := by rw [e4]; exact allBare_setGen y2 hb
  have o4 : s4.os = s.os := by
    have : s4.os = s₁.os := by rw [e4]; rfl
    rw [this, y1, V.os, I.os]
  refine ⟨after_gen (g := gp) I (by rw [h4]; exact y5) V.P V.w V.outer T.good (V.tup hk) (fun b hb => (T.own b hb).2.1) o4 b4 V.l0 V.lL V.lC, fun b hb => ?_, by rw [h4]; exact y4⟩
  rw [h4] at hb onw ⊢
  obtain ⟨⟨o, eo, no⟩, hw⟩ := y7 b hb
  have hw : b ∈ gp.own s.heap ∨ s.heap.get? b = none ∨ (gp.sz ≤ b ∧ ∃ o, s.heap.get? b = some o ∧ ¬ NoC o) := hw
  rcases hw with hw | hw | ⟨hw, ob, h1, h2⟩
  · exact ⟨(T.own b hw).1, (T.own b hw).2.1, o, eo, no⟩
  · have hge : s.heap.objs.size ≤ b := by
      refine Nat.le_of_not_lt fun z => ?_
      rw [onw.2 b z hw] at eo; cases eo
    exact ⟨Nat.le_trans T.size hge, I.fpOk hge (I.hok.fresh hge), o, eo, no⟩
  · refine ⟨hw, ⟨?_, fun z => ?_, fun z => ?_, .inr (Nat.le_trans V.l0 hw), fun x c e z => ?_, fun p hp z => ?_⟩, o, eo, no⟩
    · cases q : H b with
      | none => rfl
      | some u =>
        rcases T.good b u ob q h1 with z | z
        · exact absurd z (Nat.not_lt.mpr hw)
        · exact (h2 z).elim
    · rw [z] at hw; exact absurd V.lL (Nat.not_lt.mpr hw)
    · obtain ⟨_, ob2, ho, _⟩ := I.ok.funs.mem z
      exact absurd (Nat.lt_of_lt_of_le (Heap.lt_size ho) V.l0) (Nat.not_lt.mpr hw)
    · rw [← z] at hw; exact absurd (V.lC x c e) (Nat.not_lt.mpr hw)
    · obtain ⟨q1, _, _, _, q5⟩ := I.pin p hp
      rw [z, h1] at q1
      cases q1
      exact h2 q5
end
end Own
namespace Own
open PySem PySem.Spec PyProof.Rows L2 SX GenW
section
variable {X : Cx} {k : Nat} {f : Addr} {fd : FuncData} {ps nm : List Str} {sp : SpT} {x : Str} {p pos : Pos} {e : Expr} {es : List Expr} {t : TA}
end
end Own

/-! Prg1: programs as sequences; their texts; what is left of a text while it is read -/
namespace Prg
open Cnd
/-- a program without brackets: fill has its text as read and as templates write it -/
inductive Lf where
  | skip
  | fill (a x : List Nat)
  | fail (n : List Nat)
  | call (n : List Nat)
/-- a sequence of programs: one that stands alone, or a block -/
inductive Pr where
  | nil
  | leaf (l : Lf) (r : Pr)
  | whil (c : Cd) (p : Pr) (r : Pr)
  | cond (c : Cd) (p q : Pr) (r : Pr)
abbrev skipT : List Nat := [115, 107, 105, 112]
abbrev fillT : List Nat := [102, 105, 108, 108, 32]
abbrev failT : List Nat := [102, 97, 105, 108, 32]
abbrev callT : List Nat := [99, 97, 108, 108, 32]
abbrev whilT : List Nat := [119, 104, 105, 108, 101, 32]
abbrev ifT : List Nat := [105, 102, 32]
def lTx : Lf → List Nat
  | .skip => skipT
  | .fill a _ => fillT ++ a
  | .fail n => failT ++ n
  | .call n => callT ++ n
def some? : Pr → Bool
  | .nil => false
  | _ => true
/-- what stands between a program and the rest of its sequence -/
def semi (r : Pr) (t : List Nat) : List Nat := if some? r then 59 :: 32 :: t else []
def pTx : Pr → List Nat
  | .nil => []
  | .leaf l r => lTx l ++ semi r (pTx r)
  | .whil c p r => whilT ++ (cTx c ++ (32 :: 91 :: (pTx p ++ (93 :: semi r (pTx r)))))
  | .cond c p q r => ifT ++ (cTx c ++ (32 :: 91 :: (pTx p ++ (93 :: 32 :: 91 :: (pTx q ++ (93 :: semi r (pTx r)))))))
/-- a bracket that is open: what comes behind it -/
inductive Op where
  | whil (c : Cd) (r : Pr)
  | fst (c : Cd) (q r : Pr)
  | snd (c : Cd) (p r : Pr)
/-- what still comes behind the program that is read: the rest of its sequence, then the brackets, the innermost first -/
def rest : Pr → List Op → List Nat
  | r, [] => semi r (pTx r)
  | r, .whil _ r2 :: fs => semi r (pTx r) ++ (93 :: rest r2 fs)
  | r, .fst c q r2 :: fs => semi r (pTx r) ++ (93 :: 32 :: 91 :: (pTx q ++ (93 :: rest r2 fs)))
  | r, .snd _ _ r2 :: fs => semi r (pTx r) ++ (93 :: rest r2 fs)
theorem leaf_text {l : Lf} {r : Pr} : ∀ (fs : List Op), (match fs with
    | [] => pTx (.leaf l r)
    | .whil _ r2 :: fs => pTx (.leaf l r) ++ (93 :: rest r2 fs)
    | .fst c q r2 :: fs => pTx (.leaf l r) ++ (93 :: 32 :: 91 :: (pTx q ++ (93 :: rest r2 fs)))
    | .snd _ _ r2 :: fs => pTx (.leaf l r) ++ (93 :: rest r2 fs)) = lTx l ++ rest r fs
  | [] => rfl
  | .whil _ r2 :: fs => by show (lTx l ++ semi r (pTx r)) ++ _ = _; rw [List.append_assoc]; rfl
  | .fst c q r2 :: fs => by show (lTx l ++ semi r (pTx r)) ++ _ = _; rw [List.append_assoc]; rfl
  | .snd _ _ r2 :: fs => by show (lTx l ++ semi r (pTx r)) ++ _ = _; rw [List.append_assoc]; rfl
/-- how much is left to read -/
def size : Pr → Nat
  | .nil => 0
  | .leaf _ r => size r + 1
  | .whil _ p r => size p + size r + 1
  | .cond _ p q r => size p + size q + size r + 1
end Prg

namespace Own
open PySem PySem.Spec PyProof.Rows L2 SX
/-! ### the first place at which two texts differ -/
/-! ### promises -/
/-- two templates as they lie -/
structure TwoT (C : Addr) (H : Hp) (p1 p2 : Addr) (gs hs : List Nat) (i1 i2 : List (List Nat)) : Prop where
  t1 : Tm C H p1 gs i1
  t2 : Tm C H p2 hs i2
  g1 : Good gs
  g2 : Good hs
  r1 : Row gs i1
  r2 : Row hs i2
  l1 : i1.length ≤ 100
  l2 : i2.length ≤ 100
theorem TwoT.same {C : Addr} {H H' : Hp} {p1 p2 : Addr} {gs hs : List Nat} {i1 i2 : List (List Nat)} (t : TwoT C H p1 p2 gs hs i1 i2) (s : Same H H') : TwoT C H' p1 p2 gs hs i1 i2 :=
  ⟨t.t1.same s, t.t2.same s, t.g1, t.g2, t.r1, t.r2, t.l1, t.l2⟩
end Own

/-! Pt1: patterns as they are read: a sequence of atoms and bars; their texts; what they tell between two places of a text -/
namespace Pt
open Cnd
inductive X where
  | nil
  | bar (r : X)
  | sym (s : Nat) (st : Bool) (r : X)
  | grp (g : X) (st : Bool) (r : X)
abbrev stT (st : Bool) : List Nat := if st then [42] else []
/-- the text -/
def tx : X → List Nat
  | .nil => []
  | .bar r => 124 :: tx r
  | .sym s st r => s :: (stT st ++ tx r)
  | .grp g st r => 40 :: (tx g ++ (41 :: (stT st ++ tx r)))
def app : X → X → X
  | .nil, y => y
  | .bar r, y => .bar (app r y)
  | .sym s st r, y => .sym s st (app r y)
  | .grp g st r, y => .grp g st (app r y)
def Ok (gs : List Nat) : X → Prop
  | .nil => True
  | .bar r => Ok gs r
  | .sym s _ r => (s ∈ gs ∨ s = 46) ∧ Ok gs r
  | .grp g _ r => Ok gs g ∧ Ok gs r
theorem Ok.app {gs : List Nat} : ∀ {x y : X}, Ok gs x → Ok gs y → Ok gs (app x y)
  | .nil, _, _, h => h
  | .bar r, _, h, k => Ok.app (x := r) h k
  | .sym _ _ r, _, ⟨a, h⟩, k => ⟨a, Ok.app (x := r) h k⟩
  | .grp _ _ r, _, ⟨a, h⟩, k => ⟨a, Ok.app (x := r) h k⟩
/-- how many signs read -/
def reads : X → Nat
  | .nil => 0
  | .bar r => reads r
  | .sym _ _ r => reads r + 1
  | .grp g _ r => reads g + reads r
/-! ### what is told between two places -/
abbrev Rel := Nat → Nat → Prop
def idR : Rel := fun i j => i = j
def thenR (P Q : Rel) : Rel := fun i j => ∃ k, P i k ∧ Q k j
inductive starR (P : Rel) : Rel
  | refl (i : Nat) : starR P i i
  | step {i k j : Nat} : starR P i k → P k j → starR P i j
def stR (st : Bool) (P : Rel) : Rel := if st then starR P else P
/-- a sign at a place of w: a point stands for each letter -/
def symR (w : List Nat) (s : Nat) : Rel := fun i j => j = i + 1 ∧ ∃ c, w[i]? = some c ∧ (s = c ∨ s = 46)
/-- P: what the row has told so far -/
def den (w : List Nat) : X → Rel → Rel
  | .nil, P => P
  | .bar r, P => fun i j => P i j ∨ den w r idR i j
  | .sym s st r, P => den w r (thenR P (stR st (symR w s)))
  | .grp g st r, P => den w r (thenR P (stR st (den w g idR)))
/-- the text w is one of the pattern's -/
def Told (w : List Nat) (x : X) : Prop := den w x idR 0 w.length
end Pt

/-! Pt2: sets of places; the net of a pattern -/
namespace Pt
abbrev Pl := Nat → Prop
/-! ### the net -/
structure Net where
  reads : List (List Nat)
  jumps : List (List Nat)
def Net.piece (N : Net) (r : List Nat) : Net := ⟨N.reads ++ [r, []], N.jumps ++ [[], []]⟩
def Net.link (N : Net) (a b : Nat) : Net := ⟨N.reads, N.jumps.modify a (· ++ [b])⟩
/-- the letters for which a sign stands -/
def rl (gs : List Nat) (s : Nat) : List Nat := if s = 46 then gs else if s ∈ gs then [s] else []
def Net.star (N : Net) (st : Bool) (a : Nat) : Net := if st then (N.link a (a + 1)).link (a + 1) a else N
end Pt

/-! Pt3: what a net reads; all told places are reached -/
namespace Pt
def Jp (N : Net) (a b : Nat) : Prop := ∃ l, N.jumps[a]? = some l ∧ b ∈ l
/-- F has all that N has -/
structure Ext (N F : Net) : Prop where
  rd : ∀ (n : Nat) (l : List Nat), N.reads[n]? = some l → F.reads[n]? = some l
  jp : ∀ a b, Jp N a b → Jp F a b
theorem Ext.refl (N : Net) : Ext N N := ⟨fun _ _ h => h, fun _ _ h => h⟩
theorem Ext.trans {A B C : Net} (h : Ext A B) (k : Ext B C) : Ext A C := ⟨fun n l e => k.rd n l (h.rd n l e), fun a b e => k.jp a b (h.jp a b e)⟩
/-- as many lists of jumps as of signs -/
def Wf (N : Net) : Prop := N.jumps.length = N.reads.length
theorem wf_link {N : Net} {a b : Nat} (h : Wf N) : Wf (N.link a b) ∧ (N.link a b).reads.length = N.reads.length := by
  refine ⟨?_, rfl⟩
  show (N.jumps.modify a (· ++ [b])).length = N.reads.length
  rw [List.length_modify]
  exact h
theorem wf_piece {N : Net} {r : List Nat} (h : Wf N) : Wf (N.piece r) ∧ (N.piece r).reads.length = N.reads.length + 2 := by
  refine ⟨?_, by show (N.reads ++ [r, []]).length = _; rw [List.length_append]; rfl⟩
  show (N.jumps ++ [[], []]).length = (N.reads ++ [r, []]).length
  rw [List.length_append, List.length_append, h]
  rfl
end Pt

/-! Pt4: all told places are reached -/
namespace Pt
end Pt

/-! Pt5: what the net reads, the pattern tells -/
namespace Pt
/-- V keeps to the edges of N, all of which lie in N -/
structure Cl (N : Net) (w : List Nat) (V : Nat → Pl) : Prop where
  jp : ∀ a b, Jp N a b → ∀ j, V a j → V b j
  rd : ∀ (n : Nat) (l : List Nat) (i c : Nat), N.reads[n]? = some l → w[i]? = some c → c ∈ l → V n i → V (n + 1) (i + 1)
  jb : ∀ a b, Jp N a b → a < N.reads.length ∧ b < N.reads.length
  rb : ∀ (n : Nat) (l : List Nat) (c : Nat), N.reads[n]? = some l → c ∈ l → n + 1 < N.reads.length
theorem jp_of_link {N : Net} {a b c d : Nat} (h : Jp (N.link a b) c d) : Jp N c d ∨ (c = a ∧ d = b) := by
  obtain ⟨l, e, m⟩ := h
  have e : (N.jumps.modify a (· ++ [b]))[c]? = some l := e
  rw [List.getElem?_modify] at e
  cases f : N.jumps[c]? with
  | none => rw [f] at e; simp at e
  | some k =>
    rw [f] at e
    by_cases g : a = c
    · have e : k ++ [b] = l := by simpa [g] using e
      subst e
      rcases List.mem_append.mp m with m | m
      · exact .inl ⟨k, f, m⟩
      · exact .inr ⟨g.symm, List.mem_singleton.mp m⟩
    · have e : k = l := by simpa [g] using e
      subst e
      exact .inl ⟨k, f, m⟩
end Pt

/-! Pt6: what the net reads, the pattern tells -/
namespace Pt
end Pt

/-! Pt7: rows and branches; the rounds of a star -/
namespace Pt
def more : X → Option X
  | .nil => none
  | .bar r => some r
  | .sym _ _ r => more r
  | .grp _ _ r => more r
/-! ### rounds -/
open Classical in
/-- how many places up to L -/
noncomputable def cnt (L : Nat) (P : Pl) : Nat := ((List.range (L + 1)).filter fun j => decide (P j)).length
end Pt

/-! Pt8: the nodes after so many signs -/
namespace Pt
inductive JS (N : Net) : Nat → Nat → Prop
  | refl (a : Nat) : JS N a a
  | step {a b c : Nat} : JS N a b → Jp N b c → JS N a c
end Pt

/-! Pt9: how many nodes read -/
namespace Pt
end Pt

/-! Pt10: the net sign by sign -/
namespace Pt
structure St where
  N : Net
  gr : List (Nat × Nat)
  now : Nat
  pc : Nat × Nat
def top (t : St) : Nat × Nat := t.gr.headD (0, 0)
def stp (gs : List Nat) (t : St) (c : Nat) : St :=
  if c = 124 then ⟨t.N.link t.now (top t).2, t.gr, (top t).1, t.pc⟩
  else if c = 42 then ⟨(t.N.link t.pc.1 t.pc.2).link t.pc.2 t.pc.1, t.gr, t.now, t.pc⟩
  else if c = 41 then ⟨t.N.link t.now (top t).2, t.gr.tail, (top t).2, top t⟩
  else if c = 40 then ⟨(t.N.piece (rl gs c)).link t.now t.N.reads.length, (t.N.reads.length, t.N.reads.length + 1) :: t.gr, t.N.reads.length, (t.N.reads.length, t.N.reads.length + 1)⟩
  else ⟨(t.N.piece (rl gs c)).link t.now t.N.reads.length, t.gr, t.N.reads.length + 1, (t.N.reads.length, t.N.reads.length + 1)⟩
/-- what holds of the net after i signs -/
structure OkSt (i : Nat) (t : St) : Prop where
  wf : Wf t.N
  gr : ∀ g ∈ t.gr, g.1 < t.N.reads.length ∧ g.2 < t.N.reads.length
  now : t.now < t.N.reads.length
  p1 : t.pc.1 < t.N.reads.length
  p2 : t.pc.2 < t.N.reads.length
  len : t.N.reads.length ≤ 2 + 2 * i
  jl : ∀ l ∈ t.N.jumps, l.length ≤ 2 * i
  two : 2 ≤ t.N.reads.length
  jb : ∀ a b, Jp t.N a b → b < t.N.reads.length
  gl : t.gr.length ≤ i + 1
  rb : ∀ n l, t.N.reads[n]? = some l → l ≠ [] → n + 1 < t.N.reads.length
theorem rb_piece {N : Net} {r : List Nat} (h : ∀ n l, N.reads[n]? = some l → l ≠ [] → n + 1 < N.reads.length) : ∀ n l, (N.piece r).reads[n]? = some l → l ≠ [] → n + 1 < N.reads.length + 2 := fun n l e ne => by
  have e : (N.reads ++ [r, []])[n]? = some l := e
  by_cases g : n < N.reads.length
  · omega
  · rw [List.getElem?_append_right (by omega)] at e
    match k : n - N.reads.length with
    | 0 => omega
    | 1 => rw [k] at e; simp at e; exact absurd (by first | exact e | exact e.symm) ne
    | j + 2 => rw [k] at e; simp at e
theorem jb_link {N : Net} {a b L : Nat} (h : ∀ a b, Jp N a b → b < L) (hb : b < L) : ∀ c d, Jp (N.link a b) c d → d < L := fun c d j => by
  rcases jp_of_link j with j | ⟨_, rfl⟩
  · exact h c d j
  · exact hb
theorem jb_piece {N : Net} {r : List Nat} {L : Nat} (h : ∀ a b, Jp N a b → b < L) : ∀ a b, Jp (N.piece r) a b → b < L := fun a b ⟨l, e, m⟩ => by
  have e : (N.jumps ++ [[], []])[a]? = some l := e
  by_cases g : a < N.jumps.length
  · rw [List.getElem?_append_left g] at e
    exact h a b ⟨l, e, m⟩
  · rw [List.getElem?_append_right (by omega)] at e
    have : l ∈ [([] : List Nat), []] := List.mem_of_getElem? e
    simp at this
    subst this
    cases m
theorem link_len {N : Net} {a b k : Nat} (h : ∀ l ∈ N.jumps, l.length ≤ k) : ∀ l ∈ (N.link a b).jumps, l.length ≤ k + 1 := by
  intro l hl
  obtain ⟨i, hi, e⟩ := List.mem_iff_getElem.mp hl
  have e2 : (N.jumps.modify a (· ++ [b]))[i]? = some l := by
    rw [← e]; exact List.getElem?_eq_getElem hi
  rw [List.getElem?_modify] at e2
  cases f : N.jumps[i]? with
  | none => rw [f] at e2; simp at e2
  | some q =>
    rw [f] at e2
    have hq := h q (List.mem_of_getElem? f)
    have e2 : some (if a = i then q ++ [b] else q) = some l := e2
    by_cases g : a = i
    · rw [if_pos g] at e2
      have : q ++ [b] = l := by simpa using e2
      rw [← this, List.length_append]
      exact Nat.add_le_add_right hq 1
    · rw [if_neg g] at e2
      have : q = l := by simpa using e2
      rw [← this]
      omega
theorem piece_len {N : Net} {r : List Nat} {k : Nat} (h : ∀ l ∈ N.jumps, l.length ≤ k) : ∀ l ∈ (N.piece r).jumps, l.length ≤ k := by
  intro l hl
  have hl : l ∈ N.jumps ++ [[], []] := hl
  rcases List.mem_append.mp hl with m | m
  · exact h l m
  · simp at m
    subst m
    exact Nat.zero_le _
theorem OkSt.step {gs : List Nat} {i c : Nat} {t : St} (h : OkSt i t) (ne : c = 124 ∨ c = 41 → t.gr ≠ []) : OkSt (i + 1) (stp gs t c) := by
  have htop : c = 124 ∨ c = 41 → top t ∈ t.gr := fun z => by
    have := ne z
    unfold top
    cases e : t.gr with
    | nil => exact absurd e this
    | cons a l => exact List.mem_cons_self ..
  have l0 := h.len
  unfold stp
  by_cases h1 : c = 124
  · rw [if_pos h1]
    have ht := h.gr _ (htop (.inl h1))
    exact ⟨(wf_link h.wf).1, h.gr, ht.1, h.p1, h.p2, by show t.N.reads.length ≤ _; omega, fun l m => Nat.le_trans (link_len h.jl l m) (by omega), h.two, jb_link h.jb ht.2, Nat.le_succ_of_le h.gl, h.rb⟩
  rw [if_neg h1]
  by_cases h2 : c = 42
  · rw [if_pos h2]
    exact ⟨(wf_link (wf_link h.wf).1).1, h.gr, h.now, h.p1, h.p2, by show t.N.reads.length ≤ _; omega, fun l m => Nat.le_trans (link_len (link_len h.jl) l m) (by omega), h.two, jb_link (jb_link h.jb h.p2) h.p1, Nat.le_succ_of_le h.gl, h.rb⟩
  rw [if_neg h2]
  by_cases h3 : c = 41
  · rw [if_pos h3]
    have ht := h.gr _ (htop (.inr h3))
    exact ⟨(wf_link h.wf).1, fun g m => h.gr g (List.mem_of_mem_tail m), ht.2, ht.1, ht.2, by show t.N.reads.length ≤ _; omega, fun l m => Nat.le_trans (link_len h.jl l m) (by omega), h.two, jb_link h.jb ht.2, by show t.gr.tail.length ≤ _; rw [List.length_tail]; have := h.gl; omega, h.rb⟩
  rw [if_neg h3]
  have w1 := wf_piece (r := rl gs c) h.wf
  have w2 := wf_link (a := t.now) (b := t.N.reads.length) w1.1
  have el : ((t.N.piece (rl gs c)).link t.now t.N.reads.length).reads.length = t.N.reads.length + 2 := w2.2.trans w1.2
  have hj : ∀ l ∈ ((t.N.piece (rl gs c)).link t.now t.N.reads.length).jumps, l.length ≤ 2 * (i + 1) := fun l m => Nat.le_trans (link_len (piece_len h.jl) l m) (by omega)
  have h0 := h.now
  have hb : ∀ a b, Jp ((t.N.piece (rl gs c)).link t.now t.N.reads.length) a b → b < t.N.reads.length + 2 := jb_link (jb_piece fun a b j => Nat.lt_of_lt_of_le (h.jb a b j) (Nat.le_add_right _ _)) (by omega)
  have hgr : ∀ g ∈ t.gr, g.1 < t.N.reads.length + 2 ∧ g.2 < t.N.reads.length + 2 := fun g m => by have := h.gr g m; omega
  by_cases h4 : c = 40
  · rw [if_pos h4]
    refine ⟨w2.1, fun g m => ?_, ?_, ?_, ?_, ?_, hj, ?_, ?_, ?_, fun n l e ne => el ▸ rb_piece h.rb n l e ne⟩
    · rw [el]
      rcases List.mem_cons.mp m with rfl | m
      · exact ⟨by show t.N.reads.length < _; omega, by show t.N.reads.length + 1 < _; omega⟩
      · exact hgr g m
    all_goals (show _; simp only [el]; first | omega | exact hb | exact Nat.succ_le_succ h.gl | exact Nat.le_succ_of_le h.gl)
  · rw [if_neg h4]
    refine ⟨w2.1, fun g m => ?_, ?_, ?_, ?_, ?_, hj, ?_, ?_, ?_, fun n l e ne => el ▸ rb_piece h.rb n l e ne⟩
    · rw [el]; exact hgr g m
    all_goals (show _; simp only [el]; first | omega | exact hb | exact Nat.succ_le_succ h.gl | exact Nat.le_succ_of_le h.gl)
end Pt

namespace Own
open PySem PySem.Spec PyProof.Rows L2 SX GenW
/-! ### programs as trees of nodes -/
/-- what stands directly in a program -/
def PrtH (H : Hp) (v : V) (ps : List V) : Prop := ∃ a kd xs, v = .ref a ∧ H a = some (.tup (.str kd :: xs)) ∧ xs.length ≤ 1000 ∧
  ((kd = Str.ofString "block" ∧ ps = xs) ∨ ((kd = Str.ofString "if" ∨ kd = Str.ofString "while") ∧ ∃ c, xs = c :: ps) ∨
   ((kd = Str.ofString "skip" ∨ kd = Str.ofString "fill" ∨ kd = Str.ofString "fail" ∨ kd = Str.ofString "call") ∧ ps = []))
/-- a program and all programs in it, in order -/
inductive Nod (H : Hp) : V → List V → Prop
  | mk {v : V} {ps : List V} {outs : List (List V)} (h : PrtH H v ps) (k : Paired (Nod H) ps outs) : Nod H v (v :: outs.flatten)
theorem Nod.inv {H : Hp} {v : V} {out : List V} (n : Nod H v out) : ∃ ps outs, PrtH H v ps ∧ Paired (Nod H) ps outs ∧ out = v :: outs.flatten := by
  cases n with
  | mk h k => exact ⟨_, _, h, k, rfl⟩
theorem PrtH.keep {H H' : Hp} {v : V} {ps : List V} (k : ∀ a xs, H a = some (.tup xs) → H' a = some (.tup xs)) (h : PrtH H v ps) : PrtH H' v ps := by
  obtain ⟨a, kd, xs, e, h1, h2, h3⟩ := h
  exact ⟨a, kd, xs, e, k _ _ h1, h2, h3⟩
theorem Nod.keep {H H' : Hp} (k : ∀ a xs, H a = some (.tup xs) → H' a = some (.tup xs)) : ∀ {v : V} {out : List V}, Nod H v out → Nod H' v out := by
  have main : ∀ (n : Nat) (v : V) (out : List V), out.length ≤ n → Nod H v out → Nod H' v out := by
    intro n
    induction n with
    | zero =>
      intro v out hl h
      obtain ⟨ps, outs, _, _, rfl⟩ := h.inv
      simp at hl
    | succ n ih =>
      intro v out hl h
      obtain ⟨ps, outs, hp, hk, rfl⟩ := h.inv
      refine .mk (hp.keep k) ?_
      replace hl : outs.flatten.length ≤ n := by rw [List.length_cons] at hl; omega
      clear hp h
      induction hk with
      | nil => exact .nil
      | cons e _ ih2 =>
        rw [List.flatten_cons, List.length_append] at hl
        exact .cons (ih _ _ (by omega) e) (ih2 (by omega))
  exact fun {v out} h => main out.length v out (Nat.le_refl _) h

/-! ### rules whose reading names the context's own fragment, with the fragment told -/
section
variable {X : Cx} {K : PySem.W.Frag} {a o e : Expr} {es : List Expr} {ta to te : TE} {t : TA} {name : Str} {apos cpos p pos : Pos} {T id : String} {r : V → List V → Hp → VK → Prop} {tg : Expr}
end

/-! ### whether conditions hold -/
end Own

namespace Own
open PySem PySem.Spec PyProof.Rows L2 SX GenW Prg Cnd
/-! ### programs as they lie; the states of a run -/
def LfH (H : Hp) : Lf → V → Prop
  | .skip, v => ∃ a, v = .ref a ∧ H a = some (.tup [.str (Str.ofString "skip")])
  | .fill _ x, v => ∃ a, v = .ref a ∧ H a = some (.tup [.str (Str.ofString "fill"), tx x])
  | .fail n, v => ∃ a, v = .ref a ∧ H a = some (.tup [.str (Str.ofString "fail"), tx n])
  | .call n, v => ∃ a, v = .ref a ∧ H a = some (.tup [.str (Str.ofString "call"), tx n])
/-- a sequence of programs as one program: it stands alone, or in a block -/
def Blk (H : Hp) (vs : List V) (v : V) : Prop := vs = [v] ∨ (2 ≤ vs.length ∧ ∃ a, v = .ref a ∧ H a = some (.tup (.str (Str.ofString "block") :: vs)))
def SqH (H : Hp) : Pr → List V → Prop
  | .nil, vs => vs = []
  | .leaf l r, vs => ∃ v ws, vs = v :: ws ∧ LfH H l v ∧ SqH H r ws
  | .whil c p r, vs => ∃ a x y ys ws, vs = .ref a :: ws ∧ H a = some (.tup [.str (Str.ofString "while"), x, y]) ∧ CdH H c x ∧ SqH H p ys ∧ Blk H ys y ∧ SqH H r ws
  | .cond c p q r, vs => ∃ a x y z ys zs ws, vs = .ref a :: ws ∧ H a = some (.tup [.str (Str.ofString "if"), x, y, z]) ∧ CdH H c x ∧ SqH H p ys ∧ Blk H ys y ∧ SqH H q zs ∧ Blk H zs z ∧ SqH H r ws
def PgH (H : Hp) (p : Pr) (v : V) : Prop := ∃ vs, SqH H p vs ∧ Blk H vs v
section
variable {H H' : Hp}
theorem LfH.keep (k : ∀ a xs, H a = some (.tup xs) → H' a = some (.tup xs)) : ∀ {l : Lf} {v : V}, LfH H l v → LfH H' l v
  | .skip, _, ⟨a, e, h⟩ | .fill _ _, _, ⟨a, e, h⟩ | .fail _, _, ⟨a, e, h⟩ | .call _, _, ⟨a, e, h⟩ => ⟨a, e, k _ _ h⟩
theorem Blk.keep (k : ∀ a xs, H a = some (.tup xs) → H' a = some (.tup xs)) {vs : List V} {v : V} (h : Blk H vs v) : Blk H' vs v :=
  h.elim .inl fun ⟨l, a, e, h⟩ => .inr ⟨l, a, e, k _ _ h⟩
theorem SqH.keep (k : ∀ a xs, H a = some (.tup xs) → H' a = some (.tup xs)) : ∀ {p : Pr} {vs : List V}, SqH H p vs → SqH H' p vs
  | .nil, _, h => h
  | .leaf l r, _, ⟨v, ws, e, h, i⟩ => ⟨v, ws, e, h.keep k, i.keep k⟩
  | .whil c p r, _, ⟨a, x, y, ys, ws, e, h, hc, hp, hb, hr⟩ => ⟨a, x, y, ys, ws, e, k _ _ h, hc.keep k, hp.keep k, hb.keep k, hr.keep k⟩
  | .cond c p q r, _, ⟨a, x, y, z, ys, zs, ws, e, h, hc, hp, hb, hq, hd, hr⟩ => ⟨a, x, y, z, ys, zs, ws, e, k _ _ h, hc.keep k, hp.keep k, hb.keep k, hq.keep k, hd.keep k, hr.keep k⟩
theorem PgH.keep (k : ∀ a xs, H a = some (.tup xs) → H' a = some (.tup xs)) {p : Pr} {v : V} (h : PgH H p v) : PgH H' p v := let ⟨vs, a, b⟩ := h; ⟨vs, a.keep k, b.keep k⟩
end
end Own

namespace Own
open PySem PySem.Spec PyProof.Rows L2 SX
/-! ### e[k].replace('y', 'z'): the number k makes the token that replace asks for -/
end Own

namespace Own
open PySem PySem.Spec PyProof.Rows L2 SX
/-! ### beginnings and ends; patterns c.* and .*c -/
end Own

namespace Own
open PySem PySem.Spec PyProof.Rows L2 SX
/-! ### a list against an empty one: its items are not looked at -/
end Own

/-! Prg2: how the text of a program is read: the brackets that are open, what was gathered before each of them -/
namespace Prg
open Cnd
def cat : Pr → Pr → Pr
  | .nil, q => q
  | .leaf l r, q => .leaf l (cat r q)
  | .whil c p r, q => .whil c p (cat r q)
  | .cond c p1 p2 r, q => .cond c p1 p2 (cat r q)
end Prg

namespace Own
open PySem PySem.Spec PyProof.Rows L2 SX GenW Prg Cnd
/-! ### programs that are being read: the stack of the brackets that are open -/
theorem sq_cat {H : Hp} {q : Pr} {ws : List V} (hq : SqH H q ws) : ∀ {p : Pr} {vs : List V}, SqH H p vs → SqH H (cat p q) (vs ++ ws)
  | .nil, _, h => by cases h; exact hq
  | .leaf l r, _, ⟨v, us, e, h, i⟩ => by subst e; exact ⟨v, us ++ ws, rfl, h, sq_cat hq i⟩
  | .whil c p r, _, ⟨a, x, y, ys, us, e, h, hc, hp, hb, hr⟩ => by subst e; exact ⟨a, x, y, ys, us ++ ws, rfl, h, hc, hp, hb, sq_cat hq hr⟩
  | .cond c p1 p2 r, _, ⟨a, x, y, z, ys, zs, us, e, h, hc, hp, hb, hp2, hb2, hr⟩ => by subst e; exact ⟨a, x, y, z, ys, zs, us ++ ws, rfl, h, hc, hp, hb, hp2, hb2, sq_cat hq hr⟩
/-- the head of a bracket, and what was closed of it -/
def HeadH (H : Hp) : Option Op → V → List V → Prop
  | none, v, cs => ∃ t, v = .ref t ∧ H t = some (.tup []) ∧ cs = []
  | some (.whil c _), v, cs => ∃ t y, v = .ref t ∧ H t = some (.tup [.str (Str.ofString "while"), y]) ∧ CdH H c y ∧ cs = []
  | some (.fst c _ _), v, cs => ∃ t y, v = .ref t ∧ H t = some (.tup [.str (Str.ofString "if"), y]) ∧ CdH H c y ∧ cs = []
  | some (.snd c p _), v, cs => ∃ t y x, v = .ref t ∧ H t = some (.tup [.str (Str.ofString "if"), y]) ∧ CdH H c y ∧ cs = [x] ∧ PgH H p x
def FrmH (H : Hp) (C : Addr) (o : Option Op) (d : Pr) (a cl g : Addr) : Prop :=
  ∃ dx hv cs vs, H a = some (.ins C dx [("head", hv), ("closed", .ref cl), ("gathered", .ref g)]) ∧ HeadH H o hv cs ∧ H cl = some (.lst cs) ∧ H g = some (.lst vs) ∧ SqH H d vs
def StkH (H : Hp) (C : Addr) : List (Op × Pr) → Pr → List Addr → List Addr → Prop
  | [], d, as, os => ∃ a cl g, as = [a] ∧ os = [a, cl, g] ∧ FrmH H C none d a cl g
  | (o, d2) :: fs, d, as, os => ∃ a cl g as2 os2, as = a :: as2 ∧ os = a :: cl :: g :: os2 ∧ FrmH H C (some o) d a cl g ∧ StkH H C fs d2 as2 os2
section
variable {H H' : Hp} {C : Addr}
theorem HeadH.keep (k : ∀ a xs, H a = some (.tup xs) → H' a = some (.tup xs)) : ∀ {o : Option Op} {v : V} {cs : List V}, HeadH H o v cs → HeadH H' o v cs
  | none, _, _, ⟨t, e, h, z⟩ => ⟨t, e, k _ _ h, z⟩
  | some (.whil c _), _, _, ⟨t, y, e, h, hc, z⟩ => ⟨t, y, e, k _ _ h, hc.keep k, z⟩
  | some (.fst c _ _), _, _, ⟨t, y, e, h, hc, z⟩ => ⟨t, y, e, k _ _ h, hc.keep k, z⟩
  | some (.snd c p _), _, _, ⟨t, y, x, e, h, hc, z, hp⟩ => ⟨t, y, x, e, k _ _ h, hc.keep k, z, hp.keep k⟩
theorem FrmH.keep {o : Option Op} {d : Pr} {a cl g : Addr} (k : ∀ a xs, H a = some (.tup xs) → H' a = some (.tup xs)) (ka : H' a = H a) (kc : H' cl = H cl) (kg : H' g = H g) (h : FrmH H C o d a cl g) : FrmH H' C o d a cl g := by
  obtain ⟨dx, hv, cs, vs, h1, h2, h3, h4, h5⟩ := h
  exact ⟨dx, hv, cs, vs, ka.trans h1, h2.keep k, kc.trans h3, kg.trans h4, h5.keep k⟩
theorem StkH.keep (k : ∀ a xs, H a = some (.tup xs) → H' a = some (.tup xs)) : ∀ {fs : List (Op × Pr)} {d : Pr} {as os : List Addr}, (∀ b ∈ os, H' b = H b) → StkH H C fs d as os → StkH H' C fs d as os
  | [], d, as, os, hk, ⟨a, cl, g, e1, e2, h⟩ => by
    subst e1 e2
    exact ⟨a, cl, g, rfl, rfl, h.keep k (hk _ (by simp)) (hk _ (by simp)) (hk _ (by simp))⟩
  | (o, d2) :: fs, d, as, os, hk, ⟨a, cl, g, as2, os2, e1, e2, h, t⟩ => by
    subst e1 e2
    exact ⟨a, cl, g, as2, os2, rfl, rfl, h.keep k (hk _ (by simp)) (hk _ (by simp)) (hk _ (by simp)), t.keep k fun b hb => hk b (by simp [hb])⟩
theorem StkH.has : ∀ {fs : List (Op × Pr)} {d : Pr} {as os : List Addr}, StkH H C fs d as os → ∀ b ∈ os, H b ≠ none
  | [], d, as, os, ⟨a, cl, g, e1, e2, dx, hv, cs, vs, h1, h2, h3, h4, h5⟩, b, hb => by
    subst e1 e2
    simp only [List.mem_cons, List.not_mem_nil, or_false] at hb
    rcases hb with rfl | rfl | rfl
    · rw [h1]; exact fun z => nomatch z
    · rw [h3]; exact fun z => nomatch z
    · rw [h4]; exact fun z => nomatch z
  | (o, d2) :: fs, d, as, os, ⟨a, cl, g, as2, os2, e1, e2, ⟨dx, hv, cs, vs, h1, h2, h3, h4, h5⟩, t⟩, b, hb => by
    subst e1 e2
    simp only [List.mem_cons] at hb
    rcases hb with rfl | rfl | rfl | hb
    · rw [h1]; exact fun z => nomatch z
    · rw [h3]; exact fun z => nomatch z
    · rw [h4]; exact fun z => nomatch z
    · exact t.has b hb
theorem StkH.top : ∀ {fs : List (Op × Pr)} {d : Pr} {as os : List Addr}, StkH H C fs d as os → ∃ a cl g as2 os2 o, as = a :: as2 ∧ os = a :: cl :: g :: os2 ∧ FrmH H C o d a cl g ∧
    ∀ (H' : Hp) (d' : Pr) (g' : Addr), (∀ a xs, H a = some (.tup xs) → H' a = some (.tup xs)) → (∀ b ∈ os2, H' b = H b) → FrmH H' C o d' a cl g' → StkH H' C fs d' as (a :: cl :: g' :: os2)
  | [], d, as, os, ⟨a, cl, g, e1, e2, h⟩ => ⟨a, cl, g, [], [], _, e1, e2, h, fun H' d' g' _ _ h' => ⟨a, cl, g', e1, rfl, h'⟩⟩
  | (o, d2) :: fs, d, as, os, ⟨a, cl, g, as2, os2, e1, e2, h, t⟩ => ⟨a, cl, g, as2, os2, _, e1, e2, h, fun H' d' g' k hk h' => ⟨a, cl, g', as2, os2, e1, rfl, h', t.keep k hk⟩⟩
theorem StkH.len : ∀ {fs : List (Op × Pr)} {d : Pr} {as os : List Addr}, StkH H C fs d as os → as.length = fs.length + 1
  | [], d, as, os, ⟨a, cl, g, e1, e2, h⟩ => by subst e1; rfl
  | (o, d2) :: fs, d, as, os, ⟨a, cl, g, as2, os2, e1, e2, h, t⟩ => by subst e1; have := t.len; rw [List.length_cons, List.length_cons]; omega
end
/-- the stack as it lies, all of it new since H0 -/
def StkAt (H0 H : Hp) (C FL : Addr) (fs : List (Op × Pr)) (d : Pr) : Prop :=
  ∃ as os, H FL = some (.lst (as.reverse.map V.ref)) ∧ (FL :: os).Nodup ∧ StkH H C fs d as os ∧ (∀ b ∈ FL :: os, H0 b = none) ∧ Same H0 H
theorem StkAt.same {H0 H H' : Hp} {C FL : Addr} {fs : List (Op × Pr)} {d : Pr} (h : StkAt H0 H C FL fs d) (s : Same H H') : StkAt H0 H' C FL fs d := by
  obtain ⟨as, os, h1, h2, h3, h4, h5⟩ := h
  refine ⟨as, os, s _ _ h1, h2, h3.keep (fun a xs e => s _ _ e) fun b hb => ?_, h4, h5.trans s⟩
  cases e : H b with
  | none => exact absurd e (h3.has b hb)
  | some o => exact s _ _ e
theorem none_of' {H H' : Hp} (s : Same H H') {p : Addr} (h : H' p = none) : H p = none := by
  cases e : H p with
  | none => rfl
  | some o => rw [s _ _ e] at h; cases h
/-- the innermost bracket, and how something is put behind what it has gathered -/
theorem StkAt.top {H0 H : Hp} {C FL : Addr} {fs : List (Op × Pr)} {d : Pr} (h : StkAt H0 H C FL fs d) : ∃ (as2 : List Addr) (a cl g dx : Addr) (hv : V) (vs : List V),
    H FL = some (.lst (as2.map V.ref ++ [V.ref a])) ∧ as2.length = fs.length ∧ H a = some (.ins C dx [("head", hv), ("closed", .ref cl), ("gathered", .ref g)]) ∧ H g = some (.lst vs) ∧ SqH H d vs ∧ H0 g = none ∧
    ∀ (v : V) (nd : Pr), SqH H nd [v] → StkAt H0 (upd H g (.lst (vs ++ [v]))) C FL fs (cat d nd) := by
  obtain ⟨as, os, h1, h2, h3, h4, h5⟩ := h
  have hla := h3.len
  have hall := h3.has
  obtain ⟨a, cl, g, as2, os2, o, rfl, rfl, ⟨dx, hv, cs, vs, k1, k2, k3, k4, k5⟩, hs⟩ := h3.top
  have nd : FL ∉ (a :: cl :: g :: os2) ∧ a ∉ (cl :: g :: os2) ∧ cl ∉ (g :: os2) ∧ g ∉ os2 ∧ os2.Nodup := by
    simpa only [List.nodup_cons] using h2
  obtain ⟨n1, n2, n3, n4, n5⟩ := nd
  have tk : ∀ b xs, H b = some (.tup xs) → ∀ o, upd H g o b = some (.tup xs) := fun b xs e o => by
    rw [upd_ne (fun z => by rw [z, k4] at e; cases e)]; exact e
  refine ⟨as2.reverse, a, cl, g, dx, hv, vs, by rw [h1, List.reverse_cons, List.map_append]; rfl, by rw [List.length_reverse]; simpa using hla, k1, k4, k5, h4 g (by simp), fun v nd hn => ?_⟩
  refine ⟨a :: as2, a :: cl :: g :: os2, ?_, h2, ?_, h4, fun b o e => ?_⟩
  · rw [upd_ne (fun e => n1 (by rw [e]; simp))]; exact h1
  · refine hs _ _ g (fun b xs e => tk b xs e _) (fun b hb => upd_ne (fun e => n4 (by rw [← e]; exact hb))) ⟨dx, hv, cs, vs ++ [v], ?_, k2.keep fun b xs e => tk b xs e _, ?_, upd_same, sq_cat (hn.keep fun b xs e => tk b xs e _) (k5.keep fun b xs e => tk b xs e _)⟩
    · rw [upd_ne (fun e => n2 (by rw [e]; simp))]; exact k1
    · rw [upd_ne (fun e => n3 (by rw [e]; simp))]; exact k3
  · rw [upd_ne (fun z => by rw [z, h4 g (by simp)] at e; cases e)]; exact h5 _ _ e
/-- a bracket is opened -/
theorem StkAt.push {H0 H H4 : Hp} {C FL a cl g dx : Addr} {fs : List (Op × Pr)} {d : Pr} {o : Op} {hv : V} (h : StkAt H0 H C FL fs d) (s : Same H H4) (na : H a = none) (nc : H cl = none) (ng : H g = none) (n1 : a ≠ cl) (n2 : a ≠ g) (n3 : cl ≠ g)
    (ha : H4 a = some (.ins C dx [("head", hv), ("closed", .ref cl), ("gathered", .ref g)])) (hc : H4 cl = some (.lst [])) (hg : H4 g = some (.lst [])) (hh : HeadH H4 (some o) hv []) :
    ∃ xs, H4 FL = some (.lst xs) ∧ xs.length = fs.length + 1 ∧ StkAt H0 (upd H4 FL (.lst (xs ++ [V.ref a]))) C FL ((o, d) :: fs) .nil := by
  obtain ⟨as, os, h1, h2, h3, h4, h5⟩ := h.same s
  obtain ⟨as', os', g1, g2, g3, g4, g5⟩ := h
  have hF := s _ _ g1
  have z0 : ∀ b, H b = none → H0 b = none := fun b e => none_of' g5 e
  have old : ∀ b, H b ≠ none → b ≠ a ∧ b ≠ cl ∧ b ≠ g := fun b e => ⟨fun z => e (z ▸ na), fun z => e (z ▸ nc), fun z => e (z ▸ ng)⟩
  have hFn : H FL ≠ none := by rw [g1]; exact fun z => nomatch z
  have hos : ∀ b ∈ os', H b ≠ none := g3.has
  have g3' : StkH H4 C fs d as' os' := g3.keep (fun b xs e => s _ _ e) fun b hb => by
    cases e : H b with
    | none => exact absurd e (hos b hb)
    | some o => exact s _ _ e
  have tk : ∀ b xs, H4 b = some (.tup xs) → ∀ o, upd H4 FL o b = some (.tup xs) := fun b xs e o => by
    rw [upd_ne (fun z => by rw [z, hF] at e; cases e)]; exact e
  have nd := List.nodup_cons.mp g2
  refine ⟨_, hF, by rw [List.length_map, List.length_reverse]; exact g3.len, a :: as', a :: cl :: g :: os', by rw [upd_same, List.reverse_cons, List.map_append]; rfl, ?_, ⟨a, cl, g, as', os', rfl, rfl, ⟨dx, hv, [], [], ?_, hh.keep fun b xs e => tk b xs e _, ?_, ?_, rfl⟩, ?_⟩, ?_, ?_⟩
  · have oF := old FL hFn
    simp only [List.nodup_cons, List.mem_cons, not_or]
    exact ⟨⟨oF.1, oF.2.1, oF.2.2, nd.1⟩, ⟨n1, n2, fun h => (old a (hos a h)).1 rfl⟩, ⟨n3, fun h => (old cl (hos cl h)).2.1 rfl⟩, fun h => (old g (hos g h)).2.2 rfl, nd.2⟩
  · rw [upd_ne (old FL hFn).1.symm]; exact ha
  · rw [upd_ne (old FL hFn).2.1.symm]; exact hc
  · rw [upd_ne (old FL hFn).2.2.symm]; exact hg
  · exact g3'.keep (fun b xs e => tk b xs e _) fun b hb => upd_ne (fun z => nd.1 (z ▸ hb))
  · intro b hb
    simp only [List.mem_cons] at hb
    rcases hb with rfl | rfl | rfl | rfl | hb
    · exact g4 _ (by simp)
    · exact z0 _ na
    · exact z0 _ nc
    · exact z0 _ ng
    · exact g4 _ (by simp [hb])
  · intro b o e
    have : b ≠ FL := fun z => by rw [z, g4 FL (by simp)] at e; cases e
    rw [upd_ne this]
    exact s _ _ (g5 _ _ e)
/-- the stack of a text whose reading begins -/
theorem StkAt.first {H0 H : Hp} {C FL a cl g dx t : Addr} (s : Same H0 H) (nF : H0 FL = none) (na : H0 a = none) (nc : H0 cl = none) (ng : H0 g = none) (m1 : FL ≠ a) (m2 : FL ≠ cl) (m3 : FL ≠ g) (n1 : a ≠ cl) (n2 : a ≠ g) (n3 : cl ≠ g)
    (hF : H FL = some (.lst [.ref a])) (ha : H a = some (.ins C dx [("head", .ref t), ("closed", .ref cl), ("gathered", .ref g)])) (ht : H t = some (.tup [])) (hc : H cl = some (.lst [])) (hg : H g = some (.lst [])) : StkAt H0 H C FL [] .nil := by
  refine ⟨[a], [a, cl, g], hF, ?_, ⟨a, cl, g, rfl, rfl, dx, .ref t, [], [], ha, ⟨t, rfl, ht, rfl⟩, hc, hg, rfl⟩, ?_, s⟩
  · simp [m1, m2, m3, n1, n2, n3]
  · intro b hb
    simp only [List.mem_cons, List.not_mem_nil, or_false] at hb
    rcases hb with rfl | rfl | rfl | rfl <;> assumption
end Own

namespace Own
open PySem PySem.Spec PyProof.Rows L2 SX GenW
/-! ### a comprehension over a generator: [e for x in g(..) if t] -/
section
variable {X : Cx} {k : Nat} {nm : List Str} {pins : List (Addr × Obj)} {σ : L2.St} {H : Hp} {s : Shared}
/-- what is known throughout a loop over a generator -/
structure OverC (X : Cx) (gp : Gp) (H1 : Hp) : Prop where
  P : gp.P = X.prog
  w : gp.w = X.w
  base : gp.base = X.base
  outer : gp.outer = X.stack
  os : gp.os = X.s_0.os
  sub : ∀ b o, gp.Hg b = some o → H1 b = some o ∧ ∃ xs, o = .tup xs
  old : ∀ b o, H1 b = some o → b < gp.sz
  l0 : X.s_0.heap.objs.size ≤ gp.sz
  lC : ∀ x c, X.env.cells.lookup x = some c → c < gp.sz
  frz : ∀ b o u, X.H_0 b = some (.frz o u) → b < gp.sz
theorem OverC.tup {gp : Gp} {H1 H : Hp} (V : OverC X gp H1) (k : KeepT H1 H) : ∀ b o, gp.Hg b = some o → H b = some o ∧ ∃ xs, o = .tup xs := fun b o e => by
  obtain ⟨h, xs, rfl⟩ := V.sub b o e
  exact ⟨k b xs h, xs, rfl⟩
end
section
variable {X : Cx} {k : Nat} {nm : List Str}
end
end Own

namespace Own
open PySem PySem.Spec PyProof.Rows L2 SX
/-! ### a head told by facts, with dicts of the top: their keys' hashes are the world's own -/
abbrev DcA : Type := (PySem.W.Frag → Addr) × List Str
def obsD (n : List Addr) (fs : List Fct) (fn : List He5.DefA) (tf : List (PySem.W.Frag → Addr)) (dk : List DcA) (g : Addr → Option Obj) : (Bool × List He.FnW) × List (Option (List (Option (Str × Int)))) :=
  (obsO n fs fn tf g, dk.map fun d : DcA => He.dicW (partO n g) (d.1 (partO n g)))
structure ToldD (fs : List Fct) (fn : List He5.DefA) (tf : List (PySem.W.Frag → Addr)) (dk : List DcA) (w : World) (h : Heap) (K : PySem.W.Frag) : Prop where
  told : Told fs fn tf h K
  dics : dk.map (fun d : DcA => He.dicW K (d.1 K)) = dk.map fun d : DcA => some (He.keysIn w.params d.2)
def hookD (n : List Addr) (fs : List Fct) (fn : List He5.DefA) (tf : List (PySem.W.Frag → Addr)) (dk : List DcA) : PySem.W.Hook where
  α := (Bool × List He.FnW) × List (Option (List (Option (Str × Int))))
  obs := fun s => obsD n fs fn tf dk s.heap.get?
  val := fun w => ((true, fn.map He5.DefA.val), dk.map fun d : DcA => some (He.keysIn w.params d.2))
  says := fun w h => ∃ K : PySem.W.Frag, K.In h ∧ ToldD fs fn tf dk w h K
  of := fun _ _ e => ⟨_, He.frT_in, told_of (congrArg Prod.fst e), congrArg Prod.snd e⟩
  keeps := fun _ _ _ ⟨K, hK, c⟩ k => ⟨K, PySem.W.Frag.In.keeps hK k, ⟨⟨c.told.facts, c.told.oks, c.told.defs, c.told.hd, c.told.out, fun p hp => k _ _ (c.told.empty p hp)⟩, c.dics⟩⟩
theorem obsD_eq {n : List Addr} {fs : List Fct} {fn : List He5.DefA} {tf : List (PySem.W.Frag → Addr)} {dk : List DcA} (s : PySem.W.SharedT) : obsD n fs fn tf dk (HandSHeadRun.getT s) = (hookD n fs fn tf dk).obs s.abs := by
  have e : HandSHeadRun.getT s = s.abs.heap.get? := funext (HandSHeadRun.getT_eq s)
  rw [e]
  rfl
theorem ToldD.dic {fs : List Fct} {fn : List He5.DefA} {tf : List (PySem.W.Frag → Addr)} {dk : List DcA} {w : World} {h : Heap} {K : PySem.W.Frag} (c : ToldD fs fn tf dk w h K) (i : Nat) {d : DcA} (e : dk[i]? = some d := by rfl) : ∃ es n, KDict K w (d.1 K) es n := by
  have h1 := congrArg (fun l : List (Option (List (Option (Str × Int)))) => l[i]?) c.dics
  simp only [List.getElem?_map, e] at h1
  exact He.dicW_ok (Option.some.inj h1)
end Own

namespace Own
open PySem PySem.Spec PyProof.Rows L2 SX
/-! ### d.get(y, x) where d is a dict of the module's top -/
end Own

namespace Own
open PySem PySem.Spec PyProof.Rows L2 SX RZ
open Builtin Builtin.ObjectAttr
/-! ### own errors over LookupError with a further field; made with arguments -/
section
variable {prog : Program} {w : World} {A : Around} {R : Result → Shared → Prop} {hp : Heap} {gens : Array GenState} {dr : Drawn} {tk0 : Nat} {os : OsState} {K : PySem.W.Frag} {nm : Str} {tk : Tok} {v : Value} {e C dx : Addr} {fv : Array Value} {cd : ClassData}
end
section
variable {X : Cx} {pins : List (Addr × Obj)} {σ : L2.St} {H : Hp} {s : Shared} {a C dx : Addr} {f : Str} {y : V} {u : Value} {fs : List (Str × V)} {Q : Unit → Shared → Prop} {E : Value → Shared → Prop} {A : Around}
end
end Own

namespace Own
open PySem PySem.Spec PyProof.Rows L2 SX
/-! ### x in o, x not in o by an own __contains__ -/
section
variable {X : Cx} {CX : CXT} {n : Nat} {C f : Addr} {fd : FuncData} {ps : List Str} {sp : Sp} {E : XK}
end
end Own

namespace Own
open PySem PySem.Spec PyProof.Rows L2 SX HotX L2H
/-! ### own errors raised where the context is told: C(e, ..) of a calm place, C() from None in an except suite -/
/-- C(e, ..), an own error, told with its context -/
theorem pmkN_oex {X : Cx} {CX : CXT} {x : Str} {C fI : Addr} {k : Nat} {fd : FuncData} {e : Expr} {es : List Expr} {ta : TA} {p pos : Pos} {ps : List Str} {sp : Sp} (T : OexC X.K C)
    (iC : PySem.W.findIn X.K (.ref C) "__init__" = some (some (.ref fI))) (tI : PySem.W.typeIn X.K (.ref fI) = some (.type "function"))
    (F1 : FnOk X.prog X.w X.K X.mg X.base CX k fI fd ps sp) (hr : Room (k + 1) X.A) (hb : Binds X.K fd ps [])
    (hx : Passes CX X (fun _ _ _ => False)) (hg : Gl X x) (hm : X.mg x = some (.ref C)) (ha : PA X (e :: es) ta)
    (hdb : (x == ("__debug__" : Str)) = false := by decide)
    (he : starEach (e :: es) X.env = (false, eval e X.env) :: starEach es X.env := by rfl)
    (hpl : (backTo pos (starEach es X.env)).any (·.1) = false := by rfl) :
    L2N.PMk X (.Call (.Name x p) (e :: es) [] pos) (tMkO C sp [] ta) := by
  rintro pins st σ H Q I want
  obtain ⟨n0, q0, N0, b0, bm, s0, u0, a0, c0, m0, z0, z1, z2, z3, z5, hCls, hmro⟩ := T.cls
  refine wpAny_Call_Name_kw (ld_glob I hg hm (PySem.W.callWith_K (h₀ := X.base) I.ok.mod.kin T.kC
    (thn (ha.run pos pins st σ H _ I want) fun us sA ⟨vs, HA, IA, rel, hlen, ask⟩ => ⟨IA.kIn, ?_⟩) he hpl) hdb)
  show wpAny _ _ (call (.ref C) us) _ _ _
  obtain ⟨hA, gA, dA, tA, oA⟩ := sA
  let E0 : Addr := hA.objs.size + 1
  let hN := (hA.push (PySem.W.kdv_tup us)).push (PySem.HandSPX.excO C hA.objs.size)
  have lt1 : hA.objs.size ≤ E0 := Nat.le_succ _
  have ask1 := ask E0 (IA.hok.fresh lt1)
  rw [List.append_nil] at ask1
  have keep1 : ∀ y o, hA.get? y = some o → hN.get? y = some o := fun y o w =>
    Heap.get?_push_of_some _ (Heap.get?_push_of_some _ w)
  have got1 : hN.get? E0 = some (PySem.HandSPX.excO C hA.objs.size) := by
    show ((hA.push (PySem.W.kdv_tup us)).push (PySem.HandSPX.excO C hA.objs.size)).get? (hA.objs.size + 1) = _
    heap_get
  have J2 : Inv X pins σ (upd HA E0 (exo E0 C none)) ⟨hN, gA, dA, tA, oA⟩ := IA.laid (t' := tA) keep1 lt1 (exo_ok got1)
  have rel2 : Vals (V.ref E0 :: vs) (Value.ref E0 :: us) := .cons rfl rel
  have len2 : (Value.ref E0 :: us ++ []).length = ps.length := by
    rw [List.append_nil, ← rel2.length]
    exact F1.len _ _ _ _ ask1
  have few : us.length ≤ sizeLine := by
    have := Paired.length rel
    rw [sizeLine_eq]; omega
  have bound := hb _ (Value.ref E0 :: us) J2.kIn len2
  rw [List.append_nil] at bound
  have init := F1.run _ X.stack ⟨hN, gA, dA, tA, oA⟩ _ ⟨Value.ref E0 :: us, []⟩ (Value.ref E0 :: us) _ _ (fun _ _ _ => False)
    (hr.make C us []) (J2.env0.make C us []) bound rel2 ask1
  refine wpAny_call (PySem.HandSPX.call_own F.excBase_ValueError (fun Y => PySem.HandSPX.refsVE_contains Y bm hmro) (IA.kIn _ _ hCls)
    (PySem.W.looks_findIn IA.kIn iC) (fun self => PySem.W.bind_fn IA.kIn self tI) few (codeAny_mono init fun r sE out => ?_))
  cases r with
  | error er => exact hx pins σ _ _ er sE J2 out
  | ok fl =>
    cases fl with
    | ret u0 =>
      obtain ⟨vv, HH, pO, pB, pU, pH, rvv, evv, dd1, fs1, eA, eD, hD1, qq⟩ := out
      subst evv
      obtain ⟨hz2, gz2, dz2, tz2, oz2⟩ := sE
      obtain ⟨tG, GG, JJ, kGG, geG, hoe, naG⟩ := mk_end0 (d2 := dz2) (t2 := tz2) IA lt1 keep1 pU pH pO pB eA eD hD1
      exact ⟨rvv, E0, _, _, ⟨GG, gz2, dz2, tz2, oz2⟩, _, .ref C, some dd1, rfl, JJ, kGG, geG, hoe, (by refine ⟨rfl, rfl, fun ws hw => ?_⟩; cases hw; rfl), rfl, rfl, naG, rfl, pB, raises_own T.exC T.tyC, qq⟩
    | next => exact out.elim
    | brk => exact out.elim
    | cont => exact out.elim
/-- C() while an error is handled -/
theorem pmk5_oexH0 {X : Cx} {CX : CXT} {x : Str} {p pos : Pos} {C fI : Addr} {k : Nat} {fd : FuncData} {ps : List Str} {sp : Sp} (T : OexC X.K C)
    (iC : PySem.W.findIn X.K (.ref C) "__init__" = some (some (.ref fI))) (tI : PySem.W.typeIn X.K (.ref fI) = some (.type "function"))
    (F1 : L2H.FnH X.prog X.w X.K X.mg X.base CX k fI fd ps sp) (hr : L2H.RoomH (k + 1) X.A) (hc : L2H.HotC X) (hb : Binds X.K fd ps [])
    (hx : Passes CX X (fun _ _ _ => False)) (hg : Gl X x) (hm : X.mg x = some (.ref C)) (hdb : (x == ("__debug__" : Str)) = false := by decide) :
    L2H.PMk5 X (.Call (.Name x p) [] [] pos) (tMkO C sp [] tNil) := by
  rintro pins ⟨hA, gA, dA, tA, oA⟩ σ H Q I ⟨_, ask⟩
  obtain ⟨n0, q0, N0, b0, bm, s0, u0, a0, c0, m0, z0, z1, z2, z3, z5, hCls, hmro⟩ := T.cls
  obtain ⟨hd, hot1, hin⟩ := hc
  let E0 : Addr := hA.objs.size + 1
  let hN := (hA.push (PySem.W.kdv_tup [])).push (PySem.HandSPX.excO C hA.objs.size)
  have lt1 : hA.objs.size ≤ E0 := Nat.le_succ _
  have ask1 := ask E0 (I.hok.fresh lt1)
  have keep1 : ∀ y o, hA.get? y = some o → hN.get? y = some o := fun y o w =>
    Heap.get?_push_of_some _ (Heap.get?_push_of_some _ w)
  have got1 : hN.get? E0 = some (PySem.HandSPX.excO C hA.objs.size) := by
    show ((hA.push (PySem.W.kdv_tup [])).push (PySem.HandSPX.excO C hA.objs.size)).get? (hA.objs.size + 1) = _
    heap_get
  have J2 : Inv X pins σ (upd H E0 (exo E0 C none)) ⟨hN, gA, dA, tA, oA⟩ := I.laid (t' := tA) keep1 lt1 (exo_ok got1)
  have rel2 : Vals [V.ref E0] [Value.ref E0] := .cons rfl .nil
  have bound := hb _ [Value.ref E0] J2.kIn (F1.len _ _ _ _ ask1)
  have pin1 := J2.pin hd (List.mem_append_left _ hin)
  have pinned : L2H.PinOk X.stack (upd H E0 (exo E0 C none)) ⟨hN, gA, dA, tA, oA⟩ hd :=
    ⟨pin1.1, pin1.2.1, fun w => (List.mem_cons.mp (J2.stkSub hd.1 w)).elim pin1.2.2.1 pin1.2.2.2.1, pin1.2.2.2.2⟩
  have init := F1.run _ X.stack ⟨hN, gA, dA, tA, oA⟩ _ ⟨[Value.ref E0], []⟩ [Value.ref E0] _ _ (fun _ _ _ => False) hd
    (hr.make C [] []) ⟨hot1.1, hot1.2⟩ pinned (J2.env0.make C [] []) bound rel2 ask1
  refine wpAny_Call_Name_kw (ld_glob I hg hm (PySem.W.callWith_K0 I.kIn T.kC (wpAny_call
    (PySem.HandSPX.call_own F.excBase_ValueError (fun Y => PySem.HandSPX.refsVE_contains Y bm hmro) (I.kIn _ _ hCls)
      (PySem.W.looks_findIn I.kIn iC) (fun self => PySem.W.bind_fn I.kIn self tI) (Nat.zero_le _) (codeAny_mono init fun r sE out => ?_)))) hdb)
  cases r with
  | error er => exact hx pins σ _ _ er sE J2 out
  | ok fl =>
    cases fl with
    | ret u0 =>
      obtain ⟨vv, HH, pO, pB, pU, pH, rvv, evv, dd1, fs1, eA, eD, hD1, qq⟩ := out
      subst evv
      obtain ⟨hz2, gz2, dz2, tz2, oz2⟩ := sE
      obtain ⟨tG, GG, JJ, kGG, geG, hoe, naG⟩ := mk_end0 (d2 := dz2) (t2 := tz2) I lt1 keep1 pU pH pO pB eA eD hD1
      exact ⟨rvv, ⟨E0, _, _, ⟨GG, gz2, dz2, tz2, oz2⟩, _, .ref C, some dd1, rfl, JJ, kGG, geG, hoe, (by refine ⟨rfl, rfl, fun ws hw => ?_⟩; cases hw; rfl), rfl, rfl, naG, rfl, pB, raises_own T.exC T.tyC, qq⟩,
        fun b ob ws w1 w2 w3 => by
          cases w1
          have w4 : hz2.get? (hA.objs.size + 1) = some ob := w2
          rw [hoe] at w4
          cases w4
          cases w3
          exact (by decide : 4 < 6)⟩
    | next => exact out.elim
    | brk => exact out.elim
    | cont => exact out.elim
/-- as okX, for a def whose errors are told with their context -/
theorem okN {P : Program} {w : World} {K : PySem.W.Frag} {mg : Str → Option Value} {base : Heap} {x qual : Str} {st : Stmt} {f : Addr} {fd : FuncData} {N ps : List Str} {k : Nat} {sp : Sp} (F : Fun K x qual st f fd)
    (S : FnScope N ps (defScope st)) (len : ∀ vs H Q E, sp vs H Q E → vs.length = ps.length)
    (body : ∀ (cdv : Value) (A : Around) (outer : List Env) (s : Shared) (H : Hp) (vs : List V) (Q : VK) (E : XK),
      Room k (A.deeper (envOfC qual (defScope st) s.heap.objs.size f cdv)) → sp vs H Q E →
      ∃ t, PSs (cxOf (L2N.CX P w) P w K mg base N qual (defScope st) f cdv A outer s H E) (defBody st) t ∧
        t { nx := fun _ H' => Q .non H', rt := Q } (L2.start N vs) H) :
    FnOk P w K mg base (L2N.CX P w) (k + 1) f fd ps sp := by
  obtain ⟨oc, od, kV, doc, pm, an, cdv, ct, osl, rfl, lk, hcd⟩ := F.ex
  exact fn_of lk hcd S len fun A outer s H vs Q E hr hs => body cdv A outer s H vs Q E hr hs
end Own

/-! Pt11: sets of nodes while a text is read -/
namespace Pt
noncomputable def dec (p : Prop) : Bool := @decide p (Classical.propDecidable p)
/-- a node that stays: it reads something, or it is the last -/
def Stay (N : Net) (m : Nat) : Prop := (∃ l, N.reads[m]? = some l ∧ l ≠ []) ∨ m = 1
noncomputable def all (N : Net) : List Nat := (List.range N.reads.length).filter fun m => dec (Stay N m)
noncomputable def jmp (N : Net) (S : Nat → Prop) : List Nat := (all N).filter fun m => dec (∃ n, S n ∧ JS N n m)
/-- what reading the p-th letter leads to -/
def rdS (N : Net) (gs k : List Nat) (p : Nat) : Nat → Prop := fun m => ∃ n, n ∈ k ∧ m = n + 1 ∧ ∃ l c, N.reads[n]? = some l ∧ gs[p]? = some c ∧ c ∈ l
noncomputable def nx (N : Net) (gs k : List Nat) (p : Nat) : List Nat := jmp N (rdS N gs k p)
/-! ### few sets -/
def subs : List Nat → List (List Nat)
  | [] => [[]]
  | a :: l => subs l ++ (subs l).map (a :: ·)
end Pt

/-! Pt12: few rooms -/
namespace Pt
noncomputable def rooms (N : Net) : List (List Nat) := subs (all N)
end Pt

/-! Pt13: heads of rows, how deep groups lie, places within the word -/
namespace Pt
def dep : X → Nat
  | .nil => 0
  | .bar r => dep r
  | .sym _ _ r => dep r
  | .grp g _ r => max (dep g + 1) (dep r)
/-- what follows a row begins with no sign of a row -/
def Ends (t : List Nat) : Prop := ∀ c r, t = c :: r → c = 124 ∨ c = 41
end Pt

namespace Own
open PySem PySem.Spec PyProof.Rows L2 SX RZ
def topS (i : Nat) : Stmt :=
  PySem.Challenge.pw_ownfill_k39_texts_of_conditions_refused.main.body.getD i (.Pass ⟨0, 0, 0, 0⟩)
section
variable {P : Program} {w : World} {K : PySem.W.Frag} {mg : Str → Option Value} {base : Heap}
abbrev sDraws : Stmt := topS 49
theorem scDraws : FnScope ["_law_script", "_law_state", "_law_cell"] ["_law_script"] (defScope sDraws) :=
  ⟨rfl, rfl, rfl, by decide +kernel, rfl, by decide +kernel, by decide +kernel⟩
theorem ok_draws {f : Addr} {fd : FuncData} (F : Fun K "_law_draws" "_law_draws" sDraws f fd)
    (mi : mg "int" = none) (ml : mg "list" = none) :
    FnOk P w K mg base CX0 1 f fd ["_law_script"] (spDraws K) := by
  refine F.ok scDraws (fun vs H Q E h => ?_) (fun cdv A outer s H vs Q E hr h => ?_)
  · obtain ⟨a, ns, rfl, _⟩ := h
    rfl
  · obtain ⟨a, ns, rfl, hS, q⟩ := h
    refine ⟨_, pss_cons (ps_set (i := 1) scDraws.nd rfl (.inl rfl) pe_int)
      (pss_cons (ps_for PassesOwn.never rfl
          (pi_list (pe_slice sl_list (pv 0) po_none (po_some pe_int)))
          (pg_name (i := 2) scDraws.nd rfl (.inl rfl))
          (pss_one (ps_set (i := 1) scDraws.nd rfl (.inl rfl)
            (pe_op op_mod (pe_callTy call_int1 (by rfl) mi (by decide +kernel) (pa_cons
              (pe_op op_add (pe_op op_add (pe_op op_mul (pv 1) pe_int)
                (pe_op op_mod (pe_callTy call_int1 (by rfl) mi (by decide +kernel) (pa_cons (pv 2) pa_nil)) pe_int))
                pe_int) pa_nil)) pe_int))))
      (pss_one (ps_ret (pe_lst (pa_cons (pe_callTy call_list_of (by rfl) ml (by decide +kernel)
          (pa_cons (pe_slice sl_list (pv 0) po_none (po_some pe_int)) pa_nil))
        (pa_cons pe_int (pa_cons pe_int (pa_cons (pv 1) (pa_cons pe_int pa_nil))))))))), ?_⟩
    refine ⟨.ref a, rfl, 63, rfl, a, ns.map V.int, rfl, hS, fun p np => ?_⟩
    have hcut : cutV (ns.map V.int) none (some 63) = (ns.take 63).map V.int := by
      unfold cutV
      rw [HT.sIx_none, show HT.sIx (ns.map V.int).length (ns.map V.int).length (some 63) =
        min 63 (ns.map V.int).length from HT.sIx_nat _ _ 63, List.drop_zero, Nat.sub_zero,
        ← List.map_take]
      congr 1
      rw [List.length_map, List.take_eq_take_iff]
      omega
    rw [hcut]
    have s1 : Same H (upd H p (.lst ((ns.take 63).map V.int))) := fun b o e => by
      rw [upd_ne (ne_of_none e np)]; exact e
    refine ⟨p, rfl, ⟨_, .inl (.inl upd_same)⟩, for_list (K := K) (a := p) (xs := (ns.take 63).map V.int)
      (fun i σ H' => ∃ (st : Int) (v : Option V), σ = [some (.ref a), some (.int st), v] ∧
        H' = upd H p (.lst ((ns.take 63).map V.int)))
      ⟨3833, none, rfl, rfl⟩ (fun i σ H' _ ⟨_, _, _, e⟩ => by rw [e]; exact .inl (.inl upd_same)) ?_ ?_⟩
    · rintro i y σ H' hi ⟨st, v, rfl, rfl⟩
      obtain ⟨u, rfl⟩ : ∃ u, y = V.int u := by
        rw [List.getElem?_map] at hi
        cases e : (ns.take 63)[i]? with
        | none => rw [e] at hi; cases hi
        | some u => rw [e] at hi; exact ⟨u, (Option.some.inj hi).symm⟩
      refine ⟨_, rfl, _, _, rfl, rfl, .inr ⟨by decide, by decide⟩, _, rfl, .inl ⟨_, rfl, _, _, rfl, rfl,
        (by show (0 : Int) < 2147483587; decide), _, _, rfl, rfl, _, _, rfl, rfl, .inl ⟨_, rfl, _, _, rfl, rfl,
        (by show (0 : Int) < 2147483647; decide), ?_⟩⟩⟩
      exact ⟨_, _, rfl, rfl⟩
    · rintro σ H' ⟨st, v, rfl, rfl⟩
      refine ⟨.ref a, rfl, 63, rfl, a, ns.map V.int, rfl, s1.seq hS, fun p2 np2 => ?_⟩
      rw [hcut]
      refine ⟨p2, _, rfl, .inl (.inl (.inl upd_same)), fun l nl => ?_⟩
      refine ⟨.int st, rfl, (by show 5 ≤ sizeLine; decide), fun r nr => ?_⟩
      have s2 := fun b o (e : H b = some o) => s1 b o e
      refine q _ r (fun b o e => ?_) ?_ ?_
      · have e1 := s1 b o e
        have e2 : (upd (upd H p (.lst ((ns.take 63).map V.int))) p2 (.lst ((ns.take 63).map V.int))) b = some o := by
          rw [upd_ne (ne_of_none e1 np2)]; exact e1
        have e3 : (upd (upd (upd H p (.lst ((ns.take 63).map V.int))) p2 (.lst ((ns.take 63).map V.int))) l
            (.lst ((ns.take 63).map V.int))) b = some o := by
          rw [upd_ne (ne_of_none e2 nl)]; exact e2
        rw [upd_ne (ne_of_none e3 nr)]
        exact e3
      · cases e : H r with
        | none => rfl
        | some o =>
          have e1 := s1 r o e
          have e2 : (upd (upd H p (.lst ((ns.take 63).map V.int))) p2 (.lst ((ns.take 63).map V.int))) r = some o := by
            rw [upd_ne (ne_of_none e1 np2)]; exact e1
          rw [upd_ne (ne_of_none e2 nl)] at nr
          rw [e2] at nr
          cases nr
      · refine ⟨l, ns.take 63, 0, 0, st, 0, Int.le_refl 0, upd_same, ?_⟩
        have nlr : l ≠ r := fun e => by
          rw [← e, upd_same] at nr
          cases nr
        rw [upd_ne nlr, upd_same]
abbrev sDraw : Stmt := topS 50
theorem scDraw : FnScope ["_law_rng", "_law_sides", "_law_cell", "_law_digit", "_law_seed"]
    ["_law_rng", "_law_sides"] (defScope sDraw) :=
  ⟨rfl, rfl, rfl, by decide +kernel, rfl, by decide +kernel, by decide +kernel⟩
theorem ok_draw {f : Addr} {fd : FuncData} (F : Fun K "_law_draw" "_law_draw" sDraw f fd)
    (mi : mg "int" = none) (ml : mg "len" = none) :
    FnOk P w K mg base CX0 1 f fd ["_law_rng", "_law_sides"] spDraw := by
  refine F.ok scDraw (fun vs H Q E h => ?_) (fun cdv A outer s H vs Q E hr h => ?_)
  · obtain ⟨r, n, rfl, _⟩ := h
    rfl
  · obtain ⟨r, n, rfl, hn, hn2, ⟨l, ns, i, b, z, c, R⟩, q⟩ := h
    have R0 : RngL H r l := ⟨ns, i, b, z, c, R⟩
    refine ⟨_, pss_cons (ps_asg (pe_op op_add (pe_ix ix_list (pv 0) pe_int (fun _ _ => rfl)) pe_int)
        (pg_sub (pv 0) pe_int set_list))
      (C8.pss_cut (ps_if (PW.pt (pw_and (pt_cmpR op_eq (pe_ix ix_list (pv 0) pe_int (fun _ _ => rfl)) pe_int (nomark _))
          (pw_and1 (pt_cmpR op_lt (pe_ix ix_list (pv 0) pe_int (fun _ _ => rfl))
            (pe_callB call_len_seq (by rfl) ml PySem.boot_len (pa_cons (pe_ix ix_list (pv 0) pe_int (fun _ _ => rfl)) pa_nil))
            (nomark _)))))
        (pss_cons (ps_set (i := 2) scDraw.nd rfl (.inl rfl)
            (pe_ix ix_list (pe_ix ix_list (pv 0) pe_int (fun _ _ => rfl)) (pe_ix ix_list (pv 0) pe_int (fun _ _ => rfl)) (fun _ _ => rfl)))
        (pss_cons (ps_asg (pe_op op_add (pe_ix ix_list (pv 0) pe_int (fun _ _ => rfl)) pe_int) (pg_sub (pv 0) pe_int set_list))
        (pss_one (ps_if (pt_cmpR op_ge (pv 2) (pe_op op_pow pe_int pe_int) (nomark _))
          (pss_one (ps_asg (pv 2) (pg_sub (pv 0) pe_int set_list)))
          (pss_one (ps_asg (pe_op op_mod (pe_callTy call_int1 (by rfl) mi (by decide +kernel) (pa_cons
              (pe_op op_add (pe_op op_add (pe_op op_mul (pe_ix ix_list (pv 0) pe_int (fun _ _ => rfl)) pe_int)
                (pe_op op_mul (pe_op op_mod (pe_callTy call_int1 (by rfl) mi (by decide +kernel) (pa_cons (pv 2) pa_nil)) pe_int) pe_int))
                pe_int) pa_nil)) pe_int) (pg_sub (pv 0) pe_int set_list)))))))
        pss_nil)
      (pss_cons (ps_if (pt_cmpR op_gt (pe_ix ix_list (pv 0) pe_int (fun _ _ => rfl)) pe_int (nomark _))
        (pss_cons (ps_set (i := 3) scDraw.nd rfl (.inl rfl) (pe_op op_mod (pe_callTy call_int1 (by rfl) mi (by decide +kernel)
            (pa_cons (pe_ix ix_list (pv 0) pe_int (fun _ _ => rfl)) pa_nil)) (pv 1)))
        (pss_cons (ps_asg (pe_op op_fdiv (pe_ix ix_list (pv 0) pe_int (fun _ _ => rfl)) (pv 1)) (pg_sub (pv 0) pe_int set_list))
        (pss_one (ps_ret (pv 3))))) pss_nil)
      (pss_cons (ps_set (i := 4) scDraw.nd rfl (.inl rfl) (pe_ix ix_list (pv 0) pe_int (fun _ _ => rfl)))
      (pss_cons (ps_asg (pe_op op_mod (pe_callTy call_int1 (by rfl) mi (by decide +kernel) (pa_cons
          (pe_op op_add (pe_op op_add (pe_op op_add (pe_op op_mul (pv 4) pe_int)
            (pe_op op_mul (pe_op op_fdiv (pv 4) pe_int) pe_int))
            (pe_op op_mul (pe_ix ix_list (pv 0) pe_int (fun _ _ => rfl)) pe_int)) pe_int) pa_nil)) pe_int)
          (pg_sub (pv 0) pe_int set_list))
      (pss_one (ps_ret (pe_op op_mod (pe_callTy call_int1 (by rfl) mi (by decide +kernel) (pa_cons
          (pe_op op_add (pe_op op_fdiv (pe_ix ix_list (pv 0) pe_int (fun _ _ => rfl)) pe_int)
            (pe_op op_mul (pe_op op_mod (pe_callTy call_int1 (by rfl) mi (by decide +kernel)
              (pa_cons (pe_ix ix_list (pv 0) pe_int (fun _ _ => rfl)) pa_nil)) pe_int) pe_int)) pa_nil)) (pv 1)))))))), ?_⟩
    have at0 : ∀ {l : Addr} {i b z c : Int}, atI [V.ref l, .int i, .int b, .int z, .int c] 0 = some (.ref l) := atI_nat (j := 0) rfl
    have at1 : ∀ {l : Addr} {i b z c : Int}, atI [V.ref l, .int i, .int b, .int z, .int c] 1 = some (.int i) := atI_nat (j := 1) rfl
    have at2 : ∀ {l : Addr} {i b z c : Int}, atI [V.ref l, .int i, .int b, .int z, .int c] 2 = some (.int b) := atI_nat (j := 2) rfl
    have at3 : ∀ {l : Addr} {i b z c : Int}, atI [V.ref l, .int i, .int b, .int z, .int c] 3 = some (.int z) := atI_nat (j := 3) rfl
    have at4 : ∀ {l : Addr} {i b z c : Int}, atI [V.ref l, .int i, .int b, .int z, .int c] 4 = some (.int c) := atI_nat (j := 4) rfl
    -- rng[4] += 1
    refine ⟨_, rfl, r, _, 4, _, rfl, rfl, SqL.of R.2.1, at4, _, _, rfl, rfl, _, rfl, r, _, 4, 4, rfl, rfl, R.2.1, rfl, ?_⟩
    have R1 : RngV (upd H r (.lst [.ref l, .int i, .int b, .int z, .int (c + 1)])) r l ns i b z (c + 1) := R.put R.1
    have g1 : ∀ x o, x ≠ r → H x = some o → upd H r (.lst [.ref l, .int i, .int b, .int z, .int (c + 1)]) x = some o :=
      fun x o nx e => by rw [upd_ne nx]; exact e
    refine ⟨fun σ H' => ∃ v2 v3 v4, σ = [some (.ref r), some (.int n), v2, v3, v4] ∧
      (∀ x o, x ≠ r → H x = some o → H' x = some o) ∧ RngL H' r l, ?_, ?_⟩
    · -- the script's next cell
      refine ⟨_, rfl, r, _, 2, _, rfl, rfl, SqL.of R1.2.1, at2, rfl, _, rfl, ?_⟩
      refine ite2 (fun _ => ?_) (fun _ => iteF ⟨none, none, none, rfl, g1, _, _, _, _, _, R1⟩)
      refine ⟨_, rfl, r, _, 1, _, rfl, rfl, SqL.of R1.2.1, at1, _, rfl, r, _, 0, _, rfl, rfl, SqL.of R1.2.1, at0,
        l, _, rfl, .inl (SqL.of R1.2.2), _, _, rfl, rfl, _, rfl, ?_⟩
      refine ite2 (fun hlt => ?_) (fun _ => ⟨none, none, none, rfl, g1, _, _, _, _, _, R1⟩)
      have hlt2 : i < ((ns.map V.int).length : Int) := of_decide_eq_true hlt
      rw [List.length_map] at hlt2
      obtain ⟨j, rfl⟩ := Int.eq_ofNat_of_zero_le R.1
      have hj : j < ns.length := by omega
      have gj : (ns.map V.int)[j]? = some (.int ns[j]) := by
        rw [List.getElem?_map, List.getElem?_eq_getElem hj]; rfl
      refine ⟨_, rfl, r, _, 0, _, rfl, rfl, SqL.of R1.2.1, at0, _, rfl, r, _, 1, _, rfl, rfl, SqL.of R1.2.1, at1,
        l, _, _, _, rfl, rfl, SqL.of R1.2.2, atI_nat gj, ?_⟩
      refine ⟨_, rfl, r, _, 1, _, rfl, rfl, SqL.of R1.2.1, at1, _, _, rfl, rfl, _, rfl, r, _, 1, 1, rfl, rfl, R1.2.1, rfl, ?_⟩
      have R2 := R1.put (i' := (j : Int) + 1) (b' := b) (s' := z) (c' := c + 1) (by omega)
      have g2 : ∀ x o, x ≠ r → H x = some o →
          upd (upd H r (.lst [.ref l, .int (j : Int), .int b, .int z, .int (c + 1)])) r
            (.lst [.ref l, .int ((j : Int) + 1), .int b, .int z, .int (c + 1)]) x = some o :=
        fun x o nx e => by rw [upd_ne nx]; exact g1 x o nx e
      refine ⟨_, rfl, _, _, rfl, rfl, ⟨by decide, by decide, by decide⟩, _, _, rfl, rfl, _, rfl, ?_⟩
      refine ite2 (fun _ => ?_) (fun _ => ?_)
      · refine ⟨_, rfl, _, rfl, r, _, 2, 2, rfl, rfl, R2.2.1, rfl, ?_⟩
        exact ⟨_, none, none, rfl, fun x o nx e => by rw [upd_ne nx]; exact g2 x o nx e, _, _, _, _, _, R2.put (by omega)⟩
      · refine ⟨_, rfl, r, _, 3, _, rfl, rfl, SqL.of R2.2.1, at3, _, _, rfl, rfl, .inr ⟨by decide, by decide⟩, _, rfl,
          .inl ⟨_, rfl, _, _, rfl, rfl, (by show (0 : Int) < 2147483579; decide), _, _, rfl, rfl, .inr ⟨by decide, by decide⟩,
          _, _, rfl, rfl, _, _, rfl, rfl, .inl ⟨_, rfl, _, _, rfl, rfl, (by show (0 : Int) < 2147483647; decide),
          _, rfl, r, _, 3, 3, rfl, rfl, R2.2.1, rfl, ?_⟩⟩⟩
        exact ⟨_, none, none, rfl, fun x o nx e => by rw [upd_ne nx]; exact g2 x o nx e, _, _, _, _, _, R2.put (by omega)⟩
    · rintro σ H' ⟨v2, v3, v4, rfl, g, ns, i, b, z, c, R⟩
      refine ⟨_, rfl, r, _, 2, _, rfl, rfl, SqL.of R.2.1, at2, _, _, rfl, rfl, _, rfl, ?_⟩
      refine ite2 (fun hb => ?_) (fun _ => ?_)
      · refine ⟨_, rfl, r, _, 2, _, rfl, rfl, SqL.of R.2.1, at2, .inl ⟨_, rfl, _, rfl, _, _, rfl, rfl, hn, ?_⟩⟩
        refine ⟨_, rfl, r, _, 2, _, rfl, rfl, SqL.of R.2.1, at2, _, rfl, _, _, rfl, rfl, ⟨hn, by omega⟩, _, rfl, r, _, 2, 2, rfl, rfl, R.2.1, rfl, ?_⟩
        refine ⟨_, rfl, q _ _ ⟨fun x o nx e => by rw [upd_ne nx]; exact g x o nx e, l, R0, _, _, _, _, _, R.put R.1⟩ ?_ ?_⟩
        · exact Int.emod_nonneg _ (by omega)
        · exact Int.emod_lt_of_pos _ hn
      · refine ⟨_, rfl, r, _, 3, _, rfl, rfl, SqL.of R.2.1, at3, ?_⟩
        refine ⟨_, rfl, _, _, rfl, rfl, .inr ⟨by decide, by decide⟩, _, rfl, _, _, rfl, rfl, ⟨by decide, by decide⟩,
          _, _, rfl, rfl, .inr ⟨by decide, by decide⟩, _, _, rfl, rfl, _, rfl, r, _, 4, _, rfl, rfl, SqL.of R.2.1, at4,
          _, _, rfl, rfl, .inr ⟨by decide, by decide⟩, _, _, rfl, rfl, _, _, rfl, rfl, .inl ⟨_, rfl, _, _, rfl, rfl,
          (by show (0 : Int) < 2147483647; decide), _, rfl, r, _, 3, 3, rfl, rfl, R.2.1, rfl, ?_⟩⟩
        have R2 := fun z' => R.put (i' := i) (b' := b) (s' := z') (c' := c) R.1
        refine ⟨_, rfl, r, _, 3, _, rfl, rfl, SqL.of (R2 _).2.1, at3, _, _, rfl, rfl, ⟨by decide, by decide⟩, _, rfl, r, _, 3, _, rfl, rfl,
          SqL.of (R2 _).2.1, at3, .inl ⟨_, rfl, _, _, rfl, rfl, (by show (0 : Int) < 7907; decide), _, _, rfl, rfl, .inr ⟨by decide, by decide⟩,
          _, _, rfl, rfl, .inl ⟨_, rfl, _, rfl, _, _, rfl, rfl, hn, ?_⟩⟩⟩
        refine q _ _ ⟨fun x o nx e => by rw [upd_ne nx]; exact g x o nx e, l, R0, _, _, _, _, _, R2 _⟩ ?_ ?_
        · exact Int.emod_nonneg _ (by omega)
        · exact Int.emod_lt_of_pos _ hn
abbrev sPick : Stmt := topS 51
theorem scPick : FnScope ["_law_rng", "_law_things"] ["_law_rng", "_law_things"] (defScope sPick) :=
  ⟨rfl, rfl, rfl, by decide +kernel, rfl, by decide +kernel, by decide +kernel⟩
theorem ok_pick {f fD : Addr} {fd fdD : FuncData} (F : Fun K "_law_pick" "_law_pick" sPick f fd)
    (FD : Fun K "_law_draw" "_law_draw" sDraw fD fdD) (bD : Binds K fdD ["_law_rng", "_law_sides"] [])
    (gD : mg "_law_draw" = some (.ref fD)) (mi : mg "int" = none) (ml : mg "len" = none) :
    FnOk P w K mg base CX0 2 f fd ["_law_rng", "_law_things"] (spPick K) := by
  have GD : FnOk P w K mg base CX0 1 fD fdD ["_law_rng", "_law_sides"] spDraw := ok_draw FD mi ml
  refine F.ok scPick (fun vs H Q E h => ?_) (fun cdv A outer s H vs Q E hr h => ?_)
  · obtain ⟨r, x, rfl, _⟩ := h
    rfl
  · obtain ⟨r, x, rfl, R, h⟩ := h
    refine ⟨_, pss_one (ps_ret (pe_ix ix_seq (pv 1) (pe_call GD hr (by rfl) gD FD.kp bD .nil pass0
      (pa_cons (pv 0) (pa_cons (pe_callB call_len (by rfl) ml PySem.boot_len (pa_cons (pv 1) pa_nil)) pa_nil)))
      (fun _ _ => rfl))), ?_⟩
    rcases h with ⟨a, xs, rfl, nar, hS, h0, h1, q⟩ | ⟨cs, rfl, h0, h1, q⟩
    · refine ⟨_, rfl, _, rfl, _, rfl, _, xs.length, rfl, .inl ⟨_, hS, rfl⟩, r, _, rfl, by omega, by omega, R, fun H' k g k0 k1 => ?_⟩
      obtain ⟨j, rfl⟩ := Int.eq_ofNat_of_zero_le k0
      have hj : j < xs.length := by omega
      exact .inl ⟨a, xs, _, xs[j], rfl, rfl, g.seq nar hS, atI_nat (List.getElem?_eq_getElem hj), q _ _ g (List.getElem_mem hj)⟩
    · refine ⟨_, rfl, _, rfl, _, rfl, _, cs.length, rfl, ⟨by rw [S_len]; exact small h1, by rw [S_len]⟩, r, _, rfl, by omega, by omega, R, fun H' k g k0 k1 => ?_⟩
      obtain ⟨j, rfl⟩ := Int.eq_ofNat_of_zero_le k0
      have hj : j < cs.length := by omega
      exact .inr (.inr ⟨_, _, cs[j], rfl, rfl, by rw [S_len]; exact small h1, atI_nat (List.getElem?_eq_getElem hj), q _ _ g (List.getElem_mem hj)⟩)
abbrev sLetters : Stmt := topS 54
theorem scLetters : FnScope ["_law_rng", "_law_most", "_law_size", "_law_first", "_law_step", "_law_k"]
    ["_law_rng", "_law_most"] (defScope sLetters) :=
  ⟨rfl, rfl, rfl, by decide +kernel, rfl, by decide +kernel, by decide +kernel⟩
theorem ok_letters {f fD fP : Addr} {fd fdD fdP : FuncData} (F : Fun K "_law_letters" "_law_letters" sLetters f fd)
    (FD : Fun K "_law_draw" "_law_draw" sDraw fD fdD) (bD : Binds K fdD ["_law_rng", "_law_sides"] [])
    (gD : mg "_law_draw" = some (.ref fD))
    (FP : Fun K "_law_pick" "_law_pick" sPick fP fdP) (bP : Binds K fdP ["_law_rng", "_law_things"] [])
    (gP : mg "_law_pick" = some (.ref fP)) (mi : mg "int" = none) (ml : mg "len" = none)
    (mm : mg "min" = none) (mr : mg "range" = none) :
    FnOk P w K mg base CX0 3 f fd ["_law_rng", "_law_most"] spLetters := by
  have GD : FnOk P w K mg base CX0 1 fD fdD ["_law_rng", "_law_sides"] spDraw := ok_draw FD mi ml
  have GP : FnOk P w K mg base CX0 2 fP fdP ["_law_rng", "_law_things"] (spPick K) := ok_pick FP FD bD gD mi ml
  refine F.ok scLetters (fun vs H Q E h => ?_) (fun cdv A outer s H vs Q E hr h => ?_)
  · obtain ⟨r, m, rfl, _⟩ := h
    rfl
  · obtain ⟨r, m, rfl, hm, R, q⟩ := h
    have hr1 : Room 1 _ := hr.mono (by decide)
    refine ⟨_, pss_cons (ps_set (i := 2) scLetters.nd rfl (.inl rfl) (pe_callB (call_min2 rfl) (by rfl) mm (by decide +kernel)
        (pa_cons (pv 1) (pa_cons (pe_call GP hr (by rfl) gP FP.kp bP .nil pass0 (pa_cons (pv 0)
          (pa_cons (pe_lst (pa_cons pe_int (pa_cons pe_int (pa_cons pe_int (pa_cons pe_int (pa_cons pe_int (pa_cons pe_int pa_nil))))))) pa_nil))) pa_nil))))
      (pss_cons (ps_asg (pe_tup (pa_cons (pe_call GD hr1 (by rfl) gD FD.kp bD .nil pass0 (pa_cons (pv 0) (pa_cons pe_int pa_nil)))
          (pa_cons (pe_call GP hr (by rfl) gP FP.kp bP .nil pass0 (pa_cons (pv 0)
          (pa_cons (pe_lst (pa_cons pe_int (pa_cons pe_int (pa_cons pe_int (pa_cons pe_int (pa_cons pe_int pa_nil)))))) pa_nil))) pa_nil)))
          (pg_tup rfl (pgs_cons (pg_name (i := 3) scLetters.nd rfl (.inr rfl)) (pgs_cons (pg_name (i := 4) scLetters.nd rfl (.inr rfl)) pgs_nil))))
      (pss_one (ps_ret (pe_join pe_str (pe_lc (own := [("_law_k", 5)]) (g := gName 5) (tt := tYes) rfl scLetters.nd
        (pi_range1 rfl mr (pa_cons (pv 2) pa_nil))
        (blkOk_by (N := ["_law_rng", "_law_most", "_law_size", "_law_first", "_law_step", "_law_k"]) (sc := defScope sLetters) (by decide +kernel))
        (fun _ _ _ _ _ => pg_name (i := 5) scLetters.nd rfl (Or.inl rfl)) (fun _ _ _ _ _ => pts_nil)
        (fun _ _ _ _ _ => pe_ix ix_str pe_str (pe_op op_mod (pe_callTy call_int1 (by rfl) mi (by decide +kernel)
          (pa_cons (pe_op op_add (pv 3) (pe_op op_mul (pv 4) (pv 5))) pa_nil)) pe_int) (fun _ _ => rfl))))))), ?_⟩
    obtain ⟨xr, er⟩ := R.ex
    refine ⟨_, rfl, _, rfl, (by show 6 ≤ sizeLine; decide), fun l nl => ?_⟩
    refine ⟨r, .ref l, rfl, R.same (same_new nl), .inl ⟨l, _, rfl, (ne_of_none er nl).symm, .inl (.inl upd_same), by decide, by decide, fun H1 v g1 hv => ?_⟩⟩
    obtain ⟨j, rfl, hj⟩ : ∃ j : Nat, v = .int j ∧ j ∈ [2, 3, 4] := by
      simp only [List.mem_cons, List.not_mem_nil, or_false] at hv
      rcases hv with e | e | e | e | e | e <;>
        first | exact ⟨2, e, by decide⟩ | exact ⟨3, e, by decide⟩ | exact ⟨4, e, by decide⟩
    have G1 : Go r H H1 := Go.after R (same_new nl) g1
    obtain ⟨n, hn1, hn2, hn3⟩ : ∃ n : Nat, (if (j : Int) < m then (j : Int) else m) = (n : Int) ∧ n ∈ [2, 3, 4] ∧ (n : Int) ≤ m := by
      have hj2 : 2 ≤ j ∧ j ≤ 4 := by
        simp only [List.mem_cons, List.not_mem_nil, or_false] at hj
        omega
      by_cases h : (j : Int) < m
      · rw [if_pos h]
        exact ⟨j, rfl, hj, by omega⟩
      · rw [if_neg h]
        refine ⟨m.toNat, by omega, ?_, by omega⟩
        simp only [List.mem_cons, List.not_mem_nil, or_false]
        omega
    refine ⟨_, _, rfl, ?_⟩
    rw [hn1]
    refine ⟨_, rfl, r, 26, rfl, by decide, by decide, g1.rng, fun H2 f g2 f0 f1 => ?_⟩
    obtain ⟨f, rfl⟩ := Int.eq_ofNat_of_zero_le f0
    obtain ⟨x2, e2⟩ := g2.rng.ex
    refine ⟨_, rfl, (by show 5 ≤ sizeLine; decide), fun l2 nl2 => ?_⟩
    refine ⟨r, .ref l2, rfl, g2.rng.same (same_new nl2), .inl ⟨l2, _, rfl, (ne_of_none e2 nl2).symm, .inl (.inl upd_same), by decide, by decide, fun H3 v g3 hv => ?_⟩⟩
    obtain ⟨t, rfl, ht⟩ : ∃ j : Nat, v = .int j ∧ j ∈ [1, 3, 5, 25, 7] := by
      simp only [List.mem_cons, List.not_mem_nil, or_false] at hv
      rcases hv with e | e | e | e | e <;>
        first | exact ⟨1, e, by decide⟩ | exact ⟨3, e, by decide⟩ | exact ⟨5, e, by decide⟩ | exact ⟨25, e, by decide⟩ | exact ⟨7, e, by decide⟩
    have G3 : Go r H H3 := (G1.trans g2).trans (Go.after g2.rng (same_new nl2) g3)
    refine ⟨(by show 2 ≤ sizeLine; decide), fun T nT => ?_⟩
    refine ⟨T, _, rfl, .inl (.inl upd_same), rfl, _, _, rfl, _, _, rfl, rfl, ?_⟩
    have G4 := G3.same (same_new (o := .tup [.int (f : Int), .int (t : Int)]) nT)
    have hn4 : n ≤ 4 := by
      simp only [List.mem_cons, List.not_mem_nil, or_false] at hn2
      omega
    refine ⟨⟨_, rfl⟩, _, rfl, _, rfl, by omega, by omega, fun D nD => ?_⟩
    have t25 : t ≤ 25 := by
      simp only [List.mem_cons, List.not_mem_nil, or_false] at ht
      omega
    refine lc_range (lo := 0) (n := (n : Int).toNat)
      (fun i H' => H' = upd (upd H3 T (.tup [.int (f : Int), .int (t : Int)])) D (.lst ((lets f t i).map fun c => V.str (S [c])))) rfl ?_ ?_
    · rintro i H' hi rfl
      have ei : ((f : Int) + (t : Int) * (0 + (i : Int))) % 26 = (((f + t * i) % 26 : Nat) : Int) := by
        rw [Int.zero_add, ← Int.natCast_mul]
        generalize t * i = u
        omega
      have ec : (List.range' 97 26)[(f + t * i) % 26]? = some (97 + (f + t * i) % 26) := by
        rw [List.getElem?_range' (by omega)]
        simp
      refine ⟨rfl, _, rfl, _, rfl, _, rfl, _, _, rfl, rfl, .inl ⟨by omega, by omega⟩, _, _, rfl, rfl, .inl ⟨_, rfl, _, _, rfl, rfl,
        (by show (0 : Int) < 26; decide), ?_⟩⟩
      refine ⟨_, _, 97 + (f + t * i) % 26, rfl, rfl, by decide, ?_, _, upd_same, ?_, ?_⟩
      · show atI (Str.ofString "abcdefghijklmnopqrstuvwxyz").cps.toList (((f : Int) + (t : Int) * (0 + (i : Int))) % 26) = _
        rw [az, ei]
        exact atI_nat ec
      · rw [List.length_map]
        unfold lets
        rw [List.length_map, List.length_range]
        exact small1000 (by omega)
      · rw [upd_upd]
        unfold lets
        rw [List.range_succ, List.map_append, List.map_append]
        rfl
    · rintro H' rfl
      have nDr : D ≠ r := by
        obtain ⟨x4, e4⟩ := G4.rng.ex
        exact (ne_of_none e4 nD).symm
      refine ⟨_, D, (lets f t n).map (fun c => S [c]), rfl, rfl, .inl (.inl (.inl ?_)), ?_, ?_⟩
      · rw [upd_same, List.map_map]
        rfl
      · rw [one_len]
        have : (lets f t n).length = n := by unfold lets; rw [List.length_map, List.length_range]
        rw [this]
        show n + _ * 0 ≤ _
        omega
      · rw [joinC]
        refine q _ _ (G4.same (same_new nD)) (lets_good (by omega) ht hn2) ?_
        have : (lets f t n).length = n := by unfold lets; rw [List.length_map, List.length_range]
        omega
abbrev sTurn : Stmt := topS 55
theorem scTurn : FnScope ["_law_rng", "_law_signs", "_law_left", "_law_found", "_law_k", "_law_at"]
    ["_law_rng", "_law_signs"] (defScope sTurn) :=
  ⟨rfl, rfl, rfl, by decide +kernel, rfl, by decide +kernel, by decide +kernel⟩
theorem ok_turn {f fD : Addr} {fd fdD : FuncData} (F : Fun K "_law_turn" "_law_turn" sTurn f fd)
    (FD : Fun K "_law_draw" "_law_draw" sDraw fD fdD) (bD : Binds K fdD ["_law_rng", "_law_sides"] [])
    (gD : mg "_law_draw" = some (.ref fD)) (mi : mg "int" = none) (ml : mg "len" = none) (mr : mg "range" = none) :
    FnOk P w K mg base CX0 2 f fd ["_law_rng", "_law_signs"] spTurn := by
  have GD : FnOk P w K mg base CX0 1 fD fdD ["_law_rng", "_law_sides"] spDraw := ok_draw FD mi ml
  refine F.ok scTurn (fun vs H Q E h => ?_) (fun cdv A outer s H vs Q E hr h => ?_)
  · obtain ⟨r, x, rfl, _⟩ := h
    rfl
  · obtain ⟨r, gs, rfl, hl, R, q⟩ := h
    refine ⟨_, pss_cons (ps_if (pt_cmpR op_eq (pe_call GD hr (by rfl) gD FD.kp bD .nil pass0 (pa_cons (pv 0) (pa_cons pe_int pa_nil))) pe_int (nomark _))
        (pss_one (ps_ret (pv 1))) pss_nil)
      (pss_cons (ps_par (i := 2) (j := 3) (by rfl) scTurn.nd rfl rfl (by decide) rfl rfl (pa_cons (pv 1) (pa_cons pe_str pa_nil)) (by rfl))
      (pss_cons (ps_for PassesOwn.never rfl
          (pi_range1 rfl mr (pa_cons (pe_callB call_len_str (by rfl) ml PySem.boot_len (pa_cons (pv 1) pa_nil)) pa_nil))
          (pg_name (i := 4) scTurn.nd rfl (.inl rfl))
          (pss_cons (ps_set (i := 5) scTurn.nd rfl (.inl rfl) (pe_call GD hr (by rfl) gD FD.kp bD .nil pass0
              (pa_cons (pv 0) (pa_cons (pe_callB call_len_str (by rfl) ml PySem.boot_len (pa_cons (pv 2) pa_nil)) pa_nil))))
          (pss_one (ps_par (i := 3) (j := 2) (by rfl) scTurn.nd rfl rfl (by decide) rfl rfl
            (pa_cons (pe_op op_add_str (pv 3) (pe_ix ix_str (pv 2) (pv 5) (fun _ _ => rfl)))
            (pa_cons (pe_op op_add_str (pe_slice C8.sl_txt (pv 2) po_none (po_some (pv 5)))
              (pe_slice C8.sl_txt (pv 2) (po_some (pe_op op_add (pv 5) pe_int)) po_none)) pa_nil)) (by rfl)))))
      (pss_one (ps_ret (pv 3))))), ?_⟩
    refine ⟨_, rfl, r, 3, rfl, by decide, by decide, R, fun H1 k g1 k0 k1 => ⟨rfl, _, rfl, ?_⟩⟩
    refine ite2 (fun _ => ⟨_, rfl, q _ _ g1 (List.Perm.refl _)⟩) (fun _ => ?_)
    refine ⟨_, rfl, _, _, rfl, ?_⟩
    have hz : (S gs).length ≤ sizeLine := by rw [S_len]; exact small hl
    refine ⟨_, rfl, _, rfl, hz, _, rfl, by omega, by rw [S_len]; omega, ?_⟩
    refine for_range (lo := 0) (n := ((S gs).length : Int).toNat)
      (fun i σ H' => ∃ (ls fs : List Nat) (v4 v5 : Option V), σ = [some (.ref r), some (.str (S gs)), some (.str (S ls)), some (.str (S fs)), v4, v5] ∧
        Go r H H' ∧ (fs ++ ls).Perm gs ∧ ls.length + i = gs.length) ⟨gs, [], none, none, rfl, g1, List.Perm.refl _, rfl⟩ ?_ ?_
    · rintro i σ H' hi ⟨ls, fs, v4, v5, rfl, g, hp, hli⟩
      rw [S_len] at hi
      have hls : ls.length ≤ 1000 := by omega
      have hfs : fs.length ≤ 1000 := by
        have e := hp.length_eq
        rw [List.length_append] at e
        omega
      refine ⟨_, rfl, _, rfl, _, rfl, by rw [S_len]; exact small hls, r, _, rfl, by rw [S_len]; omega, by rw [S_len]; omega, g.rng, fun H2 k g2 k0 k1 => ?_⟩
      rw [S_len] at k1
      obtain ⟨j, rfl⟩ := Int.eq_ofNat_of_zero_le k0
      have hj : j < ls.length := by omega
      have e1 : Txt.slice (S ls) none (some (j : Int)) = S (ls.take j) := slice_to (by omega)
      have e2 : Txt.slice (S ls) (some ((j : Int) + 1)) none = S (ls.drop (j + 1)) := slice_from (a := ls) (i := (j : Int) + 1) (by omega)
      refine ⟨_, rfl, _, rfl, _, rfl, _, _, ls[j], rfl, rfl, by rw [S_len]; exact small hls, atI_nat (List.getElem?_eq_getElem hj), _, _, rfl, rfl, ?_, ?_⟩
      · rw [S_len]
        show fs.length + 1 ≤ sizeLine
        exact small1000 hfs
      refine ⟨_, rfl, _, rfl, _, rfl, _, rfl, by rw [S_len]; exact small hls, _, rfl, _, rfl, _, _, rfl, rfl, _, rfl, _, rfl, by rw [S_len]; exact small hls, _, _, rfl, rfl, ?_, ?_⟩
      · rw [e1, e2, S_len, S_len, List.length_take, List.length_drop]
        exact Nat.le_trans (by omega) (small hls)
      refine ⟨_, _, rfl, ls.take j ++ ls.drop (j + 1), fs ++ [ls[j]], some (.int (0 + (i : Int))), some (.int (j : Int)), ?_, g.trans g2, ?_, ?_⟩
      · rw [e1, e2, S_cat, S_cat]
        rfl
      · refine List.Perm.trans ?_ hp
        have e3 : ls = ls.take j ++ ls[j] :: ls.drop (j + 1) := by
          rw [List.getElem_cons_drop, List.take_append_drop]
        rw [List.append_assoc]
        refine List.Perm.append_left _ ?_
        conv => rhs; rw [e3]
        rw [List.singleton_append]
        exact List.perm_middle.symm
      · rw [List.length_append, List.length_take, List.length_drop]
        omega
    · rintro σ H' ⟨ls, fs, v4, v5, rfl, g, hp, hli⟩
      rw [S_len] at hli
      have e : ls = [] := List.eq_nil_of_length_eq_zero (by omega)
      subst e
      rw [List.append_nil] at hp
      exact ⟨_, rfl, q _ _ g hp⟩
abbrev sIs : Stmt := topS 16
theorem scIs : FnScope ["letters", "turn"] ["letters", "turn"] (defScope sIs) :=
  ⟨rfl, rfl, rfl, by decide +kernel, rfl, by decide +kernel, by decide +kernel⟩
theorem ok_is {f : Addr} {fd : FuncData} (F : Fun K "is_turn" "is_turn" sIs f fd) (ms : mg "sorted" = none) :
    FnOk P w K mg base CX0 1 f fd ["letters", "turn"] spIs := by
  refine F.ok scIs (fun vs H Q E h => ?_) (fun cdv A outer s H vs Q E hr h => ?_)
  · obtain ⟨gs, t, rfl, _⟩ := h
    rfl
  · obtain ⟨gs, t, rfl, l1, l2, c1, c2, q⟩ := h
    refine ⟨_, pss_one (ps_ret (pe_cmpR (op_eqD hr.units) (pe_callB (call_sortedTx rfl) (by rfl) ms (by decide +kernel) (pa_cons (pv 1) pa_nil))
      (pe_callB (call_sortedTx rfl) (by rfl) ms (by decide +kernel) (pa_cons (pv 0) pa_nil)) (nomark _))), ?_⟩
    refine ⟨_, rfl, S t, rfl, l2, fun ys1 p1 hp1 hs1 n1 => ⟨_, rfl, S gs, rfl, l1, fun ys2 p2 hp2 hs2 n2 => ?_⟩⟩
    obtain ⟨ls, rfl, h1⟩ := signs_of (zs := t) hp1
    obtain ⟨ms', rfl, h2⟩ := signs_of (zs := gs) hp2
    have s1 := same_new (o := .lst ((ls.map S).map V.str)) n1
    have s2 := same_new (o := .lst ((ms'.map S).map V.str)) n2
    refine ⟨_, _, .lst (.inl (.inl (s2 _ _ upd_same))) (dp_all ls), .lst (.inl (.inl upd_same)) (dp_all ms'), shp_tx (small_of h1 c2), shp_tx (small_of h2 c1), ?_⟩
    rw [show PyData.eqv (.list (ls.map fun c => PyData.str (S c))) (.list (ms'.map fun c => PyData.str (S c))) = decide (ls = ms') from eqvAll_tx ls ms', signs_eq h1 h2 hs1 hs2]
    exact q _ (s1.trans s2)
abbrev sField : Stmt := topS 52
theorem scField : FnScope ["_law_e"] ["_law_e"] (defScope sField) :=
  ⟨rfl, rfl, rfl, by decide +kernel, rfl, by decide +kernel, by decide +kernel⟩
theorem ok_field {f : Addr} {fd : FuncData} (F : Fun K "_law_field" "_law_field" sField f fd) :
    FnP P w K mg base 1 f fd ["_law_e"] (spFldN K) := by
  refine fn_ofP F scField (fun a cls d vs H Q E h => ?_) (fun cdv A outer s H vs Q a oe cls d hz hf hr h => ?_)
  · obtain ⟨code, v, rfl, _⟩ := h
    rfl
  · obtain ⟨code, v, rfl, ⟨C, dd, fs, rfl, rfl, hd, T, nc, lc, h1, h0⟩, q⟩ := h
    have hp : (a, oe) ∈ (L2H.cxH CX0 P w K mg base ["_law_e"] "_law_field" (defScope sField) f cdv A outer s H E0 (a, oe)).pn := List.mem_singleton.mpr rfl
    refine ⟨_, pss_cons (ps_if (pt_cmpR op_in_seq (pe_xg hp hz hf (pv 0)) (pe_tup (pa_cons pe_str (pa_cons pe_str pa_nil))) (by rfl)) (pss_one (ps_ret (pe_xg hp hz hf (pv 0)))) pss_nil)
      (pss_cons (ps_if (pt_cmpR op_in_seq (pe_xg hp hz hf (pv 0)) (pe_tup (pa_cons pe_str (pa_cons pe_str (pa_cons pe_str pa_nil)))) (by rfl)) (pss_one (ps_ret (pe_xg hp hz hf (pv 0)))) pss_nil)
      (pss_cons (ps_if (pt_cmpR op_in_seq (pe_xg hp hz hf (pv 0)) (pe_tup (pa_cons pe_str (pa_cons pe_str (pa_cons pe_str (pa_cons pe_str (pa_cons pe_str (pa_cons pe_str pa_nil))))))) (by rfl)) (pss_one (ps_ret (pe_xg hp hz hf (pv 0)))) pss_nil)
      (pss_cons (ps_if (pt_cmpR op_in_seq (pe_xg hp hz hf (pv 0)) (pe_tup (pa_cons pe_str (pa_cons pe_str pa_nil))) (by rfl)) (pss_one (ps_ret (pe_xg hp hz hf (pv 0)))) pss_nil)
      (pss_one (ps_ret (pe_ifExp (pt_cmpR op_eq (pe_xg hp hz hf (pv 0)) pe_str (nomark _)) (pe_xg hp hz hf (pv 0)) pe_non)))))), ?_⟩
    have s0 := Same.refl H
    refine ⟨_, rfl, rfl, C, dd, fs, _, rfl, T, nc, rfl, s0 _ _ hd, lc, (by show 2 ≤ sizeLine; decide), fun t1 n1 => ?_⟩
    have s1 := s0.trans (same_new (o := .tup fldA) n1)
    refine ⟨t1, fldA, rfl, .inr (.inl (.inl upd_same)), rfl, rfl, ?_⟩
    by_cases b1 : inV (.str code) fldA = true
    · obtain ⟨np, lp⟩ := h1 "position" (by unfold fldOf; rw [if_pos b1])
      exact ⟨true, congrArg V.bl b1, iteT ⟨_, rfl, rfl, C, dd, fs, _, rfl, T, np, rfl, s1 _ _ hd, lp, q _ s1⟩⟩
    refine ⟨false, congrArg V.bl (Bool.eq_false_iff.mpr b1), iteF ?_⟩
    refine ⟨_, rfl, rfl, C, dd, fs, _, rfl, T, nc, rfl, s1 _ _ hd, lc, (by show 3 ≤ sizeLine; decide), fun t2 n2 => ?_⟩
    have s2 := s1.trans (same_new (o := .tup fldB) n2)
    refine ⟨t2, fldB, rfl, .inr (.inl (.inl upd_same)), rfl, rfl, ?_⟩
    by_cases b2 : inV (.str code) fldB = true
    · obtain ⟨np, lp⟩ := h1 "limit" (by unfold fldOf; rw [if_neg b1, if_pos b2])
      exact ⟨true, congrArg V.bl b2, iteT ⟨_, rfl, rfl, C, dd, fs, _, rfl, T, np, rfl, s2 _ _ hd, lp, q _ s2⟩⟩
    refine ⟨false, congrArg V.bl (Bool.eq_false_iff.mpr b2), iteF ?_⟩
    refine ⟨_, rfl, rfl, C, dd, fs, _, rfl, T, nc, rfl, s2 _ _ hd, lc, (by show 6 ≤ sizeLine; decide), fun t3 n3 => ?_⟩
    have s3 := s2.trans (same_new (o := .tup fldC) n3)
    refine ⟨t3, fldC, rfl, .inr (.inl (.inl upd_same)), rfl, rfl, ?_⟩
    by_cases b3 : inV (.str code) fldC = true
    · obtain ⟨np, lp⟩ := h1 "name" (by unfold fldOf; rw [if_neg b1, if_neg b2, if_pos b3])
      exact ⟨true, congrArg V.bl b3, iteT ⟨_, rfl, rfl, C, dd, fs, _, rfl, T, np, rfl, s3 _ _ hd, lp, q _ s3⟩⟩
    refine ⟨false, congrArg V.bl (Bool.eq_false_iff.mpr b3), iteF ?_⟩
    refine ⟨_, rfl, rfl, C, dd, fs, _, rfl, T, nc, rfl, s3 _ _ hd, lc, (by show 2 ≤ sizeLine; decide), fun t4 n4 => ?_⟩
    have s4 := s3.trans (same_new (o := .tup fldD) n4)
    refine ⟨t4, fldD, rfl, .inr (.inl (.inl upd_same)), rfl, rfl, ?_⟩
    by_cases b4 : inV (.str code) fldD = true
    · obtain ⟨np, lp⟩ := h1 "index" (by unfold fldOf; rw [if_neg b1, if_neg b2, if_neg b3, if_pos b4])
      exact ⟨true, congrArg V.bl b4, iteT ⟨_, rfl, rfl, C, dd, fs, _, rfl, T, np, rfl, s4 _ _ hd, lp, q _ s4⟩⟩
    refine ⟨false, congrArg V.bl (Bool.eq_false_iff.mpr b4), iteF ?_⟩
    refine ⟨_, rfl, rfl, C, dd, fs, _, rfl, T, nc, rfl, s4 _ _ hd, lc, rfl, ?_⟩
    by_cases b5 : decide (V.str code = V.str (Str.ofString "InvalidMachine")) = true
    · obtain ⟨np, lp⟩ := h1 "room" (by unfold fldOf; rw [if_neg b1, if_neg b2, if_neg b3, if_neg b4, if_pos b5])
      exact ⟨true, congrArg V.bl b5, iteT ⟨_, rfl, rfl, C, dd, fs, _, rfl, T, np, rfl, s4 _ _ hd, lp, q _ s4⟩⟩
    · have e := h0 (by unfold fldOf; rw [if_neg b1, if_neg b2, if_neg b3, if_neg b4, if_neg b5])
      subst e
      exact ⟨false, congrArg V.bl (Bool.eq_false_iff.mpr b5), iteF (q _ s4)⟩
abbrev sTry : Stmt := topS 53
theorem scTry : FnScope ["_law_ask", "_law_e"] ["_law_ask"] (defScope sTry) :=
  ⟨rfl, rfl, rfl, by decide +kernel, rfl, by decide +kernel, by decide +kernel⟩
theorem try_gives {X : Cx} {g fF CF CM : Addr} {cdg : Value} {q : Str} {fdF : FuncData} (mF : X.mg "FillError" = some (.ref CF)) (mM : X.mg "Missing" = some (.ref CM))
    (FP : FnP X.prog X.w X.K X.mg X.base 1 fF fdF ["_law_e"] (spFldN X.K)) (gF : X.mg "_law_field" = some (.ref fF)) (kF : PySem.W.keepIn X.K (.ref fF) = true)
    (bF : Binds X.K fdF ["_law_e"] []) (hr : Room 2 X.A) :
    LamX.GivesTo X ["_law_ask", "_law_e"] "_law_try" (defScope sTry) g cdg (defBody sTry) "_law_ask" q (TryN X.K CF CM) := by
  intro f c' s H Q tl act hc h
  have hrH : L2H.RoomH 1 (X.A.deeper (envOfC "_law_try" (defScope sTry) s.heap.objs.size g cdg)) := L2H.roomH_of (hr.deeper _)
  refine ⟨_, pss_one (ps_two (X := (cxOf C8.CX0 X.prog X.w X.K X.mg X.base ["_law_ask", "_law_e"] "_law_try" (defScope sTry) g cdg X.A X.stack s H C8.E0).nox) (c1 := .ref CF) (c2 := .ref CM) (i := 1)
      (tb := fun W D σ H => ∃ Ech : XK, (∀ cls d σ' H', Ech cls d H' → W cls d σ' H') ∧ σ[0]? = some (some (.ref f)) ∧ H c' = some (LamX.CodeO c' q) ∧
        tl Ech H (fun v H1 => 2 ≤ sizeLine ∧ ∀ t, H1 t = none → D.rt (.ref t) (upd H1 t (.tup [.str (Str.ofString "value"), v]))))
      (ts := fun a cls d => tRet (tTup (tCons (tXg X.K a cls d "code" (tVar 1)) (tCons (fun σ H Q => tCons (tVar 1) tNil σ H fun vs H1 => spFldN X.K a cls d vs H1 Q E0) tNil))))
      rfl rfl scTry.nd rfl rfl (by rfl) mF (by decide) (by rfl) mM (by decide)
      (fun W pn xe tk _ => ?_)
      (fun a oe cls d pn hz hf => pss_one (ps_ret (pe_tup (pa_cons (pe_xg (X := (cxOf C8.CX0 X.prog X.w X.K X.mg X.base ["_law_ask", "_law_e"] "_law_try" (defScope sTry) g cdg X.A X.stack s H C8.E0).nox.suite a ((a, oe) :: pn)) (List.mem_cons_self ..) hz hf (pv 1))
        (pa_cons (pe_callP (X := (cxOf C8.CX0 X.prog X.w X.K X.mg X.base ["_law_ask", "_law_e"] "_law_try" (defScope sTry) g cdg X.A X.stack s H C8.E0).nox.suite a ((a, oe) :: pn)) (List.mem_cons_self ..) hz hf FP ⟨hrH.dp, hrH.un⟩ (by rfl) gF kF bF (pa_cons (pv 1) pa_nil)) pa_nil)))))), ?_⟩
  · refine ⟨fun pins s' σ H' D I h' => ?_⟩
    obtain ⟨Ech, hW, h1, h2, h3⟩ := h'
    refine (pss_one (ps_ret (pe_tup (pa_cons pe_str (pa_cons (act W pn xe Ech _ _ tk hW) pa_nil))))).run pins s' σ H' D I ⟨h1, h2, ?_⟩
    exact h3
  · refine ⟨_, fun cls d σ' H' hE => ?_, rfl, hc, h⟩
    obtain ⟨e1, code, v, ER, q⟩ := hE
    refine ⟨e1, fun a na hlen => ?_⟩
    have h1 : (σ'.set 1 (some (.ref a)))[1]? = some (some (.ref a)) := List.getElem?_set_self (by rw [hlen]; show 1 < 2; decide)
    obtain ⟨C, dd, fs, rfl, rfl, hd, T, nc, lc, hv⟩ := id ER
    refine ⟨_, h1, rfl, C, dd, fs, _, rfl, T, nc, rfl, hd, lc, _, h1, code, v, rfl, ER, fun H2 s2 => ?_⟩
    exact ⟨(by show 2 ≤ sizeLine; decide), fun t nt => q _ t s2 nt⟩
abbrev sInitIL : Stmt := inClass (topS 3) 0
theorem scInitIL : FnScope ["self"] ["self"] (defScope sInitIL) := ⟨rfl, rfl, rfl, by decide +kernel, rfl, by decide +kernel, by decide +kernel⟩
theorem ok_initIL {f C : Addr} {fd : FuncData} (F : Fun K "__init__" "InvalidLetters.__init__" sInitIL f fd) (T : ErrC K mg "InvalidLetters" C) :
    FnOk P w K mg base CX0 1 f fd ["self"] (spI0 K C "InvalidLetters") := by
  refine F.ok scInitIL (fun vs H Q E h => ?_) (fun cdv A outer s H vs Q E hr h => ?_)
  · obtain ⟨a, rfl, _⟩ := h
    rfl
  · obtain ⟨a, rfl, ha, q⟩ := h
    refine ⟨_, pss_one (ps_ost (pv 0) pe_str), ?_⟩
    exact ⟨_, rfl, a, C, rfl, T.ox, T.nc, .inl ⟨ha, fun dx n ne => q dx n ne⟩⟩
abbrev sCheckL : Stmt := topS 13
theorem scCheckL : FnScope ["letters", "at", "letter"] ["letters"] (defScope sCheckL) :=
  ⟨rfl, rfl, rfl, by decide +kernel, rfl, by decide +kernel, by decide +kernel⟩
theorem ok_checkL {f fI C : Addr} {fd fdI : FuncData} (F : Fun K "check_letters" "check_letters" sCheckL f fd) (T : ErrC K mg "InvalidLetters" C)
    (FI : Fun K "__init__" "InvalidLetters.__init__" sInitIL fI fdI) (bI : Binds K fdI ["self"] []) (iC : PySem.W.findIn K (.ref C) "__init__" = some (some (.ref fI))) (tI : PySem.W.typeIn K (.ref fI) = some (.type "function"))
    (me : mg "enumerate" = none) (ml : mg "len" = none) (mL : ∃ t, mg "LEAST_LETTERS" = some (.int 2 t)) (mM : ∃ t, mg "MOST_LETTERS" = some (.int 4 t)) (mA : ∃ t, mg "LOWERCASE" = some (.str "abcdefghijklmnopqrstuvwxyz" t)) :
    FnOk P w K mg base (L2.CX P w) 3 f fd ["letters"] (spCL C) := by
  have GI : FnOk P w K mg base CX0 1 fI fdI ["self"] (spI0 K C "InvalidLetters") := ok_initIL FI T
  obtain ⟨tL, mL⟩ := mL
  obtain ⟨tM, mM⟩ := mM
  obtain ⟨tA, mA⟩ := mA
  refine F.okX scCheckL (fun vs H Q E h => ?_) (fun cdv A outer s H vs Q E hr h => ?_)
  · obtain ⟨cs, rfl, _⟩ := h
    rfl
  · obtain ⟨cs, rfl, hl, qv, qe⟩ := h
    refine ⟨_, pss_cons (ps_if (pt_not (pt_chain op_le op_le (pe_glob (v := .int 2) (by rfl) mL ⟨_, rfl⟩) (pe_callB call_len_str (by rfl) ml PySem.boot_len (pa_cons (pv 0) pa_nil)) (pe_glob (v := .int 4) (by rfl) mM ⟨_, rfl⟩)))
        (pss_one (ps_raise rfl (takes_of rfl rfl rfl rfl) (pmk0 T.ox iC tI GI hr bI pass0 (by rfl) T.gl))) pss_nil)
      (pss_one (ps_for (passes_of rfl) rfl (pi_enS (by rfl) me (pa_cons (pv 0) pa_nil))
        (pg_tup rfl (pgs_cons (pg_name (i := 1) scCheckL.nd rfl (.inl rfl)) (pgs_cons (pg_name (i := 2) scCheckL.nd rfl (.inl rfl)) pgs_nil)))
        (pss_one (ps_if (PW.pt (pw_or (pt_cmpR op_notIn_sign (pv 2) (pe_glob (v := .str (Str.ofString "abcdefghijklmnopqrstuvwxyz")) (by rfl) mA ⟨_, rfl⟩) rfl) (pw_or1 (pt_cmpR op_in_sign (pv 2) (pe_slice C8.sl_txt (pv 0) po_none (po_some (pv 1))) rfl))))
          (pss_one (ps_raise rfl (takes_of rfl rfl rfl rfl) (pmk0 T.ox iC tI GI hr bI pass0 (by rfl) T.gl))) pss_nil)))), ?_⟩
    have hz : (S cs).length ≤ sizeLine := by rw [S_len]; exact small hl
    -- a raise of it
    have bad : ∀ (H1 : Hp), Same H H1 → ¬ Valid cs → tMkO C (spI0 K C "InvalidLetters") [] tNil [] H1 fun cls d H' => E cls d H' := by
      intro H1 s1 hv
      refine ⟨Nat.zero_le _, fun a na => ⟨a, rfl, upd_same, fun dx nd ne => ⟨rfl, dx, _, upd_same, by rw [upd_ne ne, upd_same], ?_, ?_⟩⟩⟩
      · exact (after0 (C := C) (fs := []) na nd ne).1
      · exact qe hv _ _ (s1.trans (after0 na nd ne).2) upd_same
    have hbs : ((S cs).length : Int) = (cs.length : Int) := by rw [S_len]
    refine ⟨_, rfl, _, rfl, hz, _, _, rfl, rfl, _, rfl, ?_⟩
    rw [hbs]
    refine ite2 (fun h2 => ?_) (fun h2 => ?_)
    rotate_left
    · refine ⟨false, rfl, iteT ?_⟩
      refine bad _ (Same.refl _) fun v => h2 (decide_eq_true ?_)
      have := v.lo
      omega
    refine ⟨_, _, rfl, rfl, _, rfl, ?_⟩
    have hlo : 2 ≤ cs.length := by
      have := of_decide_eq_true h2
      omega
    by_cases h4 : cs.length ≤ 4
    rotate_left
    · have e : decide ((cs.length : Int) ≤ 4) = false := decide_eq_false (by omega)
      rw [e]
      exact iteT (bad _ (Same.refl _) fun v => h4 v.hi)
    have e : decide ((cs.length : Int) ≤ 4) = true := decide_eq_true (by omega)
    rw [e]
    refine iteF ?_
    refine ⟨_, rfl, _, rfl, for_it (walkE (z := S cs)) (fun i σ H' => ∃ v1 v2, σ = [some (.str (S cs)), v1, v2] ∧ Same H H' ∧ (∀ c ∈ cs.take i, 97 ≤ c ∧ c ≤ 122) ∧ (cs.take i).Nodup)
      ⟨none, none, rfl, Same.refl _, (fun c hc => by rw [List.take_zero] at hc; cases hc), by rw [List.take_zero]; exact List.Pairwise.nil⟩ (fun _ _ _ _ _ => trivial) ?_ ?_⟩
    · rintro i x σ H' H'' hi ⟨v1, v2, rfl, s1, haz, hnd⟩ ⟨T, c, rfl, nT, hc, rfl⟩
      have hc2 : cs[i]? = some c := by rw [← List.getElem?_toArray]; exact hc
      have s2 := s1.trans (same_new (o := .tup [.int (i : Nat), .str ⟨#[c]⟩]) nT)
      refine ⟨T, _, rfl, .inl (.inl upd_same), rfl, _, _, rfl, _, _, rfl, rfl, ?_⟩
      refine ⟨_, rfl, c, _, rfl, rfl, _, rfl, ?_⟩
      have hcm : c ∈ cs := List.mem_of_getElem? hc2
      have hil : i < cs.length := (List.getElem?_eq_some_iff.mp hc2).1
      by_cases hl2 : 97 ≤ c ∧ c ≤ 122
      rotate_left
      · have e : (!decide (c ∈ (Str.ofString "abcdefghijklmnopqrstuvwxyz").cps.toList)) = true := by
          rw [az]
          show (!decide (c ∈ List.range' 97 26)) = true
          rw [decide_eq_false fun h => hl2 (by have := List.mem_range'.mp h; omega)]
          rfl
        rw [e]
        refine iteT (iteT ?_)
        exact bad _ s2 fun v => hl2 (v.az c hcm)
      have e : (!decide (c ∈ (Str.ofString "abcdefghijklmnopqrstuvwxyz").cps.toList)) = false := by
        rw [az]
        show (!decide (c ∈ List.range' 97 26)) = false
        rw [decide_eq_true (List.mem_range'.mpr ⟨c - 97, by omega, by omega⟩)]
        rfl
      rw [e]
      refine ⟨_, rfl, _, rfl, _, rfl, _, rfl, _, rfl, hz, c, _, rfl, rfl, _, rfl, ?_⟩
      rw [slice_to (a := cs) (i := ((i : Nat) : Int)) (by omega)]
      show (if decide (c ∈ cs.take (((i : Nat) : Int).toNat)) = true then _ else _)
      rw [Int.toNat_natCast]
      have ht : cs.take (i + 1) = cs.take i ++ [c] := by rw [List.take_add_one, hc2]; rfl
      refine ite2 (fun hin => ?_) (fun hin => ?_)
      · refine bad _ s2 fun v => ?_
        have nd2 : (cs.take i ++ [c]).Nodup := by
          rw [← ht]
          exact (List.take_sublist _ _).nodup v.nd
        have := (List.nodup_append.mp nd2).2.2 c (of_decide_eq_true hin) c (List.mem_singleton.mpr rfl)
        exact this rfl
      · refine ⟨_, _, rfl, s2, ?_, ?_⟩
        · rw [ht]
          intro x hx
          rcases List.mem_append.mp hx with h | h
          · exact haz x h
          · rw [List.mem_singleton.mp h]; exact hl2
        · rw [ht]
          refine List.nodup_append.mpr ⟨hnd, by simp, fun z hz z' hz' e => ?_⟩
          rw [List.mem_singleton.mp hz'] at e
          rw [e] at hz
          exact hin (decide_eq_true hz)
    · rintro σ H' ⟨v1, v2, rfl, s1, haz, hnd⟩
      have e : cs.take (S cs).cps.size = cs := List.take_of_length_le (Nat.le_of_eq rfl)
      rw [e] at haz hnd
      exact qv ⟨hlo, h4, haz, hnd⟩ _ s1
abbrev sInitPE : Stmt := inClass (topS 6) 0
theorem scInitPE : FnScope ["self", "position"] ["self", "position"] (defScope sInitPE) := ⟨rfl, rfl, rfl, by decide +kernel, rfl, by decide +kernel, by decide +kernel⟩
theorem ok_initPE {f C : Addr} {fd : FuncData} (F : Fun K "__init__" "ParseError.__init__" sInitPE f fd) (T : ErrC K mg "ParseError" C) :
    FnOk P w K mg base CX0 1 f fd ["self", "position"] (spI1 K C "ParseError") := by
  refine F.ok scInitPE (fun vs H Q E h => ?_) (fun cdv A outer s H vs Q E hr h => ?_)
  · obtain ⟨a, v, rfl, _⟩ := h
    rfl
  · obtain ⟨a, v, rfl, ha, q⟩ := h
    refine ⟨_, pss_cons (ps_ost (pv 0) pe_str) (pss_one (ps_ost (pv 0) (pv 1))), ?_⟩
    refine ⟨_, rfl, a, C, rfl, T.ox, T.nc, .inl ⟨ha, fun dx n ne => ?_⟩⟩
    refine ⟨_, rfl, _, rfl, a, C, rfl, T.ox, T.np, .inr ⟨dx, _, upd_same, by rw [upd_ne ne, upd_same], by decide, q dx n ne⟩⟩
abbrev sBk : Stmt := topS 20
theorem scBk : FnScope ["item"] ["item"] (defScope sBk) := ⟨rfl, rfl, rfl, by decide +kernel, rfl, by decide +kernel, by decide +kernel⟩
theorem ok_bk {f : Addr} {fd : FuncData} (F : Fun K "is_blank" "is_blank" sBk f fd) (ml : mg "len" = none) : FnOk P w K mg base CX0 1 f fd ["item"] spBk := by
  refine F.ok scBk (fun vs H Q E h => ?_) (fun cdv A outer s H vs Q E hr h => ?_)
  · obtain ⟨x, rfl, _⟩ := h
    rfl
  · obtain ⟨x, rfl, hl, q⟩ := h
    refine ⟨_, pss_one (ps_ret (pe_cmpR op_gt (pe_callB call_len_str (by rfl) ml PySem.boot_len (pa_cons (pv 0) pa_nil)) pe_int (nomark _))), ?_⟩
    refine ⟨_, rfl, _, rfl, by rw [S_len]; exact small hl, _, _, rfl, rfl, ?_⟩
    have e : decide (((S x).length : Int) > 1) = decide (1 < x.length) := by
      rw [decide_eq_decide, S_len]
      omega
    show Q (.bl (decide (((S x).length : Int) > 1))) H
    rw [e]
    exact q _ (Same.refl _)
abbrev sIt : Stmt := topS 23
theorem scIt : FnScope ["letters", "item"] ["letters", "item"] (defScope sIt) := ⟨rfl, rfl, rfl, by decide +kernel, rfl, by decide +kernel, by decide +kernel⟩
theorem ok_it {f f1 : Addr} {fd fd1 : FuncData} (F : Fun K "item_text" "item_text" sIt f fd) (c1 : Cl P w K mg base "is_blank" 1 ["item"] spBk f1 fd1) (mP : ∃ t, mg "PLAIN_BLANK" = some (.str "{}" t)) :
    FnOk P w K mg base CX0 2 f fd ["letters", "item"] spIt := by
  obtain ⟨tP, mP⟩ := mP
  refine F.ok scIt (fun vs H Q E h => ?_) (fun cdv A outer s H vs Q E hr h => ?_)
  · obtain ⟨gs, x, rfl, _⟩ := h
    rfl
  · obtain ⟨gs, x, rfl, hg, hl, q⟩ := h
    refine ⟨_, pss_cons (ps_if (pt_not (pt_val (pe_cl c1 hr (by decide) (by rfl) (pa_cons (pv 1) pa_nil)))) (pss_one (ps_ret (pv 1))) pss_nil)
      (pss_cons (ps_if (pt_cmpR op_eq (pv 1) (pv 0) (nomark _)) (pss_one (ps_ret (pe_glob (v := .str (Str.ofString "{}")) (by rfl) mP ⟨_, rfl⟩))) pss_nil)
      (pss_one (ps_ret (pe_join pe_str (pe_lst (pa_cons pe_str (pa_cons (pv 1) (pa_cons pe_str pa_nil)))))))), ?_⟩
    refine ⟨_, rfl, x, rfl, hl, fun H1 s1 => ⟨_, rfl, ?_⟩⟩
    by_cases h1 : 1 < x.length
    rotate_left
    · rw [decide_eq_false h1]
      refine iteT ⟨_, rfl, ?_⟩
      have e : iTx gs x = x := by unfold iTx; rw [if_neg h1]
      have := q H1 s1
      rw [e] at this
      exact this
    rw [decide_eq_true h1]
    refine iteF ⟨_, rfl, _, rfl, rfl, _, rfl, ?_⟩
    by_cases h2 : x = gs
    · rw [decide_eq_true (by rw [h2])]
      have e : iTx gs x = [123, 125] := by unfold iTx; rw [if_pos h1, if_pos h2]
      have := q H1 s1
      rw [e] at this
      exact iteT this
    · rw [decide_eq_false (fun e => h2 (S_inj (V.str.inj e)))]
      refine iteF ⟨⟨_, rfl⟩, _, rfl, (by show 3 ≤ sizeLine; decide), fun p np => ?_⟩
      have e : iTx gs x = [123] ++ x ++ [125] := by unfold iTx; rw [if_pos h1, if_neg h2]
      have o1 : Str.ofString "{" = S [123] := by decide +kernel
      have o2 : Str.ofString "}" = S [125] := by decide +kernel
      refine ⟨_, p, [[123], x, [125]].map S, rfl, rfl, .inl (.inl (.inl ?_)), ?_, ?_⟩
      · rw [upd_same, o1, o2]
        rfl
      · rw [sum_len]
        show ([123] ++ (x ++ ([125] ++ []))).length + _ * 0 ≤ _
        rw [List.length_append, List.length_append]
        show 1 + (_ + 1) + _ * 0 ≤ _
        omega
      · rw [joinT]
        have := q _ (s1.trans (same_new (o := .lst [.str (Str.ofString "{"), tx x, .str (Str.ofString "}")]) np))
        rw [e] at this
        rw [show [[123], x, [125]].flatten = [123] ++ x ++ [125] by simp]
        exact this
abbrev sRt : Stmt := topS 24
theorem scRt : FnScope ["letters", "row", "item"] ["letters", "row"] (defScope sRt) := ⟨rfl, rfl, rfl, by decide +kernel, rfl, by decide +kernel, by decide +kernel⟩
theorem ok_rt {f f1 : Addr} {fd fd1 : FuncData} (F : Fun K "row_text" "row_text" sRt f fd) (ml : mg "len" = none) (c1 : Cl P w K mg base "item_text" 2 ["letters", "item"] spIt f1 fd1) (mE : ∃ t, mg "EMPTY_TEXT" = some (.str "-" t)) :
    FnOk P w K mg base CX0 3 f fd ["letters", "row"] (spRt K) := by
  obtain ⟨tE, mE⟩ := mE
  refine F.ok scRt (fun vs H Q E h => ?_) (fun cdv A outer s H vs Q E hr h => ?_)
  · obtain ⟨gs, a, its, rfl, _⟩ := h
    rfl
  · obtain ⟨gs, a, its, rfl, hg, hs, hl, hx, q⟩ := h
    refine ⟨_, pss_cons (ps_if (pt_cmpR op_eq (pe_callB call_len (by rfl) ml PySem.boot_len (pa_cons (pv 1) pa_nil)) pe_int (nomark _)) (pss_one (ps_ret (pe_glob (v := .str (Str.ofString "-")) (by rfl) mE ⟨_, rfl⟩))) pss_nil)
      (pss_one (ps_ret (pe_join pe_str (pe_lc (own := [("item", 2)]) (g := gName 2) (tt := tYes) rfl scRt.nd (pi_any (pv 1))
        (blkOk_by (N := ["letters", "row", "item"]) (sc := defScope sRt) (by decide +kernel))
        (fun _ _ _ _ _ => pg_name (i := 2) scRt.nd rfl (Or.inl rfl)) (fun _ _ _ _ _ => pts_nil)
        (fun _ _ _ _ _ => pe_cl c1 hr (by decide) (by rfl) (pa_cons (pv 0) (pa_cons (pv 2) pa_nil))))))), ?_⟩
    have hln : LenV K (.ref a) H its.length := hs.imp (fun h => ⟨_, h, (List.length_map ..).symm⟩) (fun h => ⟨_, h, (List.length_map ..).symm⟩)
    refine ⟨_, rfl, _, its.length, rfl, hln, rfl, _, rfl, ?_⟩
    by_cases h0 : its = []
    · subst h0
      rw [decide_eq_true (show V.int ((([] : List (List Nat)).length : Nat) : Int) = V.int 0 from rfl)]
      exact iteT (q H (Same.refl _))
    · have hne : its.length ≠ 0 := fun e => h0 (List.length_eq_zero_iff.mp e)
      rw [decide_eq_false (fun e => hne (by have := V.int.inj e; omega))]
      refine iteF ⟨⟨_, rfl⟩, it_any (a := a) (xs := its.map tx) (fun k hk => ⟨_, rfl, hk⟩) hs (Same.refl _) fun J W D nD => ?_⟩
      refine lc_it W (fun i H' => Same H H' ∧ H' D = some (.lst (((its.take i).map (iTx gs)).map tx))) ⟨same_new nD, upd_same⟩ (fun _ _ _ h => h.1) ?_ ?_
      · rintro i y H' H'' hi ⟨s1, hD⟩ ⟨rfl, hy⟩
        obtain ⟨x, hx2, rfl⟩ := get_tx hy
        have hxm := hx x (List.mem_of_getElem? hx2)
        refine ⟨rfl, _, rfl, _, rfl, gs, x, rfl, hg, by omega, fun H3 s3 => ?_⟩
        refine ⟨_, s3 _ _ hD, ?_, same_put (s1.trans s3) nD, ?_⟩
        · rw [List.length_map, List.length_map, List.length_take]
          exact small1000 (by omega)
        · rw [upd_same, List.take_add_one, hx2]
          simp
      · rintro H' ⟨s1, hD⟩
        rw [List.length_map, List.take_length] at hD
        refine ⟨_, D, (its.map (iTx gs)).map S, rfl, rfl, .inl (.inl (.inl ?_)), ?_, ?_⟩
        · rw [hD]
          simp
        · rw [sum_len]
          have := flat_len (f := iTx gs) (m := 902) (its := its) fun x hx' => Nat.le_trans iTx_len (by have := hx x hx'; omega)
          show _ + _ * 0 ≤ _
          have : its.length * 902 ≤ 900 * 902 := Nat.mul_le_mul_right _ hl
          omega
        · rw [joinT]
          have := q _ s1
          unfold rTx at this
          rw [if_neg h0] at this
          exact this
abbrev sBw : Stmt := topS 21
theorem scBw : FnScope ["letters", "text", "at", "end"] ["letters", "text", "at"] (defScope sBw) := ⟨rfl, rfl, rfl, by decide +kernel, rfl, by decide +kernel, by decide +kernel⟩
theorem ok_bw {f f1 : Addr} {fd fd1 : FuncData} (F : Fun K "blank_width" "blank_width" sBw f fd) (ml : mg "len" = none) (c1 : Cl P w K mg base "is_turn" 1 ["letters", "turn"] spIs f1 fd1) (mP : ∃ t, mg "PLAIN_BLANK" = some (.str "{}" t)) :
    FnOk P w K mg base CX0 2 f fd ["letters", "text", "at"] spBw := by
  obtain ⟨tP, mP⟩ := mP
  refine F.ok scBw (fun vs H Q E h => ?_) (fun cdv A outer s H vs Q E hr h => ?_)
  · obtain ⟨gs, pre, post, x, z, rfl, _⟩ := h
    rfl
  · obtain ⟨gs, pre, post, x, z, rfl, hg, hl, hc⟩ := h
    refine ⟨_, pss_cons (ps_if (pt_cmpR op_eq (pe_slice C8.sl_txt (pv 1) (po_some (pv 2)) (po_some (pe_op op_add (pv 2) pe_int))) (pe_glob (v := .str (Str.ofString "{}")) (by rfl) mP ⟨_, rfl⟩) (nomark _)) (pss_one (ps_ret pe_int)) pss_nil)
      (pss_cons (ps_set (i := 3) scBw.nd rfl (.inl rfl) (pe_op op_add (pe_op op_add (pv 2) pe_int) (pe_callB call_len_str (by rfl) ml PySem.boot_len (pa_cons (pv 0) pa_nil))))
      (pss_cons (ps_if (PW.pt (pw_and (pt_cmpR op_eq (pe_ix ix_str (pv 1) (pv 2) (fun _ _ => rfl)) pe_str (nomark _))
          (pw_and (pt_cmpR op_eq (pe_slice C8.sl_txt (pv 1) (po_some (pv 3)) (po_some (pe_op op_add (pv 3) pe_int))) pe_str (nomark _))
          (pw_and1 (pt_val (pe_cl c1 hr (by decide) (by rfl) (pa_cons (pv 0) (pa_cons (pe_slice C8.sl_txt (pv 1) (po_some (pe_op op_add (pv 2) pe_int)) (po_some (pv 3))) pa_nil))))))))
        (pss_one (ps_ret (pe_op op_add (pe_callB call_len_str (by rfl) ml PySem.boot_len (pa_cons (pv 0) pa_nil)) pe_int))) pss_nil)
      (pss_one (ps_ret pe_int)))), ?_⟩
    have hz : (S (pre ++ z ++ post)).length ≤ sizeLine := by rw [S_len]; exact small hl
    have ob : Str.ofString "{}" = S [123, 125] := by decide +kernel
    have o1 : Str.ofString "{" = S [123] := by decide +kernel
    have o2 : Str.ofString "}" = S [125] := by decide +kernel
    refine ⟨_, rfl, _, rfl, _, rfl, _, rfl, _, _, rfl, rfl, _, rfl, _, rfl, hz, rfl, _, rfl, ?_⟩
    rcases hc with ⟨rfl, q⟩ | ⟨hp, rfl, q⟩
    · rw [mid_app (p := pre) (z := [123, 125]) rfl (by simp), ob, decide_eq_true rfl]
      exact iteT (q _ (Same.refl _))
    · have hx2 : 2 ≤ x.length := by rw [hp.length_eq]; exact hg.lo
      have hx4 : x.length ≤ 4 := by rw [hp.length_eq]; exact hg.hi
      obtain ⟨c, r, rfl⟩ : ∃ c r, x = c :: r := by
        cases x with
        | nil => cases hx2
        | cons c r => exact ⟨c, r, rfl⟩
      have hcaz := hg.az c (hp.mem_iff.mp (List.mem_cons_self ..))
      have e1 : Txt.slice (S (pre ++ ([123] ++ (c :: r) ++ [125]) ++ post)) (some (pre.length : Int)) (some ((pre.length : Int) + 2)) = S [123, c] := by
        have e : pre ++ ([123] ++ (c :: r) ++ [125]) ++ post = pre ++ [123, c] ++ (r ++ [125] ++ post) := by simp
        rw [e]
        exact mid_app rfl (by simp)
      rw [e1, ob, decide_eq_false (fun e => by
        have := S_inj (V.str.inj e)
        injection this with _ h
        injection h with h
        omega)]
      have hzg : (S gs).length ≤ sizeLine := by rw [S_len]; exact small (by have := hg.hi; omega)
      refine iteF ⟨_, rfl, _, _, rfl, rfl, _, rfl, _, rfl, hzg, _, _, rfl, rfl, ?_⟩
      have hat : (pre ++ ([123] ++ (c :: r) ++ [125]) ++ post)[pre.length]? = some 123 := by simp
      refine ⟨_, rfl, _, rfl, _, _, 123, rfl, rfl, hz, atI_nat hat, rfl, _, rfl, ?_⟩
      rw [o1, decide_eq_true rfl]
      refine iteT ?_
      have hpl := hp.length_eq
      have hll : ((S gs).length : Int) = (((c :: r).length : Nat) : Int) := by rw [S_len, hpl]
      rw [hll]
      have e2 : Txt.slice (S (pre ++ ([123] ++ (c :: r) ++ [125]) ++ post)) (some ((pre.length : Int) + 1 + (((c :: r).length : Nat) : Int))) (some ((pre.length : Int) + 1 + (((c :: r).length : Nat) : Int) + 1)) = S [125] := by
        have e : pre ++ ([123] ++ (c :: r) ++ [125]) ++ post = (pre ++ [123] ++ (c :: r)) ++ [125] ++ post := by simp
        rw [e]
        refine mid_app ?_ ?_
        · simp only [List.length_append, List.length_singleton]
          omega
        · simp only [List.length_append, List.length_singleton]
          omega
      refine ⟨_, rfl, _, rfl, _, rfl, _, rfl, _, _, rfl, rfl, _, rfl, _, rfl, hz, rfl, _, rfl, ?_⟩
      rw [e2, o2, decide_eq_true rfl]
      refine iteT ?_
      have e3 : Txt.slice (S (pre ++ ([123] ++ (c :: r) ++ [125]) ++ post)) (some ((pre.length : Int) + 1)) (some ((pre.length : Int) + 1 + (((c :: r).length : Nat) : Int))) = S (c :: r) := by
        have e : pre ++ ([123] ++ (c :: r) ++ [125]) ++ post = (pre ++ [123]) ++ (c :: r) ++ ([125] ++ post) := by simp
        rw [e]
        refine mid_app ?_ ?_
        · simp only [List.length_append, List.length_singleton]
          omega
        · simp only [List.length_append, List.length_singleton]
          omega
      have gaz : ∀ d ∈ gs, d < 128 := fun d hd => by have := hg.az d hd; omega
      refine ⟨_, rfl, _, rfl, _, rfl, _, _, rfl, rfl, _, rfl, _, rfl, _, rfl, _, rfl, hz, ?_⟩
      rw [e3]
      refine ⟨gs, c :: r, rfl, by have := hg.hi; omega, by omega, gaz, (fun d hd => gaz d (hp.mem_iff.mp hd)), fun H1 s1 => ⟨_, rfl, ?_⟩⟩
      rw [decide_eq_true hp]
      refine iteT ⟨_, rfl, _, rfl, hzg, _, _, rfl, rfl, ?_⟩
      have hgl : ((S gs).length : Int) = (gs.length : Int) := by rw [S_len]
      rw [hgl]
      exact q _ s1
theorem ok_bw0 {f f1 : Addr} {fd fd1 : FuncData} (F : Fun K "blank_width" "blank_width" sBw f fd) (ml : mg "len" = none) (c1 : Cl P w K mg base "is_turn" 1 ["letters", "turn"] spIs f1 fd1) (mP : ∃ t, mg "PLAIN_BLANK" = some (.str "{}" t)) :
    FnOk P w K mg base CX0 2 f fd ["letters", "text", "at"] spBw0 := by
  obtain ⟨tP, mP⟩ := mP
  refine F.ok scBw (fun vs H Q E h => ?_) (fun cdv A outer s H vs Q E hr h => ?_)
  · obtain ⟨gs, pre, rest, rfl, _⟩ := h
    rfl
  · obtain ⟨gs, pre, rest, rfl, hg, hl, haz, ⟨hne, n1, n2, n3⟩, q⟩ := h
    refine ⟨_, pss_cons (ps_if (pt_cmpR op_eq (pe_slice C8.sl_txt (pv 1) (po_some (pv 2)) (po_some (pe_op op_add (pv 2) pe_int))) (pe_glob (v := .str (Str.ofString "{}")) (by rfl) mP ⟨_, rfl⟩) (nomark _)) (pss_one (ps_ret pe_int)) pss_nil)
      (pss_cons (ps_set (i := 3) scBw.nd rfl (.inl rfl) (pe_op op_add (pe_op op_add (pv 2) pe_int) (pe_callB call_len_str (by rfl) ml PySem.boot_len (pa_cons (pv 0) pa_nil))))
      (pss_cons (ps_if (PW.pt (pw_and (pt_cmpR op_eq (pe_ix ix_str (pv 1) (pv 2) (fun _ _ => rfl)) pe_str (nomark _))
          (pw_and (pt_cmpR op_eq (pe_slice C8.sl_txt (pv 1) (po_some (pv 3)) (po_some (pe_op op_add (pv 3) pe_int))) pe_str (nomark _))
          (pw_and1 (pt_val (pe_cl c1 hr (by decide) (by rfl) (pa_cons (pv 0) (pa_cons (pe_slice C8.sl_txt (pv 1) (po_some (pe_op op_add (pv 2) pe_int)) (po_some (pv 3))) pa_nil))))))))
        (pss_one (ps_ret (pe_op op_add (pe_callB call_len_str (by rfl) ml PySem.boot_len (pa_cons (pv 0) pa_nil)) pe_int))) pss_nil)
      (pss_one (ps_ret pe_int)))), ?_⟩
    have hz : (S (pre ++ rest)).length ≤ sizeLine := by rw [S_len]; exact small hl
    have ob : Str.ofString "{}" = S [123, 125] := by decide +kernel
    have o1 : Str.ofString "{" = S [123] := by decide +kernel
    have o2 : Str.ofString "}" = S [125] := by decide +kernel
    have hlo := hg.lo
    have hhi := hg.hi
    refine ⟨_, rfl, _, rfl, _, rfl, _, rfl, _, _, rfl, rfl, _, rfl, _, rfl, hz, rfl, _, rfl, ?_⟩
    rw [cut_rest (pre := pre) (rest := rest) (i := (pre.length : Int)) (j := (pre.length : Int) + 2) (a := 0) (b := 2) rfl rfl, ob, List.drop_zero, decide_eq_false (fun e => n2 (rest.drop 2) (by rw [← S_inj (V.str.inj e), List.take_append_drop]))]
    have hzg : (S gs).length ≤ sizeLine := by rw [S_len]; exact small (by omega)
    obtain ⟨c, r, rfl⟩ : ∃ c r, rest = c :: r := List.exists_cons_of_ne_nil hne
    have hat : (pre ++ c :: r)[pre.length]? = some c := by simp
    refine iteF ⟨_, rfl, _, _, rfl, rfl, _, rfl, _, rfl, hzg, _, _, rfl, rfl, ?_⟩
    refine ⟨_, rfl, _, rfl, _, _, c, rfl, rfl, hz, atI_nat hat, rfl, _, rfl, ?_⟩
    by_cases hc : c = 123
    · subst hc
      rw [o1, decide_eq_true rfl]
      refine iteT ?_
      refine ⟨_, rfl, _, rfl, _, rfl, _, rfl, _, _, rfl, rfl, _, rfl, _, rfl, hz, rfl, _, rfl, ?_⟩
      rw [cut_rest (pre := pre) (rest := 123 :: r) (i := (pre.length : Int) + 1 + ((S gs).length : Int)) (j := (pre.length : Int) + 1 + ((S gs).length : Int) + 1) (a := 1 + gs.length) (b := 2 + gs.length) (by rw [S_len]; omega) (by rw [S_len]; omega), o2]
      by_cases h2 : ((123 :: r).take (2 + gs.length)).drop (1 + gs.length) = [125]
      · rw [h2, decide_eq_true rfl]
        refine iteT ?_
        have er : 123 :: r = [123] ++ r.take gs.length ++ [125] ++ r.drop (gs.length + 1) := by
          have e1 : (r.take (1 + gs.length)).drop gs.length = [125] := by
            rw [show 2 + gs.length = (1 + gs.length) + 1 by omega, List.take_succ_cons, show 1 + gs.length = gs.length + 1 by omega, List.drop_succ_cons] at h2
            rw [show 1 + gs.length = gs.length + 1 by omega]
            exact h2
          have e2 : r.take (1 + gs.length) = r.take gs.length ++ [125] := by
            rw [← e1, show r.take gs.length = (r.take (1 + gs.length)).take gs.length by rw [List.take_take, Nat.min_eq_left (by omega)], List.take_append_drop]
          rw [List.append_assoc, List.append_assoc, ← List.append_assoc (r.take gs.length), ← e2, Nat.add_comm gs.length 1, List.take_append_drop]
          rfl
        have np := n3 _ _ er
        have gaz : ∀ d ∈ gs, d < 128 := fun d hd => by have := hg.az d hd; omega
        refine ⟨_, rfl, _, rfl, _, rfl, _, _, rfl, rfl, _, rfl, _, rfl, _, rfl, _, rfl, hz, ?_⟩
        rw [cut_rest (pre := pre) (rest := 123 :: r) (i := (pre.length : Int) + 1) (j := (pre.length : Int) + 1 + ((S gs).length : Int)) (a := 1) (b := 1 + gs.length) rfl (by rw [S_len]; omega)]
        have ex : ((123 :: r).take (1 + gs.length)).drop 1 = r.take gs.length := by
          rw [Nat.add_comm, List.take_succ_cons]
          rfl
        rw [ex]
        refine ⟨gs, r.take gs.length, rfl, by omega, by rw [List.length_take]; omega, gaz, (fun d hd => haz d (List.mem_cons_of_mem _ (List.mem_of_mem_take hd))), fun H1 s1 => ⟨_, rfl, ?_⟩⟩
        rw [decide_eq_false np]
        exact iteF (q _ s1)
      · rw [decide_eq_false (fun e => h2 (S_inj (V.str.inj e)))]
        exact iteF (iteF (q _ (Same.refl _)))
    · rw [o1, decide_eq_false (fun e => hc (List.cons.inj (S_inj (V.str.inj e))).1)]
      exact iteF (iteF (q _ (Same.refl _)))
abbrev sRd : Stmt := topS 22
theorem scRd : FnScope ["letters", "text", "row", "at", "width"] ["letters", "text"] (defScope sRd) := ⟨rfl, rfl, rfl, by decide +kernel, rfl, by decide +kernel, by decide +kernel⟩
theorem ok_rd {f f1 : Addr} {fd fd1 : FuncData} (F : Fun K "read_row" "read_row" sRd f fd) (ml : mg "len" = none) (c1 : Cl P w K mg base "blank_width" 2 ["letters", "text", "at"] spBw f1 fd1) (mE : ∃ t, mg "EMPTY_TEXT" = some (.str "-" t)) :
    FnOk P w K mg base CX0 3 f fd ["letters", "text"] spRd := by
  obtain ⟨tE, mE⟩ := mE
  refine F.ok scRd (fun vs H Q E h => ?_) (fun cdv A outer s H vs Q E hr h => ?_)
  · obtain ⟨gs, t, its, rfl, _⟩ := h
    rfl
  · obtain ⟨gs, t, its, rfl, hg, hl, hrd, q⟩ := h
    refine ⟨_, pss_cons (ps_if (pt_cmpR op_eq (pv 1) (pe_glob (v := .str (Str.ofString "-")) (by rfl) mE ⟨_, rfl⟩) (nomark _)) (pss_one (ps_ret (pe_lst pa_nil))) pss_nil)
      (pss_cons (ps_if (pt_cmpR op_eq (pv 1) pe_str (nomark _)) pss_never pss_nil)
      (pss_cons (ps_set (i := 2) scRd.nd rfl (.inl rfl) (pe_lst pa_nil))
      (pss_cons (ps_set (i := 3) scRd.nd rfl (.inl rfl) pe_int)
      (pss_cons (ps_while PassesOwn.never (pt_cmpR op_lt (pv 3) (pe_callB call_len_str (by rfl) ml PySem.boot_len (pa_cons (pv 1) pa_nil)) (nomark _))
        (pss_one (ps_if (pt_cmpR op_in_sign (pe_ix ix_str (pv 1) (pv 3) (fun _ _ => rfl)) (pv 0) rfl)
          (pss_cons (ps_expr (pe_bm PySem.F.plainAttrs_list PySem.F.slot_list_append PySem.F.type_list_append mt_append (pv 2) (pa_cons (pe_ix ix_str (pv 1) (pv 3) (fun _ _ => rfl)) pa_nil)))
            (pss_one (ps_set (i := 3) scRd.nd rfl (.inl rfl) (pe_op op_add (pv 3) pe_int))))
          (pss_cons (ps_set (i := 4) scRd.nd rfl (.inl rfl) (pe_cl c1 hr (by decide) (by rfl) (pa_cons (pv 0) (pa_cons (pv 1) (pa_cons (pv 3) pa_nil)))))
          (pss_cons (ps_if (pt_cmpR op_eq (pv 4) pe_int (nomark _)) pss_never pss_nil)
          (pss_cons (ps_expr (pe_bm PySem.F.plainAttrs_list PySem.F.slot_list_append PySem.F.type_list_append mt_append (pv 2) (pa_cons
            (pe_ifExp (pt_cmpR op_eq (pv 4) pe_int (nomark _)) (pv 0) (pe_slice C8.sl_txt (pv 1) (po_some (pe_op op_add (pv 3) pe_int)) (po_some (pe_op op_sub (pe_op op_add (pv 3) (pv 4)) pe_int)))) pa_nil)))
            (pss_one (ps_set (i := 3) scRd.nd rfl (.inl rfl) (pe_op op_add (pv 3) (pv 4))))))))))
      (pss_one (ps_ret (pv 2))))))), ?_⟩
    have ob : Str.ofString "-" = S [45] := by decide +kernel
    refine ⟨_, rfl, rfl, _, rfl, ?_⟩
    rw [ob]
    rcases hrd with ⟨rfl, rfl⟩ | ⟨hne, zs, hf, rfl⟩
    · rw [decide_eq_true rfl]
      refine iteT ⟨Nat.zero_le _, fun p np => ?_⟩
      exact q _ p (same_new np) np upd_same
    obtain ⟨c0, r0, hz0, hc0⟩ : ∃ c r, zs.flatten = c :: r ∧ c ≠ 45 := by
      cases hf with
      | nil => exact absurd rfl hne
      | cons h1 h2 =>
        obtain ⟨c, r, e, h⟩ := form_head hg h1
        exact ⟨c, r ++ _, by rw [List.flatten_cons, e]; rfl, h⟩
    rw [decide_eq_false (fun e => by
      have := S_inj (V.str.inj e)
      rw [hz0] at this
      exact hc0 (List.cons.inj this).1)]
    refine iteF ⟨_, rfl, rfl, _, rfl, ?_⟩
    rw [empty_S, decide_eq_false (fun e => by
      have := S_inj (V.str.inj e)
      rw [hz0] at this
      cases this)]
    refine iteF ⟨Nat.zero_le _, fun D nD => ?_⟩
    have hz : (S zs.flatten).length ≤ sizeLine := by rw [S_len]; exact small hl
    have zl : ((S zs.flatten).length : Int) = (zs.flatten.length : Int) := by rw [S_len]
    have g123 : 123 ∉ gs := fun h => by have := hg.az _ h; omega
    refine ⟨fun m σ H' => ∃ dn its' zs' pre w, its = dn ++ its' ∧ Forms gs its' zs' ∧ zs.flatten = pre ++ zs'.flatten ∧ σ = [some (tx gs), some (tx zs.flatten), some (.ref D), some (.int (pre.length : Int)), w] ∧ Same H H' ∧ H' D = some (.lst (dn.map tx)) ∧ dn.length ≤ pre.length ∧ m = its'.length,
      ⟨its.length, [], its, zs, [], none, rfl, hf, rfl, rfl, same_new nD, upd_same, Nat.le_refl _, rfl⟩, ?_⟩
    rintro m σ H' ⟨dn, its', zs', pre, w, e1, hf', e2, rfl, s1, hD, hdn, rfl⟩
    refine ⟨_, rfl, _, rfl, _, rfl, hz, _, _, rfl, rfl, _, rfl, ?_⟩
    rw [zl]
    have e2l := congrArg List.length e2
    rw [List.length_append] at e2l
    cases hf' with
    | nil =>
      rw [decide_eq_false (by rw [e2l]; show ¬ (pre.length : Int) < ((pre.length + 0 : Nat) : Int); omega)]
      refine iteF ⟨_, rfl, ?_⟩
      rw [List.append_nil] at e1
      rw [← e1] at hD
      exact q _ _ s1 nD hD
    | @cons x z its2 zs2 h1 h2 =>
      have hzn : 0 < z.length := List.length_pos_iff.mpr (form_ne h1)
      rw [List.flatten_cons] at e2 e2l
      rw [List.length_append] at e2l
      rw [decide_eq_true (by omega)]
      have e3 : zs.flatten = pre ++ z ++ zs2.flatten := by rw [e2, List.append_assoc]
      have dnl : (dn.map tx).length < sizeLine := by rw [List.length_map]; exact small1000 (by omega)
      refine iteT ⟨fun σ' H'' => ∃ w', σ' = [some (tx gs), some (tx zs.flatten), some (.ref D), some (.int ((pre ++ z).length : Int)), w'] ∧ Same H H'' ∧ H'' D = some (.lst ((dn ++ [x]).map tx)),
        fun σ' H'' ⟨w', ea, eb, ec⟩ => ⟨its2.length, by show _ < its2.length + 1; omega, dn ++ [x], its2, zs2, pre ++ z, w', by rw [e1]; simp, h2, e3, ea, eb, ec, by rw [List.length_append, List.length_append]; show _ + 1 ≤ _; omega, rfl⟩, ?_⟩
      obtain ⟨c, zr, hzc⟩ : ∃ c r, z = c :: r := by
        obtain ⟨c, r, e, _⟩ := form_head hg h1
        exact ⟨c, r, e⟩
      have hat : (zs.flatten)[pre.length]? = some c := by rw [e3, hzc]; simp
      refine ⟨_, rfl, _, rfl, _, _, c, rfl, rfl, hz, atI_nat hat, _, rfl, c, _, rfl, rfl, _, rfl, ?_⟩
      show (if decide (c ∈ gs) = true then _ else _)
      cases h1 with
      | one hc =>
        obtain ⟨rfl, _⟩ := List.cons.inj hzc
        rw [decide_eq_true hc]
        refine iteT ⟨_, rfl, .inl ⟨rfl, _, .inl (.inl hD)⟩, _, rfl, _, rfl, _, _, _, rfl, rfl, hz, atI_nat hat, D, _, _, rfl, rfl, hD, dnl, ?_⟩
        refine ⟨_, rfl, _, _, rfl, rfl, ?_⟩
        refine ⟨w, ?_, same_put s1 nD, ?_⟩
        · rw [List.length_append]
          rfl
        · rw [upd_same, List.map_append]
          rfl
      | turn hp =>
        obtain ⟨rfl, _⟩ := List.cons.inj hzc
        rw [decide_eq_false g123]
        have hxl := hp.length_eq
        have hx2 : 2 ≤ x.length := by rw [hxl]; exact hg.lo
        refine iteF ⟨_, rfl, _, rfl, _, rfl, gs, pre, zs2.flatten, x, [123] ++ x ++ [125], by rw [e3]; rfl, hg, by rw [← e3]; exact hl, .inr ⟨hp, rfl, fun H3 s3 => ?_⟩⟩
        have hD3 := s3 _ _ hD
        refine ⟨_, rfl, rfl, _, rfl, ?_⟩
        rw [decide_eq_false (fun e => by have := V.int.inj e; omega)]
        refine iteF ⟨_, rfl, .inl ⟨rfl, _, .inl (.inl hD3)⟩, _, rfl, rfl, _, rfl, ?_⟩
        rw [decide_eq_false (fun e => by have := V.int.inj e; omega)]
        refine iteF ?_
        have e4 : Txt.slice (S zs.flatten) (some ((pre.length : Int) + 1)) (some ((pre.length : Int) + ((gs.length : Int) + 2) - 1)) = S x := by
          have e : zs.flatten = (pre ++ [123]) ++ x ++ ([125] ++ zs2.flatten) := by rw [e3]; simp
          rw [e]
          refine mid_app ?_ ?_
          · simp only [List.length_append, List.length_singleton]
            omega
          · simp only [List.length_append, List.length_singleton]
            omega
        refine ⟨_, rfl, _, rfl, _, _, rfl, rfl, _, rfl, _, rfl, _, rfl, _, _, rfl, rfl, _, _, rfl, rfl, _, rfl, _, rfl, hz, D, _, _, rfl, rfl, hD3, dnl, ?_⟩
        rw [e4]
        refine ⟨_, rfl, _, rfl, _, _, rfl, rfl, ?_⟩
        refine ⟨some (.int ((gs.length : Int) + 2)), ?_, same_put (s1.trans s3) nD, ?_⟩
        · have e : ((pre ++ ([123] ++ x ++ [125])).length : Int) = (pre.length : Int) + ((gs.length : Int) + 2) := by
            simp only [List.length_append, List.length_singleton]
            omega
          rw [e]
          rfl
        · rw [upd_same, List.map_append]
          rfl
      | plain =>
        obtain ⟨rfl, _⟩ := List.cons.inj hzc
        rw [decide_eq_false g123]
        refine iteF ⟨_, rfl, _, rfl, _, rfl, gs, pre, zs2.flatten, [], [123, 125], by rw [e3]; rfl, hg, by rw [← e3]; exact hl, .inl ⟨rfl, fun H3 s3 => ?_⟩⟩
        have hD3 := s3 _ _ hD
        refine ⟨_, rfl, rfl, _, rfl, ?_⟩
        rw [decide_eq_false (fun e => by have := V.int.inj e; omega)]
        refine iteF ⟨_, rfl, .inl ⟨rfl, _, .inl (.inl hD3)⟩, _, rfl, rfl, _, rfl, ?_⟩
        rw [decide_eq_true rfl]
        refine iteT ⟨_, rfl, D, _, _, rfl, rfl, hD3, dnl, ?_⟩
        refine ⟨_, rfl, _, rfl, _, _, rfl, rfl, ?_⟩
        refine ⟨some (.int 2), ?_, same_put (s1.trans s3) nD, ?_⟩
        · have e : ((pre ++ [123, 125]).length : Int) = (pre.length : Int) + 2 := by
            simp only [List.length_append]
            rfl
          rw [e]
          rfl
        · rw [upd_same, List.map_append]
          rfl
theorem ok_checkLn {f : Addr} {fd : FuncData} (F : Fun K "check_letters" "check_letters" sCheckL f fd)
    (me : mg "enumerate" = none) (ml : mg "len" = none) (mL : ∃ t, mg "LEAST_LETTERS" = some (.int 2 t)) (mM : ∃ t, mg "MOST_LETTERS" = some (.int 4 t)) (mA : ∃ t, mg "LOWERCASE" = some (.str "abcdefghijklmnopqrstuvwxyz" t)) :
    FnOk P w K mg base CX0 1 f fd ["letters"] spCLn := by
  obtain ⟨tL, mL⟩ := mL
  obtain ⟨tM, mM⟩ := mM
  obtain ⟨tA, mA⟩ := mA
  refine F.ok scCheckL (fun vs H Q E h => ?_) (fun cdv A outer s H vs Q E hr h => ?_)
  · obtain ⟨cs, rfl, _⟩ := h
    rfl
  · obtain ⟨cs, rfl, hg, q⟩ := h
    refine ⟨_, pss_cons (ps_if (pt_not (pt_chain op_le op_le (pe_glob (v := .int 2) (by rfl) mL ⟨_, rfl⟩) (pe_callB call_len_str (by rfl) ml PySem.boot_len (pa_cons (pv 0) pa_nil)) (pe_glob (v := .int 4) (by rfl) mM ⟨_, rfl⟩)))
        pss_never pss_nil)
      (pss_one (ps_for PassesOwn.never rfl (pi_enS (by rfl) me (pa_cons (pv 0) pa_nil))
        (pg_tup rfl (pgs_cons (pg_name (i := 1) scCheckL.nd rfl (.inl rfl)) (pgs_cons (pg_name (i := 2) scCheckL.nd rfl (.inl rfl)) pgs_nil)))
        (pss_one (ps_if (PW.pt (pw_or (pt_cmpR op_notIn_sign (pv 2) (pe_glob (v := .str (Str.ofString "abcdefghijklmnopqrstuvwxyz")) (by rfl) mA ⟨_, rfl⟩) rfl) (pw_or1 (pt_cmpR op_in_sign (pv 2) (pe_slice C8.sl_txt (pv 0) po_none (po_some (pv 1))) rfl))))
          pss_never pss_nil)))), ?_⟩
    have hz : (S cs).length ≤ sizeLine := by rw [S_len]; exact small (by have := hg.hi; omega)
    have hbs : ((S cs).length : Int) = (cs.length : Int) := by rw [S_len]
    refine ⟨_, rfl, _, rfl, hz, _, _, rfl, rfl, _, rfl, ?_⟩
    rw [hbs]
    have h1 := hg.lo
    have h2 := hg.hi
    refine ite2 (fun h => ?_) (fun h => absurd (decide_eq_true (by omega)) h)
    refine ⟨_, _, rfl, rfl, _, rfl, ?_⟩
    have e : decide ((cs.length : Int) ≤ 4) = true := decide_eq_true (by omega)
    rw [e]
    refine iteF ?_
    refine ⟨_, rfl, _, rfl, for_it (walkE (z := S cs)) (fun i σ H' => ∃ v1 v2, σ = [some (.str (S cs)), v1, v2] ∧ Same H H')
      ⟨none, none, rfl, Same.refl _⟩ (fun _ _ _ _ _ => trivial) ?_ ?_⟩
    · rintro i x σ H' H'' hi ⟨v1, v2, rfl, s1⟩ ⟨T, c, rfl, nT, hc, rfl⟩
      have hc2 : cs[i]? = some c := by rw [← List.getElem?_toArray]; exact hc
      have s2 := s1.trans (same_new (o := .tup [.int (i : Nat), .str ⟨#[c]⟩]) nT)
      refine ⟨T, _, rfl, .inl (.inl upd_same), rfl, _, _, rfl, _, _, rfl, rfl, ?_⟩
      refine ⟨_, rfl, c, _, rfl, rfl, _, rfl, ?_⟩
      have hcm : c ∈ cs := List.mem_of_getElem? hc2
      have hl2 := hg.az c hcm
      have e : (!decide (c ∈ (Str.ofString "abcdefghijklmnopqrstuvwxyz").cps.toList)) = false := by
        rw [az]
        show (!decide (c ∈ List.range' 97 26)) = false
        rw [decide_eq_true (List.mem_range'.mpr ⟨c - 97, by omega, by omega⟩)]
        rfl
      rw [e]
      refine ⟨_, rfl, _, rfl, _, rfl, _, rfl, _, rfl, hz, c, _, rfl, rfl, _, rfl, ?_⟩
      rw [slice_to (a := cs) (i := ((i : Nat) : Int)) (by omega)]
      show (if decide (c ∈ cs.take (((i : Nat) : Int).toNat)) = true then _ else _)
      rw [Int.toNat_natCast]
      have ht : cs.take (i + 1) = cs.take i ++ [c] := by rw [List.take_add_one, hc2]; rfl
      refine ite2 (fun hin => ?_) (fun hin => ⟨_, _, rfl, s2⟩)
      have nd2 : (cs.take i ++ [c]).Nodup := by
        rw [← ht]
        exact (List.take_sublist _ _).nodup hg.nd
      exact absurd rfl ((List.nodup_append.mp nd2).2.2 c (of_decide_eq_true hin) c (List.mem_singleton.mpr rfl))
    · rintro σ H' ⟨v1, v2, rfl, s1⟩
      exact q _ s1
abbrev sTi : Stmt := inClass (topS 27) 0
theorem scTi : FnScope ["self", "letters", "text"] ["self", "letters", "text"] (defScope sTi) := ⟨rfl, rfl, rfl, by decide +kernel, rfl, by decide +kernel, by decide +kernel⟩
theorem ok_ti {f f1 f2 C : Addr} {fd fd1 fd2 : FuncData} (F : Fun K "__init__" "Template.__init__" sTi f fd) (T : TmC K C) (mt : mg "tuple" = none)
    (c1 : Cl P w K mg base "check_letters" 1 ["letters"] spCLn f1 fd1) (c2 : Cl P w K mg base "read_row" 3 ["letters", "text"] spRd f2 fd2) :
    FnOk P w K mg base CX0 4 f fd ["self", "letters", "text"] (spTi C) := by
  refine F.ok scTi (fun vs H Q E h => ?_) (fun cdv A outer s H vs Q E hr h => ?_)
  · obtain ⟨x, dx, gs, t, its, rfl, _⟩ := h
    rfl
  · obtain ⟨x, dx, gs, t, its, rfl, hx, hg, hl, hrd, q⟩ := h
    refine ⟨_, pss_cons (ps_expr (pe_cl c1 hr (by decide) (by rfl) (pa_cons (pv 1) pa_nil)))
      (pss_cons (ps_fld (pv 0) (pv 1) (by rfl))
      (pss_one (ps_fld (pv 0) (pe_callTy call_tuple_of (by rfl) mt (by decide +kernel) (pa_cons (pe_cl c2 hr (by decide) (by rfl) (pa_cons (pv 1) (pa_cons (pv 2) pa_nil))) pa_nil)) (by rfl)))), ?_⟩
    refine ⟨_, rfl, gs, rfl, hg, fun H1 s1 => ?_⟩
    refine ⟨_, rfl, _, rfl, x, C, dx, _, rfl, s1 _ _ hx, T.cls, T.na, (by show 0 < 1000; decide), ?_⟩
    refine ⟨_, rfl, _, rfl, gs, t, its, rfl, hg, hl, hrd, fun H2 p s2 np hp => ?_⟩
    refine ⟨p, _, rfl, .inl ⟨.inl (.inl hp), fun l nl => ?_⟩⟩
    have h2 := s2 _ _ (upd_same (H := H1) (a := x) (o := .ins C dx (putF "alphabet" (tx gs) [])))
    have nxl : x ≠ l := ne_of_none h2 nl
    refine ⟨_, rfl, x, C, dx, _, rfl, by rw [upd_ne nxl]; exact h2, T.cls, T.np, (by show 1 < 1000; decide), ?_⟩
    refine q _ (fun b o nb e => ?_) ⟨dx, l, upd_same, by rw [upd_ne nxl.symm, upd_same]⟩
    rw [upd_ne nb]
    refine same_new nl _ _ (s2 _ _ ?_)
    rw [upd_ne nb]
    exact s1 _ _ e
/-- Template(letters, text) -/
theorem tm_mk {C : Addr} {σ : L2.St} {H : Hp} {Q : VK} {ta : TA} {gs t : List Nat} {its : List (List Nat)} (h : ∀ k : List V → Hp → Prop, (∀ H1, Same H H1 → k [tx gs, tx t] H1) → ta σ H k) (hg : Good gs) (hl : t.length ≤ 1000) (hrd : Rd gs its t)
    (q : ∀ H' p, Same H H' → H p = none → Tm C H' p gs its → Q (.ref p) H') : tMake C (spTi C) [] E0 ta σ H Q := by
  refine h _ fun H1 s1 x dx nx nd ne => ?_
  refine ⟨x, dx, gs, t, its, rfl, upd_same, hg, hl, hrd, fun H2 k tm => ⟨rfl, ?_⟩⟩
  have hn : H x = none := by
    cases e : H x with
    | none => rfl
    | some o => rw [s1 _ _ e] at nx; cases nx
  refine q _ _ (fun b o e => ?_) hn tm
  have e1 := s1 _ _ e
  refine k b o (ne_of_none e1 nx) ?_
  rw [upd_ne (ne_of_none e1 nx), upd_ne (ne_of_none e1 nd)]
  exact e1
abbrev sText : Stmt := inClass (topS 27) 8
theorem scText : FnScope ["self"] ["self"] (defScope sText) := ⟨rfl, rfl, rfl, by decide +kernel, rfl, by decide +kernel, by decide +kernel⟩
theorem ok_text {f f1 C : Addr} {fd fd1 : FuncData} (F : Fun K "text" "Template.text" sText f fd) (T : TmC K C) (c1 : Cl P w K mg base "row_text" 3 ["letters", "row"] (spRt K) f1 fd1) :
    FnOk P w K mg base CX0 4 f fd ["self"] (spText C) := by
  refine F.ok scText (fun vs H Q E h => ?_) (fun cdv A outer s H vs Q E hr h => ?_)
  · obtain ⟨a, gs, its, rfl, _⟩ := h
    rfl
  · obtain ⟨a, gs, its, rfl, ⟨dx, p, ha, hp⟩, hg, hl, hx, q⟩ := h
    refine ⟨_, pss_one (ps_ret (pe_cl c1 hr (by decide) (by rfl) (pa_cons (pe_fld (pv 0) (by rfl)) (pa_cons (pe_fld (pv 0) (by rfl)) pa_nil)))), ?_⟩
    exact ⟨_, rfl, a, C, dx, _, _, rfl, ha, T.cls, T.na, rfl, _, rfl, a, C, dx, _, _, rfl, ha, T.cls, T.np, rfl, gs, p, its, rfl, hg, .inr (.inl (.inl hp)), hl, hx, q⟩
abbrev sItems : Stmt := topS 56
theorem scItems : FnScope ["_law_rng", "_law_signs", "_law_most", "_law_found", "_law_k"] ["_law_rng", "_law_signs", "_law_most"] (defScope sItems) := ⟨rfl, rfl, rfl, by decide +kernel, rfl, by decide +kernel, by decide +kernel⟩
theorem ok_items {f f1 f2 f3 : Addr} {fd fd1 fd2 fd3 : FuncData} (F : Fun K "_law_items" "_law_items" sItems f fd) (mr : mg "range" = none)
    (c1 : Cl P w K mg base "_law_draw" 1 ["_law_rng", "_law_sides"] spDraw f1 fd1) (c2 : Cl P w K mg base "_law_turn" 2 ["_law_rng", "_law_signs"] spTurn f2 fd2) (c3 : Cl P w K mg base "_law_pick" 2 ["_law_rng", "_law_things"] (spPick K) f3 fd3) :
    FnOk P w K mg base CX0 3 f fd ["_law_rng", "_law_signs", "_law_most"] spItems := by
  refine F.ok scItems (fun vs H Q E h => ?_) (fun cdv A outer s H vs Q E hr h => ?_)
  · obtain ⟨r, gs, m, rfl, _⟩ := h
    rfl
  · obtain ⟨r, gs, m, rfl, hg, m0, m1, R, q⟩ := h
    refine ⟨_, pss_cons (ps_set (i := 3) scItems.nd rfl (.inl rfl) (pe_lst pa_nil))
      (pss_cons (ps_for PassesOwn.never rfl (pi_range1 rfl mr (pa_cons (pe_cl c1 hr (by decide) (by rfl) (pa_cons (pv 0) (pa_cons (pe_op op_add (pv 2) pe_int) pa_nil))) pa_nil)) (pg_name (i := 4) scItems.nd rfl (.inl rfl))
        (pss_one (ps_expr (pe_bm PySem.F.plainAttrs_list PySem.F.slot_list_append PySem.F.type_list_append mt_append (pv 3) (pa_cons
          (pe_ifExp (pt_cmpR op_eq (pe_cl c1 hr (by decide) (by rfl) (pa_cons (pv 0) (pa_cons pe_int pa_nil))) pe_int (nomark _)) (pe_cl c2 hr (by decide) (by rfl) (pa_cons (pv 0) (pa_cons (pv 1) pa_nil)))
            (pe_cl c3 hr (by decide) (by rfl) (pa_cons (pv 0) (pa_cons (pv 1) pa_nil)))) pa_nil)))))
      (pss_one (ps_ret (pv 3)))), ?_⟩
    refine ⟨Nat.zero_le _, fun D nD => ?_⟩
    have s0 := same_new (o := .lst []) nD
    obtain ⟨xr, er⟩ := R.ex
    have nDr : D ≠ r := (ne_of_none er nD).symm
    refine ⟨_, rfl, _, rfl, _, _, rfl, rfl, r, _, rfl, by omega, by omega, R.same s0, fun H1 k g1 k0 k1 => ?_⟩
    obtain ⟨n, rfl⟩ := Int.eq_ofNat_of_zero_le k0
    have G1 : Go r H H1 := Go.after R s0 g1
    refine ⟨_, rfl, by omega, by omega, ?_⟩
    refine for_range (lo := 0) (n := (n : Int).toNat)
      (fun i σ H' => ∃ v its, σ = [some (.ref r), some (tx gs), some (.int m), some (.ref D), v] ∧ Go r H H' ∧ H' D = some (.lst (its.map tx)) ∧ Row gs its ∧ its.length = i)
      ⟨none, [], rfl, G1, g1.1 _ _ nDr upd_same, (fun x hx => nomatch hx), rfl⟩ ?_ ?_
    · rintro i σ H' hi ⟨v, its, rfl, g, hD, hR, hl⟩
      refine ⟨_, rfl, .inl ⟨rfl, _, .inl (.inl hD)⟩, _, rfl, r, 2, rfl, by decide, by decide, g.rng, fun H2 d g2 d0 d1 => ?_⟩
      have hD2 := g2.1 _ _ nDr hD
      have dl : (its.map tx).length < sizeLine := by rw [List.length_map]; exact small1000 (by omega)
      refine ⟨rfl, _, rfl, ?_⟩
      refine ite2 (fun _ => ?_) (fun _ => ?_)
      · refine ⟨_, rfl, _, rfl, r, gs, rfl, by have := hg.hi; omega, g2.rng, fun H3 t g3 pt => ?_⟩
        refine ⟨D, _, _, rfl, rfl, g3.1 _ _ nDr hD2, dl, _, its ++ [t], rfl, ((g.trans g2).trans g3).put nD, ?_, fun x hx => ?_, by rw [List.length_append, hl]; rfl⟩
        · rw [upd_same, List.map_append]
          rfl
        · rcases List.mem_append.mp hx with h | h
          · exact hR x h
          · rw [List.mem_singleton.mp h]; exact .inr pt
      · refine ⟨_, rfl, _, rfl, r, _, rfl, g2.rng, .inr ⟨gs, rfl, by have := hg.lo; omega, by have := hg.hi; omega, fun H3 c g3 hc => ?_⟩⟩
        refine ⟨D, _, _, rfl, rfl, g3.1 _ _ nDr hD2, dl, _, its ++ [[c]], rfl, ((g.trans g2).trans g3).put nD, ?_, fun x hx => ?_, by rw [List.length_append, hl]; rfl⟩
        · rw [upd_same, List.map_append]
          rfl
        · rcases List.mem_append.mp hx with h | h
          · exact hR x h
          · rw [List.mem_singleton.mp h]; exact .inl ⟨c, hc, rfl⟩
    · rintro σ H' ⟨v, its, rfl, g, hD, hR, hl⟩
      exact ⟨_, rfl, q _ _ its g nD hD hR (by omega)⟩
abbrev sLx : Stmt := topS 57
theorem scLx : FnScope ["_law_signs", "_law_items_here", "_law_found", "_law_item"] ["_law_signs", "_law_items_here"] (defScope sLx) := ⟨rfl, rfl, rfl, by decide +kernel, rfl, by decide +kernel, by decide +kernel⟩
theorem ok_lx {f : Addr} {fd : FuncData} (F : Fun K "_law_text" "_law_text" sLx f fd) (ml : mg "len" = none) :
    FnOk P w K mg base CX0 1 f fd ["_law_signs", "_law_items_here"] (spLx K) := by
  refine F.ok scLx (fun vs H Q E h => ?_) (fun cdv A outer s H vs Q E hr h => ?_)
  · obtain ⟨gs, a, its, rfl, _⟩ := h
    rfl
  · obtain ⟨gs, a, its, rfl, hg, hR, hl, hs, q⟩ := h
    refine ⟨_, pss_cons (ps_set (i := 2) scLx.nd rfl (.inl rfl) (pe_join pe_str (pe_lc (own := [("_law_item", 3)]) (g := gName 3) (tt := tYes) rfl scLx.nd (pi_list (pv 1))
        (blkOk_by (N := ["_law_signs", "_law_items_here", "_law_found", "_law_item"]) (sc := defScope sLx) (by decide +kernel))
        (fun _ _ _ _ _ => pg_name (i := 3) scLx.nd rfl (Or.inl rfl)) (fun _ _ _ _ _ => pts_nil)
        (fun _ _ _ _ _ => pe_ifExp (pt_cmpR op_eq (pe_callB call_len_str (by rfl) ml PySem.boot_len (pa_cons (pv 3) pa_nil)) pe_int (nomark _)) (pv 3)
          (pe_ifExp (pt_cmpR op_eq (pv 3) (pv 0) (nomark _)) pe_str (pe_op op_add_str (pe_op op_add_str pe_str (pv 3)) pe_str))))))
      (pss_one (ps_ret (pe_ifExp (pt_cmpR (op_neD hr.units) (pv 1) (pe_lst pa_nil) (nomark _)) (pv 2) pe_str))), ?_⟩
    have o0 : Str.ofString "{}" = S [123, 125] := by decide +kernel
    have o1 : Str.ofString "{" = S [123] := by decide +kernel
    have o2 : Str.ofString "}" = S [125] := by decide +kernel
    refine ⟨⟨_, rfl⟩, _, rfl, a, rfl, ⟨_, hs⟩, fun D nD => ?_⟩
    refine lc_list (K := K) (a := a) (xs := its.map tx) (fun i H' => Same H H' ∧ H' D = some (.lst (((its.take i).map (iTx gs)).map tx))) ⟨same_new nD, upd_same⟩ (fun _ _ _ h => h.1.seq hs) ?_ ?_
    · rintro i y H' hy ⟨s1, hD⟩
      obtain ⟨x, hx2, rfl⟩ := get_tx hy
      have hxm := List.mem_of_getElem? hx2
      have hx4 := row_len hg hR x hxm
      have hx0 := row_pos hg hR x hxm
      have hzx : (S x).length ≤ sizeLine := by rw [S_len]; exact small (by omega)
      have dl : (((its.take i).map (iTx gs)).map tx).length < sizeLine := by
        rw [List.length_map, List.length_map, List.length_take]
        exact small1000 (by omega)
      have fin : ∀ z : List Nat, z = iTx gs x → ∃ acc, H' D = some (.lst acc) ∧ acc.length < sizeLine ∧ (Same H (upd H' D (.lst (acc ++ [tx z]))) ∧ upd H' D (.lst (acc ++ [tx z])) D = some (.lst (((its.take (i + 1)).map (iTx gs)).map tx))) := by
        rintro z rfl
        refine ⟨_, hD, dl, same_put s1 nD, ?_⟩
        rw [upd_same, List.take_add_one, hx2]
        simp
      refine ⟨rfl, _, rfl, _, rfl, hzx, rfl, _, rfl, ?_⟩
      by_cases h1 : x.length = 1
      · rw [decide_eq_true (by rw [S_len, h1]; rfl)]
        refine iteT ⟨_, rfl, fin x ?_⟩
        unfold iTx
        rw [if_neg (by omega)]
      · rw [decide_eq_false (fun e => h1 (by have := V.int.inj e; rw [S_len] at this; omega))]
        refine iteF ⟨_, rfl, _, rfl, rfl, _, rfl, ?_⟩
        by_cases h2 : x = gs
        · rw [decide_eq_true (by rw [h2]), o0]
          refine iteT (fin [123, 125] ?_)
          unfold iTx
          rw [if_pos (by omega), if_pos h2]
        · rw [decide_eq_false (fun e => h2 (S_inj (V.str.inj e)))]
          have e3 : S [123] ++ S x ++ S [125] = S ([123] ++ x ++ [125]) := by
            rw [show S [123] ++ S x = S ([123] ++ x) from S_cat _ _]
            exact S_cat _ _
          refine iteF ⟨_, rfl, _, _, rfl, rfl, ?_, _, _, rfl, rfl, ?_, ?_⟩
          · rw [o1, S_len, S_len]
            exact small (by show 1 + _ ≤ 1000; omega)
          · rw [o1, o2, show S [123] ++ S x = S ([123] ++ x) from S_cat _ _, S_len, S_len, List.length_append]
            exact small (by show 1 + _ + 1 ≤ 1000; omega)
          · rw [o1, o2, e3]
            refine fin _ ?_
            unfold iTx
            rw [if_pos (by omega), if_neg h2]
    · rintro H' ⟨s1, hD⟩
      rw [List.length_map, List.take_length] at hD
      refine ⟨_, D, (its.map (iTx gs)).map S, rfl, rfl, .inl (.inl (.inl ?_)), ?_, ?_⟩
      · rw [hD]
        simp
      · rw [sum_len]
        have := flat_len (f := iTx gs) (m := 6) (its := its) fun x hx => Nat.le_trans iTx_len (by have := row_len hg hR x hx; omega)
        show _ + _ * 0 ≤ _
        omega
      · rw [joinT]
        refine ⟨_, rfl, Nat.zero_le _, fun l nl => ?_⟩
        have s2 := same_new (o := .lst []) nl
        have ha : SqL K (upd H' l (.lst [])) a ((its.map S).map V.str) := by
          have := (s1.trans s2).seq hs
          rw [List.map_map]
          exact this
        have gaz : ∀ x ∈ its, ∀ k ∈ x, k < 128 := fun x hx k hk => by have := hg.az k (row_mem hR x hx k hk); omega
        refine ⟨_, _, .lst ha (dp_all its), .lst (.inl (.inl upd_same)) .nil, shp_tx gaz, by decide +kernel, ?_⟩
        rw [show PyData.eqv (.list (its.map fun c => PyData.str (S c))) (.list []) = decide (its = []) from eqvAll_tx its []]
        have qq := q _ (s1.trans s2)
        unfold rTx at qq
        by_cases h0 : its = []
        · rw [if_pos h0] at qq
          rw [decide_eq_true h0]
          exact ⟨false, rfl, iteF qq⟩
        · rw [if_neg h0] at qq
          rw [decide_eq_false h0]
          exact ⟨true, rfl, iteT ⟨_, rfl, qq⟩⟩
end
end Own

namespace Own
open PySem PySem.Spec PyProof.Rows L2 SX RZ
section
variable {P : Program} {w : World} {K : PySem.W.Frag} {mg : Str → Option Value} {base : Heap}
def spCan : Sp := fun vs H Q _ => ∃ gs : List Nat, ∃ b s d : Nat, vs = [tx gs, tx [b], tx [s], iv d] ∧ ∀ H', Same H H' → Q (.bl (Cnd.can gs b s d)) H'
abbrev sCan : Stmt := topS 29
abbrev canN : List Str := ["letters", "before", "sign", "depth"]
theorem scCan : FnScope canN ["letters", "before", "sign", "depth"] (defScope sCan) := ⟨rfl, rfl, rfl, by decide +kernel, rfl, by decide +kernel, by decide +kernel⟩
theorem ok_can {f : Addr} {fd : FuncData} (F : Fun K "can_stand" "can_stand" sCan f fd) :
    FnOk P w K mg base CX0 1 f fd ["letters", "before", "sign", "depth"] spCan := by
  refine F.ok scCan (fun vs H Q E h => ?_) (fun cdv A outer s H vs Q E hr h => ?_)
  · obtain ⟨gs, b, s0, d, rfl, _⟩ := h
    rfl
  · obtain ⟨gs, b, s0, d, rfl, q⟩ := h
    refine ⟨_, (pss_cons (ps_if (pt_cmpR op_eq (pv 2) pe_str (nomark _)) (pss_one (ps_ret (L2.pe_or (pe_cmpR op_in_sign (pv 1) (pv 0) (by rfl)) (pe_one (pe_cmpR op_in_seq (pv 1) (pe_tup (pa_cons pe_str (pa_cons pe_str pa_nil))) (by rfl)))))) pss_nil)
      (pss_cons (ps_if (pt_cmpR op_eq (pv 2) pe_str (nomark _)) (pss_one (ps_ret (pe_cmpR op_gt (pv 3) pe_int (nomark _)))) pss_nil)
      (pss_one (ps_ret (L2.pe_or (pe_cmpR op_in_sign (pv 2) (pv 0) (by rfl)) (pe_one (pe_cmpR op_in_seq (pv 2) (pe_tup (pa_cons pe_str (pa_cons pe_str (pa_cons pe_str pa_nil)))) (by rfl)))))))), ?_⟩
    have z2 : ∀ m n : Nat, decide (V.str (S [m]) = V.str (S [n])) = decide (m = n) := fun m n => by
      rw [dec_str]
      by_cases e : m = n <;> simp [e]
    refine ⟨_, rfl, rfl, _, rfl, ?_⟩
    rw [show V.str (Str.ofString "*") = V.str (S [42]) from rfl, z2]
    unfold Cnd.can at q
    by_cases h1 : s0 = 42
    · simp only [if_pos h1] at q
      rw [decide_eq_true h1]
      refine iteT ?_
      refine ⟨_, rfl, _, rfl, b, S gs, rfl, rfl, _, rfl, ?_⟩
      have e0 : decide (b ∈ (S gs).cps.toList) = decide (b ∈ gs) := rfl
      rw [e0]
      by_cases h2 : b ∈ gs
      · rw [decide_eq_true h2] at q ⊢
        exact iteT (q _ (Same.refl _))
      · rw [decide_eq_false h2] at q ⊢
        refine iteF ⟨_, rfl, (by show 2 ≤ sizeLine; decide), fun T nT => ?_⟩
        refine ⟨T, _, rfl, .inr (sqT upd_same), rfl, rfl, ?_⟩
        have s1 := same_new (o := .tup [V.str (Str.ofString "."), V.str (Str.ofString ")")]) nT
        have e : inV (tx [b]) [V.str (Str.ofString "."), V.str (Str.ofString ")")] = (decide (b = 46) || decide (b = 41)) := by
          rw [show [V.str (Str.ofString "."), V.str (Str.ofString ")")] = [[46], [41]].map tx from rfl, inV_tx]
          simp
        show Q (.bl (inV (tx [b]) [V.str (Str.ofString "."), V.str (Str.ofString ")")])) _
        rw [e]
        exact q _ s1
    simp only [if_neg h1] at q
    rw [decide_eq_false h1]
    refine iteF ?_
    refine ⟨_, rfl, rfl, _, rfl, ?_⟩
    rw [show V.str (Str.ofString ")") = V.str (S [41]) from rfl, z2]
    by_cases h2 : s0 = 41
    · simp only [if_pos h2] at q
      rw [decide_eq_true h2]
      refine iteT ⟨_, rfl, _, _, rfl, rfl, ?_⟩
      show Q (V.bl (decide (((0 : Nat) : Int) < ((d : Nat) : Int)))) _
      rw [dec_lt]
      exact q _ (Same.refl _)
    simp only [if_neg h2] at q
    rw [decide_eq_false h2]
    refine iteF ?_
    refine ⟨_, rfl, _, rfl, s0, S gs, rfl, rfl, _, rfl, ?_⟩
    have e0 : decide (s0 ∈ (S gs).cps.toList) = decide (s0 ∈ gs) := rfl
    rw [e0]
    by_cases h3 : s0 ∈ gs
    · rw [decide_eq_true h3] at q ⊢
      exact iteT (q _ (Same.refl _))
    rw [decide_eq_false h3] at q ⊢
    refine iteF ⟨_, rfl, (by show 3 ≤ sizeLine; decide), fun T nT => ?_⟩
    refine ⟨T, _, rfl, .inr (sqT upd_same), rfl, rfl, ?_⟩
    have s1 := same_new (o := .tup [V.str (Str.ofString "."), V.str (Str.ofString "|"), V.str (Str.ofString "(")]) nT
    have e : inV (tx [s0]) [V.str (Str.ofString "."), V.str (Str.ofString "|"), V.str (Str.ofString "(")] = (decide (s0 = 46) || (decide (s0 = 124) || decide (s0 = 40))) := by
      rw [show [V.str (Str.ofString "."), V.str (Str.ofString "|"), V.str (Str.ofString "(")] = [[46], [124], [40]].map tx from rfl, inV_tx]
      simp
    show Q (.bl (inV (tx [s0]) [V.str (Str.ofString "."), V.str (Str.ofString "|"), V.str (Str.ofString "(")])) _
    rw [e]
    exact q _ s1
end
end Own

namespace Own
open PySem PySem.Spec PyProof.Rows L2 SX RZ
section
variable {P : Program} {w : World} {K : PySem.W.Frag} {mg : Str → Option Value} {base : Heap}
def spClo : Sp := fun vs H Q _ => ∃ (xs : List Nat) (n j : Nat), vs = [tx xs, iv n] ∧ Cnd.clo 1 (xs.drop n) n = some j ∧ xs.length ≤ 100000 ∧ ∀ H', Same H H' → Q (iv j) H'
abbrev sClo : Stmt := topS 37
abbrev cloN : List Str := ["text", "at", "depth", "place"]
theorem scClo : FnScope cloN ["text", "at"] (defScope sClo) := ⟨rfl, rfl, rfl, by decide +kernel, rfl, by decide +kernel, by decide +kernel⟩
theorem ok_clo {f : Addr} {fd : FuncData} (F : Fun K "closing_place" "closing_place" sClo f fd) (m_len : mg "len" = none) (m_range : mg "range" = none) :
    FnOk P w K mg base CX0 1 f fd ["text", "at"] spClo := by
  refine F.ok scClo (fun vs H Q E h => ?_) (fun cdv A outer s H vs Q E hr h => ?_)
  · obtain ⟨xs, n, j, rfl, _⟩ := h
    rfl
  · obtain ⟨xs, n, j, rfl, hj, hl, q⟩ := h
    refine ⟨_, (pss_cons (ps_set (i := 2) scClo.nd rfl (by first | exact .inl rfl | exact .inr rfl) pe_int)
      (pss_cons (ps_for PassesOwn.never rfl (pi_range2 rfl m_range (pa_cons (pv 1) (pa_cons (pe_callB call_len_str (by rfl) m_len PySem.boot_len (pa_cons (pv 0) pa_nil)) pa_nil))) (pg_name (i := 3) scClo.nd rfl (by first | exact .inl rfl | exact .inr rfl))
        (C8.pss_cut (ps_if (pt_cmpR op_eq (pe_ix ix_str (pv 0) (pv 3) (fun _ _ => rfl)) pe_str (nomark _)) (pss_one (ps_aug (i := 2) scClo.nd rfl (by first | exact .inl rfl | exact .inr rfl) pe_int ip_add)) (pss_one (ps_if (pt_cmpR op_eq (pe_ix ix_str (pv 0) (pv 3) (fun _ _ => rfl)) pe_str (nomark _)) (pss_one (ps_aug (i := 2) scClo.nd rfl (by first | exact .inl rfl | exact .inr rfl) pe_int ip_sub)) pss_nil)))
      (pss_one (ps_if (pt_cmpR op_eq (pv 2) pe_int (nomark _)) (pss_one (ps_ret (pv 3))) pss_nil))))
      (pss_one (ps_never)))), ?_⟩
    have hz : (S xs).length ≤ sizeLine := by rw [S_len, sizeLine_eq]; omega
    have hn : n ≤ xs.length := by
      by_cases h : n ≤ xs.length
      · exact h
      · rw [List.drop_eq_nil_of_le (by omega)] at hj
        cases hj
    refine ⟨_, rfl, _, rfl, S xs, rfl, hz, _, _, rfl, by rw [S_len]; omega, ?_⟩
    rw [S_len]
    have en : (((xs.length : Nat) : Int) - ((n : Nat) : Int)).toNat = xs.length - n := by omega
    refine for_range (lo := ((n : Nat) : Int)) (n := (((xs.length : Nat) : Int) - ((n : Nat) : Int)).toNat) (fun i σ H' => ∃ (d : Nat) (v3 : Option V), σ = [some (tx xs), some (iv n), some (iv d), v3] ∧ Same H H' ∧ 0 < d ∧ Cnd.clo d (xs.drop (n + i)) (n + i) = some j) ⟨1, none, rfl, Same.refl _, Nat.one_pos, hj⟩ ?_ ?_
    · rintro i σ H' hi ⟨d, v3, rfl, s1, hd, hc⟩
      have hlt : n + i < xs.length := by omega
      have ed : xs.drop (n + i) = xs[n + i] :: xs.drop (n + i + 1) := List.drop_eq_getElem_cons hlt
      rw [ed] at hc
      have hc2 : (if Cnd.dep d xs[n + i] = 0 then some (n + i) else Cnd.clo (Cnd.dep d xs[n + i]) (xs.drop (n + i + 1)) (n + i + 1)) = some j := hc
      generalize hs : xs[n + i] = s0 at hc2
      have hat : atI xs ((n : Int) + (i : Int)) = some s0 := by
        rw [show (n : Int) + (i : Int) = ((n + i : Nat) : Int) by omega]
        exact atI_nat (by rw [List.getElem?_eq_getElem hlt, hs])
      try dsimp only [gName, tSeq, tAsg, List.set_cons_zero, List.set_cons_succ]
      have z2 : ∀ m k : Nat, decide (V.str (S [m]) = V.str (S [k])) = decide (m = k) := fun m k => by
        rw [dec_str]
        by_cases e : m = k <;> simp [e]
      refine ⟨fun σ H2 => σ = [some (tx xs), some (iv n), some (iv (Cnd.dep d s0)), some (.int ((n : Int) + (i : Int)))] ∧ Same H H2, ?_, ?_⟩
      · refine ⟨_, rfl, _, rfl, S xs, _, s0, rfl, rfl, hz, hat, rfl, _, rfl, ?_⟩
        rw [show V.str (Str.ofString "(") = V.str (S [40]) from rfl]
        show (if decide (V.str (S [s0]) = V.str (S [40])) = true then _ else _)
        rw [z2]
        unfold Cnd.dep
        by_cases h1 : s0 = 40
        · rw [decide_eq_true h1, if_pos h1]
          refine iteT ⟨_, rfl, _, _, rfl, rfl, ?_⟩
          exact ⟨rfl, s1⟩
        rw [decide_eq_false h1, if_neg h1]
        refine iteF ?_
        refine ⟨_, rfl, _, rfl, S xs, _, s0, rfl, rfl, hz, hat, rfl, _, rfl, ?_⟩
        rw [show V.str (Str.ofString ")") = V.str (S [41]) from rfl]
        show (if decide (V.str (S [s0]) = V.str (S [41])) = true then _ else _)
        rw [z2]
        by_cases h2 : s0 = 41
        · rw [decide_eq_true h2, if_pos h2]
          refine iteT ⟨_, rfl, _, _, rfl, rfl, ?_⟩
          refine ⟨?_, s1⟩
          show [some (tx xs), some (iv n), some (V.int ((d : Int) - 1)), some (V.int ((n : Int) + (i : Int)))] = _
          rw [show (d : Int) - 1 = ((d - 1 : Nat) : Int) by omega]
        · rw [decide_eq_false h2, if_neg h2]
          exact iteF ⟨rfl, s1⟩
      rintro σ H2 ⟨rfl, s2⟩
      refine ⟨_, rfl, rfl, _, rfl, ?_⟩
      have e0 : decide (V.int ((Cnd.dep d s0 : Nat) : Int) = V.int 0) = decide (Cnd.dep d s0 = 0) := by
        by_cases h : Cnd.dep d s0 = 0
        · rw [h]; rfl
        · rw [decide_eq_false h]
          exact decide_eq_false fun e => h (by injection e with e; omega)
      rw [e0]
      by_cases h : Cnd.dep d s0 = 0
      · rw [if_pos h] at hc2
        cases hc2
        rw [decide_eq_true h]
        refine iteT ⟨_, rfl, ?_⟩
        rw [show (n : Int) + (i : Int) = ((n + i : Nat) : Int) by omega]
        exact q _ s2
      · rw [if_neg h] at hc2
        rw [decide_eq_false h]
        exact iteF ⟨_, _, rfl, s2, Nat.pos_of_ne_zero h, hc2⟩
    · rintro σ H' ⟨d, v3, rfl, s1, hd, hc⟩
      rw [en, show n + (xs.length - n) = xs.length by omega, List.drop_length] at hc
      cases hc
end
end Own

namespace Own
open PySem PySem.Spec PyProof.Rows L2 SX RZ
section
variable {P : Program} {w : World} {K : PySem.W.Frag} {mg : Str → Option Value} {base : Heap}
def spTwo : Sp := fun vs H Q _ => ∃ a b : List Nat, vs = [tx (a ++ 44 :: b)] ∧ 44 ∉ a ∧ 44 ∉ b ∧ a.length + b.length ≤ 100000 ∧ ∀ H' p, Same H H' → H p = none → H' p = some (.lst [tx a, tx b]) → Q (.ref p) H'
abbrev sTwo : Stmt := topS 38
abbrev twoN : List Str := ["text", "parts"]
theorem scTwo : FnScope twoN ["text"] (defScope sTwo) := ⟨rfl, rfl, rfl, by decide +kernel, rfl, by decide +kernel, by decide +kernel⟩
theorem ok_two {f : Addr} {fd : FuncData} (F : Fun K "two_parts" "two_parts" sTwo f fd) (m_len : mg "len" = none) :
    FnOk P w K mg base CX0 1 f fd ["text"] spTwo := by
  refine F.ok scTwo (fun vs H Q E h => ?_) (fun cdv A outer s H vs Q E hr h => ?_)
  · obtain ⟨a, b, rfl, _⟩ := h
    rfl
  · obtain ⟨a, b, rfl, ha, hb, hl, q⟩ := h
    refine ⟨_, (pss_cons (ps_set (i := 1) scTwo.nd rfl (by first | exact .inl rfl | exact .inr rfl) (pe_split (pv 0) pe_str))
      (pss_cons (ps_if (pt_cmpR op_ne (pe_callB (callLenC (K := K) rfl) (by rfl) m_len PySem.boot_len (pa_cons (pv 1) pa_nil)) pe_int (nomark _)) pss_never pss_nil)
      (pss_one (ps_ret (pv 1))))), ?_⟩
    have hz : (S (a ++ 44 :: b)).length + 2 ≤ sizeLine := by
      rw [S_len, List.length_append, List.length_cons, sizeLine_eq]
      omega
    refine ⟨_, rfl, ⟨_, rfl⟩, S (a ++ 44 :: b), S [44], rfl, rfl, rfl, hz, ?_⟩
    rw [split_two ha hb (by decide)]
    intro p np
    have s1 := same_new (o := .lst [tx a, tx b]) np
    try dsimp only [gName, tSeq, tAsg, List.set_cons_zero, List.set_cons_succ]
    refine ⟨_, rfl, p, _, rfl, .inl (sqL upd_same), rfl, _, rfl, ?_⟩
    refine iteF ⟨_, rfl, q _ p s1 np upd_same⟩
end
end Own

namespace Own
open PySem PySem.Spec PyProof.Rows L2 SX RZ
section
variable {P : Program} {w : World} {K : PySem.W.Frag} {mg : Str → Option Value} {base : Heap}
def spCkp : Sp := fun vs H Q _ => ∃ gs p : List Nat, vs = [tx gs, tx p] ∧ Cnd.Pat gs p ∧ p.length ≤ 1000 ∧ ∀ H', Same H H' → Q .non H'
abbrev sCkp : Stmt := topS 30
abbrev ckpN : List Str := ["letters", "pattern", "depth", "before", "at", "sign"]
theorem scCkp : FnScope ckpN ["letters", "pattern"] (defScope sCkp) := ⟨rfl, rfl, rfl, by decide +kernel, rfl, by decide +kernel, by decide +kernel⟩
theorem ok_ckp {f : Addr} {fd : FuncData} (F : Fun K "check_pattern" "check_pattern" sCkp f fd) (m_enumerate : mg "enumerate" = none) {f1 : Addr} {fd1 : FuncData} (c1 : Cl P w K mg base "can_stand" 1 ["letters", "before", "sign", "depth"] spCan f1 fd1) :
    FnOk P w K mg base CX0 2 f fd ["letters", "pattern"] spCkp := by
  refine F.ok scCkp (fun vs H Q E h => ?_) (fun cdv A outer s H vs Q E hr h => ?_)
  · obtain ⟨gs, p, rfl, _⟩ := h
    rfl
  · obtain ⟨gs, p, rfl, hp, hl, q⟩ := h
    refine ⟨_, (pss_cons (ps_set (i := 2) scCkp.nd rfl (by first | exact .inl rfl | exact .inr rfl) pe_int)
      (pss_cons (ps_set (i := 3) scCkp.nd rfl (by first | exact .inl rfl | exact .inr rfl) pe_str)
      (pss_cons (ps_for PassesOwn.never rfl (pi_enS (by rfl) m_enumerate (pa_cons (pv 1) pa_nil)) (pg_tup rfl (pgs_cons (pg_name (i := 4) scCkp.nd rfl (by first | exact .inl rfl | exact .inr rfl)) (pgs_cons (pg_name (i := 5) scCkp.nd rfl (by first | exact .inl rfl | exact .inr rfl)) pgs_nil)))
        (pss_cons (ps_if (pt_not (pt_val (pe_cl c1 hr (by decide) (by rfl) (pa_cons (pv 0) (pa_cons (pv 3) (pa_cons (pv 5) (pa_cons (pv 2) pa_nil))))))) pss_never pss_nil)
      (C8.pss_cut (ps_if (pt_cmpR op_eq (pv 5) pe_str (nomark _)) (pss_one (ps_aug (i := 2) scCkp.nd rfl (by first | exact .inl rfl | exact .inr rfl) pe_int ip_add)) pss_nil)
      (C8.pss_cut (ps_if (pt_cmpR op_eq (pv 5) pe_str (nomark _)) (pss_one (ps_aug (i := 2) scCkp.nd rfl (by first | exact .inl rfl | exact .inr rfl) pe_int ip_sub)) pss_nil)
      (pss_one (ps_set (i := 3) scCkp.nd rfl (by first | exact .inl rfl | exact .inr rfl) (pv 5)))))))
      (pss_one (ps_if (pt_cmpR op_gt (pv 2) pe_int (nomark _)) pss_never pss_nil))))), ?_⟩
    obtain ⟨bE, hE⟩ := hp.scn 40 0
    refine ⟨_, rfl, S p, rfl, for_it (walkE (z := S p)) (fun i σ H' => ∃ (d b : Nat) (v4 v5 : Option V), σ = [some (tx gs), some (tx p), some (iv d), some (tx [b]), v4, v5] ∧ Same H H' ∧ Cnd.scan gs 40 0 (p.take i) = some (b, d))
      ⟨0, 40, none, none, rfl, Same.refl _, rfl⟩ (fun _ _ _ _ _ => trivial) ?_ ?_⟩
    · rintro i x σ H' H'' hi ⟨d, b, v4, v5, rfl, s1, hsc⟩ ⟨T, c, rfl, nT, hc, rfl⟩
      have hc2 : p[i]? = some c := by rw [← List.getElem?_toArray]; exact hc
      obtain ⟨hcan, hnext⟩ := Cnd.scan_step hE hsc hc2
      try dsimp only [gName, tSeq, tAsg, List.set_cons_zero, List.set_cons_succ]
      refine ⟨T, _, rfl, .inl (.inl upd_same), rfl, _, _, rfl, _, _, rfl, rfl, ?_⟩
      have sT := s1.trans (same_new (o := .tup [V.int ((i : Nat) : Int), V.str ⟨#[c]⟩]) nT)
      have z2 : ∀ m k : Nat, decide (V.str (S [m]) = V.str (S [k])) = decide (m = k) := fun m k => by
        rw [dec_str]
        by_cases e : m = k <;> simp [e]
      refine ⟨_, rfl, _, rfl, _, rfl, _, rfl, gs, b, c, d, rfl, fun H3 s3 => ⟨_, rfl, ?_⟩⟩
      rw [hcan]
      refine iteF ?_
      have s03 := sT.trans s3
      refine ⟨fun σ H2 => σ = [some (tx gs), some (tx p), some (iv (if c = 40 then d + 1 else d)), some (tx [b]), some (.int ((i : Nat) : Int)), some (tx [c])] ∧ Same H H2, ?_, ?_⟩
      · refine ⟨_, rfl, rfl, _, rfl, ?_⟩
        rw [show V.str (Str.ofString "(") = V.str (S [40]) from rfl]
        show (if decide (V.str (S [c]) = V.str (S [40])) = true then _ else _)
        rw [z2]
        by_cases h1 : c = 40
        · rw [decide_eq_true h1, if_pos h1]
          exact iteT ⟨_, rfl, _, _, rfl, rfl, rfl, s03⟩
        · rw [decide_eq_false h1, if_neg h1]
          exact iteF ⟨rfl, s03⟩
      rintro σ H4 ⟨rfl, s4⟩
      refine ⟨fun σ H2 => σ = [some (tx gs), some (tx p), some (iv (Cnd.dep d c)), some (tx [b]), some (.int ((i : Nat) : Int)), some (tx [c])] ∧ Same H H2, ?_, ?_⟩
      · refine ⟨_, rfl, rfl, _, rfl, ?_⟩
        rw [show V.str (Str.ofString ")") = V.str (S [41]) from rfl]
        show (if decide (V.str (S [c]) = V.str (S [41])) = true then _ else _)
        rw [z2]
        unfold Cnd.dep
        by_cases h1 : c = 41
        · have h0 : c ≠ 40 := by omega
          have hd : 0 < d := by
            unfold Cnd.can at hcan
            rw [if_neg (by omega), if_pos h1] at hcan
            exact of_decide_eq_true hcan
          rw [decide_eq_true h1, if_neg h0, if_neg h0, if_pos h1]
          refine iteT ⟨_, rfl, _, _, rfl, rfl, ?_, s4⟩
          show [some (tx gs), some (tx p), some (V.int ((d : Int) - 1)), _, _, _] = _
          rw [show (d : Int) - 1 = ((d - 1 : Nat) : Int) by omega]
        · rw [decide_eq_false h1]
          refine iteF ⟨?_, s4⟩
          by_cases h0 : c = 40
          · rw [if_pos h0, if_pos h0]
          · rw [if_neg h0, if_neg h0, if_neg h1]
      rintro σ H5 ⟨rfl, s5⟩
      exact ⟨_, rfl, _, _, _, _, rfl, s5, hnext⟩
    · rintro σ H' ⟨d, b, v4, v5, rfl, s1, hsc⟩
      have el : p.take (S p).cps.size = p := List.take_of_length_le (Nat.le_of_eq rfl)
      rw [el, hE] at hsc
      cases hsc
      refine ⟨_, rfl, _, _, rfl, rfl, _, rfl, ?_⟩
      exact iteF (q _ s1)
end
end Own

namespace Own
open PySem PySem.Spec PyProof.Rows L2 SX RZ
section
variable {P : Program} {w : World} {K : PySem.W.Frag} {mg : Str → Option Value} {base : Heap}
def spRnm : Sp := fun vs H Q _ => ∃ (xs nm z : List Nat) (n : Nat), vs = [tx xs, iv n] ∧ xs.drop n = nm ++ z ∧ n ≤ xs.length ∧ xs.length ≤ 100000 ∧ 0 < nm.length ∧ nm.length ≤ 8 ∧ (∀ c ∈ nm, 97 ≤ c ∧ c ≤ 122) ∧ (∀ c r, z = c :: r → ¬ (97 ≤ c ∧ c ≤ 122)) ∧ ∀ H' p, Same H H' → H p = none → H' p = some (.tup [tx nm, iv (n + nm.length)]) → Q (.ref p) H'
abbrev sRnm : Stmt := topS 35
abbrev rnmN : List Str := ["text", "at", "end"]
theorem scRnm : FnScope rnmN ["text", "at"] (defScope sRnm) := ⟨rfl, rfl, rfl, by decide +kernel, rfl, by decide +kernel, by decide +kernel⟩
theorem ok_rnm {f : Addr} {fd : FuncData} (F : Fun K "read_name" "read_name" sRnm f fd) (m_len : mg "len" = none) (gLo : ∃ t, mg "LOWERCASE" = some (.str (Str.ofString "abcdefghijklmnopqrstuvwxyz") t)) (gMN : ∃ t, mg "MOST_NAME" = some (.int 8 t)) :
    FnOk P w K mg base CX0 1 f fd ["text", "at"] spRnm := by
  refine F.ok scRnm (fun vs H Q E h => ?_) (fun cdv A outer s H vs Q E hr h => ?_)
  · obtain ⟨xs, nm, z, n, rfl, _⟩ := h
    rfl
  · obtain ⟨xs, nm, z, n, rfl, hd, hn, hl, h0, h8, hnm, hz, q⟩ := h
    obtain ⟨tLo, eLo⟩ := gLo
    obtain ⟨tMN, eMN⟩ := gMN
    refine ⟨_, (pss_cons (ps_set (i := 2) scRnm.nd rfl (by first | exact .inl rfl | exact .inr rfl) (pv 1))
      (pss_cons (ps_while PassesOwn.never (PW.pt (pw_and (pt_cmpR op_lt (pv 2) (pe_callB call_len_str (by rfl) m_len PySem.boot_len (pa_cons (pv 0) pa_nil)) (nomark _)) (pw_and1 (pt_cmpR op_in_sign (pe_ix ix_str (pv 0) (pv 2) (fun _ _ => rfl)) (pe_glob (v := .str (Str.ofString "abcdefghijklmnopqrstuvwxyz")) (by rfl) eLo ⟨_, rfl⟩) (by rfl)))))
        (pss_one (ps_aug (i := 2) scRnm.nd rfl (by first | exact .inl rfl | exact .inr rfl) pe_int ip_add)))
      (pss_cons (ps_if (pt_not (pt_chain op_le op_le pe_int (pe_op op_sub (pv 2) (pv 1)) (pe_glob (v := .int 8) (by rfl) eMN ⟨_, rfl⟩))) pss_never pss_nil)
      (pss_one (ps_ret (pe_tup (pa_cons (pe_slice sl_str (pv 0) (po_some (pv 1)) (po_some (pv 2))) (pa_cons (pv 2) pa_nil)))))))), ?_⟩
    have hz' : (S xs).length ≤ sizeLine := by rw [S_len, sizeLine_eq]; omega
    have hlen : xs.length = n + (nm.length + z.length) := by
      have := congrArg List.length hd
      rw [List.length_drop, List.length_append] at this
      omega
    have hat : ∀ k, k < nm.length → ∃ c, xs[n + k]? = some c ∧ 97 ≤ c ∧ c ≤ 122 := fun k hk => by
      have e : xs[n + k]? = (nm ++ z)[k]? := by rw [← hd, List.getElem?_drop]
      rw [List.getElem?_append_left hk] at e
      exact ⟨_, e.trans (List.getElem?_eq_getElem hk), hnm _ (List.getElem_mem hk)⟩
    have hend : ∀ c, xs[n + nm.length]? = some c → ¬ (97 ≤ c ∧ c ≤ 122) := fun c hc => by
      have e : xs[n + nm.length]? = (nm ++ z)[nm.length]? := by rw [← hd, List.getElem?_drop]
      rw [List.getElem?_append_right (Nat.le_refl _), Nat.sub_self] at e
      rw [e] at hc
      cases z with
      | nil => cases hc
      | cons x r => cases hc; exact hz _ _ rfl
    have lower : ∀ c : Nat, decide (c ∈ (Str.ofString "abcdefghijklmnopqrstuvwxyz").cps.toList) = decide (97 ≤ c ∧ c ≤ 122) := fun c => by
      have e : (Str.ofString "abcdefghijklmnopqrstuvwxyz").cps.toList = List.range' 97 26 := by decide +kernel
      rw [e]
      by_cases h : 97 ≤ c ∧ c ≤ 122
      · rw [decide_eq_true h]
        exact decide_eq_true (List.mem_range'_1.mpr (by omega))
      · rw [decide_eq_false h]
        exact decide_eq_false fun m => h (by have := List.mem_range'_1.mp m; omega)
    refine ⟨_, rfl, ?_⟩
    show tWhile _ _ _ [some (tx xs), some (iv n), some (iv n)] H
    refine ⟨fun m σ H' => ∃ k, σ = [some (tx xs), some (iv n), some (iv (n + k))] ∧ k ≤ nm.length ∧ m = nm.length - k ∧ Same H H', ⟨_, 0, rfl, Nat.zero_le _, rfl, Same.refl _⟩, ?_⟩
    rintro m σ H1 ⟨k, rfl, hk, rfl, s1⟩
    refine ⟨_, rfl, _, rfl, S xs, rfl, hz', _, _, rfl, rfl, _, rfl, ?_⟩
    rw [S_len, dec_lt]
    have done' : k = nm.length → tSeq
        (tIfS
          (tNot
            (tTest
              (tChain (rI0 fun i j => V.bl (decide (i ≤ j))) (rI0 fun i j => V.bl (decide (i ≤ j))) (tC (V.int 1))
                (tOp (rI0 fun i j => V.int (i - j)) (tVar 2) (tVar 1)) (tC (V.int 8)))))
          tNever tNext)
        (tRet (tTup (tCons (tSl rSlS (tVar 0) (tPart (tVar 1)) (tPart (tVar 2))) (tCons (tVar 2) tNil)))) { nx := fun x H' => Q V.non H', rt := Q } [some (tx xs), some (iv n), some (iv (n + k))] H1 := fun e => by
      subst e
      refine ⟨_, rfl, _, rfl, _, _, rfl, rfl, _, _, rfl, rfl, _, rfl, ?_⟩
      rw [decide_eq_true (show (1 : Int) ≤ ((n + nm.length : Nat) : Int) - ((n : Nat) : Int) by omega)]
      refine iteT ⟨_, _, rfl, rfl, _, rfl, ?_⟩
      rw [decide_eq_true (show ((n + nm.length : Nat) : Int) - ((n : Nat) : Int) ≤ 8 by omega)]
      refine iteF ⟨_, rfl, _, rfl, _, rfl, _, rfl, _, rfl, S xs, rfl, hz', _, rfl, (by show 2 ≤ sizeLine; decide), fun T nT => ?_⟩
      have ec : cutS (S xs) (some ((n : Nat) : Int)) (some ((n + nm.length : Nat) : Int)) = S nm := by
        unfold cutS
        rw [S_len, HT.sIx_nat, HT.sIx_nat, Nat.min_eq_left (by omega), Nat.min_eq_left (by omega)]
        show (⟨_⟩ : Str) = ⟨_⟩
        congr 2
        show (xs.drop n).take (n + nm.length - n) = nm
        rw [hd, show n + nm.length - n = nm.length by omega, List.take_left]
      rw [ec]
      exact q _ T (s1.trans (same_new nT)) (none_of s1 nT) upd_same
    by_cases h : n + k < xs.length
    rotate_left
    · rw [decide_eq_false h]
      exact iteF (done' (by omega))
    rw [decide_eq_true h]
    obtain ⟨c, hc⟩ : ∃ c, xs[n + k]? = some c := ⟨_, List.getElem?_eq_getElem h⟩
    refine iteT ⟨_, rfl, _, rfl, S xs, _, c, rfl, rfl, hz', atI_nat hc, c, _, rfl, rfl, _, rfl, ?_⟩
    rw [lower]
    by_cases hk2 : k < nm.length
    · obtain ⟨c', hc', hl'⟩ := hat k hk2
      rw [hc] at hc'
      cases hc'
      rw [decide_eq_true hl']
      refine iteT ⟨fun σ H' => ∃ k', σ = [some (tx xs), some (iv n), some (iv (n + k'))] ∧ k' ≤ nm.length ∧ k' = k + 1 ∧ Same H H', ?_, ?_⟩
      · rintro σ' H' ⟨k', rfl, h1, rfl, s2⟩
        exact ⟨_, by omega, _, rfl, h1, rfl, s2⟩
      · refine ⟨_, rfl, _, _, rfl, rfl, k + 1, ?_, by omega, rfl, s1⟩
        show [some (tx xs), some (iv n), some (V.int (((n + k : Nat) : Int) + 1))] = _
        rw [show ((n + k : Nat) : Int) + 1 = ((n + (k + 1) : Nat) : Int) by omega]
    · have ek : k = nm.length := by omega
      subst ek
      rw [decide_eq_false (hend c hc)]
      exact iteF (done' rfl)
end
end Own

namespace Own
open PySem PySem.Spec PyProof.Rows L2 SX RZ
section
variable {P : Program} {w : World} {K : PySem.W.Frag} {mg : Str → Option Value} {base : Heap}
def spTtx : Sp := fun vs H Q _ => ∃ (gs t : List Nat) (i : List (List Nat)), vs = [tx gs, tx t] ∧ Good gs ∧ Row gs i ∧ i.length ≤ 100 ∧ Rd gs i t ∧ t.length ≤ 1000 ∧ ∀ H', Same H H' → Q (tx (rTx gs i)) H'
abbrev sTtx : Stmt := topS 36
abbrev ttxN : List Str := ["letters", "text"]
theorem scTtx : FnScope ttxN ["letters", "text"] (defScope sTtx) := ⟨rfl, rfl, rfl, by decide +kernel, rfl, by decide +kernel, by decide +kernel⟩
theorem ok_ttx {f : Addr} {fd : FuncData} (F : Fun K "template_text" "template_text" sTtx f fd) {fI fT C : Addr} {fdI fdT : FuncData} (T : TmC K C) (M : Mk K C fI) (gC : mg "Template" = some (.ref C)) (GI : FnOk P w K mg base CX0 4 fI fdI ["self", "letters", "text"] (spTi C)) (bI : Binds K fdI ["self", "letters", "text"] []) (mT : Meth K C "text" fT) (GT : FnOk P w K mg base CX0 4 fT fdT ["self"] (spText C)) (bT : Binds K fdT ["self"] []) :
    FnOk P w K mg base CX0 6 f fd ["letters", "text"] spTtx := by
  refine F.ok scTtx (fun vs H Q E h => ?_) (fun cdv A outer s H vs Q E hr h => ?_)
  · obtain ⟨gs, t, i, rfl, _⟩ := h
    rfl
  · obtain ⟨gs, t, i, rfl, hg, hi, li, rd, lt, q⟩ := h
    refine ⟨_, (pss_one (ps_try_thru0 (pss_one (ps_ret (pe_meth0 (pe_make M GI (hr.mono (by decide)) (by rfl) gC bI .nil pass0 (pa_cons (pv 0) (pa_cons (pv 1) pa_nil))) T.cls mT GT (hr.mono (by decide)) bT .nil pass0))))), ?_⟩
    dsimp only [tRet, tMeth]
    refine tm_mk (gs := gs) (t := t) (its := i) (fun k hk => ?_) hg lt rd fun H1 p s1 np tm => ?_
    · exact ⟨_, rfl, _, rfl, hk _ (Same.refl _)⟩
    obtain ⟨dx, pp, hp, _⟩ := id tm
    have := hg.hi
    refine ⟨p, dx, _, rfl, hp, rfl, p, gs, i, rfl, tm, by omega, by omega, (fun x hx => by have := row_len hg hi x hx; omega), fun H2 s2 => q H2 (s1.trans s2)⟩
end
end Own

namespace Own
open PySem PySem.Spec PyProof.Rows L2 SX RZ
section
variable {P : Program} {w : World} {K : PySem.W.Frag} {mg : Str → Option Value} {base : Heap}
def spMof : Sp := fun vs H Q _ => ∃ gs p : List Nat, vs = [tx gs, tx p] ∧ Cnd.Pat gs p ∧ p.length ≤ 1000 ∧ ∀ H' a, Same H H' → H a = none → H' a = some (.tup [.str (Str.ofString "match"), tx p]) → Q (.ref a) H'
abbrev sMof : Stmt := topS 39
abbrev mofN : List Str := ["letters", "text"]
theorem scMof : FnScope mofN ["letters", "text"] (defScope sMof) := ⟨rfl, rfl, rfl, by decide +kernel, rfl, by decide +kernel, by decide +kernel⟩
theorem ok_mof {f : Addr} {fd : FuncData} (F : Fun K "match_of" "match_of" sMof f fd) {f1 : Addr} {fd1 : FuncData} (c1 : Cl P w K mg base "check_pattern" 2 ["letters", "pattern"] spCkp f1 fd1) :
    FnOk P w K mg base CX0 3 f fd ["letters", "text"] spMof := by
  refine F.ok scMof (fun vs H Q E h => ?_) (fun cdv A outer s H vs Q E hr h => ?_)
  · obtain ⟨gs, p, rfl, _⟩ := h
    rfl
  · obtain ⟨gs, p, rfl, hp, hl, q⟩ := h
    refine ⟨_, (pss_cons (ps_try_thru0 (pss_one (ps_expr (pe_cl c1 hr (by decide) (by rfl) (pa_cons (pv 0) (pa_cons (pv 1) pa_nil))))))
      (pss_one (ps_ret (pe_tup (pa_cons pe_str (pa_cons (pv 1) pa_nil)))))), ?_⟩
    refine ⟨_, rfl, _, rfl, gs, p, rfl, hp, hl, fun H1 s1 => ?_⟩
    refine ⟨_, rfl, (by show 2 ≤ sizeLine; decide), fun a na => ?_⟩
    exact q _ a (s1.trans (same_new na)) (none_of s1 na) upd_same
end
end Own

namespace Own
open PySem PySem.Spec PyProof.Rows L2 SX RZ
section
variable {P : Program} {w : World} {K : PySem.W.Frag} {mg : Str → Option Value} {base : Heap}
def spTof : Sp := fun vs H Q _ => ∃ (gs a b : List Nat) (k : Nat) (i j : List (List Nat)), vs = [tx gs, .str (kwS k), tx (a ++ 44 :: b)] ∧ Good gs ∧ Row gs i ∧ Row gs j ∧ i.length ≤ 100 ∧ j.length ≤ 100 ∧ Rd gs i a ∧ Rd gs j b ∧ a.length ≤ 1000 ∧ b.length ≤ 1000 ∧ (∀ c ∈ a, c ≠ 40 ∧ c ≠ 41 ∧ c ≠ 44) ∧ (∀ c ∈ b, c ≠ 40 ∧ c ≠ 41 ∧ c ≠ 44) ∧ ∀ H' p, Same H H' → H p = none → H' p = some (.tup [.str (kwS k), tx (rTx gs i), tx (rTx gs j)]) → Q (.ref p) H'
abbrev sTof : Stmt := topS 41
abbrev tofN : List Str := ["letters", "kind", "text", "one", "other"]
theorem scTof : FnScope tofN ["letters", "kind", "text"] (defScope sTof) := ⟨rfl, rfl, rfl, by decide +kernel, rfl, by decide +kernel, by decide +kernel⟩
theorem ok_tof {f : Addr} {fd : FuncData} (F : Fun K "templates_of" "templates_of" sTof f fd) {f1 : Addr} {fd1 : FuncData} (c1 : Cl P w K mg base "two_parts" 1 ["text"] spTwo f1 fd1) {f2 : Addr} {fd2 : FuncData} (c2 : Cl P w K mg base "template_text" 6 ["letters", "text"] spTtx f2 fd2) :
    FnOk P w K mg base CX0 7 f fd ["letters", "kind", "text"] spTof := by
  refine F.ok scTof (fun vs H Q E h => ?_) (fun cdv A outer s H vs Q E hr h => ?_)
  · obtain ⟨gs, a, b, k, i, j, rfl, _⟩ := h
    rfl
  · obtain ⟨gs, a, b, k, i, j, rfl, hg, hi, hj, li, lj, ra, rb, la, lb, sa, sb, q⟩ := h
    refine ⟨_, (pss_cons (ps_asg (pe_cl c1 hr (by decide) (by rfl) (pa_cons (pv 2) pa_nil)) (pg_lst rfl (pgs_cons (pg_name (i := 3) scTof.nd rfl (by first | exact .inl rfl | exact .inr rfl)) (pgs_cons (pg_name (i := 4) scTof.nd rfl (by first | exact .inl rfl | exact .inr rfl)) pgs_nil))))
      (pss_one (ps_ret (pe_tup (pa_cons (pv 1) (pa_cons (pe_cl c2 hr (by decide) (by rfl) (pa_cons (pv 0) (pa_cons (pv 3) pa_nil))) (pa_cons (pe_cl c2 hr (by decide) (by rfl) (pa_cons (pv 0) (pa_cons (pv 4) pa_nil))) pa_nil))))))), ?_⟩
    refine ⟨_, rfl, a, b, rfl, (fun h => (sa _ h).2.2 rfl), (fun h => (sb _ h).2.2 rfl), by omega, fun H1 p s1 np hp => ?_⟩
    refine ⟨p, _, rfl, sqL hp, rfl, _, _, rfl, _, _, rfl, rfl, ?_⟩
    try dsimp only [gName, tSeq, tAsg, List.set_cons_zero, List.set_cons_succ]
    refine ⟨_, rfl, _, rfl, _, rfl, gs, a, i, rfl, hg, hi, li, ra, la, fun H2 s2 => ?_⟩
    refine ⟨_, rfl, _, rfl, gs, b, j, rfl, hg, hj, lj, rb, lb, fun H3 s3 => ⟨(by show 3 ≤ sizeLine; decide), fun T nT => ?_⟩⟩
    have s13 := s1.trans (s2.trans s3)
    exact q _ T (s13.trans (same_new nT)) (none_of s13 nT) upd_same
end
end Own

namespace Own
open PySem PySem.Spec PyProof.Rows L2 SX RZ
section
variable {P : Program} {w : World} {K : PySem.W.Frag} {mg : Str → Option Value} {base : Heap}
abbrev nmK (n : Nat) : List (L2.Key × V) := (List.range n).map fun k => (Sum.inr (S (Cnd.dec k)), iv k)
theorem nm_new : ∀ i, i ≤ 60 → (valV (nmK i) (Sum.inr (S (Cnd.dec i)))) = none := by
  have h : ∀ i, i ≤ 60 → (valV (nmK i) (Sum.inr (S (Cnd.dec i)))).isNone = true := by decide +kernel
  exact fun i hi => Option.isNone_iff_eq_none.mp (h i hi)
theorem nm_at : ∀ r, r ≤ 60 → valV (nmK 61) (Sum.inr (S (Cnd.dec r))) = some (iv r) := by decide +kernel
def spLof : Sp := fun vs H Q _ => ∃ r m : Nat, vs = [tx (Cnd.dec r ++ 44 :: Cnd.dec m)] ∧ r < m ∧ m ≤ 60 ∧ ∀ H' a, Same H H' → H a = none → H' a = some (.tup [.str (Str.ofString "length"), iv r, iv m]) → Q (.ref a) H'
abbrev sLof : Stmt := topS 40
abbrev lofN : List Str := ["text", "numbers", "one", "other", "number"]
theorem scLof : FnScope lofN ["text"] (defScope sLof) := ⟨rfl, rfl, rfl, by decide +kernel, rfl, by decide +kernel, by decide +kernel⟩
theorem ok_lof {f : Addr} {fd : FuncData} (F : Fun K "length_of" "length_of" sLof f fd) {f1 : Addr} {fd1 : FuncData} (c1 : Cl P w K mg base "two_parts" 1 ["text"] spTwo f1 fd1) (gMM : ∃ t, mg "MOST_MODULUS" = some (.int 60 t)) (m_range : mg "range" = none) (m_str : mg "str" = none) :
    FnOk P w K mg base CX0 2 f fd ["text"] spLof := by
  refine F.ok scLof (fun vs H Q E h => ?_) (fun cdv A outer s H vs Q E hr h => ?_)
  · obtain ⟨r, m, rfl, _⟩ := h
    rfl
  · obtain ⟨r, m, rfl, hrm, hm, q⟩ := h
    have hu := hu_of hr
    obtain ⟨tMM, eMM⟩ := gMM
    refine ⟨_, (pss_cons (ps_setDc (i := 1) (own := [("number", 4)]) (g := gName 4) (tt := tYes) (tv := tVar 4) rfl scLof.nd rfl rfl (sw_trueD rfl rfl rfl (by decide +kernel)) (pi_range1 rfl m_range (pa_cons (pe_op op_add (pe_glob (v := .int 60) (by rfl) eMM ⟨_, rfl⟩) pe_int) pa_nil)) (blkOk_by (N := lofN) (sc := defScope sLof) (by decide +kernel)) (fun _ _ _ _ _ => pg_name (i := 4) scLof.nd rfl (Or.inl rfl)) (fun _ _ _ _ _ => pts_nil) (fun _ _ _ _ _ => pe_callTy call_str_int (by rfl) m_str (by decide +kernel) (pa_cons (pv 4) pa_nil)) (fun _ _ _ _ _ => pv 4))
      (pss_cons (ps_asg (pe_cl c1 hr (by decide) (by rfl) (pa_cons (pv 0) pa_nil)) (pg_lst rfl (pgs_cons (pg_name (i := 2) scLof.nd rfl (by first | exact .inl rfl | exact .inr rfl)) (pgs_cons (pg_name (i := 3) scLof.nd rfl (by first | exact .inl rfl | exact .inr rfl)) pgs_nil))))
      (pss_cons (ps_if (PW.pt (pw_or (pt_cmp (pc_dnotin hu (pv 2) (pv 1))) (pw_or (pt_cmp (pc_dnotin hu (pv 3) (pv 1))) (pw_or1 (pt_cmpR op_ge (pe_dget hu (pv 1) (pv 2) (fun _ _ => rfl)) (pe_dget hu (pv 1) (pv 3) (fun _ _ => rfl)) (nomark _)))))) pss_never pss_nil)
      (pss_one (ps_ret (pe_tup (pa_cons pe_str (pa_cons (pe_dget hu (pv 1) (pv 2) (fun _ _ => rfl)) (pa_cons (pe_dget hu (pv 1) (pv 3) (fun _ _ => rfl)) pa_nil))))))))), ?_⟩
    refine ⟨_, _, rfl, rfl, 61, rfl, by decide, by decide, fun D nD => ?_⟩
    refine dc_it (walk_range (lo := 0) (n := (61 : Int).toNat)) (fun i H' => Same H H' ∧ H' D = some (.dK (nmK i))) ⟨same_new nD, upd_same⟩ (fun _ _ _ _ => trivial) ?_ ?_
    · rintro i x H1 H2 hi ⟨s1, hD⟩ ⟨rfl, rfl⟩
      have hi' : i < 61 := hi
      have en : (0 : Int) + (i : Int) = ((i : Nat) : Int) := by omega
      have hl0 : (nmK i).length = i := by rw [List.length_map, List.length_range]
      have hlog : ∀ i : Nat, i < 61 → ((i : Nat) : Int).natAbs.log2 < 1920 := fun i hi => by
        have : i.log2 < 6 := by
          by_cases z : i = 0
          · subst z; decide
          · exact (Nat.log2_lt z).mpr (by omega)
        show i.log2 < 1920
        omega
      refine ⟨rfl, ⟨_, rfl, (0 : Int) + (i : Int), rfl, by rw [en]; exact hlog i hi', ?_⟩⟩
      have et : (V.str (Str.ofString (toString ((0 : Int) + (i : Int))))) = kV (Sum.inr (S (Cnd.dec i))) := by
        rw [en]
        exact congrArg V.str (dec_to i (by omega))
      refine ⟨_, rfl, nmK i, Sum.inr (S (Cnd.dec i)), et, hD, small1000 (by omega), same_put s1 nD, ?_⟩
      rw [upd_same, putK_new _ (nm_new i (by omega))]
      show some (HO.dK (nmK i ++ [(Sum.inr (S (Cnd.dec i)), V.int ((0 : Int) + (i : Int)))])) = some (HO.dK (nmK (i + 1)))
      rw [en]
      show some (HO.dK (nmK i ++ [_])) = some (HO.dK (nmK (i + 1)))
      congr 2
      show _ = (List.range (i + 1)).map _
      rw [List.range_succ, List.map_append]
      rfl
    rintro H1 ⟨s1, hD⟩
    try dsimp only [gName, tSeq, tAsg, List.set_cons_zero, List.set_cons_succ]
    have ha : ∀ k, k ≤ 60 → ∀ c ∈ Cnd.dec k, c ≠ 44 := fun k hk c hc => by have := dec_no k hk c hc; omega
    have hl : ∀ k, k ≤ 60 → (Cnd.dec k).length ≤ 2 := by decide
    have l1 := hl r (by omega)
    have l2 := hl m hm
    refine ⟨_, rfl, Cnd.dec r, Cnd.dec m, rfl, (fun h => ha r (by omega) _ h rfl), (fun h => ha m hm _ h rfl), by omega, fun H2 p s2 np hp => ?_⟩
    refine ⟨p, _, rfl, sqL hp, rfl, _, _, rfl, _, _, rfl, rfl, ?_⟩
    have hD2 := s2 _ _ hD
    have g1 : DGet H2 D (tx (Cnd.dec r)) (some (iv r)) := by
      rw [← nm_at r (by omega)]
      exact DGet.k (k := Sum.inr (S (Cnd.dec r))) hD2
    have g2 : DGet H2 D (tx (Cnd.dec m)) (some (iv m)) := by
      rw [← nm_at m hm]
      exact DGet.k (k := Sum.inr (S (Cnd.dec m))) hD2
    try dsimp only [gName, tSeq, tAsg, List.set_cons_zero, List.set_cons_succ]
    refine ⟨_, rfl, _, rfl, D, _, rfl, g1, _, rfl, iteF ?_⟩
    refine ⟨_, rfl, _, rfl, D, _, rfl, g2, _, rfl, iteF ?_⟩
    refine ⟨_, rfl, _, rfl, D, _, rfl, g1, _, rfl, _, rfl, D, _, rfl, g2, _, _, rfl, rfl, _, rfl, ?_⟩
    rw [decide_eq_false (by omega)]
    refine iteF ?_
    refine ⟨_, rfl, _, rfl, D, _, rfl, g1, _, rfl, _, rfl, D, _, rfl, g2, (by show 3 ≤ sizeLine; decide), fun T nT => ?_⟩
    have s12 := s1.trans s2
    exact q _ T (s12.trans (same_new nT)) (none_of s12 nT) upd_same
end
end Own

namespace Own
open PySem PySem.Spec PyProof.Rows L2 SX RZ
section
variable {P : Program} {w : World} {K : PySem.W.Frag} {mg : Str → Option Value} {base : Heap}
def spRsm : Sp := fun vs H Q _ => ∃ (gs xs z : List Nat) (n : Nat) (c : Cnd.Cd), vs = [tx gs, tx xs, iv n] ∧ Good gs ∧ xs.drop n = Cnd.cTx c ++ z ∧ n ≤ xs.length ∧ xs.length ≤ 100000 ∧ Cnd.leaf c = true ∧ OkS gs c ∧ (∀ d r, z = d :: r → ¬ (97 ≤ d ∧ d ≤ 122)) ∧
  ∀ H' p v, Same H H' → H p = none → H' p = some (.tup [v, iv (n + (Cnd.cTx c).length)]) → CdH H' c v → Q (.ref p) H'
abbrev sRsm : Stmt := topS 42
abbrev rsmN : List Str := ["letters", "text", "at", "name", "end", "kind", "start", "inner"]
theorem scRsm : FnScope rsmN ["letters", "text", "at"] (defScope sRsm) := ⟨rfl, rfl, rfl, by decide +kernel, rfl, by decide +kernel, by decide +kernel⟩
theorem ok_rsm {f : Addr} {fd : FuncData} (F : Fun K "read_simple" "read_simple" sRsm f fd) (m_len : mg "len" = none) {f1 : Addr} {fd1 : FuncData} (c1 : Cl P w K mg base "read_name" 1 ["text", "at"] spRnm f1 fd1) {f2 : Addr} {fd2 : FuncData} (c2 : Cl P w K mg base "closing_place" 1 ["text", "at"] spClo f2 fd2) {f3 : Addr} {fd3 : FuncData} (c3 : Cl P w K mg base "match_of" 3 ["letters", "text"] spMof f3 fd3) {f4 : Addr} {fd4 : FuncData} (c4 : Cl P w K mg base "length_of" 2 ["text"] spLof f4 fd4) {f5 : Addr} {fd5 : FuncData} (c5 : Cl P w K mg base "templates_of" 7 ["letters", "kind", "text"] spTof f5 fd5) {HW : Addr} {esW : Array DictEntry} {nW : Nat} (gH : mg "HOLDING_WORDS" = some (.ref HW)) (DW : KDict K w HW esW nW) (kW : ∀ k, k ≤ 3 → ∃ u, PySem.W.nsIn K HW (kwS k) = some (some u)) :
    FnOk P w K mg base CX0 8 f fd ["letters", "text", "at"] spRsm := by
  refine F.ok scRsm (fun vs H Q E h => ?_) (fun cdv A outer s H vs Q E hr h => ?_)
  · obtain ⟨gs, xs, z, n, c, rfl, _⟩ := h
    rfl
  · obtain ⟨gs, xs, z, n, c, rfl, hg, hd, hn, hl, hlf, hok, hz, q⟩ := h
    refine ⟨_, (pss_cons (ps_if (pt_val (pe_bm PySem.F.plainAttrs_str PySem.F.slot_str_startswith PySem.F.type_str_startswith mt_startswith3 (pv 1) (pa_cons pe_str (pa_cons (pv 2) pa_nil)))) (pss_cons (ps_asg (pe_cl c1 hr (by decide) (by rfl) (pa_cons (pv 1) (pa_cons (pe_op op_add (pv 2) (pe_callB call_len_str (by rfl) m_len PySem.boot_len (pa_cons pe_str pa_nil))) pa_nil))) (pg_tup rfl (pgs_cons (pg_name (i := 3) scRsm.nd rfl (by first | exact .inl rfl | exact .inr rfl)) (pgs_cons (pg_name (i := 4) scRsm.nd rfl (by first | exact .inl rfl | exact .inr rfl)) pgs_nil))))
      (pss_one (ps_ret (pe_tup (pa_cons (pe_tup (pa_cons pe_str (pa_cons (pv 3) pa_nil))) (pa_cons (pv 4) pa_nil)))))) pss_nil)
      (pss_cons (ps_set (i := 5) scRsm.nd rfl (by first | exact .inl rfl | exact .inr rfl) (pe_ix (ixT (K := K) rfl) (pe_partition (pe_slice sl_str (pv 1) (po_some (pv 2)) po_none) pe_str) pe_int (fun _ _ => rfl)))
      (pss_cons (ps_set (i := 6) scRsm.nd rfl (by first | exact .inl rfl | exact .inr rfl) (pe_op op_add (pe_op op_add (pv 2) (pe_callB call_len_str (by rfl) m_len PySem.boot_len (pa_cons (pv 5) pa_nil))) pe_int))
      (pss_cons (ps_set (i := 4) scRsm.nd rfl (by first | exact .inl rfl | exact .inr rfl) (pe_cl c2 hr (by decide) (by rfl) (pa_cons (pv 1) (pa_cons (pv 6) pa_nil))))
      (pss_cons (ps_set (i := 7) scRsm.nd rfl (by first | exact .inl rfl | exact .inr rfl) (pe_slice sl_str (pv 1) (po_some (pv 6)) (po_some (pv 4))))
      (pss_cons (ps_if (pt_cmpR op_eq (pv 5) pe_str (nomark _)) (pss_one (ps_ret (pe_tup (pa_cons (pe_cl c3 hr (by decide) (by rfl) (pa_cons (pv 0) (pa_cons (pv 7) pa_nil))) (pa_cons (pe_op op_add (pv 4) pe_int) pa_nil))))) pss_nil)
      (pss_cons (ps_if (pt_cmpR op_eq (pv 5) pe_str (nomark _)) (pss_one (ps_ret (pe_tup (pa_cons (pe_cl c4 hr (by decide) (by rfl) (pa_cons (pv 7) pa_nil)) (pa_cons (pe_op op_add (pv 4) pe_int) pa_nil))))) pss_nil)
      (pss_cons (ps_if (pt_cmpR (op_notIn_kd DW) (pv 5) (pe_glob (v := .ref HW) (by rfl) gH rfl) (by rfl)) pss_never pss_nil)
      (pss_one (ps_ret (pe_tup (pa_cons (pe_cl c5 hr (by decide) (by rfl) (pa_cons (pv 0) (pa_cons (pv 5) (pa_cons (pv 7) pa_nil)))) (pa_cons (pe_op op_add (pv 4) pe_int) pa_nil))))))))))))), ?_⟩
    have hz' : (S xs).length ≤ sizeLine := by rw [S_len, sizeLine_eq]; omega
    have hxl : xs.length = n + ((Cnd.cTx c).length + z.length) := by
      have := congrArg List.length hd
      rw [List.length_drop, List.length_append] at this
      omega
    refine ⟨_, rfl, rfl, _, rfl, S xs, S Cnd.namT, ((n : Nat) : Int), rfl, rfl, _, rfl, ?_⟩
    rw [sw3 hn, hd]
    by_cases hnm : Cnd.isNamed c = true
    · cases c with
      | named m =>
        cases hok with
        | named h0 h8 hm =>
          rw [decide_eq_true (show Cnd.namT <+: Cnd.cTx (.named m) ++ z from ⟨m ++ z, by show _ = (Cnd.namT ++ m) ++ z; rw [List.append_assoc]⟩)]
          refine iteT ?_
          have e6 : (Cnd.cTx (.named m)).length = 6 + m.length := by show (Cnd.namT ++ m).length = _; rw [List.length_append]; rfl
          have hd6 : xs.drop (n + 6) = m ++ z := by
            rw [← List.drop_drop, hd]
            show ((Cnd.namT ++ m) ++ z).drop 6 = _
            rw [List.append_assoc]
            rfl
          refine ⟨_, rfl, _, rfl, _, rfl, (by show 6 ≤ sizeLine; decide), _, _, rfl, rfl, xs, m, z, n + 6, ?_, hd6, by omega, hl, h0, h8, hm, hz, fun H1 p s1 np hp => ?_⟩
          · show [tx xs, V.int (((n : Nat) : Int) + ((6 : Nat) : Int))] = [tx xs, iv (n + 6)]
            rw [show ((n : Nat) : Int) + ((6 : Nat) : Int) = ((n + 6 : Nat) : Int) by omega]
          refine ⟨p, _, rfl, sqT hp, rfl, _, _, rfl, _, _, rfl, rfl, ?_⟩
          try dsimp only [gName, tSeq, tAsg, List.set_cons_zero, List.set_cons_succ]
          refine ⟨_, rfl, (by show 2 ≤ sizeLine; decide), fun T nT => ⟨_, rfl, (by show 2 ≤ sizeLine; decide), fun U nU => ?_⟩⟩
          have sT := same_new (o := .tup [V.str (Str.ofString "named"), tx m]) nT
          have sU := same_new (o := .tup [V.ref T, iv (n + 6 + m.length)]) nU
          have sTU := s1.trans (sT.trans sU)
          refine q _ U (V.ref T) sTU (none_of (s1.trans sT) nU) ?_ ⟨T, rfl, sU _ _ upd_same⟩
          rw [upd_same, e6, Nat.add_assoc]
      | mat p => cases hnm
      | len r m => cases hnm
      | tpl k a b x y => cases hnm
      | no c => cases hnm
      | two w a b => cases hnm
    have hnm : Cnd.isNamed c = false := by cases e : Cnd.isNamed c with
      | true => exact absurd e hnm
      | false => rfl
    rw [decide_eq_false (Cnd.not_named hlf hnm z)]
    refine iteF ?_
    have et := Cnd.leaf_text hlf hnm
    have hk := Cnd.kd_no c
    have hd0 : xs.drop n = Cnd.kd c ++ 40 :: (Cnd.inn c ++ 41 :: z) := by
      rw [hd, et, List.append_assoc]
      show Cnd.kd c ++ (40 :: ((Cnd.inn c ++ [41]) ++ z)) = _
      rw [List.append_assoc]
      rfl
    have hcl : (Cnd.cTx c).length = (Cnd.kd c).length + (1 + ((Cnd.inn c).length + 1)) := by
      rw [et, List.length_append, List.length_cons, List.length_append]
      show _ + (_ + 1 + 1) = _
      omega
    refine ⟨_, rfl, _, rfl, _, rfl, S xs, rfl, hz', ⟨_, rfl⟩, S (xs.drop n), S [40], ?_, rfl, rfl, by rw [S_len, sizeLine_eq, List.length_drop]; omega, fun P1 nP1 => ?_⟩
    · rw [cutN_from hn]
    rw [hd0, part_at hk]
    have sP1 := same_new (o := .tup [V.str (S (Cnd.kd c)), V.str (Txt.partition (S (Cnd.kd c ++ 40 :: (Cnd.inn c ++ 41 :: z))) (S [40])).2.1, V.str (Txt.partition (S (Cnd.kd c ++ 40 :: (Cnd.inn c ++ 41 :: z))) (S [40])).2.2]) nP1
    refine ⟨P1, _, 0, _, rfl, rfl, sqT upd_same, atI_nat (j := 0) rfl, ?_⟩
    generalize upd H P1 _ = H1 at sP1 ⊢
    try dsimp only [gName, tSeq, tAsg, List.set_cons_zero, List.set_cons_succ]
    obtain ⟨st, est⟩ : ∃ st, st = n + (Cnd.kd c).length + 1 := ⟨_, rfl⟩
    have hds : xs.drop st = Cnd.inn c ++ 41 :: z := by
      rw [est, Nat.add_assoc, ← List.drop_drop, hd0, ← List.drop_drop, List.drop_left]
      rfl
    have hst : st + (Cnd.inn c).length ≤ xs.length := by omega
    have hbal : ∀ d q i, Cnd.clo (d + 1) (Cnd.inn c ++ q) i = Cnd.clo (d + 1) q (i + (Cnd.inn c).length) := by
      cases hok with
      | named _ _ _ => cases hnm
      | mat hp _ => exact hp.bal
      | len _ _ =>
        exact Cnd.bal_plain fun x hx => by
          rcases List.mem_append.mp hx with h | h
          · exact Cnd.dec_plain x h
          · rcases List.mem_cons.mp h with rfl | h
            · decide
            · exact Cnd.dec_plain x h
      | tpl _ _ _ _ _ _ _ _ _ sa sb =>
        exact Cnd.bal_plain fun x hx => by
          rcases List.mem_append.mp hx with h | h
          · exact ⟨(sa x h).1, (sa x h).2.1⟩
          · rcases List.mem_cons.mp h with rfl | h
            · decide
            · exact ⟨(sb x h).1, (sb x h).2.1⟩
      | no _ => cases hlf
      | two _ _ => cases hlf
    have hclo : Cnd.clo 1 (xs.drop st) st = some (st + (Cnd.inn c).length) := by rw [hds]; exact Cnd.clo_at hbal
    have lkd : (S (Cnd.kd c)).length ≤ sizeLine := by rw [S_len, sizeLine_eq]; omega
    have eint : V.int (((n : Nat) : Int) + (((S (Cnd.kd c)).length : Nat) : Int) + 1) = iv st := by
      rw [S_len, est]
      show V.int _ = V.int _
      congr 1 <;> omega
    refine ⟨_, rfl, _, rfl, S (Cnd.kd c), rfl, lkd, _, _, rfl, rfl, _, _, rfl, rfl, ?_⟩
    dsimp only
    rw [eint]
    refine ⟨_, rfl, _, rfl, xs, st, _, rfl, hclo, hl, fun H2 s2 => ?_⟩
    refine ⟨_, rfl, _, rfl, _, rfl, _, rfl, _, rfl, S xs, rfl, hz', ?_⟩
    have ein : cutS (S xs) (some ((st : Nat) : Int)) (some ((st + (Cnd.inn c).length : Nat) : Int)) = S (Cnd.inn c) := by
      rw [cutN_mid (by omega) hst, hds, show st + (Cnd.inn c).length - st = (Cnd.inn c).length by omega, List.take_left]
    rw [ein]
    have s12 := sP1.trans s2
    try dsimp only [gName, tSeq, tAsg, List.set_cons_zero, List.set_cons_succ]
    have eend : ∀ v p H3, Same H2 H3 → H3 p = some (.tup [v, V.int (((st + (Cnd.inn c).length : Nat) : Int) + 1)]) → H3 p = some (.tup [v, iv (n + (Cnd.cTx c).length)]) := fun v p H3 _ h => by
      rw [h]
      congr 3
      show [V.int _] = [V.int _]
      congr 2 <;> omega
    cases hok with
    | named _ _ _ => cases hnm
    | no _ => cases hlf
    | two _ _ => cases hlf
    | @mat p0 hp lp =>
      refine ⟨_, rfl, rfl, _, rfl, ?_⟩
      refine iteT ?_
      refine ⟨_, rfl, _, rfl, gs, _, rfl, hp, lp, fun H3 a s3 na ha => ⟨_, rfl, _, _, rfl, rfl, (by show 2 ≤ sizeLine; decide), fun T nT => ?_⟩⟩
      have sT := same_new (o := .tup [V.ref a, V.int (((st + (Cnd.inn (.mat p0)).length : Nat) : Int) + 1)]) nT
      exact q _ T (V.ref a) (s12.trans (s3.trans sT)) (none_of (s12.trans s3) nT) (eend _ _ _ (s3.trans sT) upd_same) ⟨a, rfl, sT _ _ ha⟩
    | @len r0 m0 hrm hm =>
      refine ⟨_, rfl, rfl, _, rfl, iteF ?_⟩
      refine ⟨_, rfl, rfl, _, rfl, iteT ?_⟩
      refine ⟨_, rfl, _, _, rfl, hrm, hm, fun H3 a s3 na ha => ⟨_, rfl, _, _, rfl, rfl, (by show 2 ≤ sizeLine; decide), fun T nT => ?_⟩⟩
      have sT := same_new (o := .tup [V.ref a, V.int (((st + (Cnd.inn (.len r0 m0)).length : Nat) : Int) + 1)]) nT
      exact q _ T (V.ref a) (s12.trans (s3.trans sT)) (none_of (s12.trans s3) nT) (eend _ _ _ (s3.trans sT) upd_same) ⟨a, rfl, sT _ _ ha⟩
    | @tpl k a0 b i j hk3 hi hj li lj ra rb la lb sa sb =>
      have n1 : ∀ k, decide (V.str (S (Cnd.kwT k)) = V.str (Str.ofString "match")) = false := fun k => match k with
        | 0 => by decide
        | 1 => by decide
        | 2 => by decide
        | _ + 3 => (by decide : decide (V.str (S (Cnd.kwT 3)) = V.str (Str.ofString "match")) = false)
      have n2 : ∀ k, decide (V.str (S (Cnd.kwT k)) = V.str (Str.ofString "length")) = false := fun k => match k with
        | 0 => by decide
        | 1 => by decide
        | 2 => by decide
        | _ + 3 => (by decide : decide (V.str (S (Cnd.kwT 3)) = V.str (Str.ofString "length")) = false)
      obtain ⟨u, hu⟩ := kW k hk3
      refine ⟨_, rfl, rfl, _, rfl, ?_⟩
      show (if decide (V.str (S (Cnd.kwT k)) = V.str (Str.ofString "match")) = true then _ else _)
      rw [n1]
      refine iteF ⟨_, rfl, rfl, _, rfl, ?_⟩
      show (if decide (V.str (S (Cnd.kwT k)) = V.str (Str.ofString "length")) = true then _ else _)
      rw [n2]
      refine iteF ⟨_, rfl, S (Cnd.kwT k), some u, rfl, rfl, by rw [← kwS_T]; exact hu, _, rfl, iteF ?_⟩
      refine ⟨_, rfl, _, rfl, _, rfl, gs, a0, b, k, i, j, by rw [kwS_T]; rfl, hg, hi, hj, li, lj, ra, rb, la, lb, sa, sb, fun H3 a s3 na ha => ⟨_, rfl, _, _, rfl, rfl, (by show 2 ≤ sizeLine; decide), fun T nT => ?_⟩⟩
      have sT := same_new (o := .tup [V.ref a, V.int (((st + (Cnd.inn (.tpl k a0 b (rTx gs i) (rTx gs j))).length : Nat) : Int) + 1)]) nT
      exact q _ T (V.ref a) (s12.trans (s3.trans sT)) (none_of (s12.trans s3) nT) (eend _ _ _ (s3.trans sT) upd_same) ⟨a, rfl, sT _ _ ha⟩
end
end Own

namespace Own
open PySem PySem.Spec PyProof.Rows L2 SX RZ
section
variable {P : Program} {w : World} {K : PySem.W.Frag} {mg : Str → Option Value} {base : Heap}
abbrev mkV (b : Bool) : V := .str (if b then Str.ofString "not" else Str.ofString "(")
def spBeg : Sp := fun vs H Q _ => ∃ (xs w : List Nat) (n : Nat) (ms : List Bool), vs = [tx xs, iv n] ∧ xs.drop n = Cnd.preT ms ++ w ∧ n ≤ xs.length ∧ xs.length ≤ 100000 ∧ ¬ Cnd.notT <+: w ∧ ¬ [40] <+: w ∧
  ∀ H' p l, Same H H' → H p = none → H l = none → H' l = some (.lst (ms.map mkV)) → H' p = some (.tup [.ref l, iv (n + (Cnd.preT ms).length)]) → Q (.ref p) H'
abbrev sBeg : Stmt := topS 43
abbrev begN : List Str := ["text", "at", "begun", "end"]
theorem scBeg : FnScope begN ["text", "at"] (defScope sBeg) := ⟨rfl, rfl, rfl, by decide +kernel, rfl, by decide +kernel, by decide +kernel⟩
theorem ok_beg {f : Addr} {fd : FuncData} (F : Fun K "begun_conditions" "begun_conditions" sBeg f fd) (m_len : mg "len" = none) :
    FnOk P w K mg base CX0 1 f fd ["text", "at"] spBeg := by
  refine F.ok scBeg (fun vs H Q E h => ?_) (fun cdv A outer s H vs Q E hr h => ?_)
  · obtain ⟨xs, w0, n, ms, rfl, _⟩ := h
    rfl
  · obtain ⟨xs, w0, n, ms, rfl, hd, hn, hl, h1, h2, q⟩ := h
    refine ⟨_, (pss_cons (ps_set (i := 2) scBeg.nd rfl (by first | exact .inl rfl | exact .inr rfl) (pe_lst pa_nil))
      (pss_cons (ps_set (i := 3) scBeg.nd rfl (by first | exact .inl rfl | exact .inr rfl) (pv 1))
      (pss_one (ps_while PassesOwn.never (pt_val pe_bl)
        (pss_one (ps_if (pt_val (pe_bm PySem.F.plainAttrs_str PySem.F.slot_str_startswith PySem.F.type_str_startswith mt_startswith3 (pv 0) (pa_cons pe_str (pa_cons (pv 3) pa_nil)))) (pss_cons (ps_expr (pe_bm PySem.F.plainAttrs_list PySem.F.slot_list_append PySem.F.type_list_append mt_append (pv 2) (pa_cons pe_str pa_nil)))
      (pss_one (ps_aug (i := 3) scBeg.nd rfl (by first | exact .inl rfl | exact .inr rfl) (pe_callB call_len_str (by rfl) m_len PySem.boot_len (pa_cons pe_str pa_nil)) ip_add))) (pss_one (ps_if (pt_val (pe_bm PySem.F.plainAttrs_str PySem.F.slot_str_startswith PySem.F.type_str_startswith mt_startswith3 (pv 0) (pa_cons pe_str (pa_cons (pv 3) pa_nil)))) (pss_cons (ps_expr (pe_bm PySem.F.plainAttrs_list PySem.F.slot_list_append PySem.F.type_list_append mt_append (pv 2) (pa_cons pe_str pa_nil)))
      (pss_one (ps_aug (i := 3) scBeg.nd rfl (by first | exact .inl rfl | exact .inr rfl) (pe_callB call_len_str (by rfl) m_len PySem.boot_len (pa_cons pe_str pa_nil)) ip_add))) (pss_one (ps_ret (pe_tup (pa_cons (pv 2) (pa_cons (pv 3) pa_nil))))))))))))), ?_⟩
    have hz' : (S xs).length ≤ sizeLine := by rw [S_len, sizeLine_eq]; omega
    have hpl : (Cnd.preT ms).length + w0.length = xs.length - n := by
      have := congrArg List.length hd
      rw [List.length_drop, List.length_append] at this
      omega
    have hml : ∀ l : List Bool, l.length ≤ (Cnd.preT l).length := fun l => by
      induction l with
      | nil => exact Nat.le_refl _
      | cons b l ih =>
        show l.length + 1 ≤ (Cnd.mkT b ++ Cnd.preT l).length
        rw [List.length_append]
        have : 1 ≤ (Cnd.mkT b).length := by cases b <;> decide
        omega
    have hms := hml ms
    refine ⟨Nat.zero_le _, fun L nL => ?_⟩
    have sL := same_new (o := .lst []) nL
    refine ⟨_, rfl, ?_⟩
    show tWhile _ _ _ [some (tx xs), some (iv n), some (.ref L), some (iv n)] _
    refine ⟨fun m σ H' => ∃ k, σ = [some (tx xs), some (iv n), some (.ref L), some (iv (n + (Cnd.preT (ms.take k)).length))] ∧ k ≤ ms.length ∧ m = ms.length - k ∧ Same H H' ∧ H' L = some (.lst ((ms.take k).map mkV)), ⟨_, 0, rfl, Nat.zero_le _, rfl, sL, upd_same⟩, ?_⟩
    rintro m σ H1 ⟨k, rfl, hk, rfl, s1, hL⟩
    refine ⟨true, rfl, ?_⟩
    refine iteT ?_
    have eall : Cnd.preT ms = Cnd.preT (ms.take k) ++ Cnd.preT (ms.drop k) := by
      show ms.flatMap Cnd.mkT = (ms.take k).flatMap Cnd.mkT ++ (ms.drop k).flatMap Cnd.mkT
      rw [← List.flatMap_append, List.take_append_drop]
    have hdk : xs.drop (n + (Cnd.preT (ms.take k)).length) = Cnd.preT (ms.drop k) ++ w0 := by
      rw [← List.drop_drop, hd, eall, List.append_assoc, List.drop_left]
    have hle : n + (Cnd.preT (ms.take k)).length ≤ xs.length := by
      have := congrArg List.length eall
      rw [List.length_append] at this
      omega
    have llen : ((ms.take k).map mkV).length < sizeLine := by
      rw [List.length_map, List.length_take, sizeLine_eq]
      omega
    have inv : (fun σ H' => ∃ k', k' = k + 1 ∧ k' ≤ ms.length ∧ σ = [some (tx xs), some (iv n), some (.ref L), some (iv (n + (Cnd.preT (ms.take k')).length))] ∧ Same H H' ∧ H' L = some (.lst ((ms.take k').map mkV))) = (fun σ H' => ∃ k', k' = k + 1 ∧ k' ≤ ms.length ∧ σ = [some (tx xs), some (iv n), some (.ref L), some (iv (n + (Cnd.preT (ms.take k')).length))] ∧ Same H H' ∧ H' L = some (.lst ((ms.take k').map mkV))) := rfl
    refine ⟨fun (σ : L2.St) (H' : Hp) => ∃ k', k' = k + 1 ∧ k' ≤ ms.length ∧ σ = [some (tx xs), some (iv n), some (.ref L), some (iv (n + (Cnd.preT (ms.take k')).length))] ∧ Same H H' ∧ H' L = some (.lst ((ms.take k').map mkV)), ?_, ?_⟩
    · rintro σ' H' ⟨k', rfl, h1, rfl, s2, h2⟩
      exact ⟨_, by omega, _, rfl, h1, rfl, s2, h2⟩
    refine ⟨_, rfl, rfl, _, rfl, S xs, S Cnd.notT, _, rfl, rfl, _, rfl, ?_⟩
    rw [sw3 hle, hdk]
    by_cases hlt : k < ms.length
    · have ed : ms.drop k = ms[k] :: ms.drop (k + 1) := List.drop_eq_getElem_cons hlt
      have et : ms.take (k + 1) = ms.take k ++ [ms[k]] := by rw [List.take_add_one, List.getElem?_eq_getElem hlt]; rfl
      have ep : (Cnd.preT (ms.take (k + 1))).length = (Cnd.preT (ms.take k)).length + (Cnd.mkT ms[k]).length := by
        rw [et]
        show ((ms.take k ++ [ms[k]]).flatMap Cnd.mkT).length = _
        rw [List.flatMap_append, List.length_append]
        show _ + (Cnd.mkT ms[k] ++ []).length = _
        rw [List.append_nil]
        rfl
      have em : ((ms.take k).map mkV) ++ [mkV ms[k]] = (ms.take (k + 1)).map mkV := by rw [et, List.map_append]; rfl
      rw [ed]
      generalize hb : ms[k] = b at ep em et
      cases b with
      | true =>
        rw [decide_eq_true (show Cnd.notT <+: Cnd.preT (true :: ms.drop (k + 1)) ++ w0 from ⟨Cnd.preT (ms.drop (k + 1)) ++ w0, by show _ = (Cnd.notT ++ Cnd.preT (ms.drop (k + 1))) ++ w0; rw [List.append_assoc]⟩)]
        refine iteT ?_
        refine ⟨_, rfl, .inl ⟨rfl, _, sqL hL⟩, L, _, _, rfl, rfl, hL, llen, ?_⟩
        refine ⟨_, rfl, _, rfl, (by show 4 ≤ sizeLine; decide), _, _, rfl, rfl, _, rfl, by omega, ?_, same_put s1 nL, ?_⟩
        · show [some (tx xs), some (iv n), some (.ref L), some (V.int (((n + (Cnd.preT (ms.take k)).length : Nat) : Int) + 4))] = _
          rw [ep]
          show _ = [some (tx xs), some (iv n), some (.ref L), some (iv (n + ((Cnd.preT (ms.take k)).length + 4)))]
          rw [show ((n + (Cnd.preT (ms.take k)).length : Nat) : Int) + 4 = ((n + ((Cnd.preT (ms.take k)).length + 4) : Nat) : Int) by omega]
        · rw [upd_same, ← em]; rfl
      | false =>
        rw [decide_eq_false (show ¬ Cnd.notT <+: Cnd.preT (false :: ms.drop (k + 1)) ++ w0 from fun ⟨t, e⟩ => by
          have e : Cnd.notT ++ t = 40 :: (Cnd.preT (ms.drop (k + 1)) ++ w0) := e
          cases e)]
        refine iteF ?_
        refine ⟨_, rfl, rfl, _, rfl, S xs, S [40], _, rfl, rfl, _, rfl, ?_⟩
        rw [sw3 hle, hdk, ed, hb]
        rw [decide_eq_true (show [40] <+: Cnd.preT (false :: ms.drop (k + 1)) ++ w0 from ⟨Cnd.preT (ms.drop (k + 1)) ++ w0, rfl⟩)]
        refine iteT ?_
        refine ⟨_, rfl, .inl ⟨rfl, _, sqL hL⟩, L, _, _, rfl, rfl, hL, llen, ?_⟩
        refine ⟨_, rfl, _, rfl, (by show 1 ≤ sizeLine; decide), _, _, rfl, rfl, _, rfl, by omega, ?_, same_put s1 nL, ?_⟩
        · show [some (tx xs), some (iv n), some (.ref L), some (V.int (((n + (Cnd.preT (ms.take k)).length : Nat) : Int) + 1))] = _
          rw [ep]
          show _ = [some (tx xs), some (iv n), some (.ref L), some (iv (n + ((Cnd.preT (ms.take k)).length + 1)))]
          rw [show ((n + (Cnd.preT (ms.take k)).length : Nat) : Int) + 1 = ((n + ((Cnd.preT (ms.take k)).length + 1) : Nat) : Int) by omega]
        · rw [upd_same, ← em]; rfl
    · have ek : k = ms.length := by omega
      subst ek
      rw [List.drop_length]
      rw [decide_eq_false (show ¬ Cnd.notT <+: Cnd.preT [] ++ w0 from h1)]
      refine iteF ?_
      refine ⟨_, rfl, rfl, _, rfl, S xs, S [40], _, rfl, rfl, _, rfl, ?_⟩
      rw [sw3 hle, hdk, List.drop_length]
      rw [decide_eq_false (show ¬ [40] <+: Cnd.preT [] ++ w0 from h2)]
      refine iteF ?_
      rw [List.take_length] at hL
      refine ⟨_, rfl, _, rfl, (by show 2 ≤ sizeLine; decide), fun T nT => ?_⟩
      have sT := same_new (o := .tup [V.ref L, iv (n + (Cnd.preT (ms.take ms.length)).length)]) nT
      refine q _ T L (s1.trans sT) (none_of s1 nT) nL (sT _ _ hL) ?_
      rw [upd_same, List.take_length]
end
end Own

namespace Own
open PySem PySem.Spec PyProof.Rows L2 SX RZ
section
variable {P : Program} {w : World} {K : PySem.W.Frag} {mg : Str → Option Value} {base : Heap}
def spLnk : Sp := fun vs H Q _ => ∃ (xs z : List Nat) (n : Nat) (b : Bool), vs = [tx xs, iv n] ∧ xs.drop n = 32 :: (Cnd.wdT b ++ (32 :: z)) ∧ n ≤ xs.length ∧ xs.length ≤ 100000 ∧ ∀ H', Same H H' → Q (.str (wdS b)) H'
abbrev sLnk : Stmt := topS 44
abbrev lnkN : List Str := ["text", "at", "word"]
theorem scLnk : FnScope lnkN ["text", "at"] (defScope sLnk) := ⟨rfl, rfl, rfl, by decide +kernel, rfl, by decide +kernel, by decide +kernel⟩
theorem ok_lnk {f : Addr} {fd : FuncData} (F : Fun K "linking_word" "linking_word" sLnk f fd) :
    FnOk P w K mg base CX0 1 f fd ["text", "at"] spLnk := by
  refine F.ok scLnk (fun vs H Q E h => ?_) (fun cdv A outer s H vs Q E hr h => ?_)
  · obtain ⟨xs, z, n, b, rfl, _⟩ := h
    rfl
  · obtain ⟨xs, z, n, b, rfl, hd, hn, hl, q⟩ := h
    refine ⟨_, (pss_cons (ps_for PassesOwn.never rfl (pi_tup (pe_tup (pa_cons pe_str (pa_cons pe_str pa_nil)))) (pg_name (i := 2) scLnk.nd rfl (by first | exact .inl rfl | exact .inr rfl))
        (pss_one (ps_if (pt_val (pe_bm PySem.F.plainAttrs_str PySem.F.slot_str_startswith PySem.F.type_str_startswith mt_startswith3 (pv 0) (pa_cons (pe_joined (.cons pe_str (.cons (pe_fmt (pv 2)) (.cons pe_str .nil)))) (pa_cons (pv 1) pa_nil)))) (pss_one (ps_ret (pv 2))) pss_nil)))
      (pss_one (ps_never))), ?_⟩
    have hz' : (S xs).length ≤ sizeLine := by rw [S_len, sizeLine_eq]; omega
    refine ⟨(by show 2 ≤ sizeLine; decide), fun T nT => ⟨T, rfl, ⟨_, sqT upd_same⟩, ?_⟩⟩
    have sT := same_new (o := .tup [V.str (Str.ofString "and"), V.str (Str.ofString "or")]) nT
    have hT : upd H T (.tup [V.str (Str.ofString "and"), V.str (Str.ofString "or")]) T = some (.tup [V.str (Str.ofString "and"), V.str (Str.ofString "or")]) := upd_same
    generalize upd H T (.tup [V.str (Str.ofString "and"), V.str (Str.ofString "or")]) = H1 at sT hT ⊢
    refine for_it (walk_tup (K := K) (a := T) (xs := [V.str (Str.ofString "and"), V.str (Str.ofString "or")])) (fun i σ H' => ∃ v2 : Option V, σ = [some (tx xs), some (iv n), v2] ∧ Same H H' ∧ Same H1 H' ∧ (i = 0 ∨ (i = 1 ∧ b = false)))
      ⟨none, rfl, sT, Same.refl _, .inl rfl⟩ (fun i σ H' _ h => by obtain ⟨_, _, _, s, _⟩ := h; exact sqT (s _ _ hT)) ?_ ?_
    · rintro i v σ H2 H3 hi ⟨v2, rfl, s2, s12, hib⟩ ⟨rfl, hv⟩
      try dsimp only [gName, tSeq, tAsg, List.set_cons_zero, List.set_cons_succ]
      obtain ⟨wb, rfl, hwi⟩ : ∃ wb : Bool, v = V.str (wdS wb) ∧ (i = if wb then 0 else 1) := by
        match i, hi, hv with
        | 0, _, hv => cases hv; exact ⟨true, rfl, rfl⟩
        | 1, _, hv => cases hv; exact ⟨false, rfl, rfl⟩
      have ew : Str.empty ++ Str.ofString " " ++ wdS wb ++ Str.ofString " " = S (32 :: (Cnd.wdT wb ++ [32])) := by cases wb <;> rfl
      have lw : (wdS wb).length ≤ sizeLine := by cases wb <;> (show _ ≤ sizeLine; decide)
      have l1 : (Str.empty ++ Str.ofString " ").length ≤ sizeLine := by decide
      have l2 : (Str.empty ++ Str.ofString " " ++ wdS wb).length ≤ sizeLine := by cases wb <;> decide
      have l3 : (Str.empty ++ Str.ofString " " ++ wdS wb ++ Str.ofString " ").length ≤ sizeLine := by cases wb <;> decide
      refine ⟨_, rfl, rfl, _, rfl, l1, _, rfl, .inl ⟨_, rfl, lw, _, rfl, l2, _, rfl, l3, _, rfl, S xs, _, _, rfl, rfl, _, rfl, ?_⟩⟩
      rw [ew, sw3 hn, hd]
      have s3 := s2
      by_cases hb : wb = b
      · subst hb
        rw [decide_eq_true (show (32 :: (Cnd.wdT wb ++ [32])) <+: (32 :: (Cnd.wdT wb ++ (32 :: z))) from ⟨z, by show 32 :: ((Cnd.wdT wb ++ [32]) ++ z) = _; rw [List.append_assoc]; rfl⟩)]
        exact iteT ⟨_, rfl, q _ s2⟩
      · rw [decide_eq_false (show ¬ (32 :: (Cnd.wdT wb ++ [32])) <+: (32 :: (Cnd.wdT b ++ (32 :: z))) from fun ⟨t, e⟩ => hb (by
          cases wb <;> cases b
          · rfl
          · simp [Cnd.wdT] at e
          · simp [Cnd.wdT] at e
          · rfl))]
        refine iteF ⟨_, rfl, s2, s12, ?_⟩
        rcases hib with rfl | ⟨rfl, rfl⟩
        · refine .inr ⟨rfl, ?_⟩
          have : wb = true := by cases wb with
            | true => rfl
            | false => cases hwi
          subst this
          cases b with
          | true => exact absurd rfl hb
          | false => rfl
        · have : wb = false := by cases wb with
            | true => cases hwi
            | false => rfl
          exact absurd this hb
    · rintro σ H2 ⟨v2, rfl, s2, s12, hib⟩
      have hib : (2 = 0 ∨ (2 = 1 ∧ b = false)) := hib
      omega
end
end Own

namespace Own
open PySem PySem.Spec PyProof.Rows L2 SX RZ
section
variable {P : Program} {w : World} {K : PySem.W.Frag} {mg : Str → Option Value} {base : Heap}
def FsV (H : Hp) : List Cnd.Fr → List V → Prop
  | [], [] => True
  | f :: fs, v :: vs => FrV H f v ∧ FsV H fs vs
  | _, _ => False
theorem FsV.keep {H H' : Hp} (k : ∀ a xs, H a = some (.tup xs) → H' a = some (.tup xs)) : ∀ {fs : List Cnd.Fr} {vs : List V}, FsV H fs vs → FsV H' fs vs
  | [], [], h => h
  | _ :: _, _ :: _, ⟨h, i⟩ => ⟨h.keep k, i.keep k⟩
  | [], _ :: _, h => h.elim
  | _ :: _, [], h => h.elim
theorem FsV.app {H : Hp} : ∀ {fs : List Cnd.Fr} {vs : List V} {gs : List Cnd.Fr} {ws : List V}, FsV H fs vs → FsV H gs ws → FsV H (fs ++ gs) (vs ++ ws)
  | [], [], _, _, _, h => h
  | _ :: _, _ :: _, _, _, ⟨h, i⟩, j => ⟨h, i.app j⟩
  | [], _ :: _, _, _, h, _ => h.elim
  | _ :: _, [], _, _, h, _ => h.elim
theorem FsV.len {H : Hp} : ∀ {fs : List Cnd.Fr} {vs : List V}, FsV H fs vs → fs.length = vs.length
  | [], [], _ => rfl
  | _ :: _, _ :: _, ⟨_, i⟩ => congrArg (· + 1) i.len
  | [], _ :: _, h => h.elim
  | _ :: _, [], h => h.elim
theorem new_v {H : Hp} : ∀ (c : Cnd.Cd), FsV H (Cnd.newF c).reverse ((Cnd.marks c).map mkV).reverse
  | .no c => by
    show FsV H (Cnd.Fr.no :: Cnd.newF c).reverse (mkV true :: (Cnd.marks c).map mkV).reverse
    rw [List.reverse_cons, List.reverse_cons]
    exact (new_v c).app ⟨rfl, True.intro⟩
  | .two w a b => by
    show FsV H (Cnd.Fr.lft w b :: Cnd.newF a).reverse (mkV false :: (Cnd.marks a).map mkV).reverse
    rw [List.reverse_cons, List.reverse_cons]
    exact (new_v a).app ⟨rfl, True.intro⟩
  | .named _ | .mat _ | .len _ _ | .tpl _ _ _ _ _ => True.intro
theorem dpt_len : ∀ (fs : List Cnd.Fr) (c : Cnd.Cd), fs.length + Cnd.dpt c ≤ Cnd.dpt (Cnd.plug fs c)
  | [], c => Nat.le_of_eq (Nat.zero_add _)
  | .no :: fs, c => by
    have h := dpt_len fs (.no c)
    have : Cnd.dpt (.no c) = Cnd.dpt c + 1 := rfl
    show fs.length + 1 + Cnd.dpt c ≤ Cnd.dpt (Cnd.plug fs (.no c))
    omega
  | .lft w r :: fs, c => by
    have h := dpt_len fs (.two w c r)
    have : Cnd.dpt (.two w c r) = max (Cnd.dpt c) (Cnd.dpt r) + 1 := rfl
    show fs.length + 1 + Cnd.dpt c ≤ Cnd.dpt (Cnd.plug fs (.two w c r))
    omega
  | .rgt w l :: fs, c => by
    have h := dpt_len fs (.two w l c)
    have : Cnd.dpt (.two w l c) = max (Cnd.dpt l) (Cnd.dpt c) + 1 := rfl
    show fs.length + 1 + Cnd.dpt c ≤ Cnd.dpt (Cnd.plug fs (.two w l c))
    omega
theorem fs_app {gs : List Nat} {a b : List Cnd.Fr} (ha : FsOk gs a) (hb : FsOk gs b) : FsOk gs (a ++ b) := fun f hf => (List.mem_append.mp hf).elim (ha f) (hb f)
theorem tup_keep {H : Hp} {B : Addr} {ys : List V} {o : HO} (hB : H B = some (.lst ys)) : ∀ a xs, H a = some (.tup xs) → upd H B o a = some (.tup xs) := fun a xs h => by
  rw [upd_ne (fun e => by rw [e, hB] at h; cases h)]
  exact h
theorem get_last {l : List V} {v : V} : (l ++ [v])[(l ++ [v]).length - 1]? = some v := by
  rw [List.length_append]
  show (l ++ [v])[l.length + 1 - 1]? = some v
  rw [Nat.add_sub_cancel, List.getElem?_append_right (Nat.le_refl _), Nat.sub_self]
  rfl
theorem ixN_last {l : List V} {v : V} : ixN (l ++ [v]).length (-1) = some l.length := by
  rw [List.length_append]
  unfold ixN
  rw [if_neg (by decide)]
  rw [if_pos (by show -(((l.length + 1 : Nat)) : Int) ≤ -1; omega)]
  congr 1
  show (-1 + ((l.length + 1 : Nat) : Int)).toNat = _
  omega
theorem set_last {l : List V} {v u : V} : (l ++ [v]).set l.length u = l ++ [u] := by
  rw [List.set_append_right _ _ (Nat.le_refl _), Nat.sub_self]
  rfl
theorem shp_pair {w : Bool} {l : Cnd.Cd} (h : Low l) (hd : Cnd.dpt l ≤ 60) : SeqAt.shaped (.tuple [.str (wdS w), cdD l]) = true := by
  have h1 : PyData.canLay0 (.tuple [.str (wdS w), cdD l]) = true := by
    show (PyData.canLay0 (.str (wdS w)) && (PyData.canLay0 (cdD l) && true)) = true
    rw [lay_wd, lay_cd h]
    rfl
  have h2 : PyData.depth (.tuple [.str (wdS w), cdD l]) ≤ 64 := by
    have := dep_cd l
    show max 0 (max (PyData.depth (cdD l)) 0) + 1 ≤ 64
    omega
  unfold SeqAt.shaped
  rw [h1, decide_eq_true h2]
  rfl
def spRdc : Sp := fun vs H Q _ => ∃ (gs xs z : List Nat) (n : Nat) (c : Cnd.Cd), vs = [tx gs, tx xs, iv n] ∧ Good gs ∧ xs.drop n = Cnd.cTx c ++ z ∧ n ≤ xs.length ∧ xs.length ≤ 100000 ∧ OkS gs c ∧ Cnd.dpt c ≤ 60 ∧ (∀ d r, z = d :: r → ¬ (97 ≤ d ∧ d ≤ 122)) ∧
  ∀ H' p v, Same H H' → H p = none → H' p = some (.tup [v, iv (n + (Cnd.cTx c).length)]) → CdH H' c v → Q (.ref p) H'
abbrev sRdc : Stmt := topS 45
abbrev rdcN : List Str := ["letters", "text", "at", "begun", "end", "more", "condition", "last", "word"]
theorem scRdc : FnScope rdcN ["letters", "text", "at"] (defScope sRdc) := ⟨rfl, rfl, rfl, by decide +kernel, rfl, by decide +kernel, by decide +kernel⟩
theorem ok_rdc {f : Addr} {fd : FuncData} (F : Fun K "read_condition" "read_condition" sRdc f fd) (m_len : mg "len" = none) {f1 : Addr} {fd1 : FuncData} (c1 : Cl P w K mg base "begun_conditions" 1 ["text", "at"] spBeg f1 fd1) {f2 : Addr} {fd2 : FuncData} (c2 : Cl P w K mg base "read_simple" 8 ["letters", "text", "at"] spRsm f2 fd2) {f3 : Addr} {fd3 : FuncData} (c3 : Cl P w K mg base "linking_word" 1 ["text", "at"] spLnk f3 fd3) :
    FnOk P w K mg base CX0 9 f fd ["letters", "text", "at"] spRdc := by
  refine F.ok scRdc (fun vs H Q E h => ?_) (fun cdv A outer s H vs Q E hr h => ?_)
  · obtain ⟨gs, xs, z, n, c, rfl, _⟩ := h
    rfl
  · obtain ⟨gs, xs, z, n0, c0, rfl, hg, hd0, hn0, hl, hok0, hdp, hz, q⟩ := h
    refine ⟨_, (pss_cons (ps_set (i := 3) scRdc.nd rfl (by first | exact .inl rfl | exact .inr rfl) (pe_lst pa_nil))
      (pss_cons (ps_set (i := 4) scRdc.nd rfl (by first | exact .inl rfl | exact .inr rfl) (pv 2))
      (pss_one (ps_while PassesOwn.never (pt_val pe_bl)
        (pss_cons (ps_asg (pe_cl c1 hr (by decide) (by rfl) (pa_cons (pv 1) (pa_cons (pv 4) pa_nil))) (pg_tup rfl (pgs_cons (pg_name (i := 5) scRdc.nd rfl (by first | exact .inl rfl | exact .inr rfl)) (pgs_cons (pg_name (i := 4) scRdc.nd rfl (by first | exact .inl rfl | exact .inr rfl)) pgs_nil))))
      (pss_cons (ps_expr (pe_bm PySem.F.plainAttrs_list PySem.F.slot_list_extend PySem.F.type_list_extend mt_extend (pv 3) (pa_cons (pv 5) pa_nil)))
      (pss_cons (ps_asg (pe_cl c2 hr (by decide) (by rfl) (pa_cons (pv 0) (pa_cons (pv 1) (pa_cons (pv 4) pa_nil)))) (pg_tup rfl (pgs_cons (pg_name (i := 6) scRdc.nd rfl (by first | exact .inl rfl | exact .inr rfl)) (pgs_cons (pg_name (i := 4) scRdc.nd rfl (by first | exact .inl rfl | exact .inr rfl)) pgs_nil))))
      (pss_cons (ps_while PassesOwn.never (PW.pt (pw_and (pt_truth (pv 3) (fun _ => rfl)) (pw_and1 (pt_cmpR (op_neD hr.units) (pe_ix (ixL (K := K) rfl) (pv 3) (pe_un un_neg pe_int) (fun _ _ => rfl)) pe_str (nomark _)))))
        (pss_cons (ps_set (i := 7) scRdc.nd rfl (by first | exact .inl rfl | exact .inr rfl) (pe_bm0 PySem.F.plainAttrs_list PySem.F.slot_list_pop PySem.F.type_list_pop mt_pop (pv 3)))
      (pss_one (ps_if (pt_cmpR (op_eqD hr.units) (pv 7) pe_str (nomark _)) (pss_one (ps_set (i := 6) scRdc.nd rfl (by first | exact .inl rfl | exact .inr rfl) (pe_tup (pa_cons pe_str (pa_cons (pv 6) pa_nil))))) (pss_one (ps_if (pt_val (pe_bm PySem.F.plainAttrs_str PySem.F.slot_str_startswith PySem.F.type_str_startswith mt_startswith3 (pv 1) (pa_cons pe_str (pa_cons (pv 4) pa_nil)))) (pss_cons (ps_set (i := 6) scRdc.nd rfl (by first | exact .inl rfl | exact .inr rfl) (pe_tup (pa_cons (pe_ix (ixT (K := K) rfl) (pv 7) pe_int (fun _ _ => rfl)) (pa_cons (pe_ix (ixT (K := K) rfl) (pv 7) pe_int (fun _ _ => rfl)) (pa_cons (pv 6) pa_nil)))))
      (pss_one (ps_aug (i := 4) scRdc.nd rfl (by first | exact .inl rfl | exact .inr rfl) pe_int ip_add))) pss_never))))))
      (pss_cons (ps_if (pt_not (pt_truth (pv 3) (fun _ => rfl))) (pss_one (ps_ret (pe_tup (pa_cons (pv 6) (pa_cons (pv 4) pa_nil))))) pss_nil)
      (pss_cons (ps_set (i := 8) scRdc.nd rfl (by first | exact .inl rfl | exact .inr rfl) (pe_cl c3 hr (by decide) (by rfl) (pa_cons (pv 1) (pa_cons (pv 4) pa_nil))))
      (pss_cons (ps_asg (pe_tup (pa_cons (pv 8) (pa_cons (pv 6) pa_nil))) (pg_sub (pv 3) (pe_un un_neg pe_int) set_list))
      (pss_one (ps_aug (i := 4) scRdc.nd rfl (by first | exact .inl rfl | exact .inr rfl) (pe_op op_add (pe_callB call_len_str (by rfl) m_len PySem.boot_len (pa_cons (pv 8) pa_nil)) pe_int) ip_add))))))))))))), ?_⟩
    have hz' : (S xs).length ≤ sizeLine := by rw [S_len, sizeLine_eq]; omega
    refine ⟨Nat.zero_le _, fun B nB => ?_⟩
    have sB := same_new (o := .lst []) nB
    refine ⟨_, rfl, ?_⟩
    show tWhile _ _ _ [some (tx gs), some (tx xs), some (iv n0), some (.ref B), some (iv n0), none, none, none, none] _
    refine ⟨fun m σ H' => ∃ (fs : List Cnd.Fr) (c : Cnd.Cd) (n : Nat) (vs : List V) (v5 v6 v7 v8 : Option V), σ = [some (tx gs), some (tx xs), some (iv n0), some (.ref B), some (iv n), v5, v6, v7, v8] ∧ Same H H' ∧ H' B = some (.lst vs.reverse) ∧ FsV H' fs vs ∧ n ≤ xs.length ∧ xs.drop n = Cnd.cTx c ++ Cnd.rest z fs ∧ Cnd.plug fs c = c0 ∧ FsOk gs fs ∧ OkS gs c ∧ m = Cnd.size c + Cnd.left fs,
      ⟨_, [], c0, n0, [], none, none, none, none, rfl, sB, upd_same, True.intro, hn0, hd0, rfl, fun _ h => (nomatch h), hok0, rfl⟩, ?_⟩
    rintro m σ H1 ⟨fs, c, n, vs, v5, v6, v7, v8, rfl, s1, hB, hF, hn, hd, hpl, hfo, hco, rfl⟩
    refine ⟨true, rfl, ?_⟩
    refine ⟨_, fun _ _ h => h, ?_⟩
    have hto := Cnd.text_of (z := z) c fs
    have hlf := Cnd.leaf_of c
    have hld := Cnd.lead hlf (Cnd.rest z ((Cnd.newF c).reverse ++ fs))
    have hml : (Cnd.preT (Cnd.marks c)).length + (Cnd.cTx (Cnd.leafOf c) ++ Cnd.rest z ((Cnd.newF c).reverse ++ fs)).length = xs.length - n := by
      have := congrArg List.length (hd.trans hto)
      rw [List.length_drop, List.length_append] at this
      omega
    refine ⟨_, rfl, _, rfl, xs, _, n, Cnd.marks c, rfl, hd.trans hto, hn, hl, hld.1, hld.2, fun H2 p l s2 np nl hL hp => ?_⟩
    refine ⟨p, _, rfl, sqT hp, rfl, _, _, rfl, _, _, rfl, rfl, ?_⟩
    try dsimp only [gName, tSeq, tAsg, List.set_cons_zero, List.set_cons_succ]
    have hB2 : H2 B = some (.lst vs.reverse) := s2 _ _ hB
    have hlen := dpt_len ((Cnd.newF c).reverse ++ fs) (Cnd.leafOf c)
    rw [Cnd.plug_of, hpl, List.length_append, List.length_reverse] at hlen
    have hmn : (Cnd.marks c).length = (Cnd.newF c).length := by rw [Cnd.marks_new, List.length_map]
    have hfl := hF.len
    refine ⟨_, rfl, .inl ⟨rfl, _, sqL hB2⟩, _, rfl, B, l, _, _, rfl, rfl, hB2, hL, by rw [List.length_reverse, List.length_map, sizeLine_eq]; omega, ?_⟩
    obtain ⟨H3, eH3⟩ : ∃ H3, H3 = upd H2 B (.lst (vs.reverse ++ (Cnd.marks c).map mkV)) := ⟨_, rfl⟩
    rw [← eH3]
    have s3 : Same H H3 := by rw [eH3]; exact same_put (s1.trans s2) nB
    have hB3 : H3 B = some (.lst (vs.reverse ++ (Cnd.marks c).map mkV)) := by rw [eH3]; exact upd_same
    have hF3 : FsV H3 ((Cnd.newF c).reverse ++ fs) (((Cnd.marks c).map mkV).reverse ++ vs) := (new_v c).app (by rw [eH3]; exact (hF.keep fun a xs e => s2 _ _ e).keep (tup_keep hB2))
    have hn1 : n + (Cnd.preT (Cnd.marks c)).length ≤ xs.length := by omega
    have hd1 : xs.drop (n + (Cnd.preT (Cnd.marks c)).length) = Cnd.cTx (Cnd.leafOf c) ++ Cnd.rest z ((Cnd.newF c).reverse ++ fs) := by
      rw [← List.drop_drop, hd, hto, List.drop_left]
    refine ⟨_, rfl, _, rfl, _, rfl, gs, xs, _, _, Cnd.leafOf c, rfl, hg, hd1, hn1, hl, hlf, (new_ok hco).2, Cnd.rest_head hz _, fun H4 p2 v s4 np2 hp2 hv => ?_⟩
    refine ⟨p2, _, rfl, sqT hp2, rfl, _, _, rfl, _, _, rfl, rfl, ?_⟩
    try dsimp only [gName, tSeq, tAsg, List.set_cons_zero, List.set_cons_succ]
    have hlc := Cnd.left_new c
    have eapp := Cnd.left_app (Cnd.newF c).reverse fs
    have hcl : (Cnd.cTx (Cnd.leafOf c)).length + (Cnd.rest z ((Cnd.newF c).reverse ++ fs)).length = (Cnd.cTx (Cnd.leafOf c) ++ Cnd.rest z ((Cnd.newF c).reverse ++ fs)).length := (List.length_append).symm
    refine ⟨fun m σ H' => ∃ (fs1 : List Cnd.Fr) (c1 : Cnd.Cd) (n1 : Nat) (vs1 : List V) (v1 : V) (v5 v7 v8 : Option V), σ = [some (tx gs), some (tx xs), some (iv n0), some (.ref B), some (iv n1), v5, some v1, v7, v8] ∧ Same H H' ∧ H' B = some (.lst vs1.reverse) ∧ FsV H' fs1 vs1 ∧ CdH H' c1 v1 ∧ n1 ≤ xs.length ∧ xs.drop n1 = Cnd.rest z fs1 ∧ Cnd.plug fs1 c1 = c0 ∧ FsOk gs fs1 ∧ OkS gs c1 ∧ Cnd.left fs1 < Cnd.size c + Cnd.left fs ∧ m = fs1.length,
      ⟨_, (Cnd.newF c).reverse ++ fs, Cnd.leafOf c, n + (Cnd.preT (Cnd.marks c)).length + (Cnd.cTx (Cnd.leafOf c)).length, ((Cnd.marks c).map mkV).reverse ++ vs, v, _, _, _, rfl, s3.trans s4, ?_, hF3.keep (fun a xs e => s4 _ _ e), hv, by omega, ?_, (Cnd.plug_of c fs).trans hpl, fs_app (fun f hf => (new_ok hco).1 f (List.mem_reverse.mp hf)) hfo, (new_ok hco).2, by omega, rfl⟩, ?_⟩
    · rw [List.reverse_append, List.reverse_reverse]
      exact s4 _ _ hB3
    · rw [← List.drop_drop, hd1, List.drop_left]
    rintro m σ H5 ⟨fs1, c1, n1, vs1, v1, v5, v7, v8, rfl, s5, hB5, hF5, hv5, hn5, hd5, hp5, hfo5, hco5, hlt, rfl⟩
    have hcd5 : Cnd.dpt c1 ≤ 60 := Nat.le_trans (Nat.le_trans (Cnd.dpt_plug fs1 c1) (Nat.le_of_eq (congrArg Cnd.dpt hp5))) hdp
    refine ⟨_, rfl, !vs1.reverse.isEmpty, .inl ⟨_, sqL hB5, rfl⟩, ?_⟩
    match fs1, vs1, hF5 with
    | [], [], _ =>
      refine iteF ?_
      refine iteF ?_
      refine ⟨_, rfl, false, .inl ⟨_, sqL hB5, rfl⟩, ?_⟩
      refine iteT ?_
      refine ⟨_, rfl, _, rfl, (by show 2 ≤ sizeLine; decide), fun T nT => ?_⟩
      have sT := same_new (o := .tup [v1, iv n1]) nT
      have hp5 : c1 = c0 := hp5
      subst hp5
      refine q _ T v1 (s5.trans sT) (none_of s5 nT) ?_ (hv5.same sT)
      rw [upd_same]
      have h1 := congrArg List.length hd5
      have h2 := congrArg List.length hd0
      rw [List.length_drop] at h1 h2
      rw [List.length_append] at h2
      have h1 : xs.length - n1 = z.length := h1
      rw [show n1 = n0 + (Cnd.cTx c1).length by omega]
    | f :: fs1, v0 :: vs1, ⟨hf, hF5⟩ =>
      rw [show (!(v0 :: vs1).reverse.isEmpty) = true by rw [List.reverse_cons]; cases vs1.reverse <;> rfl]
      refine iteT ?_
      rw [List.reverse_cons] at hB5
      refine ⟨_, rfl, 1, rfl, B, _, -1, v0, rfl, rfl, sqL hB5, atI_last _ _, ?_⟩
      cases f with
      | no =>
        have hf : v0 = .str (Str.ofString "not") := hf
        subst hf
        refine ⟨.str (Str.ofString "not"), .str (Str.ofString "("), .str _, .str _, by decide +kernel, by decide +kernel, _, rfl, ?_⟩
        refine iteT ?_
        refine ⟨_, fun _ _ h => h, ?_⟩
        refine ⟨_, rfl, .inl ⟨rfl, _, sqL hB5⟩, B, _, _, rfl, rfl, hB5, get_last, ?_⟩
        rw [List.dropLast_concat]
        obtain ⟨H6, eH6⟩ : ∃ H6, H6 = upd H5 B (.lst vs1.reverse) := ⟨_, rfl⟩
        rw [← eH6]
        have s6 : Same H H6 := by rw [eH6]; exact same_put s5 nB
        have hB6 : H6 B = some (.lst vs1.reverse) := by rw [eH6]; exact upd_same
        have hF6 : FsV H6 fs1 vs1 := by rw [eH6]; exact hF5.keep (tup_keep hB5)
        have hv6 : CdH H6 c1 v1 := by rw [eH6]; exact hv5.keep (tup_keep hB5)
        try dsimp only [gName, tSeq, tAsg, List.set_cons_zero, List.set_cons_succ]
        refine ⟨_, rfl, .str (Str.ofString "not"), .str (Str.ofString "not"), .str _, .str _, by decide +kernel, by decide +kernel, _, rfl, ?_⟩
        refine iteT ?_
        refine ⟨_, rfl, (by show 2 ≤ sizeLine; decide), fun T nT => ?_⟩
        have sT := same_new (o := .tup [V.str (Str.ofString "not"), v1]) nT
        exact ⟨_, Nat.lt_succ_self _, fs1, .no c1, n1, vs1, .ref T, _, _, _, rfl, s6.trans sT, sT _ _ hB6, hF6.keep (fun a xs e => sT _ _ e), ⟨T, v1, rfl, upd_same, hv6.same sT⟩, hn5, hd5, hp5, fun f hf => hfo5 f (.tail _ hf), .no hco5, hlt, rfl⟩
      | lft w r =>
        have hf : v0 = .str (Str.ofString "(") := hf
        subst hf
        refine ⟨.str (Str.ofString "("), .str (Str.ofString "("), .str _, .str _, by decide +kernel, by decide +kernel, _, rfl, ?_⟩
        refine iteF ?_
        refine ⟨_, rfl, true, .inl ⟨_, sqL hB5, by cases vs1.reverse <;> rfl⟩, ?_⟩
        refine iteF ?_
        have hd5 : xs.drop n1 = 32 :: (Cnd.wdT w ++ (32 :: (Cnd.cTx r ++ (41 :: Cnd.rest z fs1)))) := hd5
        have hr := hfo5 _ (List.mem_cons_self ..)
        refine ⟨_, rfl, _, rfl, xs, _, n1, w, rfl, hd5, hn5, hl, fun H6 s6 => ?_⟩
        have hB6 := s6 _ _ hB5
        refine ⟨_, rfl, _, rfl, (by show 2 ≤ sizeLine; decide), fun T nT => ?_⟩
        have sT := same_new (o := .tup [V.str (wdS w), v1]) nT
        refine ⟨_, rfl, 1, rfl, B, _, -1, _, rfl, rfl, sT _ _ hB6, ixN_last, ?_⟩
        rw [set_last]
        obtain ⟨H7, eH7⟩ : ∃ H7, H7 = upd (upd H6 T (.tup [V.str (wdS w), v1])) B (.lst (vs1.reverse ++ [V.ref T])) := ⟨_, rfl⟩
        rw [← eH7]
        have kT : ∀ a xs, H5 a = some (.tup xs) → H7 a = some (.tup xs) := fun a xs e => by rw [eH7]; exact tup_keep (sT _ _ hB6) _ _ (sT _ _ (s6 _ _ e))
        have s7 : Same H H7 := by rw [eH7]; exact same_put (s5.trans (s6.trans sT)) nB
        have hT7 : H7 T = some (.tup [V.str (wdS w), v1]) := by rw [eH7]; exact tup_keep (sT _ _ hB6) _ _ upd_same
        have lw : (wdS w).length ≤ sizeLine := by cases w <;> (show _ ≤ sizeLine; decide)
        show tAug 4 _ _ _ _ _
        refine ⟨_, rfl, _, rfl, _, rfl, lw, _, _, rfl, rfl, _, _, rfl, rfl, ?_⟩
        have hlen5 := congrArg List.length hd5
        rw [List.length_drop, List.length_cons, List.length_append, List.length_cons] at hlen5
        have elw : (wdS w).length = (Cnd.wdT w).length := by rw [wdS_T, S_len]
        have ed : xs.drop (n1 + ((Cnd.wdT w).length + 2)) = Cnd.cTx r ++ Cnd.rest z (.rgt w c1 :: fs1) := by
          rw [← List.drop_drop, hd5]
          show (32 :: (Cnd.wdT w ++ (32 :: (Cnd.cTx r ++ (41 :: Cnd.rest z fs1))))).drop ((Cnd.wdT w).length + 1 + 1) = _
          rw [List.drop_succ_cons, ← List.drop_drop, List.drop_left]
          rfl
        refine ⟨_, hlt, .rgt w c1 :: fs1, r, n1 + ((Cnd.wdT w).length + 2), .ref T :: vs1, v5, some v1, v7, some (.str (wdS w)), ?_, s7, ?_, ⟨⟨T, v1, rfl, hT7, hv5.keep kT⟩, hF5.keep kT⟩, by omega, ed, hp5, ?_, hr, rfl⟩
        · show [some (tx gs), some (tx xs), some (iv n0), some (V.ref B), some (V.int ((n1 : Int) + ((wdS w).length + 2))), v5, some v1, v7, some (V.str (wdS w))] = _
          rw [elw, show ((n1 : Int) + (((Cnd.wdT w).length : Nat) + 2)) = ((n1 + ((Cnd.wdT w).length + 2) : Nat) : Int) by omega]
        · rw [eH7, upd_same, List.reverse_cons]
        · intro f hf
          rcases List.mem_cons.mp hf with e | h2
          · subst e
            exact hco5
          · exact hfo5 f (.tail _ h2)
      | rgt w l =>
        obtain ⟨a, x, rfl, ha, hx⟩ := hf
        have hl5 : OkS gs l := hfo5 _ (List.mem_cons_self ..)
        have hll := hl5.low hg
        have hdl : Cnd.dpt l ≤ 60 := Nat.le_trans (Nat.le_trans (Cnd.dpt_rgt (c := c1) (List.mem_cons_self ..)) (Nat.le_of_eq (congrArg Cnd.dpt hp5))) hdp
        refine ⟨.tuple [.str (wdS w), cdD l], .str (Str.ofString "("), .tup (sqT ha) (.cons (.str _) (.cons (dp_cd hx) .nil)), .str _, shp_pair hll hdl, by decide +kernel, _, rfl, ?_⟩
        refine iteT ?_
        refine ⟨_, fun _ _ h => h, ?_⟩
        refine ⟨_, rfl, .inl ⟨rfl, _, sqL hB5⟩, B, _, _, rfl, rfl, hB5, get_last, ?_⟩
        rw [List.dropLast_concat]
        obtain ⟨H6, eH6⟩ : ∃ H6, H6 = upd H5 B (.lst vs1.reverse) := ⟨_, rfl⟩
        rw [← eH6]
        have s6 : Same H H6 := by rw [eH6]; exact same_put s5 nB
        have hB6 : H6 B = some (.lst vs1.reverse) := by rw [eH6]; exact upd_same
        have hF6 : FsV H6 fs1 vs1 := by rw [eH6]; exact hF5.keep (tup_keep hB5)
        have hv6 : CdH H6 c1 v1 := by rw [eH6]; exact hv5.keep (tup_keep hB5)
        have ha6 : H6 a = some (.tup [.str (wdS w), x]) := by rw [eH6]; exact tup_keep hB5 _ _ ha
        have hx6 : CdH H6 l x := by rw [eH6]; exact hx.keep (tup_keep hB5)
        try dsimp only [gName, tSeq, tAsg, List.set_cons_zero, List.set_cons_succ]
        refine ⟨_, rfl, .tuple [.str (wdS w), cdD l], .str (Str.ofString "not"), .tup (sqT ha6) (.cons (.str _) (.cons (dp_cd hx6) .nil)), .str _, shp_pair hll hdl, by decide +kernel, _, rfl, ?_⟩
        refine iteF ?_
        have hd5 : xs.drop n1 = 41 :: Cnd.rest z fs1 := hd5
        refine ⟨_, rfl, rfl, _, rfl, S xs, S [41], _, rfl, rfl, _, rfl, ?_⟩
        rw [sw3 hn5, hd5]
        rw [decide_eq_true (show [41] <+: 41 :: Cnd.rest z fs1 from ⟨Cnd.rest z fs1, rfl⟩)]
        refine iteT ?_
        refine ⟨_, rfl, a, _, 0, _, rfl, rfl, sqT ha6, atI_nat (j := 0) rfl, _, rfl, a, _, 1, _, rfl, rfl, sqT ha6, atI_nat (j := 1) rfl, _, rfl, (by show 3 ≤ sizeLine; decide), fun T nT => ?_⟩
        have sT := same_new (o := .tup [V.str (wdS w), x, v1]) nT
        have hlen5 := congrArg List.length hd5
        rw [List.length_drop, List.length_cons] at hlen5
        refine ⟨_, rfl, _, _, rfl, rfl, ?_⟩
        refine ⟨_, Nat.lt_succ_self _, fs1, .two w l c1, n1 + 1, vs1, .ref T, _, _, _, rfl, s6.trans sT, sT _ _ hB6, hF6.keep (fun a xs e => sT _ _ e), ⟨T, x, v1, rfl, upd_same, hx6.same sT, hv6.same sT⟩, by omega, by rw [← List.drop_drop, hd5]; rfl, hp5, fun f hf => hfo5 f (.tail _ hf), .two hl5 hco5, hlt, rfl⟩
end
end Own

namespace Own
open PySem PySem.Spec PyProof.Rows L2 SX RZ
section
variable {P : Program} {w : World} {K : PySem.W.Frag} {mg : Str → Option Value} {base : Heap}
def spPrs : Sp := fun vs H Q _ => ∃ (gs : List Nat) (c : Cnd.Cd), vs = [tx gs, tx (Cnd.cTx c)] ∧ Good gs ∧ (Cnd.cTx c).length ≤ 100000 ∧ OkS gs c ∧ Cnd.dpt c ≤ 60 ∧ ∀ H' v, Same H H' → CdH H' c v → Q v H'
abbrev sPrs : Stmt := topS 46
abbrev prsN : List Str := ["letters", "text", "condition", "end"]
theorem scPrs : FnScope prsN ["letters", "text"] (defScope sPrs) := ⟨rfl, rfl, rfl, by decide +kernel, rfl, by decide +kernel, by decide +kernel⟩
theorem ok_prs {f : Addr} {fd : FuncData} (F : Fun K "parse_condition" "parse_condition" sPrs f fd) (m_len : mg "len" = none) {f1 : Addr} {fd1 : FuncData} (c1 : Cl P w K mg base "read_condition" 9 ["letters", "text", "at"] spRdc f1 fd1) :
    FnOk P w K mg base CX0 10 f fd ["letters", "text"] spPrs := by
  refine F.ok scPrs (fun vs H Q E h => ?_) (fun cdv A outer s H vs Q E hr h => ?_)
  · obtain ⟨gs, c, rfl, _⟩ := h
    rfl
  · obtain ⟨gs, c, rfl, hg, hl, hok, hdp, q⟩ := h
    refine ⟨_, (pss_cons (ps_asg (pe_cl c1 hr (by decide) (by rfl) (pa_cons (pv 0) (pa_cons (pv 1) (pa_cons pe_int pa_nil)))) (pg_tup rfl (pgs_cons (pg_name (i := 2) scPrs.nd rfl (by first | exact .inl rfl | exact .inr rfl)) (pgs_cons (pg_name (i := 3) scPrs.nd rfl (by first | exact .inl rfl | exact .inr rfl)) pgs_nil))))
      (pss_cons (ps_if (pt_cmpR op_ne (pv 3) (pe_callB call_len_str (by rfl) m_len PySem.boot_len (pa_cons (pv 1) pa_nil)) (nomark _)) pss_never pss_nil)
      (pss_one (ps_ret (pv 2))))), ?_⟩
    have hd : (Cnd.cTx c).drop 0 = Cnd.cTx c ++ [] := (List.append_nil _).symm
    refine ⟨_, rfl, _, rfl, gs, Cnd.cTx c, [], 0, c, rfl, hg, hd, Nat.zero_le _, hl, hok, hdp, fun _ _ h => (nomatch h), fun H1 p v s1 np hp hv => ?_⟩
    refine ⟨p, _, rfl, sqT hp, rfl, _, _, rfl, _, _, rfl, rfl, ?_⟩
    try dsimp only [gName, tSeq, tAsg, List.set_cons_zero, List.set_cons_succ]
    rw [Nat.zero_add]
    have lz : (S (Cnd.cTx c)).length ≤ sizeLine := by rw [S_len, sizeLine_eq]; omega
    refine ⟨_, rfl, _, rfl, _, rfl, lz, ?_⟩
    rw [S_len]
    refine ⟨rfl, _, rfl, ?_⟩
    rw [decide_eq_true rfl]
    refine iteF ?_
    exact ⟨_, rfl, q _ v s1 hv⟩
end
end Own

namespace Own
open PySem PySem.Spec PyProof.Rows L2 SX RZ
section
variable {P : Program} {w : World} {K : PySem.W.Frag} {mg : Str → Option Value} {base : Heap}
/-- what format_condition asks -/
inductive OkF (gs : List Nat) : Cnd.Cd → Prop
  | named {n : List Nat} : 0 < n.length → n.length ≤ 8 → (∀ c ∈ n, 97 ≤ c ∧ c ≤ 122) → OkF gs (.named n)
  | mat {p : List Nat} : OkF gs (.mat p)
  | len {r m : Nat} : r < m → m ≤ 60 → OkF gs (.len r m)
  | tpl {k : Nat} {i j : List (List Nat)} : k ≤ 3 → Row gs i → Row gs j → i.length ≤ 900 → j.length ≤ 900 → OkF gs (.tpl k (rTx gs i) (rTx gs j) (rTx gs i) (rTx gs j))
  | no {c : Cnd.Cd} : OkF gs c → OkF gs (.no c)
  | two {w : Bool} {c d : Cnd.Cd} : OkF gs c → OkF gs d → OkF gs (.two w c d)
theorem lenS {l : List Nat} {s : Str} (e : s = S l) (h : l.length ≤ 100100) : s.length ≤ sizeLine := by rw [e, S_len, sizeLine_eq]; omega
/-- the parts of a leaf, and their texts -/
def Prt : List V → List (List Nat) → Prop
  | [], [] => True
  | v :: vs, t :: ts => (v = tx t ∨ ∃ r : Nat, r ≤ 60 ∧ v = iv r ∧ t = Cnd.dec r) ∧ Prt vs ts
  | _, _ => False
theorem Prt.at : ∀ {vs : List V} {ts : List (List Nat)} {i : Nat} {v : V}, Prt vs ts → vs[i]? = some v → ∃ t, ts[i]? = some t ∧ (v = tx t ∨ ∃ r : Nat, r ≤ 60 ∧ v = iv r ∧ t = Cnd.dec r)
  | _ :: _, t :: _, 0, _, ⟨h, _⟩, e => ⟨t, rfl, by cases e; exact h⟩
  | _ :: vs, _ :: ts, i + 1, _, ⟨_, h⟩, e => by
    rw [List.getElem?_cons_succ] at e ⊢
    exact Prt.at h e
  | [], [], _, _, _, e => by cases e
  | [], _ :: _, _, _, h, _ => h.elim
  | _ :: _, [], _, _, h, _ => h.elim
theorem jn1 (a : List Nat) : Txt.join (S [44]) ([a].map S) = S a := rfl
theorem jn2 (a b : List Nat) : Txt.join (S [44]) ([a, b].map S) = S (a ++ 44 :: b) := by
  have e : Txt.join (S [44]) ([a, b].map S) = S a ++ S [44] ++ S b := rfl
  rw [e, S_cat, S_cat, List.append_assoc]
  rfl
theorem leaf_parts {H : Hp} {gs : List Nat} : ∀ {c : Cnd.Cd} {v : V}, CdH H c v → OkF gs c → Cnd.leaf c = true → Cnd.isNamed c = false → ∃ a els ts, v = .ref a ∧ H a = some (.tup (.str (S (Cnd.kd c)) :: els)) ∧ Prt els ts ∧ els.length = ts.length ∧ 0 < ts.length ∧ ts.length ≤ 2 ∧ Txt.join (S [44]) (ts.map S) = S (Cnd.inn c) ∧ ts.flatten.length ≤ (Cnd.inn c).length
  | .mat p, _, ⟨a, e, h⟩, _, _, _ => ⟨a, _, [p], e, h, ⟨.inl rfl, True.intro⟩, rfl, Nat.one_pos, Nat.le_succ 1, jn1 p, by show ([p].flatten).length ≤ p.length; simp⟩
  | .len r m, _, ⟨a, e, h⟩, ok, _, _ => ⟨a, _, [Cnd.dec r, Cnd.dec m], e, h, by cases ok with
    | len h1 h2 => exact ⟨.inr ⟨r, by omega, rfl, rfl⟩, .inr ⟨m, h2, rfl, rfl⟩, True.intro⟩, rfl, Nat.succ_pos _, Nat.le_refl 2, jn2 _ _, by show ([Cnd.dec r, Cnd.dec m].flatten).length ≤ (Cnd.dec r ++ 44 :: Cnd.dec m).length; simp⟩
  | .tpl k x y x2 y2, _, ⟨a, e, h⟩, ok, _, _ => by
    cases ok with
    | @tpl _ i j hk hi hj li lj =>
      refine ⟨a, [tx (rTx gs i), tx (rTx gs j)], [rTx gs i, rTx gs j], e, ?_, ⟨.inl rfl, .inl rfl, True.intro⟩, rfl, Nat.succ_pos _, Nat.le_refl 2, jn2 _ _, ?_⟩
      · rw [h]
        match k with
        | 0 | 1 | 2 | _ + 3 => rfl
      · show ([rTx gs i, rTx gs j].flatten).length ≤ (rTx gs i ++ 44 :: rTx gs j).length
        simp
  | .named _, _, _, _, _, h => by cases h
  | .no _, _, _, _, h, _ => by cases h
  | .two _ _ _, _, _, _, h, _ => by cases h
theorem cut_tl {x : V} {els : List V} : cutV (x :: els) (some 1) none = els := by
  unfold cutV
  rw [show (some (1 : Int)) = some ((1 : Nat) : Int) from rfl, HT.sIx_nat, HT.sIx_none, List.length_cons, Nat.min_eq_left (Nat.succ_le_succ (Nat.zero_le _))]
  show (List.drop 1 (x :: els)).take (els.length + 1 - 1) = els
  rw [Nat.add_sub_cancel]
  exact List.take_length
theorem kd_facts : ∀ {c : Cnd.Cd}, Cnd.leaf c = true → Cnd.isNamed c = false → V.str (S (Cnd.kd c)) ≠ .str (Str.ofString "named") ∧ V.str (S (Cnd.kd c)) ≠ .str (Str.ofString "not") ∧ inV (.str (S (Cnd.kd c))) [.str (Str.ofString "and"), .str (Str.ofString "or")] = false
  | .mat _, _, _ => (by decide +kernel : V.str (S Cnd.matT) ≠ .str (Str.ofString "named") ∧ V.str (S Cnd.matT) ≠ .str (Str.ofString "not") ∧ inV (.str (S Cnd.matT)) [.str (Str.ofString "and"), .str (Str.ofString "or")] = false)
  | .len _ _, _, _ => (by decide +kernel : V.str (S Cnd.lenT) ≠ .str (Str.ofString "named") ∧ V.str (S Cnd.lenT) ≠ .str (Str.ofString "not") ∧ inV (.str (S Cnd.lenT)) [.str (Str.ofString "and"), .str (Str.ofString "or")] = false)
  | .tpl 0 _ _ _ _, _, _ => (by decide +kernel : V.str (S (Cnd.kwT 0)) ≠ .str (Str.ofString "named") ∧ V.str (S (Cnd.kwT 0)) ≠ .str (Str.ofString "not") ∧ inV (.str (S (Cnd.kwT 0))) [.str (Str.ofString "and"), .str (Str.ofString "or")] = false)
  | .tpl 1 _ _ _ _, _, _ => (by decide +kernel : V.str (S (Cnd.kwT 1)) ≠ .str (Str.ofString "named") ∧ V.str (S (Cnd.kwT 1)) ≠ .str (Str.ofString "not") ∧ inV (.str (S (Cnd.kwT 1))) [.str (Str.ofString "and"), .str (Str.ofString "or")] = false)
  | .tpl 2 _ _ _ _, _, _ => (by decide +kernel : V.str (S (Cnd.kwT 2)) ≠ .str (Str.ofString "named") ∧ V.str (S (Cnd.kwT 2)) ≠ .str (Str.ofString "not") ∧ inV (.str (S (Cnd.kwT 2))) [.str (Str.ofString "and"), .str (Str.ofString "or")] = false)
  | .tpl (_ + 3) _ _ _ _, _, _ => (by decide +kernel : V.str (S (Cnd.kwT 3)) ≠ .str (Str.ofString "named") ∧ V.str (S (Cnd.kwT 3)) ≠ .str (Str.ofString "not") ∧ inV (.str (S (Cnd.kwT 3))) [.str (Str.ofString "and"), .str (Str.ofString "or")] = false)
  | .named _, _, h => by cases h
  | .no _, h, _ => by cases h
  | .two _ _ _, h, _ => by cases h
theorem dpt_pos : ∀ c : Cnd.Cd, 0 < Cnd.dpt c
  | .no _ | .two _ _ _ => Nat.succ_pos _
  | .named _ | .mat _ | .len _ _ | .tpl _ _ _ _ _ => Nat.one_pos
def spFmt (n : Nat) : Sp := fun vs H Q _ => ∃ (gs : List Nat) (c : Cnd.Cd) (v : V), vs = [v] ∧ Good gs ∧ OkF gs c ∧ CdH H c v ∧ Cnd.dpt c ≤ n ∧ (Cnd.cTx c).length ≤ 100000 ∧ ∀ H', Same H H' → Q (tx (Cnd.cTx c)) H'
abbrev sFmt : Stmt := topS 47
abbrev fmtN : List Str := ["condition", "kind", "inner", "part"]
theorem scFmt : FnScope fmtN ["condition"] (defScope sFmt) := ⟨rfl, rfl, rfl, by decide +kernel, rfl, by decide +kernel, by decide +kernel⟩
theorem ok_fmt {f : Addr} {fd : FuncData} (F : Fun K "format_condition" "format_condition" sFmt f fd) {n : Nat} {f1 : Addr} {fd1 : FuncData} (c1 : Cl P w K mg base "format_condition" n ["condition"] (spFmt n) f1 fd1) (m_str : mg "str" = none) :
    FnOk P w K mg base CX0 (n + 1) f fd ["condition"] (spFmt (n + 1)) := by
  refine F.ok scFmt (fun vs H Q E h => ?_) (fun cdv A outer s H vs Q E hr h => ?_)
  · obtain ⟨gs, c, v, rfl, _⟩ := h
    rfl
  · obtain ⟨gs, c, v, rfl, hg, hok, hv, hdp, hl, q⟩ := h
    refine ⟨_, (pss_cons (ps_set (i := 1) scFmt.nd rfl (by first | exact .inl rfl | exact .inr rfl) (pe_ix (ixT (K := K) rfl) (pv 0) pe_int (fun _ _ => rfl)))
      (pss_cons (ps_if (pt_cmpR op_eq (pv 1) pe_str (nomark _)) (pss_one (ps_ret (pe_joined (.cons pe_str (.cons (pe_fmt (pe_ix (ixT (K := K) rfl) (pv 0) pe_int (fun _ _ => rfl))) .nil))))) pss_nil)
      (pss_cons (ps_if (pt_cmpR op_eq (pv 1) pe_str (nomark _)) (pss_one (ps_ret (pe_joined (.cons pe_str (.cons (pe_fmt (pe_cl c1 hr (by omega) (by rfl) (pa_cons (pe_ix (ixT (K := K) rfl) (pv 0) pe_int (fun _ _ => rfl)) pa_nil))) .nil))))) pss_nil)
      (pss_cons (ps_if (pt_cmpR op_in_seq (pv 1) (pe_tup (pa_cons pe_str (pa_cons pe_str pa_nil))) (by rfl)) (pss_one (ps_ret (pe_joined (.cons pe_str (.cons (pe_fmt (pe_cl c1 hr (by omega) (by rfl) (pa_cons (pe_ix (ixT (K := K) rfl) (pv 0) pe_int (fun _ _ => rfl)) pa_nil))) (.cons pe_str (.cons (pe_fmt (pv 1)) (.cons pe_str (.cons (pe_fmt (pe_cl c1 hr (by omega) (by rfl) (pa_cons (pe_ix (ixT (K := K) rfl) (pv 0) pe_int (fun _ _ => rfl)) pa_nil))) (.cons pe_str .nil)))))))))) pss_nil)
      (pss_cons (ps_set (i := 2) scFmt.nd rfl (by first | exact .inl rfl | exact .inr rfl) (pe_join pe_str (pe_lc (own := [("part", 3)]) (g := gName 3) (tt := tYes)  rfl scFmt.nd (pi_tup (pe_slice sl_tup (pv 0) (po_some pe_int) po_none)) (blkOk_by (N := fmtN) (sc := defScope sFmt) (by decide +kernel)) (fun _ _ _ _ _ => pg_name (i := 3) scFmt.nd rfl (Or.inl rfl)) (fun _ _ _ _ _ => pts_nil) (fun _ _ _ _ _ => (pe_callTy (call_str_int.or SkE.call_str_str) (by rfl) m_str (by decide +kernel) (pa_cons (pv 3) pa_nil))))))
      (pss_one (ps_ret (pe_joined (.cons (pe_fmt (pv 1)) (.cons pe_str (.cons (pe_fmt (pv 2)) (.cons pe_str .nil)))))))))))), ?_⟩
    have em : Str.empty = S [] := rfl
    have e6 : Str.ofString "named " = S Cnd.namT := rfl
    have e4 : Str.ofString "not " = S Cnd.notT := rfl
    have e1 : Str.ofString "(" = S [40] := rfl
    have e2 : Str.ofString ")" = S [41] := rfl
    have e3 : Str.ofString " " = S [32] := rfl
    have e5 : Str.ofString "," = S [44] := rfl
    by_cases hlf : Cnd.leaf c = true
    · by_cases hnm : Cnd.isNamed c = true
      · cases c with
        | named nm =>
          cases hok with
          | named h0 h8 hn =>
            obtain ⟨a, rfl, ha⟩ := hv
            refine ⟨_, rfl, a, _, 0, _, rfl, rfl, sqT ha, atI_nat (j := 0) rfl, ?_⟩
            try dsimp only [gName, tSeq, tAsg, List.set_cons_zero, List.set_cons_succ]
            refine ⟨_, rfl, rfl, _, rfl, ?_⟩
            rw [decide_eq_true rfl]
            refine iteT ?_
            rw [em, e6]
            refine ⟨_, rfl, lenS (S_cat _ _) (by show 0 + 6 ≤ _; omega), _, rfl, a, _, 1, _, rfl, rfl, sqT ha, atI_nat (j := 1) rfl, .inl ⟨_, rfl, lenS rfl (by omega), _, rfl, lenS (by rw [S_cat, S_cat]) (by show ([] ++ Cnd.namT ++ nm).length ≤ _; rw [List.length_append]; show 6 + _ ≤ _; omega), ?_⟩⟩
            rw [S_cat, S_cat]
            exact q _ (Same.refl _)
        | mat p => cases hnm
        | len r m => cases hnm
        | tpl k a b x y => cases hnm
        | no c => cases hnm
        | two w a b => cases hnm
      · have hnm : Cnd.isNamed c = false := by cases e : Cnd.isNamed c with
          | true => exact absurd e hnm
          | false => rfl
        obtain ⟨a, els, ts, rfl, ha, hP, hel, h1, h2, hj, hfl⟩ := leaf_parts hv hok hlf hnm
        obtain ⟨k1, k2, k3⟩ := kd_facts hlf hnm
        refine ⟨_, rfl, a, _, 0, _, rfl, rfl, sqT ha, atI_nat (j := 0) rfl, ?_⟩
        try dsimp only [gName, tSeq, tAsg, List.set_cons_zero, List.set_cons_succ]
        refine ⟨_, rfl, rfl, _, rfl, ?_⟩
        rw [decide_eq_false k1]
        refine iteF ?_
        refine ⟨_, rfl, rfl, _, rfl, ?_⟩
        rw [decide_eq_false k2]
        refine iteF ?_
        refine ⟨_, rfl, (by show 2 ≤ sizeLine; decide), fun T nT => ⟨T, _, rfl, .inr (sqT upd_same), rfl, rfl, _, rfl, ?_⟩⟩
        have sT := same_new (o := .tup [V.str (Str.ofString "and"), V.str (Str.ofString "or")]) nT
        have haT := sT _ _ ha
        generalize upd H T _ = H1 at sT haT ⊢
        rw [show (if false = true then !inV (.str (S (Cnd.kd c))) [.str (Str.ofString "and"), .str (Str.ofString "or")] else inV (.str (S (Cnd.kd c))) [.str (Str.ofString "and"), .str (Str.ofString "or")]) = false from k3]
        refine iteF ?_
        refine ⟨⟨_, rfl⟩, _, rfl, _, rfl, a, _, rfl, sqT haT, ?_, fun U nU => ?_⟩
        · intro h
          have := h.1
          rw [show (some (1 : Int)) = some ((1 : Nat) : Int) from rfl, HT.sIx_nat, List.length_cons] at this
          omega
        have sU := same_new (o := .tup (cutV (V.str (S (Cnd.kd c)) :: els) (some 1) none)) nU
        rw [show cutV (V.str (S (Cnd.kd c)) :: els) (some 1) none = els from cut_tl] at sU ⊢
        refine ⟨U, rfl, ⟨_, sqT upd_same⟩, fun D nD => ?_⟩
        have hU : upd H1 U (.tup els) U = some (.tup els) := upd_same
        generalize upd H1 U (.tup els) = H2 at sU hU nD ⊢
        have sH2 := sT.trans sU
        refine lc_tup (K := K) (a := U) (xs := els) (fun i H' => Same H2 H' ∧ H' D = some (.lst ((ts.take i).map tx))) ⟨same_new nD, upd_same⟩ (fun _ _ _ h => sqT (h.1 _ _ hU)) ?_ ?_
        · rintro i y H' hy ⟨s1, hD⟩
          obtain ⟨t, ht, hyt⟩ := hP.at hy
          have dl : ((ts.take i).map tx).length < sizeLine := by
            rw [List.length_map, List.length_take, sizeLine_eq]
            omega
          have fin : ∃ acc, H' D = some (.lst acc) ∧ acc.length < sizeLine ∧ (Same H2 (upd H' D (.lst (acc ++ [tx t]))) ∧ upd H' D (.lst (acc ++ [tx t])) D = some (.lst ((ts.take (i + 1)).map tx))) := by
            refine ⟨_, hD, dl, same_put s1 nD, ?_⟩
            rw [upd_same, List.take_add_one, ht]
            simp
          rcases hyt with rfl | ⟨r, hr60, rfl, rfl⟩
          · exact ⟨rfl, _, rfl, .inr ⟨_, rfl, fin⟩⟩
          · refine ⟨rfl, _, rfl, .inl ⟨_, rfl, ?_, ?_⟩⟩
            · exact (by decide +kernel : ∀ r : Nat, r ≤ 60 → ((r : Int)).natAbs.log2 < 1920) r hr60
            · rw [dec_to r hr60]
              exact fin
        · rintro H' ⟨s1, hD⟩
          rw [hel, List.take_length] at hD
          refine ⟨_, D, ts.map S, rfl, rfl, .inl (.inl (.inl ?_)), ?_, ?_⟩
          · rw [hD, List.map_map]
            rfl
          · rw [sum_len, e5, S_len, List.length_map]
            show _ + _ * 1 ≤ _
            have : (Cnd.inn c).length ≤ (Cnd.cTx c).length := by rw [Cnd.leaf_text hlf hnm]; simp; omega
            omega
          · rw [e5, hj, em, e1, e2]
            have hcl : (Cnd.cTx c).length = (Cnd.kd c).length + (1 + ((Cnd.inn c).length + 1)) := by
              rw [Cnd.leaf_text hlf hnm, List.length_append, List.length_cons, List.length_append]
              show _ + (_ + 1 + 1) = _
              omega
            refine ⟨_, rfl, .inl ⟨_, rfl, lenS rfl (by omega), _, rfl, lenS (S_cat _ _) (by show (Cnd.kd c).length ≤ _; omega), _, rfl, lenS (by rw [S_cat, S_cat]) (by rw [List.length_append]; show (Cnd.kd c).length + 1 ≤ _; omega),
              _, rfl, .inl ⟨_, rfl, lenS rfl (by omega), _, rfl, lenS (by rw [S_cat, S_cat, S_cat]) (by rw [List.length_append, List.length_append]; show (Cnd.kd c).length + 1 + _ ≤ _; omega), _, rfl, lenS (by rw [S_cat, S_cat, S_cat, S_cat]) (by rw [List.length_append, List.length_append, List.length_append]; show (Cnd.kd c).length + 1 + _ + 1 ≤ _; omega), ?_⟩⟩⟩
            rw [S_cat, S_cat, S_cat, S_cat]
            have et := Cnd.leaf_text hlf hnm
            have := q H' (sH2.trans s1)
            rw [et] at this
            rw [show [] ++ Cnd.kd c ++ [40] ++ Cnd.inn c ++ [41] = Cnd.kd c ++ 40 :: (Cnd.inn c ++ [41]) by simp]
            exact this
    · cases c with
      | named nm => exact absurd rfl hlf
      | mat p => exact absurd rfl hlf
      | len r m => exact absurd rfl hlf
      | tpl k a b x y => exact absurd rfl hlf
      | no c =>
        cases hok with
        | no hc =>
          obtain ⟨a, x, rfl, ha, hx⟩ := hv
          refine ⟨_, rfl, a, _, 0, _, rfl, rfl, sqT ha, atI_nat (j := 0) rfl, ?_⟩
          try dsimp only [gName, tSeq, tAsg, List.set_cons_zero, List.set_cons_succ]
          refine ⟨_, rfl, rfl, _, rfl, ?_⟩
          rw [decide_eq_false (by decide +kernel)]
          refine iteF ?_
          refine ⟨_, rfl, rfl, _, rfl, ?_⟩
          rw [decide_eq_true rfl]
          refine iteT ?_
          rw [em, e4]
          have hdc : Cnd.dpt c + 1 ≤ n + 1 := hdp
          have hcl : (Cnd.cTx (.no c)).length = 4 + (Cnd.cTx c).length := by show (Cnd.notT ++ Cnd.cTx c).length = _; rw [List.length_append]; rfl
          refine ⟨_, rfl, lenS (S_cat _ _) (by show 0 + 4 ≤ _; omega), _, rfl, a, _, 1, _, rfl, rfl, sqT ha, atI_nat (j := 1) rfl, gs, c, x, rfl, hg, hc, hx, by omega, by omega, fun H1 s1 => .inl ⟨_, rfl, lenS rfl (by omega), _, rfl, lenS (by rw [S_cat, S_cat]) (by rw [List.length_append]; show 4 + _ ≤ _; omega), ?_⟩⟩
          rw [S_cat, S_cat]
          exact q _ s1
      | two w c d =>
        cases hok with
        | two hc hd =>
          obtain ⟨a, x, y, rfl, ha, hx, hy⟩ := hv
          refine ⟨_, rfl, a, _, 0, _, rfl, rfl, sqT ha, atI_nat (j := 0) rfl, ?_⟩
          try dsimp only [gName, tSeq, tAsg, List.set_cons_zero, List.set_cons_succ]
          refine ⟨_, rfl, rfl, _, rfl, ?_⟩
          rw [decide_eq_false (by cases w <;> decide +kernel)]
          refine iteF ?_
          refine ⟨_, rfl, rfl, _, rfl, ?_⟩
          rw [decide_eq_false (by cases w <;> decide +kernel)]
          refine iteF ?_
          refine ⟨_, rfl, (by show 2 ≤ sizeLine; decide), fun T nT => ⟨T, _, rfl, .inr (sqT upd_same), rfl, rfl, _, rfl, ?_⟩⟩
          have sT := same_new (o := .tup [V.str (Str.ofString "and"), V.str (Str.ofString "or")]) nT
          have haT := sT _ _ ha
          have hxT := hx.same sT
          have hyT := hy.same sT
          generalize upd H T _ = H1 at sT haT hxT hyT ⊢
          rw [show (if false = true then !inV (.str (wdS w)) [.str (Str.ofString "and"), .str (Str.ofString "or")] else inV (.str (wdS w)) [.str (Str.ofString "and"), .str (Str.ofString "or")]) = true by cases w <;> decide +kernel]
          refine iteT ?_
          rw [em, e1, e2, e3]
          have hdc : max (Cnd.dpt c) (Cnd.dpt d) + 1 ≤ n + 1 := hdp
          have hcl : (Cnd.cTx (.two w c d)).length = 1 + ((Cnd.cTx c).length + (1 + ((Cnd.wdT w).length + (1 + ((Cnd.cTx d).length + 1))))) := by
            show (40 :: (Cnd.cTx c ++ (32 :: (Cnd.wdT w ++ (32 :: (Cnd.cTx d ++ [41])))))).length = _
            simp only [List.length_cons, List.length_append, List.length_nil]
            omega
          refine ⟨_, rfl, lenS (S_cat _ _) (by show 0 + 1 ≤ _; omega), _, rfl, a, _, 1, _, rfl, rfl, sqT haT, atI_nat (j := 1) rfl, gs, c, x, rfl, hg, hc, hxT, by omega, by omega, fun H2 s2 => .inl ⟨_, rfl, lenS rfl (by omega), _, rfl, lenS (by rw [S_cat, S_cat]) (by simp only [List.length_cons, List.length_append, List.length_nil]; omega), ?_⟩⟩
          refine ⟨_, rfl, lenS (by rw [S_cat, S_cat, S_cat]) (by simp only [List.length_cons, List.length_append, List.length_nil]; omega), _, rfl, .inl ⟨_, rfl, lenS (wdS_T w) (by omega), _, rfl, lenS (by rw [wdS_T, S_cat, S_cat, S_cat, S_cat]) (by simp only [List.length_cons, List.length_append, List.length_nil]; omega), ?_⟩⟩
          refine ⟨_, rfl, lenS (by rw [wdS_T, S_cat, S_cat, S_cat, S_cat, S_cat]) (by simp only [List.length_cons, List.length_append, List.length_nil]; omega), _, rfl, a, _, 2, _, rfl, rfl, sqT (s2 _ _ haT), atI_nat (j := 2) rfl, gs, d, y, rfl, hg, hd, hyT.same s2, by omega, by omega, fun H3 s3 => .inl ⟨_, rfl, lenS rfl (by omega), _, rfl, lenS (by rw [wdS_T, S_cat, S_cat, S_cat, S_cat, S_cat, S_cat]) (by simp only [List.length_cons, List.length_append, List.length_nil]; omega), ?_⟩⟩
          refine ⟨_, rfl, lenS (by rw [wdS_T, S_cat, S_cat, S_cat, S_cat, S_cat, S_cat, S_cat]) (by simp only [List.length_cons, List.length_append, List.length_nil]; omega), ?_⟩
          rw [wdS_T, S_cat, S_cat, S_cat, S_cat, S_cat, S_cat, S_cat]
          have := q _ (sT.trans (s2.trans s3))
          rw [show [] ++ [40] ++ Cnd.cTx c ++ [32] ++ Cnd.wdT w ++ [32] ++ Cnd.cTx d ++ [41] = Cnd.cTx (.two w c d) by show _ = 40 :: (Cnd.cTx c ++ (32 :: (Cnd.wdT w ++ (32 :: (Cnd.cTx d ++ [41]))))); simp]
          exact this
theorem fmt_all {f : Addr} {fd : FuncData} (F : Fun K "format_condition" "format_condition" sFmt f fd) (b : Binds K fd ["condition"] []) (g : mg "format_condition" = some (.ref f)) (m_str : mg "str" = none) : ∀ n, FnOk P w K mg base CX0 n f fd ["condition"] (spFmt n)
  | 0 => ⟨fun vs H Q E h => (by obtain ⟨gs, c, v, _, _, _, _, h, _⟩ := h; exact absurd (dpt_pos c) (by omega)), fun A outer s H args us vs Q E _ _ _ _ h => (by obtain ⟨gs, c, v, _, _, _, _, h, _⟩ := h; exact absurd (dpt_pos c) (by omega))⟩
  | n + 1 => ok_fmt F ⟨fmt_all F b g m_str n, g, F.kp, b⟩ m_str
end
end Own

namespace Own
open PySem PySem.Spec PyProof.Rows L2 SX RZ
section
variable {P : Program} {w : World} {K : PySem.W.Frag} {mg : Str → Option Value} {base : Heap}
/-! raises -/
def spI1F (K : PySem.W.Frag) (C : Addr) (code fld : Str) : Sp := fun vs H Q _ => ∃ a v, vs = [.ref a, v] ∧ H a = some (exo a C none) ∧
  ∀ dx, H dx = none → dx ≠ a → Q .non (upd (upd (upd H dx (exd dx [("code", .str code)])) a (exo a C (some dx))) dx (exd dx [(fld, v), ("code", .str code)]))
theorem raise1 {K : PySem.W.Frag} {C : Addr} {code fld : Str} {te : TE} {σ : L2.St} {H : Hp} {W : Value → Option Addr → Hp → Prop} {v : V} (h : ∀ k : VK, k v H → te σ H k) (q : ∀ H' d, Same H H' → H' d = some (.xd [(fld, v), ("code", .str code)]) → W (.ref C) (some d) H') :
    tMkO C (spI1F K C code fld) [] (tCons te tNil) σ H W := by
  refine h _ ⟨(by show 1 ≤ 1000; decide), fun a na => ⟨a, v, rfl, upd_same, fun dx nd ne => ⟨rfl, dx, _, ?_, upd_same, ?_, ?_⟩⟩⟩
  · rw [upd_ne ne.symm, upd_same]
  · exact (after0 (C := C) (fs := []) na nd ne).1
  · exact q _ _ (after1 na nd ne).2 upd_same
/-- C(e) is raised with a field -/
structure ErM (P : Program) (w : World) (K : PySem.W.Frag) (mg : Str → Option Value) (base : Heap) (x : Str) (C : Addr) (fld : Str) : Prop where
  use_ : ∀ {X : Cx} {p pos : Pos} {e : Expr} {ta : TA}, X.prog = P → X.w = w → X.K = K → X.mg = mg → X.base = base → Room 2 X.A → Gl X x → PA X [e] ta → starEach [e] X.env = (false, eval e X.env) :: starEach [] X.env → (backTo pos (starEach [] X.env)).any (·.1) = false →
    PMk X (.Call (.Name x p) [e] [] pos) (tMkO C (spI1F K C x fld) [] ta)
theorem ErM.use {x : Str} {C : Addr} {fld : Str} (M : ErM P w K mg base x C fld) {X : Cx} {p pos : Pos} {e : Expr} {ta : TA} (h1 : X.prog = P) (h2 : X.w = w) (h3 : X.K = K) (h4 : X.mg = mg) (h5 : X.base = base) (hr : Room 2 X.A) (hg : Gl X x) (ha : PA X [e] ta)
    (he : starEach [e] X.env = (false, eval e X.env) :: starEach [] X.env := by rfl) (hpl : (backTo pos (starEach [] X.env)).any (·.1) = false := by rfl) : PMk X (.Call (.Name x p) [e] [] pos) (tMkO C (spI1F K C x fld) [] ta) := M.use_ h1 h2 h3 h4 h5 hr hg ha he hpl
/-- C() is raised -/
structure ErM0 (P : Program) (w : World) (K : PySem.W.Frag) (mg : Str → Option Value) (base : Heap) (x : Str) (C : Addr) : Prop where
  use : ∀ {X : Cx} {p pos : Pos}, X.prog = P → X.w = w → X.K = K → X.mg = mg → X.base = base → Room 2 X.A → Gl X x → PMk X (.Call (.Name x p) [] [] pos) (tMkO C (spI0 K C x) [] tNil)
theorem raise0 {K : PySem.W.Frag} {C : Addr} {code : Str} {σ : L2.St} {H : Hp} {W : Value → Option Addr → Hp → Prop} (q : ∀ H' d, Same H H' → H' d = some (.xd [("code", .str code)]) → W (.ref C) (some d) H') :
    tMkO C (spI0 K C code) [] tNil σ H W :=
  ⟨(by show 0 ≤ 1000; decide), fun a na => ⟨a, rfl, upd_same, fun dx nd ne => ⟨rfl, dx, _, upd_same, by rw [upd_ne ne, upd_same], (after0 (C := C) (fs := []) na nd ne).1, q _ _ (after0 na nd ne).2 upd_same⟩⟩⟩
theorem erM0_of {x : Str} {C f : Addr} {fd : FuncData} (T : ErrC K mg x C) (i : PySem.W.findIn K (.ref C) "__init__" = some (some (.ref f))) (t : PySem.W.typeIn K (.ref f) = some (.type "function"))
    (G : FnOk P w K mg base CX0 1 f fd ["self"] (spI0 K C x)) (b : Binds K fd ["self"] []) (hdb : (x == ("__debug__" : Str)) = false) : ErM0 P w K mg base x C := by
  refine ⟨fun {X p pos} h1 h2 h3 h4 h5 hr hg => ?_⟩
  subst h1 h2 h3 h4 h5
  exact pmk0 T.ox i t G hr b pass0 hg T.gl hdb
abbrev sInitTx : Stmt := inClass (topS 7) 0
theorem scInitTx : FnScope ["self"] ["self"] (defScope sInitTx) := ⟨rfl, rfl, rfl, by decide +kernel, rfl, by decide +kernel, by decide +kernel⟩
theorem ok_initTx {f C : Addr} {fd : FuncData} (F : Fun K "__init__" "InvalidText.__init__" sInitTx f fd) (T : ErrC K mg "InvalidText" C) :
    FnOk P w K mg base CX0 1 f fd ["self"] (spI0 K C "InvalidText") := by
  refine F.ok scInitTx (fun vs H Q E h => ?_) (fun cdv A outer s H vs Q E hr h => ?_)
  · obtain ⟨a, rfl, _⟩ := h
    rfl
  · obtain ⟨a, rfl, ha, q⟩ := h
    refine ⟨_, pss_one (ps_ost (pv 0) pe_str), ?_⟩
    exact ⟨_, rfl, a, C, rfl, T.ox, T.nc, .inl ⟨ha, fun dx n ne => q dx n ne⟩⟩
theorem ok_initTxH {f C : Addr} {fd : FuncData} (F : Fun K "__init__" "InvalidText.__init__" sInitTx f fd) (T : ErrC K mg "InvalidText" C) :
    L2H.FnH P w K mg base CX0 1 f fd ["self"] (spI0 K C "InvalidText") := by
  obtain ⟨oc, od, kV, doc, pm, an, cdv, ct, osl, rfl, lk, hcd⟩ := F.ex
  refine L2H.fn_ofH lk hcd scInitTx (fun vs H Q E h => ?_) (fun A outer s H vs Q E p hot hr h => ?_)
  · obtain ⟨a, rfl, _⟩ := h
    rfl
  · obtain ⟨a, rfl, ha, q⟩ := h
    refine ⟨_, pss_one (ps_ost (pv 0) pe_str), ?_⟩
    exact ⟨_, rfl, a, C, rfl, T.ox, T.nc, .inl ⟨ha, fun dx n ne => q dx n ne⟩⟩
/-- C() is raised from None, in an except suite -/
structure ErH0 (P : Program) (w : World) (K : PySem.W.Frag) (mg : Str → Option Value) (base : Heap) (x : Str) (C : Addr) : Prop where
  use : ∀ {X : Cx} {p pos : Pos}, X.prog = P → X.w = w → X.K = K → X.mg = mg → X.base = base → L2H.RoomH 2 X.A → L2H.HotC X → Gl X x → L2H.PMk5 X (.Call (.Name x p) [] [] pos) (tMkO C (spI0 K C x) [] tNil)
theorem erH0_of {x : Str} {C f : Addr} {fd : FuncData} (T : ErrC K mg x C) (i : PySem.W.findIn K (.ref C) "__init__" = some (some (.ref f))) (t : PySem.W.typeIn K (.ref f) = some (.type "function"))
    (G : L2H.FnH P w K mg base CX0 1 f fd ["self"] (spI0 K C x)) (b : Binds K fd ["self"] []) (hdb : (x == ("__debug__" : Str)) = false) : ErH0 P w K mg base x C := by
  refine ⟨fun {X p pos} h1 h2 h3 h4 h5 hr hc hg => ?_⟩
  subst h1 h2 h3 h4 h5
  exact pmk5_oexH0 T.ox i t G hr hc b pass0 hg T.gl hdb
theorem ok_initPF {f C : Addr} {fd : FuncData} (F : Fun K "__init__" "ParseError.__init__" sInitPE f fd) (T : ErrC K mg "ParseError" C) :
    FnOk P w K mg base CX0 1 f fd ["self", "position"] (spI1F K C "ParseError" "position") := by
  refine F.ok scInitPE (fun vs H Q E h => ?_) (fun cdv A outer s H vs Q E hr h => ?_)
  · obtain ⟨a, v, rfl, _⟩ := h
    rfl
  · obtain ⟨a, v, rfl, ha, q⟩ := h
    refine ⟨_, pss_cons (ps_ost (pv 0) pe_str) (pss_one (ps_ost (pv 0) (pv 1))), ?_⟩
    refine ⟨_, rfl, a, C, rfl, T.ox, T.nc, .inl ⟨ha, fun dx n ne => ?_⟩⟩
    refine ⟨_, rfl, _, rfl, a, C, rfl, T.ox, T.np, .inr ⟨dx, _, upd_same, by rw [upd_ne ne, upd_same], by decide, q dx n ne⟩⟩
/-- C(e) is raised, told with its context -/
structure ErMN (P : Program) (w : World) (K : PySem.W.Frag) (mg : Str → Option Value) (base : Heap) (x : Str) (C : Addr) (fld : Str) : Prop where
  use_ : ∀ {X : Cx} {p pos : Pos} {e : Expr} {ta : TA}, X.prog = P → X.w = w → X.K = K → X.mg = mg → X.base = base → Room 2 X.A → Gl X x → PA X [e] ta → starEach [e] X.env = (false, eval e X.env) :: starEach [] X.env → (backTo pos (starEach [] X.env)).any (·.1) = false →
    L2N.PMk X (.Call (.Name x p) [e] [] pos) (tMkO C (spI1F K C x fld) [] ta)
theorem ErMN.use {x : Str} {C : Addr} {fld : Str} (M : ErMN P w K mg base x C fld) {X : Cx} {p pos : Pos} {e : Expr} {ta : TA} (h1 : X.prog = P) (h2 : X.w = w) (h3 : X.K = K) (h4 : X.mg = mg) (h5 : X.base = base) (hr : Room 2 X.A) (hg : Gl X x) (ha : PA X [e] ta)
    (he : starEach [e] X.env = (false, eval e X.env) :: starEach [] X.env := by rfl) (hpl : (backTo pos (starEach [] X.env)).any (·.1) = false := by rfl) : L2N.PMk X (.Call (.Name x p) [e] [] pos) (tMkO C (spI1F K C x fld) [] ta) := M.use_ h1 h2 h3 h4 h5 hr hg ha he hpl
theorem erMN_of {x : Str} {C f : Addr} {fd : FuncData} {fld : Str} (T : ErrC K mg x C) (i : PySem.W.findIn K (.ref C) "__init__" = some (some (.ref f))) (t : PySem.W.typeIn K (.ref f) = some (.type "function"))
    (G : FnOk P w K mg base CX0 1 f fd ["self", fld] (spI1F K C x fld)) (b : Binds K fd ["self", fld] []) (hdb : (x == ("__debug__" : Str)) = false) : ErMN P w K mg base x C fld := by
  refine ⟨fun {X p pos e ta} h1 h2 h3 h4 h5 hr hg ha he hpl => ?_⟩
  subst h1 h2 h3 h4 h5
  exact pmkN_oex T.ox i t G hr b pass0 hg T.gl ha hdb he hpl
theorem ifT {b : Bool} {A B : Prop} (e : b = true) (h : A) : if b = true then A else B := by subst e; exact h
/-- InvalidText flies -/
def TxE (CI : Addr) (E : XK) (H : Hp) : Prop := ∀ H' d, Same H H' → H' d = some (.xd [("code", .str "InvalidText")]) → E (.ref CI) (some d) H'
theorem TxE.later {CI : Addr} {E : XK} {H H2 : Hp} (h : TxE CI E H) (s : Same H H2) : TxE CI E H2 := fun H' d s' e => h H' d (s.trans s') e
/-- ParseError flies -/
def PsE (CP : Addr) (E : XK) (H : Hp) : Prop := ∀ H' d n, Same H H' → H' d = some (.xd [("position", .int n), ("code", .str "ParseError")]) → E (.ref CP) (some d) H'
theorem PsE.later {CP : Addr} {E : XK} {H H2 : Hp} (h : PsE CP E H) (s : Same H H2) : PsE CP E H2 := fun H' d n s' e => h H' d n (s.trans s') e
end
end Own

namespace Own
open PySem PySem.Spec PyProof.Rows L2 SX RZ
section
variable {P : Program} {w : World} {K : PySem.W.Frag} {mg : Str → Option Value} {base : Heap}
theorem scan_snoc {gs p : List Nat} {b d c : Nat} {i : Nat} (h : Cnd.scan gs 40 0 (p.take i) = some (b, d)) (hc : p[i]? = some c) (k : Cnd.can gs b c d = true) : Cnd.scan gs 40 0 (p.take (i + 1)) = some (c, Cnd.dep d c) := by
  rw [List.take_add_one, hc, Cnd.scan_app, h]
  show (if Cnd.can gs b c d then some (c, Cnd.dep d c) else none) = _
  rw [if_pos k]
def spCkx (CP : Addr) : Sp := fun vs H Q E => ∃ gs p : List Nat, vs = [tx gs, tx p] ∧ p.length ≤ 100000 ∧ PsE CP E H ∧ (∀ b, Cnd.scan gs 40 0 p = some (b, 0) → ∀ H', Same H H' → Q .non H')
abbrev sCkx : Stmt := topS 30
abbrev ckxN : List Str := ["letters", "pattern", "depth", "before", "at", "sign"]
theorem scCkx : FnScope ckxN ["letters", "pattern"] (defScope sCkx) := ⟨rfl, rfl, rfl, by decide +kernel, rfl, by decide +kernel, by decide +kernel⟩
theorem ok_ckx {f : Addr} {fd : FuncData} (m_enumerate : mg "enumerate" = none) (m_len : mg "len" = none) (F : Fun K "check_pattern" "check_pattern" sCkx f fd) {f1 : Addr} {fd1 : FuncData} (c1 : Cl P w K mg base "can_stand" 1 ["letters", "before", "sign", "depth"] spCan f1 fd1) {CP : Addr} (eP : ErMN P w K mg base "ParseError" CP "position") :
    FnOk P w K mg base (L2N.CX P w) 3 f fd ["letters", "pattern"] (spCkx CP) := by
  refine okN F scCkx (fun vs H Q E h => ?_) (fun cdv A outer s H vs Q E hr h => ?_)
  · obtain ⟨gs, p, rfl, _⟩ := h
    rfl
  · obtain ⟨gs, p, rfl, hl, qe, q⟩ := h
    refine ⟨_, (pss_cons (ps_set (i := 2) scCkx.nd rfl (by first | exact .inl rfl | exact .inr rfl) pe_int)
      (pss_cons (ps_set (i := 3) scCkx.nd rfl (by first | exact .inl rfl | exact .inr rfl) pe_str)
      (pss_cons (ps_for (passes_of rfl) rfl (pi_enS (by rfl) m_enumerate (pa_cons (pv 1) pa_nil)) (pg_tup rfl (pgs_cons (pg_name (i := 4) scCkx.nd rfl (by first | exact .inl rfl | exact .inr rfl)) (pgs_cons (pg_name (i := 5) scCkx.nd rfl (by first | exact .inl rfl | exact .inr rfl)) pgs_nil)))
        (pss_cons (ps_if (pt_not (pt_val (pe_cl c1 hr (by decide) (by rfl) (pa_cons (pv 0) (pa_cons (pv 3) (pa_cons (pv 5) (pa_cons (pv 2) pa_nil))))))) (pss_one ((L2N.ps_raise rfl (L2N.takes_of rfl rfl rfl rfl) (eP.use rfl rfl rfl rfl rfl (hr.mono (by decide)) (by rfl) (pa_cons (pv 4) pa_nil))))) pss_nil)
      (C8.pss_cut (ps_if (pt_cmpR op_eq (pv 5) pe_str (nomark _)) (pss_one (ps_aug (i := 2) scCkx.nd rfl (by first | exact .inl rfl | exact .inr rfl) pe_int ip_add)) pss_nil)
      (C8.pss_cut (ps_if (pt_cmpR op_eq (pv 5) pe_str (nomark _)) (pss_one (ps_aug (i := 2) scCkx.nd rfl (by first | exact .inl rfl | exact .inr rfl) pe_int ip_sub)) pss_nil)
      (pss_one (ps_set (i := 3) scCkx.nd rfl (by first | exact .inl rfl | exact .inr rfl) (pv 5)))))))
      (pss_one (ps_if (pt_cmpR op_gt (pv 2) pe_int (nomark _)) (pss_one ((L2N.ps_raise rfl (L2N.takes_of rfl rfl rfl rfl) (eP.use rfl rfl rfl rfl rfl (hr.mono (by decide)) (by rfl) (pa_cons (pe_callB call_len_str (by rfl) m_len PySem.boot_len (pa_cons (pv 1) pa_nil)) pa_nil))))) pss_nil))))), ?_⟩
    have hz : (S p).length ≤ sizeLine := by rw [S_len, sizeLine_eq]; omega
    refine ⟨_, rfl, S p, rfl, for_it (walkE (z := S p)) (fun i σ H' => ∃ (d b : Nat) (v4 v5 : Option V), σ = [some (tx gs), some (tx p), some (iv d), some (tx [b]), v4, v5] ∧ Same H H' ∧ Cnd.scan gs 40 0 (p.take i) = some (b, d))
      ⟨0, 40, none, none, rfl, Same.refl _, rfl⟩ (fun _ _ _ _ _ => trivial) ?_ ?_⟩
    · rintro i x σ H' H'' hi ⟨d, b, v4, v5, rfl, s1, hsc⟩ ⟨T, c, rfl, nT, hc, rfl⟩
      have hc2 : p[i]? = some c := by rw [← List.getElem?_toArray]; exact hc
      try dsimp only [gName, tSeq, tAsg, List.set_cons_zero, List.set_cons_succ]
      refine ⟨T, _, rfl, .inl (.inl upd_same), rfl, _, _, rfl, _, _, rfl, rfl, ?_⟩
      have sT := s1.trans (same_new (o := .tup [V.int ((i : Nat) : Int), V.str ⟨#[c]⟩]) nT)
      have z2 : ∀ m k : Nat, decide (V.str (S [m]) = V.str (S [k])) = decide (m = k) := fun m k => by
        rw [dec_str]
        by_cases e : m = k <;> simp [e]
      refine ⟨_, rfl, _, rfl, _, rfl, _, rfl, gs, b, c, d, rfl, fun H3 s3 => ⟨_, rfl, ?_⟩⟩
      have s03 := sT.trans s3
      by_cases hcan : Cnd.can gs b c d = true
      rotate_left
      · rw [Bool.eq_false_iff.mpr hcan]
        exact iteT (raise1 (fun k h => ⟨_, rfl, h⟩) fun H4 e s4 he => qe H4 e _ (s03.trans s4) he)
      rw [hcan]
      refine iteF ?_
      have hnext := scan_snoc hsc hc2 hcan
      refine ⟨fun σ H2 => σ = [some (tx gs), some (tx p), some (iv (if c = 40 then d + 1 else d)), some (tx [b]), some (.int ((i : Nat) : Int)), some (tx [c])] ∧ Same H H2, ?_, ?_⟩
      · refine ⟨_, rfl, rfl, _, rfl, ?_⟩
        rw [show V.str (Str.ofString "(") = V.str (S [40]) from rfl]
        show (if decide (V.str (S [c]) = V.str (S [40])) = true then _ else _)
        rw [z2]
        by_cases h1 : c = 40
        · rw [decide_eq_true h1, if_pos h1]
          exact iteT ⟨_, rfl, _, _, rfl, rfl, rfl, s03⟩
        · rw [decide_eq_false h1, if_neg h1]
          exact iteF ⟨rfl, s03⟩
      rintro σ H4 ⟨rfl, s4⟩
      refine ⟨fun σ H2 => σ = [some (tx gs), some (tx p), some (iv (Cnd.dep d c)), some (tx [b]), some (.int ((i : Nat) : Int)), some (tx [c])] ∧ Same H H2, ?_, ?_⟩
      · refine ⟨_, rfl, rfl, _, rfl, ?_⟩
        rw [show V.str (Str.ofString ")") = V.str (S [41]) from rfl]
        show (if decide (V.str (S [c]) = V.str (S [41])) = true then _ else _)
        rw [z2]
        unfold Cnd.dep
        by_cases h1 : c = 41
        · have h0 : c ≠ 40 := by omega
          have hd : 0 < d := by
            unfold Cnd.can at hcan
            rw [if_neg (by omega), if_pos h1] at hcan
            exact of_decide_eq_true hcan
          rw [decide_eq_true h1, if_neg h0, if_neg h0, if_pos h1]
          refine iteT ⟨_, rfl, _, _, rfl, rfl, ?_, s4⟩
          show [some (tx gs), some (tx p), some (V.int ((d : Int) - 1)), _, _, _] = _
          rw [show (d : Int) - 1 = ((d - 1 : Nat) : Int) by omega]
        · rw [decide_eq_false h1]
          refine iteF ⟨?_, s4⟩
          by_cases h0 : c = 40
          · rw [if_pos h0, if_pos h0]
          · rw [if_neg h0, if_neg h0, if_neg h1]
      rintro σ H5 ⟨rfl, s5⟩
      exact ⟨_, rfl, _, _, _, _, rfl, s5, hnext⟩
    · rintro σ H' ⟨d, b, v4, v5, rfl, s1, hsc⟩
      have el : p.take (S p).cps.size = p := List.take_of_length_le (Nat.le_of_eq rfl)
      rw [el] at hsc
      refine ⟨_, rfl, _, _, rfl, rfl, _, rfl, ?_⟩
      by_cases hd : d = 0
      · subst hd
        exact iteF (q b hsc _ s1)
      · rw [decide_eq_true (show ((d : Nat) : Int) > 0 by omega)]
        exact iteT (raise1 (fun k h => ⟨_, rfl, S p, rfl, hz, h⟩) fun H4 e s4 he => qe H4 e _ (s1.trans s4) he)
end
end Own

namespace Own
open PySem PySem.Spec PyProof.Rows L2 SX RZ
section
variable {P : Program} {w : World} {K : PySem.W.Frag} {mg : Str → Option Value} {base : Heap}
def spMox (CI : Addr) : Sp := fun vs H Q E => ∃ gs p : List Nat, vs = [tx gs, tx p] ∧ p.length ≤ 100000 ∧ TxE CI E H ∧ (∀ b, Cnd.scan gs 40 0 p = some (b, 0) → ∀ H' a, Same H H' → H a = none → H' a = some (.tup [.str (Str.ofString "match"), tx p]) → Q (.ref a) H')
abbrev sMox : Stmt := topS 39
abbrev moxN : List Str := ["letters", "text"]
theorem scMox : FnScope moxN ["letters", "text"] (defScope sMox) := ⟨rfl, rfl, rfl, by decide +kernel, rfl, by decide +kernel, by decide +kernel⟩
theorem ok_mox {f : Addr} {fd : FuncData} (F : Fun K "match_of" "match_of" sMox f fd) {CP CI : Addr} (gPE : mg "ParseError" = some (.ref CP)) (xPE : PySem.W.exmOne K (.ref CP) (.ref CP) = some true) (eH : ErH0 P w K mg base "InvalidText" CI) {f1 : Addr} {fd1 : FuncData} (G1 : FnOk P w K mg base (L2N.CX P w) 3 f1 fd1 ["letters", "pattern"] (spCkx CP)) (g1 : mg "check_pattern" = some (.ref f1)) (k1 : PySem.W.keepIn K (.ref f1) = true) (b1 : Binds K fd1 ["letters", "pattern"] []) :
    FnOk P w K mg base (L2.CX P w) 5 f fd ["letters", "text"] (spMox CI) := by
  refine F.okX scMox (fun vs H Q E h => ?_) (fun cdv A outer s H vs Q E hr h => ?_)
  · obtain ⟨gs, p, rfl, _⟩ := h
    rfl
  · obtain ⟨gs, p, rfl, hl, qe, q⟩ := h
    refine ⟨_, (pss_cons (L2H.ps_try_onlyX rfl rfl ⟨by rfl, by decide, .inl gPE⟩ (fun hd => L2H.passesAt_of rfl hd) (takes_of rfl rfl rfl rfl) (fun W pn xe t1 t2 po => (pss_one (ps_expr (pe_call (E := fun cls d H => ∀ σ, W cls d σ H) G1 (hr.mono (by decide)) (by rfl) g1 k1 b1 .nil (L2N.passes_call t1 (fun _ _ σ _ h => h σ)) (pa_cons (pv 0) (pa_cons (pv 1) pa_nil)))))) (fun a oe cls d pn z hv tk hot => pss_one (L2H.ps_raiseHN hot tk (eH.use rfl rfl rfl rfl rfl (L2H.roomH_mark (hr.mono (by decide)) _) hot (by rfl)))))
      (pss_one (ps_ret (pe_tup (pa_cons pe_str (pa_cons (pv 1) pa_nil)))))), ?_⟩
    refine ⟨_, rfl, _, rfl, gs, p, rfl, hl, fun H1 d n s1 hd σ => ⟨true, xPE, fun _ a na => raise0 fun H2 d2 s2 hd2 => qe _ _ (s1.trans s2) hd2, fun z => nomatch z⟩, fun b hb H1 s1 => ?_⟩
    try dsimp only [tNext, gName, tSeq, tAsg, List.set_cons_zero, List.set_cons_succ]
    exact ⟨_, rfl, (by show 2 ≤ sizeLine; decide), fun a na => q b hb _ a (s1.trans (same_new na)) (none_of s1 na) upd_same⟩
end
end Own

namespace Own
open PySem PySem.Spec PyProof.Rows L2 SX RZ
section
variable {P : Program} {w : World} {K : PySem.W.Frag} {mg : Str → Option Value} {base : Heap}
theorem ok_rdN {f f1 fI C : Addr} {fd fd1 fd2 fdI : FuncData} (F : Fun K "read_row" "read_row" sRd f fd) (ml : mg "len" = none) (c1 : Cl P w K mg base "blank_width" 2 ["letters", "text", "at"] spBw f1 fd1) (c0 : Cl P w K mg base "blank_width" 2 ["letters", "text", "at"] spBw0 f1 fd2) (mE : ∃ t, mg "EMPTY_TEXT" = some (.str "-" t))
    (T : ErrC K mg "ParseError" C) (FI : Fun K "__init__" "ParseError.__init__" sInitPE fI fdI) (bI : Binds K fdI ["self", "position"] []) (iC : PySem.W.findIn K (.ref C) "__init__" = some (some (.ref fI))) (tI : PySem.W.typeIn K (.ref fI) = some (.type "function")) :
    FnOk P w K mg base (L2N.CX P w) 3 f fd ["letters", "text"] (spRdX C) := by
  obtain ⟨tE, mE⟩ := mE
  have GI : FnOk P w K mg base CX0 1 fI fdI ["self", "position"] (spI1 K C "ParseError") := ok_initPE FI T
  refine okN F scRd (fun vs H Q E h => ?_) (fun cdv A outer s H vs Q E hr h => ?_)
  · obtain ⟨gs, t, rfl, _⟩ := h
    rfl
  · obtain ⟨gs, t, rfl, hg, hl, haz, qv, qe⟩ := h
    refine ⟨_, pss_cons (ps_if (pt_cmpR op_eq (pv 1) (pe_glob (v := .str (Str.ofString "-")) (by rfl) mE ⟨_, rfl⟩) (nomark _)) (pss_one (ps_ret (pe_lst pa_nil))) pss_nil)
      (pss_cons (ps_if (pt_cmpR op_eq (pv 1) pe_str (nomark _)) (pss_one (L2N.ps_raise rfl (L2N.takes_of rfl rfl rfl rfl) (pmkN_oex T.ox iC tI GI hr bI pass0 (by rfl) T.gl (pa_cons pe_int pa_nil)))) pss_nil)
      (pss_cons (ps_set (i := 2) scRd.nd rfl (.inl rfl) (pe_lst pa_nil))
      (pss_cons (ps_set (i := 3) scRd.nd rfl (.inl rfl) pe_int)
      (pss_cons (ps_while (passes_of rfl) (pt_cmpR op_lt (pv 3) (pe_callB call_len_str (by rfl) ml PySem.boot_len (pa_cons (pv 1) pa_nil)) (nomark _))
        (pss_one (ps_if (pt_cmpR op_in_sign (pe_ix ix_str (pv 1) (pv 3) (fun _ _ => rfl)) (pv 0) rfl)
          (pss_cons (ps_expr (pe_bm PySem.F.plainAttrs_list PySem.F.slot_list_append PySem.F.type_list_append mt_append (pv 2) (pa_cons (pe_ix ix_str (pv 1) (pv 3) (fun _ _ => rfl)) pa_nil)))
            (pss_one (ps_set (i := 3) scRd.nd rfl (.inl rfl) (pe_op op_add (pv 3) pe_int))))
          (pss_cons (ps_set (i := 4) scRd.nd rfl (.inl rfl) (pe_or (pe_cl c1 hr (by decide) (by rfl) (pa_cons (pv 0) (pa_cons (pv 1) (pa_cons (pv 3) pa_nil)))) (pe_cl c0 hr (by decide) (by rfl) (pa_cons (pv 0) (pa_cons (pv 1) (pa_cons (pv 3) pa_nil))))))
          (pss_cons (ps_if (pt_cmpR op_eq (pv 4) pe_int (nomark _)) (pss_one (L2N.ps_raise rfl (L2N.takes_of rfl rfl rfl rfl) (pmkN_oex T.ox iC tI GI hr bI pass0 (by rfl) T.gl (pa_cons (pv 3) pa_nil)))) pss_nil)
          (pss_cons (ps_expr (pe_bm PySem.F.plainAttrs_list PySem.F.slot_list_append PySem.F.type_list_append mt_append (pv 2) (pa_cons
            (pe_ifExp (pt_cmpR op_eq (pv 4) pe_int (nomark _)) (pv 0) (pe_slice C8.sl_txt (pv 1) (po_some (pe_op op_add (pv 3) pe_int)) (po_some (pe_op op_sub (pe_op op_add (pv 3) (pv 4)) pe_int)))) pa_nil)))
            (pss_one (ps_set (i := 3) scRd.nd rfl (.inl rfl) (pe_op op_add (pv 3) (pv 4))))))))))
      (pss_one (ps_ret (pv 2))))))), ?_⟩
    have ob : Str.ofString "-" = S [45] := by decide +kernel
    have hz : (S t).length ≤ sizeLine := by rw [S_len]; exact small hl
    refine ⟨_, rfl, rfl, _, rfl, ?_⟩
    rw [ob]
    by_cases ht : t = [45]
    · rw [decide_eq_true (by rw [ht])]
      refine iteT ⟨Nat.zero_le _, fun p np => ?_⟩
      exact qv [] (.inl ⟨rfl, ht⟩) _ p (same_new np) np upd_same
    rw [decide_eq_false (fun e => ht (S_inj (V.str.inj e)))]
    refine iteF ⟨_, rfl, rfl, _, rfl, ?_⟩
    rw [empty_S]
    by_cases h0 : t = []
    · rw [decide_eq_true (by rw [h0])]
      refine iteT ⟨(by show 1 ≤ 1000; decide), fun a na => ⟨a, _, rfl, upd_same, fun dx nd ne => ⟨rfl, dx, _, ?_, upd_same, ?_, ?_⟩⟩⟩
      · rw [upd_ne ne.symm, upd_same]
      · exact (after0 (C := C) (fs := []) na nd ne).1
      · exact qe 0 ⟨ht, .inl ⟨h0, rfl⟩⟩ _ _ ((Same.refl _).trans (after1 na nd ne).2) upd_same
    rw [decide_eq_false (fun e => h0 (S_inj (V.str.inj e)))]
    refine iteF ⟨Nat.zero_le _, fun D nD => ?_⟩
    have zl : ((S t).length : Int) = (t.length : Int) := by rw [S_len]
    refine ⟨fun m σ H' => ∃ dn zs rest w, Forms gs dn zs ∧ t = zs.flatten ++ rest ∧ σ = [some (tx gs), some (tx t), some (.ref D), some (.int (zs.flatten.length : Int)), w] ∧ Same H H' ∧ H' D = some (.lst (dn.map tx)) ∧ dn.length ≤ zs.flatten.length ∧ m = rest.length,
      ⟨t.length, [], [], t, none, .nil, rfl, rfl, same_new nD, upd_same, Nat.le_refl _, rfl⟩, ?_⟩
    rintro m σ H' ⟨dn, zs, rest, w, hf, e1, rfl, s1, hD, hdn, rfl⟩
    have e1l := congrArg List.length e1
    rw [List.length_append] at e1l
    refine ⟨_, rfl, _, rfl, _, rfl, hz, _, _, rfl, rfl, _, rfl, ?_⟩
    rw [zl]
    have dnl : (dn.map tx).length < sizeLine := by rw [List.length_map]; exact small1000 (by omega)
    by_cases hr0 : rest = []
    · rw [decide_eq_false (by rw [e1l, hr0]; show ¬ (zs.flatten.length : Int) < ((zs.flatten.length + 0 : Nat) : Int); omega)]
      refine iteF ⟨_, rfl, ?_⟩
      rw [hr0, List.append_nil] at e1
      refine qv dn (.inr ⟨fun e => ?_, zs, hf, e1⟩) _ _ s1 nD hD
      subst e
      cases hf
      exact h0 e1
    have hrp := List.length_pos_iff.mpr hr0
    rw [decide_eq_true (by omega)]
    obtain ⟨c, r, hcr⟩ := List.exists_cons_of_ne_nil hr0
    have hat : t[zs.flatten.length]? = some c := by rw [e1, hcr]; simp
    refine iteT ⟨fun σ' H'' => ∃ x z post w', Form gs x z ∧ rest = z ++ post ∧ σ' = [some (tx gs), some (tx t), some (.ref D), some (.int ((zs.flatten ++ z).length : Int)), w'] ∧ Same H H'' ∧ H'' D = some (.lst ((dn ++ [x]).map tx)),
      fun σ' H'' ⟨x, z, post, w', ha, hb, hc, hd, he⟩ => ⟨post.length, by
        have hzp := List.length_pos_iff.mpr (form_ne ha)
        rw [hb, List.length_append]
        omega, dn ++ [x], zs ++ [z], post, w', forms_snoc hf ha, by rw [flat_snoc, e1, hb, List.append_assoc], by rw [flat_snoc]; exact hc, hd, he, by
        have hzp := List.length_pos_iff.mpr (form_ne ha)
        rw [flat_snoc, List.length_append, List.length_append]
        show _ + 1 ≤ _
        omega, rfl⟩, ?_⟩
    refine ⟨_, rfl, _, rfl, _, _, c, rfl, rfl, hz, atI_nat hat, _, rfl, c, _, rfl, rfl, _, rfl, ?_⟩
    show (if decide (c ∈ gs) = true then _ else _)
    by_cases hc : c ∈ gs
    · rw [decide_eq_true hc]
      refine iteT ⟨_, rfl, .inl ⟨rfl, _, .inl (.inl hD)⟩, _, rfl, _, rfl, _, _, _, rfl, rfl, hz, atI_nat hat, D, _, _, rfl, rfl, hD, dnl, ?_⟩
      refine ⟨_, rfl, _, _, rfl, rfl, ?_⟩
      refine ⟨[c], [c], r, w, .one hc, hcr, ?_, same_put s1 nD, ?_⟩
      · rw [List.length_append]
        rfl
      · rw [upd_same, List.map_append]
        rfl
    rw [decide_eq_false hc]
    refine iteF ?_
    rcases begins gs rest with e | ⟨c', r', e, hc'⟩ | ⟨_, post, e⟩ | ⟨_, x, post, e, hp⟩ | hs
    · exact absurd e hr0
    · rw [hcr] at e
      obtain ⟨rfl, rfl⟩ := List.cons.inj e
      exact absurd hc' hc
    · have e3 : t = zs.flatten ++ [123, 125] ++ post := by rw [e1, e, List.append_assoc]
      refine .inl ⟨_, rfl, _, rfl, _, rfl, gs, zs.flatten, post, [], [123, 125], by rw [← e3]; rfl, hg, by rw [← e3]; exact hl, .inl ⟨rfl, fun H3 s3 => ?_⟩⟩
      have hD3 := s3 _ _ hD
      refine ⟨_, rfl, rfl, _, rfl, ?_⟩
      rw [decide_eq_false (fun e => by have := V.int.inj e; omega)]
      refine iteF ⟨_, rfl, .inl ⟨rfl, _, .inl (.inl hD3)⟩, _, rfl, rfl, _, rfl, ?_⟩
      rw [decide_eq_true rfl]
      refine iteT ⟨_, rfl, D, _, _, rfl, rfl, hD3, dnl, ?_⟩
      refine ⟨_, rfl, _, rfl, _, _, rfl, rfl, ?_⟩
      refine ⟨gs, [123, 125], post, some (.int 2), .plain, e, ?_, same_put (s1.trans s3) nD, ?_⟩
      · rw [List.length_append]
        rfl
      · rw [upd_same, List.map_append]
        rfl
    · have hxl := hp.length_eq
      have e3 : t = zs.flatten ++ ([123] ++ x ++ [125]) ++ post := by rw [e1, e]; simp
      refine .inl ⟨_, rfl, _, rfl, _, rfl, gs, zs.flatten, post, x, [123] ++ x ++ [125], by rw [← e3]; rfl, hg, by rw [← e3]; exact hl, .inr ⟨hp, rfl, fun H3 s3 => ?_⟩⟩
      have hlo := hg.lo
      have hD3 := s3 _ _ hD
      refine ⟨_, rfl, rfl, _, rfl, ?_⟩
      rw [decide_eq_false (fun e => by have := V.int.inj e; omega)]
      refine iteF ⟨_, rfl, .inl ⟨rfl, _, .inl (.inl hD3)⟩, _, rfl, rfl, _, rfl, ?_⟩
      rw [decide_eq_false (fun e => by have := V.int.inj e; omega)]
      refine iteF ?_
      have e4 : Txt.slice (S t) (some ((zs.flatten.length : Int) + 1)) (some ((zs.flatten.length : Int) + ((gs.length : Int) + 2) - 1)) = S x := by
        have e : t = (zs.flatten ++ [123]) ++ x ++ ([125] ++ post) := by rw [e3]; simp
        rw [e]
        refine mid_app ?_ ?_
        · rw [List.length_append]
          rfl
        · simp only [List.length_append, List.length_singleton]
          omega
      refine ⟨_, rfl, _, rfl, _, _, rfl, rfl, _, rfl, _, rfl, _, rfl, _, _, rfl, rfl, _, _, rfl, rfl, _, rfl, _, rfl, hz, D, _, _, rfl, rfl, hD3, dnl, ?_⟩
      rw [e4]
      refine ⟨_, rfl, _, rfl, _, _, rfl, rfl, ?_⟩
      refine ⟨x, [123] ++ x ++ [125], post, some (.int ((gs.length : Int) + 2)), .turn hp, by rw [e], ?_, same_put (s1.trans s3) nD, ?_⟩
      · have e : ((zs.flatten ++ ([123] ++ x ++ [125])).length : Int) = (zs.flatten.length : Int) + ((gs.length : Int) + 2) := by
          simp only [List.length_append, List.length_singleton]
          omega
        rw [e]
        rfl
      · rw [upd_same, List.map_append]
        rfl
    · refine .inr ⟨_, rfl, _, rfl, _, rfl, gs, zs.flatten, rest, by rw [← e1]; rfl, hg, by rw [← e1]; exact hl, (fun d hd => haz d (by rw [e1]; exact List.mem_append_right _ hd)), hs, fun H3 s3 => ?_⟩
      refine ⟨_, rfl, rfl, _, rfl, ?_⟩
      rw [decide_eq_true rfl]
      refine iteT ⟨_, rfl, (by show 1 ≤ 1000; decide), fun a na => ⟨a, _, rfl, upd_same, fun dx nd ne => ⟨rfl, dx, _, ?_, upd_same, ?_, ?_⟩⟩⟩
      · rw [upd_ne ne.symm, upd_same]
      · exact (after0 (C := C) (fs := []) na nd ne).1
      · exact qe _ ⟨ht, .inr ⟨dn, zs, rest, hf, e1, hs, rfl⟩⟩ _ _ ((s1.trans s3).trans (after1 na nd ne).2) upd_same
end
end Own

namespace Own
open PySem PySem.Spec PyProof.Rows L2 SX RZ
section
variable {P : Program} {w : World} {K : PySem.W.Frag} {mg : Str → Option Value} {base : Heap}
def spTiN (C CP : Addr) : Sp := fun vs H Q E => ∃ (x dx : Addr) (gs t : List Nat), vs = [.ref x, tx gs, tx t] ∧ H x = some (.ins C dx []) ∧ Good gs ∧ t.length ≤ 1000 ∧ (∀ c ∈ t, c < 128) ∧
  (∀ its, Rd gs its t → ∀ H', (∀ b o, b ≠ x → H b = some o → H' b = some o) → Tm C H' x gs its → Q .non H') ∧
  ∀ n, Fault gs t n → ∀ H' d, (∀ b o, b ≠ x → H b = some o → H' b = some o) → H' d = some (.xd [("position", .int (n : Nat)), ("code", .str "ParseError")]) → E (.ref CP) (some d) H'
theorem ok_tiN {f f1 f2 C CP : Addr} {fd fd1 fd2 : FuncData} (F : Fun K "__init__" "Template.__init__" sTi f fd) (T : TmC K C) (mt : mg "tuple" = none)
    (c1 : Cl P w K mg base "check_letters" 1 ["letters"] spCLn f1 fd1)
    (G2 : FnOk P w K mg base (L2N.CX P w) 3 f2 fd2 ["letters", "text"] (spRdX CP)) (g2 : mg "read_row" = some (.ref f2)) (k2 : PySem.W.keepIn K (.ref f2) = true) (b2 : Binds K fd2 ["letters", "text"] []) :
    FnOk P w K mg base (L2N.CX P w) 4 f fd ["self", "letters", "text"] (spTiN C CP) := by
  refine okN F scTi (fun vs H Q E h => ?_) (fun cdv A outer s H vs Q E hr h => ?_)
  · obtain ⟨x, dx, gs, t, rfl, _⟩ := h
    rfl
  · obtain ⟨x, dx, gs, t, rfl, hx, hg, hl, haz, qv, qe⟩ := h
    refine ⟨_, pss_cons (ps_expr (pe_cl c1 hr (by decide) (by rfl) (pa_cons (pv 1) pa_nil)))
      (pss_cons (ps_fld (pv 0) (pv 1) (by rfl))
      (pss_one (ps_fld (pv 0) (pe_callTy call_tuple_of (by rfl) mt (by decide +kernel) (pa_cons (pe_call G2 hr (by rfl) g2 k2 b2 .nil (L2N.passes_call (L2N.takes_of rfl rfl rfl rfl) (fun _ _ _ _ h => h)) (pa_cons (pv 1) (pa_cons (pv 2) pa_nil))) pa_nil)) (by rfl)))), ?_⟩
    refine ⟨_, rfl, gs, rfl, hg, fun H1 s1 => ?_⟩
    refine ⟨_, rfl, _, rfl, x, C, dx, _, rfl, s1 _ _ hx, T.cls, T.na, (by show 0 < 1000; decide), ?_⟩
    refine ⟨_, rfl, _, rfl, gs, t, rfl, hg, hl, haz, fun its hrd H2 p s2 np hp => ?_, fun n hn H2 d s2 hd => ?_⟩
    · refine ⟨p, _, rfl, .inl ⟨.inl (.inl hp), fun l nl => ?_⟩⟩
      have h2 := s2 _ _ (upd_same (H := H1) (a := x) (o := .ins C dx (putF "alphabet" (tx gs) [])))
      have nxl : x ≠ l := ne_of_none h2 nl
      refine ⟨_, rfl, x, C, dx, _, rfl, by rw [upd_ne nxl]; exact h2, T.cls, T.np, (by show 1 < 1000; decide), ?_⟩
      refine qv its hrd _ (fun b o nb e => ?_) ⟨dx, l, upd_same, by rw [upd_ne nxl.symm, upd_same]⟩
      rw [upd_ne nb]
      refine same_new nl _ _ (s2 _ _ ?_)
      rw [upd_ne nb]
      exact s1 _ _ e
    · refine qe n hn _ _ (fun b o nb e => s2 _ _ ?_) hd
      rw [upd_ne nb]
      exact s1 _ _ e
end
end Own

namespace Own
open PySem PySem.Spec PyProof.Rows L2 SX RZ
section
variable {P : Program} {w : World} {K : PySem.W.Frag} {mg : Str → Option Value} {base : Heap}
theorem forms_row {gs : List Nat} {its zs : List (List Nat)} (h : Forms gs its zs) : Row gs its ∧ its.length ≤ zs.flatten.length := by
  induction h with
  | nil => exact ⟨(fun _ h => nomatch h), Nat.le_refl _⟩
  | @cons x z its zs hf _ ih =>
    have hx : ((∃ c, c ∈ gs ∧ x = [c]) ∨ x.Perm gs) ∧ 1 ≤ z.length := by
      cases hf with
      | one hc => exact ⟨.inl ⟨_, hc, rfl⟩, Nat.le_refl _⟩
      | plain => exact ⟨.inr (List.Perm.refl _), (by decide)⟩
      | turn hp => exact ⟨.inr hp, by simp⟩
    refine ⟨fun y hy => (List.mem_cons.mp hy).elim (fun e => e ▸ hx.1) (ih.1 y), ?_⟩
    rw [List.flatten_cons, List.length_append, List.length_cons]
    have := ih.2
    have := hx.2
    omega
theorem rd_row {gs t : List Nat} {its : List (List Nat)} (h : Rd gs its t) : Row gs its ∧ its.length ≤ t.length := by
  rcases h with ⟨rfl, _⟩ | ⟨_, zs, hf, rfl⟩
  · exact ⟨(fun _ h => nomatch h), Nat.zero_le _⟩
  · exact forms_row hf
def spTtn (CI : Addr) : Sp := fun vs H Q E => ∃ gs t : List Nat, vs = [tx gs, tx t] ∧ Good gs ∧ t.length ≤ 900 ∧ (∀ c ∈ t, c < 128) ∧ TxE CI E H ∧ (∀ i, Rd gs i t → Row gs i → i.length ≤ 900 → ∀ H', Same H H' → Q (tx (rTx gs i)) H')
abbrev sTtn : Stmt := topS 36
abbrev ttnN : List Str := ["letters", "text"]
theorem scTtn : FnScope ttnN ["letters", "text"] (defScope sTtn) := ⟨rfl, rfl, rfl, by decide +kernel, rfl, by decide +kernel, by decide +kernel⟩
theorem ok_ttn {f : Addr} {fd : FuncData} (F : Fun K "template_text" "template_text" sTtn f fd) {CP CI : Addr} (gPE : mg "ParseError" = some (.ref CP)) (xPE : PySem.W.exmOne K (.ref CP) (.ref CP) = some true) (eH : ErH0 P w K mg base "InvalidText" CI) {fI fT C : Addr} {fdI fdT : FuncData} (T : TmC K C) (M : Mk K C fI) (gC : mg "Template" = some (.ref C)) (GI : FnOk P w K mg base (L2N.CX P w) 4 fI fdI ["self", "letters", "text"] (spTiN C CP)) (bI : Binds K fdI ["self", "letters", "text"] []) (mT : Meth K C "text" fT) (GT : FnOk P w K mg base CX0 4 fT fdT ["self"] (spText C)) (bT : Binds K fdT ["self"] []) :
    FnOk P w K mg base (L2.CX P w) 6 f fd ["letters", "text"] (spTtn CI) := by
  refine F.okX scTtn (fun vs H Q E h => ?_) (fun cdv A outer s H vs Q E hr h => ?_)
  · obtain ⟨gs, t, rfl, _⟩ := h
    rfl
  · obtain ⟨gs, t, rfl, hg, hl, haz, qe, q⟩ := h
    refine ⟨_, (pss_one (L2H.ps_try_onlyX rfl rfl ⟨by rfl, by decide, .inl gPE⟩ (fun hd => L2H.passesAt_of rfl hd) (takes_of rfl rfl rfl rfl) (fun W pn xe t1 t2 po => (pss_one (ps_ret (pe_meth0 (pe_make (E := fun cls d H => ∀ σ, W cls d σ H) M GI (hr.mono (by decide)) (by rfl) gC bI .nil (L2N.passes_call t1 (fun _ _ σ _ h => h σ)) (pa_cons (pv 0) (pa_cons (pv 1) pa_nil))) T.cls mT GT (hr.mono (by decide)) bT .nil pass0)))) (fun a oe cls d pn z hv tk hot => pss_one (L2H.ps_raiseHN hot tk (eH.use rfl rfl rfl rfl rfl (L2H.roomH_mark (hr.mono (by decide)) _) hot (by rfl)))))), ?_⟩
    dsimp only [tRet, tMeth]
    refine ⟨_, rfl, _, rfl, fun x dx nx nd ne => ?_⟩
    have hn : ∀ o, H x = some o → False := fun o e => by rw [nx] at e; cases e
    have old : ∀ b o, H b = some o → upd (upd H dx (.own x)) x (.ins C dx []) b = some o := fun b o e => by
      rw [upd_ne (ne_of_none e nx), upd_ne (ne_of_none e nd)]; exact e
    refine ⟨x, dx, gs, t, rfl, upd_same, hg, by omega, haz, fun i rd H2 k tm => ⟨rfl, ?_⟩, fun n hF H2 d k hd σ => ⟨true, xPE, fun _ a na => raise0 fun H3 d2 s3 hd2 => qe _ _ (fun b o e => s3 _ _ (k _ _ (ne_of_none e nx) (old _ _ e))) hd2, fun z => nomatch z⟩⟩
    obtain ⟨hrow, hil⟩ := rd_row rd
    obtain ⟨dx2, pp, hp, _⟩ := id tm
    have := hg.hi
    exact ⟨x, dx2, _, rfl, hp, rfl, x, gs, i, rfl, tm, by omega, by omega, (fun y hy => by have := row_len hg hrow y hy; omega), fun H3 s3 => q i rd hrow (by omega) H3 (fun b o e => s3 _ _ (k _ _ (ne_of_none e nx) (old _ _ e)))⟩
end
end Own

namespace Own
open PySem PySem.Spec PyProof.Rows L2 SX RZ
section
variable {P : Program} {w : World} {K : PySem.W.Frag} {mg : Str → Option Value} {base : Heap}
theorem low_split : ∀ xs : List Nat, ∃ nm z, xs = nm ++ z ∧ (∀ c ∈ nm, 97 ≤ c ∧ c ≤ 122) ∧ ∀ c r, z = c :: r → ¬ (97 ≤ c ∧ c ≤ 122)
  | [] => ⟨[], [], rfl, (fun _ h => nomatch h), fun _ _ e => nomatch e⟩
  | c :: xs => by
    by_cases h : 97 ≤ c ∧ c ≤ 122
    · obtain ⟨nm, z, e, h1, h2⟩ := low_split xs
      exact ⟨c :: nm, z, by rw [e]; rfl, fun d hd => (List.mem_cons.mp hd).elim (fun q => q ▸ h) (h1 d), h2⟩
    · exact ⟨[], c :: xs, rfl, (fun _ h => nomatch h), fun d r e => by cases e; exact h⟩
def spRnx (CI : Addr) : Sp := fun vs H Q E => ∃ (xs : List Nat) (n : Nat), vs = [tx xs, iv n] ∧ n ≤ xs.length ∧ xs.length ≤ 100000 ∧ TxE CI E H ∧
  ∀ nm z, xs.drop n = nm ++ z → 0 < nm.length → nm.length ≤ 8 → (∀ c ∈ nm, 97 ≤ c ∧ c ≤ 122) → ∀ H' p, Same H H' → H p = none → H' p = some (.tup [tx nm, iv (n + nm.length)]) → Q (.ref p) H'
abbrev sRnx : Stmt := topS 35
abbrev rnxN : List Str := ["text", "at", "end"]
theorem scRnx : FnScope rnxN ["text", "at"] (defScope sRnx) := ⟨rfl, rfl, rfl, by decide +kernel, rfl, by decide +kernel, by decide +kernel⟩
theorem ok_rnx {f : Addr} {fd : FuncData} (F : Fun K "read_name" "read_name" sRnx f fd) (m_len : mg "len" = none) {CI : Addr} (eT : ErM0 P w K mg base "InvalidText" CI) (gLo : ∃ t, mg "LOWERCASE" = some (.str (Str.ofString "abcdefghijklmnopqrstuvwxyz") t)) (gMN : ∃ t, mg "MOST_NAME" = some (.int 8 t)) :
    FnOk P w K mg base (L2.CX P w) 3 f fd ["text", "at"] (spRnx CI) := by
  refine F.okX scRnx (fun vs H Q E h => ?_) (fun cdv A outer s H vs Q E hr h => ?_)
  · obtain ⟨xs, n, rfl, _⟩ := h
    rfl
  · obtain ⟨xs, n, rfl, hn, hl, qe, q⟩ := h
    obtain ⟨tLo, eLo⟩ := gLo
    obtain ⟨tMN, eMN⟩ := gMN
    refine ⟨_, (pss_cons (ps_set (i := 2) scRnx.nd rfl (by first | exact .inl rfl | exact .inr rfl) (pv 1))
      (pss_cons (ps_while (passes_of rfl) (PW.pt (pw_and (pt_cmpR op_lt (pv 2) (pe_callB call_len_str (by rfl) m_len PySem.boot_len (pa_cons (pv 0) pa_nil)) (nomark _)) (pw_and1 (pt_cmpR op_in_sign (pe_ix ix_str (pv 0) (pv 2) (fun _ _ => rfl)) (pe_glob (v := .str (Str.ofString "abcdefghijklmnopqrstuvwxyz")) (by rfl) eLo ⟨_, rfl⟩) (by rfl)))))
        (pss_one (ps_aug (i := 2) scRnx.nd rfl (by first | exact .inl rfl | exact .inr rfl) pe_int ip_add)))
      (pss_cons (ps_if (pt_not (pt_chain op_le op_le pe_int (pe_op op_sub (pv 2) (pv 1)) (pe_glob (v := .int 8) (by rfl) eMN ⟨_, rfl⟩))) (pss_one ((ps_raise rfl (takes_of rfl rfl rfl rfl) (eT.use rfl rfl rfl rfl rfl (hr.mono (by decide)) (by rfl))))) pss_nil)
      (pss_one (ps_ret (pe_tup (pa_cons (pe_slice sl_str (pv 0) (po_some (pv 1)) (po_some (pv 2))) (pa_cons (pv 2) pa_nil)))))))), ?_⟩
    obtain ⟨nm, z', hd, hnm, hz⟩ := low_split (xs.drop n)
    have hz' : (S xs).length ≤ sizeLine := by rw [S_len, sizeLine_eq]; omega
    have hlen : xs.length = n + (nm.length + z'.length) := by
      have := congrArg List.length hd
      rw [List.length_drop, List.length_append] at this
      omega
    have hat : ∀ k, k < nm.length → ∃ c, xs[n + k]? = some c ∧ 97 ≤ c ∧ c ≤ 122 := fun k hk => by
      have e : xs[n + k]? = (nm ++ z')[k]? := by rw [← hd, List.getElem?_drop]
      rw [List.getElem?_append_left hk] at e
      exact ⟨_, e.trans (List.getElem?_eq_getElem hk), hnm _ (List.getElem_mem hk)⟩
    have hend : ∀ c, xs[n + nm.length]? = some c → ¬ (97 ≤ c ∧ c ≤ 122) := fun c hc => by
      have e : xs[n + nm.length]? = (nm ++ z')[nm.length]? := by rw [← hd, List.getElem?_drop]
      rw [List.getElem?_append_right (Nat.le_refl _), Nat.sub_self] at e
      rw [e] at hc
      cases z' with
      | nil => cases hc
      | cons x r => cases hc; exact hz _ _ rfl
    have lower : ∀ c : Nat, decide (c ∈ (Str.ofString "abcdefghijklmnopqrstuvwxyz").cps.toList) = decide (97 ≤ c ∧ c ≤ 122) := fun c => by
      have e : (Str.ofString "abcdefghijklmnopqrstuvwxyz").cps.toList = List.range' 97 26 := by decide +kernel
      rw [e]
      by_cases h : 97 ≤ c ∧ c ≤ 122
      · rw [decide_eq_true h]
        exact decide_eq_true (List.mem_range'_1.mpr (by omega))
      · rw [decide_eq_false h]
        exact decide_eq_false fun m => h (by have := List.mem_range'_1.mp m; omega)
    refine ⟨_, rfl, ?_⟩
    show tWhile _ _ _ [some (tx xs), some (iv n), some (iv n)] H
    refine ⟨fun m σ H' => ∃ k, σ = [some (tx xs), some (iv n), some (iv (n + k))] ∧ k ≤ nm.length ∧ m = nm.length - k ∧ Same H H', ⟨_, 0, rfl, Nat.zero_le _, rfl, Same.refl _⟩, ?_⟩
    rintro m σ H1 ⟨k, rfl, hk, rfl, s1⟩
    refine ⟨_, rfl, _, rfl, S xs, rfl, hz', _, _, rfl, rfl, _, rfl, ?_⟩
    rw [S_len, dec_lt]
    have done' : k = nm.length → tSeq
        (tIfS
          (tNot
            (tTest
              (tChain (rI0 fun i j => V.bl (decide (i ≤ j))) (rI0 fun i j => V.bl (decide (i ≤ j))) (tC (V.int 1))
                (tOp (rI0 fun i j => V.int (i - j)) (tVar 2) (tVar 1)) (tC (V.int 8)))))
          (fun _ σ H => tMkO CI (spI0 K CI (Str.ofString "InvalidText")) [] tNil σ H fun cls d H' => E cls d H') tNext)
        (tRet (tTup (tCons (tSl rSlS (tVar 0) (tPart (tVar 1)) (tPart (tVar 2))) (tCons (tVar 2) tNil)))) { nx := fun x H' => Q V.non H', rt := Q } [some (tx xs), some (iv n), some (iv (n + k))] H1 := fun e => by
      subst e
      refine if_pick (¬ (1 ≤ nm.length ∧ nm.length ≤ 8)) (fun z => ?_) (fun z => ?_) (fun kk kt kf => ?_)
      · exact raise0 fun H2 d s2 hd2 => qe _ _ (s1.trans s2) hd2
      · have z : 1 ≤ nm.length ∧ nm.length ≤ 8 := Classical.byContradiction z
        try dsimp only [tNext, tRet]
        refine ⟨_, rfl, _, rfl, _, rfl, _, rfl, _, rfl, S xs, rfl, hz', _, rfl, (by show 2 ≤ sizeLine; decide), fun T nT => ?_⟩
        have ec : cutS (S xs) (some ((n : Nat) : Int)) (some ((n + nm.length : Nat) : Int)) = S nm := by
          unfold cutS
          rw [S_len, HT.sIx_nat, HT.sIx_nat, Nat.min_eq_left (by omega), Nat.min_eq_left (by omega)]
          show (⟨_⟩ : Str) = ⟨_⟩
          congr 2
          show (xs.drop n).take (n + nm.length - n) = nm
          rw [hd, show n + nm.length - n = nm.length by omega, List.take_left]
        rw [ec]
        exact q nm z' hd z.1 z.2 hnm _ T (s1.trans (same_new nT)) (none_of s1 nT) upd_same
      · refine ⟨_, rfl, _, rfl, _, _, rfl, rfl, _, _, rfl, rfl, _, rfl, ?_⟩
        by_cases a1 : 1 ≤ nm.length
        · rw [decide_eq_true (show (1 : Int) ≤ ((n + nm.length : Nat) : Int) - ((n : Nat) : Int) by omega)]
          refine iteT ⟨_, _, rfl, rfl, _, rfl, ?_⟩
          by_cases a2 : nm.length ≤ 8
          · rw [decide_eq_true (show ((n + nm.length : Nat) : Int) - ((n : Nat) : Int) ≤ 8 by omega)]
            exact kf fun z => z ⟨a1, a2⟩
          · rw [decide_eq_false (show ¬ ((n + nm.length : Nat) : Int) - ((n : Nat) : Int) ≤ 8 by omega)]
            exact kt fun z => a2 z.2
        · rw [decide_eq_false (show ¬ (1 : Int) ≤ ((n + nm.length : Nat) : Int) - ((n : Nat) : Int) by omega)]
          exact iteF ⟨_, rfl, kt fun z => a1 z.1⟩
    by_cases h : n + k < xs.length
    rotate_left
    · rw [decide_eq_false h]
      exact iteF (done' (by omega))
    rw [decide_eq_true h]
    obtain ⟨c, hc⟩ : ∃ c, xs[n + k]? = some c := ⟨_, List.getElem?_eq_getElem h⟩
    refine iteT ⟨_, rfl, _, rfl, S xs, _, c, rfl, rfl, hz', atI_nat hc, c, _, rfl, rfl, _, rfl, ?_⟩
    rw [lower]
    by_cases hk2 : k < nm.length
    · obtain ⟨c', hc', hl'⟩ := hat k hk2
      rw [hc] at hc'
      cases hc'
      rw [decide_eq_true hl']
      refine iteT ⟨fun σ H' => ∃ k', σ = [some (tx xs), some (iv n), some (iv (n + k'))] ∧ k' ≤ nm.length ∧ k' = k + 1 ∧ Same H H', ?_, ?_⟩
      · rintro σ' H' ⟨k', rfl, h1, rfl, s2⟩
        exact ⟨_, by omega, _, rfl, h1, rfl, s2⟩
      · refine ⟨_, rfl, _, _, rfl, rfl, k + 1, ?_, by omega, rfl, s1⟩
        show [some (tx xs), some (iv n), some (V.int (((n + k : Nat) : Int) + 1))] = _
        rw [show ((n + k : Nat) : Int) + 1 = ((n + (k + 1) : Nat) : Int) by omega]
    · have ek : k = nm.length := by omega
      subst ek
      rw [decide_eq_false (hend c hc)]
      exact iteF (done' rfl)
end
end Own

namespace Own
open PySem PySem.Spec PyProof.Rows L2 SX RZ
section
variable {P : Program} {w : World} {K : PySem.W.Frag} {mg : Str → Option Value} {base : Heap}
def spClx (CI : Addr) : Sp := fun vs H Q E => ∃ (xs : List Nat) (n : Nat), vs = [tx xs, iv n] ∧ xs.length ≤ 100000 ∧ n ≤ 100100 ∧ TxE CI E H ∧ ∀ j, Cnd.clo 1 (xs.drop n) n = some j → ∀ H', Same H H' → Q (iv j) H'
abbrev sClx : Stmt := topS 37
abbrev clxN : List Str := ["text", "at", "depth", "place"]
theorem scClx : FnScope clxN ["text", "at"] (defScope sClx) := ⟨rfl, rfl, rfl, by decide +kernel, rfl, by decide +kernel, by decide +kernel⟩
theorem ok_clx {f : Addr} {fd : FuncData} (F : Fun K "closing_place" "closing_place" sClx f fd) (m_len : mg "len" = none) (m_range : mg "range" = none) {CI : Addr} (eT : ErM0 P w K mg base "InvalidText" CI) :
    FnOk P w K mg base (L2.CX P w) 3 f fd ["text", "at"] (spClx CI) := by
  refine F.okX scClx (fun vs H Q E h => ?_) (fun cdv A outer s H vs Q E hr h => ?_)
  · obtain ⟨xs, n, rfl, _⟩ := h
    rfl
  · obtain ⟨xs, n, rfl, hl, hnb, qe, q⟩ := h
    refine ⟨_, (pss_cons (ps_set (i := 2) scClx.nd rfl (by first | exact .inl rfl | exact .inr rfl) pe_int)
      (pss_cons (ps_for (passes_of rfl) rfl (pi_range2 rfl m_range (pa_cons (pv 1) (pa_cons (pe_callB call_len_str (by rfl) m_len PySem.boot_len (pa_cons (pv 0) pa_nil)) pa_nil))) (pg_name (i := 3) scClx.nd rfl (by first | exact .inl rfl | exact .inr rfl))
        (C8.pss_cut (ps_if (pt_cmpR op_eq (pe_ix ix_str (pv 0) (pv 3) (fun _ _ => rfl)) pe_str (nomark _)) (pss_one (ps_aug (i := 2) scClx.nd rfl (by first | exact .inl rfl | exact .inr rfl) pe_int ip_add)) (pss_one (ps_if (pt_cmpR op_eq (pe_ix ix_str (pv 0) (pv 3) (fun _ _ => rfl)) pe_str (nomark _)) (pss_one (ps_aug (i := 2) scClx.nd rfl (by first | exact .inl rfl | exact .inr rfl) pe_int ip_sub)) pss_nil)))
      (pss_one (ps_if (pt_cmpR op_eq (pv 2) pe_int (nomark _)) (pss_one (ps_ret (pv 3))) pss_nil))))
      (pss_one ((ps_raise rfl (takes_of rfl rfl rfl rfl) (eT.use rfl rfl rfl rfl rfl (hr.mono (by decide)) (by rfl))))))), ?_⟩
    have hz : (S xs).length ≤ sizeLine := by rw [S_len, sizeLine_eq]; omega
    refine ⟨_, rfl, _, rfl, S xs, rfl, hz, _, _, rfl, by rw [S_len]; omega, ?_⟩
    rw [S_len]
    have en : (((xs.length : Nat) : Int) - ((n : Nat) : Int)).toNat = xs.length - n := by omega
    refine for_range (lo := ((n : Nat) : Int)) (n := (((xs.length : Nat) : Int) - ((n : Nat) : Int)).toNat) (fun i σ H' => ∃ (d : Nat) (v3 : Option V), σ = [some (tx xs), some (iv n), some (iv d), v3] ∧ Same H H' ∧ 0 < d ∧ Cnd.clo d (xs.drop (n + i)) (n + i) = Cnd.clo 1 (xs.drop n) n) ⟨1, none, rfl, Same.refl _, Nat.one_pos, rfl⟩ ?_ ?_
    · rintro i σ H' hi ⟨d, v3, rfl, s1, hd, hc⟩
      have hlt : n + i < xs.length := by omega
      have ed : xs.drop (n + i) = xs[n + i] :: xs.drop (n + i + 1) := List.drop_eq_getElem_cons hlt
      rw [ed] at hc
      have hc2 : (if Cnd.dep d xs[n + i] = 0 then some (n + i) else Cnd.clo (Cnd.dep d xs[n + i]) (xs.drop (n + i + 1)) (n + i + 1)) = Cnd.clo 1 (xs.drop n) n := hc
      generalize hs : xs[n + i] = s0 at hc2
      have hat : atI xs ((n : Int) + (i : Int)) = some s0 := by
        rw [show (n : Int) + (i : Int) = ((n + i : Nat) : Int) by omega]
        exact atI_nat (by rw [List.getElem?_eq_getElem hlt, hs])
      try dsimp only [gName, tSeq, tAsg, List.set_cons_zero, List.set_cons_succ]
      have z2 : ∀ m k : Nat, decide (V.str (S [m]) = V.str (S [k])) = decide (m = k) := fun m k => by
        rw [dec_str]
        by_cases e : m = k <;> simp [e]
      refine ⟨fun σ H2 => σ = [some (tx xs), some (iv n), some (iv (Cnd.dep d s0)), some (.int ((n : Int) + (i : Int)))] ∧ Same H H2, ?_, ?_⟩
      · refine ⟨_, rfl, _, rfl, S xs, _, s0, rfl, rfl, hz, hat, rfl, _, rfl, ?_⟩
        rw [show V.str (Str.ofString "(") = V.str (S [40]) from rfl]
        show (if decide (V.str (S [s0]) = V.str (S [40])) = true then _ else _)
        rw [z2]
        unfold Cnd.dep
        by_cases h1 : s0 = 40
        · rw [decide_eq_true h1, if_pos h1]
          refine iteT ⟨_, rfl, _, _, rfl, rfl, ?_⟩
          exact ⟨rfl, s1⟩
        rw [decide_eq_false h1, if_neg h1]
        refine iteF ?_
        refine ⟨_, rfl, _, rfl, S xs, _, s0, rfl, rfl, hz, hat, rfl, _, rfl, ?_⟩
        rw [show V.str (Str.ofString ")") = V.str (S [41]) from rfl]
        show (if decide (V.str (S [s0]) = V.str (S [41])) = true then _ else _)
        rw [z2]
        by_cases h2 : s0 = 41
        · rw [decide_eq_true h2, if_pos h2]
          refine iteT ⟨_, rfl, _, _, rfl, rfl, ?_⟩
          refine ⟨?_, s1⟩
          show [some (tx xs), some (iv n), some (V.int ((d : Int) - 1)), some (V.int ((n : Int) + (i : Int)))] = _
          rw [show (d : Int) - 1 = ((d - 1 : Nat) : Int) by omega]
        · rw [decide_eq_false h2, if_neg h2]
          exact iteF ⟨rfl, s1⟩
      rintro σ H2 ⟨rfl, s2⟩
      refine ⟨_, rfl, rfl, _, rfl, ?_⟩
      have e0 : decide (V.int ((Cnd.dep d s0 : Nat) : Int) = V.int 0) = decide (Cnd.dep d s0 = 0) := by
        by_cases h : Cnd.dep d s0 = 0
        · rw [h]; rfl
        · rw [decide_eq_false h]
          exact decide_eq_false fun e => h (by injection e with e; omega)
      rw [e0]
      by_cases h : Cnd.dep d s0 = 0
      · rw [if_pos h] at hc2
        rw [decide_eq_true h]
        refine iteT ⟨_, rfl, ?_⟩
        rw [show (n : Int) + (i : Int) = ((n + i : Nat) : Int) by omega]
        exact q _ hc2.symm _ s2
      · rw [if_neg h] at hc2
        rw [decide_eq_false h]
        exact iteF ⟨_, _, rfl, s2, Nat.pos_of_ne_zero h, hc2⟩
    · rintro σ H' ⟨d, v3, rfl, s1, hd, hc⟩
      exact raise0 (σ := []) fun H2 d2 s2 hd2 => qe _ _ (s1.trans s2) hd2
end
end Own

namespace Own
open PySem PySem.Spec PyProof.Rows L2 SX RZ
section
variable {P : Program} {w : World} {K : PySem.W.Frag} {mg : Str → Option Value} {base : Heap}
/-! texts cut at a sign: two pieces or not -/
theorem one_comma : ∀ {xs : List Nat} {c : Nat}, xs.count c = 1 → ∃ a b, xs = a ++ c :: b ∧ c ∉ a ∧ c ∉ b
  | [], c, h => by simp at h
  | x :: xs, c, h => by
    by_cases e : x = c
    · subst e
      rw [List.count_cons_self] at h
      exact ⟨[], xs, rfl, (fun m => nomatch m), List.count_eq_zero.mp (by omega)⟩
    · rw [List.count_cons_of_ne e] at h
      obtain ⟨a, b, e1, h1, h2⟩ := one_comma h
      exact ⟨x :: a, b, by rw [e1]; rfl, fun m => (List.mem_cons.mp m).elim (fun q => e q.symm) h1, h2⟩
theorem split_len {xs : List Nat} {c : Nat} (h : (Txt.split (S xs) (S [c])).length = 2) : xs.count c = 1 := by
  have hc := count_S xs c
  unfold Txt.count at hc
  unfold Txt.split at h
  split at h
  · cases h
  · split at h
    · cases h
    · unfold Builtin.Str.partsBetween at h
      rw [List.length_map, List.length_zip, List.length_cons, List.length_map, List.length_append, List.length_singleton, Nat.min_self] at h
      omega
end
end Own

namespace Own
open PySem PySem.Spec PyProof.Rows L2 SX RZ
section
variable {P : Program} {w : World} {K : PySem.W.Frag} {mg : Str → Option Value} {base : Heap}
def spTwx (CI : Addr) : Sp := fun vs H Q E => ∃ (xs : List Nat), vs = [tx xs] ∧ xs.length ≤ 99000 ∧ TxE CI E H ∧ ∀ a b, xs = a ++ 44 :: b → 44 ∉ a → 44 ∉ b → ∀ H' p, Same H H' → H p = none → H' p = some (.lst [tx a, tx b]) → Q (.ref p) H'
abbrev sTwx : Stmt := topS 38
abbrev twxN : List Str := ["text", "parts"]
theorem scTwx : FnScope twxN ["text"] (defScope sTwx) := ⟨rfl, rfl, rfl, by decide +kernel, rfl, by decide +kernel, by decide +kernel⟩
theorem ok_twx {f : Addr} {fd : FuncData} (F : Fun K "two_parts" "two_parts" sTwx f fd) (m_len : mg "len" = none) {CI : Addr} (eT : ErM0 P w K mg base "InvalidText" CI) :
    FnOk P w K mg base (L2.CX P w) 3 f fd ["text"] (spTwx CI) := by
  refine F.okX scTwx (fun vs H Q E h => ?_) (fun cdv A outer s H vs Q E hr h => ?_)
  · obtain ⟨xs, rfl, _⟩ := h
    rfl
  · obtain ⟨xs, rfl, hl, qe, q⟩ := h
    refine ⟨_, (pss_cons (ps_set (i := 1) scTwx.nd rfl (by first | exact .inl rfl | exact .inr rfl) (pe_split (pv 0) pe_str))
      (pss_cons (ps_if (pt_cmpR op_ne (pe_callB (callLenC (K := K) rfl) (by rfl) m_len PySem.boot_len (pa_cons (pv 1) pa_nil)) pe_int (nomark _)) (pss_one ((ps_raise rfl (takes_of rfl rfl rfl rfl) (eT.use rfl rfl rfl rfl rfl (hr.mono (by decide)) (by rfl))))) pss_nil)
      (pss_one (ps_ret (pv 1))))), ?_⟩
    have hz : (S xs).length + 2 ≤ sizeLine := by rw [S_len, sizeLine_eq]; omega
    refine ⟨_, rfl, ⟨_, rfl⟩, S xs, S [44], rfl, rfl, rfl, hz, ?_⟩
    intro p np
    have s1 := same_new (o := .lst ((Txt.split (S xs) (S [44])).map V.str)) np
    try dsimp only [gName, tSeq, tAsg, List.set_cons_zero, List.set_cons_succ]
    refine ⟨_, rfl, p, _, rfl, .inl (sqL upd_same), rfl, _, rfl, ?_⟩
    by_cases h2 : (Txt.split (S xs) (S [44])).length = 2
    · obtain ⟨a, b, e, ha, hb⟩ := one_comma (split_len h2)
      rw [show (!decide (V.int ((((Txt.split (S xs) (S [44])).map V.str).length : Nat) : Int) = V.int 2)) = false by rw [List.length_map, h2]; rfl]
      refine iteF ⟨_, rfl, q a b e ha hb _ p s1 np ?_⟩
      subst e
      rw [upd_same, split_two ha hb (by decide)]
      rfl
    · rw [show (!decide (V.int ((((Txt.split (S xs) (S [44])).map V.str).length : Nat) : Int) = V.int 2)) = true by rw [List.length_map, decide_eq_false (fun e => h2 (by injection e with e; omega))]; rfl]
      exact iteT (raise0 fun H2 d2 s2 hd2 => qe _ _ (s1.trans s2) hd2)
end
end Own

namespace Own
open PySem PySem.Spec PyProof.Rows L2 SX RZ
section
variable {P : Program} {w : World} {K : PySem.W.Frag} {mg : Str → Option Value} {base : Heap}
theorem nm_key {a : List Nat} {v : V} (h : valV (nmK 61) (Sum.inr (S a)) = some v) : ∃ r, r ≤ 60 ∧ a = Cnd.dec r ∧ v = iv r := by
  unfold valV at h
  obtain ⟨x, h1, h2⟩ := Option.map_eq_some_iff.mp h
  have hm := List.mem_of_find?_eq_some h1
  have hk := List.find?_some h1
  obtain ⟨r, hr, rfl⟩ := List.mem_map.mp hm
  have hr := List.mem_range.mp hr
  have e : (Sum.inr (S (Cnd.dec r)) : L2.Key) = Sum.inr (S a) := of_decide_eq_true hk
  exact ⟨r, by omega, (S_inj (Sum.inr.inj e)).symm, h2.symm⟩
def spLox (CI : Addr) : Sp := fun vs H Q E => ∃ xs : List Nat, vs = [tx xs] ∧ xs.length ≤ 99000 ∧ TxE CI E H ∧ ∀ r m, xs = Cnd.dec r ++ 44 :: Cnd.dec m → r < m → m ≤ 60 → ∀ H' a, Same H H' → H a = none → H' a = some (.tup [.str (Str.ofString "length"), iv r, iv m]) → Q (.ref a) H'
abbrev sLox : Stmt := topS 40
abbrev loxN : List Str := ["text", "numbers", "one", "other", "number"]
theorem scLox : FnScope loxN ["text"] (defScope sLox) := ⟨rfl, rfl, rfl, by decide +kernel, rfl, by decide +kernel, by decide +kernel⟩
theorem ok_lox {f : Addr} {fd : FuncData} (F : Fun K "length_of" "length_of" sLox f fd) {CI : Addr} (eT : ErM0 P w K mg base "InvalidText" CI) {f1 : Addr} {fd1 : FuncData} (G1 : FnOk P w K mg base (L2.CX P w) 3 f1 fd1 ["text"] (spTwx CI)) (g1 : mg "two_parts" = some (.ref f1)) (k1 : PySem.W.keepIn K (.ref f1) = true) (b1 : Binds K fd1 ["text"] []) (gMM : ∃ t, mg "MOST_MODULUS" = some (.int 60 t)) (m_range : mg "range" = none) (m_str : mg "str" = none) :
    FnOk P w K mg base (L2.CX P w) 4 f fd ["text"] (spLox CI) := by
  refine F.okX scLox (fun vs H Q E h => ?_) (fun cdv A outer s H vs Q E hr h => ?_)
  · obtain ⟨xs, rfl, _⟩ := h
    rfl
  · obtain ⟨xs, rfl, hl, qe, q⟩ := h
    have hu := hu_of hr
    obtain ⟨tMM, eMM⟩ := gMM
    refine ⟨_, (pss_cons (ps_setDc (i := 1) (own := [("number", 4)]) (g := gName 4) (tt := tYes) (tv := tVar 4) rfl scLox.nd rfl rfl (sw_trueD rfl rfl rfl (by decide +kernel)) (pi_range1 rfl m_range (pa_cons (pe_op op_add (pe_glob (v := .int 60) (by rfl) eMM ⟨_, rfl⟩) pe_int) pa_nil)) (blkOk_by (N := loxN) (sc := defScope sLox) (by decide +kernel)) (fun _ _ _ _ _ => pg_name (i := 4) scLox.nd rfl (Or.inl rfl)) (fun _ _ _ _ _ => pts_nil) (fun _ _ _ _ _ => pe_callTy call_str_int (by rfl) m_str (by decide +kernel) (pa_cons (pv 4) pa_nil)) (fun _ _ _ _ _ => pv 4))
      (pss_cons (ps_asg (pe_call G1 (hr.mono (by decide)) (by rfl) g1 k1 b1 .nil (passes_call (takes_of rfl rfl rfl rfl) (fun _ _ _ _ h => h)) (pa_cons (pv 0) pa_nil)) (pg_lst rfl (pgs_cons (pg_name (i := 2) scLox.nd rfl (by first | exact .inl rfl | exact .inr rfl)) (pgs_cons (pg_name (i := 3) scLox.nd rfl (by first | exact .inl rfl | exact .inr rfl)) pgs_nil))))
      (pss_cons (ps_if (PW.pt (pw_or (pt_cmp (pc_dnotin hu (pv 2) (pv 1))) (pw_or (pt_cmp (pc_dnotin hu (pv 3) (pv 1))) (pw_or1 (pt_cmpR op_ge (pe_dget hu (pv 1) (pv 2) (fun _ _ => rfl)) (pe_dget hu (pv 1) (pv 3) (fun _ _ => rfl)) (nomark _)))))) (pss_one ((ps_raise rfl (takes_of rfl rfl rfl rfl) (eT.use rfl rfl rfl rfl rfl (hr.mono (by decide)) (by rfl))))) pss_nil)
      (pss_one (ps_ret (pe_tup (pa_cons pe_str (pa_cons (pe_dget hu (pv 1) (pv 2) (fun _ _ => rfl)) (pa_cons (pe_dget hu (pv 1) (pv 3) (fun _ _ => rfl)) pa_nil))))))))), ?_⟩
    refine ⟨_, _, rfl, rfl, 61, rfl, by decide, by decide, fun D nD => ?_⟩
    refine dc_it (walk_range (lo := 0) (n := (61 : Int).toNat)) (fun i H' => Same H H' ∧ H' D = some (.dK (nmK i))) ⟨same_new nD, upd_same⟩ (fun _ _ _ _ => trivial) ?_ ?_
    · rintro i x H1 H2 hi ⟨s1, hD⟩ ⟨rfl, rfl⟩
      have hi' : i < 61 := hi
      have en : (0 : Int) + (i : Int) = ((i : Nat) : Int) := by omega
      have hl0 : (nmK i).length = i := by rw [List.length_map, List.length_range]
      have hlog : ∀ i : Nat, i < 61 → ((i : Nat) : Int).natAbs.log2 < 1920 := fun i hi => by
        have : i.log2 < 6 := by
          by_cases z : i = 0
          · subst z; decide
          · exact (Nat.log2_lt z).mpr (by omega)
        show i.log2 < 1920
        omega
      refine ⟨rfl, ⟨_, rfl, (0 : Int) + (i : Int), rfl, by rw [en]; exact hlog i hi', ?_⟩⟩
      have et : (V.str (Str.ofString (toString ((0 : Int) + (i : Int))))) = kV (Sum.inr (S (Cnd.dec i))) := by
        rw [en]
        exact congrArg V.str (dec_to i (by omega))
      refine ⟨_, rfl, nmK i, Sum.inr (S (Cnd.dec i)), et, hD, small1000 (by omega), same_put s1 nD, ?_⟩
      rw [upd_same, putK_new _ (nm_new i (by omega))]
      show some (HO.dK (nmK i ++ [(Sum.inr (S (Cnd.dec i)), V.int ((0 : Int) + (i : Int)))])) = some (HO.dK (nmK (i + 1)))
      rw [en]
      show some (HO.dK (nmK i ++ [_])) = some (HO.dK (nmK (i + 1)))
      congr 2
      show _ = (List.range (i + 1)).map _
      rw [List.range_succ, List.map_append]
      rfl
    rintro H1 ⟨s1, hD⟩
    try dsimp only [gName, tSeq, tAsg, List.set_cons_zero, List.set_cons_succ]
    refine ⟨_, rfl, xs, rfl, hl, qe.later s1, fun a b e ha hb H2 p s2 np hp => ?_⟩
    refine ⟨p, _, rfl, sqL hp, rfl, _, _, rfl, _, _, rfl, rfl, ?_⟩
    have hD2 := s2 _ _ hD
    have s12 := s1.trans s2
    have dg : ∀ x : List Nat, DGet H2 D (tx x) (valV (nmK 61) (Sum.inr (S x))) := fun x => DGet.k (k := Sum.inr (S x)) hD2
    have bad : ∀ σ : L2.St, tMkO CI (spI0 K CI (Str.ofString "InvalidText")) [] tNil σ H2 fun cls d H' => E cls d H' := fun σ => raise0 fun H3 d3 s3 hd3 => qe _ _ (s12.trans s3) hd3
    try dsimp only [gName, tSeq, tAsg, List.set_cons_zero, List.set_cons_succ]
    cases ea : valV (nmK 61) (Sum.inr (S a)) with
    | none => exact ⟨_, rfl, _, rfl, D, _, rfl, (by have := dg a; rw [ea] at this; exact this), _, rfl, ifT rfl (ifT rfl (bad _))⟩
    | some va =>
      have ga : DGet H2 D (tx a) (some va) := by have := dg a; rw [ea] at this; exact this
      refine ⟨_, rfl, _, rfl, D, _, rfl, ga, _, rfl, iteF ?_⟩
      cases eb : valV (nmK 61) (Sum.inr (S b)) with
      | none => exact ⟨_, rfl, _, rfl, D, _, rfl, (by have := dg b; rw [eb] at this; exact this), _, rfl, ifT rfl (ifT rfl (bad _))⟩
      | some vb =>
        have gb : DGet H2 D (tx b) (some vb) := by have := dg b; rw [eb] at this; exact this
        obtain ⟨r, hr, e1, rfl⟩ := nm_key ea
        obtain ⟨m, hm, e2, rfl⟩ := nm_key eb
        refine ⟨_, rfl, _, rfl, D, _, rfl, gb, _, rfl, iteF ?_⟩
        refine ⟨_, rfl, _, rfl, D, _, rfl, ga, _, rfl, _, rfl, D, _, rfl, gb, _, _, rfl, rfl, _, rfl, ?_⟩
        by_cases hrm : r < m
        · rw [decide_eq_false (show ¬ ((m : Nat) : Int) ≤ ((r : Nat) : Int) by omega)]
          refine iteF ?_
          try dsimp only [tNext, gName, tSeq, tAsg, List.set_cons_zero, List.set_cons_succ]
          refine ⟨_, rfl, _, rfl, D, _, rfl, ga, _, rfl, _, rfl, D, _, rfl, gb, (by show 3 ≤ sizeLine; decide), fun T nT => ?_⟩
          exact q r m (by rw [e, e1, e2]) hrm hm _ T (s12.trans (same_new nT)) (none_of s12 nT) upd_same
        · rw [decide_eq_true (show ((m : Nat) : Int) ≤ ((r : Nat) : Int) by omega)]
          exact iteT (bad _)
end
end Own

namespace Own
open PySem PySem.Spec PyProof.Rows L2 SX RZ
section
variable {P : Program} {w : World} {K : PySem.W.Frag} {mg : Str → Option Value} {base : Heap}
/-! ### what a text says, as it is read -/
def Ar (gs : List Nat) : Cnd.Cd → List Nat → Prop
  | .named n, u => u = Cnd.namT ++ n ∧ 0 < n.length ∧ n.length ≤ 8 ∧ ∀ c ∈ n, 97 ≤ c ∧ c ≤ 122
  | .mat p, u => u = Cnd.matT ++ (40 :: (p ++ [41])) ∧ ∃ b, Cnd.scan gs 40 0 p = some (b, 0)
  | .len r m, u => u = Cnd.lenT ++ (40 :: ((Cnd.dec r ++ 44 :: Cnd.dec m) ++ [41])) ∧ r < m ∧ m ≤ 60
  | .tpl k a b x y, u => ∃ (i j : List (List Nat)) (s t : List Nat), u = Cnd.kwT k ++ (40 :: ((s ++ 44 :: t) ++ [41])) ∧ k ≤ 3 ∧ Rd gs i s ∧ Rd gs j t ∧ Row gs i ∧ Row gs j ∧ i.length ≤ 900 ∧ j.length ≤ 900 ∧ a = rTx gs i ∧ x = rTx gs i ∧ b = rTx gs j ∧ y = rTx gs j
  | .no c, u => ∃ u1, u = Cnd.notT ++ u1 ∧ Ar gs c u1
  | .two w a b, u => ∃ u1 u2, u = 40 :: (u1 ++ (32 :: (Cnd.wdT w ++ (32 :: (u2 ++ [41]))))) ∧ Ar gs a u1 ∧ Ar gs b u2
theorem cut40 : ∀ r : List Nat, 40 ∉ r ∨ ∃ body post, r = body ++ 40 :: post ∧ 40 ∉ body
  | [] => .inl (fun h => nomatch h)
  | c :: r => by
    by_cases hc : c = 40
    · exact .inr ⟨[], r, by rw [hc]; rfl, fun h => nomatch h⟩
    · rcases cut40 r with h | ⟨body, post, e, h⟩
      · exact .inl (fun m => (List.mem_cons.mp m).elim (fun e => hc e.symm) h)
      · exact .inr ⟨c :: body, post, by rw [e]; rfl, fun m => (List.mem_cons.mp m).elim (fun e => hc e.symm) h⟩
theorem clo_split : ∀ {p : List Nat} {d i j : Nat}, 0 < d → Cnd.clo d p i = some j → ∃ q z, p = q ++ 41 :: z ∧ j = i + q.length
  | [], d, i, j, _, h => nomatch h
  | s :: p, d, i, j, hd, h => by
    have h : (if Cnd.dep d s = 0 then some i else Cnd.clo (Cnd.dep d s) p (i + 1)) = some j := h
    by_cases e : Cnd.dep d s = 0
    · rw [if_pos e] at h
      cases h
      have es : s = 41 := by
        unfold Cnd.dep at e
        by_cases h1 : s = 40
        · rw [if_pos h1] at e; omega
        · rw [if_neg h1] at e
          by_cases h2 : s = 41
          · exact h2
          · rw [if_neg h2] at e; omega
      exact ⟨[], p, by rw [es]; rfl, rfl⟩
    · rw [if_neg e] at h
      obtain ⟨q, z, h1, h2⟩ := clo_split (Nat.pos_of_ne_zero e) h
      exact ⟨s :: q, z, by rw [h1]; rfl, by rw [h2, List.length_cons]; omega⟩
end
end Own

namespace Own
open PySem PySem.Spec PyProof.Rows L2 SX RZ
section
variable {P : Program} {w : World} {K : PySem.W.Frag} {mg : Str → Option Value} {base : Heap}
def spTpx (CI : Addr) : Sp := fun vs H Q E => ∃ (gs xs : List Nat) (kd : Str), vs = [tx gs, .str kd, tx xs] ∧ Good gs ∧ xs.length ≤ 900 ∧ (∀ c ∈ xs, c < 128) ∧ TxE CI E H ∧
  ∀ a b i j, xs = a ++ 44 :: b → Rd gs i a → Rd gs j b → Row gs i → Row gs j → i.length ≤ 900 → j.length ≤ 900 → ∀ H' t, Same H H' → H t = none → H' t = some (.tup [.str kd, tx (rTx gs i), tx (rTx gs j)]) → Q (.ref t) H'
abbrev sTpx : Stmt := topS 41
abbrev tpxN : List Str := ["letters", "kind", "text", "one", "other"]
theorem scTpx : FnScope tpxN ["letters", "kind", "text"] (defScope sTpx) := ⟨rfl, rfl, rfl, by decide +kernel, rfl, by decide +kernel, by decide +kernel⟩
theorem ok_tpx {f : Addr} {fd : FuncData} (F : Fun K "templates_of" "templates_of" sTpx f fd) {CI : Addr} {f1 : Addr} {fd1 : FuncData} (G1 : FnOk P w K mg base (L2.CX P w) 3 f1 fd1 ["text"] (spTwx CI)) (g1 : mg "two_parts" = some (.ref f1)) (k1 : PySem.W.keepIn K (.ref f1) = true) (b1 : Binds K fd1 ["text"] []) {f2 : Addr} {fd2 : FuncData} (G2 : FnOk P w K mg base (L2.CX P w) 6 f2 fd2 ["letters", "text"] (spTtn CI)) (g2 : mg "template_text" = some (.ref f2)) (k2 : PySem.W.keepIn K (.ref f2) = true) (b2 : Binds K fd2 ["letters", "text"] []) :
    FnOk P w K mg base (L2.CX P w) 7 f fd ["letters", "kind", "text"] (spTpx CI) := by
  refine F.okX scTpx (fun vs H Q E h => ?_) (fun cdv A outer s H vs Q E hr h => ?_)
  · obtain ⟨gs, xs, kd, rfl, _⟩ := h
    rfl
  · obtain ⟨gs, xs, kd, rfl, hg, hl, haz, qe, q⟩ := h
    refine ⟨_, (pss_cons (ps_asg (pe_call G1 (hr.mono (by decide)) (by rfl) g1 k1 b1 .nil (passes_call (takes_of rfl rfl rfl rfl) (fun _ _ _ _ h => h)) (pa_cons (pv 2) pa_nil)) (pg_lst rfl (pgs_cons (pg_name (i := 3) scTpx.nd rfl (by first | exact .inl rfl | exact .inr rfl)) (pgs_cons (pg_name (i := 4) scTpx.nd rfl (by first | exact .inl rfl | exact .inr rfl)) pgs_nil))))
      (pss_one (ps_ret (pe_tup (pa_cons (pv 1) (pa_cons (pe_call G2 (hr.mono (by decide)) (by rfl) g2 k2 b2 .nil (passes_call (takes_of rfl rfl rfl rfl) (fun _ _ _ _ h => h)) (pa_cons (pv 0) (pa_cons (pv 3) pa_nil))) (pa_cons (pe_call G2 (hr.mono (by decide)) (by rfl) g2 k2 b2 .nil (passes_call (takes_of rfl rfl rfl rfl) (fun _ _ _ _ h => h)) (pa_cons (pv 0) (pa_cons (pv 4) pa_nil))) pa_nil))))))), ?_⟩
    refine ⟨_, rfl, xs, rfl, by omega, qe, fun a b e ha hb H1 p s1 np hp => ?_⟩
    refine ⟨p, _, rfl, sqL hp, rfl, _, _, rfl, _, _, rfl, rfl, ?_⟩
    have la : a.length + (b.length + 1) = xs.length := by rw [e, List.length_append, List.length_cons]
    try dsimp only [gName, tSeq, tAsg, List.set_cons_zero, List.set_cons_succ]
    refine ⟨_, rfl, _, rfl, _, rfl, gs, a, rfl, hg, by omega, (fun c hc => haz c (by rw [e]; exact List.mem_append_left _ hc)), qe.later s1, fun i ri hi li H2 s2 => ?_⟩
    refine ⟨_, rfl, _, rfl, gs, b, rfl, hg, by omega, (fun c hc => haz c (by rw [e]; exact List.mem_append_right _ (List.mem_cons_of_mem _ hc))), qe.later (s1.trans s2), fun j rj hj lj H3 s3 => ⟨(by show 3 ≤ sizeLine; decide), fun T nT => ?_⟩⟩
    have s13 := s1.trans (s2.trans s3)
    exact q a b i j e ri rj hi hj li lj _ T (s13.trans (same_new nT)) (none_of s13 nT) upd_same
end
end Own

namespace Own
open PySem PySem.Spec PyProof.Rows L2 SX RZ
section
variable {P : Program} {w : World} {K : PySem.W.Frag} {mg : Str → Option Value} {base : Heap}
def spRsx (CI : Addr) : Sp := fun vs H Q E => ∃ (gs xs : List Nat) (n : Nat), vs = [tx gs, tx xs, iv n] ∧ Good gs ∧ n ≤ xs.length ∧ xs.length ≤ 900 ∧ (∀ c ∈ xs, c < 128) ∧ TxE CI E H ∧
  ∀ c u z, xs.drop n = u ++ z → Ar gs c u → Cnd.leaf c = true → ∀ H' p v, Same H H' → H p = none → H' p = some (.tup [v, iv (n + u.length)]) → CdH H' c v → Q (.ref p) H'
abbrev sRsx : Stmt := topS 42
abbrev rsxN : List Str := ["letters", "text", "at", "name", "end", "kind", "start", "inner"]
theorem scRsx : FnScope rsxN ["letters", "text", "at"] (defScope sRsx) := ⟨rfl, rfl, rfl, by decide +kernel, rfl, by decide +kernel, by decide +kernel⟩
theorem ok_rsx {f : Addr} {fd : FuncData} (F : Fun K "read_simple" "read_simple" sRsx f fd) (m_len : mg "len" = none) {CI : Addr} (eT : ErM0 P w K mg base "InvalidText" CI) {f1 : Addr} {fd1 : FuncData} (G1 : FnOk P w K mg base (L2.CX P w) 3 f1 fd1 ["text", "at"] (spRnx CI)) (g1 : mg "read_name" = some (.ref f1)) (k1 : PySem.W.keepIn K (.ref f1) = true) (b1 : Binds K fd1 ["text", "at"] []) {f2 : Addr} {fd2 : FuncData} (G2 : FnOk P w K mg base (L2.CX P w) 3 f2 fd2 ["text", "at"] (spClx CI)) (g2 : mg "closing_place" = some (.ref f2)) (k2 : PySem.W.keepIn K (.ref f2) = true) (b2 : Binds K fd2 ["text", "at"] []) {f3 : Addr} {fd3 : FuncData} (G3 : FnOk P w K mg base (L2.CX P w) 5 f3 fd3 ["letters", "text"] (spMox CI)) (g3 : mg "match_of" = some (.ref f3)) (k3 : PySem.W.keepIn K (.ref f3) = true) (b3 : Binds K fd3 ["letters", "text"] []) {f4 : Addr} {fd4 : FuncData} (G4 : FnOk P w K mg base (L2.CX P w) 4 f4 fd4 ["text"] (spLox CI)) (g4 : mg "length_of" = some (.ref f4)) (k4 : PySem.W.keepIn K (.ref f4) = true) (b4 : Binds K fd4 ["text"] []) {f5 : Addr} {fd5 : FuncData} (G5 : FnOk P w K mg base (L2.CX P w) 7 f5 fd5 ["letters", "kind", "text"] (spTpx CI)) (g5 : mg "templates_of" = some (.ref f5)) (k5 : PySem.W.keepIn K (.ref f5) = true) (b5 : Binds K fd5 ["letters", "kind", "text"] []) {HW : Addr} (gH : mg "HOLDING_WORDS" = some (.ref HW)) (DW : ∃ es n, KDict K w HW es n) (kW : ∀ x : Str, (∃ k u, k ≤ 3 ∧ x = kwS k ∧ PySem.W.nsIn K HW x = some (some u)) ∨ PySem.W.nsIn K HW x = some none) :
    FnOk P w K mg base (L2.CX P w) 8 f fd ["letters", "text", "at"] (spRsx CI) := by
  refine F.okX scRsx (fun vs H Q E h => ?_) (fun cdv A outer s H vs Q E hr h => ?_)
  · obtain ⟨gs, xs, n, rfl, _⟩ := h
    rfl
  · obtain ⟨gs, xs, n, rfl, hg, hn, hl, haz, qe, q⟩ := h
    obtain ⟨_, _, DW⟩ := DW
    refine ⟨_, (pss_cons (ps_if (pt_val (pe_bm PySem.F.plainAttrs_str PySem.F.slot_str_startswith PySem.F.type_str_startswith mt_startswith3 (pv 1) (pa_cons pe_str (pa_cons (pv 2) pa_nil)))) (pss_cons (ps_asg (pe_call G1 (hr.mono (by decide)) (by rfl) g1 k1 b1 .nil (passes_call (takes_of rfl rfl rfl rfl) (fun _ _ _ _ h => h)) (pa_cons (pv 1) (pa_cons (pe_op op_add (pv 2) (pe_callB call_len_str (by rfl) m_len PySem.boot_len (pa_cons pe_str pa_nil))) pa_nil))) (pg_tup rfl (pgs_cons (pg_name (i := 3) scRsx.nd rfl (by first | exact .inl rfl | exact .inr rfl)) (pgs_cons (pg_name (i := 4) scRsx.nd rfl (by first | exact .inl rfl | exact .inr rfl)) pgs_nil))))
      (pss_one (ps_ret (pe_tup (pa_cons (pe_tup (pa_cons pe_str (pa_cons (pv 3) pa_nil))) (pa_cons (pv 4) pa_nil)))))) pss_nil)
      (pss_cons (ps_set (i := 5) scRsx.nd rfl (by first | exact .inl rfl | exact .inr rfl) (pe_ix (ixT (K := K) rfl) (pe_partition (pe_slice sl_str (pv 1) (po_some (pv 2)) po_none) pe_str) pe_int (fun _ _ => rfl)))
      (pss_cons (ps_set (i := 6) scRsx.nd rfl (by first | exact .inl rfl | exact .inr rfl) (pe_op op_add (pe_op op_add (pv 2) (pe_callB call_len_str (by rfl) m_len PySem.boot_len (pa_cons (pv 5) pa_nil))) pe_int))
      (pss_cons (ps_set (i := 4) scRsx.nd rfl (by first | exact .inl rfl | exact .inr rfl) (pe_call G2 (hr.mono (by decide)) (by rfl) g2 k2 b2 .nil (passes_call (takes_of rfl rfl rfl rfl) (fun _ _ _ _ h => h)) (pa_cons (pv 1) (pa_cons (pv 6) pa_nil))))
      (pss_cons (ps_set (i := 7) scRsx.nd rfl (by first | exact .inl rfl | exact .inr rfl) (pe_slice sl_str (pv 1) (po_some (pv 6)) (po_some (pv 4))))
      (pss_cons (ps_if (pt_cmpR op_eq (pv 5) pe_str (nomark _)) (pss_one (ps_ret (pe_tup (pa_cons (pe_call G3 (hr.mono (by decide)) (by rfl) g3 k3 b3 .nil (passes_call (takes_of rfl rfl rfl rfl) (fun _ _ _ _ h => h)) (pa_cons (pv 0) (pa_cons (pv 7) pa_nil))) (pa_cons (pe_op op_add (pv 4) pe_int) pa_nil))))) pss_nil)
      (pss_cons (ps_if (pt_cmpR op_eq (pv 5) pe_str (nomark _)) (pss_one (ps_ret (pe_tup (pa_cons (pe_call G4 (hr.mono (by decide)) (by rfl) g4 k4 b4 .nil (passes_call (takes_of rfl rfl rfl rfl) (fun _ _ _ _ h => h)) (pa_cons (pv 7) pa_nil)) (pa_cons (pe_op op_add (pv 4) pe_int) pa_nil))))) pss_nil)
      (pss_cons (ps_if (pt_cmpR (op_notIn_kd DW) (pv 5) (pe_glob (v := .ref HW) (by rfl) gH rfl) (by rfl)) (pss_one ((ps_raise rfl (takes_of rfl rfl rfl rfl) (eT.use rfl rfl rfl rfl rfl (hr.mono (by decide)) (by rfl))))) pss_nil)
      (pss_one (ps_ret (pe_tup (pa_cons (pe_call G5 (hr.mono (by decide)) (by rfl) g5 k5 b5 .nil (passes_call (takes_of rfl rfl rfl rfl) (fun _ _ _ _ h => h)) (pa_cons (pv 0) (pa_cons (pv 5) (pa_cons (pv 7) pa_nil)))) (pa_cons (pe_op op_add (pv 4) pe_int) pa_nil))))))))))))), ?_⟩
    have hz' : (S xs).length ≤ sizeLine := by rw [S_len, sizeLine_eq]; omega
    refine ⟨_, rfl, rfl, _, rfl, S xs, S Cnd.namT, ((n : Nat) : Int), rfl, rfl, _, rfl, ?_⟩
    rw [sw3 hn]
    by_cases hnm : Cnd.namT <+: xs.drop n
    · rw [decide_eq_true hnm]
      obtain ⟨rs, hrs⟩ := hnm
      refine iteT ?_
      have hlen : xs.length = n + (6 + rs.length) := by
        have := congrArg List.length hrs
        rw [List.length_append, List.length_drop] at this
        have h6 : Cnd.namT.length = 6 := rfl
        omega
      have hd6 : xs.drop (n + 6) = rs := by
        rw [← List.drop_drop, ← hrs]
        rfl
      refine ⟨_, rfl, _, rfl, _, rfl, (by show 6 ≤ sizeLine; decide), _, _, rfl, rfl, xs, n + 6, ?_, by omega, by omega, qe, fun m z hmz h0 h8 hm H1 p s1 np hp => ?_⟩
      · show [tx xs, V.int (((n : Nat) : Int) + ((6 : Nat) : Int))] = [tx xs, iv (n + 6)]
        rw [show ((n : Nat) : Int) + ((6 : Nat) : Int) = ((n + 6 : Nat) : Int) by omega]
      refine ⟨p, _, rfl, sqT hp, rfl, _, _, rfl, _, _, rfl, rfl, ?_⟩
      try dsimp only [gName, tSeq, tAsg, List.set_cons_zero, List.set_cons_succ]
      refine ⟨_, rfl, (by show 2 ≤ sizeLine; decide), fun T nT => ⟨_, rfl, (by show 2 ≤ sizeLine; decide), fun U nU => ?_⟩⟩
      have sT := same_new (o := .tup [V.str (Str.ofString "named"), tx m]) nT
      have sU := same_new (o := .tup [V.ref T, iv (n + 6 + m.length)]) nU
      have sTU := s1.trans (sT.trans sU)
      have e6 : (Cnd.namT ++ m).length = 6 + m.length := by rw [List.length_append]; rfl
      refine q (.named m) (Cnd.namT ++ m) z (by rw [← hrs, ← hd6, hmz, List.append_assoc]) ⟨rfl, h0, h8, hm⟩ rfl _ U (V.ref T) sTU (none_of (s1.trans sT) nU) ?_ ⟨T, rfl, sU _ _ upd_same⟩
      rw [upd_same, e6, Nat.add_assoc]
    rw [decide_eq_false hnm]
    refine iteF ?_
    try dsimp only [tNext, gName, tSeq, tAsg, List.set_cons_zero, List.set_cons_succ]
    refine ⟨_, rfl, _, rfl, _, rfl, S xs, rfl, hz', ⟨_, rfl⟩, S (xs.drop n), S [40], ?_, rfl, rfl, by rw [S_len, sizeLine_eq, List.length_drop]; omega, fun P1 nP1 => ?_⟩
    · rw [cutN_from hn]
    obtain ⟨kd, hkd, hsplit⟩ : ∃ kd, (Txt.partition (S (xs.drop n)) (S [40])).1 = S kd ∧ ((kd = xs.drop n ∧ 40 ∉ xs.drop n) ∨ ∃ post, xs.drop n = kd ++ 40 :: post ∧ 40 ∉ kd) := by
      rcases cut40 (xs.drop n) with h | ⟨b, po, e, hb⟩
      · exact ⟨xs.drop n, by rw [TL.partition_none (s := 40) (S := []) rfl h], .inl ⟨rfl, h⟩⟩
      · exact ⟨b, by rw [e, part_at hb], .inr ⟨po, e, hb⟩⟩
    rw [hkd]
    have hkl : n + kd.length ≤ xs.length := by
      rcases hsplit with ⟨e, _⟩ | ⟨po, e, _⟩
      · rw [e, List.length_drop]; omega
      · have := congrArg List.length e
        rw [List.length_drop, List.length_append, List.length_cons] at this
        omega
    have sP1 := same_new (o := .tup [V.str (S kd), V.str (Txt.partition (S (xs.drop n)) (S [40])).2.1, V.str (Txt.partition (S (xs.drop n)) (S [40])).2.2]) nP1
    refine ⟨P1, _, 0, _, rfl, rfl, sqT upd_same, atI_nat (j := 0) rfl, ?_⟩
    generalize upd H P1 _ = H1 at sP1 ⊢
    try dsimp only [gName, tSeq, tAsg, List.set_cons_zero, List.set_cons_succ]
    obtain ⟨st, est⟩ : ∃ st, st = n + kd.length + 1 := ⟨_, rfl⟩
    have lkd : (S kd).length ≤ sizeLine := by rw [S_len, sizeLine_eq]; omega
    have eint : V.int (((n : Nat) : Int) + (((S kd).length : Nat) : Int) + 1) = iv st := by
      rw [S_len, est]
      show V.int _ = V.int _
      congr 1 <;> omega
    refine ⟨_, rfl, _, rfl, S kd, rfl, lkd, _, _, rfl, rfl, _, _, rfl, rfl, ?_⟩
    dsimp only
    rw [eint]
    refine ⟨_, rfl, _, rfl, xs, st, rfl, by omega, by omega, qe.later sP1, fun j hj H2 s2 => ?_⟩
    rcases hsplit with ⟨e, _⟩ | ⟨post, hpost, hk40⟩
    · rw [List.drop_eq_nil_of_le (by rw [est, e, List.length_drop]; omega)] at hj
      cases hj
    have hds : xs.drop st = post := by
      rw [est, Nat.add_assoc, ← List.drop_drop, hpost, ← List.drop_drop, List.drop_left]
      rfl
    rw [hds] at hj
    obtain ⟨inn, z, hin, hjj⟩ := clo_split Nat.one_pos hj
    subst hjj
    have hxl : xs.length = n + (kd.length + (inn.length + (z.length + 1) + 1)) := by
      have h1 := congrArg List.length hpost
      rw [List.length_drop, List.length_append, List.length_cons, hin, List.length_append, List.length_cons] at h1
      omega
    refine ⟨_, rfl, _, rfl, _, rfl, _, rfl, _, rfl, S xs, rfl, hz', ?_⟩
    have ein : cutS (S xs) (some ((st : Nat) : Int)) (some ((st + inn.length : Nat) : Int)) = S inn := by
      rw [cutN_mid (by omega) (by omega), hds, hin, show st + inn.length - st = inn.length by omega, List.take_left]
    rw [ein]
    have s12 := sP1.trans s2
    try dsimp only [gName, tSeq, tAsg, List.set_cons_zero, List.set_cons_succ]
    have hu : xs.drop n = (kd ++ (40 :: (inn ++ [41]))) ++ z := by
      rw [hpost, hin, List.append_assoc]
      show kd ++ 40 :: (inn ++ 41 :: z) = kd ++ (40 :: ((inn ++ [41]) ++ z))
      rw [List.append_assoc]
      rfl
    have hul : (kd ++ (40 :: (inn ++ [41]))).length = kd.length + (1 + (inn.length + 1)) := by
      rw [List.length_append, List.length_cons, List.length_append]
      show _ + (_ + 1 + 1) = _
      omega
    have hinz : ∀ c ∈ inn, c < 128 := fun c hc => haz c (List.mem_of_mem_drop (i := n) (by rw [hu]; exact List.mem_append_left _ (List.mem_append_right _ (List.mem_cons_of_mem _ (List.mem_append_left _ hc)))))
    have eend : ∀ (v : V) (p : Addr) (H3 : Hp), H3 p = some (.tup [v, V.int (((st + inn.length : Nat) : Int) + 1)]) → H3 p = some (.tup [v, iv (n + (kd ++ (40 :: (inn ++ [41]))).length)]) := fun v p H3 h => by
      rw [h, hul]
      congr 3
      show [V.int _] = [V.int _]
      congr 2 <;> omega
    -- what is behind each of the three words
    have fin : ∀ (c : Cnd.Cd) (H3 : Hp) (a : Addr), Same H2 H3 → H2 a = none → Ar gs c (kd ++ (40 :: (inn ++ [41]))) → Cnd.leaf c = true → CdH H3 c (V.ref a) → ∀ U, H3 U = none → Q (.ref U) (upd H3 U (.tup [V.ref a, V.int (((st + inn.length : Nat) : Int) + 1)])) := fun c H3 a s3 na har hlf hc U nU => by
      have sU := same_new (o := .tup [V.ref a, V.int (((st + inn.length : Nat) : Int) + 1)]) nU
      exact q c _ z hu har hlf _ U (V.ref a) (s12.trans (s3.trans sU)) (none_of (s12.trans s3) nU) (eend _ _ _ upd_same) (hc.same sU)
    refine ⟨_, rfl, rfl, _, rfl, ?_⟩
    rw [show V.str (Str.ofString "match") = V.str (S Cnd.matT) from rfl]
    show (if decide (V.str (S kd) = V.str (S Cnd.matT)) = true then _ else _)
    rw [dec_str]
    by_cases k1 : kd = Cnd.matT
    · rw [decide_eq_true k1]
      refine iteT ?_
      refine ⟨_, rfl, _, rfl, gs, inn, rfl, by omega, qe.later s12, fun b hb H3 a s3 na ha => ⟨_, rfl, _, _, rfl, rfl, (by show 2 ≤ sizeLine; decide), fun U nU => ?_⟩⟩
      exact fin (.mat inn) H3 a s3 na ⟨by rw [k1], b, hb⟩ rfl ⟨a, rfl, ha⟩ U nU
    rw [decide_eq_false k1]
    refine iteF ?_
    try dsimp only [tNext, gName, tSeq, tAsg, List.set_cons_zero, List.set_cons_succ]
    refine ⟨_, rfl, rfl, _, rfl, ?_⟩
    rw [show V.str (Str.ofString "length") = V.str (S Cnd.lenT) from rfl]
    show (if decide (V.str (S kd) = V.str (S Cnd.lenT)) = true then _ else _)
    rw [dec_str]
    by_cases k2 : kd = Cnd.lenT
    · rw [decide_eq_true k2]
      refine iteT ?_
      refine ⟨_, rfl, inn, rfl, by omega, qe.later s12, fun r m hrm h1 h2 H3 a s3 na ha => ⟨_, rfl, _, _, rfl, rfl, (by show 2 ≤ sizeLine; decide), fun U nU => ?_⟩⟩
      exact fin (.len r m) H3 a s3 na ⟨by rw [k2, hrm], h1, h2⟩ rfl ⟨a, rfl, ha⟩ U nU
    rw [decide_eq_false k2]
    refine iteF ?_
    try dsimp only [tNext, gName, tSeq, tAsg, List.set_cons_zero, List.set_cons_succ]
    rcases kW (S kd) with ⟨k, w1, hk3, hkk, hw⟩ | hno
    · refine ⟨_, rfl, S kd, some w1, rfl, rfl, hw, _, rfl, iteF ?_⟩
      try dsimp only [tNext, gName, tSeq, tAsg, List.set_cons_zero, List.set_cons_succ]
      refine ⟨_, rfl, _, rfl, _, rfl, gs, inn, S kd, rfl, hg, by omega, hinz, qe.later s12, fun a b i j hab ri rj hi hj li lj H3 t s3 nt ht => ⟨_, rfl, _, _, rfl, rfl, (by show 2 ≤ sizeLine; decide), fun U nU => ?_⟩⟩
      have ek : kd = Cnd.kwT k := by
        have := hkk
        rw [kwS_T] at this
        exact S_inj this
      exact fin (.tpl k (rTx gs i) (rTx gs j) (rTx gs i) (rTx gs j)) H3 t s3 nt ⟨i, j, a, b, by rw [ek, hab], hk3, ri, rj, hi, hj, li, lj, rfl, rfl, rfl, rfl⟩ rfl ⟨t, rfl, by rw [ht, hkk]⟩ U nU
    · exact ⟨_, rfl, S kd, none, rfl, rfl, hno, _, rfl, iteT (raise0 fun H3 d3 s3 hd3 => qe _ _ (s12.trans s3) hd3)⟩
end
end Own

namespace Own
open PySem PySem.Spec PyProof.Rows L2 SX RZ
section
variable {P : Program} {w : World} {K : PySem.W.Frag} {mg : Str → Option Value} {base : Heap}
def spLwx (CI : Addr) : Sp := fun vs H Q E => ∃ (xs : List Nat) (n : Nat), vs = [tx xs, iv n] ∧ n ≤ xs.length ∧ xs.length ≤ 100000 ∧ TxE CI E H ∧ ∀ b z, xs.drop n = 32 :: (Cnd.wdT b ++ (32 :: z)) → ∀ H', Same H H' → Q (.str (wdS b)) H'
abbrev sLwx : Stmt := topS 44
abbrev lwxN : List Str := ["text", "at", "word"]
theorem scLwx : FnScope lwxN ["text", "at"] (defScope sLwx) := ⟨rfl, rfl, rfl, by decide +kernel, rfl, by decide +kernel, by decide +kernel⟩
theorem ok_lwx {f : Addr} {fd : FuncData} (F : Fun K "linking_word" "linking_word" sLwx f fd) {CI : Addr} (eT : ErM0 P w K mg base "InvalidText" CI) :
    FnOk P w K mg base (L2.CX P w) 3 f fd ["text", "at"] (spLwx CI) := by
  refine F.okX scLwx (fun vs H Q E h => ?_) (fun cdv A outer s H vs Q E hr h => ?_)
  · obtain ⟨xs, n, rfl, _⟩ := h
    rfl
  · obtain ⟨xs, n, rfl, hn, hl, qe, q⟩ := h
    refine ⟨_, (pss_cons (ps_for (passes_of rfl) rfl (pi_tup (pe_tup (pa_cons pe_str (pa_cons pe_str pa_nil)))) (pg_name (i := 2) scLwx.nd rfl (by first | exact .inl rfl | exact .inr rfl))
        (pss_one (ps_if (pt_val (pe_bm PySem.F.plainAttrs_str PySem.F.slot_str_startswith PySem.F.type_str_startswith mt_startswith3 (pv 0) (pa_cons (pe_joined (.cons pe_str (.cons (pe_fmt (pv 2)) (.cons pe_str .nil)))) (pa_cons (pv 1) pa_nil)))) (pss_one (ps_ret (pv 2))) pss_nil)))
      (pss_one ((ps_raise rfl (takes_of rfl rfl rfl rfl) (eT.use rfl rfl rfl rfl rfl (hr.mono (by decide)) (by rfl)))))), ?_⟩
    have hz' : (S xs).length ≤ sizeLine := by rw [S_len, sizeLine_eq]; omega
    refine ⟨(by show 2 ≤ sizeLine; decide), fun T nT => ⟨T, rfl, ⟨_, sqT upd_same⟩, ?_⟩⟩
    have sT := same_new (o := .tup [V.str (Str.ofString "and"), V.str (Str.ofString "or")]) nT
    have hT : upd H T (.tup [V.str (Str.ofString "and"), V.str (Str.ofString "or")]) T = some (.tup [V.str (Str.ofString "and"), V.str (Str.ofString "or")]) := upd_same
    generalize upd H T (.tup [V.str (Str.ofString "and"), V.str (Str.ofString "or")]) = H1 at sT hT ⊢
    refine for_it (walk_tup (K := K) (a := T) (xs := [V.str (Str.ofString "and"), V.str (Str.ofString "or")])) (fun i σ H' => ∃ v2 : Option V, σ = [some (tx xs), some (iv n), v2] ∧ Same H H' ∧ Same H1 H')
      ⟨none, rfl, sT, Same.refl _⟩ (fun i σ H' _ h => by obtain ⟨_, _, _, s⟩ := h; exact sqT (s _ _ hT)) ?_ ?_
    · rintro i v σ H2 H3 hi ⟨v2, rfl, s2, s12⟩ ⟨rfl, hv⟩
      try dsimp only [gName, tSeq, tAsg, List.set_cons_zero, List.set_cons_succ]
      obtain ⟨wb, rfl⟩ : ∃ wb : Bool, v = V.str (wdS wb) := by
        match i, hi, hv with
        | 0, _, hv => cases hv; exact ⟨true, rfl⟩
        | 1, _, hv => cases hv; exact ⟨false, rfl⟩
      have ew : Str.empty ++ Str.ofString " " ++ wdS wb ++ Str.ofString " " = S (32 :: (Cnd.wdT wb ++ [32])) := by cases wb <;> rfl
      have lw : (wdS wb).length ≤ sizeLine := by cases wb <;> (show _ ≤ sizeLine; decide)
      have l1 : (Str.empty ++ Str.ofString " ").length ≤ sizeLine := by decide
      have l2 : (Str.empty ++ Str.ofString " " ++ wdS wb).length ≤ sizeLine := by cases wb <;> decide
      have l3 : (Str.empty ++ Str.ofString " " ++ wdS wb ++ Str.ofString " ").length ≤ sizeLine := by cases wb <;> decide
      refine ⟨_, rfl, rfl, _, rfl, l1, _, rfl, .inl ⟨_, rfl, lw, _, rfl, l2, _, rfl, l3, _, rfl, S xs, _, _, rfl, rfl, _, rfl, ?_⟩⟩
      rw [ew, sw3 hn]
      by_cases hp : (32 :: (Cnd.wdT wb ++ [32])) <+: xs.drop n
      · rw [decide_eq_true hp]
        obtain ⟨t, e⟩ := hp
        refine iteT ⟨_, rfl, q wb t (e.symm.trans (by show 32 :: ((Cnd.wdT wb ++ [32]) ++ t) = _; rw [List.append_assoc]; rfl)) _ s2⟩
      · rw [decide_eq_false hp]
        exact iteF ⟨_, rfl, s2, s12⟩
    · rintro σ H2 ⟨v2, rfl, s2, s12⟩
      exact raise0 (σ := []) fun H3 d2 s3 hd2 => qe _ _ (s2.trans s3) hd2
end
end Own

namespace Own
open PySem PySem.Spec PyProof.Rows L2 SX RZ
section
variable {P : Program} {w : World} {K : PySem.W.Frag} {mg : Str → Option Value} {base : Heap}
/-- what has begun, in a text that may be wrong -/
inductive Rf where
  | no
  | op
  | rg (w : Bool) (l : Cnd.Cd)
def RfV (H : Hp) : Rf → V → Prop
  | .no, v => v = .str (Str.ofString "not")
  | .op, v => v = .str (Str.ofString "(")
  | .rg w l, v => ∃ a x, v = .ref a ∧ H a = some (.tup [.str (wdS w), x]) ∧ CdH H l x
theorem RfV.keep {H H' : Hp} (k : ∀ a xs, H a = some (.tup xs) → H' a = some (.tup xs)) : ∀ {f : Rf} {v : V}, RfV H f v → RfV H' f v
  | .no, _, h => h
  | .op, _, h => h
  | .rg _ _, _, ⟨a, x, e, h, i⟩ => ⟨a, x, e, k _ _ h, i.keep k⟩
def RfsV (H : Hp) : List Rf → List V → Prop
  | [], [] => True
  | f :: fs, v :: vs => RfV H f v ∧ RfsV H fs vs
  | _, _ => False
theorem RfsV.keep {H H' : Hp} (k : ∀ a xs, H a = some (.tup xs) → H' a = some (.tup xs)) : ∀ {fs : List Rf} {vs : List V}, RfsV H fs vs → RfsV H' fs vs
  | [], [], h => h
  | _ :: _, _ :: _, ⟨h, i⟩ => ⟨h.keep k, i.keep k⟩
  | [], _ :: _, h => h.elim
  | _ :: _, [], h => h.elim
theorem RfsV.len {H : Hp} : ∀ {fs : List Rf} {vs : List V}, RfsV H fs vs → fs.length = vs.length
  | [], [], _ => rfl
  | _ :: _, _ :: _, ⟨_, i⟩ => congrArg (· + 1) i.len
  | [], _ :: _, h => h.elim
  | _ :: _, [], h => h.elim
def mkR (b : Bool) : Rf := if b then .no else .op
theorem rf_pre {H : Hp} : ∀ (ms : List Bool) {fs : List Rf} {vs : List V}, RfsV H fs vs → RfsV H ((ms.map mkR).reverse ++ fs) ((ms.map mkV).reverse ++ vs)
  | [], _, _, h => h
  | b :: ms, fs, vs, h => by
    rw [List.map_cons, List.map_cons, List.reverse_cons, List.reverse_cons, List.append_assoc, List.append_assoc]
    refine rf_pre ms (fs := mkR b :: fs) (vs := mkV b :: vs) ⟨?_, h⟩
    cases b <;> rfl
/-- the text of what has begun -/
def RT (gs : List Nat) : List Rf → List Nat → Prop
  | [], t => t = []
  | .no :: fs, t => ∃ t0, t = t0 ++ Cnd.notT ∧ RT gs fs t0
  | .op :: fs, t => ∃ t0, t = t0 ++ [40] ∧ RT gs fs t0
  | .rg w l :: fs, t => ∃ t0 u, t = t0 ++ (40 :: (u ++ (32 :: (Cnd.wdT w ++ [32])))) ∧ Ar gs l u ∧ RT gs fs t0
theorem rt_len {gs : List Nat} : ∀ {fs : List Rf} {t : List Nat}, RT gs fs t → fs.length ≤ t.length
  | [], _, _ => Nat.zero_le _
  | .no :: fs, _, ⟨t0, e, h⟩ => by
    have := rt_len h
    rw [e, List.length_append, List.length_cons]
    have : Cnd.notT.length = 4 := rfl
    omega
  | .op :: fs, _, ⟨t0, e, h⟩ => by
    have := rt_len h
    rw [e, List.length_append, List.length_cons, List.length_singleton]
    omega
  | .rg w l :: fs, _, ⟨t0, u, e, _, h⟩ => by
    have := rt_len h
    rw [e, List.length_append, List.length_cons, List.length_cons]
    omega
theorem rt_pre {gs : List Nat} : ∀ (ms : List Bool) {fs : List Rf} {t : List Nat}, RT gs fs t → RT gs ((ms.map mkR).reverse ++ fs) (t ++ Cnd.preT ms)
  | [], _, t, h => by
    show RT gs _ (t ++ [])
    rw [List.append_nil]
    exact h
  | b :: ms, fs, t, h => by
    rw [List.map_cons, List.reverse_cons, List.append_assoc]
    show RT gs _ (t ++ (Cnd.mkT b ++ Cnd.preT ms))
    rw [show t ++ (Cnd.mkT b ++ Cnd.preT ms) = (t ++ Cnd.mkT b) ++ Cnd.preT ms from (List.append_assoc ..).symm]
    refine rt_pre ms (fs := mkR b :: fs) (t := t ++ Cnd.mkT b) ?_
    cases b
    · exact ⟨t, rfl, h⟩
    · exact ⟨t, rfl, h⟩
theorem pre_len : ∀ l : List Bool, l.length ≤ (Cnd.preT l).length
  | [] => Nat.le_refl _
  | b :: l => by
    have ih := pre_len l
    show l.length + 1 ≤ (Cnd.mkT b ++ Cnd.preT l).length
    rw [List.length_append]
    have : 1 ≤ (Cnd.mkT b).length := by cases b <;> decide
    omega
theorem pre_splitN : ∀ (n : Nat) (xs : List Nat), xs.length ≤ n → ∃ ms w, xs = Cnd.preT ms ++ w ∧ ¬ Cnd.notT <+: w ∧ ¬ [40] <+: w
  | 0, xs, h => by
    have : xs = [] := List.eq_nil_of_length_eq_zero (Nat.le_zero.mp h)
    subst this
    exact ⟨[], [], rfl, (fun ⟨t, e⟩ => by cases e), fun ⟨t, e⟩ => by cases e⟩
  | n + 1, xs, h => by
    by_cases h1 : Cnd.notT <+: xs
    · obtain ⟨t, e⟩ := h1
      have ht : t.length ≤ n := by
        have := congrArg List.length e
        rw [List.length_append] at this
        have : Cnd.notT.length = 4 := rfl
        omega
      obtain ⟨ms, w, e2, a, b⟩ := pre_splitN n t ht
      refine ⟨true :: ms, w, ?_, a, b⟩
      rw [← e, e2]
      show _ = (Cnd.notT ++ Cnd.preT ms) ++ w
      rw [List.append_assoc]
    by_cases h2 : [40] <+: xs
    · obtain ⟨t, e⟩ := h2
      have ht : t.length ≤ n := by
        have := congrArg List.length e
        rw [List.length_append] at this
        have : [40].length = 1 := rfl
        omega
      obtain ⟨ms, w, e2, a, b⟩ := pre_splitN n t ht
      refine ⟨false :: ms, w, ?_, a, b⟩
      rw [← e, e2]
      rfl
    · exact ⟨[], xs, rfl, h1, h2⟩
theorem pre_split (xs : List Nat) : ∃ ms w, xs = Cnd.preT ms ++ w ∧ ¬ Cnd.notT <+: w ∧ ¬ [40] <+: w := pre_splitN _ xs (Nat.le_refl _)
theorem low_ar {gs : List Nat} (hg : Good gs) : ∀ {c : Cnd.Cd} {u : List Nat}, Ar gs c u → (∀ s ∈ u, s < 128) → Low c
  | .named n, u, ⟨e, _, _, h⟩, _ => fun s hs => by have := h s hs; omega
  | .mat p, u, ⟨e, _⟩, hu => fun s hs => hu s (by rw [e]; exact List.mem_append_right _ (List.mem_cons_of_mem _ (List.mem_append_left _ hs)))
  | .len _ _, _, _, _ => True.intro
  | .tpl k a b x y, u, ⟨i, j, s, t, e, hk, _, _, hi, hj, _, _, ha, hx, hb, hy⟩, _ => by
    subst hx hy
    exact ⟨fun c hc => (row_signs hg hi c hc).2.2.2, fun c hc => (row_signs hg hj c hc).2.2.2⟩
  | .no c, u, ⟨u1, e, h⟩, hu => low_ar hg (c := c) h fun s hs => hu s (by rw [e]; exact List.mem_append_right _ hs)
  | .two w a b, u, ⟨u1, u2, e, h1, h2⟩, hu => ⟨low_ar hg (c := a) h1 fun s hs => hu s (by rw [e]; exact List.mem_cons_of_mem _ (List.mem_append_left _ hs)),
      low_ar hg (c := b) h2 fun s hs => hu s (by rw [e]; exact List.mem_cons_of_mem _ (List.mem_append_right _ (List.mem_cons_of_mem _ (List.mem_append_right _ (List.mem_cons_of_mem _ (List.mem_append_left _ hs))))))⟩
theorem dep_ar {gs : List Nat} : ∀ {c : Cnd.Cd} {u : List Nat}, Ar gs c u → Cnd.dpt c ≤ u.count 32 + 1
  | .named _, _, _ => Nat.le_add_left _ _
  | .mat _, _, _ => Nat.le_add_left _ _
  | .len _ _, _, _ => Nat.le_add_left _ _
  | .tpl _ _ _ _ _, _, _ => Nat.le_add_left _ _
  | .no c, u, ⟨u1, e, h⟩ => by
    have ih := dep_ar (c := c) h
    rw [e, List.count_append]
    have : Cnd.notT.count 32 = 1 := by decide
    show Cnd.dpt c + 1 ≤ _
    omega
  | .two w a b, u, ⟨u1, u2, e, h1, h2⟩ => by
    have i1 := dep_ar (c := a) h1
    have i2 := dep_ar (c := b) h2
    rw [e, List.count_cons_of_ne (by decide), List.count_append, List.count_cons_self, List.count_append, List.count_cons_self, List.count_append]
    show max (Cnd.dpt a) (Cnd.dpt b) + 1 ≤ _
    omega
theorem ar_pos {gs : List Nat} : ∀ {c : Cnd.Cd} {u : List Nat}, Ar gs c u → 0 < u.length
  | .named n, u, ⟨e, h, _⟩ => by rw [e, List.length_append]; omega
  | .mat _, _, ⟨e, _⟩ => by rw [e, List.length_append, List.length_cons]; omega
  | .len _ _, _, ⟨e, _⟩ => by rw [e, List.length_append, List.length_cons]; omega
  | .tpl _ _ _ _ _, _, ⟨i, j, s, t, e, _⟩ => by rw [e, List.length_append, List.length_cons]; omega
  | .no c, u, ⟨u1, e, h⟩ => by
    rw [e, List.length_append]
    have : Cnd.notT.length = 4 := rfl
    omega
  | .two w a b, u, ⟨u1, u2, e, h1, h2⟩ => by rw [e, List.length_cons]; omega
theorem piece_of {A t : List Nat} {m : Nat} (h : A = t) (k : A.count 32 ≤ m) (l : ∀ s ∈ A, s < 128) {u a b : List Nat} (e : t = a ++ (u ++ b)) : u.count 32 ≤ m ∧ ∀ s ∈ u, s < 128 := by
  subst h
  subst e
  rw [List.count_append, List.count_append] at k
  exact ⟨by omega, fun s hs => l s (List.mem_append_right _ (List.mem_append_left _ hs))⟩
theorem drop_count {xs : List Nat} {n m : Nat} (k : xs.count 32 ≤ m) : (xs.drop n).count 32 ≤ m := by
  have h := congrArg (List.count 32) (List.take_append_drop n xs)
  rw [List.count_append] at h
  omega
def spRcx (CI : Addr) : Sp := fun vs H Q E => ∃ (gs xs : List Nat) (n : Nat), vs = [tx gs, tx xs, iv n] ∧ Good gs ∧ n ≤ xs.length ∧ xs.length ≤ 900 ∧ (∀ c ∈ xs, c < 128) ∧ xs.count 32 ≤ 50 ∧ TxE CI E H ∧
  ∀ c u z, xs.drop n = u ++ z → Ar gs c u → ∀ H' p v, Same H H' → H p = none → H' p = some (.tup [v, iv (n + u.length)]) → CdH H' c v → Q (.ref p) H'
abbrev sRcx : Stmt := topS 45
abbrev rcxN : List Str := ["letters", "text", "at", "begun", "end", "more", "condition", "last", "word"]
theorem scRcx : FnScope rcxN ["letters", "text", "at"] (defScope sRcx) := ⟨rfl, rfl, rfl, by decide +kernel, rfl, by decide +kernel, by decide +kernel⟩
theorem ok_rcx {f : Addr} {fd : FuncData} (F : Fun K "read_condition" "read_condition" sRcx f fd) (m_len : mg "len" = none) {CI : Addr} (eT : ErM0 P w K mg base "InvalidText" CI) {f1 : Addr} {fd1 : FuncData} (c1 : Cl P w K mg base "begun_conditions" 1 ["text", "at"] spBeg f1 fd1) {f2 : Addr} {fd2 : FuncData} (G2 : FnOk P w K mg base (L2.CX P w) 8 f2 fd2 ["letters", "text", "at"] (spRsx CI)) (g2 : mg "read_simple" = some (.ref f2)) (k2 : PySem.W.keepIn K (.ref f2) = true) (b2 : Binds K fd2 ["letters", "text", "at"] []) {f3 : Addr} {fd3 : FuncData} (G3 : FnOk P w K mg base (L2.CX P w) 3 f3 fd3 ["text", "at"] (spLwx CI)) (g3 : mg "linking_word" = some (.ref f3)) (k3 : PySem.W.keepIn K (.ref f3) = true) (b3 : Binds K fd3 ["text", "at"] []) :
    FnOk P w K mg base (L2.CX P w) 9 f fd ["letters", "text", "at"] (spRcx CI) := by
  refine F.okX scRcx (fun vs H Q E h => ?_) (fun cdv A outer s H vs Q E hr h => ?_)
  · obtain ⟨gs, xs, n, rfl, _⟩ := h
    rfl
  · obtain ⟨gs, xs, n0, rfl, hg, hn0, hl, haz, hct, qe, q⟩ := h
    refine ⟨_, (pss_cons (ps_set (i := 3) scRcx.nd rfl (by first | exact .inl rfl | exact .inr rfl) (pe_lst pa_nil))
      (pss_cons (ps_set (i := 4) scRcx.nd rfl (by first | exact .inl rfl | exact .inr rfl) (pv 2))
      (pss_one (ps_while (passes_of rfl) (pt_val pe_bl)
        (pss_cons (ps_asg (pe_cl c1 hr (by decide) (by rfl) (pa_cons (pv 1) (pa_cons (pv 4) pa_nil))) (pg_tup rfl (pgs_cons (pg_name (i := 5) scRcx.nd rfl (by first | exact .inl rfl | exact .inr rfl)) (pgs_cons (pg_name (i := 4) scRcx.nd rfl (by first | exact .inl rfl | exact .inr rfl)) pgs_nil))))
      (pss_cons (ps_expr (pe_bm PySem.F.plainAttrs_list PySem.F.slot_list_extend PySem.F.type_list_extend mt_extend (pv 3) (pa_cons (pv 5) pa_nil)))
      (pss_cons (ps_asg (pe_call G2 (hr.mono (by decide)) (by rfl) g2 k2 b2 .nil (passes_call (takes_of rfl rfl rfl rfl) (fun _ _ _ _ h => h)) (pa_cons (pv 0) (pa_cons (pv 1) (pa_cons (pv 4) pa_nil)))) (pg_tup rfl (pgs_cons (pg_name (i := 6) scRcx.nd rfl (by first | exact .inl rfl | exact .inr rfl)) (pgs_cons (pg_name (i := 4) scRcx.nd rfl (by first | exact .inl rfl | exact .inr rfl)) pgs_nil))))
      (pss_cons (ps_while (passes_of rfl) (PW.pt (pw_and (pt_truth (pv 3) (fun _ => rfl)) (pw_and1 (pt_cmpR (op_neD hr.units) (pe_ix (ixL (K := K) rfl) (pv 3) (pe_un un_neg pe_int) (fun _ _ => rfl)) pe_str (nomark _)))))
        (pss_cons (ps_set (i := 7) scRcx.nd rfl (by first | exact .inl rfl | exact .inr rfl) (pe_bm0 PySem.F.plainAttrs_list PySem.F.slot_list_pop PySem.F.type_list_pop mt_pop (pv 3)))
      (pss_one (ps_if (pt_cmpR (op_eqD hr.units) (pv 7) pe_str (nomark _)) (pss_one (ps_set (i := 6) scRcx.nd rfl (by first | exact .inl rfl | exact .inr rfl) (pe_tup (pa_cons pe_str (pa_cons (pv 6) pa_nil))))) (pss_one (ps_if (pt_val (pe_bm PySem.F.plainAttrs_str PySem.F.slot_str_startswith PySem.F.type_str_startswith mt_startswith3 (pv 1) (pa_cons pe_str (pa_cons (pv 4) pa_nil)))) (pss_cons (ps_set (i := 6) scRcx.nd rfl (by first | exact .inl rfl | exact .inr rfl) (pe_tup (pa_cons (pe_ix (ixT (K := K) rfl) (pv 7) pe_int (fun _ _ => rfl)) (pa_cons (pe_ix (ixT (K := K) rfl) (pv 7) pe_int (fun _ _ => rfl)) (pa_cons (pv 6) pa_nil)))))
      (pss_one (ps_aug (i := 4) scRcx.nd rfl (by first | exact .inl rfl | exact .inr rfl) pe_int ip_add))) (pss_one ((ps_raise rfl (takes_of rfl rfl rfl rfl) (eT.use rfl rfl rfl rfl rfl (hr.mono (by decide)) (by rfl)))))))))))
      (pss_cons (ps_if (pt_not (pt_truth (pv 3) (fun _ => rfl))) (pss_one (ps_ret (pe_tup (pa_cons (pv 6) (pa_cons (pv 4) pa_nil))))) pss_nil)
      (pss_cons (ps_set (i := 8) scRcx.nd rfl (by first | exact .inl rfl | exact .inr rfl) (pe_call G3 (hr.mono (by decide)) (by rfl) g3 k3 b3 .nil (passes_call (takes_of rfl rfl rfl rfl) (fun _ _ _ _ h => h)) (pa_cons (pv 1) (pa_cons (pv 4) pa_nil))))
      (pss_cons (ps_asg (pe_tup (pa_cons (pv 8) (pa_cons (pv 6) pa_nil))) (pg_sub (pv 3) (pe_un un_neg pe_int) set_list))
      (pss_one (ps_aug (i := 4) scRcx.nd rfl (by first | exact .inl rfl | exact .inr rfl) (pe_op op_add (pe_callB call_len_str (by rfl) m_len PySem.boot_len (pa_cons (pv 8) pa_nil)) pe_int) ip_add))))))))))))), ?_⟩
    have hz' : (S xs).length ≤ sizeLine := by rw [S_len, sizeLine_eq]; omega
    refine ⟨Nat.zero_le _, fun B nB => ?_⟩
    have sB := same_new (o := .lst []) nB
    refine ⟨_, rfl, ?_⟩
    show tWhile _ _ _ [some (tx gs), some (tx xs), some (iv n0), some (.ref B), some (iv n0), none, none, none, none] _
    refine ⟨fun m σ H' => ∃ (fs : List Rf) (t : List Nat) (n : Nat) (vs : List V) (v5 v6 v7 v8 : Option V), σ = [some (tx gs), some (tx xs), some (iv n0), some (.ref B), some (iv n), v5, v6, v7, v8] ∧ Same H H' ∧ H' B = some (.lst vs.reverse) ∧ RfsV H' fs vs ∧ n ≤ xs.length ∧ xs.drop n0 = t ++ xs.drop n ∧ n = n0 + t.length ∧ RT gs fs t ∧ m = xs.length - n,
      ⟨_, [], [], n0, [], none, none, none, none, rfl, sB, upd_same, True.intro, hn0, rfl, rfl, rfl, rfl⟩, ?_⟩
    rintro m σ H1 ⟨fs, t, n, vs, v5, v6, v7, v8, rfl, s1, hB, hF, hn, hd, hnt, hR, rfl⟩
    refine ⟨true, rfl, ?_⟩
    refine ⟨_, fun _ _ h => h, ?_⟩
    obtain ⟨ms, w0, hw, h1, h2⟩ := pre_split (xs.drop n)
    have hml : (Cnd.preT ms).length + w0.length = xs.length - n := by
      have := congrArg List.length hw
      rw [List.length_drop, List.length_append] at this
      omega
    refine ⟨_, rfl, _, rfl, xs, w0, n, ms, rfl, hw, hn, by omega, h1, h2, fun H2 p l s2 np nl hL hp => ?_⟩
    refine ⟨p, _, rfl, sqT hp, rfl, _, _, rfl, _, _, rfl, rfl, ?_⟩
    try dsimp only [gName, tSeq, tAsg, List.set_cons_zero, List.set_cons_succ]
    have hB2 : H2 B = some (.lst vs.reverse) := s2 _ _ hB
    have hfl := hF.len
    have hrl := rt_len hR
    have hmsl := pre_len ms
    refine ⟨_, rfl, .inl ⟨rfl, _, sqL hB2⟩, _, rfl, B, l, _, _, rfl, rfl, hB2, hL, by rw [List.length_reverse, List.length_map, sizeLine_eq]; omega, ?_⟩
    obtain ⟨H3, eH3⟩ : ∃ H3, H3 = upd H2 B (.lst (vs.reverse ++ ms.map mkV)) := ⟨_, rfl⟩
    rw [← eH3]
    have s3 : Same H H3 := by rw [eH3]; exact same_put (s1.trans s2) nB
    have hB3 : H3 B = some (.lst (vs.reverse ++ ms.map mkV)) := by rw [eH3]; exact upd_same
    have hF3 : RfsV H3 ((ms.map mkR).reverse ++ fs) ((ms.map mkV).reverse ++ vs) := rf_pre ms (by rw [eH3]; exact (hF.keep fun a xs e => s2 _ _ e).keep (tup_keep hB2))
    have hR3 : RT gs ((ms.map mkR).reverse ++ fs) (t ++ Cnd.preT ms) := rt_pre ms hR
    have hn1 : n + (Cnd.preT ms).length ≤ xs.length := by omega
    refine ⟨_, rfl, _, rfl, _, rfl, gs, xs, _, rfl, hg, hn1, hl, haz, qe.later s3, fun c u z hdu hau hlf H4 p2 v s4 np2 hp2 hv => ?_⟩
    refine ⟨p2, _, rfl, sqT hp2, rfl, _, _, rfl, _, _, rfl, rfl, ?_⟩
    try dsimp only [gName, tSeq, tAsg, List.set_cons_zero, List.set_cons_succ]
    have hup := ar_pos hau
    have hul : u.length + z.length = xs.length - (n + (Cnd.preT ms).length) := by
      have := congrArg List.length hdu
      rw [List.length_drop, List.length_append] at this
      omega
    have hdz : xs.drop (n + (Cnd.preT ms).length + u.length) = z := by
      rw [← List.drop_drop, hdu, List.drop_left]
    have hd4 : xs.drop n0 = (t ++ Cnd.preT ms) ++ (u ++ xs.drop (n + (Cnd.preT ms).length + u.length)) := by
      rw [hdz, ← hdu, hd, hw, ← List.drop_drop, hw, List.drop_left, List.append_assoc]
    refine ⟨fun m σ H' => ∃ (fs1 : List Rf) (c1 : Cnd.Cd) (t1 u1 : List Nat) (n1 : Nat) (vs1 : List V) (v1 : V) (v5 v7 v8 : Option V), σ = [some (tx gs), some (tx xs), some (iv n0), some (.ref B), some (iv n1), v5, some v1, v7, v8] ∧ Same H H' ∧ H' B = some (.lst vs1.reverse) ∧ RfsV H' fs1 vs1 ∧ CdH H' c1 v1 ∧ n1 ≤ xs.length ∧ xs.drop n0 = t1 ++ (u1 ++ xs.drop n1) ∧ n1 = n0 + t1.length + u1.length ∧ RT gs fs1 t1 ∧ Ar gs c1 u1 ∧ n < n1 ∧ m = fs1.length,
      ⟨_, (ms.map mkR).reverse ++ fs, c, t ++ Cnd.preT ms, u, n + (Cnd.preT ms).length + u.length, (ms.map mkV).reverse ++ vs, v, _, _, _, rfl, s3.trans s4, ?_, hF3.keep (fun a xs e => s4 _ _ e), hv, by omega, hd4, by rw [List.length_append]; omega, hR3, hau, by omega, rfl⟩, ?_⟩
    · rw [List.reverse_append, List.reverse_reverse]
      exact s4 _ _ hB3
    rintro m σ H5 ⟨fs1, c1, t1, u1, n1, vs1, v1, v5, v7, v8, rfl, s5, hB5, hF5, hv5, hn5, hd5, hnt5, hR5, hA5, hlt, rfl⟩
    refine ⟨_, rfl, !vs1.reverse.isEmpty, .inl ⟨_, sqL hB5, rfl⟩, ?_⟩
    match fs1, vs1, hF5, hR5 with
    | [], [], _, hR5 =>
      refine iteF ?_
      refine iteF ?_
      refine ⟨_, rfl, false, .inl ⟨_, sqL hB5, rfl⟩, ?_⟩
      refine iteT ?_
      refine ⟨_, rfl, _, rfl, (by show 2 ≤ sizeLine; decide), fun T nT => ?_⟩
      have sT := same_new (o := .tup [v1, iv n1]) nT
      have hR5 : t1 = [] := hR5
      subst hR5
      refine q c1 u1 _ hd5 hA5 _ T v1 (s5.trans sT) (none_of s5 nT) ?_ (hv5.same sT)
      rw [upd_same, hnt5]
      rfl
    | f :: fs1, v0 :: vs1, ⟨hf, hF5⟩, hR5 =>
      rw [show (!(v0 :: vs1).reverse.isEmpty) = true by rw [List.reverse_cons]; cases vs1.reverse <;> rfl]
      refine iteT ?_
      rw [List.reverse_cons] at hB5
      refine ⟨_, rfl, 1, rfl, B, _, -1, v0, rfl, rfl, sqL hB5, atI_last _ _, ?_⟩
      cases f with
      | no =>
        have hf : v0 = .str (Str.ofString "not") := hf
        subst hf
        obtain ⟨t0, et0, hR0⟩ := hR5
        refine ⟨.str (Str.ofString "not"), .str (Str.ofString "("), .str _, .str _, by decide +kernel, by decide +kernel, _, rfl, ?_⟩
        refine iteT ?_
        refine ⟨_, fun _ _ h => h, ?_⟩
        refine ⟨_, rfl, .inl ⟨rfl, _, sqL hB5⟩, B, _, _, rfl, rfl, hB5, get_last, ?_⟩
        rw [List.dropLast_concat]
        obtain ⟨H6, eH6⟩ : ∃ H6, H6 = upd H5 B (.lst vs1.reverse) := ⟨_, rfl⟩
        rw [← eH6]
        have s6 : Same H H6 := by rw [eH6]; exact same_put s5 nB
        have hB6 : H6 B = some (.lst vs1.reverse) := by rw [eH6]; exact upd_same
        have hF6 : RfsV H6 fs1 vs1 := by rw [eH6]; exact hF5.keep (tup_keep hB5)
        have hv6 : CdH H6 c1 v1 := by rw [eH6]; exact hv5.keep (tup_keep hB5)
        try dsimp only [gName, tSeq, tAsg, List.set_cons_zero, List.set_cons_succ]
        refine ⟨_, rfl, .str (Str.ofString "not"), .str (Str.ofString "not"), .str _, .str _, by decide +kernel, by decide +kernel, _, rfl, ?_⟩
        refine iteT ?_
        refine ⟨_, rfl, (by show 2 ≤ sizeLine; decide), fun T nT => ?_⟩
        have sT := same_new (o := .tup [V.str (Str.ofString "not"), v1]) nT
        have e4 : Cnd.notT.length = 4 := rfl
        exact ⟨_, Nat.lt_succ_self _, fs1, .no c1, t0, Cnd.notT ++ u1, n1, vs1, .ref T, _, _, _, rfl, s6.trans sT, sT _ _ hB6, hF6.keep (fun a xs e => sT _ _ e), ⟨T, v1, rfl, upd_same, hv6.same sT⟩, hn5, by rw [hd5, et0, List.append_assoc, List.append_assoc], by rw [hnt5, et0, List.length_append, List.length_append]; omega, hR0, ⟨u1, rfl, hA5⟩, hlt, rfl⟩
      | op =>
        have hf : v0 = .str (Str.ofString "(") := hf
        subst hf
        obtain ⟨t0, et0, hR0⟩ := hR5
        refine ⟨.str (Str.ofString "("), .str (Str.ofString "("), .str _, .str _, by decide +kernel, by decide +kernel, _, rfl, ?_⟩
        refine iteF ?_
        refine ⟨_, rfl, true, .inl ⟨_, sqL hB5, by cases vs1.reverse <;> rfl⟩, ?_⟩
        refine iteF ?_
        refine ⟨_, rfl, _, rfl, xs, n1, rfl, hn5, by omega, qe.later s5, fun w z2 hd6 H6 s6 => ?_⟩
        have hB6 := s6 _ _ hB5
        refine ⟨_, rfl, _, rfl, (by show 2 ≤ sizeLine; decide), fun T nT => ?_⟩
        have sT := same_new (o := .tup [V.str (wdS w), v1]) nT
        refine ⟨_, rfl, 1, rfl, B, _, -1, _, rfl, rfl, sT _ _ hB6, ixN_last, ?_⟩
        rw [set_last]
        obtain ⟨H7, eH7⟩ : ∃ H7, H7 = upd (upd H6 T (.tup [V.str (wdS w), v1])) B (.lst (vs1.reverse ++ [V.ref T])) := ⟨_, rfl⟩
        rw [← eH7]
        have kT : ∀ a xs, H5 a = some (.tup xs) → H7 a = some (.tup xs) := fun a xs e => by rw [eH7]; exact tup_keep (sT _ _ hB6) _ _ (sT _ _ (s6 _ _ e))
        have s7 : Same H H7 := by rw [eH7]; exact same_put (s5.trans (s6.trans sT)) nB
        have hT7 : H7 T = some (.tup [V.str (wdS w), v1]) := by rw [eH7]; exact tup_keep (sT _ _ hB6) _ _ upd_same
        have lw : (wdS w).length ≤ sizeLine := by cases w <;> (show _ ≤ sizeLine; decide)
        show tAug 4 _ _ _ _ _
        refine ⟨_, rfl, _, rfl, _, rfl, lw, _, _, rfl, rfl, _, _, rfl, rfl, ?_⟩
        have hlen5 := congrArg List.length hd6
        rw [List.length_drop, List.length_cons, List.length_append, List.length_cons] at hlen5
        have elw : (wdS w).length = (Cnd.wdT w).length := by rw [wdS_T, S_len]
        have ed : xs.drop (n1 + ((Cnd.wdT w).length + 2)) = z2 := by
          rw [← List.drop_drop, hd6]
          show (32 :: (Cnd.wdT w ++ (32 :: z2))).drop ((Cnd.wdT w).length + 1 + 1) = _
          rw [List.drop_succ_cons, ← List.drop_drop, List.drop_left]
          rfl
        refine ⟨xs.length - (n1 + ((Cnd.wdT w).length + 2)), by omega, .rg w c1 :: fs1, t0 ++ (40 :: (u1 ++ (32 :: (Cnd.wdT w ++ [32])))), n1 + ((Cnd.wdT w).length + 2), .ref T :: vs1, v5, some v1, v7, some (.str (wdS w)), ?_, s7, ?_, ⟨⟨T, v1, rfl, hT7, hv5.keep kT⟩, hF5.keep kT⟩, by omega, ?_, ?_, ⟨t0, u1, rfl, hA5, hR0⟩, rfl⟩
        · show [some (tx gs), some (tx xs), some (iv n0), some (V.ref B), some (V.int ((n1 : Int) + ((wdS w).length + 2))), v5, some v1, v7, some (V.str (wdS w))] = _
          rw [elw, show ((n1 : Int) + (((Cnd.wdT w).length : Nat) + 2)) = ((n1 + ((Cnd.wdT w).length + 2) : Nat) : Int) by omega]
        · rw [eH7, upd_same, List.reverse_cons]
        · rw [ed, hd5, et0, hd6]
          simp only [List.append_assoc, List.cons_append, List.nil_append]
        · rw [hnt5, et0]
          simp only [List.length_append, List.length_cons, List.length_nil]
          omega
      | rg w l =>
        obtain ⟨a, x, rfl, ha, hx⟩ := hf
        obtain ⟨t0, ul, et0, hAl, hR0⟩ := hR5
        have hpt := piece_of hd5 (drop_count hct) (fun s hs => haz s (List.mem_of_mem_drop hs)) (u := ul) (a := t0 ++ [40]) (b := (32 :: (Cnd.wdT w ++ [32])) ++ (u1 ++ xs.drop n1)) (by rw [et0]; simp only [List.append_assoc, List.cons_append, List.nil_append])
        have hll := low_ar hg hAl hpt.2
        have hdl : Cnd.dpt l ≤ 60 := by
          have := dep_ar hAl
          have := hpt.1
          omega
        refine ⟨.tuple [.str (wdS w), cdD l], .str (Str.ofString "("), .tup (sqT ha) (.cons (.str _) (.cons (dp_cd hx) .nil)), .str _, shp_pair hll hdl, by decide +kernel, _, rfl, ?_⟩
        refine iteT ?_
        refine ⟨_, fun _ _ h => h, ?_⟩
        refine ⟨_, rfl, .inl ⟨rfl, _, sqL hB5⟩, B, _, _, rfl, rfl, hB5, get_last, ?_⟩
        rw [List.dropLast_concat]
        obtain ⟨H6, eH6⟩ : ∃ H6, H6 = upd H5 B (.lst vs1.reverse) := ⟨_, rfl⟩
        rw [← eH6]
        have s6 : Same H H6 := by rw [eH6]; exact same_put s5 nB
        have hB6 : H6 B = some (.lst vs1.reverse) := by rw [eH6]; exact upd_same
        have hF6 : RfsV H6 fs1 vs1 := by rw [eH6]; exact hF5.keep (tup_keep hB5)
        have hv6 : CdH H6 c1 v1 := by rw [eH6]; exact hv5.keep (tup_keep hB5)
        have ha6 : H6 a = some (.tup [.str (wdS w), x]) := by rw [eH6]; exact tup_keep hB5 _ _ ha
        have hx6 : CdH H6 l x := by rw [eH6]; exact hx.keep (tup_keep hB5)
        try dsimp only [gName, tSeq, tAsg, List.set_cons_zero, List.set_cons_succ]
        refine ⟨_, rfl, .tuple [.str (wdS w), cdD l], .str (Str.ofString "not"), .tup (sqT ha6) (.cons (.str _) (.cons (dp_cd hx6) .nil)), .str _, shp_pair hll hdl, by decide +kernel, _, rfl, ?_⟩
        refine iteF ?_
        refine ⟨_, rfl, rfl, _, rfl, S xs, S [41], _, rfl, rfl, _, rfl, ?_⟩
        rw [sw3 hn5]
        by_cases h41 : [41] <+: xs.drop n1
        · rw [decide_eq_true h41]
          refine iteT ?_
          obtain ⟨z3, e3⟩ := h41
          refine ⟨_, rfl, a, _, 0, _, rfl, rfl, sqT ha6, atI_nat (j := 0) rfl, _, rfl, a, _, 1, _, rfl, rfl, sqT ha6, atI_nat (j := 1) rfl, _, rfl, (by show 3 ≤ sizeLine; decide), fun T nT => ?_⟩
          have sT := same_new (o := .tup [V.str (wdS w), x, v1]) nT
          have hlen5 := congrArg List.length e3
          rw [List.length_append, List.length_singleton, List.length_drop] at hlen5
          have ed : xs.drop (n1 + 1) = z3 := by
            rw [← List.drop_drop, ← e3]
            rfl
          refine ⟨_, rfl, _, _, rfl, rfl, ?_⟩
          refine ⟨_, Nat.lt_succ_self _, fs1, .two w l c1, t0, 40 :: (ul ++ (32 :: (Cnd.wdT w ++ (32 :: (u1 ++ [41]))))), n1 + 1, vs1, .ref T, _, _, _, rfl, s6.trans sT, sT _ _ hB6, hF6.keep (fun a xs e => sT _ _ e), ⟨T, x, v1, rfl, upd_same, hx6.same sT, hv6.same sT⟩, by omega, ?_, ?_, hR0, ⟨ul, u1, rfl, hAl, hA5⟩, by omega, rfl⟩
          · rw [hd5, et0, ed, ← e3]
            simp only [List.append_assoc, List.cons_append, List.nil_append]
          · rw [hnt5, et0]
            simp only [List.length_append, List.length_cons, List.length_nil]
            omega
        · rw [decide_eq_false h41]
          refine iteF ?_
          exact raise0 (σ := []) fun H7 d2 s7 hd2 => qe _ _ (s6.trans s7) hd2
end
end Own

namespace Own
open PySem PySem.Spec PyProof.Rows L2 SX RZ
section
variable {P : Program} {w : World} {K : PySem.W.Frag} {mg : Str → Option Value} {base : Heap}
def spPax (CI : Addr) : Sp := fun vs H Q E => ∃ gs xs : List Nat, vs = [tx gs, tx xs] ∧ Good gs ∧ xs.length ≤ 900 ∧ (∀ c ∈ xs, c < 128) ∧ xs.count 32 ≤ 50 ∧ TxE CI E H ∧
  ∀ c, Ar gs c xs → ∀ H' v, Same H H' → CdH H' c v → Q v H'
abbrev sPax : Stmt := topS 46
abbrev paxN : List Str := ["letters", "text", "condition", "end"]
theorem scPax : FnScope paxN ["letters", "text"] (defScope sPax) := ⟨rfl, rfl, rfl, by decide +kernel, rfl, by decide +kernel, by decide +kernel⟩
theorem ok_pax {f : Addr} {fd : FuncData} (F : Fun K "parse_condition" "parse_condition" sPax f fd) (m_len : mg "len" = none) {CI : Addr} (eT : ErM0 P w K mg base "InvalidText" CI) {f1 : Addr} {fd1 : FuncData} (G1 : FnOk P w K mg base (L2.CX P w) 9 f1 fd1 ["letters", "text", "at"] (spRcx CI)) (g1 : mg "read_condition" = some (.ref f1)) (k1 : PySem.W.keepIn K (.ref f1) = true) (b1 : Binds K fd1 ["letters", "text", "at"] []) :
    FnOk P w K mg base (L2.CX P w) 10 f fd ["letters", "text"] (spPax CI) := by
  refine F.okX scPax (fun vs H Q E h => ?_) (fun cdv A outer s H vs Q E hr h => ?_)
  · obtain ⟨gs, xs, rfl, _⟩ := h
    rfl
  · obtain ⟨gs, xs, rfl, hg, hl, haz, hct, qe, q⟩ := h
    refine ⟨_, (pss_cons (ps_asg (pe_call G1 (hr.mono (by decide)) (by rfl) g1 k1 b1 .nil (passes_call (takes_of rfl rfl rfl rfl) (fun _ _ _ _ h => h)) (pa_cons (pv 0) (pa_cons (pv 1) (pa_cons pe_int pa_nil)))) (pg_tup rfl (pgs_cons (pg_name (i := 2) scPax.nd rfl (by first | exact .inl rfl | exact .inr rfl)) (pgs_cons (pg_name (i := 3) scPax.nd rfl (by first | exact .inl rfl | exact .inr rfl)) pgs_nil))))
      (pss_cons (ps_if (pt_cmpR op_ne (pv 3) (pe_callB call_len_str (by rfl) m_len PySem.boot_len (pa_cons (pv 1) pa_nil)) (nomark _)) (pss_one ((ps_raise rfl (takes_of rfl rfl rfl rfl) (eT.use rfl rfl rfl rfl rfl (hr.mono (by decide)) (by rfl))))) pss_nil)
      (pss_one (ps_ret (pv 2))))), ?_⟩
    have lz : (S xs).length ≤ sizeLine := by rw [S_len, sizeLine_eq]; omega
    refine ⟨_, rfl, _, rfl, gs, xs, 0, rfl, hg, Nat.zero_le _, hl, haz, hct, qe, fun c u z hd ha H1 p v s1 np hp hv => ?_⟩
    refine ⟨p, _, rfl, sqT hp, rfl, _, _, rfl, _, _, rfl, rfl, ?_⟩
    try dsimp only [gName, tSeq, tAsg, List.set_cons_zero, List.set_cons_succ]
    rw [Nat.zero_add]
    refine ⟨_, rfl, _, rfl, _, rfl, lz, ?_⟩
    rw [S_len]
    refine ⟨rfl, _, rfl, ?_⟩
    have hd : xs = u ++ z := hd
    by_cases he : u.length = xs.length
    · have hz : z = [] := by
        have := congrArg List.length hd
        rw [List.length_append] at this
        exact List.eq_nil_of_length_eq_zero (by omega)
      subst hz
      rw [List.append_nil] at hd
      subst hd
      rw [decide_eq_true rfl]
      refine iteF ?_
      exact ⟨_, rfl, q c ha _ v s1 hv⟩
    · rw [decide_eq_false (fun e => he (by injection e with e; omega))]
      refine iteT ?_
      exact raise0 (σ := []) fun H7 d2 s7 hd2 => qe _ _ (s1.trans s7) hd2
end
end Own

namespace Own
open PySem PySem.Spec PyProof.Rows L2 SX RZ
section
variable {P : Program} {w : World} {K : PySem.W.Frag} {mg : Str → Option Value} {base : Heap}
section
open PySem.StrLaws
theorem okf_ar {gs : List Nat} : ∀ {c : Cnd.Cd} {u : List Nat}, Ar gs c u → OkF gs c
  | .named n, u, ⟨_, h0, h8, h⟩ => .named h0 h8 h
  | .mat p, u, _ => .mat
  | .len r m, u, ⟨_, h1, h2⟩ => .len h1 h2
  | .tpl k a b x y, u, ⟨i, j, s, t, e, hk, _, _, hi, hj, hil, hjl, ha, hx, hb, hy⟩ => by
    subst ha hx hb hy
    exact .tpl hk hi hj hil hjl
  | .no c, u, ⟨u1, _, h⟩ => .no (okf_ar h)
  | .two w a b, u, ⟨u1, u2, _, h1, h2⟩ => .two (okf_ar h1) (okf_ar h2)
/-- a pattern's signs -/
theorem scan_mem {gs : List Nat} : ∀ {p : List Nat} {b d : Nat} {z : Nat × Nat}, Cnd.scan gs b d p = some z → ∀ s ∈ p, s ∈ gs ∨ s = 42 ∨ s = 41 ∨ s = 46 ∨ s = 124 ∨ s = 40
  | [], _, _, _, _ => fun s h => nomatch h
  | c :: p, b, d, z, h => by
    have h : (if Cnd.can gs b c d then Cnd.scan gs c (Cnd.dep d c) p else none) = some z := h
    by_cases k : Cnd.can gs b c d = true
    · rw [if_pos k] at h
      intro s hs
      rcases List.mem_cons.mp hs with rfl | hs
      · unfold Cnd.can at k
        by_cases e1 : s = 42
        · exact .inr (.inl e1)
        · rw [if_neg e1] at k
          by_cases e2 : s = 41
          · exact .inr (.inr (.inl e2))
          · rw [if_neg e2] at k
            simp only [Bool.or_eq_true, decide_eq_true_eq] at k
            rcases k with k | k | k | k
            · exact .inl k
            · exact .inr (.inr (.inr (.inl k)))
            · exact .inr (.inr (.inr (.inr (.inl k))))
            · exact .inr (.inr (.inr (.inr (.inr k))))
      · exact scan_mem h s hs
    · rw [if_neg k] at h
      cases h
theorem repl_formsR {gs : List Nat} (hg : Good gs) {its zs : List (List Nat)} (h : Forms gs its zs) (r : List Nat) : replL (wide1 gs) [123, 125] (zs.flatten ++ r) = (its.map (iTx gs)).flatten ++ replL (wide1 gs) [123, 125] r := by
  induction h with
  | nil => rfl
  | cons h1 _ ih => rw [List.flatten_cons, List.map_cons, List.flatten_cons, List.append_assoc, repl_form hg h1, ih, List.append_assoc]
theorem repl_rdR {gs t : List Nat} (hg : Good gs) {its : List (List Nat)} (h : Rd gs its t) (r : List Nat) : replL (wide1 gs) [123, 125] (t ++ r) = rTx gs its ++ replL (wide1 gs) [123, 125] r := by
  rcases h with ⟨rfl, rfl⟩ | ⟨hne, zs, hf, rfl⟩
  · exact repl_skip [45] r (by decide)
  · rw [repl_formsR hg hf]
    unfold rTx
    rw [if_neg hne]
/-- blanks in their shortest form, over the text of a condition -/
theorem repl_ar {gs : List Nat} (hg : Good gs) : ∀ {c : Cnd.Cd} {u : List Nat}, Ar gs c u → ∀ r, replL (wide1 gs) [123, 125] (u ++ r) = Cnd.cTx c ++ replL (wide1 gs) [123, 125] r
  | .named n, u, ⟨e, _, _, h⟩, r => by
    rw [e]
    exact repl_skip _ r (fun m => (List.mem_append.mp m).elim (by decide) (fun k => by have := h _ k; omega))
  | .mat p, u, ⟨e, b, h⟩, r => by
    rw [e]
    refine repl_skip _ r (fun m => (List.mem_append.mp m).elim (by decide) (fun k => ?_))
    rcases List.mem_cons.mp k with k | k
    · cases k
    rcases List.mem_append.mp k with k | k
    · rcases scan_mem h _ k with k | k | k | k | k | k
      · have := hg.az _ k; omega
      all_goals cases k
    · rcases List.mem_cons.mp k with k | k
      · cases k
      · cases k
  | .len a m, u, ⟨e, h1, h2⟩, r => by
    rw [e]
    refine repl_skip _ r (fun q => (List.mem_append.mp q).elim (by decide) (fun k => ?_))
    rcases List.mem_cons.mp k with k | k
    · cases k
    rcases List.mem_append.mp k with k | k
    · rcases List.mem_append.mp k with k | k
      · have := dec_no a (by omega) _ k; omega
      · rcases List.mem_cons.mp k with k | k
        · cases k
        · have := dec_no m h2 _ k; omega
    · rcases List.mem_cons.mp k with k | k
      · cases k
      · cases k
  | .tpl k a b x y, u, ⟨i, j, s, t, e, hk, hs, ht, hi, hj, _, _, ha, hx, hb, hy⟩, r => by
    subst ha hx hb hy
    have hkw : 123 ∉ Cnd.kwT k ++ [40] := by
      match k, hk with
      | 0, _ | 1, _ | 2, _ | 3, _ => decide
    have e1 : u ++ r = (Cnd.kwT k ++ [40]) ++ (s ++ ([44] ++ (t ++ ([41] ++ r)))) := by
      rw [e]
      simp only [List.append_assoc, List.cons_append, List.nil_append]
    have e2 : Cnd.cTx (.tpl k (rTx gs i) (rTx gs j) (rTx gs i) (rTx gs j)) = Cnd.kwT k ++ (40 :: ((rTx gs i ++ 44 :: rTx gs j) ++ [41])) := rfl
    rw [e1, repl_skip _ _ hkw, repl_rdR hg hs, repl_skip [44] _ (by decide), repl_rdR hg ht, repl_skip [41] _ (by decide), e2]
    simp only [List.append_assoc, List.cons_append, List.nil_append]
  | .no c, u, ⟨u1, e, h⟩, r => by
    rw [e, List.append_assoc, repl_skip Cnd.notT _ (by decide), repl_ar hg h]
    show _ = (Cnd.notT ++ Cnd.cTx c) ++ _
    rw [List.append_assoc]
  | .two w a b, u, ⟨u1, u2, e, h1, h2⟩, r => by
    have hw : 123 ∉ [32] ++ (Cnd.wdT w ++ [32]) := by cases w <;> decide
    have e1 : u ++ r = [40] ++ (u1 ++ (([32] ++ (Cnd.wdT w ++ [32])) ++ (u2 ++ ([41] ++ r)))) := by
      rw [e]
      simp only [List.append_assoc, List.cons_append, List.nil_append]
    have e2 : Cnd.cTx (.two w a b) = 40 :: (Cnd.cTx a ++ (32 :: (Cnd.wdT w ++ (32 :: (Cnd.cTx b ++ [41]))))) := rfl
    rw [e1, repl_skip [40] _ (by decide), repl_ar hg h1, repl_skip _ _ hw, repl_ar hg h2, repl_skip [41] _ (by decide), e2]
    simp only [List.append_assoc, List.cons_append, List.nil_append]
theorem rep_ar {gs : List Nat} (hg : Good gs) {c : Cnd.Cd} {u : List Nat} (h : Ar gs c u) : Txt.replace (S u) (S (wide1 gs)) (S [123, 125]) = S (Cnd.cTx c) := by
  have e : replL (wide1 gs) [123, 125] u = Cnd.cTx c := by
    have := repl_ar hg h []
    rw [List.append_nil, replL_nil, List.append_nil] at this
    exact this
  refine TL.ext_tl ?_
  show (Txt.replace (S u) (S (wide1 gs)) (S [123, 125])).cps.toList = Cnd.cTx c
  rw [replace_list (by rw [S_len]; show 1 ≤ _ + 1; omega), ← e]
/-- what the law writes reads as it is -/
theorem ar_okc {gs : List Nat} (hg : Good gs) {c : Cnd.Cd} (h : OkC gs c) : Ar gs c (Cnd.cTx c) := by
  induction h with
  | named a b c => exact ⟨rfl, a, b, c⟩
  | mat a b => exact ⟨rfl, a.1 40 0⟩
  | len a b => exact ⟨rfl, a, b⟩
  | @tpl k i j hk hi hj hil hjl => exact ⟨i, j, rTx gs i, rTx gs j, rfl, hk, rd_r hg.lo hi, rd_r hg.lo hj, hi, hj, by omega, by omega, rfl, rfl, rfl, rfl⟩
  | no _ ih => exact ⟨_, rfl, ih⟩
  | two _ _ i j => exact ⟨_, _, rfl, i, j⟩
/-! ### odd texts -/
theorem drop_len {a b : List Nat} {n : Nat} (h : a.length = n) : (a ++ b).drop n = b := by subst h; exact List.drop_left
def mNam (u : List Nat) : Bool := decide (u = Cnd.namT ++ u.drop 6) && (decide (0 < (u.drop 6).length) && (decide ((u.drop 6).length ≤ 8) && (u.drop 6).all fun c => decide (97 ≤ c) && decide (c ≤ 122)))
def mMat (u : List Nat) : Bool := decide (u = Cnd.matT ++ (40 :: ((u.drop 6).dropLast ++ [41]))) && match Cnd.scan [97, 98] 40 0 (u.drop 6).dropLast with
  | some (_, 0) => true
  | _ => false
def mLen (u : List Nat) : Bool := (List.range 61).any fun m => (List.range m).any fun r => decide (u = Cnd.lenT ++ (40 :: ((Cnd.dec r ++ 44 :: Cnd.dec m) ++ [41])))
def rdc (t : List Nat) : Bool := decide (0 < t.length) && t.all fun c => decide (c = 97) || (decide (c = 98) || (decide (c = 123) || (decide (c = 125) || decide (c = 45))))
def mTpl1 (k : Nat) (u v : List Nat) : Bool := decide (u = Cnd.kwT k ++ (40 :: (v ++ [41]))) && (List.range v.length).any fun i => decide (v = v.take i ++ 44 :: v.drop (i + 1)) && (rdc (v.take i) && rdc (v.drop (i + 1)))
def mTpl (u : List Nat) : Bool := (List.range 4).any fun k => mTpl1 k u (u.drop ((Cnd.kwT k).length + 1)).dropLast
def may : Nat → List Nat → Bool
  | 0, _ => false
  | n + 1, u => mNam u || (mMat u || (mLen u || (mTpl u || ((decide (u = Cnd.notT ++ u.drop 4) && may n (u.drop 4)) ||
    (decide (u = 40 :: ((u.drop 1).dropLast ++ [41])) && (List.range (u.drop 1).dropLast.length).any fun i => [true, false].any fun w =>
      decide ((u.drop 1).dropLast.drop i = 32 :: (Cnd.wdT w ++ (32 :: ((u.drop 1).dropLast.drop i).drop ((Cnd.wdT w).length + 2)))) && (may n ((u.drop 1).dropLast.take i) && may n (((u.drop 1).dropLast.drop i).drop ((Cnd.wdT w).length + 2))))))))
theorem forms_pos {gs : List Nat} {its zs : List (List Nat)} (h : Forms gs its zs) : (its ≠ [] → 0 < zs.flatten.length) ∧ ∀ c ∈ zs.flatten, c ∈ gs ∨ c = 123 ∨ c = 125 := by
  induction h with
  | nil => exact ⟨fun h => absurd rfl h, fun _ h => nomatch h⟩
  | @cons x z its zs hf _ ih =>
    have hz : 0 < z.length ∧ ∀ c ∈ z, c ∈ gs ∨ c = 123 ∨ c = 125 := by
      cases hf with
      | one hc => exact ⟨Nat.one_pos, fun d hd => by rcases List.mem_cons.mp hd with rfl | hd
                                                     · exact .inl hc
                                                     · cases hd⟩
      | plain => exact ⟨by decide, fun d hd => by
          rcases List.mem_cons.mp hd with rfl | hd
          · exact .inr (.inl rfl)
          rcases List.mem_cons.mp hd with rfl | hd
          · exact .inr (.inr rfl)
          · cases hd⟩
      | turn hp => exact ⟨by simp, fun d hd => by
          simp only [List.mem_append, List.mem_cons, List.not_mem_nil, or_false] at hd
          rcases hd with (rfl | hd) | rfl
          · exact .inr (.inl rfl)
          · exact .inl (hp.mem_iff.mp hd)
          · exact .inr (.inr rfl)⟩
    refine ⟨fun _ => by rw [List.flatten_cons, List.length_append]; omega, fun c hc => ?_⟩
    rw [List.flatten_cons] at hc
    exact (List.mem_append.mp hc).elim (hz.2 c) (ih.2 c)
theorem rdc_of {i : List (List Nat)} {t : List Nat} (h : Rd [97, 98] i t) : rdc t = true := by
  have key : 0 < t.length ∧ ∀ c ∈ t, (c ∈ [97, 98] ∨ c = 123 ∨ c = 125) ∨ c = 45 := by
    rcases h with ⟨rfl, rfl⟩ | ⟨hne, zs, hf, rfl⟩
    · exact ⟨by decide, fun c hc => .inr (List.mem_singleton.mp hc)⟩
    · exact ⟨(forms_pos hf).1 hne, fun c hc => .inl ((forms_pos hf).2 c hc)⟩
  unfold rdc
  rw [decide_eq_true key.1, Bool.true_and, List.all_eq_true]
  intro c hc
  have := key.2 c hc
  simp only [List.mem_cons, List.not_mem_nil, or_false] at this
  simp only [Bool.or_eq_true, decide_eq_true_eq]
  omega
theorem may_of : ∀ {n : Nat} {c : Cnd.Cd} {u : List Nat}, Ar [97, 98] c u → Cnd.dpt c ≤ n → may n u = true
  | 0, c, u, _, hd => absurd (dpt_pos c) (by omega)
  | n + 1, .named nm, u, ⟨e, h0, h8, h⟩, _ => by
    have ed : u.drop 6 = nm := by rw [e]; exact drop_len rfl
    have : mNam u = true := by
      unfold mNam
      rw [ed, decide_eq_true e, decide_eq_true h0, decide_eq_true h8, Bool.true_and, Bool.true_and, Bool.true_and, List.all_eq_true]
      intro c hc
      have := h c hc
      rw [decide_eq_true this.1, decide_eq_true this.2]
      rfl
    unfold may
    rw [this, Bool.true_or]
  | n + 1, .mat p, u, ⟨e, b, h⟩, _ => by
    have ed : (u.drop 6).dropLast = p := by
      rw [show u.drop 6 = p ++ [41] by rw [e]; rfl]
      exact List.dropLast_concat
    have : mMat u = true := by
      unfold mMat
      rw [ed, decide_eq_true e, h]
      rfl
    unfold may
    rw [this, Bool.true_or, Bool.or_true]
  | n + 1, .len r m, u, ⟨e, h1, h2⟩, _ => by
    have : mLen u = true := by
      unfold mLen
      refine List.any_eq_true.mpr ⟨m, List.mem_range.mpr (by omega), List.any_eq_true.mpr ⟨r, List.mem_range.mpr h1, decide_eq_true e⟩⟩
    unfold may
    rw [this, Bool.true_or, Bool.or_true, Bool.or_true]
  | n + 1, .tpl k a b x y, u, ⟨i, j, s, t, e, hk, hs, ht, _⟩, _ => by
    have ed : (u.drop ((Cnd.kwT k).length + 1)).dropLast = s ++ 44 :: t := by
      rw [show u.drop ((Cnd.kwT k).length + 1) = (s ++ 44 :: t) ++ [41] by rw [e, ← List.drop_drop, List.drop_left]; rfl]
      exact List.dropLast_concat
    have : mTpl u = true := by
      unfold mTpl
      refine List.any_eq_true.mpr ⟨k, List.mem_range.mpr (by omega), ?_⟩
      rw [ed]
      unfold mTpl1
      rw [decide_eq_true e, Bool.true_and]
      refine List.any_eq_true.mpr ⟨s.length, List.mem_range.mpr (by rw [List.length_append, List.length_cons]; omega), ?_⟩
      have e1 : (s ++ 44 :: t).take s.length = s := List.take_left
      have e2 : (s ++ 44 :: t).drop (s.length + 1) = t := by rw [← List.drop_drop, List.drop_left]; rfl
      rw [e1, e2, decide_eq_true rfl, rdc_of hs, rdc_of ht]
      rfl
    unfold may
    rw [this, Bool.true_or, Bool.or_true, Bool.or_true, Bool.or_true]
  | n + 1, .no c, u, ⟨u1, e, h⟩, hd => by
    have hd : Cnd.dpt c + 1 ≤ n + 1 := hd
    have ed : u.drop 4 = u1 := by rw [e]; exact drop_len rfl
    unfold may
    rw [ed, decide_eq_true e, may_of h (by omega)]
    simp only [Bool.true_and, Bool.true_or, Bool.or_true]
  | n + 1, .two w a b, u, ⟨u1, u2, e, h1, h2⟩, hd => by
    have hd : max (Cnd.dpt a) (Cnd.dpt b) + 1 ≤ n + 1 := hd
    have ed : (u.drop 1).dropLast = u1 ++ (32 :: (Cnd.wdT w ++ (32 :: u2))) := by
      rw [show u.drop 1 = (u1 ++ (32 :: (Cnd.wdT w ++ (32 :: u2)))) ++ [41] by rw [e]; simp only [List.drop_succ_cons, List.drop_zero, List.append_assoc, List.cons_append, List.nil_append]]
      exact List.dropLast_concat
    have eu : u = 40 :: ((u1 ++ (32 :: (Cnd.wdT w ++ (32 :: u2)))) ++ [41]) := by rw [e]; simp only [List.append_assoc, List.cons_append, List.nil_append]
    unfold may
    rw [ed, decide_eq_true eu, Bool.true_and]
    refine Bool.or_eq_true _ _ |>.mpr (.inr (Bool.or_eq_true _ _ |>.mpr (.inr (Bool.or_eq_true _ _ |>.mpr (.inr (Bool.or_eq_true _ _ |>.mpr (.inr (Bool.or_eq_true _ _ |>.mpr (.inr ?_)))))))))
    refine List.any_eq_true.mpr ⟨u1.length, List.mem_range.mpr (by rw [List.length_append, List.length_cons]; omega), List.any_eq_true.mpr ⟨w, by cases w <;> decide, ?_⟩⟩
    have e1 : (u1 ++ (32 :: (Cnd.wdT w ++ (32 :: u2)))).take u1.length = u1 := List.take_left
    have e2 : (u1 ++ (32 :: (Cnd.wdT w ++ (32 :: u2)))).drop u1.length = 32 :: (Cnd.wdT w ++ (32 :: u2)) := List.drop_left
    have e3 : (32 :: (Cnd.wdT w ++ (32 :: u2))).drop ((Cnd.wdT w).length + 2) = u2 := by
      show (Cnd.wdT w ++ (32 :: u2)).drop ((Cnd.wdT w).length + 1) = u2
      rw [← List.drop_drop, List.drop_left]
      rfl
    rw [e1, e2, e3, decide_eq_true rfl, may_of h1 (by omega), may_of h2 (by omega)]
    rfl
def oddT : List (List Nat) := ["length(3,3)", "length(01,3)", "length(0,61)", "length(0,0)", "length(1)", "length(-1,3)", "length(0, 3)", "same({},)", "same({}{})", "same({},a,b)", "match(", "match(a", "match(a)b)", "not", "not match(a) ", "named ", "named A", "named abcdefghi", "(match(a) and match(b)", "match(a) and match(b)", "(match(a) nor match(b))", "(match(a))", "less(c,{})", "ends(a}", "begins({},{ac})", "length(100,101)", "match(a**)", "", "a"].map fun s : String => s.toList.map Char.toNat
theorem odd_may : ∀ u ∈ oddT, may 4 u = false := by decide +kernel
theorem odd_cnt : ∀ u ∈ oddT, u.count 32 ≤ 3 := by decide +kernel
theorem odd_no {u : List Nat} (hu : u ∈ oddT) (c : Cnd.Cd) (h : Ar [97, 98] c u) : False := by
  have h1 := dep_ar h
  have h2 := odd_cnt u hu
  have h3 := may_of h (show Cnd.dpt c ≤ 4 by omega)
  rw [odd_may u hu] at h3
  cases h3
end
end
end Own

namespace Own
open PySem PySem.Spec PyProof.Rows L2 SX RZ
section
variable {P : Program} {w : World} {K : PySem.W.Frag} {mg : Str → Option Value} {base : Heap}
def spPtn (n : Nat) : Sp := fun vs H Q _ => ∃ (r : Addr) (gs : List Nat) (d : Nat), vs = [.ref r, tx gs, iv d] ∧ Good gs ∧ d < n ∧ n ≤ 10 ∧ Rng H r ∧ ∀ H' p, Go r H H' → Cnd.Pat gs p → p.length + 3 ≤ 4 * 2 ^ d → Q (tx p) H'
abbrev sPtn : Stmt := topS 58
abbrev ptnN : List Str := ["_law_rng", "_law_signs", "_law_deep", "_law_way", "_law_inner"]
theorem scPtn : FnScope ptnN ["_law_rng", "_law_signs", "_law_deep"] (defScope sPtn) := ⟨rfl, rfl, rfl, by decide +kernel, rfl, by decide +kernel, by decide +kernel⟩
theorem ok_ptn {f : Addr} {fd : FuncData} (F : Fun K "_law_pattern" "_law_pattern" sPtn f fd) {n : Nat} {f1 : Addr} {fd1 : FuncData} (c1 : Cl P w K mg base "_law_draw" 1 ["_law_rng", "_law_sides"] spDraw f1 fd1) {f2 : Addr} {fd2 : FuncData} (c2 : Cl P w K mg base "_law_pick" 2 ["_law_rng", "_law_things"] (spPick K) f2 fd2) {f3 : Addr} {fd3 : FuncData} (c3 : Cl P w K mg base "_law_pattern" (n + 2) ["_law_rng", "_law_signs", "_law_deep"] (spPtn n) f3 fd3) :
    FnOk P w K mg base CX0 (n + 1 + 2) f fd ["_law_rng", "_law_signs", "_law_deep"] (spPtn (n + 1)) := by
  refine F.ok scPtn (fun vs H Q E h => ?_) (fun cdv A outer s H vs Q E hr h => ?_)
  · obtain ⟨r, gs, d, rfl, _⟩ := h
    rfl
  · obtain ⟨r, gs, d, rfl, hg, hd, hn10, R, q⟩ := h
    refine ⟨_, (pss_cons (ps_set (i := 3) scPtn.nd rfl (by first | exact .inl rfl | exact .inr rfl) (pe_cl c1 hr (by omega) (by rfl) (pa_cons (pv 0) (pa_cons pe_int pa_nil))))
      (pss_cons (ps_if (PW.pt (pw_or (pt_cmpR op_eq (pv 2) pe_int (nomark _)) (pw_or1 (pt_cmpR op_eq (pv 3) pe_int (nomark _))))) (pss_one (ps_ret (pe_cl c2 hr (by omega) (by rfl) (pa_cons (pv 0) (pa_cons (pe_lst (pa_cons (pe_cl c2 hr (by omega) (by rfl) (pa_cons (pv 0) (pa_cons (pv 1) pa_nil))) (pa_cons (pe_cl c2 hr (by omega) (by rfl) (pa_cons (pv 0) (pa_cons (pv 1) pa_nil))) (pa_cons pe_str (pa_cons pe_str pa_nil))))) pa_nil))))) pss_nil)
      (pss_cons (ps_if (pt_cmpR op_lt (pv 3) pe_int (nomark _)) (pss_one (ps_ret (pe_op op_add_str (pe_cl c3 hr (by omega) (by rfl) (pa_cons (pv 0) (pa_cons (pv 1) (pa_cons (pe_op op_sub (pv 2) pe_int) pa_nil)))) (pe_cl c3 hr (by omega) (by rfl) (pa_cons (pv 0) (pa_cons (pv 1) (pa_cons (pe_op op_sub (pv 2) pe_int) pa_nil))))))) pss_nil)
      (pss_cons (ps_if (pt_cmpR op_eq (pv 3) pe_int (nomark _)) (pss_one (ps_ret (pe_op op_add_str (pe_op op_add_str pe_str (pe_cl c3 hr (by omega) (by rfl) (pa_cons (pv 0) (pa_cons (pv 1) (pa_cons (pe_op op_sub (pv 2) pe_int) pa_nil))))) pe_str))) pss_nil)
      (pss_cons (ps_if (pt_cmpR op_eq (pv 3) pe_int (nomark _)) (pss_one (ps_ret (pe_op op_add_str (pe_op op_add_str (pe_cl c2 hr (by omega) (by rfl) (pa_cons (pv 0) (pa_cons (pe_op op_add_str (pv 1) pe_str) pa_nil))) pe_str) (pe_cl c3 hr (by omega) (by rfl) (pa_cons (pv 0) (pa_cons (pv 1) (pa_cons (pe_op op_sub (pv 2) pe_int) pa_nil))))))) pss_nil)
      (pss_cons (ps_set (i := 4) scPtn.nd rfl (by first | exact .inl rfl | exact .inr rfl) (pe_op op_add_str (pe_op op_add_str (pe_cl c3 hr (by omega) (by rfl) (pa_cons (pv 0) (pa_cons (pv 1) (pa_cons (pe_op op_sub (pv 2) pe_int) pa_nil)))) pe_str) (pe_cl c3 hr (by omega) (by rfl) (pa_cons (pv 0) (pa_cons (pv 1) (pa_cons (pe_op op_sub (pv 2) pe_int) pa_nil))))))
      (pss_one (ps_ret (pe_ifExp (pt_cmpR op_eq (pv 3) pe_int (nomark _)) (pv 4) (pe_op op_add_str (pe_op op_add_str pe_str (pv 4)) pe_str)))))))))), ?_⟩
    refine ⟨_, rfl, r, 7, rfl, by decide, by decide, R, fun H1 w g1 w0 w7 => ?_⟩
    try dsimp only [gName, tSeq, tAsg, List.set_cons_zero, List.set_cons_succ]
    refine ⟨_, rfl, rfl, _, rfl, ?_⟩
    by_cases hd0 : d = 0
    · rw [decide_eq_true (show V.int ((d : Nat) : Int) = V.int 0 by rw [hd0]; rfl)]
      refine iteT ?_
      refine iteT ?_

      refine ⟨_, rfl, _, rfl, _, rfl, r, _, rfl, g1.rng, .inr ⟨gs, rfl, by have := hg.lo; omega, by have := hg.hi; omega, fun H2 a g2 ha => ?_⟩⟩
      refine ⟨_, rfl, _, rfl, r, _, rfl, g2.rng, .inr ⟨gs, rfl, by have := hg.lo; omega, by have := hg.hi; omega, fun H3 b g3 hb => ?_⟩⟩
      refine ⟨(by show 4 ≤ sizeLine; decide), fun L nL => ?_⟩
      have sL := same_new (o := .lst [tx [a], tx [b], .str (Str.ofString "."), .str (Str.ofString "")]) nL
      have gA := (g1.trans g2).trans g3
      have hLr : L ≠ r := (ne_of_none gA.rng.ex.choose_spec nL).symm
      refine ⟨r, _, rfl, gA.rng.same sL, .inl ⟨L, _, rfl, hLr, sqL upd_same, Nat.succ_pos _, by show 4 ≤ 1000; decide, fun H4 v g4 hv => ?_⟩⟩
      have gF : Go r H H4 := gA.trans (Go.after gA.rng sL g4)
      have hbd : ∀ k : Nat, k ≤ 1 → k + 3 ≤ 4 * 2 ^ d := fun k hk => by have := Nat.one_le_two_pow (n := d); omega
      simp only [List.mem_cons, List.not_mem_nil, or_false] at hv
      rcases hv with rfl | rfl | rfl | rfl
      · exact q H4 [a] gF (Cnd.Pat.one hg.az (.inl ha)) (hbd 1 (Nat.le_refl _))
      · exact q H4 [b] gF (Cnd.Pat.one hg.az (.inl hb)) (hbd 1 (Nat.le_refl _))
      · exact q H4 [46] gF (Cnd.Pat.one hg.az (.inr (.inl rfl))) (hbd 1 (Nat.le_refl _))
      · exact q H4 [] gF Cnd.Pat.nil (hbd 0 (Nat.zero_le _))
    rw [decide_eq_false (show ¬ V.int ((d : Nat) : Int) = V.int 0 from fun e => hd0 (by have := V.int.inj e; omega))]
    refine iteF ?_
    refine ⟨_, rfl, rfl, _, rfl, ?_⟩
    have hveq : [V.ref r, tx gs, V.int (((d : Nat) : Int) - 1)] = [.ref r, tx gs, iv (d - 1)] := by rw [show ((d : Nat) : Int) - 1 = ((d - 1 : Nat) : Int) by omega]
    have hpw : 4 * 2 ^ d = 2 * (4 * 2 ^ (d - 1)) := by
      obtain ⟨e, rfl⟩ : ∃ e, d = e + 1 := ⟨d - 1, by omega⟩
      rw [Nat.add_sub_cancel, Nat.pow_succ]; omega
    have hp1 : 4 * 2 ^ (d - 1) ≤ 4 * 2 ^ 10 := Nat.mul_le_mul_left _ (Nat.pow_le_pow_right (by decide) (by omega))
    have lz : ∀ k : Nat, k ≤ 100000 → k ≤ sizeLine := fun k hk => by rw [sizeLine_eq]; omega
    have e1 : Str.ofString "(" = S [40] := rfl
    have e2 : Str.ofString ")*" = S [41, 42] := rfl
    have e3 : Str.ofString "*" = S [42] := rfl
    have e4 : Str.ofString "|" = S [124] := rfl
    have e5 : Str.ofString ")" = S [41] := rfl
    have e6 : Str.ofString "." = S [46] := rfl
    by_cases hw0 : w = 0
    · subst hw0
      rw [decide_eq_true rfl]
      refine iteT ?_

      refine ⟨_, rfl, _, rfl, _, rfl, r, _, rfl, g1.rng, .inr ⟨gs, rfl, by have := hg.lo; omega, by have := hg.hi; omega, fun H2 a g2 ha => ?_⟩⟩
      refine ⟨_, rfl, _, rfl, r, _, rfl, g2.rng, .inr ⟨gs, rfl, by have := hg.lo; omega, by have := hg.hi; omega, fun H3 b g3 hb => ?_⟩⟩
      refine ⟨(by show 4 ≤ sizeLine; decide), fun L nL => ?_⟩
      have sL := same_new (o := .lst [tx [a], tx [b], .str (Str.ofString "."), .str (Str.ofString "")]) nL
      have gA := (g1.trans g2).trans g3
      have hLr : L ≠ r := (ne_of_none gA.rng.ex.choose_spec nL).symm
      refine ⟨r, _, rfl, gA.rng.same sL, .inl ⟨L, _, rfl, hLr, sqL upd_same, Nat.succ_pos _, by show 4 ≤ 1000; decide, fun H4 v g4 hv => ?_⟩⟩
      have gF : Go r H H4 := gA.trans (Go.after gA.rng sL g4)
      have hbd : ∀ k : Nat, k ≤ 1 → k + 3 ≤ 4 * 2 ^ d := fun k hk => by have := Nat.one_le_two_pow (n := d); omega
      simp only [List.mem_cons, List.not_mem_nil, or_false] at hv
      rcases hv with rfl | rfl | rfl | rfl
      · exact q H4 [a] gF (Cnd.Pat.one hg.az (.inl ha)) (hbd 1 (Nat.le_refl _))
      · exact q H4 [b] gF (Cnd.Pat.one hg.az (.inl hb)) (hbd 1 (Nat.le_refl _))
      · exact q H4 [46] gF (Cnd.Pat.one hg.az (.inr (.inl rfl))) (hbd 1 (Nat.le_refl _))
      · exact q H4 [] gF Cnd.Pat.nil (hbd 0 (Nat.zero_le _))
    rw [decide_eq_false (fun e => hw0 (V.int.inj e))]
    refine iteF ?_
    refine ⟨_, rfl, _, _, rfl, rfl, _, rfl, ?_⟩
    by_cases hw3 : w < 3
    · rw [decide_eq_true hw3]
      refine iteT ?_
      refine ⟨_, rfl, _, rfl, _, rfl, _, _, rfl, rfl, r, gs, d - 1, hveq, hg, by omega, by omega, g1.rng, fun H2 p g2 hp lp => ⟨_, rfl, _, rfl, _, rfl, _, _, rfl, rfl, r, gs, d - 1, hveq, hg, by omega, by omega, g2.rng, fun H3 p2 g3 hp2 lp2 => ⟨_, _, rfl, rfl, by rw [S_len, S_len]; exact lz _ (by omega), ?_⟩⟩⟩
      rw [S_cat]
      exact q _ _ ((g1.trans g2).trans g3) (hp.app hp2) (by rw [List.length_append]; omega)
    rw [decide_eq_false hw3]
    refine iteF ?_
    refine ⟨_, rfl, rfl, _, rfl, ?_⟩
    by_cases h3 : w = 3
    · subst h3
      rw [decide_eq_true rfl]
      refine iteT ?_
      refine ⟨_, rfl, _, rfl, _, rfl, _, _, rfl, rfl, r, gs, d - 1, hveq, hg, by omega, by omega, g1.rng, fun H2 p g2 hp lp => ⟨_, _, rfl, rfl, by rw [e1, S_len, S_len]; exact lz _ (by show 1 + _ ≤ _; omega), _, _, rfl, rfl, by rw [e1, e2, S_cat, S_len, S_len, List.length_append]; exact lz _ (by show 1 + _ + 2 ≤ _; omega), ?_⟩⟩
      rw [e1, e2, S_cat, S_cat]
      have := q _ _ (g1.trans g2) hp.star (by rw [List.length_append, List.length_cons, List.length_append]; show _ + 1 + 1 + 1 + 3 ≤ _; omega)
      rw [show [40] ++ p ++ [41, 42] = (40 :: (p ++ [41])) ++ [42] by simp]
      exact this
    rw [decide_eq_false (fun e => h3 (V.int.inj e))]
    refine iteF ?_
    refine ⟨_, rfl, rfl, _, rfl, ?_⟩
    by_cases h4 : w = 4
    · subst h4
      rw [decide_eq_true rfl]
      refine iteT ?_
      have hgl := hg.hi
      refine ⟨_, rfl, _, rfl, _, _, rfl, rfl, by rw [e6, S_len, S_len]; exact lz _ (by show _ + 1 ≤ _; omega), ?_⟩
      rw [e6, S_cat]
      refine ⟨r, _, rfl, g1.rng, .inr ⟨gs ++ [46], rfl, by rw [List.length_append]; exact Nat.succ_pos _, by rw [List.length_append]; show _ + 1 ≤ _; omega, fun H2 c g2 hc => ?_⟩⟩
      have hc : c ∈ gs ∨ c = 46 := (List.mem_append.mp hc).imp id fun h => List.mem_singleton.mp h
      refine ⟨_, _, rfl, rfl, by rw [e3, S_len, S_len]; exact lz _ (by show 1 + 1 ≤ _; omega), _, rfl, _, rfl, _, rfl, _, _, rfl, rfl, r, gs, d - 1, hveq, hg, by omega, by omega, g2.rng, fun H3 p g3 hp lp => ⟨_, _, rfl, rfl, by rw [e3, S_cat, S_len, S_len]; exact lz _ (by show 2 + _ ≤ _; omega), ?_⟩⟩
      rw [e3, S_cat, S_cat]
      exact q _ _ ((g1.trans g2).trans g3) ((Cnd.Pat.lstar hg.az hc).app hp) (by rw [List.length_append]; show 2 + _ + 3 ≤ _; omega)
    rw [decide_eq_false (fun e => h4 (V.int.inj e))]
    refine iteF ?_
    refine ⟨_, rfl, _, rfl, _, rfl, _, _, rfl, rfl, r, gs, d - 1, hveq, hg, by omega, by omega, g1.rng, fun H2 p g2 hp lp => ⟨_, _, rfl, rfl, by rw [e4, S_len, S_len]; exact lz _ (by show _ + 1 ≤ _; omega), _, rfl, _, rfl, _, rfl, _, _, rfl, rfl, r, gs, d - 1, hveq, hg, by omega, by omega, g2.rng, fun H3 p2 g3 hp2 lp2 => ⟨_, _, rfl, rfl, by rw [e4, S_cat, S_len, S_len, List.length_append]; exact lz _ (by show _ + 1 + _ ≤ _; omega), ?_⟩⟩⟩
    rw [e4, S_cat, S_cat]
    try dsimp only [gName, tSeq, tAsg, List.set_cons_zero, List.set_cons_succ]
    have hin : Cnd.Pat gs (p ++ [124] ++ p2) := (hp.app (Cnd.Pat.one hg.az (.inr (.inr rfl)))).app hp2
    have gA := (g1.trans g2).trans g3
    have hil : (p ++ [124] ++ p2).length = p.length + 1 + p2.length := by rw [List.length_append, List.length_append]; rfl
    refine ⟨_, rfl, rfl, _, rfl, ?_⟩
    by_cases h5 : w = 5
    · subst h5
      rw [decide_eq_true rfl]
      refine iteT ?_
      exact ⟨_, rfl, q _ _ gA hin (by omega)⟩
    rw [decide_eq_false (fun e => h5 (V.int.inj e))]
    refine iteF ?_
    refine ⟨_, rfl, _, _, rfl, rfl, by rw [e1, S_len, S_len]; exact lz _ (by show 1 + _ ≤ _; omega), _, _, rfl, rfl, by rw [e1, e5, S_cat, S_len, S_len, List.length_append]; exact lz _ (by show 1 + _ + 1 ≤ _; omega), ?_⟩
    rw [e1, e5, S_cat, S_cat]
    have := q _ _ gA hin.par (by rw [List.length_cons, List.length_append]; show _ + 1 + 1 + 3 ≤ _; omega)
    rw [show [40] ++ (p ++ [124] ++ p2) ++ [41] = 40 :: ((p ++ [124] ++ p2) ++ [41]) by simp]
    exact this
theorem ptn_all {f f1 f2 : Addr} {fd fd1 fd2 : FuncData} (F : Fun K "_law_pattern" "_law_pattern" sPtn f fd) (c1 : Cl P w K mg base "_law_draw" 1 ["_law_rng", "_law_sides"] spDraw f1 fd1) (c2 : Cl P w K mg base "_law_pick" 2 ["_law_rng", "_law_things"] (spPick K) f2 fd2) (b : Binds K fd ["_law_rng", "_law_signs", "_law_deep"] []) (g : mg "_law_pattern" = some (.ref f)) : ∀ n, FnOk P w K mg base CX0 (n + 2) f fd ["_law_rng", "_law_signs", "_law_deep"] (spPtn n)
  | 0 => ⟨fun vs H Q E h => (by obtain ⟨r, gs, d, _, _, h, _⟩ := h; omega), fun A outer s H args us vs Q E _ _ _ _ h => (by obtain ⟨r, gs, d, _, _, h, _⟩ := h; omega)⟩
  | n + 1 => ok_ptn F c1 c2 ⟨ptn_all F c1 c2 b g n, g, F.kp, b⟩
end
end Own

namespace Own
open PySem PySem.Spec PyProof.Rows L2 SX RZ
section
variable {P : Program} {w : World} {K : PySem.W.Frag} {mg : Str → Option Value} {base : Heap}
theorem rtx_short {gs : List Nat} (hn : gs.length ≤ 3) (hp : 0 < gs.length) {its : List (List Nat)} (h : Row gs its) (hl : its.length ≤ 3) : (rTx gs its).length ≤ 15 := by
  unfold rTx
  split
  · show 1 ≤ 15; omega
  · have := flat_len (f := iTx gs) (m := 5) (its := its) fun x hx => Nat.le_trans iTx_len (by
      rcases h x hx with ⟨c, _, e⟩ | p
      · rw [e]; show 1 + 2 ≤ 5; omega
      · have := p.length_eq; omega)
    omega
theorem dec_short : ∀ n, n ≤ 60 → (Cnd.dec n).length ≤ 2 := by decide +kernel
def spLef : Sp := fun vs H Q _ => ∃ (r : Addr) (gs : List Nat) (m : Nat), vs = [.ref r, tx gs, iv m] ∧ Good gs ∧ m ≤ 3 ∧ gs.length ≤ 3 ∧ 0 < gs.length ∧ Rng H r ∧ ∀ H' v c, Go r H H' → CdH H' c v → OkC gs c → Cnd.leaf c = true → (Cnd.cTx c).length ≤ 60 → Q v H'
abbrev sLef : Stmt := topS 59
abbrev lefN : List Str := ["_law_rng", "_law_signs", "_law_most", "_law_way", "_law_modulus", "_law_mine", "_law_yours"]
theorem scLef : FnScope lefN ["_law_rng", "_law_signs", "_law_most"] (defScope sLef) := ⟨rfl, rfl, rfl, by decide +kernel, rfl, by decide +kernel, by decide +kernel⟩
theorem ok_lef {f : Addr} {fd : FuncData} (F : Fun K "_law_leaf" "_law_leaf" sLef f fd) {f1 : Addr} {fd1 : FuncData} (c1 : Cl P w K mg base "_law_draw" 1 ["_law_rng", "_law_sides"] spDraw f1 fd1) {f2 : Addr} {fd2 : FuncData} (c2 : Cl P w K mg base "_law_pattern" (5 + 2) ["_law_rng", "_law_signs", "_law_deep"] (spPtn 5) f2 fd2) {f3 : Addr} {fd3 : FuncData} (c3 : Cl P w K mg base "_law_items" 3 ["_law_rng", "_law_signs", "_law_most"] spItems f3 fd3) {f4 : Addr} {fd4 : FuncData} (c4 : Cl P w K mg base "_law_text" 1 ["_law_signs", "_law_items_here"] (spLx K) f4 fd4) :
    FnOk P w K mg base CX0 8 f fd ["_law_rng", "_law_signs", "_law_most"] spLef := by
  refine F.ok scLef (fun vs H Q E h => ?_) (fun cdv A outer s H vs Q E hr h => ?_)
  · obtain ⟨r, gs, m, rfl, _⟩ := h
    rfl
  · obtain ⟨r, gs, m, rfl, hg, hm, hn3, hn0, R, q⟩ := h
    refine ⟨_, (pss_cons (ps_set (i := 3) scLef.nd rfl (by first | exact .inl rfl | exact .inr rfl) (pe_cl c1 hr (by decide) (by rfl) (pa_cons (pv 0) (pa_cons pe_int pa_nil))))
      (pss_cons (ps_if (pt_cmpR op_eq (pv 3) pe_int (nomark _)) (pss_one (ps_ret (pe_tup (pa_cons pe_str (pa_cons (pe_cl c2 hr (by decide) (by rfl) (pa_cons (pv 0) (pa_cons (pv 1) (pa_cons pe_int pa_nil)))) pa_nil))))) pss_nil)
      (pss_cons (ps_if (pt_cmpR op_eq (pv 3) pe_int (nomark _)) (pss_cons (ps_set (i := 4) scLef.nd rfl (by first | exact .inl rfl | exact .inr rfl) (pe_op op_add pe_int (pe_cl c1 hr (by decide) (by rfl) (pa_cons (pv 0) (pa_cons pe_int pa_nil)))))
      (pss_one (ps_ret (pe_tup (pa_cons pe_str (pa_cons (pe_cl c1 hr (by decide) (by rfl) (pa_cons (pv 0) (pa_cons (pv 4) pa_nil))) (pa_cons (pv 4) pa_nil))))))) pss_nil)
      (pss_cons (ps_par (i := 5) (j := 6) (by rfl) scLef.nd rfl rfl (by decide) rfl rfl (pa_cons (pe_cl c3 hr (by decide) (by rfl) (pa_cons (pv 0) (pa_cons (pv 1) (pa_cons (pv 2) pa_nil)))) (pa_cons (pe_cl c3 hr (by decide) (by rfl) (pa_cons (pv 0) (pa_cons (pv 1) (pa_cons (pv 2) pa_nil)))) pa_nil)) (by rfl))
      (pss_one (ps_ret (pe_tup (pa_cons (pe_ix (ixL (K := K) rfl) (pe_lst (pa_cons pe_str (pa_cons pe_str (pa_cons pe_str (pa_cons pe_str pa_nil))))) (pe_op op_sub (pv 3) pe_int) (fun _ _ => rfl)) (pa_cons (pe_cl c4 hr (by decide) (by rfl) (pa_cons (pv 1) (pa_cons (pv 5) pa_nil))) (pa_cons (pe_cl c4 hr (by decide) (by rfl) (pa_cons (pv 1) (pa_cons (pv 6) pa_nil))) pa_nil)))))))))), ?_⟩
    refine ⟨_, rfl, r, 6, rfl, by decide, by decide, R, fun H1 w g1 w0 w6 => ?_⟩
    try dsimp only [gName, tSeq, tAsg, List.set_cons_zero, List.set_cons_succ]
    refine ⟨_, rfl, rfl, _, rfl, ?_⟩
    by_cases h0 : w = 0
    · subst h0
      rw [decide_eq_true rfl]
      refine iteT ?_
      refine ⟨_, rfl, _, rfl, r, gs, 2, rfl, hg, by decide, by decide, g1.rng, fun H2 p g2 hp hl => ⟨(by show 2 ≤ sizeLine; decide), fun T nT => ?_⟩⟩
      have gA := g1.trans g2
      exact q _ (.ref T) (.mat p) (gA.same (same_new nT)) ⟨T, rfl, upd_same⟩ (.mat hp (by have : 4 * 2 ^ 2 = 16 := rfl; omega)) rfl (by
        show (Cnd.matT ++ (40 :: (p ++ [41]))).length ≤ 60
        have : 4 * 2 ^ 2 = 16 := rfl
        have : Cnd.matT.length = 5 := rfl
        simp only [List.length_append, List.length_cons, List.length_nil]
        omega)
    rw [decide_eq_false (fun e => h0 (V.int.inj e))]
    refine iteF ?_
    refine ⟨_, rfl, rfl, _, rfl, ?_⟩
    by_cases h1 : w = 1
    · subst h1
      rw [decide_eq_true rfl]
      refine iteT ?_
      refine ⟨_, rfl, r, 4, rfl, by decide, by decide, g1.rng, fun H2 k g2 k0 k4 => ?_⟩
      obtain ⟨j, rfl⟩ := Int.eq_ofNat_of_zero_le k0
      refine ⟨_, _, rfl, rfl, ?_⟩
      try dsimp only [gName, tSeq, tAsg, List.set_cons_zero, List.set_cons_succ]
      have ej : (1 : Int) + Int.ofNat j = ((j + 1 : Nat) : Int) := by show (1 : Int) + (j : Int) = _; omega
      have hj4 : (j : Int) < 4 := k4
      refine ⟨_, rfl, _, rfl, r, _, rfl, by show 0 < (1 : Int) + (j : Int); omega, by show (1 : Int) + (j : Int) < _; omega, g2.rng, fun H3 k2 g3 k20 k24 => ?_⟩
      obtain ⟨i, rfl⟩ := Int.eq_ofNat_of_zero_le k20
      refine ⟨_, rfl, (by show 3 ≤ sizeLine; decide), fun T nT => ?_⟩
      have k24 : (i : Int) < (1 : Int) + (j : Int) := k24
      refine q _ (.ref T) (.len i (j + 1)) (((g1.trans g2).trans g3).same (same_new nT)) ⟨T, rfl, ?_⟩ (.len (by omega) (by omega)) rfl (by
        show (Cnd.lenT ++ (40 :: ((Cnd.dec i ++ 44 :: Cnd.dec (j + 1)) ++ [41]))).length ≤ 60
        have := dec_short i (by omega)
        have := dec_short (j + 1) (by omega)
        have : Cnd.lenT.length = 6 := rfl
        simp only [List.length_append, List.length_cons, List.length_nil]
        omega)
      rw [upd_same]
      show some (HO.tup [V.str (Str.ofString "length"), V.int (i : Int), V.int ((1 : Int) + (j : Int))]) = _
      rw [show (1 : Int) + (j : Int) = ((j + 1 : Nat) : Int) by omega]
    rw [decide_eq_false (fun e => h1 (V.int.inj e))]
    refine iteF ?_
    refine ⟨_, rfl, _, rfl, _, rfl, r, gs, m, rfl, hg, Int.natCast_nonneg _, by omega, g1.rng, fun H2 p1 i1 g2 n1 hp1 r1 l1 => ⟨_, rfl, _, rfl, _, rfl, r, gs, m, rfl, hg, Int.natCast_nonneg _, by omega, g2.rng, fun H3 p2 i2 g3 n2 hp2 r2 l2 => ?_⟩⟩
    refine ⟨_, _, rfl, ?_⟩
    try dsimp only [gName, tSeq, tAsg, List.set_cons_zero, List.set_cons_succ]
    obtain ⟨xr, er⟩ := g1.rng.ex
    have np1 : p1 ≠ r := (ne_of_none er n1).symm
    have hp13 := g3.1 _ _ np1 hp1
    refine ⟨(by show 4 ≤ sizeLine; decide), fun L nL => ?_⟩
    have sL := same_new (o := .lst [V.str (Str.ofString "same"), .str (Str.ofString "begins"), .str (Str.ofString "ends"), .str (Str.ofString "less")]) nL
    obtain ⟨kk, ek⟩ : ∃ kk : Nat, w = (kk : Int) + 2 ∧ kk < 4 := ⟨(w - 2).toNat, by omega, by omega⟩
    obtain ⟨rfl, hk4⟩ := ek
    have gA := ((g1.trans g2).trans g3).same sL
    refine ⟨_, rfl, _, _, rfl, rfl, L, _, (kk : Int), .str (kwS kk), rfl, by show V.int ((kk : Int) + 2 - 2) = _; rw [Int.add_sub_cancel], sqL upd_same, ?_, ?_⟩
    · match kk, hk4 with
      | 0, _ => exact atI_nat (j := 0) rfl
      | 1, _ => exact atI_nat (j := 1) rfl
      | 2, _ => exact atI_nat (j := 2) rfl
      | 3, _ => exact atI_nat (j := 3) rfl
    refine ⟨_, rfl, _, rfl, gs, p1, i1, rfl, hg, r1, by omega, sqL (sL _ _ hp13), fun H4 s4 => ?_⟩
    refine ⟨_, rfl, _, rfl, gs, p2, i2, rfl, hg, r2, by omega, sqL (s4 _ _ (sL _ _ hp2)), fun H5 s5 => ?_⟩
    refine ⟨(by show 3 ≤ sizeLine; decide), fun T nT => ?_⟩
    exact q _ (.ref T) (.tpl kk (rTx gs i1) (rTx gs i2) (rTx gs i1) (rTx gs i2)) (((gA.same s4).same s5).same (same_new nT)) ⟨T, rfl, upd_same⟩ (.tpl (by omega) r1 r2 (by omega) (by omega)) rfl (by
      show (Cnd.kwT kk ++ (40 :: ((rTx gs i1 ++ 44 :: rTx gs i2) ++ [41]))).length ≤ 60
      have := rtx_short hn3 hn0 r1 (by omega)
      have := rtx_short hn3 hn0 r2 (by omega)
      have : (Cnd.kwT kk).length ≤ 6 := by
        match kk, hk4 with
        | 0, _ | 1, _ | 2, _ | 3, _ => decide
      simp only [List.length_append, List.length_cons, List.length_nil]
      omega)
end
end Own

namespace Own
open PySem PySem.Spec PyProof.Rows L2 SX RZ
section
variable {P : Program} {w : World} {K : PySem.W.Frag} {mg : Str → Option Value} {base : Heap}
def spCon (n : Nat) : Sp := fun vs H Q _ => ∃ (r : Addr) (gs : List Nat) (d m : Nat), vs = [.ref r, tx gs, iv d, iv m] ∧ Good gs ∧ d < n ∧ m ≤ 3 ∧ gs.length ≤ 3 ∧ 0 < gs.length ∧ Rng H r ∧ ∀ H' v c, Go r H H' → CdH H' c v → OkC gs c → Cnd.dpt c ≤ d + 1 → Cnd.size c + 1 ≤ 2 ^ (d + 1) → (Cnd.cTx c).length + 7 ≤ 67 * 2 ^ d → Q v H'
theorem leaf_one : ∀ {c : Cnd.Cd}, Cnd.leaf c = true → Cnd.dpt c = 1 ∧ Cnd.size c = 1
  | .named _, _ | .mat _, _ | .len _ _, _ | .tpl _ _ _ _ _, _ => ⟨rfl, rfl⟩
  | .no _, h => by cases h
  | .two _ _ _, h => by cases h
abbrev sCon : Stmt := topS 60
abbrev conN : List Str := ["_law_rng", "_law_signs", "_law_deep", "_law_most", "_law_way", "_law_one"]
theorem scCon : FnScope conN ["_law_rng", "_law_signs", "_law_deep", "_law_most"] (defScope sCon) := ⟨rfl, rfl, rfl, by decide +kernel, rfl, by decide +kernel, by decide +kernel⟩
theorem ok_con {f : Addr} {fd : FuncData} (F : Fun K "_law_condition" "_law_condition" sCon f fd) {n : Nat} {f1 : Addr} {fd1 : FuncData} (c1 : Cl P w K mg base "_law_draw" 1 ["_law_rng", "_law_sides"] spDraw f1 fd1) {f2 : Addr} {fd2 : FuncData} (c2 : Cl P w K mg base "_law_pick" 2 ["_law_rng", "_law_things"] (spPick K) f2 fd2) {f3 : Addr} {fd3 : FuncData} (c3 : Cl P w K mg base "_law_leaf" 8 ["_law_rng", "_law_signs", "_law_most"] spLef f3 fd3) {f4 : Addr} {fd4 : FuncData} (c4 : Cl P w K mg base "_law_condition" (n + 8) ["_law_rng", "_law_signs", "_law_deep", "_law_most"] (spCon n) f4 fd4) :
    FnOk P w K mg base CX0 (n + 1 + 8) f fd ["_law_rng", "_law_signs", "_law_deep", "_law_most"] (spCon (n + 1)) := by
  refine F.ok scCon (fun vs H Q E h => ?_) (fun cdv A outer s H vs Q E hr h => ?_)
  · obtain ⟨r, gs, d, m, rfl, _⟩ := h
    rfl
  · obtain ⟨r, gs, d, m, rfl, hg, hd, hm, hn3, hn0, R, q⟩ := h
    refine ⟨_, (pss_cons (ps_set (i := 4) scCon.nd rfl (by first | exact .inl rfl | exact .inr rfl) (pe_cl c1 hr (by omega) (by rfl) (pa_cons (pv 0) (pa_cons pe_int pa_nil))))
      (pss_cons (ps_if (PW.pt (pw_or (pt_cmpR op_eq (pv 2) pe_int (nomark _)) (pw_or1 (pt_cmpR op_lt (pv 4) pe_int (nomark _))))) (pss_one (ps_ret (pe_cl c3 hr (by omega) (by rfl) (pa_cons (pv 0) (pa_cons (pv 1) (pa_cons (pv 3) pa_nil)))))) pss_nil)
      (pss_cons (ps_if (pt_cmpR op_eq (pv 4) pe_int (nomark _)) (pss_one (ps_ret (pe_tup (pa_cons pe_str (pa_cons (pe_cl c4 hr (by omega) (by rfl) (pa_cons (pv 0) (pa_cons (pv 1) (pa_cons (pe_op op_sub (pv 2) pe_int) (pa_cons (pv 3) pa_nil))))) pa_nil))))) pss_nil)
      (pss_cons (ps_set (i := 5) scCon.nd rfl (by first | exact .inl rfl | exact .inr rfl) (pe_cl c4 hr (by omega) (by rfl) (pa_cons (pv 0) (pa_cons (pv 1) (pa_cons (pe_op op_sub (pv 2) pe_int) (pa_cons (pv 3) pa_nil))))))
      (pss_one (ps_ret (pe_tup (pa_cons (pe_cl c2 hr (by omega) (by rfl) (pa_cons (pv 0) (pa_cons (pe_lst (pa_cons pe_str (pa_cons pe_str pa_nil))) pa_nil))) (pa_cons (pv 5) (pa_cons (pe_cl c4 hr (by omega) (by rfl) (pa_cons (pv 0) (pa_cons (pv 1) (pa_cons (pe_op op_sub (pv 2) pe_int) (pa_cons (pv 3) pa_nil))))) pa_nil)))))))))), ?_⟩
    refine ⟨_, rfl, r, 6, rfl, by decide, by decide, R, fun H1 w g1 w0 w6 => ?_⟩
    try dsimp only [gName, tSeq, tAsg, List.set_cons_zero, List.set_cons_succ]
    refine ⟨_, rfl, rfl, _, rfl, ?_⟩
    by_cases hd0 : d = 0
    · rw [decide_eq_true (show V.int ((d : Nat) : Int) = V.int 0 by rw [hd0]; rfl)]
      refine iteT ?_
      refine iteT ?_
      refine ⟨_, rfl, _, rfl, _, rfl, r, gs, m, rfl, hg, hm, hn3, hn0, g1.rng, fun H2 v c g2 hv hok hlf hcl => ?_⟩
      obtain ⟨l1, l2⟩ := leaf_one hlf
      exact q _ _ _ (g1.trans g2) hv hok (by omega) (by rw [l2]; have := Nat.one_le_two_pow (n := d); rw [Nat.pow_succ]; omega) (by have := Nat.one_le_two_pow (n := d); omega)
    rw [decide_eq_false (show ¬ V.int ((d : Nat) : Int) = V.int 0 from fun e => hd0 (by have := V.int.inj e; omega))]
    refine iteF ?_
    refine ⟨_, rfl, _, _, rfl, rfl, _, rfl, ?_⟩
    by_cases hw3 : w < 3
    · rw [decide_eq_true hw3]
      refine iteT ?_
      refine ⟨_, rfl, _, rfl, _, rfl, r, gs, m, rfl, hg, hm, hn3, hn0, g1.rng, fun H2 v c g2 hv hok hlf hcl => ?_⟩
      obtain ⟨l1, l2⟩ := leaf_one hlf
      exact q _ _ _ (g1.trans g2) hv hok (by omega) (by rw [l2]; have := Nat.one_le_two_pow (n := d); rw [Nat.pow_succ]; omega) (by have := Nat.one_le_two_pow (n := d); omega)
    rw [decide_eq_false hw3]
    refine iteF ?_
    have hveq : [V.ref r, tx gs, V.int (((d : Nat) : Int) - 1), iv m] = [.ref r, tx gs, iv (d - 1), iv m] := by rw [show ((d : Nat) : Int) - 1 = ((d - 1 : Nat) : Int) by omega]
    have hpw : 2 ^ (d + 1) = 2 * 2 ^ (d - 1 + 1) := by rw [show d - 1 + 1 = d by omega, Nat.pow_succ]; omega
    have hpd : 2 ^ d = 2 * 2 ^ (d - 1) := by rw [show d = d - 1 + 1 by omega, Nat.pow_succ]; simp only [Nat.add_sub_cancel]; omega
    have hpd1 : 1 ≤ 2 ^ (d - 1) := Nat.one_le_two_pow
    have hpw1 : 2 ≤ 2 ^ (d - 1 + 1) := by rw [Nat.pow_succ]; have := Nat.one_le_two_pow (n := d - 1); omega
    refine ⟨_, rfl, rfl, _, rfl, ?_⟩
    by_cases h3 : w = 3
    · subst h3
      rw [decide_eq_true rfl]
      refine iteT ?_
      refine ⟨_, rfl, _, rfl, _, rfl, _, _, rfl, rfl, _, rfl, r, gs, d - 1, m, hveq, hg, by omega, hm, hn3, hn0, g1.rng, fun H2 v c g2 hv1 ho1 hd1 hs1 hl1 => ⟨(by show 2 ≤ sizeLine; decide), fun T nT => ?_⟩⟩
      have sT := same_new (o := .tup [V.str (Str.ofString "not"), v]) nT
      exact q _ (.ref T) (.no c) ((g1.trans g2).same sT) ⟨T, v, rfl, upd_same, hv1.same sT⟩ (.no ho1) (by show Cnd.dpt c + 1 ≤ _; omega) (by show Cnd.size c + 1 + 1 ≤ _; omega) (by
        show (Cnd.notT ++ Cnd.cTx c).length + 7 ≤ _
        have : Cnd.notT.length = 4 := rfl
        rw [List.length_append]
        omega)
    rw [decide_eq_false (fun e => h3 (V.int.inj e))]
    refine iteF ?_
    refine ⟨_, rfl, _, rfl, _, rfl, _, _, rfl, rfl, _, rfl, r, gs, d - 1, m, hveq, hg, by omega, hm, hn3, hn0, g1.rng, fun H2 v c g2 hv1 ho1 hd1 hs1 hl1 => ?_⟩
    try dsimp only [gName, tSeq, tAsg, List.set_cons_zero, List.set_cons_succ]
    refine ⟨_, rfl, (by show 2 ≤ sizeLine; decide), fun L nL => ?_⟩
    have sL := same_new (o := .lst [V.str (Str.ofString "and"), .str (Str.ofString "or")]) nL
    have gA := g1.trans g2
    obtain ⟨xr, er⟩ := gA.rng.ex
    have hLr : L ≠ r := (ne_of_none er nL).symm
    refine ⟨r, _, rfl, gA.rng.same sL, .inl ⟨L, _, rfl, hLr, sqL upd_same, Nat.succ_pos _, by show 2 ≤ 1000; decide, fun H3 wd g3 hwd => ?_⟩⟩
    have hv1L := (hv1.same sL).go (gA.rng.same sL) g3
    have gB := (gA.same sL).trans g3
    obtain ⟨b, rfl⟩ : ∃ b : Bool, wd = .str (wdS b) := by
      simp only [List.mem_cons, List.not_mem_nil, or_false] at hwd
      rcases hwd with rfl | rfl
      · exact ⟨true, rfl⟩
      · exact ⟨false, rfl⟩
    refine ⟨_, rfl, _, rfl, _, rfl, _, rfl, _, _, rfl, rfl, _, rfl, r, gs, d - 1, m, hveq, hg, by omega, hm, hn3, hn0, gB.rng, fun H4 v2 c2 g4 hv2 ho2 hd2 hs2 hl2 => ⟨(by show 3 ≤ sizeLine; decide), fun T nT => ?_⟩⟩
    have sT := same_new (o := .tup [V.str (wdS b), v, v2]) nT
    have hv1F := hv1L.go gB.rng g4
    exact q _ (.ref T) (.two b c c2) ((gB.trans g4).same sT) ⟨T, v, v2, rfl, upd_same, hv1F.same sT, hv2.same sT⟩ (.two ho1 ho2) (by show max (Cnd.dpt c) (Cnd.dpt c2) + 1 ≤ _; omega) (by show Cnd.size c + Cnd.size c2 + 1 + 1 ≤ _; omega) (by
      show (40 :: (Cnd.cTx c ++ (32 :: (Cnd.wdT b ++ (32 :: (Cnd.cTx c2 ++ [41])))))).length + 7 ≤ _
      have : (Cnd.wdT b).length ≤ 3 := by cases b <;> decide
      simp only [List.length_append, List.length_cons, List.length_nil]
      omega)
theorem con_all {f f1 f2 f3 : Addr} {fd fd1 fd2 fd3 : FuncData} (F : Fun K "_law_condition" "_law_condition" sCon f fd) (c1 : Cl P w K mg base "_law_draw" 1 ["_law_rng", "_law_sides"] spDraw f1 fd1) (c2 : Cl P w K mg base "_law_pick" 2 ["_law_rng", "_law_things"] (spPick K) f2 fd2) (c3 : Cl P w K mg base "_law_leaf" 8 ["_law_rng", "_law_signs", "_law_most"] spLef f3 fd3) (b : Binds K fd ["_law_rng", "_law_signs", "_law_deep", "_law_most"] []) (g : mg "_law_condition" = some (.ref f)) : ∀ n, FnOk P w K mg base CX0 (n + 8) f fd ["_law_rng", "_law_signs", "_law_deep", "_law_most"] (spCon n)
  | 0 => ⟨fun vs H Q E h => (by obtain ⟨r, gs, d, m, _, _, h, _⟩ := h; omega), fun A outer s H args us vs Q E _ _ _ _ h => (by obtain ⟨r, gs, d, m, _, _, h, _⟩ := h; omega)⟩
  | n + 1 => ok_con F c1 c2 c3 ⟨con_all F c1 c2 c3 b g n, g, F.kp, b⟩
end
end Own

namespace Own
open PySem PySem.Spec PyProof.Rows L2 SX RZ
section
variable {P : Program} {w : World} {K : PySem.W.Frag} {mg : Str → Option Value} {base : Heap}
def spCtx (n : Nat) : Sp := fun vs H Q _ => ∃ (gs : List Nat) (c : Cnd.Cd) (v : V), vs = [v] ∧ OkC gs c ∧ CdH H c v ∧ Cnd.dpt c ≤ n ∧ (Cnd.cTx c).length ≤ 100000 ∧ ∀ H', Same H H' → Q (tx (Cnd.cTx c)) H'
abbrev sCtx : Stmt := topS 61
abbrev ctxN : List Str := ["_law_condition_here", "_law_word", "_law_parts"]
theorem scCtx : FnScope ctxN ["_law_condition_here"] (defScope sCtx) := ⟨rfl, rfl, rfl, by decide +kernel, rfl, by decide +kernel, by decide +kernel⟩
theorem ok_ctx {f : Addr} {fd : FuncData} (F : Fun K "_law_condition_text" "_law_condition_text" sCtx f fd) {n : Nat} {f1 : Addr} {fd1 : FuncData} (c1 : Cl P w K mg base "_law_condition_text" n ["_law_condition_here"] (spCtx n) f1 fd1) (m_str : mg "str" = none) :
    FnOk P w K mg base CX0 (n + 1) f fd ["_law_condition_here"] (spCtx (n + 1)) := by
  refine F.ok scCtx (fun vs H Q E h => ?_) (fun cdv A outer s H vs Q E hr h => ?_)
  · obtain ⟨gs, c, v, rfl, _⟩ := h
    rfl
  · obtain ⟨gs, c, v, rfl, hok, hv, hdp, hl, q⟩ := h
    refine ⟨_, (pss_cons (ps_set (i := 1) scCtx.nd rfl (by first | exact .inl rfl | exact .inr rfl) (pe_ix (ixT (K := K) rfl) (pv 0) pe_int (fun _ _ => rfl)))
      (pss_cons (ps_if (pt_cmpR op_eq (pv 1) pe_str (nomark _)) (pss_one (ps_ret (pe_op op_add_str pe_str (pe_cl c1 hr (by omega) (by rfl) (pa_cons (pe_ix (ixT (K := K) rfl) (pv 0) pe_int (fun _ _ => rfl)) pa_nil))))) pss_nil)
      (pss_cons (ps_if (pt_cmpR op_eq (pv 1) pe_str (nomark _)) (pss_one (ps_ret (pe_op op_add_str pe_str (pe_ix (ixT (K := K) rfl) (pv 0) pe_int (fun _ _ => rfl))))) pss_nil)
      (pss_cons (ps_if (pt_cmpR op_eq (pv 1) pe_str (nomark _)) (pss_one (ps_ret (pe_op op_add_str (pe_op op_add_str pe_str (pe_ix (ixT (K := K) rfl) (pv 0) pe_int (fun _ _ => rfl))) pe_str))) pss_nil)
      (pss_cons (ps_if (pt_cmpR op_in_seq (pv 1) (pe_tup (pa_cons pe_str (pa_cons pe_str pa_nil))) (by rfl)) (pss_cons (ps_set (i := 2) scCtx.nd rfl (by first | exact .inl rfl | exact .inr rfl) (pe_lst (pa_cons (pe_cl c1 hr (by omega) (by rfl) (pa_cons (pe_ix (ixT (K := K) rfl) (pv 0) pe_int (fun _ _ => rfl)) pa_nil)) (pa_cons (pe_cl c1 hr (by omega) (by rfl) (pa_cons (pe_ix (ixT (K := K) rfl) (pv 0) pe_int (fun _ _ => rfl)) pa_nil)) pa_nil))))
      (pss_one (ps_ret (pe_op op_add_str (pe_op op_add_str (pe_op op_add_str (pe_op op_add_str (pe_op op_add_str (pe_op op_add_str pe_str (pe_ix (ixL (K := K) rfl) (pv 2) pe_int (fun _ _ => rfl))) pe_str) (pv 1)) pe_str) (pe_ix (ixL (K := K) rfl) (pv 2) pe_int (fun _ _ => rfl))) pe_str)))) pss_nil)
      (pss_one (ps_ret (pe_op op_add_str (pe_op op_add_str (pe_op op_add_str (pe_op op_add_str (pe_op op_add_str (pv 1) pe_str) (pe_callTy (call_str_int.or SkE.call_str_str) (by rfl) m_str (by decide +kernel) (pa_cons (pe_ix (ixT (K := K) rfl) (pv 0) pe_int (fun _ _ => rfl)) pa_nil))) pe_str) (pe_callTy (call_str_int.or SkE.call_str_str) (by rfl) m_str (by decide +kernel) (pa_cons (pe_ix (ixT (K := K) rfl) (pv 0) pe_int (fun _ _ => rfl)) pa_nil))) pe_str)))))))), ?_⟩
    have e4 : Str.ofString "not " = S [110, 111, 116, 32] := rfl
    have e6 : Str.ofString "named " = S [110, 97, 109, 101, 100, 32] := rfl
    have e7 : Str.ofString "match(" = S [109, 97, 116, 99, 104, 40] := rfl
    have e1 : Str.ofString "(" = S [40] := rfl
    have e2 : Str.ofString ")" = S [41] := rfl
    have e3 : Str.ofString " " = S [32] := rfl
    have e5 : Str.ofString "," = S [44] := rfl
    have lz : ∀ k : Nat, k ≤ 100100 → k ≤ sizeLine := fun k hk => by rw [sizeLine_eq]; omega
    have go : ∀ (a : Addr) (k : Str) (els : List V), v = .ref a → H a = some (.tup (.str k :: els)) → True := fun _ _ _ _ _ => True.intro
    cases hok with
    | @named nm h0 h8 hn =>
      obtain ⟨a, rfl, ha⟩ := hv
      refine ⟨_, rfl, a, _, 0, _, rfl, rfl, sqT ha, atI_nat (j := 0) rfl, ?_⟩
      try dsimp only [gName, tSeq, tAsg, List.set_cons_zero, List.set_cons_succ]
      refine ⟨_, rfl, rfl, _, rfl, ?_⟩
      rw [decide_eq_false (by decide +kernel)]
      refine iteF ?_
      refine ⟨_, rfl, rfl, _, rfl, ?_⟩
      rw [decide_eq_true rfl]
      refine iteT ?_
      have hcl : (Cnd.cTx (.named nm)).length = 6 + nm.length := by show (Cnd.namT ++ nm).length = _; rw [List.length_append]; rfl
      rw [e6]
      refine ⟨_, rfl, a, _, 1, _, rfl, rfl, sqT ha, atI_nat (j := 1) rfl, _, _, rfl, rfl, (by simp only [S_cat, S_len, List.length_cons, List.length_append, List.length_nil]; exact lz _ (by omega)), ?_⟩
      rw [S_cat]
      exact q _ (Same.refl _)
    | @mat p hp hl1 =>
      obtain ⟨a, rfl, ha⟩ := hv
      refine ⟨_, rfl, a, _, 0, _, rfl, rfl, sqT ha, atI_nat (j := 0) rfl, ?_⟩
      try dsimp only [gName, tSeq, tAsg, List.set_cons_zero, List.set_cons_succ]
      refine ⟨_, rfl, rfl, _, rfl, ?_⟩
      rw [decide_eq_false (by decide +kernel)]
      refine iteF ?_
      refine ⟨_, rfl, rfl, _, rfl, ?_⟩
      rw [decide_eq_false (by decide +kernel)]
      refine iteF ?_
      refine ⟨_, rfl, rfl, _, rfl, ?_⟩
      rw [decide_eq_true rfl]
      refine iteT ?_
      rw [e7, e2]
      refine ⟨_, rfl, a, _, 1, _, rfl, rfl, sqT ha, atI_nat (j := 1) rfl, _, _, rfl, rfl, (by simp only [S_cat, S_len, List.length_cons, List.length_append, List.length_nil]; exact lz _ (by omega)), _, _, rfl, rfl, (by simp only [S_cat, S_len, List.length_cons, List.length_append, List.length_nil]; exact lz _ (by omega)), ?_⟩
      rw [S_cat, S_cat]
      have := q H (Same.refl _)
      rw [show [109, 97, 116, 99, 104, 40] ++ p ++ [41] = Cnd.cTx (.mat p) by show _ = Cnd.matT ++ (40 :: (p ++ [41])); simp]
      exact this
    | @len r m h1 h2 =>
      obtain ⟨a, rfl, ha⟩ := hv
      refine ⟨_, rfl, a, _, 0, _, rfl, rfl, sqT ha, atI_nat (j := 0) rfl, ?_⟩
      try dsimp only [gName, tSeq, tAsg, List.set_cons_zero, List.set_cons_succ]
      refine ⟨_, rfl, rfl, _, rfl, ?_⟩
      rw [decide_eq_false (by decide +kernel)]
      refine iteF ?_
      refine ⟨_, rfl, rfl, _, rfl, ?_⟩
      rw [decide_eq_false (by decide +kernel)]
      refine iteF ?_
      refine ⟨_, rfl, rfl, _, rfl, ?_⟩
      rw [decide_eq_false (by decide +kernel)]
      refine iteF ?_
      refine ⟨_, rfl, (by show 2 ≤ sizeLine; decide), fun T nT => ⟨T, _, rfl, .inr (sqT upd_same), rfl, rfl, _, rfl, ?_⟩⟩
      have sT := same_new (o := .tup [V.str (Str.ofString "and"), V.str (Str.ofString "or")]) nT
      have ha1 := sT _ _ ha
      generalize upd H T _ = H1 at sT ha1 ⊢
      rw [show (if false = true then !inV (.str (Str.ofString "length")) [.str (Str.ofString "and"), .str (Str.ofString "or")] else inV (.str (Str.ofString "length")) [.str (Str.ofString "and"), .str (Str.ofString "or")]) = false by decide +kernel]
      refine iteF ?_
      rw [e1, e2, e5]
      have hlog : ∀ r : Nat, r ≤ 60 → ((r : Int)).natAbs.log2 < 1920 := by decide +kernel
      have hdl : ∀ r : Nat, r ≤ 60 → (Cnd.dec r).length ≤ 2 := by decide +kernel
      have hr2 := hdl r (by omega)
      have hm2 := hdl m h2
      rw [show Str.ofString "length" = S Cnd.lenT from rfl]
      refine ⟨_, rfl, _, _, rfl, rfl, (by simp only [S_cat, S_len, List.length_cons, List.length_append, List.length_nil]; exact lz _ (by show _ ≤ 100100; have : Cnd.lenT.length = 6 := rfl; omega)), _, rfl, a, _, 1, _, rfl, rfl, sqT ha1, atI_nat (j := 1) rfl, .inl ⟨_, rfl, hlog r (by omega), ?_⟩⟩
      rw [dec_to r (by omega)]
      refine ⟨_, _, rfl, rfl, (by simp only [S_cat, S_len, List.length_cons, List.length_append, List.length_nil]; exact lz _ (by show _ ≤ 100100; have : Cnd.lenT.length = 6 := rfl; omega)), _, _, rfl, rfl, (by simp only [S_cat, S_len, List.length_cons, List.length_append, List.length_nil]; exact lz _ (by show _ ≤ 100100; have : Cnd.lenT.length = 6 := rfl; omega)), _, rfl, a, _, 2, _, rfl, rfl, sqT ha1, atI_nat (j := 2) rfl, .inl ⟨_, rfl, hlog m h2, ?_⟩⟩
      rw [dec_to m h2]
      refine ⟨_, _, rfl, rfl, (by simp only [S_cat, S_len, List.length_cons, List.length_append, List.length_nil]; exact lz _ (by show _ ≤ 100100; have : Cnd.lenT.length = 6 := rfl; omega)), _, _, rfl, rfl, (by simp only [S_cat, S_len, List.length_cons, List.length_append, List.length_nil]; exact lz _ (by show _ ≤ 100100; have : Cnd.lenT.length = 6 := rfl; omega)), ?_⟩
      rw [S_cat, S_cat, S_cat, S_cat, S_cat]
      have := q _ sT
      rw [show Cnd.lenT ++ [40] ++ Cnd.dec r ++ [44] ++ Cnd.dec m ++ [41] = Cnd.cTx (.len r m) by show _ = Cnd.lenT ++ (40 :: ((Cnd.dec r ++ 44 :: Cnd.dec m) ++ [41])); simp]
      exact this
    | @tpl k i j hk hi hj li lj =>
      obtain ⟨a, rfl, ha⟩ := hv
      obtain ⟨kk1, kk2, kk3, kk4, kk5⟩ : V.str (kwS k) ≠ .str (Str.ofString "not") ∧ V.str (kwS k) ≠ .str (Str.ofString "named") ∧ V.str (kwS k) ≠ .str (Str.ofString "match") ∧ inV (.str (kwS k)) [.str (Str.ofString "and"), .str (Str.ofString "or")] = false ∧ kwS k = S (Cnd.kwT k) := by
        match k, hk with
        | 0, _ | 1, _ | 2, _ | 3, _ => exact ⟨by decide +kernel, by decide +kernel, by decide +kernel, by decide +kernel, by decide +kernel⟩
      refine ⟨_, rfl, a, _, 0, _, rfl, rfl, sqT ha, atI_nat (j := 0) rfl, ?_⟩
      try dsimp only [gName, tSeq, tAsg, List.set_cons_zero, List.set_cons_succ]
      refine ⟨_, rfl, rfl, _, rfl, ?_⟩
      rw [decide_eq_false kk1]
      refine iteF ?_
      refine ⟨_, rfl, rfl, _, rfl, ?_⟩
      rw [decide_eq_false kk2]
      refine iteF ?_
      refine ⟨_, rfl, rfl, _, rfl, ?_⟩
      rw [decide_eq_false kk3]
      refine iteF ?_
      refine ⟨_, rfl, (by show 2 ≤ sizeLine; decide), fun T nT => ⟨T, _, rfl, .inr (sqT upd_same), rfl, rfl, _, rfl, ?_⟩⟩
      have sT := same_new (o := .tup [V.str (Str.ofString "and"), V.str (Str.ofString "or")]) nT
      have ha1 := sT _ _ ha
      generalize upd H T _ = H1 at sT ha1 ⊢
      rw [show (if false = true then !inV (.str (kwS k)) [.str (Str.ofString "and"), .str (Str.ofString "or")] else inV (.str (kwS k)) [.str (Str.ofString "and"), .str (Str.ofString "or")]) = false from kk4]
      refine iteF ?_
      have hcl : (Cnd.cTx (.tpl k (rTx gs i) (rTx gs j) (rTx gs i) (rTx gs j))).length = (Cnd.kwT k).length + (1 + ((rTx gs i).length + (1 + ((rTx gs j).length + 1)))) := by
        show (Cnd.kwT k ++ (40 :: ((rTx gs i ++ 44 :: rTx gs j) ++ [41]))).length = _
        simp only [List.length_cons, List.length_append, List.length_nil]
        omega
      rw [e1, e2, e5, kk5]
      refine ⟨_, rfl, _, _, rfl, rfl, (by simp only [S_cat, S_len, List.length_cons, List.length_append, List.length_nil]; exact lz _ (by omega)), _, rfl, a, _, 1, _, rfl, rfl, sqT ha1, atI_nat (j := 1) rfl, .inr ⟨_, rfl, ?_⟩⟩
      refine ⟨_, _, rfl, rfl, (by simp only [S_cat, S_len, List.length_cons, List.length_append, List.length_nil]; exact lz _ (by omega)), _, _, rfl, rfl, (by simp only [S_cat, S_len, List.length_cons, List.length_append, List.length_nil]; exact lz _ (by omega)), _, rfl, a, _, 2, _, rfl, rfl, sqT ha1, atI_nat (j := 2) rfl, .inr ⟨_, rfl, ?_⟩⟩
      refine ⟨_, _, rfl, rfl, (by simp only [S_cat, S_len, List.length_cons, List.length_append, List.length_nil]; exact lz _ (by omega)), _, _, rfl, rfl, (by simp only [S_cat, S_len, List.length_cons, List.length_append, List.length_nil]; exact lz _ (by omega)), ?_⟩
      rw [S_cat, S_cat, S_cat, S_cat, S_cat]
      have := q _ sT
      rw [show Cnd.kwT k ++ [40] ++ rTx gs i ++ [44] ++ rTx gs j ++ [41] = Cnd.cTx (.tpl k (rTx gs i) (rTx gs j) (rTx gs i) (rTx gs j)) by show _ = Cnd.kwT k ++ (40 :: ((rTx gs i ++ 44 :: rTx gs j) ++ [41])); simp]
      exact this
    | @no c hc =>
      obtain ⟨a, x, rfl, ha, hx⟩ := hv
      have hdc : Cnd.dpt c + 1 ≤ n + 1 := hdp
      have hcl : (Cnd.cTx (.no c)).length = 4 + (Cnd.cTx c).length := by show (Cnd.notT ++ Cnd.cTx c).length = _; rw [List.length_append]; rfl
      refine ⟨_, rfl, a, _, 0, _, rfl, rfl, sqT ha, atI_nat (j := 0) rfl, ?_⟩
      try dsimp only [gName, tSeq, tAsg, List.set_cons_zero, List.set_cons_succ]
      refine ⟨_, rfl, rfl, _, rfl, ?_⟩
      rw [decide_eq_true rfl]
      refine iteT ?_
      rw [e4]
      refine ⟨_, rfl, a, _, 1, _, rfl, rfl, sqT ha, atI_nat (j := 1) rfl, gs, c, x, rfl, hc, hx, by omega, by omega, fun H1 s1 => ⟨_, _, rfl, rfl, (by simp only [S_cat, S_len, List.length_cons, List.length_append, List.length_nil]; exact lz _ (by omega)), ?_⟩⟩
      rw [S_cat]
      exact q _ s1
    | @two w c d hc hd =>
      obtain ⟨a, x, y, rfl, ha, hx, hy⟩ := hv
      have hdc : max (Cnd.dpt c) (Cnd.dpt d) + 1 ≤ n + 1 := hdp
      have hcl : (Cnd.cTx (.two w c d)).length = 1 + ((Cnd.cTx c).length + (1 + ((Cnd.wdT w).length + (1 + ((Cnd.cTx d).length + 1))))) := by
        show (40 :: (Cnd.cTx c ++ (32 :: (Cnd.wdT w ++ (32 :: (Cnd.cTx d ++ [41])))))).length = _
        simp only [List.length_cons, List.length_append, List.length_nil]
        omega
      refine ⟨_, rfl, a, _, 0, _, rfl, rfl, sqT ha, atI_nat (j := 0) rfl, ?_⟩
      try dsimp only [gName, tSeq, tAsg, List.set_cons_zero, List.set_cons_succ]
      refine ⟨_, rfl, rfl, _, rfl, ?_⟩
      rw [decide_eq_false (by cases w <;> decide +kernel)]
      refine iteF ?_
      refine ⟨_, rfl, rfl, _, rfl, ?_⟩
      rw [decide_eq_false (by cases w <;> decide +kernel)]
      refine iteF ?_
      refine ⟨_, rfl, rfl, _, rfl, ?_⟩
      rw [decide_eq_false (by cases w <;> decide +kernel)]
      refine iteF ?_
      refine ⟨_, rfl, (by show 2 ≤ sizeLine; decide), fun T nT => ⟨T, _, rfl, .inr (sqT upd_same), rfl, rfl, _, rfl, ?_⟩⟩
      have sT := same_new (o := .tup [V.str (Str.ofString "and"), V.str (Str.ofString "or")]) nT
      have ha1 := sT _ _ ha
      have hx1 := hx.same sT
      have hy1 := hy.same sT
      generalize upd H T _ = H1 at sT ha1 hx1 hy1 ⊢
      rw [show (if false = true then !inV (.str (wdS w)) [.str (Str.ofString "and"), .str (Str.ofString "or")] else inV (.str (wdS w)) [.str (Str.ofString "and"), .str (Str.ofString "or")]) = true by cases w <;> decide +kernel]
      refine iteT ?_
      refine ⟨_, rfl, a, _, 1, _, rfl, rfl, sqT ha1, atI_nat (j := 1) rfl, gs, c, x, rfl, hc, hx1, by omega, by omega, fun H2 s2 => ⟨_, rfl, a, _, 2, _, rfl, rfl, sqT (s2 _ _ ha1), atI_nat (j := 2) rfl, gs, d, y, rfl, hd, hy1.same s2, by omega, by omega, fun H3 s3 => ⟨(by show 2 ≤ sizeLine; decide), fun L nL => ?_⟩⟩⟩
      have sL := same_new (o := .lst [tx (Cnd.cTx c), tx (Cnd.cTx d)]) nL
      have hL : upd H3 L (.lst [tx (Cnd.cTx c), tx (Cnd.cTx d)]) L = some (.lst [tx (Cnd.cTx c), tx (Cnd.cTx d)]) := upd_same
      try dsimp only [gName, tSeq, tAsg, List.set_cons_zero, List.set_cons_succ]
      rw [e1, e2, e3, wdS_T]
      refine ⟨_, rfl, L, _, 0, _, rfl, rfl, sqL hL, atI_nat (j := 0) rfl, _, _, rfl, rfl, (by simp only [S_cat, S_len, List.length_cons, List.length_append, List.length_nil]; exact lz _ (by omega)), _, _, rfl, rfl, (by simp only [S_cat, S_len, List.length_cons, List.length_append, List.length_nil]; exact lz _ (by omega)), _, rfl, _, _, rfl, rfl, (by simp only [S_cat, S_len, List.length_cons, List.length_append, List.length_nil]; exact lz _ (by omega)), _, _, rfl, rfl, (by simp only [S_cat, S_len, List.length_cons, List.length_append, List.length_nil]; exact lz _ (by omega)), _, rfl, L, _, 1, _, rfl, rfl, sqL hL, atI_nat (j := 1) rfl, _, _, rfl, rfl, (by simp only [S_cat, S_len, List.length_cons, List.length_append, List.length_nil]; exact lz _ (by omega)), _, _, rfl, rfl, (by simp only [S_cat, S_len, List.length_cons, List.length_append, List.length_nil]; exact lz _ (by omega)), ?_⟩
      rw [S_cat, S_cat, S_cat, S_cat, S_cat, S_cat]
      have := q _ (sT.trans (s2.trans (s3.trans sL)))
      rw [show [40] ++ Cnd.cTx c ++ [32] ++ Cnd.wdT w ++ [32] ++ Cnd.cTx d ++ [41] = Cnd.cTx (.two w c d) by show _ = 40 :: (Cnd.cTx c ++ (32 :: (Cnd.wdT w ++ (32 :: (Cnd.cTx d ++ [41]))))); simp]
      exact this
theorem ctx_all {f : Addr} {fd : FuncData} (F : Fun K "_law_condition_text" "_law_condition_text" sCtx f fd) (b : Binds K fd ["_law_condition_here"] []) (g : mg "_law_condition_text" = some (.ref f)) (m_str : mg "str" = none) : ∀ n, FnOk P w K mg base CX0 n f fd ["_law_condition_here"] (spCtx n)
  | 0 => ⟨fun vs H Q E h => (by obtain ⟨gs, c, v, _, _, _, h, _⟩ := h; exact absurd (dpt_pos c) (by omega)), fun A outer s H args us vs Q E _ _ _ _ h => (by obtain ⟨gs, c, v, _, _, _, h, _⟩ := h; exact absurd (dpt_pos c) (by omega))⟩
  | n + 1 => ok_ctx F ⟨ctx_all F b g m_str n, g, F.kp, b⟩ m_str
end
end Own

namespace Own
open PySem PySem.Spec PyProof.Rows L2 SX RZ
section
variable {P : Program} {w : World} {K : PySem.W.Frag} {mg : Str → Option Value} {base : Heap}
theorem row_nosp {gs : List Nat} (hg : Good gs) {its : List (List Nat)} (h : Row gs its) : ∀ s ∈ rTx gs its, s ≠ 32 := by
  have hr := rd_r hg.lo h
  have key : ∀ s ∈ rTx gs its, (s ∈ gs ∨ s = 123 ∨ s = 125) ∨ s = 45 := by
    rcases hr with ⟨e, e2⟩ | ⟨hne, zs, hf, e⟩
    · rw [e2]; exact fun c hc => .inr (List.mem_singleton.mp hc)
    · rw [e]; exact fun c hc => .inl ((forms_pos hf).2 c hc)
  intro s hs
  rcases key s hs with (k | k | k) | k
  · have := hg.az _ k; omega
  all_goals omega
theorem noc {l : List Nat} (h : ∀ s ∈ l, s ≠ 32) : l.count 32 = 0 := List.count_eq_zero.mpr fun m => h _ m rfl
/-- what is drawn: its spaces and its signs -/
theorem spc_c {gs : List Nat} (hg : Good gs) {c : Cnd.Cd} (h : OkC gs c) : (Cnd.cTx c).count 32 ≤ 2 * Cnd.size c ∧ ∀ s ∈ Cnd.cTx c, s < 128 := by
  induction h with
  | @named n a b h =>
    refine ⟨?_, fun s hs => ?_⟩
    · show (Cnd.namT ++ n).count 32 ≤ 2
      rw [List.count_append, noc (l := n) (fun s hs => by have := h s hs; omega)]
      decide
    · rcases List.mem_append.mp hs with hs | hs
      · exact (by decide : ∀ s ∈ Cnd.namT, s < 128) s hs
      · have := h s hs; omega
  | @mat p h hl =>
    obtain ⟨b, hb⟩ := h.1 40 0
    have hm := scan_mem hb
    have hp : ∀ s ∈ p, s ≠ 32 ∧ s < 128 := fun s hs => by
      rcases hm s hs with k | k | k | k | k | k
      · have := hg.az _ k; omega
      all_goals (subst k; decide)
    refine ⟨?_, fun s hs => ?_⟩
    · show (Cnd.matT ++ (40 :: (p ++ [41]))).count 32 ≤ 2
      have e1 : Cnd.matT.count 32 = 0 := by decide
      rw [List.count_append, e1, List.count_cons_of_ne (by decide), List.count_append, noc (l := p) (fun s hs => (hp s hs).1)]
      decide
    · rcases List.mem_append.mp hs with hs | hs
      · exact (by decide : ∀ s ∈ Cnd.matT, s < 128) s hs
      rcases List.mem_cons.mp hs with rfl | hs
      · decide
      rcases List.mem_append.mp hs with hs | hs
      · exact (hp s hs).2
      · rw [List.mem_singleton.mp hs]; decide
  | @len r m h1 h2 =>
    have hr := dec_no r (by omega)
    have hm := dec_no m h2
    refine ⟨?_, fun s hs => ?_⟩
    · show (Cnd.lenT ++ (40 :: ((Cnd.dec r ++ 44 :: Cnd.dec m) ++ [41]))).count 32 ≤ 2
      have e1 : Cnd.lenT.count 32 = 0 := by decide
      rw [List.count_append, e1, List.count_cons_of_ne (by decide), List.count_append, List.count_append, List.count_cons_of_ne (by decide), noc (l := Cnd.dec r) (fun s hs => by have := hr s hs; omega), noc (l := Cnd.dec m) (fun s hs => by have := hm s hs; omega)]
      decide
    · rcases List.mem_append.mp hs with hs | hs
      · exact (by decide : ∀ s ∈ Cnd.lenT, s < 128) s hs
      rcases List.mem_cons.mp hs with rfl | hs
      · decide
      rcases List.mem_append.mp hs with hs | hs
      · rcases List.mem_append.mp hs with hs | hs
        · have := hr s hs; omega
        rcases List.mem_cons.mp hs with rfl | hs
        · decide
        · have := hm s hs; omega
      · rw [List.mem_singleton.mp hs]; decide
  | @tpl k i j hk hi hj hil hjl =>
    have h1 := row_signs hg hi
    have h2 := row_signs hg hj
    have n1 : ∀ s ∈ rTx gs i, s ≠ 32 := row_nosp hg hi
    have n2 : ∀ s ∈ rTx gs j, s ≠ 32 := row_nosp hg hj
    have hw : (Cnd.kwT k).count 32 = 0 ∧ ∀ s ∈ Cnd.kwT k, s < 128 := by
      match k, hk with
      | 0, _ | 1, _ | 2, _ | 3, _ => decide
    refine ⟨?_, fun s hs => ?_⟩
    · show (Cnd.kwT k ++ (40 :: ((rTx gs i ++ 44 :: rTx gs j) ++ [41]))).count 32 ≤ 2
      rw [List.count_append, hw.1, List.count_cons_of_ne (by decide), List.count_append, List.count_append, List.count_cons_of_ne (by decide), noc n1, noc n2]
      decide
    · rcases List.mem_append.mp hs with hs | hs
      · exact hw.2 s hs
      rcases List.mem_cons.mp hs with rfl | hs
      · decide
      rcases List.mem_append.mp hs with hs | hs
      · rcases List.mem_append.mp hs with hs | hs
        · exact (h1 s hs).2.2.2
        rcases List.mem_cons.mp hs with rfl | hs
        · decide
        · exact (h2 s hs).2.2.2
      · rw [List.mem_singleton.mp hs]; decide
  | @no c _ ih =>
    refine ⟨?_, fun s hs => ?_⟩
    · show (Cnd.notT ++ Cnd.cTx c).count 32 ≤ 2 * (Cnd.size c + 1)
      rw [List.count_append]
      have : Cnd.notT.count 32 = 1 := by decide
      have := ih.1
      omega
    · rcases List.mem_append.mp hs with hs | hs
      · exact (by decide : ∀ s ∈ Cnd.notT, s < 128) s hs
      · exact ih.2 s hs
  | @two w c d _ _ i1 i2 =>
    have hw : (Cnd.wdT w).count 32 = 0 ∧ ∀ s ∈ Cnd.wdT w, s < 128 := by cases w <;> decide
    refine ⟨?_, fun s hs => ?_⟩
    · show (40 :: (Cnd.cTx c ++ (32 :: (Cnd.wdT w ++ (32 :: (Cnd.cTx d ++ [41])))))).count 32 ≤ 2 * (Cnd.size c + Cnd.size d + 1)
      rw [List.count_cons_of_ne (by decide), List.count_append, List.count_cons_self, List.count_append, List.count_cons_self, List.count_append, hw.1]
      have : [41].count 32 = 0 := by decide
      have := i1.1
      have := i2.1
      omega
    · rcases List.mem_cons.mp hs with rfl | hs
      · decide
      rcases List.mem_append.mp hs with hs | hs
      · exact i1.2 s hs
      rcases List.mem_cons.mp hs with rfl | hs
      · decide
      rcases List.mem_append.mp hs with hs | hs
      · exact hw.2 s hs
      rcases List.mem_cons.mp hs with rfl | hs
      · decide
      rcases List.mem_append.mp hs with hs | hs
      · exact i2.2 s hs
      · rw [List.mem_singleton.mp hs]; decide
end
end Own

namespace Own
open PySem PySem.Spec PyProof.Rows L2 SX RZ
section
variable {P : Program} {w : World} {K : PySem.W.Frag} {mg : Str → Option Value} {base : Heap}
abbrev sPbx : Stmt := topS 46
abbrev pbxN : List Str := ["letters", "text", "condition", "end"]
theorem scPbx : FnScope pbxN ["letters", "text"] (defScope sPbx) := ⟨rfl, rfl, rfl, by decide +kernel, rfl, by decide +kernel, by decide +kernel⟩
theorem ok_pbx {f : Addr} {fd : FuncData} (F : Fun K "parse_condition" "parse_condition" sPbx f fd) (m_len : mg "len" = none) {CI : Addr} (eT : ErM0 P w K mg base "InvalidText" CI) {f1 : Addr} {fd1 : FuncData} (c1 : Cl P w K mg base "read_condition" 9 ["letters", "text", "at"] spRdc f1 fd1) :
    FnOk P w K mg base (L2.CX P w) 10 f fd ["letters", "text"] spPrs := by
  refine F.okX scPbx (fun vs H Q E h => ?_) (fun cdv A outer s H vs Q E hr h => ?_)
  · obtain ⟨gs, c, rfl, _⟩ := h
    rfl
  · obtain ⟨gs, c, rfl, hg, hl, hok, hdp, q⟩ := h
    refine ⟨_, (pss_cons (ps_asg (pe_cl c1 hr (by decide) (by rfl) (pa_cons (pv 0) (pa_cons (pv 1) (pa_cons pe_int pa_nil)))) (pg_tup rfl (pgs_cons (pg_name (i := 2) scPbx.nd rfl (by first | exact .inl rfl | exact .inr rfl)) (pgs_cons (pg_name (i := 3) scPbx.nd rfl (by first | exact .inl rfl | exact .inr rfl)) pgs_nil))))
      (pss_cons (ps_if (pt_cmpR op_ne (pv 3) (pe_callB call_len_str (by rfl) m_len PySem.boot_len (pa_cons (pv 1) pa_nil)) (nomark _)) (pss_one ((ps_raise rfl (takes_of rfl rfl rfl rfl) (eT.use rfl rfl rfl rfl rfl (hr.mono (by decide)) (by rfl))))) pss_nil)
      (pss_one (ps_ret (pv 2))))), ?_⟩
    have hd : (Cnd.cTx c).drop 0 = Cnd.cTx c ++ [] := (List.append_nil _).symm
    refine ⟨_, rfl, _, rfl, gs, Cnd.cTx c, [], 0, c, rfl, hg, hd, Nat.zero_le _, hl, hok, hdp, fun _ _ h => (nomatch h), fun H1 p v s1 np hp hv => ?_⟩
    refine ⟨p, _, rfl, sqT hp, rfl, _, _, rfl, _, _, rfl, rfl, ?_⟩
    try dsimp only [gName, tSeq, tAsg, List.set_cons_zero, List.set_cons_succ]
    rw [Nat.zero_add]
    have lz : (S (Cnd.cTx c)).length ≤ sizeLine := by rw [S_len, sizeLine_eq]; omega
    refine ⟨_, rfl, _, rfl, _, rfl, lz, ?_⟩
    rw [S_len]
    refine ⟨rfl, _, rfl, ?_⟩
    rw [decide_eq_true rfl]
    refine iteF ?_
    exact ⟨_, rfl, q _ v s1 hv⟩
/-- a text read: one that is known, or any -/
def spPab (CI : Addr) : Sp := fun vs H Q E => spPrs vs H Q E ∨ spPax CI vs H Q E
theorem ok_pab {CI f : Addr} {fd : FuncData} (G1 : FnOk P w K mg base (L2.CX P w) 10 f fd ["letters", "text"] spPrs) (G2 : FnOk P w K mg base (L2.CX P w) 10 f fd ["letters", "text"] (spPax CI)) : FnOk P w K mg base (L2.CX P w) 10 f fd ["letters", "text"] (spPab CI) :=
  ⟨fun vs H Q E h => h.elim (G1.1 vs H Q E) (G2.1 vs H Q E), fun A outer s H args us vs Q E a b c d h => h.elim (G1.2 A outer s H args us vs Q E a b c d) (G2.2 A outer s H args us vs Q E a b c d)⟩
end
end Own

namespace Own
open PySem PySem.Spec PyProof.Rows L2 SX RZ
section
variable {P : Program} {w : World} {K : PySem.W.Frag} {mg : Str → Option Value} {base : Heap}
def oddS : Str := Str.ofString "length(3,3);length(01,3);length(0,61);length(0,0);length(1);length(-1,3);length(0, 3);same({},);same({}{});same({},a,b);match(;match(a;match(a)b);not;not match(a) ;named ;named A;named abcdefghi;(match(a) and match(b);match(a) and match(b);(match(a) nor match(b));(match(a));less(c,{});ends(a};begins({},{ac});length(100,101);match(a**);;a"
def oddC : List Nat := [11, 24, 37, 49, 59, 72, 85, 95, 106, 119, 126, 134, 145, 149, 163, 170, 178, 194, 217, 239, 263, 274, 285, 293, 309, 325, 336, 337]
theorem odd_occ : Builtin.Str.occurrences oddS (S [59]) 0 oddS.length (oddS.length + 1) = oddC := by
  rw [StrLaws.occ_eq]
  decide +kernel
theorem odd_parts : StrLaws.partsFrom oddS 1 0 oddC = oddT.map S := by decide +kernel
theorem odd_kind : Builtin.Str.strKind (S [59]) = 1 := by
  unfold Builtin.Str.strKind
  rw [if_pos (by simp [S])]
theorem odd_split : Txt.split oddS (S [59]) = oddT.map S := by
  unfold Txt.split
  rw [if_neg (by
    rw [Bool.or_eq_true, decide_eq_true_iff, decide_eq_true_iff, odd_kind]
    rintro (h | h)
    · have : (S [59]).length = 1 := rfl
      have : oddS.length = 339 := by decide +kernel
      omega
    · unfold Builtin.Str.strKind at h
      split at h
      · omega
      · split at h <;> omega), odd_occ, if_neg (by decide), StrLaws.partsBetween_eq]
  exact odd_parts
theorem odd_eq : Str.ofString "length(3,3);length(01,3);length(0,61);length(0,0);length(1)" ++ Str.ofString ";length(-1,3);length(0, 3);same({},);same({}{});same({},a,b)" ++ Str.ofString ";match(;match(a;match(a)b);not;not match(a) ;named ;named A" ++ Str.ofString ";named abcdefghi;(match(a) and match(b);match(a) and match(b)" ++ Str.ofString ";(match(a) nor match(b));(match(a));less(c,{});ends(a}" ++ Str.ofString ";begins({},{ac});length(100,101);match(a**);;a" = oddS := by decide +kernel
theorem odd_len : oddS.length + 2 ≤ sizeLine := by decide +kernel
end
end Own

namespace Own
open PySem PySem.Spec PyProof.Rows L2 SX RZ
section
variable {P : Program} {w : World} {K : PySem.W.Frag} {mg : Str → Option Value} {base : Heap}
def hwB (HW : PySem.W.Frag → Addr) (K : PySem.W.Frag) : Bool := match List.lookup (HW K) K with
  | some { cls := _, dict := _, data := .dict es _, slots := _ } => (es.toList.all fun x => (List.range 4).any fun k => x.key.isStr (kwS k)) && !(es.toList.any fun x => x.refKey)
  | _ => false
theorem isStr_one {v : Value} {x y : Str} (h1 : v.isStr x = true) (h2 : v.isStr y = true) : x = y := by
  unfold PySem.Value.isStr at h1 h2
  split at h1
  · simp only [beq_iff_eq] at h1 h2
    exact h1.symm.trans h2
  · cases h1
theorem kW_of {K : PySem.W.Frag} {HW : PySem.W.Frag → Addr} (h : hwB HW K = true) : ∀ x : Str, (∃ k u, k ≤ 3 ∧ x = kwS k ∧ PySem.W.nsIn K (HW K) x = some (some u)) ∨ PySem.W.nsIn K (HW K) x = some none := by
  intro x
  unfold hwB at h
  unfold PySem.W.nsIn
  split at h
  · next cls dict es ep sl e =>
    rw [e]
    rw [Bool.and_eq_true] at h
    obtain ⟨h1, h2⟩ := h
    show (∃ k u, k ≤ 3 ∧ x = kwS k ∧ (match List.find? (fun x_1 => x_1.key.isStr x) es.toList with
      | some e => some (some e.val)
      | none => if (es.toList.any fun x => x.refKey) = true then none else some none) = some (some u)) ∨ (match List.find? (fun x_1 => x_1.key.isStr x) es.toList with
      | some e => some (some e.val)
      | none => if (es.toList.any fun x => x.refKey) = true then none else some none) = some none
    cases hf : List.find? (fun x_1 => x_1.key.isStr x) es.toList with
    | none =>
      have h2 : (es.toList.any fun x => x.refKey) = false := by
        cases hh : (es.toList.any fun x => x.refKey) with
        | false => rfl
        | true => rw [hh] at h2; cases h2
      right
      show (if (es.toList.any fun x => x.refKey) = true then none else some none) = some none
      rw [h2]
      rfl
    | some en =>
      left
      have hm := List.mem_of_find?_eq_some hf
      have hk := List.find?_some hf
      obtain ⟨k, hkr, hkk⟩ := List.any_eq_true.mp (List.all_eq_true.mp h1 en hm)
      have := List.mem_range.mp hkr
      exact ⟨k, en.val, by omega, isStr_one hk hkk, rfl⟩
  · cases h
end
end Own

namespace Own
open PySem PySem.Spec PyProof.Rows L2 SX RZ
abbrev sLaw : Stmt := topS 62
abbrev lawN : List Str := ["_law_script", "_law_rng", "_law_turn_here", "_law_good", "_law_shown", "_law_at", "_law_many", "_law_sign", "_law_early", "_law_late", "_law_some", "_law_bent", "_law_told", "_law_wide", "_law_odd"]
theorem scLaw : FnScope lawN ["_law_script"] (defScope sLaw) := ⟨rfl, rfl, rfl, by decide +kernel, rfl, by decide +kernel, by decide +kernel⟩
def spLaw (K : PySem.W.Frag) (Pt : Addr) : Sp := fun vs H Q _ => ∃ (a : Addr) (ns : List Int), vs = [.ref a] ∧ SqL K H a (ns.map V.int) ∧ H Pt = some (.tbl #[]) ∧ ∀ H', Q (.bl true) H'
theorem opNotInC {X : Cx} {K : PySem.W.Frag} (h : X.K = K) : OpR X (compareOp .NotIn) (rIn K true) := by subst h; exact op_notIn_seq
theorem rd_short {gs : List Nat} {i : List (List Nat)} {t : List Nat} (h : Rd gs i t) : (rTx gs i).length ≤ t.length := by
  rcases h with ⟨rfl, rfl⟩ | ⟨hne, zs, hf, rfl⟩
  · exact Nat.le_refl _
  · unfold rTx
    rw [if_neg hne]
    clear hne
    induction hf with
    | nil => exact Nat.le_refl _
    | @cons x z its zs hx _ ih =>
      rw [List.map_cons, List.flatten_cons, List.flatten_cons, List.length_append, List.length_append]
      have : (iTx gs x).length ≤ z.length := by
        cases hx with
        | one hc => exact Nat.le_refl _
        | plain =>
          unfold iTx
          split
          · rw [if_pos rfl]; exact Nat.le_refl _
          · show gs.length ≤ 2; omega
        | turn hp =>
          refine Nat.le_trans iTx_len ?_
          simp only [List.length_append, List.length_cons, List.length_nil]
          omega
      omega
theorem len_ar {gs : List Nat} : ∀ {c : Cnd.Cd} {u : List Nat}, Ar gs c u → (Cnd.cTx c).length ≤ u.length
  | .named n, u, ⟨e, _⟩ => by rw [e]; exact Nat.le_refl _
  | .mat p, u, ⟨e, _⟩ => by rw [e]; exact Nat.le_refl _
  | .len r m, u, ⟨e, _⟩ => by rw [e]; exact Nat.le_refl _
  | .tpl k a b x y, u, ⟨i, j, s, t, e, hk, hs, ht, _, _, _, _, ha, hx, hb, hy⟩ => by
    subst ha hx hb hy
    have h1 := rd_short hs
    have h2 := rd_short ht
    rw [e]
    show (Cnd.kwT k ++ (40 :: ((rTx gs i ++ 44 :: rTx gs j) ++ [41]))).length ≤ _
    simp only [List.length_append, List.length_cons, List.length_nil]
    omega
  | .no c, u, ⟨u1, e, h⟩ => by
    have := len_ar (c := c) h
    rw [e]
    show (Cnd.notT ++ Cnd.cTx c).length ≤ _
    rw [List.length_append, List.length_append]
    omega
  | .two w a b, u, ⟨u1, u2, e, h1, h2⟩ => by
    have i1 := len_ar (c := a) h1
    have i2 := len_ar (c := b) h2
    rw [e]
    show (40 :: (Cnd.cTx a ++ (32 :: (Cnd.wdT w ++ (32 :: (Cnd.cTx b ++ [41])))))).length ≤ _
    simp only [List.length_append, List.length_cons, List.length_nil]
    omega
section
variable {K : PySem.W.Frag} {mg : Str → Option Value} {T : List (Addr × Str)} {CF CM CI : Addr} {H : Hp} {σ : L2.St} {Q : VK} {ta tb : TE}
theorem lam_T1 {gs be : List Nat} (EI : ErrC K mg "InvalidText" CI) (xI : PySem.W.exmAny K (.ref CI) [.ref CF, .ref CM] = some true) (hT : LamX.Tabs T H) (hg : Good gs) (hl : be.length ≤ 900) (haz : ∀ d ∈ be, d < 128) (hct : be.count 32 ≤ 50)
    (ha : ∀ H1 (k : VK), k (tx gs) H1 → ta σ H1 k) (hb : ∀ H1 (k : VK), k (tx be) H1 → tb σ H1 k)
    (q : ∀ H' t code v, LamX.ExtN H H' → LamX.Tabs T H' → H' t = some (.tup [.str code, v]) → ((code = Str.ofString "value" ∧ ∃ c, Ar gs c be ∧ v = tx (Cnd.cTx c)) ∨ (code = Str.ofString "InvalidText" ∧ ¬ ∃ c0, OkC gs c0 ∧ be = Cnd.cTx c0 ∧ Cnd.dpt c0 ≤ 50)) → Q (.ref t) H') :
    LamX.tLam T (TryN K CF CM) (fun E => tCall (spFmt 52) [] E0 (tCons (tCall (spPab CI) [] E (tCons ta (tCons tb tNil))) tNil)) σ H Q := by
  refine ⟨hT, fun H1 e1 t1 => ?_⟩
  refine ha _ _ (hb _ _ ?_)
  have fin : ∀ c v H2, Same H1 H2 → Ar gs c be → CdH H2 c v → spFmt 52 [v] H2 (fun v H' => 2 ≤ sizeLine ∧ ∀ t, H' t = none → Q (.ref t) (upd H' t (.tup [.str (Str.ofString "value"), v]))) E0 := fun c v H2 s2 har hv => by
    have := dep_ar har
    have := len_ar har
    refine ⟨gs, c, v, rfl, hg, okf_ar har, hv, by omega, by omega, fun H3 s3 => ⟨(by show 2 ≤ sizeLine; decide), fun t nt => ?_⟩⟩
    have s4 := (s2.trans s3).trans (same_new (o := .tup [.str (Str.ofString "value"), tx (Cnd.cTx c)]) nt)
    exact q _ t _ _ (e1.trans (Same.extN s4)) (tabs_same t1 s4) upd_same (.inl ⟨rfl, c, har, rfl⟩)
  by_cases hp : ∃ c0, OkC gs c0 ∧ be = Cnd.cTx c0 ∧ Cnd.dpt c0 ≤ 50
  · obtain ⟨c0, ho, rfl, hd⟩ := hp
    exact .inl ⟨gs, c0, rfl, hg, by omega, ho.src hg, by omega, fun H2 v s2 hv => fin c0 v H2 s2 (ar_okc hg ho) hv⟩
  · refine .inr ⟨gs, be, rfl, hg, hl, haz, hct, fun H2 d s2 hd => ⟨xI, _, _, errN_0 EI hd (show fldOf "InvalidText" = none by decide +kernel), fun H3 t s3 nt => ?_⟩, fun c har H2 v s2 hv => fin c v H2 s2 har hv⟩
    have s4 := (s2.trans s3).trans (same_new (o := .tup [.str (Str.ofString "InvalidText"), .non]) nt)
    exact q _ t _ _ (e1.trans (Same.extN s4)) (tabs_same t1 s4) upd_same (.inr ⟨rfl, hp⟩)
theorem lam_T2 {gs be : List Nat} (EI : ErrC K mg "InvalidText" CI) (xI : PySem.W.exmAny K (.ref CI) [.ref CF, .ref CM] = some true) (hT : LamX.Tabs T H) (hg : Good gs) (hl : be.length ≤ 900) (haz : ∀ d ∈ be, d < 128) (hct : be.count 32 ≤ 50) (hno : ∀ c, ¬ Ar gs c be)
    (ha : ∀ H1 (k : VK), k (tx gs) H1 → ta σ H1 k) (hb : ∀ H1 (k : VK), k (tx be) H1 → tb σ H1 k)
    (q : ∀ H' t, LamX.ExtN H H' → LamX.Tabs T H' → H' t = some (.tup [.str (Str.ofString "InvalidText"), .non]) → Q (.ref t) H') :
    LamX.tLam T (TryN K CF CM) (fun E => tCall (spPab CI) [] E (tCons ta (tCons tb tNil))) σ H Q := by
  refine ⟨hT, fun H1 e1 t1 => ?_⟩
  refine ha _ _ (hb _ _ ?_)
  refine .inr ⟨gs, be, rfl, hg, hl, haz, hct, fun H2 d s2 hd => ⟨xI, _, _, errN_0 EI hd (show fldOf "InvalidText" = none by decide +kernel), fun H3 t s3 nt => ?_⟩, fun c har => absurd har (hno c)⟩
  have s4 := (s2.trans s3).trans (same_new (o := .tup [.str (Str.ofString "InvalidText"), .non]) nt)
  exact q _ t (e1.trans (Same.extN s4)) (tabs_same t1 s4) upd_same
end
theorem sh_it : SeqAt.shaped (.tuple [.str (Str.ofString "InvalidText"), .none]) = true := by decide +kernel
theorem odd_az : ∀ u ∈ oddT, (∀ d ∈ u, d < 128) ∧ u.length ≤ 60 := by decide +kernel
theorem cutA_from {xs : List Nat} {a : Nat} : cutS (S xs) (some ((a : Nat) : Int)) none = S (xs.drop a) := by
  by_cases h : a ≤ xs.length
  · exact cutN_from h
  · unfold cutS
    rw [S_len, HT.sIx_nat, HT.sIx_none, Nat.min_eq_right (by omega)]
    show (⟨((xs.drop xs.length).take (xs.length - xs.length)).toArray⟩ : Str) = ⟨(xs.drop a).toArray⟩
    rw [List.drop_eq_nil_of_le (show xs.length ≤ a by omega), Nat.sub_self]
    rfl
theorem cutA_to {xs : List Nat} {a : Nat} : cutS (S xs) none (some ((a : Nat) : Int)) = S (xs.take a) := by
  unfold cutS
  rw [S_len, HT.sIx_nat]
  show (⟨((xs.drop 0).take (min a xs.length - 0)).toArray⟩ : Str) = ⟨(xs.take a).toArray⟩
  rw [List.drop_zero, Nat.sub_zero]
  congr 2
  by_cases h : a ≤ xs.length
  · rw [Nat.min_eq_left h]
  · rw [Nat.min_eq_right (by omega), List.take_of_length_le (Nat.le_refl _), List.take_of_length_le (by omega)]
section
variable {P : Program} {w : World} {K : PySem.W.Frag} {mg : Str → Option Value} {base : Heap}
theorem ok_law {f c Pt : Addr} {kV doc pm ct oc : Value} {an od : Option Addr} {osl : Array (Option Value)} {f1 f2 f3 f4 f5 f6 f7 f8 fPa fP fY CF CM CI : Addr} {fd1 fd2 fd3 fd4 fd5 fd6 fd7 fd8 fdPa fdP fdY : FuncData}
    (lk : K.lookup f = some ⟨oc, od, .func (PySem.W.fnOf "law" "law" (defArgs sLaw) (defBody sLaw) (defScope sLaw) .none kV doc pm an (.ref c) ct), osl⟩) (hcd : PySem.W.codeIn K (.ref c) "law" = true)
    (TB : LamX.TabB base mg c Pt) {Tb : List (Addr × Str)} (eTb : Tb = [(Pt, (envOfC "law" (defScope sLaw) 0 f (.ref c)).qual ++ "<lambda>")]) (m_len : mg "len" = none) (m_range : mg "range" = none) (mF : mg "FillError" = some (.ref CF)) (mM : mg "Missing" = some (.ref CM))
    (FP : FnP P w K mg base 1 fP fdP ["_law_e"] (spFldN K)) (gP : mg "_law_field" = some (.ref fP)) (kP : PySem.W.keepIn K (.ref fP) = true) (bP : Binds K fdP ["_law_e"] [])
    (FY : Fun K "_law_try" "_law_try" sTry fY fdY) (gY : mg "_law_try" = some (.ref fY)) (bY : Binds K fdY ["_law_ask"] [])
    (xI : PySem.W.exmAny K (.ref CI) [.ref CF, .ref CM] = some true) (EI : ErrC K mg "InvalidText" CI)
    (GPa : FnOk P w K mg base (L2.CX P w) 10 fPa fdPa ["letters", "text"] (spPab CI)) (gPa : mg "parse_condition" = some (.ref fPa)) (kPa : PySem.W.keepIn K (.ref fPa) = true) (bPa : Binds K fdPa ["letters", "text"] [])
    (cPr : Cl P w K mg base "parse_condition" 10 ["letters", "text"] spPrs f8 fd8)
    (cFm : Cl P w K mg base "format_condition" 52 ["condition"] (spFmt 52) f7 fd7)
    (cDs : Cl P w K mg base "_law_draws" 1 ["_law_script"] (spDraws K) f1 fd1)
    (cLt : Cl P w K mg base "_law_letters" 3 ["_law_rng", "_law_most"] spLetters f2 fd2)
    (cDr : Cl P w K mg base "_law_draw" 1 ["_law_rng", "_law_sides"] spDraw f3 fd3)
    (cPk : Cl P w K mg base "_law_pick" 2 ["_law_rng", "_law_things"] (spPick K) f4 fd4)
    (cCo : Cl P w K mg base "_law_condition" 13 ["_law_rng", "_law_signs", "_law_deep", "_law_most"] (spCon 5) f5 fd5)
    (cCx : Cl P w K mg base "_law_condition_text" 5 ["_law_condition_here"] (spCtx 5) f6 fd6) :
    FnOk P w K mg base CX0 58 f (PySem.W.fnOf "law" "law" (defArgs sLaw) (defBody sLaw) (defScope sLaw) .none kV doc pm an (.ref c) ct) ["_law_script"] (spLaw K Pt) := by
  have hTm : (Pt, (envOfC "law" (defScope sLaw) 0 f (.ref c)).qual ++ "<lambda>") ∈ Tb := by rw [eTb]; exact List.Mem.head _
  have hTu : ∀ p ∈ Tb, p.1 = Pt → p.2 = (envOfC "law" (defScope sLaw) 0 f (.ref c)).qual ++ "<lambda>" := fun p hp _ => by rw [eTb] at hp; rw [List.mem_singleton.mp hp]
  obtain ⟨ocY, odY, kVY, docY, pmY, anY, cdY, ctY, oslY, rfl, lkY, hcY⟩ := FY.ex
  refine fn_of lk hcd scLaw (fun vs H Q E h => ?_) (fun A outer s H vs Q E hr h => ?_)
  · obtain ⟨a, ns, rfl, _⟩ := h
    rfl
  · obtain ⟨a, ns, rfl, hS, hPt, q⟩ := h
    have hu := hu_of hr
    refine ⟨_, (pss_cons (ps_set (i := 1) scLaw.nd rfl (by first | exact .inl rfl | exact .inr rfl) (pe_cl cDs hr (by decide) (by rfl) (pa_cons (pv 0) pa_nil)))
      (pss_cons (ps_for (passes_of rfl) rfl (pi_range1 rfl m_range (pa_cons pe_int pa_nil)) (pg_name (i := 2) scLaw.nd rfl (by first | exact .inl rfl | exact .inr rfl))
        (pss_cons (ps_set (i := 3) scLaw.nd rfl (by first | exact .inl rfl | exact .inr rfl) (pe_cl cLt hr (by decide) (by rfl) (pa_cons (pv 1) (pa_cons pe_int pa_nil))))
      (pss_cons (ps_set (i := 4) scLaw.nd rfl (by first | exact .inl rfl | exact .inr rfl) (pe_cl cCx hr (by decide) (by rfl) (pa_cons (pe_cl cCo hr (by decide) (by rfl) (pa_cons (pv 1) (pa_cons (pv 3) (pa_cons pe_int (pa_cons pe_int pa_nil))))) pa_nil)))
      (pss_cons (ps_par (i := 5) (j := 6) (by rfl) scLaw.nd rfl rfl (by decide) rfl rfl (pa_cons (pe_cl cDr hr (by decide) (by rfl) (pa_cons (pv 1) (pa_cons (pe_op op_add (pe_callB call_len_str (by rfl) m_len PySem.boot_len (pa_cons (pv 4) pa_nil)) pe_int) pa_nil))) (pa_cons (pe_op op_add pe_int (pe_cl cDr hr (by decide) (by rfl) (pa_cons (pv 1) (pa_cons pe_int pa_nil)))) pa_nil)) (by rfl))
      (pss_cons (ps_set (i := 7) scLaw.nd rfl (by first | exact .inl rfl | exact .inr rfl) (pe_cl cPk hr (by decide) (by rfl) (pa_cons (pv 1) (pa_cons (pe_op op_add_str (pv 3) pe_str) pa_nil))))
      (pss_cons (ps_par (i := 8) (j := 9) (by rfl) scLaw.nd rfl rfl (by decide) rfl rfl (pa_cons (pe_slice sl_str (pv 4) po_none (po_some (pv 5))) (pa_cons (pe_slice sl_str (pv 4) (po_some (pv 5)) po_none) pa_nil)) (by rfl))
      (pss_cons (ps_set (i := 10) scLaw.nd rfl (by first | exact .inl rfl | exact .inr rfl) (pe_lst (pa_cons (pe_op op_add_str (pe_op op_add_str (pv 8) (pv 7)) (pv 9)) (pa_cons (pe_op op_add_str (pv 8) (pe_slice sl_str (pv 9) (po_some (pv 6)) po_none)) (pa_cons (pv 8) pa_nil)))))
      (pss_cons (ps_set (i := 10) scLaw.nd rfl (by first | exact .inl rfl | exact .inr rfl) (pe_op op_cat (pv 10) (pe_lst (pa_cons (pe_op op_add_str (pe_op op_add_str (pv 8) (pe_slice sl_str (pv 9) po_none (po_some (pv 6)))) (pv 9)) (pa_cons (pe_op op_add_str (pv 4) (pv 7)) pa_nil)))))
      (pss_cons (ps_set (i := 11) scLaw.nd rfl (by first | exact .inl rfl | exact .inr rfl) (pe_cl cPk hr (by decide) (by rfl) (pa_cons (pv 1) (pa_cons (pv 10) pa_nil))))
      (pss_cons (ps_set (i := 12) scLaw.nd rfl (by first | exact .inl rfl | exact .inr rfl) (LamX.pe_lamcall (T := Tb) (TT := TryN K CF CM) (t := fun E => tCall (spFmt 52) [] E0 (tCons (tCall (spPab CI) [] E (tCons (tVar 3) (tCons (tVar 11) tNil))) tNil)) (k := 53) (by rfl) gY FY.kp lkY hcY bY scTry rfl (Or.inl rfl) (try_gives mF mM FP gP kP bP (hr.mono (by decide))) TB rfl hTm hTu (hr.mono (by decide)) (LamX.lamS_by (by show LamX.lamSB (defScope sLaw) _ = true; decide +kernel)) rfl (fun _ _ _ _ _ => rfl) (fun A outer s H E f' c' hr2 => (pe_cl cFm hr2 (by decide) (by rfl) (pa_cons (pe_call GPa (hr2.mono (by decide)) (by rfl) gPa kPa bPa .nil (passes_call (takes_of rfl rfl rfl rfl) (fun _ _ _ _ h => h)) (pa_cons (pv 3) (pa_cons (pv 11) pa_nil))) pa_nil)))))
      (pss_cons (ps_set (i := 13) scLaw.nd rfl (by first | exact .inl rfl | exact .inr rfl) (pe_replB (pv 11) (pv 3)))
      (pss_cons (ps_if (PW.pt (pw_or (pt_cmpR (opNotInC (K := K) rfl) (pe_ix (ixT (K := K) rfl) (pv 12) pe_int (fun _ _ => rfl)) (pe_tup (pa_cons pe_str (pa_cons pe_str pa_nil))) (by rfl)) (pw_or1 (PW.pt (pw_and (pt_cmpR op_eq (pe_ix (ixT (K := K) rfl) (pv 12) pe_int (fun _ _ => rfl)) pe_str (nomark _)) (pw_and1 (pt_cmpR op_ne (pe_ix (ixT (K := K) rfl) (pv 12) pe_int (fun _ _ => rfl)) (pv 13) (nomark _)))))))) pss_never pss_nil)
      (pss_one (ps_if (PW.pt (pw_and (pt_cmpR op_eq (pe_ix (ixT (K := K) rfl) (pv 12) pe_int (fun _ _ => rfl)) pe_str (nomark _)) (pw_and1 (pt_cmpR op_eq (pv 11) (pv 4) (nomark _))))) pss_never pss_nil))))))))))))))
      (pss_cons (ps_set (i := 14) scLaw.nd rfl (by first | exact .inl rfl | exact .inr rfl) pe_str)
      (pss_cons (ps_set (i := 14) scLaw.nd rfl (by first | exact .inl rfl | exact .inr rfl) (pe_op op_add_str (pv 14) pe_str))
      (pss_cons (ps_set (i := 14) scLaw.nd rfl (by first | exact .inl rfl | exact .inr rfl) (pe_op op_add_str (pv 14) pe_str))
      (pss_cons (ps_set (i := 14) scLaw.nd rfl (by first | exact .inl rfl | exact .inr rfl) (pe_op op_add_str (pv 14) pe_str))
      (pss_cons (ps_set (i := 14) scLaw.nd rfl (by first | exact .inl rfl | exact .inr rfl) (pe_op op_add_str (pv 14) pe_str))
      (pss_cons (ps_set (i := 14) scLaw.nd rfl (by first | exact .inl rfl | exact .inr rfl) (pe_op op_add_str (pv 14) pe_str))
      (pss_cons (ps_for (passes_of rfl) rfl (pi_list (pe_split (pv 14) pe_str)) (pg_name (i := 4) scLaw.nd rfl (by first | exact .inl rfl | exact .inr rfl))
        (pss_one (ps_if (pt_cmpR (op_neD hr.units) (LamX.pe_lamcall (T := Tb) (TT := TryN K CF CM) (t := fun E => tCall (spPab CI) [] E (tCons (tC (.str (Str.ofString "ab"))) (tCons (tVar 4) tNil))) (k := 53) (by rfl) gY FY.kp lkY hcY bY scTry rfl (Or.inl rfl) (try_gives mF mM FP gP kP bP (hr.mono (by decide))) TB rfl hTm hTu (hr.mono (by decide)) (LamX.lamS_by (by show LamX.lamSB (defScope sLaw) _ = true; decide +kernel)) rfl (fun _ _ _ _ _ => rfl) (fun A outer s H E f' c' hr2 => (pe_call GPa (hr2.mono (by decide)) (by rfl) gPa kPa bPa .nil (passes_call (takes_of rfl rfl rfl rfl) (fun _ _ _ _ h => h)) (pa_cons pe_str (pa_cons (pv 4) pa_nil))))) (pe_tup (pa_cons pe_str (pa_cons pe_non pa_nil))) (nomark _)) pss_never pss_nil)))
      (pss_cons (ps_if (pt_cmpR (op_neD hr.units) (pe_cl cPr hr (by decide) (by rfl) (pa_cons pe_str (pa_cons pe_str pa_nil))) (pe_tup (pa_cons pe_str (pa_cons pe_int (pa_cons pe_int pa_nil)))) (nomark _)) pss_never pss_nil)
      (pss_one (ps_ret (pe_cmpR (op_eqD hr.units) (pe_cl cPr hr (by decide) (by rfl) (pa_cons pe_str (pa_cons pe_str pa_nil))) (pe_tup (pa_cons pe_str (pa_cons pe_str pa_nil))) (nomark _)))))))))))))), ?_⟩
    refine ⟨_, rfl, a, ns, rfl, hS, fun H1 r s1 nr R => ?_⟩
    have k1 : Keep Tb r H1 := ⟨R, fun p hp => by
      rw [eTb] at hp
      rw [List.mem_singleton.mp hp]
      exact LamX.TabS.nil (s1 _ _ hPt)⟩
    have o1 : Str.ofString "{" = S [123] := by decide +kernel
    have o2 : Str.ofString "}" = S [125] := by decide +kernel
    have ob : Str.ofString "{}" = S [123, 125] := by decide +kernel
    have oab : Str.ofString "ab" = S [97, 98] := by decide +kernel
    have osg : Str.ofString "(),{}- no0129|*." = S [40, 41, 44, 123, 125, 45, 32, 110, 111, 48, 49, 50, 57, 124, 42, 46] := by decide +kernel
    have hab : Good [97, 98] := ⟨by decide, by decide, by decide, by decide⟩
    refine ⟨6, rfl, by decide, by decide, ?_⟩
    refine for_range (lo := 0) (n := (6 : Int).toNat)
      (fun i σ H' => ∃ v2 v3 v4 v5 v6 v7 v8 v9 v10 v11 v12 v13, σ = [some (.ref a), some (.ref r), v2, v3, v4, v5, v6, v7, v8, v9, v10, v11, v12, v13, none] ∧ Keep Tb r H')
      ⟨none, none, none, none, none, none, none, none, none, none, none, none, rfl, k1⟩ ?_ ?_
    · rintro i σ H2 hi ⟨v2, v3, v4, v5, v6, v7, v8, v9, v10, v11, v12, v13, rfl, k2⟩
      try dsimp only [gName, tSeq, tAsg, List.set_cons_zero, List.set_cons_succ]
      refine ⟨_, rfl, r, 3, rfl, by decide, k2.rng, fun H3 gs g3 hg hg3 => ?_⟩
      have k3 := k2.go g3
      have hlo := hg.lo
      have gaz : ∀ d ∈ gs, d < 128 := fun d hd => by have := hg.az d hd; omega
      have hn3 : gs.length ≤ 3 := by omega
      have e16 : 2 ^ (3 + 1) = 16 := rfl
      have e536 : 67 * 2 ^ 3 = 536 := rfl
      refine ⟨_, rfl, _, rfl, r, gs, 3, 3, rfl, hg, by decide, by decide, hn3, by omega, k3.rng, fun H4 vc c g4 hv hok hd hs hlc => ?_⟩
      have k4 := k3.go g4
      refine ⟨gs, c, vc, rfl, hok, hv, by omega, by omega, fun H5 s5 => ?_⟩
      have k5 := k4.same s5
      obtain ⟨hsp, saz⟩ := spc_c hg hok
      obtain ⟨sh, esh⟩ : ∃ sh, sh = Cnd.cTx c := ⟨_, rfl⟩
      rw [← esh] at hsp saz hlc ⊢
      have hzs : (S sh).length ≤ sizeLine := by rw [S_len, sizeLine_eq]; omega
      try dsimp only [gName, tSeq, tAsg, List.set_cons_zero, List.set_cons_succ]
      refine ⟨_, rfl, _, rfl, _, rfl, hzs, _, _, rfl, rfl, r, _, rfl, (by rw [S_len]; omega), (by rw [S_len]; omega), k5.rng, fun H6 at' g6 at0 at1 => ?_⟩
      obtain ⟨at', rfl⟩ := Int.eq_ofNat_of_zero_le at0
      have k6 := k5.go g6
      refine ⟨_, rfl, r, 4, rfl, by decide, by decide, k6.rng, fun H7 mk g7 mk0 mk4 => ?_⟩
      obtain ⟨mk, rfl⟩ := Int.eq_ofNat_of_zero_le mk0
      have k7 := k6.go g7
      refine ⟨_, _, rfl, rfl, ?_⟩
      refine ⟨_, _, rfl, ?_⟩
      try dsimp only [gName, tSeq, tAsg, List.set_cons_zero, List.set_cons_succ]
      refine ⟨_, rfl, _, rfl, _, _, rfl, rfl, ?_, ?_⟩
      · rw [osg, S_len, S_len, sizeLine_eq]
        show _ + 16 ≤ _
        omega
      rw [osg, show S gs ++ S [40, 41, 44, 123, 125, 45, 32, 110, 111, 48, 49, 50, 57, 124, 42, 46] = S (gs ++ [40, 41, 44, 123, 125, 45, 32, 110, 111, 48, 49, 50, 57, 124, 42, 46]) from S_cat _ _]
      refine ⟨r, _, rfl, k7.rng, .inr ⟨_, rfl, (by rw [List.length_append]; show 0 < _ + 16; omega), (by rw [List.length_append]; show _ + 16 ≤ 1000; omega), fun H8 sg g8 hsg => ?_⟩⟩
      have k8 := k7.go g8
      have sgaz : sg < 128 := by
        rcases List.mem_append.mp hsg with h | h
        · exact gaz _ h
        · simp only [List.mem_cons, List.not_mem_nil, or_false] at h
          omega
      try dsimp only [gName, tSeq, tAsg, List.set_cons_zero, List.set_cons_succ]
      refine ⟨_, rfl, _, rfl, _, rfl, S sh, rfl, hzs, _, rfl, _, rfl, _, rfl, S sh, rfl, hzs, ?_⟩
      refine ⟨_, _, rfl, ?_⟩
      rw [cutA_to, cutA_from]
      obtain ⟨er, eer⟩ : ∃ er, er = sh.take at' := ⟨_, rfl⟩
      obtain ⟨la, ela⟩ : ∃ la, la = sh.drop at' := ⟨_, rfl⟩
      rw [← eer, ← ela]
      have hel : er ++ la = sh := by rw [eer, ela]; exact List.take_append_drop _ _
      have hell : er.length + la.length = sh.length := by rw [← hel, List.length_append]
      have zt : ∀ xs : List Nat, xs.length ≤ 2000 → (S xs).length ≤ sizeLine := fun xs h => by rw [S_len, sizeLine_eq]; omega
      have z2 : ∀ xs ys : List Nat, xs.length + ys.length ≤ 2000 → (S xs).length + (S ys).length ≤ sizeLine := fun xs ys h => by rw [S_len, S_len, sizeLine_eq]; omega
      try dsimp only [gName, tSeq, tAsg, List.set_cons_zero, List.set_cons_succ]
      have emk : (1 : Int) + (mk : Int) = ((mk + 1 : Nat) : Int) := by omega
      rw [emk]
      refine ⟨_, rfl, _, rfl, _, _, rfl, rfl, z2 er [sg] (by show _ + 1 ≤ _; omega), ?_⟩
      rw [S_cat]
      refine ⟨_, rfl, _, _, rfl, rfl, z2 (er ++ [sg]) la (by rw [List.length_append]; show _ + 1 + _ ≤ _; omega), ?_⟩
      rw [S_cat]
      refine ⟨_, rfl, _, rfl, _, rfl, _, rfl, S la, rfl, zt la (by omega), ?_⟩
      rw [cutA_from]
      have hdl : (la.drop (mk + 1)).length ≤ la.length := by rw [List.length_drop]; omega
      refine ⟨_, _, rfl, rfl, z2 er (la.drop (mk + 1)) (by omega), ?_⟩
      rw [S_cat]
      refine ⟨_, rfl, (by show 3 ≤ sizeLine; decide), fun L1 nL1 => ?_⟩
      have k9 := k8.same (same_new (o := .lst [V.str (S (er ++ [sg] ++ la)), V.str (S (er ++ la.drop (mk + 1))), V.str (S er)]) nL1)
      have htl : (la.take (mk + 1)).length ≤ 4 := by rw [List.length_take]; omega
      have htl2 : (la.take (mk + 1)).length ≤ la.length := by rw [List.length_take]; omega
      refine ⟨_, rfl, _, rfl, _, rfl, _, rfl, _, rfl, S la, rfl, zt la (by omega), ?_⟩
      rw [cutA_to]
      refine ⟨_, _, rfl, rfl, z2 er (la.take (mk + 1)) (by omega), ?_⟩
      rw [S_cat]
      refine ⟨_, rfl, _, _, rfl, rfl, z2 (er ++ la.take (mk + 1)) la (by rw [List.length_append]; omega), ?_⟩
      rw [S_cat]
      refine ⟨_, rfl, _, rfl, _, _, rfl, rfl, z2 sh [sg] (by show _ + 1 ≤ _; omega), ?_⟩
      rw [S_cat]
      refine ⟨(by show 2 ≤ sizeLine; decide), fun L2 nL2 => ?_⟩
      have sL2 := same_new (o := .lst [V.str (S (er ++ la.take (mk + 1) ++ la)), V.str (S (sh ++ [sg]))]) nL2
      refine ⟨L1, L2, _, _, rfl, rfl, sL2 _ _ upd_same, upd_same, (by show 5 ≤ sizeLine; decide), fun L nL => ?_⟩
      have k10 := (k9.same sL2).same (same_new (o := .lst ([V.str (S (er ++ [sg] ++ la)), V.str (S (er ++ la.drop (mk + 1))), V.str (S er)] ++ [V.str (S (er ++ la.take (mk + 1) ++ la)), V.str (S (sh ++ [sg]))])) nL)
      obtain ⟨xr, exr⟩ := (k9.same sL2).rng.ex
      refine ⟨_, rfl, _, rfl, r, .ref L, rfl, k10.rng, .inl ⟨L, _, rfl, (ne_of_none exr nL).symm, .inl (.inl upd_same), (by show 0 < 5; decide), (by show 5 ≤ 1000; decide), fun H9 vb g9 hvb => ?_⟩⟩
      have k11 := Keep.go k10 g9
      have hco : er.count 32 + la.count 32 = sh.count 32 := by rw [← hel, List.count_append]
      obtain ⟨be, rfl, hbl, baz, hbc⟩ : ∃ be, vb = tx be ∧ be.length ≤ 900 ∧ (∀ d ∈ be, d < 128) ∧ be.count 32 ≤ 50 := by
        have a1 : ∀ d ∈ er, d < 128 := fun d hd => saz d (by rw [← hel]; exact List.mem_append_left _ hd)
        have a2 : ∀ d ∈ la, d < 128 := fun d hd => saz d (by rw [← hel]; exact List.mem_append_right _ hd)
        have a3 : ∀ d ∈ la.drop (mk + 1), d < 128 := fun d hd => a2 d (List.mem_of_mem_drop hd)
        have a5 : ∀ d ∈ la.take (mk + 1), d < 128 := fun d hd => a2 d (List.mem_of_mem_take hd)
        have ap : ∀ {x y : List Nat}, (∀ d ∈ x, d < 128) → (∀ d ∈ y, d < 128) → ∀ d ∈ x ++ y, d < 128 := fun h1 h2 d hd => (List.mem_append.mp hd).elim (h1 d) (h2 d)
        have a4 : ∀ d ∈ [sg], d < 128 := fun d hd => by rw [List.mem_singleton.mp hd]; exact sgaz
        have c1 : [sg].count 32 ≤ 1 := List.count_le_length
        have c2 : (la.take (mk + 1)).count 32 ≤ 4 := Nat.le_trans List.count_le_length htl
        have c3 : (la.drop (mk + 1)).count 32 ≤ la.count 32 := drop_count (Nat.le_refl _)
        simp only [List.cons_append, List.nil_append, List.mem_cons, List.not_mem_nil, or_false] at hvb
        rcases hvb with e | e | e | e | e
        · exact ⟨_, e, by rw [List.length_append, List.length_append]; show _ + 1 + _ ≤ _; omega, ap (ap a1 a4) a2, by rw [List.count_append, List.count_append]; omega⟩
        · exact ⟨_, e, by rw [List.length_append]; omega, ap a1 a3, by rw [List.count_append]; omega⟩
        · exact ⟨_, e, by omega, a1, by omega⟩
        · exact ⟨_, e, by rw [List.length_append, List.length_append]; omega, ap (ap a1 a5) a2, by rw [List.count_append, List.count_append]; omega⟩
        · exact ⟨_, e, by rw [List.length_append]; show _ + 1 ≤ _; omega, ap saz a4, by rw [List.count_append]; omega⟩
      try dsimp only [gName, tSeq, tAsg, List.set_cons_zero, List.set_cons_succ]
      refine lam_T1 EI xI k11.tab hg hbl baz hbc (fun H1 k hk => ⟨_, rfl, hk⟩) (fun H1 k hk => ⟨_, rfl, hk⟩) fun H12 t code tv e12 T12 ht hcode => ?_
      have k12 := k11.ext e12 T12
      try dsimp only [gName, tSeq, tAsg, List.set_cons_zero, List.set_cons_succ]
      have hgne : 0 < gs.length := by omega
      have ew : Str.ofString "{" ++ S gs ++ Str.ofString "}" = S (wide1 gs) := by
        rw [o1, o2, show S [123] ++ S gs = S ([123] ++ gs) from S_cat _ _]
        exact S_cat _ _
      refine ⟨_, rfl, S be, rfl, _, rfl, S gs, rfl, by decide +kernel, by decide +kernel, (by rw [S_len]; omega), (by rw [o1, o2, S_len, S_len, S_len]; show 1 + _ + 1 ≤ 1000; omega), ?_, ?_, ?_⟩
      · rw [ew, ob, S_beq_eq, decide_eq_false (fun e => ?_)]
        have := congrArg List.length e
        rw [List.length_cons, List.length_append] at this
        have h2 : gs.length + 1 + 1 = 2 := this
        omega
      · rw [ob, S_len, S_len]
        show _ + _ * 2 ≤ _
        omega
      rw [ew, ob]
      have nvi : Str.ofString "value" ≠ Str.ofString "InvalidText" := by decide +kernel
      rcases hcode with ⟨rfl, cc, har, rfl⟩ | ⟨rfl, hnp⟩
      · rw [rep_ar hg har]
        try dsimp only [gName, tSeq, tAsg, List.set_cons_zero, List.set_cons_succ]
        refine ⟨_, rfl, t, _, 0, _, rfl, rfl, sqT ht, atI_nat (j := 0) rfl, (by show 2 ≤ sizeLine; decide), fun T1 nT1 => ?_⟩
        have sT1 := same_new (o := .tup [V.str (Str.ofString "value"), V.str (Str.ofString "InvalidText")]) nT1
        refine ⟨T1, _, rfl, .inr (sqT upd_same), rfl, rfl, false, (by decide +kernel), ?_⟩
        refine iteF ?_
        refine ⟨_, rfl, t, _, 0, _, rfl, rfl, sqT (sT1 _ _ ht), atI_nat (j := 0) rfl, rfl, true, (by decide +kernel), ?_⟩
        refine iteT ?_
        refine ⟨_, rfl, t, _, 1, _, rfl, rfl, sqT (sT1 _ _ ht), atI_nat (j := 1) rfl, _, rfl, rfl, _, rfl, ?_⟩
        rw [decide_eq_true (show V.str (S (Cnd.cTx cc)) = V.str (S (Cnd.cTx cc)) from rfl)]
        refine iteF ?_
        try dsimp only [tNext]
        refine ⟨_, rfl, t, _, 0, _, rfl, rfl, sqT (sT1 _ _ ht), atI_nat (j := 0) rfl, rfl, false, (by decide +kernel), ?_⟩
        refine iteF (iteF ?_)
        exact ⟨_, _, _, _, _, _, _, _, _, _, _, _, rfl, k12.same sT1⟩
      · have hbs : be ≠ sh := fun e => hnp ⟨c, hok, e.trans esh, by omega⟩
        try dsimp only [gName, tSeq, tAsg, List.set_cons_zero, List.set_cons_succ]
        refine ⟨_, rfl, t, _, 0, _, rfl, rfl, sqT ht, atI_nat (j := 0) rfl, (by show 2 ≤ sizeLine; decide), fun T1 nT1 => ?_⟩
        have sT1 := same_new (o := .tup [V.str (Str.ofString "value"), V.str (Str.ofString "InvalidText")]) nT1
        refine ⟨T1, _, rfl, .inr (sqT upd_same), rfl, rfl, false, (by decide +kernel), ?_⟩
        refine iteF ?_
        refine ⟨_, rfl, t, _, 0, _, rfl, rfl, sqT (sT1 _ _ ht), atI_nat (j := 0) rfl, rfl, false, (by decide +kernel), ?_⟩
        refine iteF (iteF ?_)
        try dsimp only [tNext]
        refine ⟨_, rfl, t, _, 0, _, rfl, rfl, sqT (sT1 _ _ ht), atI_nat (j := 0) rfl, rfl, true, (by decide +kernel), ?_⟩
        refine iteT ?_
        refine ⟨_, rfl, _, rfl, rfl, _, rfl, ?_⟩
        rw [decide_eq_false (show ¬ V.str (S be) = V.str (S sh) from fun e => hbs (S_inj (V.str.inj e)))]
        refine iteF ?_
        exact ⟨_, _, _, _, _, _, _, _, _, _, _, _, rfl, k12.same sT1⟩
    · rintro σ H2 ⟨v2, v3, v4, v5, v6, v7, v8, v9, v10, v11, v12, v13, rfl, k2⟩
      try dsimp only [gName, tSeq, tAsg, List.set_cons_zero, List.set_cons_succ]
      refine ⟨_, rfl, _, _, rfl, rfl, (by decide +kernel), ?_⟩
      refine ⟨_, rfl, _, _, rfl, rfl, (by decide +kernel), ?_⟩
      refine ⟨_, rfl, _, _, rfl, rfl, (by decide +kernel), ?_⟩
      refine ⟨_, rfl, _, _, rfl, rfl, (by decide +kernel), ?_⟩
      refine ⟨_, rfl, _, _, rfl, rfl, (by decide +kernel), ?_⟩
      try dsimp only [gName, tSeq, tAsg, List.set_cons_zero, List.set_cons_succ]
      rw [odd_eq]
      have e59 : Str.ofString ";" = S [59] := by decide +kernel
      refine ⟨_, rfl, ⟨_, rfl⟩, oddS, _, rfl, rfl, (by decide +kernel), odd_len, fun L nL => ?_⟩
      rw [e59, odd_split]
      have sL := same_new (o := .lst ((oddT.map S).map V.str)) nL
      have hL0 : upd H2 L (.lst ((oddT.map S).map V.str)) L = some (.lst ((oddT.map S).map V.str)) := upd_same
      have k3 := k2.same sL
      generalize upd H2 L (.lst ((oddT.map S).map V.str)) = H3 at k3 hL0 ⊢
      refine ⟨L, rfl, ⟨_, sqL hL0⟩, ?_⟩
      refine for_it (walk_list (K := K) (a := L) (xs := (oddT.map S).map V.str)) (fun i σ H' => ∃ v4 : Option V, σ = [some (.ref a), some (.ref r), v2, v3, v4, v5, v6, v7, v8, v9, v10, v11, v12, v13, some (.str oddS)] ∧ Keep Tb r H' ∧ H' L = some (.lst ((oddT.map S).map V.str)))
        ⟨_, rfl, k3, hL0⟩ (fun i σ H' _ h => by obtain ⟨_, _, _, h⟩ := h; exact sqL h) ?_ ?_
      · rintro i v σ H4 H5 hi ⟨v4, rfl, k4, hL⟩ ⟨rfl, hv⟩
        obtain ⟨u, hu, rfl⟩ : ∃ u, u ∈ oddT ∧ v = tx u := by
          have := List.mem_of_getElem? hv
          rw [List.map_map] at this
          obtain ⟨u, hu, e⟩ := List.mem_map.mp this
          exact ⟨u, hu, e.symm⟩
        obtain ⟨uaz, ul⟩ := odd_az u hu
        have ucn := odd_cnt u hu
        try dsimp only [gName, tSeq, tAsg, List.set_cons_zero, List.set_cons_succ]
        refine lam_T2 (gs := [97, 98]) (be := u) EI xI k4.tab hab (by omega) uaz (by omega) (odd_no hu) (fun H1 k hk => by show k (V.str (Str.ofString "ab")) H1; rw [oab]; exact hk) (fun H1 k hk => ⟨_, rfl, hk⟩) fun H6 t e6 T6 ht => ?_
        have k6 := k4.ext e6 T6
        have hL6 := e6 _ _ hL (fun _ z => nomatch z)
        refine ⟨(by show 2 ≤ sizeLine; decide), fun t2 nt2 => ?_⟩
        have s2 := same_new (o := .tup [V.str (Str.ofString "InvalidText"), V.non]) nt2
        refine ⟨_, _, dp_two (s2 _ _ ht), dp_two upd_same, sh_it, sh_it, ?_⟩
        rw [eq_two sh_it]
        refine ⟨false, rfl, iteF ?_⟩
        exact ⟨_, rfl, k6.same s2, s2 _ _ hL6⟩
      · rintro σ H4 ⟨v4, rfl, k4, hL⟩
        try dsimp only [gName, tSeq, tAsg, List.set_cons_zero, List.set_cons_succ]
        have ot1 : Str.ofString "length(0,60)" = S (Cnd.cTx (.len 0 60)) := by decide +kernel
        have ot2 : Str.ofString "match()" = S (Cnd.cTx (.mat [])) := by decide +kernel
        have ds1 : SeqAt.shaped (cdD (.len 0 60)) = true := by decide +kernel
        have ds2 : SeqAt.shaped (cdD (.mat [])) = true := by decide +kernel
        refine ⟨[97, 98], .len 0 60, (by rw [oab, ot1]; rfl), hab, (by decide), .len (by decide) (by decide), (by decide), fun H5 v s5 hv => ?_⟩
        refine ⟨(by show 3 ≤ sizeLine; decide), fun t1 nt1 => ?_⟩
        have st1 := same_new (o := .tup [V.str (Str.ofString "length"), V.int 0, V.int 60]) nt1
        refine ⟨_, cdD (.len 0 60), dp_cd (hv.same st1), .tup (sqT upd_same) (.cons (.str _) (.cons (.int _) (.cons (.int _) .nil))), ds1, ds1, ?_⟩
        rw [SeqAt.eqv_refl _ (SeqAt.canLay_of_shaped ds1)]
        refine ⟨false, rfl, iteF ?_⟩
        refine ⟨[97, 98], .mat [], (by rw [oab, ot2]; rfl), hab, (by decide), .mat Cnd.Pat.nil (by decide), (by decide), fun H6 v s6 hv => ?_⟩
        refine ⟨(by show 2 ≤ sizeLine; decide), fun t2 nt2 => ?_⟩
        have st2 := same_new (o := .tup [V.str (Str.ofString "match"), V.str (Str.ofString "")]) nt2
        refine ⟨_, cdD (.mat []), dp_cd (hv.same st2), .tup (sqT upd_same) (.cons (.str _) (.cons (.str _) .nil)), ds2, ds2, ?_⟩
        rw [SeqAt.eqv_refl _ (SeqAt.canLay_of_shaped ds2)]
        exact q _
end
end Own

namespace Own
open PySem PySem.Spec PyProof.Rows L2 SX
def hnames0 : List Str := ["_wall", "FillError", "InvalidLetters", "UnknownLetter", "LettersDiffer", "ParseError", "InvalidText", "Missing", "LEAST_LETTERS", "MOST_LETTERS", "LOWERCASE", "check_letters", "check_same_letters", "check_text", "is_turn", "EMPTY_TEXT", "PLAIN_BLANK", "is_blank", "blank_width", "read_row"]
def hnames1 : List Str := ["item_text", "row_text", "text_parts", "row_parts", "Template", "can_stand", "check_pattern", "MOST_MODULUS", "MOST_NAME", "HOLDING_WORDS", "read_name", "template_text", "closing_place", "two_parts", "match_of", "length_of", "templates_of", "read_simple", "begun_conditions", "linking_word"]
def hnames2 : List Str := ["read_condition", "parse_condition", "format_condition", "_law_draws", "_law_draw", "_law_pick", "_law_field", "_law_try", "_law_letters", "_law_turn", "_law_items", "_law_text", "_law_pattern", "_law_leaf", "_law_condition", "_law_condition_text"]
abbrev hnames : List Str := hnames0 ++ hnames1 ++ hnames2
abbrev hfs : List Fct := [faB (.glo "check_letters"), einB "InvalidLetters", einB "ParseError", einB "InvalidText", faB (.glo "is_turn"), faB (.glo "is_blank"), faB (.glo "blank_width"), faB (.glo "read_row"), faB (.glo "item_text"), faB (.glo "row_text"), faB (.mkr "Template"), faB (.meth "Template" "text"), faB (.glo "can_stand"), faB (.glo "check_pattern"), faB (.glo "read_name"), faB (.glo "template_text"), faB (.glo "closing_place"), faB (.glo "two_parts"), faB (.glo "match_of"), faB (.glo "length_of"), faB (.glo "templates_of"), faB (.glo "read_simple"), faB (.glo "begun_conditions"), faB (.glo "linking_word"), faB (.glo "read_condition"), faB (.glo "parse_condition"), faB (.glo "format_condition"), faB (.glo "_law_draws"), faB (.glo "_law_draw"), faB (.glo "_law_pick"), faB (.glo "_law_field"), faB (.glo "_law_try"), faB (.glo "_law_letters"), faB (.glo "_law_turn"), faB (.glo "_law_items"), faB (.glo "_law_text"), faB (.glo "_law_pattern"), faB (.glo "_law_leaf"), faB (.glo "_law_condition"), faB (.glo "_law_condition_text"), faB (.glo "law"), faB (.glo "FillError"), faB (.glo "Missing"), faB (.glo "InvalidLetters"), errB "InvalidLetters" ["FillError", "Missing"], faB (.glo "ParseError"), errB "ParseError" ["FillError", "Missing"], faB (.glo "InvalidText"), errB "InvalidText" ["FillError", "Missing"], faB (.glo "Template"), faB (.cls "Template"), faB (.noat "Template" "alphabet"), faB (.noat "Template" "places"), faB (.int "LEAST_LETTERS" 2), faB (.int "MOST_LETTERS" 4), faB (.str "LOWERCASE" "abcdefghijklmnopqrstuvwxyz"), faB (.str "EMPTY_TEXT" "-"), faB (.str "PLAIN_BLANK" "{}"), faB (.int "MOST_MODULUS" 60), faB (.int "MOST_NAME" 8), faB (.free "enumerate"), faB (.free "int"), faB (.free "list"), faB (.free "len"), faB (.free "tuple"), faB (.free "str"), faB (.free "min"), faB (.free "range"), faB (.free "sorted"), fun K => decide (((PySem.W.nsIn K (He.ga K "HOLDING_WORDS") "same").any Option.isSome) = true), fun K => decide (((PySem.W.nsIn K (He.ga K "HOLDING_WORDS") "begins").any Option.isSome) = true), fun K => decide (((PySem.W.nsIn K (He.ga K "HOLDING_WORDS") "ends").any Option.isSome) = true), fun K => decide (((PySem.W.nsIn K (He.ga K "HOLDING_WORDS") "less").any Option.isSome) = true), fun K => decide (hwB (fun K => He.ga K "HOLDING_WORDS") K = true), fun K => decide (PySem.W.exmOne K (.ref (He.ga K "ParseError")) (.ref (He.ga K "ParseError")) = some true), faB (.glo "HOLDING_WORDS")]
abbrev hfn : List He5.DefA := [dG "check_letters" sCheckL, dM "InvalidLetters" "__init__" "InvalidLetters.__init__" sInitIL, dM "ParseError" "__init__" "ParseError.__init__" sInitPE, dM "InvalidText" "__init__" "InvalidText.__init__" sInitTx, dG "is_turn" sIs, dG "is_blank" sBk, dG "blank_width" sBw, dG "read_row" sRd, dG "item_text" sIt, dG "row_text" sRt, dM "Template" "__init__" "Template.__init__" sTi, dM "Template" "text" "Template.text" sText, dG "can_stand" sCan, dG "check_pattern" sCkp, dG "read_name" sRnm, dG "template_text" sTtx, dG "closing_place" sClo, dG "two_parts" sTwo, dG "match_of" sMof, dG "length_of" sLof, dG "templates_of" sTof, dG "read_simple" sRsm, dG "begun_conditions" sBeg, dG "linking_word" sLnk, dG "read_condition" sRdc, dG "parse_condition" sPrs, dG "format_condition" sFmt, dG "_law_draws" sDraws, dG "_law_draw" sDraw, dG "_law_pick" sPick, dG "_law_field" sField, dG "_law_try" sTry, dG "_law_letters" sLetters, dG "_law_turn" sTurn, dG "_law_items" sItems, dG "_law_text" sLx, dG "_law_pattern" sPtn, dG "_law_leaf" sLef, dG "_law_condition" sCon, dG "_law_condition_text" sCtx, dG "law" sLaw]
abbrev htf : List (PySem.W.Frag → Addr) := [fun K => He.ga K "law"]
abbrev hR : PySem.W.OpenRow := PySem.W.OpenLaw.row PySem.Challenge.rw_ownfill_k39_texts_of_conditions_refused
def has0 : List Addr := [2, 3, 15, 17, 18, 20, 21, 22, 29, 31, 32, 34, 35, 36, 37, 38, 39, 42, 49, 51, 52, 54, 55, 56, 57, 58, 61, 68, 70, 71, 73, 74, 75, 76, 77, 80, 87, 89, 90, 92, 93, 94, 95, 96, 99, 106, 108, 109, 111, 112, 113, 114, 115, 118, 125, 127, 128, 130, 131, 132, 133, 134, 137, 144, 146, 147, 149, 150, 151, 152, 153, 154, 157, 159, 160, 162, 163, 164, 166, 167, 169, 170, 171, 173, 174, 176, 177, 178, 180, 181, 183, 184, 185, 187, 188, 190, 191, 192, 194, 195]
def has1 : List Addr := [197, 198, 199, 201, 202, 204, 205, 206, 208, 209, 211, 212, 213, 216, 217, 218, 220, 221, 223, 224, 225, 227, 228, 230, 231, 239, 241, 242, 244, 245, 246, 248, 249, 251, 252, 253, 254, 255, 256, 257, 259, 260, 262, 263, 264, 265, 266, 267, 269, 270, 272, 273, 274, 275, 278, 279, 280, 281, 284, 285, 286, 287, 289, 290, 292, 293, 294, 296, 297, 299, 300, 301, 303, 304, 306, 307, 308, 310, 311, 313, 314, 315, 317, 318, 320, 321, 322, 324, 325, 327, 328, 329, 331, 332, 334, 335, 336, 338, 339, 341]
def has2 : List Addr := [342, 343, 345, 346, 348, 349, 350, 352, 353, 355, 356, 357, 359, 360, 362, 363, 364, 366, 367, 369, 370, 371, 373, 374, 376, 377, 378, 380, 381, 383, 384, 385, 386, 387, 388, 389, 392, 394, 395, 397, 398, 399, 401, 402, 404, 405, 406, 407, 408, 409, 410, 411, 413, 414, 416, 417, 418, 420, 421, 423, 424, 425, 427, 428, 430, 431, 432, 434, 435, 437, 438, 439, 441, 442, 444, 445, 446, 449, 450, 451, 453, 454, 456, 457, 458, 460, 461, 463, 464, 465, 467, 468, 470, 471, 472, 474, 475, 477, 478, 479]
def has3 : List Addr := [481, 482, 484, 485, 486, 488, 489, 491, 492, 493, 496, 497, 498, 500, 501, 503, 504, 505, 507, 508, 510, 511, 512, 514, 515, 517, 518, 519, 521, 522, 524, 525, 526, 528, 529, 531, 532, 533, 536, 537, 538, 540, 541, 543, 544, 545, 547, 548, 550, 551, 552, 555, 556, 557, 559, 560, 562, 563, 564, 566, 567, 569, 570, 571, 573, 574, 576, 577, 578, 580, 581, 583, 584, 585, 587, 588, 590, 591]
abbrev has : List Addr := has0 ++ has1 ++ has2 ++ has3
abbrev hdk : List DcA := [(fun K => He.ga K "HOLDING_WORDS", ["same", "begins", "ends", "less"])]
abbrev hk : PySem.W.Hook := hookD has hfs hfn htf hdk
abbrev hob (s : PySem.W.SharedT) : hk.α := obsD has hfs hfn htf hdk (HandSHeadRun.getT s)
set_option maxHeartbeats 0 in
theorem run_false (w : World) : HandSHeadRun.RunEq hR (PySem.W.view hR.prog [62]) hk hob 8000 hnames (w.withFollow "special-get-raises" false) := by
  intro os
  kernel_rfl
set_option maxHeartbeats 0 in
theorem run_true (w : World) : HandSHeadRun.RunEq hR (PySem.W.view hR.prog [62]) hk hob 8000 hnames (w.withFollow "special-get-raises" true) := by
  intro os
  kernel_rfl
theorem hrun : ∀ w : World, HandSHeadRun.RunEq hR (PySem.W.view hR.prog [62]) hk hob 8000 hnames w := two_ways run_false run_true
theorem ends {l : PySem.W.OpenLaw} {w : World} {K : PySem.W.Frag} {h : Heap} {mg : Str → Option Value} {fa : Addr} (X : K.In h) (G : h.Ns mainGlobals mg) (hfa : mg "law" = some (.ref fa)) (c' : ToldD hfs hfn htf hdk w h K) : LamX.LawAtS l w K CX0 58 63 "_law_script" mg fa h := by
  have c := c'.told
  obtain ⟨fd1, G1_⟩ := c.def_ 0
  have F1 : Fun K "check_letters" "check_letters" sCheckL (He.ga K "check_letters") fd1 := He5.fun_of G1_
  have g1 := He.glo_ok X G (c.fact 0)
  obtain ⟨fd2, G2_⟩ := c.def_ 1
  have F2 : Fun K "__init__" "InvalidLetters.__init__" sInitIL (He.ma K (He.ga K "InvalidLetters") "__init__") fd2 := He5.fun_of G2_
  obtain ⟨a2, y2⟩ := ein_ok (c.fact 1)
  obtain ⟨fd3, G3_⟩ := c.def_ 2
  have F3 : Fun K "__init__" "ParseError.__init__" sInitPE (He.ma K (He.ga K "ParseError") "__init__") fd3 := He5.fun_of G3_
  obtain ⟨a3, y3⟩ := ein_ok (c.fact 2)
  obtain ⟨fd4, G4_⟩ := c.def_ 3
  have F4 : Fun K "__init__" "InvalidText.__init__" sInitTx (He.ma K (He.ga K "InvalidText") "__init__") fd4 := He5.fun_of G4_
  obtain ⟨a4, y4⟩ := ein_ok (c.fact 3)
  obtain ⟨fd5, G5_⟩ := c.def_ 4
  have F5 : Fun K "is_turn" "is_turn" sIs (He.ga K "is_turn") fd5 := He5.fun_of G5_
  have g5 := He.glo_ok X G (c.fact 4)
  obtain ⟨fd6, G6_⟩ := c.def_ 5
  have F6 : Fun K "is_blank" "is_blank" sBk (He.ga K "is_blank") fd6 := He5.fun_of G6_
  have g6 := He.glo_ok X G (c.fact 5)
  obtain ⟨fd7, G7_⟩ := c.def_ 6
  have F7 : Fun K "blank_width" "blank_width" sBw (He.ga K "blank_width") fd7 := He5.fun_of G7_
  have g7 := He.glo_ok X G (c.fact 6)
  obtain ⟨fd8, G8_⟩ := c.def_ 7
  have F8 : Fun K "read_row" "read_row" sRd (He.ga K "read_row") fd8 := He5.fun_of G8_
  have g8 := He.glo_ok X G (c.fact 7)
  obtain ⟨fd9, G9_⟩ := c.def_ 8
  have F9 : Fun K "item_text" "item_text" sIt (He.ga K "item_text") fd9 := He5.fun_of G9_
  have g9 := He.glo_ok X G (c.fact 8)
  obtain ⟨fd10, G10_⟩ := c.def_ 9
  have F10 : Fun K "row_text" "row_text" sRt (He.ga K "row_text") fd10 := He5.fun_of G10_
  have g10 := He.glo_ok X G (c.fact 9)
  obtain ⟨fd11, G11_⟩ := c.def_ 10
  have F11 : Fun K "__init__" "Template.__init__" sTi (He.ma K (He.ga K "Template") "__init__") fd11 := He5.fun_of G11_
  have MK_Template := He.mkr_ok (c.fact 10)
  obtain ⟨fd12, G12_⟩ := c.def_ 11
  have F12 : Fun K "text" "Template.text" sText (He.ma K (He.ga K "Template") "text") fd12 := He5.fun_of G12_
  have M12 := He.meth_ok (c.fact 11)
  have D12 : DunOf K (He.ga K "Template") "text" (He.ma K (He.ga K "Template") "text") := ⟨M12.at_, M12.fn⟩
  obtain ⟨fd13, G13_⟩ := c.def_ 12
  have F13 : Fun K "can_stand" "can_stand" sCan (He.ga K "can_stand") fd13 := He5.fun_of G13_
  have g13 := He.glo_ok X G (c.fact 12)
  obtain ⟨fd14, G14_⟩ := c.def_ 13
  have F14 : Fun K "check_pattern" "check_pattern" sCkp (He.ga K "check_pattern") fd14 := He5.fun_of G14_
  have g14 := He.glo_ok X G (c.fact 13)
  obtain ⟨fd15, G15_⟩ := c.def_ 14
  have F15 : Fun K "read_name" "read_name" sRnm (He.ga K "read_name") fd15 := He5.fun_of G15_
  have g15 := He.glo_ok X G (c.fact 14)
  obtain ⟨fd16, G16_⟩ := c.def_ 15
  have F16 : Fun K "template_text" "template_text" sTtx (He.ga K "template_text") fd16 := He5.fun_of G16_
  have g16 := He.glo_ok X G (c.fact 15)
  obtain ⟨fd17, G17_⟩ := c.def_ 16
  have F17 : Fun K "closing_place" "closing_place" sClo (He.ga K "closing_place") fd17 := He5.fun_of G17_
  have g17 := He.glo_ok X G (c.fact 16)
  obtain ⟨fd18, G18_⟩ := c.def_ 17
  have F18 : Fun K "two_parts" "two_parts" sTwo (He.ga K "two_parts") fd18 := He5.fun_of G18_
  have g18 := He.glo_ok X G (c.fact 17)
  obtain ⟨fd19, G19_⟩ := c.def_ 18
  have F19 : Fun K "match_of" "match_of" sMof (He.ga K "match_of") fd19 := He5.fun_of G19_
  have g19 := He.glo_ok X G (c.fact 18)
  obtain ⟨fd20, G20_⟩ := c.def_ 19
  have F20 : Fun K "length_of" "length_of" sLof (He.ga K "length_of") fd20 := He5.fun_of G20_
  have g20 := He.glo_ok X G (c.fact 19)
  obtain ⟨fd21, G21_⟩ := c.def_ 20
  have F21 : Fun K "templates_of" "templates_of" sTof (He.ga K "templates_of") fd21 := He5.fun_of G21_
  have g21 := He.glo_ok X G (c.fact 20)
  obtain ⟨fd22, G22_⟩ := c.def_ 21
  have F22 : Fun K "read_simple" "read_simple" sRsm (He.ga K "read_simple") fd22 := He5.fun_of G22_
  have g22 := He.glo_ok X G (c.fact 21)
  obtain ⟨fd23, G23_⟩ := c.def_ 22
  have F23 : Fun K "begun_conditions" "begun_conditions" sBeg (He.ga K "begun_conditions") fd23 := He5.fun_of G23_
  have g23 := He.glo_ok X G (c.fact 22)
  obtain ⟨fd24, G24_⟩ := c.def_ 23
  have F24 : Fun K "linking_word" "linking_word" sLnk (He.ga K "linking_word") fd24 := He5.fun_of G24_
  have g24 := He.glo_ok X G (c.fact 23)
  obtain ⟨fd25, G25_⟩ := c.def_ 24
  have F25 : Fun K "read_condition" "read_condition" sRdc (He.ga K "read_condition") fd25 := He5.fun_of G25_
  have g25 := He.glo_ok X G (c.fact 24)
  obtain ⟨fd26, G26_⟩ := c.def_ 25
  have F26 : Fun K "parse_condition" "parse_condition" sPrs (He.ga K "parse_condition") fd26 := He5.fun_of G26_
  have g26 := He.glo_ok X G (c.fact 25)
  obtain ⟨fd27, G27_⟩ := c.def_ 26
  have F27 : Fun K "format_condition" "format_condition" sFmt (He.ga K "format_condition") fd27 := He5.fun_of G27_
  have g27 := He.glo_ok X G (c.fact 26)
  obtain ⟨fd28, G28_⟩ := c.def_ 27
  have F28 : Fun K "_law_draws" "_law_draws" sDraws (He.ga K "_law_draws") fd28 := He5.fun_of G28_
  have g28 := He.glo_ok X G (c.fact 27)
  obtain ⟨fd29, G29_⟩ := c.def_ 28
  have F29 : Fun K "_law_draw" "_law_draw" sDraw (He.ga K "_law_draw") fd29 := He5.fun_of G29_
  have g29 := He.glo_ok X G (c.fact 28)
  obtain ⟨fd30, G30_⟩ := c.def_ 29
  have F30 : Fun K "_law_pick" "_law_pick" sPick (He.ga K "_law_pick") fd30 := He5.fun_of G30_
  have g30 := He.glo_ok X G (c.fact 29)
  obtain ⟨fd31, G31_⟩ := c.def_ 30
  have F31 : Fun K "_law_field" "_law_field" sField (He.ga K "_law_field") fd31 := He5.fun_of G31_
  have g31 := He.glo_ok X G (c.fact 30)
  obtain ⟨fd32, G32_⟩ := c.def_ 31
  have F32 : Fun K "_law_try" "_law_try" sTry (He.ga K "_law_try") fd32 := He5.fun_of G32_
  have g32 := He.glo_ok X G (c.fact 31)
  obtain ⟨fd33, G33_⟩ := c.def_ 32
  have F33 : Fun K "_law_letters" "_law_letters" sLetters (He.ga K "_law_letters") fd33 := He5.fun_of G33_
  have g33 := He.glo_ok X G (c.fact 32)
  obtain ⟨fd34, G34_⟩ := c.def_ 33
  have F34 : Fun K "_law_turn" "_law_turn" sTurn (He.ga K "_law_turn") fd34 := He5.fun_of G34_
  have g34 := He.glo_ok X G (c.fact 33)
  obtain ⟨fd35, G35_⟩ := c.def_ 34
  have F35 : Fun K "_law_items" "_law_items" sItems (He.ga K "_law_items") fd35 := He5.fun_of G35_
  have g35 := He.glo_ok X G (c.fact 34)
  obtain ⟨fd36, G36_⟩ := c.def_ 35
  have F36 : Fun K "_law_text" "_law_text" sLx (He.ga K "_law_text") fd36 := He5.fun_of G36_
  have g36 := He.glo_ok X G (c.fact 35)
  obtain ⟨fd37, G37_⟩ := c.def_ 36
  have F37 : Fun K "_law_pattern" "_law_pattern" sPtn (He.ga K "_law_pattern") fd37 := He5.fun_of G37_
  have g37 := He.glo_ok X G (c.fact 36)
  obtain ⟨fd38, G38_⟩ := c.def_ 37
  have F38 : Fun K "_law_leaf" "_law_leaf" sLef (He.ga K "_law_leaf") fd38 := He5.fun_of G38_
  have g38 := He.glo_ok X G (c.fact 37)
  obtain ⟨fd39, G39_⟩ := c.def_ 38
  have F39 : Fun K "_law_condition" "_law_condition" sCon (He.ga K "_law_condition") fd39 := He5.fun_of G39_
  have g39 := He.glo_ok X G (c.fact 38)
  obtain ⟨fd40, G40_⟩ := c.def_ 39
  have F40 : Fun K "_law_condition_text" "_law_condition_text" sCtx (He.ga K "_law_condition_text") fd40 := He5.fun_of G40_
  have g40 := He.glo_ok X G (c.fact 39)
  obtain ⟨fd41, G41_⟩ := c.def_ 40
  have F41 : Fun K "law" "law" sLaw (He.ga K "law") fd41 := He5.fun_of G41_
  have g41 := He.glo_ok X G (c.fact 40)
  have h_FillError := He.glo_ok X G (c.fact 41)
  have h_Missing := He.glo_ok X G (c.fact 42)
  have e1 := He.glo_ok X G (c.fact 43)
  obtain ⟨E1, xm1⟩ := err_ok e1 (c.fact 44)
  have e2 := He.glo_ok X G (c.fact 45)
  obtain ⟨E2, xm2⟩ := err_ok e2 (c.fact 46)
  have e3 := He.glo_ok X G (c.fact 47)
  obtain ⟨E3, xm3⟩ := err_ok e3 (c.fact 48)
  have gT_Template := He.glo_ok X G (c.fact 49)
  have TC : TmC K (He.ga K "Template") := ⟨He.cls_ok (c.fact 50), He.noat_ok (c.fact 51), He.noat_ok (c.fact 52)⟩
  obtain ⟨t_LEAST_LETTERS, h_LEAST_LETTERS⟩ := He.int_ok X G (c.fact 53)
  obtain ⟨t_MOST_LETTERS, h_MOST_LETTERS⟩ := He.int_ok X G (c.fact 54)
  obtain ⟨t_LOWERCASE, h_LOWERCASE⟩ := He.str_ok X G (c.fact 55)
  obtain ⟨t_EMPTY_TEXT, h_EMPTY_TEXT⟩ := He.str_ok X G (c.fact 56)
  obtain ⟨t_PLAIN_BLANK, h_PLAIN_BLANK⟩ := He.str_ok X G (c.fact 57)
  obtain ⟨t_MOST_MODULUS, h_MOST_MODULUS⟩ := He.int_ok X G (c.fact 58)
  obtain ⟨t_MOST_NAME, h_MOST_NAME⟩ := He.int_ok X G (c.fact 59)
  have m_enumerate := He.free_ok X G (c.fact 60)
  have m_int := He.free_ok X G (c.fact 61)
  have m_list := He.free_ok X G (c.fact 62)
  have m_len := He.free_ok X G (c.fact 63)
  have m_tuple := He.free_ok X G (c.fact 64)
  have m_str := He.free_ok X G (c.fact 65)
  have m_min := He.free_ok X G (c.fact 66)
  have m_range := He.free_ok X G (c.fact 67)
  have m_sorted := He.free_ok X G (c.fact 68)
  have kw0 := of_decide_eq_true (c.fact 69)
  have kw1_ := of_decide_eq_true (c.fact 70)
  have kw2_ := of_decide_eq_true (c.fact 71)
  have kw3 := of_decide_eq_true (c.fact 72)
  have hwb := of_decide_eq_true (c.fact 73)
  have xPE := of_decide_eq_true (c.fact 74)
  have gD_HOLDING_WORDS := He.glo_ok X G (c.fact 75)
  obtain ⟨es_HOLDING_WORDS, n_HOLDING_WORDS, D_HOLDING_WORDS⟩ := c'.dic 0
  have e_ := hfa.symm.trans g41
  cases e_
  obtain ⟨⟨oc_0, od_0, kVv_0, dc_0, pm_0, an_0, cdv_0, ct_0, sl_0, rfl, lw_0, cw_0⟩, kw_0⟩ := id F41
  obtain ⟨cc_0, rfl⟩ := He.codeIn_ref cw_0
  obtain ⟨hPt_0, nT_0, hC_0⟩ := law_tab (p := fun K => He.ga K "law") c (List.Mem.head _) lw_0 rfl
  have hC'_0 := PySem.W.codeHd_of_K X hC_0
  have qT_0 : codT K (He.ga K "law") = (cc_0, He.tabOf K cc_0) := by unfold codT; rw [lw_0]
  clear qT_0
  generalize He.tabOf K cc_0 = Pt_0 at hPt_0 nT_0 hC_0 hC'_0 
  refine ⟨PySem.W.fnOf "law" "law" (defArgs sLaw) (defBody sLaw) (defScope sLaw) .none kVv_0 dc_0 pm_0 an_0 (.ref cc_0) ct_0, [(cc_0, Pt_0)], spLaw K Pt_0, (fun p hp => by rw [List.mem_singleton.mp hp]; exact hPt_0), (fun p hp => by rw [List.mem_singleton.mp hp]; exact nT_0), (fun p hp => by rw [List.mem_singleton.mp hp]; exact hC'_0), fun s v => .of_eq rfl, fun H a ns _ _ hH hS => ⟨a, ns, rfl, hS, hH _ (List.Mem.head _), fun _ => rfl⟩, fun base _ _ TB => ?_⟩
  have d1 := F1.binds (ps := ["letters"]) fun _ _ _ _ _ _ us hl => match us, hl with | [_], _ => rfl
  have d2 := F2.binds (ps := ["self"]) fun _ _ _ _ _ _ us hl => match us, hl with | [_], _ => rfl
  have d3 := F3.binds (ps := ["self", "position"]) fun _ _ _ _ _ _ us hl => match us, hl with | [_, _], _ => rfl
  have d4 := F4.binds (ps := ["self"]) fun _ _ _ _ _ _ us hl => match us, hl with | [_], _ => rfl
  have d5 := F5.binds (ps := ["letters", "turn"]) fun _ _ _ _ _ _ us hl => match us, hl with | [_, _], _ => rfl
  have d6 := F6.binds (ps := ["item"]) fun _ _ _ _ _ _ us hl => match us, hl with | [_], _ => rfl
  have d7 := F7.binds (ps := ["letters", "text", "at"]) fun _ _ _ _ _ _ us hl => match us, hl with | [_, _, _], _ => rfl
  have d8 := F8.binds (ps := ["letters", "text"]) fun _ _ _ _ _ _ us hl => match us, hl with | [_, _], _ => rfl
  have d9 := F9.binds (ps := ["letters", "item"]) fun _ _ _ _ _ _ us hl => match us, hl with | [_, _], _ => rfl
  have d10 := F10.binds (ps := ["letters", "row"]) fun _ _ _ _ _ _ us hl => match us, hl with | [_, _], _ => rfl
  have d11 := F11.binds (ps := ["self", "letters", "text"]) fun _ _ _ _ _ _ us hl => match us, hl with | [_, _, _], _ => rfl
  have d12 := F12.binds (ps := ["self"]) fun _ _ _ _ _ _ us hl => match us, hl with | [_], _ => rfl
  have d13 := F13.binds (ps := ["letters", "before", "sign", "depth"]) fun _ _ _ _ _ _ us hl => match us, hl with | [_, _, _, _], _ => rfl
  have d14 := F14.binds (ps := ["letters", "pattern"]) fun _ _ _ _ _ _ us hl => match us, hl with | [_, _], _ => rfl
  have d15 := F15.binds (ps := ["text", "at"]) fun _ _ _ _ _ _ us hl => match us, hl with | [_, _], _ => rfl
  have d16 := F16.binds (ps := ["letters", "text"]) fun _ _ _ _ _ _ us hl => match us, hl with | [_, _], _ => rfl
  have d17 := F17.binds (ps := ["text", "at"]) fun _ _ _ _ _ _ us hl => match us, hl with | [_, _], _ => rfl
  have d18 := F18.binds (ps := ["text"]) fun _ _ _ _ _ _ us hl => match us, hl with | [_], _ => rfl
  have d19 := F19.binds (ps := ["letters", "text"]) fun _ _ _ _ _ _ us hl => match us, hl with | [_, _], _ => rfl
  have d20 := F20.binds (ps := ["text"]) fun _ _ _ _ _ _ us hl => match us, hl with | [_], _ => rfl
  have d21 := F21.binds (ps := ["letters", "kind", "text"]) fun _ _ _ _ _ _ us hl => match us, hl with | [_, _, _], _ => rfl
  have d22 := F22.binds (ps := ["letters", "text", "at"]) fun _ _ _ _ _ _ us hl => match us, hl with | [_, _, _], _ => rfl
  have d23 := F23.binds (ps := ["text", "at"]) fun _ _ _ _ _ _ us hl => match us, hl with | [_, _], _ => rfl
  have d24 := F24.binds (ps := ["text", "at"]) fun _ _ _ _ _ _ us hl => match us, hl with | [_, _], _ => rfl
  have d25 := F25.binds (ps := ["letters", "text", "at"]) fun _ _ _ _ _ _ us hl => match us, hl with | [_, _, _], _ => rfl
  have d26 := F26.binds (ps := ["letters", "text"]) fun _ _ _ _ _ _ us hl => match us, hl with | [_, _], _ => rfl
  have d27 := F27.binds (ps := ["condition"]) fun _ _ _ _ _ _ us hl => match us, hl with | [_], _ => rfl
  have d28 := F28.binds (ps := ["_law_script"]) fun _ _ _ _ _ _ us hl => match us, hl with | [_], _ => rfl
  have d29 := F29.binds (ps := ["_law_rng", "_law_sides"]) fun _ _ _ _ _ _ us hl => match us, hl with | [_, _], _ => rfl
  have d30 := F30.binds (ps := ["_law_rng", "_law_things"]) fun _ _ _ _ _ _ us hl => match us, hl with | [_, _], _ => rfl
  have d31 := F31.binds (ps := ["_law_e"]) fun _ _ _ _ _ _ us hl => match us, hl with | [_], _ => rfl
  have d32 := F32.binds (ps := ["_law_ask"]) fun _ _ _ _ _ _ us hl => match us, hl with | [_], _ => rfl
  have d33 := F33.binds (ps := ["_law_rng", "_law_most"]) fun _ _ _ _ _ _ us hl => match us, hl with | [_, _], _ => rfl
  have d34 := F34.binds (ps := ["_law_rng", "_law_signs"]) fun _ _ _ _ _ _ us hl => match us, hl with | [_, _], _ => rfl
  have d35 := F35.binds (ps := ["_law_rng", "_law_signs", "_law_most"]) fun _ _ _ _ _ _ us hl => match us, hl with | [_, _, _], _ => rfl
  have d36 := F36.binds (ps := ["_law_signs", "_law_items_here"]) fun _ _ _ _ _ _ us hl => match us, hl with | [_, _], _ => rfl
  have d37 := F37.binds (ps := ["_law_rng", "_law_signs", "_law_deep"]) fun _ _ _ _ _ _ us hl => match us, hl with | [_, _, _], _ => rfl
  have d38 := F38.binds (ps := ["_law_rng", "_law_signs", "_law_most"]) fun _ _ _ _ _ _ us hl => match us, hl with | [_, _, _], _ => rfl
  have d39 := F39.binds (ps := ["_law_rng", "_law_signs", "_law_deep", "_law_most"]) fun _ _ _ _ _ _ us hl => match us, hl with | [_, _, _, _], _ => rfl
  have d40 := F40.binds (ps := ["_law_condition_here"]) fun _ _ _ _ _ _ us hl => match us, hl with | [_], _ => rfl
  have nsI : ∀ o : Option (Option Value), o.any Option.isSome = true → ∃ u, o = some (some u) := fun o h => match o, h with | some (some u), _ => ⟨u, rfl⟩
  have kWp : ∀ k, k ≤ 3 → ∃ u, PySem.W.nsIn K (He.ga K "HOLDING_WORDS") (kwS k) = some (some u) := fun k hk => match k, hk with | 0, _ => nsI _ kw0 | 1, _ => nsI _ kw1_ | 2, _ => nsI _ kw2_ | 3, _ => nsI _ kw3
  have kW := kW_of (K := K) (HW := fun K => He.ga K "HOLDING_WORDS") hwb
  have cDr : Cl l.prog w K mg base "_law_draw" 1 ["_law_rng", "_law_sides"] spDraw (He.ga K "_law_draw") _ := ⟨ok_draw F29 m_int m_len, g29, F29.kp, d29⟩
  have cPk : Cl l.prog w K mg base "_law_pick" 2 ["_law_rng", "_law_things"] (spPick K) (He.ga K "_law_pick") _ := ⟨ok_pick F30 F29 d29 g29 m_int m_len, g30, F30.kp, d30⟩
  have cTn : Cl l.prog w K mg base "_law_turn" 2 ["_law_rng", "_law_signs"] spTurn (He.ga K "_law_turn") _ := ⟨ok_turn F34 F29 d29 g29 m_int m_len m_range, g34, F34.kp, d34⟩
  have cBk : Cl l.prog w K mg base "is_blank" 1 ["item"] spBk (He.ga K "is_blank") _ := ⟨ok_bk F6 m_len, g6, F6.kp, d6⟩
  have cIs : Cl l.prog w K mg base "is_turn" 1 ["letters", "turn"] spIs (He.ga K "is_turn") _ := ⟨ok_is F5 m_sorted, g5, F5.kp, d5⟩
  have cItx : Cl l.prog w K mg base "item_text" 2 ["letters", "item"] spIt (He.ga K "item_text") _ := ⟨ok_it F9 cBk ⟨_, h_PLAIN_BLANK⟩, g9, F9.kp, d9⟩
  have cRt : Cl l.prog w K mg base "row_text" 3 ["letters", "row"] (spRt K) (He.ga K "row_text") _ := ⟨ok_rt F10 m_len cItx ⟨_, h_EMPTY_TEXT⟩, g10, F10.kp, d10⟩
  have cBw : Cl l.prog w K mg base "blank_width" 2 ["letters", "text", "at"] spBw (He.ga K "blank_width") _ := ⟨ok_bw F7 m_len cIs ⟨_, h_PLAIN_BLANK⟩, g7, F7.kp, d7⟩
  have cB0 : Cl l.prog w K mg base "blank_width" 2 ["letters", "text", "at"] spBw0 (He.ga K "blank_width") _ := ⟨ok_bw0 F7 m_len cIs ⟨_, h_PLAIN_BLANK⟩, g7, F7.kp, d7⟩
  have cRd : Cl l.prog w K mg base "read_row" 3 ["letters", "text"] spRd (He.ga K "read_row") _ := ⟨ok_rd F8 m_len cBw ⟨_, h_EMPTY_TEXT⟩, g8, F8.kp, d8⟩
  have cCL : Cl l.prog w K mg base "check_letters" 1 ["letters"] spCLn (He.ga K "check_letters") _ := ⟨ok_checkLn F1 m_enumerate m_len ⟨_, h_LEAST_LETTERS⟩ ⟨_, h_MOST_LETTERS⟩ ⟨_, h_LOWERCASE⟩, g1, F1.kp, d1⟩
  have GI : FnOk l.prog w K mg base CX0 4 (He.ma K (He.ga K "Template") "__init__") _ ["self", "letters", "text"] (spTi (He.ga K "Template")) := ok_ti F11 TC m_tuple cCL cRd
  have GT : FnOk l.prog w K mg base CX0 4 (He.ma K (He.ga K "Template") "text") _ ["self"] (spText (He.ga K "Template")) := ok_text F12 TC cRt
  have cCan : Cl l.prog w K mg base "can_stand" 1 ["letters", "before", "sign", "depth"] spCan (He.ga K "can_stand") _ := ⟨ok_can F13, g13, F13.kp, d13⟩
  have cCkp : Cl l.prog w K mg base "check_pattern" 2 ["letters", "pattern"] spCkp (He.ga K "check_pattern") _ := ⟨ok_ckp F14 m_enumerate cCan, g14, F14.kp, d14⟩
  have cRnm : Cl l.prog w K mg base "read_name" 1 ["text", "at"] spRnm (He.ga K "read_name") _ := ⟨ok_rnm F15 m_len ⟨_, h_LOWERCASE⟩ ⟨_, h_MOST_NAME⟩, g15, F15.kp, d15⟩
  have cTtx : Cl l.prog w K mg base "template_text" 6 ["letters", "text"] spTtx (He.ga K "template_text") _ := ⟨ok_ttx F16 TC MK_Template gT_Template GI d11 M12 GT d12, g16, F16.kp, d16⟩
  have cClo : Cl l.prog w K mg base "closing_place" 1 ["text", "at"] spClo (He.ga K "closing_place") _ := ⟨ok_clo F17 m_len m_range, g17, F17.kp, d17⟩
  have cTwo : Cl l.prog w K mg base "two_parts" 1 ["text"] spTwo (He.ga K "two_parts") _ := ⟨ok_two F18 m_len, g18, F18.kp, d18⟩
  have cMof : Cl l.prog w K mg base "match_of" 3 ["letters", "text"] spMof (He.ga K "match_of") _ := ⟨ok_mof F19 cCkp, g19, F19.kp, d19⟩
  have cLof : Cl l.prog w K mg base "length_of" 2 ["text"] spLof (He.ga K "length_of") _ := ⟨ok_lof F20 cTwo ⟨_, h_MOST_MODULUS⟩ m_range m_str, g20, F20.kp, d20⟩
  have cTof : Cl l.prog w K mg base "templates_of" 7 ["letters", "kind", "text"] spTof (He.ga K "templates_of") _ := ⟨ok_tof F21 cTwo cTtx, g21, F21.kp, d21⟩
  have cRsm : Cl l.prog w K mg base "read_simple" 8 ["letters", "text", "at"] spRsm (He.ga K "read_simple") _ := ⟨ok_rsm F22 m_len cRnm cClo cMof cLof cTof gD_HOLDING_WORDS D_HOLDING_WORDS kWp, g22, F22.kp, d22⟩
  have cBeg : Cl l.prog w K mg base "begun_conditions" 1 ["text", "at"] spBeg (He.ga K "begun_conditions") _ := ⟨ok_beg F23 m_len, g23, F23.kp, d23⟩
  have cLnk : Cl l.prog w K mg base "linking_word" 1 ["text", "at"] spLnk (He.ga K "linking_word") _ := ⟨ok_lnk F24, g24, F24.kp, d24⟩
  have cRdc : Cl l.prog w K mg base "read_condition" 9 ["letters", "text", "at"] spRdc (He.ga K "read_condition") _ := ⟨ok_rdc F25 m_len cBeg cRsm cLnk, g25, F25.kp, d25⟩
  have cPrs : Cl l.prog w K mg base "parse_condition" 10 ["letters", "text"] spPrs (He.ga K "parse_condition") _ := ⟨ok_prs F26 m_len cRdc, g26, F26.kp, d26⟩
  have cFmt : Cl l.prog w K mg base "format_condition" 52 ["condition"] (spFmt 52) (He.ga K "format_condition") _ := ⟨fmt_all F27 d27 g27 m_str 52, g27, F27.kp, d27⟩
  have eT : ErM0 l.prog w K mg base "InvalidText" (He.ga K "InvalidText") := erM0_of E3 a4 y4 (ok_initTx F4 E3) d4 (by decide)
  have eH : ErH0 l.prog w K mg base "InvalidText" (He.ga K "InvalidText") := erH0_of E3 a4 y4 (ok_initTxH F4 E3) d4 (by decide)
  have eP : ErMN l.prog w K mg base "ParseError" (He.ga K "ParseError") "position" := erMN_of E2 a3 y3 (ok_initPF F3 E2) d3 (by decide)
  have GCk : FnOk l.prog w K mg base (L2N.CX l.prog w) 3 (He.ga K "check_pattern") _ ["letters", "pattern"] (spCkx (He.ga K "ParseError")) := ok_ckx m_enumerate m_len F14 cCan eP
  have GMo : FnOk l.prog w K mg base (L2.CX l.prog w) 5 (He.ga K "match_of") _ ["letters", "text"] (spMox (He.ga K "InvalidText")) := ok_mox F19 e2 xPE eH GCk g14 F14.kp d14
  have GRN : FnOk l.prog w K mg base (L2N.CX l.prog w) 3 (He.ga K "read_row") _ ["letters", "text"] (spRdX (He.ga K "ParseError")) := ok_rdN F8 m_len cBw cB0 ⟨_, h_EMPTY_TEXT⟩ E2 F3 d3 a3 y3
  have GTN : FnOk l.prog w K mg base (L2N.CX l.prog w) 4 (He.ma K (He.ga K "Template") "__init__") _ ["self", "letters", "text"] (spTiN (He.ga K "Template") (He.ga K "ParseError")) := ok_tiN F11 TC m_tuple cCL GRN g8 F8.kp d8
  have GTt : FnOk l.prog w K mg base (L2.CX l.prog w) 6 (He.ga K "template_text") _ ["letters", "text"] (spTtn (He.ga K "InvalidText")) := ok_ttn F16 e2 xPE eH TC MK_Template gT_Template GTN d11 M12 GT d12
  have GRnx : FnOk l.prog w K mg base (L2.CX l.prog w) 3 (He.ga K "read_name") _ ["text", "at"] (spRnx (He.ga K "InvalidText")) := ok_rnx F15 m_len eT ⟨_, h_LOWERCASE⟩ ⟨_, h_MOST_NAME⟩
  have GClx : FnOk l.prog w K mg base (L2.CX l.prog w) 3 (He.ga K "closing_place") _ ["text", "at"] (spClx (He.ga K "InvalidText")) := ok_clx F17 m_len m_range eT
  have GTwx : FnOk l.prog w K mg base (L2.CX l.prog w) 3 (He.ga K "two_parts") _ ["text"] (spTwx (He.ga K "InvalidText")) := ok_twx F18 m_len eT
  have GLox : FnOk l.prog w K mg base (L2.CX l.prog w) 4 (He.ga K "length_of") _ ["text"] (spLox (He.ga K "InvalidText")) := ok_lox F20 eT GTwx g18 F18.kp d18 ⟨_, h_MOST_MODULUS⟩ m_range m_str
  have GTpx : FnOk l.prog w K mg base (L2.CX l.prog w) 7 (He.ga K "templates_of") _ ["letters", "kind", "text"] (spTpx (He.ga K "InvalidText")) := ok_tpx F21 GTwx g18 F18.kp d18 GTt g16 F16.kp d16
  have GRsx : FnOk l.prog w K mg base (L2.CX l.prog w) 8 (He.ga K "read_simple") _ ["letters", "text", "at"] (spRsx (He.ga K "InvalidText")) := ok_rsx F22 m_len eT GRnx g15 F15.kp d15 GClx g17 F17.kp d17 GMo g19 F19.kp d19 GLox g20 F20.kp d20 GTpx g21 F21.kp d21 gD_HOLDING_WORDS ⟨_, _, D_HOLDING_WORDS⟩ kW
  have GLwx : FnOk l.prog w K mg base (L2.CX l.prog w) 3 (He.ga K "linking_word") _ ["text", "at"] (spLwx (He.ga K "InvalidText")) := ok_lwx F24 eT
  have GRcx : FnOk l.prog w K mg base (L2.CX l.prog w) 9 (He.ga K "read_condition") _ ["letters", "text", "at"] (spRcx (He.ga K "InvalidText")) := ok_rcx F25 m_len eT cBeg GRsx g22 F22.kp d22 GLwx g24 F24.kp d24
  have GPax : FnOk l.prog w K mg base (L2.CX l.prog w) 10 (He.ga K "parse_condition") _ ["letters", "text"] (spPax (He.ga K "InvalidText")) := ok_pax F26 m_len eT GRcx g25 F25.kp d25
  have GPbx : FnOk l.prog w K mg base (L2.CX l.prog w) 10 (He.ga K "parse_condition") _ ["letters", "text"] spPrs := ok_pbx F26 m_len eT cRdc
  have GPab : FnOk l.prog w K mg base (L2.CX l.prog w) 10 (He.ga K "parse_condition") _ ["letters", "text"] (spPab (He.ga K "InvalidText")) := ok_pab GPbx GPax
  have cDs : Cl l.prog w K mg base "_law_draws" 1 ["_law_script"] (spDraws K) (He.ga K "_law_draws") _ := ⟨ok_draws F28 m_int m_list, g28, F28.kp, d28⟩
  have cLt : Cl l.prog w K mg base "_law_letters" 3 ["_law_rng", "_law_most"] spLetters (He.ga K "_law_letters") _ := ⟨ok_letters F33 F29 d29 g29 F30 d30 g30 m_int m_len m_min m_range, g33, F33.kp, d33⟩
  have cIt : Cl l.prog w K mg base "_law_items" 3 ["_law_rng", "_law_signs", "_law_most"] spItems (He.ga K "_law_items") _ := ⟨ok_items F35 m_range cDr cTn cPk, g35, F35.kp, d35⟩
  have cLx : Cl l.prog w K mg base "_law_text" 1 ["_law_signs", "_law_items_here"] (spLx K) (He.ga K "_law_text") _ := ⟨ok_lx F36 m_len, g36, F36.kp, d36⟩
  have cPtn : Cl l.prog w K mg base "_law_pattern" 7 ["_law_rng", "_law_signs", "_law_deep"] (spPtn 5) (He.ga K "_law_pattern") _ := ⟨ptn_all F37 cDr cPk d37 g37 5, g37, F37.kp, d37⟩
  have cLef : Cl l.prog w K mg base "_law_leaf" 8 ["_law_rng", "_law_signs", "_law_most"] spLef (He.ga K "_law_leaf") _ := ⟨ok_lef F38 cDr cPtn cIt cLx, g38, F38.kp, d38⟩
  have cCon : Cl l.prog w K mg base "_law_condition" 13 ["_law_rng", "_law_signs", "_law_deep", "_law_most"] (spCon 5) (He.ga K "_law_condition") _ := ⟨con_all F39 cDr cPk cLef d39 g39 5, g39, F39.kp, d39⟩
  have cCtx : Cl l.prog w K mg base "_law_condition_text" 5 ["_law_condition_here"] (spCtx 5) (He.ga K "_law_condition_text") _ := ⟨ctx_all F40 d40 g40 m_str 5, g40, F40.kp, d40⟩
  exact ok_law lw_0 cw_0 (TB _ (List.Mem.head _)) rfl m_len m_range h_FillError h_Missing (ok_field F31) g31 F31.kp d31 F32 g32 d32 xm3 E3 GPab g26 F26.kp d26 cPrs cFmt cDs cLt cDr cPk cCon cCtx
end Own
open PySem PySem.W PySem.Calls PyProof.Rows
set_option maxHeartbeats 0 in
theorem PySem.Challenge.cw_ownfill_k39_texts_of_conditions_refused_holds : PySem.Challenge.rw_ownfill_k39_texts_of_conditions_refused.Holds := by
  w_on; o_law
  refine HandSHeadRun.head_any (r := Own.hR) (q := view Own.hR.prog [62]) (H := Own.hk) (ob := Own.hob) (M := 8000) (loose := Own.hnames) (d := HandSHeadRun.topDef Own.hR.prog 62) (kwd := []) (fun s => Own.obsD_eq s) (by kernel_rfl) (fun s => by kernel_rfl) Own.hrun (by kernel_rfl) (by kernel_rfl) (by kernel_rfl) (by rfl) (by first | assumption | decide +kernel) (by decide +kernel) ⟨rfl, rfl, rfl, rfl, rfl, by decide +kernel⟩ ?hw ?hc
  case hw => w_witness2
  case hc =>
    refine LamX.walk_ofTsE (l := PySem.Challenge.rw_ownfill_k39_texts_of_conditions_refused) (n := 63) (k := 58) (x := "_law_script") (CX := fun _ => L2.CX0) rfl (by decide) (by kernel_rfl) ⟨rfl, by decide, by decide⟩ ?F (fun _ _ _ _ _ h => h)
    intro w mg fa h Y G hmg0
    obtain ⟨K, KX, c⟩ := Y
    have hmg : mg ("law" : PySem.Str) = some (.ref fa) := by
      have e : (HandSHeadRun.topDef Own.hR.prog 62).name = ("law" : PySem.Str) := by kernel_rfl
      rw [← e]
      exact hmg0
    exact ⟨K, KX, Own.ends KX G hmg c⟩
